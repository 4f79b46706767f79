/- LadderRoutes: the law's walk. -/
import Derived.Test.YtneodiemgemhfaaGreatQQ
namespace Go.Proofs.YtneodiemgemhfaaGreat
open Go.RowKit Go.Lib

/-- What Insert does, by cases. -/
inductive Routed (l : Ld) (it : It) : Prop
  | top (h : l.ts ≤ it.t) (e : insertL l it = { l with top := l.top ++ [it], mv := l.mv + 1, cp := l.cp + 1 })
  | rung (k : Nat) (hk : k < l.rs.length) (h : it.t < l.ts) (h0 : ∀ j (hj : j < l.rs.length), j < k → it.t < curT l.rs[j]) (h1 : curT l.rs[k] ≤ it.t) (e : insertL l it = { l with rs := l.rs.set k (putR l.rs[k] it).1, mv := l.mv + 1, cp := l.cp + 2 + (k : Nat) })
  | bot (h : it.t < l.ts) (h0 : ∀ j (hj : j < l.rs.length), it.t < curT l.rs[j]) (e : insertL l it = { l with bot := plI l.bot it, mv := l.mv + 1, cp := l.cp + 1 + (l.rs.length : Nat) })
theorem fits_at {l : Ld} (hg : GoodL l) {t : Int} {k : Nat} (hk : k < l.rs.length) (hts : t < l.ts) (h0 : ∀ j (hj : j < l.rs.length), j < k → t < curT l.rs[j]) (h1 : curT l.rs[k] ≤ t) : Fits l.rs[k] t := by
  have hb := boundR_gt (l.rs.take k) l.ts t hts (fun r hr => by
    obtain ⟨j, hj, rfl⟩ := List.mem_iff_getElem.1 hr
    rw [List.length_take] at hj
    rw [List.getElem_take]
    exact h0 j (by omega) (by omega))
  have he := ((okRs_at _ _).1 hg.rs k hk).ends
  exact ⟨h1, by omega⟩
theorem len_small {l : LdR} (hf : Fit l) {k : Nat} (hk : k < l.rs.l.length) : lenL (l.rs.l[k]).rg.bs ≤ 100000 :=
  Nat.le_trans (len_rs (l := l.ld) (List.mem_map_of_mem (List.getElem_mem hk))) hf.len
theorem len_call {l : LdR} (hf : Fit l) {k : Nat} (hk : k < l.rs.l.length) (V : World) (hv : HasD V l) :
    Calls Tryz.prog 30 #[encR l.rs.l[k]] V fun e w' => e = .returned (.int .i64 (lenL (l.rs.l[k]).rg.bs : Nat)) ∧ Upd [] V w' :=
  RLen_has l.rs.l[k] V (hv.rg _ (List.getElem_mem hk)) (by rw [hf.h8 _ (List.getElem_mem hk)]; decide) (Nat.le_trans (len_small hf hk) (by decide))
theorem first_rung : ∀ (rs : List Rg) (t : Int), (∃ k, ∃ hk : k < rs.length, (∀ j (hj : j < rs.length), j < k → t < curT rs[j]) ∧ curT rs[k] ≤ t) ∨ ∀ j (hj : j < rs.length), t < curT rs[j]
  | [], t => .inr (fun j hj => by simp at hj)
  | r :: rs, t => by
    by_cases h : curT r ≤ t
    · exact .inl ⟨0, by simp, fun j _ hj => by omega, h⟩
    · have h' : t < curT r := by omega
      rcases first_rung rs t with ⟨k, hk, h0, h1⟩ | h0
      · refine .inl ⟨k + 1, by simpa using hk, fun j hj hjk => ?_, by simpa using h1⟩
        cases j with
        | zero => exact h'
        | succ j => exact h0 j (by simpa using hj) (by omega)
      · refine .inr fun j hj => ?_
        cases j with
        | zero => exact h'
        | succ j => exact h0 j (by simpa using hj)
theorem routed (l : Ld) (it : It) : Routed l it := by
  by_cases h : l.ts ≤ it.t
  · exact .top h (by rw [insertL, if_pos h])
  · rcases first_rung l.rs it.t with ⟨k, hk, h0, h1⟩ | h0
    · refine .rung k hk (by omega) h0 h1 ?_
      have hi := insR_at (rs := l.rs) (it := it) hk (fun j hj => by have := h0 j (by omega) hj; omega) h1
      rw [insertL, if_neg h, hi]
      simp only [if_true, Ld.mk.injEq, true_and]
      omega
    · refine .bot (by omega) h0 ?_
      have hi := insR_no (rs := l.rs) (it := it) (fun j hj => by have := h0 j hj; omega)
      rw [insertL, if_neg h, hi]
      simp
set_option maxRecDepth 100000 in
set_option maxHeartbeats 16000000 in
theorem Routes_any (la : Option Addr) (lc : Nat) (os : List Ox) (o : Ox) (w : World) (ho : Row LX w la os) (hoa : ∀ o ∈ os, U64 o.a) (hoo : U64 o.a) :
    Calls Tryz.prog 7 #[.slice la os.length lc, .agg #[.bool o.p, .int .u64 o.a, .bool o.n]] w fun e w' => e = .returned (.bool true) ∧ Upd [] w w' := by
  have HHD := Lib.hid head_true
  have HRO := Lib.hid ho
  have HMD := Lib.hid (fun V (hv : Row LX V la os) => LMade_has la lc os V hv hoa)
  have hre := made_reach os
  have HRE : Hid (ReachL (madeM os).seq (madeM os).l) := hre.reach
  have HLA := Lib.hid hre.last
  have HSQ := Lib.hid hre.seq
  unfold MadePost at HMD
  obtain ⟨L, hL⟩ : ∃ L, L = os.length := ⟨_, rfl⟩
  rw [← hL] at HMD ⊢
  have HUO := Lib.hid hoo
  obtain ⟨op, oa, on⟩ := o
  simp only at HUO ⊢
  generalize (madeM os).seq = seq at *
  generalize (madeM os).last = last at *
  generalize (madeM os).l = g at *
  clear ho hoa hL hre hoo
  obtain ⟨tx, htx⟩ : ∃ tx, tx = timeX ⟨op, oa, on⟩ last := ⟨_, rfl⟩
  have HTX : Hid (0 ≤ tx ∧ tx ≤ MaxT) := by rw [htx]; exact timeX_bd HLA.out
  have HTM := Lib.hid (fun V => time_has ⟨op, oa, on⟩ last V HUO.out HLA.out)
  rw [← htx] at HTM
  clear htx
  go_enter Tryz.func7, Tryz.ntmps7
  go_upto_region 1 with (fail)
  have hu := (Upd.refl [] w).alloc (.cells #[.bool op, .int .u64 oa, .bool on] 29)
  have b0 := heap_alloc1 w (.cells #[.bool op, .int .u64 oa, .bool on] 29)
  generalize w.alloc (.cells #[.bool op, .int .u64 oa, .bool on] 29) = W at *
  generalize w.heap.size = PO at *
  have HUW := Lib.hid hu; have HOP := Lib.hid b0
  clear hu b0
  go_upto_region 2 with (go_at_call 8; (with_reducible refine (HHD.out _).mono ?_); rintro e w0 ⟨rfl, hu0⟩)
  replace HOP := Lib.hid (hu0.at HOP.out (by simp))
  replace HUW := Lib.hid (HUW.out.thn hu0)
  clear hu0 HHD
  have HMDK := Lib.hid (HMD.out w0 (HRO.out.stay HUW.out))
  go_upto_region 3 with (go_at_call 10; (with_reducible refine HMDK.out.mono ?_); rintro e w1 ⟨l0, rfl, hB⟩; unfold encD cellsD)
  have hgeP : w.heap.size ≤ w1.heap.size := (HUW.out.thn hB.upd).size
  have hal := (Upd.refl [] w1).alloc (.cells #[.int .i64 l0.ts, .slice l0.top.ad l0.top.l.length l0.top.cap, .slice l0.rs.ad l0.rs.l.length l0.rs.cap, .slice l0.bot.ad l0.bot.l.length l0.bot.cap, .int .i64 l0.mv, .int .i64 l0.cp] 25)
  have hb : InBoxD w1.heap.size l0 (w1.alloc (.cells #[.int .i64 l0.ts, .slice l0.top.ad l0.top.l.length l0.top.cap, .slice l0.rs.ad l0.rs.l.length l0.rs.cap, .slice l0.bot.ad l0.bot.l.length l0.bot.cap, .int .i64 l0.mv, .int .i64 l0.cp] 25)) := ⟨heap_alloc1 _ _, hB.has.stay hal⟩
  have hu3 := hB.upd.thn hal
  have HE0 : Hid (l0.ld = g) := hB.eq
  generalize w1.alloc (.cells #[.int .i64 l0.ts, .slice l0.top.ad l0.top.l.length l0.top.cap, .slice l0.rs.ad l0.rs.l.length l0.rs.cap, .slice l0.bot.ad l0.bot.l.length l0.bot.cap, .int .i64 l0.mv, .int .i64 l0.cp] 25) = W1 at *
  generalize w1.heap.size = P0 at *
  have HB0 := Lib.hid hb
  replace HOP := Lib.hid (hu3.at HOP.out (by simp))
  replace HUW := Lib.hid (HUW.out.thn hu3)
  clear hal hb hu3 hB
  have HGEP := Lib.hid hgeP
  clear hgeP
  clear HMD HMDK HRO
  have hfit := HRE.out.fit (by have := HSQ.out; omega) HE0.out
  have HIN : Hid (∀ V, HasD V l0 → Calls Tryz.prog 19 #[encD l0, aggI ⟨tx, seq, 0⟩] V (GaveD V (insertL g ⟨tx, seq, 0⟩))) := fun V hv => by
    have := Insert_has l0 ⟨tx, seq, 0⟩ V hv hfit.1 hfit.2 (by rw [HE0.out]; exact HRE.out.fresh (Int.le_refl _))
    rw [HE0.out] at this; exact this
  have HIR : Hid (ReachL (seq + 1) (insertL g ⟨tx, seq, 0⟩)) := HRE.out.insert HTX.out.1 HTX.out.2 (Int.le_refl _) (by simp only; omega) (Nat.le_refl _)
  have HRT := Lib.hid (routed g ⟨tx, seq, 0⟩)
  have HFT := Lib.hid hfit
  unfold encD cellsD at HIN
  unfold aggI at HIN
  simp only at HIN
  generalize hga : insertL g ⟨tx, seq, 0⟩ = ga at HIN HIR
  have HGA := Lib.hid hga
  clear hfit hga
  obtain ⟨d0, d1, d2⟩ := cells3 HOP.out
  go_upto_region 4 with (go_at_call 11; (with_reducible refine (HTM.out _).mono ?_); rintro e w2 ⟨rfl, hu2⟩)
  clear d0 d1 d2
  have hal := (Upd.refl [] w2).alloc (.cells #[.int .i64 tx, .int .i64 (seq : Nat), .int .i64 0] 36)
  have hit := heap_alloc1 w2 (.cells #[.int .i64 tx, .int .i64 (seq : Nat), .int .i64 0] 36)
  have hu3 := hu2.thn hal
  generalize w2.alloc (.cells #[.int .i64 tx, .int .i64 (seq : Nat), .int .i64 0] 36) = W3 at *
  generalize w2.heap.size = PI at *
  have HIT := Lib.hid hit
  replace HB0 := Lib.hid (HB0.out.stay hu3)
  replace HOP := Lib.hid (hu3.at HOP.out (by simp))
  replace HUW := Lib.hid (HUW.out.thn hu3)
  clear hal hit hu2 hu3 HTM
  obtain ⟨c0, c1, c2, c3, c4, c5⟩ := cells6 (show W3.heap[P0]? = some (.cells #[.int .i64 l0.ts, .slice l0.top.ad l0.top.l.length l0.top.cap, .slice l0.rs.ad l0.rs.l.length l0.rs.cap, .slice l0.bot.ad l0.bot.l.length l0.bot.cap, .int .i64 l0.mv, .int .i64 l0.cp] 25 (0, 0)) from HB0.out.1)
  obtain ⟨d0, d1, d2⟩ := cells3 HIT.out
  have HINK := Lib.hid (HIN.out W3 HB0.out.2)
  go_upto_region 5 with (go_at_call 19; (with_reducible refine HINK.out.mono ?_); rintro e w4 ⟨l1, rfl, hB⟩; unfold encD cellsD)
  clear c0 c1 c2 c3 c4 c5
  clear d0 d1 d2
  clear HINK HIN
  have hal := (Upd.refl [] w4).alloc (.cells #[.int .i64 l1.ts, .slice l1.top.ad l1.top.l.length l1.top.cap, .slice l1.rs.ad l1.rs.l.length l1.rs.cap, .slice l1.bot.ad l1.bot.l.length l1.bot.cap, .int .i64 l1.mv, .int .i64 l1.cp] 25)
  have hb : InBoxD w4.heap.size l1 (w4.alloc (.cells #[.int .i64 l1.ts, .slice l1.top.ad l1.top.l.length l1.top.cap, .slice l1.rs.ad l1.rs.l.length l1.rs.cap, .slice l1.bot.ad l1.bot.l.length l1.bot.cap, .int .i64 l1.mv, .int .i64 l1.cp] 25)) := ⟨heap_alloc1 _ _, hB.has.stay hal⟩
  have hu3 := hB.upd.thn hal
  have HE1 : Hid (l1.ld = ga) := hB.eq
  generalize w4.alloc (.cells #[.int .i64 l1.ts, .slice l1.top.ad l1.top.l.length l1.top.cap, .slice l1.rs.ad l1.rs.l.length l1.rs.cap, .slice l1.bot.ad l1.bot.l.length l1.bot.cap, .int .i64 l1.mv, .int .i64 l1.cp] 25) = W4 at *
  generalize w4.heap.size = P1 at *
  have HB1 := Lib.hid hb
  replace HB0 := Lib.hid (HB0.out.stay hu3)
  replace HOP := Lib.hid (hu3.at HOP.out (by simp))
  replace HIT := Lib.hid (hu3.at HIT.out (by simp))
  replace HUW := Lib.hid (HUW.out.thn hu3)
  clear hal hb hu3 hB
  have hld := HE1.out
  rw [← HGA.out, ← HE0.out] at hld
  rw [← HE0.out] at HRT
  have HLD := Lib.hid hld
  clear hld
  have hmv0 := HFT.out.1.mv; have hcp0 := HFT.out.2; have hmv1 := HFT.out.1.good.mv0; have hcp1 := HFT.out.1.good.cp0
  simp only [LdR.ld] at hmv1 hcp1
  have HBN : Hid ((0 ≤ l0.mv ∧ l0.mv ≤ 100000000000) ∧ (0 ≤ l0.cp ∧ l0.cp ≤ 100000000000)) := ⟨⟨hmv1, hmv0⟩, hcp1, hcp0⟩
  have HSZ := Lib.hid HFT.out.1.sizes
  have HRS : Hid (l1.ts = l0.ts ∧ l1.rs.l.length = l0.rs.l.length ∧ l1.mv = l0.mv + 1) := by
    have h := HLD.out
    cases HRT.out with
    | top h1 e => rw [e] at h; simp only [LdR.ld, Ld.mk.injEq] at h; exact ⟨h.1, by have := congrArg List.length h.2.2.1; simpa using this, h.2.2.2.2.1⟩
    | rung k hk h1 h0 h2 e => rw [e] at h; simp only [LdR.ld, Ld.mk.injEq] at h; exact ⟨h.1, by have := congrArg List.length h.2.2.1; simpa using this, h.2.2.2.2.1⟩
    | bot h1 h0 e => rw [e] at h; simp only [LdR.ld, Ld.mk.injEq] at h; exact ⟨h.1, by have := congrArg List.length h.2.2.1; simpa using this, h.2.2.2.2.1⟩
  clear hmv0 hcp0 hmv1 hcp1
  obtain ⟨c0, c1, c2, c3, c4, c5⟩ := cells6 (show W4.heap[P0]? = some (.cells #[.int .i64 l0.ts, .slice l0.top.ad l0.top.l.length l0.top.cap, .slice l0.rs.ad l0.rs.l.length l0.rs.cap, .slice l0.bot.ad l0.bot.l.length l0.bot.cap, .int .i64 l0.mv, .int .i64 l0.cp] 25 (0, 0)) from HB0.out.1)
  obtain ⟨d0, d1, d2, d3, d4, d5⟩ := cells6 (show W4.heap[P1]? = some (.cells #[.int .i64 l1.ts, .slice l1.top.ad l1.top.l.length l1.top.cap, .slice l1.rs.ad l1.rs.l.length l1.rs.cap, .slice l1.bot.ad l1.bot.l.length l1.bot.cap, .int .i64 l1.mv, .int .i64 l1.cp] 25 (0, 0)) from HB1.out.1)
  obtain ⟨i0, i1, i2⟩ := cells3 HIT.out
  rw [HRS.out.1] at d0
  rw [HRS.out.2.1] at d2
  rw [HRS.out.2.2] at d4
  have hw1 : IntKind.i64.wrap (l0.mv + 1) = l0.mv + 1 := by have := HBN.out; rw [IntKind.wrap_i64]; omega
  go_upto_region 7 with (fail)
  have HUF := Lib.hid HUW.out
  have hr := HRT.out
  have hnv := HLD.out
  rcases hr with ⟨hts, e⟩ | ⟨k, hk, hts, h0, h1, e⟩ | ⟨hts, h0, e⟩
  · rw [e] at hnv
    simp only [LdR.ld, Ld.mk.injEq] at hnv hts
    obtain ⟨-, ht, -, hb, -, hcp⟩ := hnv
    clear e
    have hd : decide (l0.ts ≤ tx) = true := decide_eq_true hts
    obtain ⟨tn, htn⟩ : ∃ tn, tn = l0.top.l.length := ⟨_, rfl⟩
    obtain ⟨bn, hbn⟩ : ∃ bn, bn = l0.bot.l.length := ⟨_, rfl⟩
    have hl1 : l1.top.l.length = tn + 1 := by rw [ht, htn]; simp
    have hl2 : l1.bot.l.length = bn := by rw [hb, hbn]
    obtain ⟨b, off, hbo, x0, x1, x2⟩ := HB1.out.2.top.row.item tn (by omega)
    have hget : l1.top.l[tn]'(by omega) = ⟨tx, seq, 0⟩ := by simp only [ht]; rw [List.getElem_append_right (by omega)]; simp [htn]
    rw [hget] at x0 x1 x2
    simp only at x0 x1 x2
    have hcap := HB1.out.2.top.le
    rw [hl1] at hcap
    have hs := HSZ.out
    have HSI1 : Hid (∀ W', Upd [] W4 W' → Calls Tryz.prog 28 #[.slice (some ⟨b, off, none⟩) tn l1.top.cap, .slice l0.top.ad tn l0.top.cap] W' fun e w' => e = .returned (.bool true) ∧ Upd [] W' w') := fun W' hu => by
      have hr1 := (HB1.out.2.top.row.stay hu).part tn
      have htk : l1.top.l.take tn = l0.top.l := by rw [ht, htn]; exact List.take_left
      rw [htk, hbo] at hr1
      have := SameItems_has ⟨l0.top.l, some ⟨b, off, none⟩, l1.top.cap⟩ l0.top W' hr1 (HB0.out.2.top.row.stay hu) (by simp only; omega)
      simp only [decide_true, ← htn] at this
      exact this
    have HSI2 : Hid (∀ W', Upd [] W4 W' → Calls Tryz.prog 28 #[.slice l1.bot.ad bn l1.bot.cap, .slice l0.bot.ad bn l0.bot.cap] W' fun e w' => e = .returned (.bool true) ∧ Upd [] W' w') := fun W' hu => by
      have := SameItems_has l1.bot l0.bot W' (HB1.out.2.bot.row.stay hu) (HB0.out.2.bot.row.stay hu) (by rw [hb]; omega)
      rw [hl2, ← hbn] at this
      simp only [hb, decide_true] at this
      exact this
    rw [hbo, hl1] at d1
    rw [← htn] at c1
    rw [hl2] at d3
    rw [← hbn] at c3
    rw [hcp] at d5
    have hw2 : IntKind.i64.wrap ((tn : Int) + 1) = (tn : Int) + 1 := by rw [IntKind.wrap_i64]; omega
    have hw3 : IntKind.i64.wrap (l0.cp + 1) = l0.cp + 1 := by have := HBN.out; rw [IntKind.wrap_i64]; omega
    have hgd := guardItem
    have hq := eqlItem ⟨tx, (seq : Nat), 0⟩ ⟨tx, (seq : Nat), 0⟩
    simp only [decide_true] at hq
    have hz1 : (tn : Int) < (tn : Int) + 1 := by omega
    have hz2 : (tn : Int) ≤ (l1.top.cap : Int) := by omega
    have hz3 : (0 : Int) ≤ (tn : Int) := by omega
    have hz4 : tn < tn + 1 := by omega
    have hz5 : tn ≤ l1.top.cap := by omega
    clear ht hb hcp hl1 hl2 hget hcap hs htn hbn hbo hts HRT HLD HRS HFT HIR HGA
    go_upto_region 8 with (fail)
    have c0k := kept_at c0
    have c1k := kept_at c1
    have c2k := kept_at c2
    have c3k := kept_at c3
    have c4k := kept_at c4
    have c5k := kept_at c5
    have d0k := kept_at d0
    have d1k := kept_at d1
    have d2k := kept_at d2
    have d3k := kept_at d3
    have d4k := kept_at d4
    have d5k := kept_at d5
    have i0k := kept_at i0
    have i1k := kept_at i1
    have i2k := kept_at i2
    have x0k := kept_at x0
    have x1k := kept_at x1
    have x2k := kept_at x2
    refine wp_region_quiet_kept mixed (by kernel_rfl) ?_
    repeat (go_big_quiet_step (first | (go_at_call 28; with_reducible exact calls_kept (HSI1.out _ (Kept.up _))) | (go_at_call 28; with_reducible exact calls_kept (HSI2.out _ (Kept.up _)))))
    refine wpQuiet_nil ?_
    intro W5 hw'
    obtain ⟨⟨Wx, hu⟩, hw''⟩ := hw'
    simp only at hw''
    subst hw''
    go_wp2_with fail
    go_ret
    exact ⟨by first | rfl | simp, HUF.out.thn hu⟩
  · rw [e] at hnv
    have hkl : k < l0.rs.l.length := by simpa [LdR.ld] using hk
    have hfits := fits_at HFT.out.1.good hk hts h0 h1
    have hpl : lenL (putR l0.ld.rs[k] ⟨tx, seq, 0⟩).1.bs = lenL l0.ld.rs[k].bs + 1 := by rw [putR_yes hfits]; exact put_len (okRs_mem HFT.out.1.good.rs (List.getElem_mem hk)).1 hfits
    have hgk : l0.ld.rs[k] = (l0.rs.l[k]).rg := by simp [LdR.ld]
    rw [hgk] at hpl h1 hnv
    have h0' : ∀ j (hj : j < l0.rs.l.length), j < k → tx < curT (l0.rs.l[j]).rg := fun j hj hjk => by have := h0 j (by simpa [LdR.ld] using hj) hjk; simpa [LdR.ld] using this
    simp only [LdR.ld, Ld.mk.injEq] at hnv hts h1
    obtain ⟨-, ht, hrs, hb, -, hcp⟩ := hnv
    have hkl1 : k < l1.rs.l.length := by rw [HRS.out.2.1]; exact hkl
    have hr1 : (l1.rs.l[k]).rg = (putR (l0.rs.l[k]).rg ⟨tx, seq, 0⟩).1 := by
      have e1 : (l1.rs.l.map RgR.rg)[k]'(by simpa using hkl1) = ((l0.rs.l.map RgR.rg).set k (putR (l0.rs.l[k]).rg ⟨tx, seq, 0⟩).1)[k]'(by simpa using hkl) := by simp only [hrs]
      simpa using e1
    obtain ⟨lk, hlk⟩ : ∃ lk, lk = lenL (l0.rs.l[k]).rg.bs := ⟨_, rfl⟩
    have hpl1 : lenL (l1.rs.l[k]).rg.bs = lk + 1 := by rw [hr1, hlk]; exact hpl
    have hfit1 := (HIR.out.fit (by have := HSQ.out; omega) HE1.out).1
    obtain ⟨rk, hrk⟩ : ∃ rk, rk = l0.rs.l[k] := ⟨_, rfl⟩
    obtain ⟨rl, hrl⟩ : ∃ rl, rl = l1.rs.l[k] := ⟨_, rfl⟩
    have HLA1 : Hid (∀ V, Upd [] W4 V → Calls Tryz.prog 30 #[encR rl] V fun e w' => e = .returned (.int .i64 (lk + 1 : Nat)) ∧ Upd [] V w') := fun V hu => by
      have := len_call hfit1 hkl1 V (HB1.out.2.stay hu)
      rw [hpl1] at this
      rw [hrl]
      exact this
    have HLA0 : Hid (∀ V, Upd [] W4 V → Calls Tryz.prog 30 #[encR rk] V fun e w' => e = .returned (.int .i64 (lk : Nat)) ∧ Upd [] V w') := fun V hu => by
      have := len_call HFT.out.1 hkl V (HB0.out.2.stay hu)
      rw [hrk, hlk]
      exact this
    have hln : lk ≤ 100000 := by rw [hlk]; exact len_small HFT.out.1 hkl
    clear hlk
    have hd : decide (l0.ts ≤ tx) = false := decide_eq_false (by omega)
    obtain ⟨tn, htn⟩ : ∃ tn, tn = l0.top.l.length := ⟨_, rfl⟩
    obtain ⟨bn, hbn⟩ : ∃ bn, bn = l0.bot.l.length := ⟨_, rfl⟩
    have hl1 : l1.top.l.length = tn := by rw [ht, htn]
    have hl2 : l1.bot.l.length = bn := by rw [hb, hbn]
    have hs := HSZ.out
    have HSI1 : Hid (∀ W', Upd [] W4 W' → Calls Tryz.prog 28 #[.slice l1.top.ad tn l1.top.cap, .slice l0.top.ad tn l0.top.cap] W' fun e w' => e = .returned (.bool true) ∧ Upd [] W' w') := fun W' hu => by
      have := SameItems_has l1.top l0.top W' (HB1.out.2.top.row.stay hu) (HB0.out.2.top.row.stay hu) (by rw [ht]; omega)
      rw [hl1, ← htn] at this
      simp only [ht, decide_true] at this
      exact this
    have HSI2 : Hid (∀ W', Upd [] W4 W' → Calls Tryz.prog 28 #[.slice l1.bot.ad bn l1.bot.cap, .slice l0.bot.ad bn l0.bot.cap] W' fun e w' => e = .returned (.bool true) ∧ Upd [] W' w') := fun W' hu => by
      have := SameItems_has l1.bot l0.bot W' (HB1.out.2.bot.row.stay hu) (HB0.out.2.bot.row.stay hu) (by rw [hb]; omega)
      rw [hl2, ← hbn] at this
      simp only [hb, decide_true] at this
      exact this
    rw [hl1] at d1
    rw [← htn] at c1
    rw [hl2] at d3
    rw [← hbn] at c3
    rw [hcp] at d5
    obtain ⟨b, off, hbo, x0, x1, x2, x3⟩ := HB0.out.2.rs.row.rung k hkl
    obtain ⟨b', off', hbo', u0, u1, u2, u3⟩ := HB1.out.2.rs.row.rung k hkl1
    have HH0 := Lib.hid h0'
    have HKL := Lib.hid hkl
    replace x0 : W4.cell? ⟨b, off + k * 4, none⟩ = some (.int .i64 rk.fr) := by rw [hrk]; exact x0
    replace x1 : W4.cell? ⟨b, off + k * 4 + 1, none⟩ = some (.int .i64 rk.wd) := by rw [hrk]; exact x1
    replace x2 : W4.cell? ⟨b, off + k * 4 + 2, none⟩ = some (.int .i64 rk.cu) := by rw [hrk]; exact x2
    replace x3 : W4.cell? ⟨b, off + k * 4 + 3, none⟩ = some (.slice rk.bk.ad rk.bk.l.length rk.bk.cap) := by rw [hrk]; exact x3
    replace u0 : W4.cell? ⟨b', off' + k * 4, none⟩ = some (.int .i64 rl.fr) := by rw [hrl]; exact u0
    replace u1 : W4.cell? ⟨b', off' + k * 4 + 1, none⟩ = some (.int .i64 rl.wd) := by rw [hrl]; exact u1
    replace u2 : W4.cell? ⟨b', off' + k * 4 + 2, none⟩ = some (.int .i64 rl.cu) := by rw [hrl]; exact u2
    replace u3 : W4.cell? ⟨b', off' + k * 4 + 3, none⟩ = some (.slice rl.bk.ad rl.bk.l.length rl.bk.cap) := by rw [hrl]; exact u3
    have HH1 : Hid (curT rk.rg ≤ tx) := by show curT rk.rg ≤ tx; rw [hrk]; exact h1
    have HRKK : Hid (∀ hj : k < l0.rs.l.length, l0.rs.l[k] = rk) := fun _ => hrk.symm
    clear hrk hrl
    obtain ⟨kf, kw, kc, ⟨kl, ka, kp⟩⟩ := rk
    obtain ⟨jf, jw, jc, ⟨jl, ja, jp⟩⟩ := rl
    have HRL0 := Lib.hid (rfl : (0 : Nat) = 0)
    clear HRL0
    unfold encR at HLA1 HLA0
    simp only at HLA1 HLA0 x0 x1 x2 x3 u0 u1 u2 u3
    have HXK := Lib.hid (fun V (hu : Upd [] W4 V) => (⟨hu.cell x0 (by simp), hu.cell x1 (by simp), hu.cell x2 (by simp), hu.cell x3 (by simp), hu.cell u0 (by simp), hu.cell u1 (by simp), hu.cell u2 (by simp), hu.cell u3 (by simp)⟩ : V.cell? ⟨b, off + k * 4, none⟩ = some (.int .i64 kf) ∧ V.cell? ⟨b, off + k * 4 + 1, none⟩ = some (.int .i64 kw) ∧ V.cell? ⟨b, off + k * 4 + 2, none⟩ = some (.int .i64 kc) ∧ V.cell? ⟨b, off + k * 4 + 3, none⟩ = some (.slice ka kl.length kp) ∧ V.cell? ⟨b', off' + k * 4, none⟩ = some (.int .i64 jf) ∧ V.cell? ⟨b', off' + k * 4 + 1, none⟩ = some (.int .i64 jw) ∧ V.cell? ⟨b', off' + k * 4 + 2, none⟩ = some (.int .i64 jc) ∧ V.cell? ⟨b', off' + k * 4 + 3, none⟩ = some (.slice ja jl.length jp)))
    have HBO := Lib.hid hbo; have HBO1 := Lib.hid hbo'
    clear e ht hrs hb hcp hl1 hl2 hs htn hbn hbo hbo' hts h0 h1 h0' hkl hgk hfits hpl hpl1 hr1 hfit1 hk hkl1 x0 x1 x2 x3 u0 u1 u2 u3 HRT HLD HRS HIR HGA
    go_upto_region 9 with (fail)
    clear hd
    obtain ⟨n, hn⟩ : ∃ n, n = l0.rs.l.length := ⟨_, rfl⟩
    have HN := Lib.hid hn
    have hn4 : n ≤ 4 := by rw [hn]; exact HSZ.out.2.1
    have HCU := Lib.hid (fun (j : Nat) (hj : j < l0.rs.l.length) V => RCurrent_has l0.rs.l[j] V (okRs_mem HFT.out.1.good.rs (List.mem_map_of_mem (List.getElem_mem hj))).1)
    have HD0 : Hid (HasD W4 l0) := HB0.out.2; have HD1 : Hid (HasD W4 l1) := HB1.out.2
    rw [← hn] at c2 d2
    have HKP := Lib.hid (fun V (hu : Upd [] W4 V) => (⟨hu.cell c0 (by simp), hu.cell c1 (by simp), hu.cell c2 (by simp), hu.cell c3 (by simp), hu.cell c4 (by simp), hu.cell c5 (by simp), hu.cell d0 (by simp), hu.cell d1 (by simp), hu.cell d2 (by simp), hu.cell d3 (by simp), hu.cell d4 (by simp), hu.cell d5 (by simp), hu.cell i0 (by simp), hu.cell i1 (by simp), hu.cell i2 (by simp)⟩ : V.cell? ⟨P0, 0, none⟩ = some (.int .i64 l0.ts) ∧ V.cell? ⟨P0, 1, none⟩ = some (.slice l0.top.ad tn l0.top.cap) ∧ V.cell? ⟨P0, 2, none⟩ = some (.slice l0.rs.ad n l0.rs.cap) ∧ V.cell? ⟨P0, 3, none⟩ = some (.slice l0.bot.ad bn l0.bot.cap) ∧ V.cell? ⟨P0, 4, none⟩ = some (.int .i64 l0.mv) ∧ V.cell? ⟨P0, 5, none⟩ = some (.int .i64 l0.cp) ∧ V.cell? ⟨P1, 0, none⟩ = some (.int .i64 l0.ts) ∧ V.cell? ⟨P1, 1, none⟩ = some (.slice l1.top.ad tn l1.top.cap) ∧ V.cell? ⟨P1, 2, none⟩ = some (.slice l1.rs.ad n l1.rs.cap) ∧ V.cell? ⟨P1, 3, none⟩ = some (.slice l1.bot.ad bn l1.bot.cap) ∧ V.cell? ⟨P1, 4, none⟩ = some (.int .i64 (l0.mv + 1)) ∧ V.cell? ⟨P1, 5, none⟩ = some (.int .i64 (l0.cp + 2 + (k : Nat))) ∧ V.cell? ⟨PI, 0, none⟩ = some (.int .i64 tx) ∧ V.cell? ⟨PI, 1, none⟩ = some (.int .i64 (seq : Nat)) ∧ V.cell? ⟨PI, 2, none⟩ = some (.int .i64 0)))
    clear hn c0 c1 c2 c3 c4 c5 d0 d1 d2 d3 d4 d5 i0 i1 i2
    go_wp2_with fail
    go_loopg [11] n (fun gk vi wr => ∃ j : Nat, vi = .int .i64 j ∧ j + gk = n ∧ j ≤ k ∧ Hid (Upd [] W4 wr))
    case atStart => exact ⟨0, rfl, by omega, Nat.zero_le _, Lib.hid (Upd.refl _ _)⟩
    case round =>
      obtain ⟨j, rfl, hjg, hjk, HUR⟩ := hrel
      obtain ⟨c0, c1, c2, c3, c4, c5, d0, d1, d2, d3, d4, d5, i0, i1, i2⟩ := HKP.out wr HUR.out
      by_cases hjk2 : j < k
      · have hlt : (j : Int) < (n : Int) := by have := HN.out; have := HKL.out; omega
        have hltz : (j : Int) < (n : Int) := by omega
        have hj1 : j < l0.rs.l.length := by have := HN.out; omega
        obtain ⟨b, off, hbo, x0, x1, x2, x3⟩ := (HD0.out.stay HUR.out).rs.row.rung j hj1
        have HBO := Lib.hid hbo
        rw [hbo] at c2
        clear hbo
        have hcu := HCU.out j hj1
        have hgt := HH0.out j hj1 hjk2
        obtain ⟨rj, hrj⟩ : ∃ rj, rj = l0.rs.l[j] := ⟨_, rfl⟩
        rw [← hrj] at hcu hgt x0 x1 x2 x3
        clear hrj
        obtain ⟨fr, wd, cu, bk⟩ := rj
        unfold encR at hcu
        simp only at hcu x0 x1 x2 x3
        generalize curT (⟨fr, wd, cu, bk⟩ : RgR).rg = ct at *
        have HCK := Lib.hid hcu
        clear hcu
        have hdc : decide (ct ≤ tx) = false := decide_eq_false (by omega)
        have hnc : ¬ ct ≤ tx := by omega
        go_upto_region 12 with (fail)
        have c2k := kept_at c2
        have i0k := kept_at i0
        have x0k := kept_at x0
        have x1k := kept_at x1
        have x2k := kept_at x2
        have x3k := kept_at x3
        refine wp_region_quiet_kept mixed (by kernel_rfl) ?_
        repeat (go_big_quiet_step (first | (go_at_call 29; exact calls_kept (HCK.out _))))
        refine wpQuiet_nil ?_
        intro W5 hw'
        obtain ⟨⟨Wx, hu⟩, hw''⟩ := hw'
        simp only at hw''
        subst hw''
        have HU5 := Lib.hid (HUR.out.thn hu)
        clear hu c0 c1 c2 c3 c4 c5 d0 d1 d2 d3 d4 d5 i0 i1 i2 x0 x1 x2 x3 c2k i0k x0k x1k x2k x3k
        go_wp2_with fail
        go_roundg (n - (j + 1))
        case measure => omega
        case rel => exact ⟨j + 1, by go_num, by omega, by omega, HU5⟩
      · obtain rfl : k = j := by omega
        have hlt : (k : Int) < (n : Int) := by have := HN.out; have := HKL.out; omega
        have hj1 : k < l0.rs.l.length := HKL.out
        obtain ⟨x0, x1, x2, x3, u0, u1, u2, u3⟩ := HXK.out wr HUR.out
        rw [HBO.out] at c2
        rw [HBO1.out] at d2
        have hcu := HCU.out k hj1
        rw [HRKK.out hj1] at hcu
        unfold encR at hcu
        simp only at hcu
        have hle := HH1.out
        generalize curT (⟨kf, kw, kc, ⟨kl, ka, kp⟩⟩ : RgR).rg = ct at *
        have HCK := Lib.hid hcu
        clear hcu
        have hdc : decide (ct ≤ tx) = true := decide_eq_true hle
        go_upto_region 12 with (fail)
        have c2k := kept_at c2
        have i0k := kept_at i0
        have x0k := kept_at x0
        have x1k := kept_at x1
        have x2k := kept_at x2
        have x3k := kept_at x3
        refine wp_region_quiet_kept mixed (by kernel_rfl) ?_
        repeat (go_big_quiet_step (first | (go_at_call 29; exact calls_kept (HCK.out _))))
        refine wpQuiet_nil ?_
        intro W5 hw'
        obtain ⟨⟨Wx, hu⟩, hw''⟩ := hw'
        simp only at hw''
        subst hw''
        have HU5 := Lib.hid (HUR.out.thn hu)
        clear hu c0 c1 c2 c3 c4 c5 d0 d1 d2 d3 d4 d5 i0 i1 i2 x0 x1 x2 x3 u0 u1 u2 u3 c2k i0k x0k x1k x2k x3k
        obtain ⟨c0, c1, c2, c3, c4, c5, d0, d1, d2, d3, d4, d5, i0, i1, i2⟩ := HKP.out W5 HU5.out
        obtain ⟨x0, x1, x2, x3, u0, u1, u2, u3⟩ := HXK.out W5 HU5.out
        rw [HBO.out] at c2
        rw [HBO1.out] at d2
        have HL1 := Lib.hid (fun V (hu : Upd [] W5 V) => HLA1.out V (HU5.out.thn hu)); have HL0 := Lib.hid (fun V (hu : Upd [] W5 V) => HLA0.out V (HU5.out.thn hu)); have HS1 := Lib.hid (fun V (hu : Upd [] W5 V) => HSI1.out V (HU5.out.thn hu)); have HS2 := Lib.hid (fun V (hu : Upd [] W5 V) => HSI2.out V (HU5.out.thn hu))
        have hw4 : IntKind.i64.wrap ((lk : Int) + 1) = (lk : Int) + 1 := by rw [IntKind.wrap_i64]; omega
        have hw5 : IntKind.i64.wrap (l0.cp + 2) = l0.cp + 2 := by have := HBN.out; rw [IntKind.wrap_i64]; omega
        have hw6 : IntKind.i64.wrap (l0.cp + 2 + (k : Int)) = l0.cp + 2 + (k : Int) := by have := HBN.out; have := HKL.out; have := HSZ.out; rw [IntKind.wrap_i64]; omega
        go_upto_region 13 with (fail)
        clear hle hdc
        have c0k := kept_at c0
        have c1k := kept_at c1
        have c2k := kept_at c2
        have c3k := kept_at c3
        have c4k := kept_at c4
        have c5k := kept_at c5
        have d0k := kept_at d0
        have d1k := kept_at d1
        have d2k := kept_at d2
        have d3k := kept_at d3
        have d4k := kept_at d4
        have d5k := kept_at d5
        have i0k := kept_at i0
        have i1k := kept_at i1
        have i2k := kept_at i2
        have x0k := kept_at x0
        have x1k := kept_at x1
        have x2k := kept_at x2
        have x3k := kept_at x3
        have u0k := kept_at u0
        have u1k := kept_at u1
        have u2k := kept_at u2
        have u3k := kept_at u3
        refine wp_region_quiet_kept mixed (by kernel_rfl) ?_
        repeat (go_big_quiet_step (first | (go_at_call 30; with_reducible exact calls_kept (HL1.out _ (Kept.up _))) | (go_at_call 30; with_reducible exact calls_kept (HL0.out _ (Kept.up _))) | (go_at_call 28; with_reducible exact calls_kept (HS1.out _ (Kept.up _))) | (go_at_call 28; with_reducible exact calls_kept (HS2.out _ (Kept.up _)))))
        refine wpQuiet_nil ?_
        intro W6 hw'
        obtain ⟨⟨Wx, hu⟩, hw''⟩ := hw'
        simp only at hw''
        subst hw''
        go_wp2_with fail
        go_ret
        exact ⟨by first | rfl | simp, (HUF.out.thn HU5.out).thn hu⟩
  · rw [e] at hnv
    have h0' : ∀ j (hj : j < l0.rs.l.length), tx < curT (l0.rs.l[j]).rg := fun j hj => by have := h0 j (by simpa [LdR.ld] using hj); simpa [LdR.ld] using this
    simp only [LdR.ld, Ld.mk.injEq] at hnv hts
    obtain ⟨-, ht, -, hb, -, hcp⟩ := hnv
    have hd : decide (l0.ts ≤ tx) = false := decide_eq_false (by omega)
    obtain ⟨tn, htn⟩ : ∃ tn, tn = l0.top.l.length := ⟨_, rfl⟩
    obtain ⟨bn, hbn⟩ : ∃ bn, bn = l0.bot.l.length := ⟨_, rfl⟩
    have hl1 : l1.top.l.length = tn := by rw [ht, htn]
    have hl2 : l1.bot.l.length = bn + 1 := by rw [hb, plI_length, hbn]
    have hs := HSZ.out
    have HSI1 : Hid (∀ W', Upd [] W4 W' → Calls Tryz.prog 28 #[.slice l1.top.ad tn l1.top.cap, .slice l0.top.ad tn l0.top.cap] W' fun e w' => e = .returned (.bool true) ∧ Upd [] W' w') := fun W' hu => by
      have := SameItems_has l1.top l0.top W' (HB1.out.2.top.row.stay hu) (HB0.out.2.top.row.stay hu) (by rw [ht]; omega)
      rw [hl1, ← htn] at this
      simp only [ht, decide_true] at this
      exact this
    have hcp2 : l1.cp = l0.cp + 1 + (l0.rs.l.length : Nat) := by rw [hcp]; simp
    rw [hl1] at d1
    rw [← htn] at c1
    rw [hl2] at d3
    rw [← hbn] at c3
    rw [hcp2] at d5
    have hbs : bn ≤ 100000 := by omega
    have HH0 := Lib.hid h0'
    clear e ht hb hcp hcp2 hl1 hl2 hs htn hbn hts h0 h0' HRT HLD HRS HIR HGA
    go_upto_region 9 with (fail)
    clear hd
    obtain ⟨n, hn⟩ : ∃ n, n = l0.rs.l.length := ⟨_, rfl⟩
    have HN := Lib.hid hn
    have hn4 : n ≤ 4 := by rw [hn]; exact HSZ.out.2.1
    have HCU := Lib.hid (fun (j : Nat) (hj : j < l0.rs.l.length) V => RCurrent_has l0.rs.l[j] V (okRs_mem HFT.out.1.good.rs (List.mem_map_of_mem (List.getElem_mem hj))).1)
    have HD0 : Hid (HasD W4 l0) := HB0.out.2; have HD1 : Hid (HasD W4 l1) := HB1.out.2
    rw [← hn] at c2 d2 d5
    have HKP := Lib.hid (fun V (hu : Upd [] W4 V) => (⟨hu.cell c0 (by simp), hu.cell c1 (by simp), hu.cell c2 (by simp), hu.cell c3 (by simp), hu.cell c4 (by simp), hu.cell c5 (by simp), hu.cell d0 (by simp), hu.cell d1 (by simp), hu.cell d2 (by simp), hu.cell d3 (by simp), hu.cell d4 (by simp), hu.cell d5 (by simp), hu.cell i0 (by simp), hu.cell i1 (by simp), hu.cell i2 (by simp)⟩ : V.cell? ⟨P0, 0, none⟩ = some (.int .i64 l0.ts) ∧ V.cell? ⟨P0, 1, none⟩ = some (.slice l0.top.ad tn l0.top.cap) ∧ V.cell? ⟨P0, 2, none⟩ = some (.slice l0.rs.ad n l0.rs.cap) ∧ V.cell? ⟨P0, 3, none⟩ = some (.slice l0.bot.ad bn l0.bot.cap) ∧ V.cell? ⟨P0, 4, none⟩ = some (.int .i64 l0.mv) ∧ V.cell? ⟨P0, 5, none⟩ = some (.int .i64 l0.cp) ∧ V.cell? ⟨P1, 0, none⟩ = some (.int .i64 l0.ts) ∧ V.cell? ⟨P1, 1, none⟩ = some (.slice l1.top.ad tn l1.top.cap) ∧ V.cell? ⟨P1, 2, none⟩ = some (.slice l1.rs.ad n l1.rs.cap) ∧ V.cell? ⟨P1, 3, none⟩ = some (.slice l1.bot.ad (bn + 1) l1.bot.cap) ∧ V.cell? ⟨P1, 4, none⟩ = some (.int .i64 (l0.mv + 1)) ∧ V.cell? ⟨P1, 5, none⟩ = some (.int .i64 (l0.cp + 1 + (n : Nat))) ∧ V.cell? ⟨PI, 0, none⟩ = some (.int .i64 tx) ∧ V.cell? ⟨PI, 1, none⟩ = some (.int .i64 (seq : Nat)) ∧ V.cell? ⟨PI, 2, none⟩ = some (.int .i64 0)))
    clear hn c0 c1 c2 c3 c4 c5 d0 d1 d2 d3 d4 d5 i0 i1 i2
    go_wp2_with fail
    go_loopg [11] n (fun gk vi wr => ∃ j : Nat, vi = .int .i64 j ∧ j + gk = n ∧ Hid (Upd [] W4 wr))
    case atStart => exact ⟨0, rfl, by omega, Lib.hid (Upd.refl _ _)⟩
    case round =>
      obtain ⟨j, rfl, hjg, HUR⟩ := hrel
      obtain ⟨c0, c1, c2, c3, c4, c5, d0, d1, d2, d3, d4, d5, i0, i1, i2⟩ := HKP.out wr HUR.out
      by_cases hlt : j < n
      · have hlt' : (j : Int) < (n : Int) := by omega
        have hltz : (j : Int) < (n : Int) := by omega
        have hj1 : j < l0.rs.l.length := by have := HN.out; omega
        obtain ⟨b, off, hbo, x0, x1, x2, x3⟩ := (HD0.out.stay HUR.out).rs.row.rung j hj1
        have HBO := Lib.hid hbo
        rw [hbo] at c2
        clear hbo
        have hcu := HCU.out j hj1
        have hgt := HH0.out j hj1
        obtain ⟨rj, hrj⟩ : ∃ rj, rj = l0.rs.l[j] := ⟨_, rfl⟩
        rw [← hrj] at hcu hgt x0 x1 x2 x3
        clear hrj
        obtain ⟨fr, wd, cu, bk⟩ := rj
        unfold encR at hcu
        simp only at hcu x0 x1 x2 x3
        generalize curT (⟨fr, wd, cu, bk⟩ : RgR).rg = ct at *
        have HCK := Lib.hid hcu
        clear hcu
        have hdc : decide (ct ≤ tx) = false := decide_eq_false (by omega)
        have hnc : ¬ ct ≤ tx := by omega
        go_upto_region 12 with (fail)
        have c2k := kept_at c2
        have i0k := kept_at i0
        have x0k := kept_at x0
        have x1k := kept_at x1
        have x2k := kept_at x2
        have x3k := kept_at x3
        refine wp_region_quiet_kept mixed (by kernel_rfl) ?_
        repeat (go_big_quiet_step (first | (go_at_call 29; exact calls_kept (HCK.out _))))
        refine wpQuiet_nil ?_
        intro W5 hw'
        obtain ⟨⟨Wx, hu⟩, hw''⟩ := hw'
        simp only at hw''
        subst hw''
        have HU5 := Lib.hid (HUR.out.thn hu)
        clear hu c0 c1 c2 c3 c4 c5 d0 d1 d2 d3 d4 d5 i0 i1 i2 x0 x1 x2 x3 c2k i0k x0k x1k x2k x3k
        go_wp2_with fail
        go_roundg (n - (j + 1))
        case measure => omega
        case rel => exact ⟨j + 1, by go_num, by omega, HU5⟩
      · obtain rfl : n = j := by omega
        have HS1K := Lib.hid (HSI1.out wr HUR.out)
        have hw4 : IntKind.i64.wrap ((bn : Int) + 1) = (bn : Int) + 1 := by rw [IntKind.wrap_i64]; omega
        have hw5 : IntKind.i64.wrap (l0.cp + 1) = l0.cp + 1 := by have := HBN.out; rw [IntKind.wrap_i64]; omega
        have hw6 : IntKind.i64.wrap (l0.cp + 1 + (n : Int)) = l0.cp + 1 + (n : Int) := by have := HBN.out; rw [IntKind.wrap_i64]; omega
        go_wp2_with (go_at_call 28; (with_reducible refine HS1K.out.mono ?_); rintro e w6 ⟨rfl, hu6⟩; obtain ⟨c0, c1, c2, c3, c4, c5, d0, d1, d2, d3, d4, d5, i0, i1, i2⟩ := HKP.out w6 (HUR.out.thn hu6))
        go_ret
        exact ⟨by first | rfl | simp, HUF.out.thn (HUR.out.thn hu6)⟩
end Go.Proofs.YtneodiemgemhfaaGreat
