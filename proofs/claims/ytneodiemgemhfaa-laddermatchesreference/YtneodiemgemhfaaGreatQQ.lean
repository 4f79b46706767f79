/- LadderInvariant: the law's walk. -/
import Derived.Test.YtneodiemgemhfaaGreatQP
import Derived.Test.YtneodiemgemhfaaGreatRS
namespace Go.Proofs.YtneodiemgemhfaaGreat
open Go.RowKit Go.Lib

section
variable {P : Program} {ops : Array Oper} {Q : Exit → Act → World → Prop} {md : Region.Mode} {S : World → Prop} {k : Nat}
theorem anyK_two {i j fuel : Nat} {listed : Array Bool} {a : Act} {w : World} (hr : Region.ready md ops listed = [i, j])
    (h1 : wpOp P ops Q i (fun a' w' => (i = k ∨ S w') ∧ wpAnyK P md ops Q S k fuel (listed.setIfInBounds i true) a' w') a w)
    (h2 : wpOp P ops Q j (fun a' w' => (j = k ∨ S w') ∧ wpAnyK P md ops Q S k fuel (listed.setIfInBounds j true) a' w') a w) : wpAnyK P md ops Q S k (fuel + 1) listed a w := by
  refine ⟨fun e => by rw [hr] at e; simp at e, fun x hx => ?_⟩
  rw [hr] at hx
  rcases (by simpa using hx : x = i ∨ x = j) with rfl | rfl
  · exact h1
  · exact h2
theorem opd_value {i : Nat} {o : Oper} {d : Option Tmp} {a : Act} {w w' : World} {v : Value} {K : Act → World → Prop} (ho : ops[i]? = some o) (hd : o.dst = d) (hw : Region.wanted o (yielded ops a.tmps) = true) (hr : (execOp a.eval o).run P w = .ok (.value v) w') (h : K (a.put d v) w') : wpOp P ops Q i K a w := by
  subst hd; exact op_value ho hw hr h
theorem opd_call {i : Nat} {o : Oper} {d : Option Tmp} {a : Act} {w : World} {f : FuncId} {args : Array Value} {R : Value → World → Prop} {K : Act → World → Prop} (ho : ops[i]? = some o) (hd : o.dst = d) (hw : Region.wanted o (yielded ops a.tmps) = true) (hr : (execOp a.eval o).run P w = .ok (.enter f args) w)
    (hc : Calls P f args w fun e w' => ∃ v, e = .returned v ∧ R v w') (h : ∀ v w', R v w' → K (a.put d v) w') : wpOp P ops Q i K a w := by
  subst hd; exact op_call ho hw hr hc h
end
theorem ReachL.peek {k : Nat} {l : Ld} (h : ReachL k l) : ReachL k (refillL l) ∧ lenD (refillL l) = lenD l := by
  have hr := refill_ok h.good
  have hl := hr.its.length_eq
  rw [← lenD_its, ← lenD_its] at hl
  have e1 := h.len; have e2 := h.pot; have e3 := h.cp; have e4 := hr.pot; have e5 := hr.cp
  exact ⟨⟨hr.good, fun x hx => h.q x (hr.its.subset hx), by omega, by omega, by omega⟩, hl⟩
/-- Peek and Pop of a good queue. -/
structure PP (l : Ld) (i : It) (ok : Bool) (gp : Ld) : Prop where
  pk : peekL l = (refillL l, i, ok)
  po : popL l = (gp, i, ok)
  some : ok = decide (0 < lenD l)
  len : lenD gp = lenD l - 1
theorem pp_of {l : Ld} (h : GoodL l) : ∃ i ok gp, PP l i ok gp := by
  have hr := refill_ok h
  have hl := hr.its.length_eq
  rw [← lenD_its, ← lenD_its] at hl
  cases pop_ok h with
  | no e p hb =>
    have hb0 : (refillL l).bot = [] := by
      cases hc : (refillL l).bot with
      | nil => rfl
      | cons x xs => rw [(peek_yes hc).2] at p; simp at p
    have h0 : lenD l = 0 := by
      rw [← hl, lenD_its, empty_bot hr.fin hb0]; rfl
    exact ⟨zeroI, false, refillL l, (peek_no hb0).1, (peek_no hb0).2, by simp [h0], by omega⟩
  | yes x l' p _ good its least hpot mv cp bot =>
    have hll := its.length_eq
    rw [List.length_cons, ← lenD_its, ← lenD_its] at hll
    refine ⟨x, true, l', ?_, p, by simp; omega, by omega⟩
    cases hc : (refillL l).bot with
    | nil => rw [(peek_no hc).2] at p; simp at p
    | cons y ys => rw [(peek_yes hc).2] at p; rw [(peek_yes hc).1]; simp only [Prod.mk.injEq] at p ⊢; exact ⟨trivial, p.2⟩
theorem ReachL.calls {k : Nat} {g : Ld} (h : ReachL k g) (hk : k ≤ 10000) {l : LdR} (he : l.ld = g) : (∀ V, HasD V l → Calls Tryz.prog 21 #[encD l] V fun e w' => e = .returned (.int .i64 (lenD g : Nat)) ∧ Upd [] V w') ∧ (∀ V, HasD V l → Calls Tryz.prog 16 #[encD l] V fun e w' => e = .returned (.bool true) ∧ Upd [] V w') := by
  have hf := h.fit hk he
  subst he
  refine ⟨fun V hv => ?_, fun V hv => ?_⟩
  · have h1 := hf.1.sizes
    exact PLen_has l V hv (by omega) hf.1.len (fun r hr => by rw [hf.1.h8 r hr]; decide) (fun r hr s hs => by have := hf.1.its r hr s hs; omega)
  · have := LValid_has l V hv hf.1.sz
    rw [validD_yes.2 hf.1.good] at this
    exact this
theorem insert_len {l : Ld} (h : GoodL l) {it : It} (h1 : 0 ≤ it.t) (h2 : it.t ≤ MaxT) : lenD (insertL l it) = lenD l + 1 := by
  have := (insert_its h h1 h2).length_eq
  rw [List.length_cons, ← lenD_its, ← lenD_its] at this
  exact this
set_option maxRecDepth 100000 in
set_option maxHeartbeats 16000000 in
theorem Invariant_any (la : Option Addr) (lc : Nat) (os : List Ox) (o : Ox) (w : World) (ho : Row LX w la os) (hoa : ∀ o ∈ os, U64 o.a) (hoo : U64 o.a) :
    Calls Tryz.prog 4 #[.slice la os.length lc, .agg #[.bool o.p, .int .u64 o.a, .bool o.n]] w fun e w' => e = .returned (.bool true) ∧ Upd [] w w' := by
  have HHD := Lib.hid head_true
  have HRO := Lib.hid ho
  have HMD := Lib.hid (fun V (hv : Row LX V la os) => LMade_has la lc os V hv hoa)
  have hre := made_reach os
  have HRE : Hid (ReachL (madeM os).seq (madeM os).l) := hre.reach
  have HLA := Lib.hid hre.last
  have HSQ := Lib.hid hre.seq
  unfold MadePost at HMD
  obtain ⟨L, hL⟩ : ∃ L, L = os.length := ⟨_, rfl⟩
  rw [← hL] at HMD ⊢
  have HUO := Lib.hid hoo
  obtain ⟨op, oa, on⟩ := o
  simp only at HUO ⊢
  generalize (madeM os).seq = seq at *
  generalize (madeM os).last = last at *
  generalize (madeM os).l = g at *
  clear ho hoa hL hre hoo
  obtain ⟨tx, htx⟩ : ∃ tx, tx = timeX ⟨op, oa, on⟩ last := ⟨_, rfl⟩
  have HTX : Hid (0 ≤ tx ∧ tx ≤ MaxT) := by rw [htx]; exact timeX_bd HLA.out
  have HTM := Lib.hid (fun V => time_has ⟨op, oa, on⟩ last V HUO.out HLA.out)
  rw [← htx] at HTM
  clear htx
  obtain ⟨⟨i0, i1, i2⟩, ok, gp, hpp⟩ := pp_of HRE.out.good
  have HPP := Lib.hid hpp
  clear hpp
  have HSK := Lib.hid HRE.out.peek
  go_enter Tryz.func4, Tryz.ntmps4
  go_upto_region 1 with (fail)
  have hu := (Upd.refl [] w).alloc (.cells #[.bool op, .int .u64 oa, .bool on] 29)
  have b0 := heap_alloc1 w (.cells #[.bool op, .int .u64 oa, .bool on] 29)
  generalize w.alloc (.cells #[.bool op, .int .u64 oa, .bool on] 29) = W at *
  generalize w.heap.size = PO at *
  have HUW := Lib.hid hu; have HOP := Lib.hid b0
  clear hu b0
  go_upto_region 2 with (go_at_call 8; (with_reducible refine (HHD.out _).mono ?_); rintro e w0 ⟨rfl, hu0⟩)
  replace HOP := Lib.hid (hu0.at HOP.out (by simp))
  replace HUW := Lib.hid (HUW.out.thn hu0)
  clear hu0 HHD
  have HMDK := Lib.hid (HMD.out w0 (HRO.out.stay HUW.out))
  go_upto_region 3 with (go_at_call 10; (with_reducible refine HMDK.out.mono ?_); rintro e w1 ⟨l0, rfl, hB⟩; unfold encD cellsD)
  have hal := (Upd.refl [] w1).alloc (.cells #[.int .i64 l0.ts, .slice l0.top.ad l0.top.l.length l0.top.cap, .slice l0.rs.ad l0.rs.l.length l0.rs.cap, .slice l0.bot.ad l0.bot.l.length l0.bot.cap, .int .i64 l0.mv, .int .i64 l0.cp] 25)
  have hb : InBoxD w1.heap.size l0 (w1.alloc (.cells #[.int .i64 l0.ts, .slice l0.top.ad l0.top.l.length l0.top.cap, .slice l0.rs.ad l0.rs.l.length l0.rs.cap, .slice l0.bot.ad l0.bot.l.length l0.bot.cap, .int .i64 l0.mv, .int .i64 l0.cp] 25)) := ⟨heap_alloc1 _ _, hB.has.stay hal⟩
  have hu3 := hB.upd.thn hal
  have HE0 : Hid (l0.ld = g) := hB.eq
  generalize w1.alloc (.cells #[.int .i64 l0.ts, .slice l0.top.ad l0.top.l.length l0.top.cap, .slice l0.rs.ad l0.rs.l.length l0.rs.cap, .slice l0.bot.ad l0.bot.l.length l0.bot.cap, .int .i64 l0.mv, .int .i64 l0.cp] 25) = W1 at *
  generalize w1.heap.size = P0 at *
  have HB0 := Lib.hid hb
  replace HOP := Lib.hid (hu3.at HOP.out (by simp))
  replace HUW := Lib.hid (HUW.out.thn hu3)
  clear hal hb hu3 hB
  clear HMD HMDK HRO
  have hfit := HRE.out.fit (by have := HSQ.out; omega) HE0.out
  have hcl := HRE.out.calls (by have := HSQ.out; omega) HE0.out
  have HLN := Lib.hid hcl.1; have HVL := Lib.hid hcl.2
  have HIN : Hid (∀ V, HasD V l0 → Calls Tryz.prog 19 #[encD l0, aggI ⟨tx, seq, 0⟩] V (GaveD V (insertL g ⟨tx, seq, 0⟩))) := fun V hv => by
    have := Insert_has l0 ⟨tx, seq, 0⟩ V hv hfit.1 hfit.2 (by rw [HE0.out]; exact HRE.out.fresh (Int.le_refl _))
    rw [HE0.out] at this; exact this
  have HPK : Hid (∀ V, HasD V l0 → Calls Tryz.prog 12 #[encD l0] V (Peeked V (refillL g, ⟨i0, i1, i2⟩, ok))) := fun V hv => by
    have := Peek_has l0 V hv hfit.1
    rw [HE0.out, HPP.out.pk] at this; exact this
  have HPO : Hid (∀ V, HasD V l0 → Calls Tryz.prog 14 #[encD l0] V (Peeked V (gp, ⟨i0, i1, i2⟩, ok))) := fun V hv => by
    have := Pop_has l0 V hv hfit.1
    rw [HE0.out, HPP.out.po] at this; exact this
  have HIR : Hid (ReachL (seq + 1) (insertL g ⟨tx, seq, 0⟩) ∧ lenD (insertL g ⟨tx, seq, 0⟩) = lenD g + 1) := ⟨HRE.out.insert HTX.out.1 HTX.out.2 (Int.le_refl _) (by simp only; omega) (Nat.le_refl _), insert_len HRE.out.good HTX.out.1 HTX.out.2⟩
  have HPR : Hid (ReachL seq gp) := by have := HRE.out.pop; rw [HPP.out.po] at this; exact this
  have hl0 := HRE.out.len
  have hs0 := HSQ.out
  have HOKN := Lib.hid HPP.out.some; have HGPN := Lib.hid HPP.out.len; have HSKN := Lib.hid HSK.out.2; have HSR := Lib.hid HSK.out.1
  generalize hn : lenD g = n at *
  generalize insertL g ⟨tx, seq, 0⟩ = ga at *
  generalize refillL g = gb at *
  unfold encD cellsD at HLN HVL HIN HPK HPO
  unfold aggI at HIN
  simp only at HIN
  clear hfit hcl hn HPP HSK
  obtain ⟨c0, c1, c2, c3, c4, c5⟩ := cells6 (show W1.heap[P0]? = some (.cells #[.int .i64 l0.ts, .slice l0.top.ad l0.top.l.length l0.top.cap, .slice l0.rs.ad l0.rs.l.length l0.rs.cap, .slice l0.bot.ad l0.bot.l.length l0.bot.cap, .int .i64 l0.mv, .int .i64 l0.cp] 25 (0, 0)) from HB0.out.1)
  have HLNK := Lib.hid (HLN.out W1 HB0.out.2)
  go_upto_region 4 with (go_at_call 21; (with_reducible refine HLNK.out.mono ?_); rintro e w2 ⟨rfl, hu2⟩)
  clear c0 c1 c2 c3 c4 c5
  replace HB0 := Lib.hid (HB0.out.stay hu2)
  replace HOP := Lib.hid (hu2.at HOP.out (by simp))
  replace HUW := Lib.hid (HUW.out.thn hu2)
  clear hu2 HLNK
  obtain ⟨c0, c1, c2, c3, c4, c5⟩ := cells6 (show w2.heap[P0]? = some (.cells #[.int .i64 l0.ts, .slice l0.top.ad l0.top.l.length l0.top.cap, .slice l0.rs.ad l0.rs.l.length l0.rs.cap, .slice l0.bot.ad l0.bot.l.length l0.bot.cap, .int .i64 l0.mv, .int .i64 l0.cp] 25 (0, 0)) from HB0.out.1)
  obtain ⟨d0, d1, d2⟩ := cells3 HOP.out
  go_upto_region 4 with (fail)
  go_cut [10] (fun v wx => ∃ Q lq, v = .pointer (some ⟨Q, 0, none⟩) ∧ Hid (InBoxD Q lq wx) ∧ Hid (lq.ld = ga) ∧ Hid (Upd [] w2 wx))
  case first =>
    have HHS : Hid (HasD w2 l0) := HB0.out.2
    have HKP : Hid (∀ wz, Upd [] w2 wz → wz.cell? ⟨P0, 0, none⟩ = some (.int .i64 l0.ts) ∧ wz.cell? ⟨P0, 1, none⟩ = some (.slice l0.top.ad l0.top.l.length l0.top.cap) ∧ wz.cell? ⟨P0, 2, none⟩ = some (.slice l0.rs.ad l0.rs.l.length l0.rs.cap) ∧ wz.cell? ⟨P0, 3, none⟩ = some (.slice l0.bot.ad l0.bot.l.length l0.bot.cap) ∧ wz.cell? ⟨P0, 4, none⟩ = some (.int .i64 l0.mv) ∧ wz.cell? ⟨P0, 5, none⟩ = some (.int .i64 l0.cp) ∧ wz.cell? ⟨PO, 0, none⟩ = some (.bool op) ∧ wz.cell? ⟨PO, 1, none⟩ = some (.int .u64 oa) ∧ wz.cell? ⟨PO, 2, none⟩ = some (.bool on)) := fun wz hu => ⟨hu.cell c0 (by simp), hu.cell c1 (by simp), hu.cell c2 (by simp), hu.cell c3 (by simp), hu.cell c4 (by simp), hu.cell c5 (by simp), hu.cell d0 (by simp), hu.cell d1 (by simp), hu.cell d2 (by simp)⟩
    have hS := HKP.out w2.drew (Upd.refl [] w2).drew
    refine wp_region_K (fun wz => wz.cell? ⟨P0, 0, none⟩ = some (.int .i64 l0.ts) ∧ wz.cell? ⟨P0, 1, none⟩ = some (.slice l0.top.ad l0.top.l.length l0.top.cap) ∧ wz.cell? ⟨P0, 2, none⟩ = some (.slice l0.rs.ad l0.rs.l.length l0.rs.cap) ∧ wz.cell? ⟨P0, 3, none⟩ = some (.slice l0.bot.ad l0.bot.l.length l0.bot.cap) ∧ wz.cell? ⟨P0, 4, none⟩ = some (.int .i64 l0.mv) ∧ wz.cell? ⟨P0, 5, none⟩ = some (.int .i64 l0.cp) ∧ wz.cell? ⟨PO, 0, none⟩ = some (.bool op) ∧ wz.cell? ⟨PO, 1, none⟩ = some (.int .u64 oa) ∧ wz.cell? ⟨PO, 2, none⟩ = some (.bool on)) 8 mixed ?_
    refine wpAnyK_take (i := 0) (d := some 26) (v := .agg #[.int .i64 l0.ts, .slice l0.top.ad l0.top.l.length l0.top.cap, .slice l0.rs.ad l0.rs.l.length l0.rs.cap, .slice l0.bot.ad l0.bot.l.length l0.bot.cap, .int .i64 l0.mv, .int .i64 l0.cp]) rfl rfl (by kernel_rfl) (fun _ _ _ h => h) (.inl ⟨rfl, fun wz hz => by simp [execOp, Act.eval, go_sem, hz.1, hz.2.1, hz.2.2.1, hz.2.2.2.1, hz.2.2.2.2.1, hz.2.2.2.2.2.1]⟩) hS ?_
    simp only [Act.put, List.setIfInBounds_toArray, List.set_cons_succ, List.set_cons_zero]
    refine wpAnyK_take (i := 1) (d := some 27) (v := .agg #[.bool op, .int .u64 oa, .bool on]) rfl rfl (by kernel_rfl) (fun _ _ _ h => h) (.inl ⟨rfl, fun wz hz => by simp [execOp, Act.eval, go_sem, hz.2.2.2.2.2.2.1, hz.2.2.2.2.2.2.2.1, hz.2.2.2.2.2.2.2.2]⟩) hS ?_
    simp only [Act.put, List.setIfInBounds_toArray, List.set_cons_succ, List.set_cons_zero]
    refine wpAnyK_take (i := 2) (d := some 28) (v := .int .i64 last) rfl rfl (by kernel_rfl) (fun _ _ _ h => h) (.inl ⟨rfl, fun wz hz => rfl⟩) hS ?_
    simp only [Act.put, List.setIfInBounds_toArray, List.set_cons_succ, List.set_cons_zero]
    refine wpAnyK_take (i := 4) (d := some 30) (v := .int .i64 (seq : Nat)) rfl rfl (by kernel_rfl) (fun _ _ _ h => h) (.inl ⟨rfl, fun wz hz => rfl⟩) hS ?_
    simp only [Act.put, List.setIfInBounds_toArray, List.set_cons_succ, List.set_cons_zero]
    refine anyK_two (i := 3) (j := 7) (by kernel_rfl) ?_ ?_
    · refine opd_call (d := some 29) (R := fun v W2 => v = .int .i64 tx ∧ Upd [] (w2.drew) W2) rfl rfl (by kernel_rfl) (by simp [execOp, Act.eval, go_sem]) ((HTM.out (w2.drew)).mono fun e W2 h => ⟨_, h.1, rfl, h.2⟩) ?_
      rintro _ W2 ⟨rfl, hu2⟩
      have hU2 : Upd [] w2 W2 := ((Upd.refl [] w2).drew).thn hu2
      have hS := HKP.out W2 hU2
      refine ⟨.inr hS, ?_⟩
      simp only [Act.put, List.setIfInBounds_toArray, List.set_cons_succ, List.set_cons_zero]
      refine wpAnyK_take (i := 5) (d := some 31) (v := .agg #[.int .i64 tx, .int .i64 (seq : Nat), .int .i64 0]) rfl rfl (by kernel_rfl) (fun _ _ _ h => h) (.inl ⟨rfl, fun wz hz => by simp [execOp, Act.eval, go_sem]⟩) hS ?_
      simp only [Act.put, List.setIfInBounds_toArray, List.set_cons_succ, List.set_cons_zero]
      refine anyK_two (i := 6) (j := 7) (by kernel_rfl) ?_ ?_
      · refine opd_call (d := some 32) (R := fun v W3 => ∃ lq, v = encD lq ∧ BornD (W2) ga W3 lq) rfl rfl (by kernel_rfl) (by simp [execOp, Act.eval, go_sem]) ((HIN.out (W2) (HHS.out.stay (hU2))).mono fun e W3 ⟨lq, h⟩ => ⟨_, h.1, lq, rfl, h.2⟩) ?_
        rintro _ W3 ⟨lq, rfl, hN⟩
        have hU3 : Upd [] w2 W3 := (hU2).thn hN.upd
        have hS := HKP.out W3 hU3
        refine ⟨.inr hS, ?_⟩
        simp only [Act.put, List.setIfInBounds_toArray, List.set_cons_succ, List.set_cons_zero]
        unfold encD cellsD
        refine wpAnyK_one (i := 7) (by kernel_rfl) ?_
        refine opd_value (d := some 10) (v := .pointer (some ⟨(W3).heap.size, 0, none⟩)) (w' := (W3).alloc (.cells #[.int .i64 0, .slice none 0 0, .slice none 0 0, .slice none 0 0, .int .i64 0, .int .i64 0] 25)) rfl rfl (by kernel_rfl) (by simp [execOp, go_sem]) ?_
        have hS := HKP.out ((W3).alloc (.cells #[.int .i64 0, .slice none 0 0, .slice none 0 0, .slice none 0 0, .int .i64 0, .int .i64 0] 25)) ((hU3).alloc _)
        refine ⟨.inr hS, ?_⟩
        simp only [Act.put, List.setIfInBounds_toArray, List.set_cons_succ, List.set_cons_zero]
        refine wpAnyK_skip (i := 8) (d := none) (w' := (W3).alloc (.cells #[.int .i64 lq.ts, .slice lq.top.ad lq.top.l.length lq.top.cap, .slice lq.rs.ad lq.rs.l.length lq.rs.cap, .slice lq.bot.ad lq.bot.l.length lq.bot.cap, .int .i64 lq.mv, .int .i64 lq.cp] 25)) rfl rfl (by kernel_rfl) rfl (by simp [execOp, Act.eval, go_sem]) (.inl rfl) ?_
        refine wpAnyK_done (by kernel_rfl) ?_ _
        simp only [Act.put]
        go_wp2_with fail
        go_meet
        case rel => exact ⟨_, lq, rfl, ⟨heap_alloc1 _ _, hN.has.stay ((Upd.refl [] W3).alloc _)⟩, hN.eq, (hU3).alloc _⟩
      · refine opd_value (d := some 10) (v := .pointer (some ⟨(W2).heap.size, 0, none⟩)) (w' := (W2).alloc (.cells #[.int .i64 0, .slice none 0 0, .slice none 0 0, .slice none 0 0, .int .i64 0, .int .i64 0] 25)) rfl rfl (by kernel_rfl) (by simp [execOp, go_sem]) ?_
        have hS := HKP.out ((W2).alloc (.cells #[.int .i64 0, .slice none 0 0, .slice none 0 0, .slice none 0 0, .int .i64 0, .int .i64 0] 25)) ((hU2).alloc _)
        refine ⟨.inr hS, ?_⟩
        simp only [Act.put, List.setIfInBounds_toArray, List.set_cons_succ, List.set_cons_zero]
        refine wpAnyK_one (i := 6) (by kernel_rfl) ?_
        refine opd_call (d := some 32) (R := fun v W3 => ∃ lq, v = encD lq ∧ BornD (W2.alloc (.cells #[.int .i64 0, .slice none 0 0, .slice none 0 0, .slice none 0 0, .int .i64 0, .int .i64 0] 25)) ga W3 lq) rfl rfl (by kernel_rfl) (by simp [execOp, Act.eval, go_sem]) ((HIN.out (W2.alloc (.cells #[.int .i64 0, .slice none 0 0, .slice none 0 0, .slice none 0 0, .int .i64 0, .int .i64 0] 25)) (HHS.out.stay ((hU2).alloc _))).mono fun e W3 ⟨lq, h⟩ => ⟨_, h.1, lq, rfl, h.2⟩) ?_
        rintro _ W3 ⟨lq, rfl, hN⟩
        have hU3 : Upd [] w2 W3 := ((hU2).alloc _).thn hN.upd
        have hS := HKP.out W3 hU3
        refine ⟨.inr hS, ?_⟩
        simp only [Act.put, List.setIfInBounds_toArray, List.set_cons_succ, List.set_cons_zero]
        unfold encD cellsD
        have hltQ : W2.heap.size < (W2.alloc (.cells #[.int .i64 0, .slice none 0 0, .slice none 0 0, .slice none 0 0, .int .i64 0, .int .i64 0] 25)).heap.size := lt_block (heap_alloc1 W2 _)
        have hgeQ : w2.heap.size ≤ W2.heap.size := hU2.size
        have hq := hN.upd.at (heap_alloc1 W2 (.cells #[.int .i64 0, .slice none 0 0, .slice none 0 0, .slice none 0 0, .int .i64 0, .int .i64 0] 25)) (by simp)
        obtain ⟨z0, z1, z2, z3, z4, z5⟩ := free6 hq
        obtain ⟨y0, y1, y2, y3, y4, y5⟩ := cells6 hq
        refine wpAnyK_skip (i := 8) (d := none) (w' := (((((W3.setCell ⟨W2.heap.size, 0, none⟩ (.int .i64 lq.ts)).setCell ⟨W2.heap.size, 1, none⟩ (.slice lq.top.ad lq.top.l.length lq.top.cap)).setCell ⟨W2.heap.size, 2, none⟩ (.slice lq.rs.ad lq.rs.l.length lq.rs.cap)).setCell ⟨W2.heap.size, 3, none⟩ (.slice lq.bot.ad lq.bot.l.length lq.bot.cap)).setCell ⟨W2.heap.size, 4, none⟩ (.int .i64 lq.mv)).setCell ⟨W2.heap.size, 5, none⟩ (.int .i64 lq.cp)) rfl rfl (by kernel_rfl) rfl (by simp [execOp, Act.eval, go_sem, y0, y1, y2, y3, y4, y5, z0, z1, z2, z3, z4, z5]) (.inl rfl) ?_
        refine wpAnyK_done (by kernel_rfl) ?_ _
        have p2 := stored6 hq (.int .i64 lq.ts) (.slice lq.top.ad lq.top.l.length lq.top.cap) (.slice lq.rs.ad lq.rs.l.length lq.rs.cap) (.slice lq.bot.ad lq.bot.l.length lq.bot.cap) (.int .i64 lq.mv) (.int .i64 lq.cp)
        have hU5 := upd_set6 W3 (W2.heap.size) (.int .i64 lq.ts) (.slice lq.top.ad lq.top.l.length lq.top.cap) (.slice lq.rs.ad lq.rs.l.length lq.rs.cap) (.slice lq.bot.ad lq.bot.l.length lq.bot.cap) (.int .i64 lq.mv) (.int .i64 lq.cp)
        have hbx : InBoxD (W2.heap.size) lq ((((((W3.setCell ⟨W2.heap.size, 0, none⟩ (.int .i64 lq.ts)).setCell ⟨W2.heap.size, 1, none⟩ (.slice lq.top.ad lq.top.l.length lq.top.cap)).setCell ⟨W2.heap.size, 2, none⟩ (.slice lq.rs.ad lq.rs.l.length lq.rs.cap)).setCell ⟨W2.heap.size, 3, none⟩ (.slice lq.bot.ad lq.bot.l.length lq.bot.cap)).setCell ⟨W2.heap.size, 4, none⟩ (.int .i64 lq.mv)).setCell ⟨W2.heap.size, 5, none⟩ (.int .i64 lq.cp)) := ⟨p2, hN.has.keep1 hU5 (hN.av _ hltQ)⟩
        have huf : Upd [] w2 ((((((W3.setCell ⟨W2.heap.size, 0, none⟩ (.int .i64 lq.ts)).setCell ⟨W2.heap.size, 1, none⟩ (.slice lq.top.ad lq.top.l.length lq.top.cap)).setCell ⟨W2.heap.size, 2, none⟩ (.slice lq.rs.ad lq.rs.l.length lq.rs.cap)).setCell ⟨W2.heap.size, 3, none⟩ (.slice lq.bot.ad lq.bot.l.length lq.bot.cap)).setCell ⟨W2.heap.size, 4, none⟩ (.int .i64 lq.mv)).setCell ⟨W2.heap.size, 5, none⟩ (.int .i64 lq.cp)) := hU3.new hU5 hgeQ
        with_reducible generalize (((((W3.setCell ⟨W2.heap.size, 0, none⟩ (.int .i64 lq.ts)).setCell ⟨W2.heap.size, 1, none⟩ (.slice lq.top.ad lq.top.l.length lq.top.cap)).setCell ⟨W2.heap.size, 2, none⟩ (.slice lq.rs.ad lq.rs.l.length lq.rs.cap)).setCell ⟨W2.heap.size, 3, none⟩ (.slice lq.bot.ad lq.bot.l.length lq.bot.cap)).setCell ⟨W2.heap.size, 4, none⟩ (.int .i64 lq.mv)).setCell ⟨W2.heap.size, 5, none⟩ (.int .i64 lq.cp) = W4 at hbx huf ⊢
        clear p2 hU5
        simp only [Act.put]
        go_wp2_with fail
        go_meet
        case rel => exact ⟨_, lq, rfl, hbx, hN.eq, huf⟩
    · refine opd_value (d := some 10) (v := .pointer (some ⟨w2.heap.size, 0, none⟩)) (w' := (w2.drew).alloc (.cells #[.int .i64 0, .slice none 0 0, .slice none 0 0, .slice none 0 0, .int .i64 0, .int .i64 0] 25)) rfl rfl (by kernel_rfl) (by simp [execOp, go_sem]) ?_
      have hS := HKP.out ((w2.drew).alloc (.cells #[.int .i64 0, .slice none 0 0, .slice none 0 0, .slice none 0 0, .int .i64 0, .int .i64 0] 25)) (((Upd.refl [] w2).drew).alloc _)
      refine ⟨.inr hS, ?_⟩
      simp only [Act.put, List.setIfInBounds_toArray, List.set_cons_succ, List.set_cons_zero]
      refine wpAnyK_one (i := 3) (by kernel_rfl) ?_
      refine opd_call (d := some 29) (R := fun v W2 => v = .int .i64 tx ∧ Upd [] ((w2.drew).alloc (.cells #[.int .i64 0, .slice none 0 0, .slice none 0 0, .slice none 0 0, .int .i64 0, .int .i64 0] 25)) W2) rfl rfl (by kernel_rfl) (by simp [execOp, Act.eval, go_sem]) ((HTM.out ((w2.drew).alloc (.cells #[.int .i64 0, .slice none 0 0, .slice none 0 0, .slice none 0 0, .int .i64 0, .int .i64 0] 25))).mono fun e W2 h => ⟨_, h.1, rfl, h.2⟩) ?_
      rintro _ W2 ⟨rfl, hu2⟩
      have hU2 : Upd [] w2 W2 := (((Upd.refl [] w2).drew).alloc _).thn hu2
      have hS := HKP.out W2 hU2
      refine ⟨.inr hS, ?_⟩
      simp only [Act.put, List.setIfInBounds_toArray, List.set_cons_succ, List.set_cons_zero]
      refine wpAnyK_take (i := 5) (d := some 31) (v := .agg #[.int .i64 tx, .int .i64 (seq : Nat), .int .i64 0]) rfl rfl (by kernel_rfl) (fun _ _ _ h => h) (.inl ⟨rfl, fun wz hz => by simp [execOp, Act.eval, go_sem]⟩) hS ?_
      simp only [Act.put, List.setIfInBounds_toArray, List.set_cons_succ, List.set_cons_zero]
      refine wpAnyK_one (i := 6) (by kernel_rfl) ?_
      refine opd_call (d := some 32) (R := fun v W3 => ∃ lq, v = encD lq ∧ BornD (W2) ga W3 lq) rfl rfl (by kernel_rfl) (by simp [execOp, Act.eval, go_sem]) ((HIN.out (W2) (HHS.out.stay (hU2))).mono fun e W3 ⟨lq, h⟩ => ⟨_, h.1, lq, rfl, h.2⟩) ?_
      rintro _ W3 ⟨lq, rfl, hN⟩
      have hU3 : Upd [] w2 W3 := (hU2).thn hN.upd
      have hS := HKP.out W3 hU3
      refine ⟨.inr hS, ?_⟩
      simp only [Act.put, List.setIfInBounds_toArray, List.set_cons_succ, List.set_cons_zero]
      unfold encD cellsD
      have hqz : W2.heap[w2.heap.size]? = some (.cells #[.int .i64 0, .slice none 0 0, .slice none 0 0, .slice none 0 0, .int .i64 0, .int .i64 0] 25) := hu2.at (heap_alloc1 (w2.drew) (.cells #[.int .i64 0, .slice none 0 0, .slice none 0 0, .slice none 0 0, .int .i64 0, .int .i64 0] 25)) (by simp)
      have hltQ : w2.heap.size < W2.heap.size := lt_block hqz
      have hgeQ : w2.heap.size ≤ w2.heap.size := Nat.le_refl _
      have hq := hN.upd.at hqz (by simp)
      obtain ⟨z0, z1, z2, z3, z4, z5⟩ := free6 hq
      obtain ⟨y0, y1, y2, y3, y4, y5⟩ := cells6 hq
      refine wpAnyK_skip (i := 8) (d := none) (w' := (((((W3.setCell ⟨w2.heap.size, 0, none⟩ (.int .i64 lq.ts)).setCell ⟨w2.heap.size, 1, none⟩ (.slice lq.top.ad lq.top.l.length lq.top.cap)).setCell ⟨w2.heap.size, 2, none⟩ (.slice lq.rs.ad lq.rs.l.length lq.rs.cap)).setCell ⟨w2.heap.size, 3, none⟩ (.slice lq.bot.ad lq.bot.l.length lq.bot.cap)).setCell ⟨w2.heap.size, 4, none⟩ (.int .i64 lq.mv)).setCell ⟨w2.heap.size, 5, none⟩ (.int .i64 lq.cp)) rfl rfl (by kernel_rfl) rfl (by simp [execOp, Act.eval, go_sem, y0, y1, y2, y3, y4, y5, z0, z1, z2, z3, z4, z5]) (.inl rfl) ?_
      refine wpAnyK_done (by kernel_rfl) ?_ _
      have p2 := stored6 hq (.int .i64 lq.ts) (.slice lq.top.ad lq.top.l.length lq.top.cap) (.slice lq.rs.ad lq.rs.l.length lq.rs.cap) (.slice lq.bot.ad lq.bot.l.length lq.bot.cap) (.int .i64 lq.mv) (.int .i64 lq.cp)
      have hU5 := upd_set6 W3 (w2.heap.size) (.int .i64 lq.ts) (.slice lq.top.ad lq.top.l.length lq.top.cap) (.slice lq.rs.ad lq.rs.l.length lq.rs.cap) (.slice lq.bot.ad lq.bot.l.length lq.bot.cap) (.int .i64 lq.mv) (.int .i64 lq.cp)
      have hbx : InBoxD (w2.heap.size) lq ((((((W3.setCell ⟨w2.heap.size, 0, none⟩ (.int .i64 lq.ts)).setCell ⟨w2.heap.size, 1, none⟩ (.slice lq.top.ad lq.top.l.length lq.top.cap)).setCell ⟨w2.heap.size, 2, none⟩ (.slice lq.rs.ad lq.rs.l.length lq.rs.cap)).setCell ⟨w2.heap.size, 3, none⟩ (.slice lq.bot.ad lq.bot.l.length lq.bot.cap)).setCell ⟨w2.heap.size, 4, none⟩ (.int .i64 lq.mv)).setCell ⟨w2.heap.size, 5, none⟩ (.int .i64 lq.cp)) := ⟨p2, hN.has.keep1 hU5 (hN.av _ hltQ)⟩
      have huf : Upd [] w2 ((((((W3.setCell ⟨w2.heap.size, 0, none⟩ (.int .i64 lq.ts)).setCell ⟨w2.heap.size, 1, none⟩ (.slice lq.top.ad lq.top.l.length lq.top.cap)).setCell ⟨w2.heap.size, 2, none⟩ (.slice lq.rs.ad lq.rs.l.length lq.rs.cap)).setCell ⟨w2.heap.size, 3, none⟩ (.slice lq.bot.ad lq.bot.l.length lq.bot.cap)).setCell ⟨w2.heap.size, 4, none⟩ (.int .i64 lq.mv)).setCell ⟨w2.heap.size, 5, none⟩ (.int .i64 lq.cp)) := hU3.new hU5 hgeQ
      with_reducible generalize (((((W3.setCell ⟨w2.heap.size, 0, none⟩ (.int .i64 lq.ts)).setCell ⟨w2.heap.size, 1, none⟩ (.slice lq.top.ad lq.top.l.length lq.top.cap)).setCell ⟨w2.heap.size, 2, none⟩ (.slice lq.rs.ad lq.rs.l.length lq.rs.cap)).setCell ⟨w2.heap.size, 3, none⟩ (.slice lq.bot.ad lq.bot.l.length lq.bot.cap)).setCell ⟨w2.heap.size, 4, none⟩ (.int .i64 lq.mv)).setCell ⟨w2.heap.size, 5, none⟩ (.int .i64 lq.cp) = W4 at hbx huf ⊢
      clear p2 hU5
      simp only [Act.put]
      go_wp2_with fail
      go_meet
      case rel => exact ⟨_, lq, rfl, hbx, hN.eq, huf⟩
  case rest =>
  obtain ⟨P1, l1, rfl, HB1, HE1, HU1⟩ := hcut
  obtain ⟨W3, hW3⟩ : ∃ x, x = wc := ⟨_, rfl⟩
  subst hW3
  replace HB0 := Lib.hid (HB0.out.stay HU1.out)
  replace HOP := Lib.hid (HU1.out.at HOP.out (by simp))
  replace HUW := Lib.hid (HUW.out.thn HU1.out)
  clear HU1
  clear c0 c1 c2 c3 c4 c5
  clear d0 d1 d2
  obtain ⟨c0, c1, c2, c3, c4, c5⟩ := cells6 (show W3.heap[P0]? = some (.cells #[.int .i64 l0.ts, .slice l0.top.ad l0.top.l.length l0.top.cap, .slice l0.rs.ad l0.rs.l.length l0.rs.cap, .slice l0.bot.ad l0.bot.l.length l0.bot.cap, .int .i64 l0.mv, .int .i64 l0.cp] 25 (0, 0)) from HB0.out.1)
  have HCK := Lib.hid (HPK.out W3 HB0.out.2)
  go_upto_region 6 with (go_at_call 12; (with_reducible refine HCK.out.mono ?_); rintro e w4 ⟨l2, rfl, hB⟩; unfold encD cellsD aggI; simp only)
  clear c0 c1 c2 c3 c4 c5
  clear HCK
  obtain ⟨hal, hqm, hqt, hsm⟩ := two_boxes w4 (.cells #[.int .i64 l2.ts, .slice l2.top.ad l2.top.l.length l2.top.cap, .slice l2.rs.ad l2.rs.l.length l2.rs.cap, .slice l2.bot.ad l2.bot.l.length l2.bot.cap, .int .i64 l2.mv, .int .i64 l2.cp] 25) (.cells #[.int .i64 i0, .int .i64 i1, .int .i64 i2] 36)
  have hb : InBoxD w4.heap.size l2 ((w4.alloc (.cells #[.int .i64 l2.ts, .slice l2.top.ad l2.top.l.length l2.top.cap, .slice l2.rs.ad l2.rs.l.length l2.rs.cap, .slice l2.bot.ad l2.bot.l.length l2.bot.cap, .int .i64 l2.mv, .int .i64 l2.cp] 25)).alloc (.cells #[.int .i64 i0, .int .i64 i1, .int .i64 i2] 36)) := ⟨hqm, hB.has.stay hal⟩
  have hu3 := hB.upd.thn hal
  have HE2 : Hid (l2.ld = gb) := hB.eq
  generalize (w4.alloc (.cells #[.int .i64 l2.ts, .slice l2.top.ad l2.top.l.length l2.top.cap, .slice l2.rs.ad l2.rs.l.length l2.rs.cap, .slice l2.bot.ad l2.bot.l.length l2.bot.cap, .int .i64 l2.mv, .int .i64 l2.cp] 25)).alloc (.cells #[.int .i64 i0, .int .i64 i1, .int .i64 i2] 36) = W4 at *
  generalize w4.heap.size = P2 at *
  have HB2 := Lib.hid hb
  have HT2 := Lib.hid hqt
  replace HB0 := Lib.hid (HB0.out.stay hu3)
  replace HB1 := Lib.hid (HB1.out.stay hu3)
  replace HOP := Lib.hid (hu3.at HOP.out (by simp))
  replace HUW := Lib.hid (HUW.out.thn hu3)
  clear hal hb hu3 hqm hqt hsm hB
  obtain ⟨c0, c1, c2, c3, c4, c5⟩ := cells6 (show W4.heap[P0]? = some (.cells #[.int .i64 l0.ts, .slice l0.top.ad l0.top.l.length l0.top.cap, .slice l0.rs.ad l0.rs.l.length l0.rs.cap, .slice l0.bot.ad l0.bot.l.length l0.bot.cap, .int .i64 l0.mv, .int .i64 l0.cp] 25 (0, 0)) from HB0.out.1)
  have HCK := Lib.hid (HPO.out W4 HB0.out.2)
  go_upto_region 7 with (go_at_call 14; (with_reducible refine HCK.out.mono ?_); rintro e w5 ⟨l3, rfl, hB⟩; unfold encD cellsD aggI; simp only)
  clear c0 c1 c2 c3 c4 c5
  clear HCK
  obtain ⟨hal, hqm, hqt, hsm⟩ := two_boxes w5 (.cells #[.int .i64 l3.ts, .slice l3.top.ad l3.top.l.length l3.top.cap, .slice l3.rs.ad l3.rs.l.length l3.rs.cap, .slice l3.bot.ad l3.bot.l.length l3.bot.cap, .int .i64 l3.mv, .int .i64 l3.cp] 25) (.cells #[.int .i64 i0, .int .i64 i1, .int .i64 i2] 36)
  have hb : InBoxD w5.heap.size l3 ((w5.alloc (.cells #[.int .i64 l3.ts, .slice l3.top.ad l3.top.l.length l3.top.cap, .slice l3.rs.ad l3.rs.l.length l3.rs.cap, .slice l3.bot.ad l3.bot.l.length l3.bot.cap, .int .i64 l3.mv, .int .i64 l3.cp] 25)).alloc (.cells #[.int .i64 i0, .int .i64 i1, .int .i64 i2] 36)) := ⟨hqm, hB.has.stay hal⟩
  have hu3 := hB.upd.thn hal
  have HE3 : Hid (l3.ld = gp) := hB.eq
  generalize (w5.alloc (.cells #[.int .i64 l3.ts, .slice l3.top.ad l3.top.l.length l3.top.cap, .slice l3.rs.ad l3.rs.l.length l3.rs.cap, .slice l3.bot.ad l3.bot.l.length l3.bot.cap, .int .i64 l3.mv, .int .i64 l3.cp] 25)).alloc (.cells #[.int .i64 i0, .int .i64 i1, .int .i64 i2] 36) = W5 at *
  generalize w5.heap.size = P3 at *
  have HB3 := Lib.hid hb
  have HT3 := Lib.hid hqt
  replace HB0 := Lib.hid (HB0.out.stay hu3)
  replace HB1 := Lib.hid (HB1.out.stay hu3)
  replace HB2 := Lib.hid (HB2.out.stay hu3)
  replace HT2 := Lib.hid (hu3.at HT2.out (by simp))
  replace HOP := Lib.hid (hu3.at HOP.out (by simp))
  replace HUW := Lib.hid (HUW.out.thn hu3)
  clear hal hb hu3 hqm hqt hsm hB
  have hca := HIR.out.1.calls (by have := HSQ.out; omega) HE1.out
  have HCA := Lib.hid hca; have HCB := Lib.hid (HSR.out.calls (by have := HSQ.out; omega) HE2.out); have HCC := Lib.hid (HPR.out.calls (by have := HSQ.out; omega) HE3.out)
  obtain ⟨nc, hnc⟩ : ∃ nc, nc = n - 1 := ⟨_, rfl⟩
  rw [HIR.out.2] at HCA
  rw [HSKN.out] at HCB
  rw [HGPN.out, ← hnc] at HCC
  have HNC := Lib.hid hnc
  clear hnc
  unfold encD cellsD at HCA HCB HCC
  clear hca HIN HPK HPO HTM
  obtain ⟨c00, c01, c02, c03, c04, c05⟩ := cells6 (show W5.heap[P0]? = some (.cells #[.int .i64 l0.ts, .slice l0.top.ad l0.top.l.length l0.top.cap, .slice l0.rs.ad l0.rs.l.length l0.rs.cap, .slice l0.bot.ad l0.bot.l.length l0.bot.cap, .int .i64 l0.mv, .int .i64 l0.cp] 25 (0, 0)) from HB0.out.1)
  obtain ⟨c10, c11, c12, c13, c14, c15⟩ := cells6 (show W5.heap[P1]? = some (.cells #[.int .i64 l1.ts, .slice l1.top.ad l1.top.l.length l1.top.cap, .slice l1.rs.ad l1.rs.l.length l1.rs.cap, .slice l1.bot.ad l1.bot.l.length l1.bot.cap, .int .i64 l1.mv, .int .i64 l1.cp] 25 (0, 0)) from HB1.out.1)
  obtain ⟨c20, c21, c22, c23, c24, c25⟩ := cells6 (show W5.heap[P2]? = some (.cells #[.int .i64 l2.ts, .slice l2.top.ad l2.top.l.length l2.top.cap, .slice l2.rs.ad l2.rs.l.length l2.rs.cap, .slice l2.bot.ad l2.bot.l.length l2.bot.cap, .int .i64 l2.mv, .int .i64 l2.cp] 25 (0, 0)) from HB2.out.1)
  obtain ⟨c30, c31, c32, c33, c34, c35⟩ := cells6 (show W5.heap[P3]? = some (.cells #[.int .i64 l3.ts, .slice l3.top.ad l3.top.l.length l3.top.cap, .slice l3.rs.ad l3.rs.l.length l3.rs.cap, .slice l3.bot.ad l3.bot.l.length l3.bot.cap, .int .i64 l3.mv, .int .i64 l3.cp] 25 (0, 0)) from HB3.out.1)
  have HKP := Lib.hid (fun V (hu : Upd [] W5 V) => (⟨hu.cell c00 (by simp), hu.cell c01 (by simp), hu.cell c02 (by simp), hu.cell c03 (by simp), hu.cell c04 (by simp), hu.cell c05 (by simp), hu.cell c10 (by simp), hu.cell c11 (by simp), hu.cell c12 (by simp), hu.cell c13 (by simp), hu.cell c14 (by simp), hu.cell c15 (by simp), hu.cell c20 (by simp), hu.cell c21 (by simp), hu.cell c22 (by simp), hu.cell c23 (by simp), hu.cell c24 (by simp), hu.cell c25 (by simp), hu.cell c30 (by simp), hu.cell c31 (by simp), hu.cell c32 (by simp), hu.cell c33 (by simp), hu.cell c34 (by simp), hu.cell c35 (by simp)⟩ : V.cell? ⟨P0, 0, none⟩ = some (.int .i64 l0.ts) ∧ V.cell? ⟨P0, 1, none⟩ = some (.slice l0.top.ad l0.top.l.length l0.top.cap) ∧ V.cell? ⟨P0, 2, none⟩ = some (.slice l0.rs.ad l0.rs.l.length l0.rs.cap) ∧ V.cell? ⟨P0, 3, none⟩ = some (.slice l0.bot.ad l0.bot.l.length l0.bot.cap) ∧ V.cell? ⟨P0, 4, none⟩ = some (.int .i64 l0.mv) ∧ V.cell? ⟨P0, 5, none⟩ = some (.int .i64 l0.cp) ∧ V.cell? ⟨P1, 0, none⟩ = some (.int .i64 l1.ts) ∧ V.cell? ⟨P1, 1, none⟩ = some (.slice l1.top.ad l1.top.l.length l1.top.cap) ∧ V.cell? ⟨P1, 2, none⟩ = some (.slice l1.rs.ad l1.rs.l.length l1.rs.cap) ∧ V.cell? ⟨P1, 3, none⟩ = some (.slice l1.bot.ad l1.bot.l.length l1.bot.cap) ∧ V.cell? ⟨P1, 4, none⟩ = some (.int .i64 l1.mv) ∧ V.cell? ⟨P1, 5, none⟩ = some (.int .i64 l1.cp) ∧ V.cell? ⟨P2, 0, none⟩ = some (.int .i64 l2.ts) ∧ V.cell? ⟨P2, 1, none⟩ = some (.slice l2.top.ad l2.top.l.length l2.top.cap) ∧ V.cell? ⟨P2, 2, none⟩ = some (.slice l2.rs.ad l2.rs.l.length l2.rs.cap) ∧ V.cell? ⟨P2, 3, none⟩ = some (.slice l2.bot.ad l2.bot.l.length l2.bot.cap) ∧ V.cell? ⟨P2, 4, none⟩ = some (.int .i64 l2.mv) ∧ V.cell? ⟨P2, 5, none⟩ = some (.int .i64 l2.cp) ∧ V.cell? ⟨P3, 0, none⟩ = some (.int .i64 l3.ts) ∧ V.cell? ⟨P3, 1, none⟩ = some (.slice l3.top.ad l3.top.l.length l3.top.cap) ∧ V.cell? ⟨P3, 2, none⟩ = some (.slice l3.rs.ad l3.rs.l.length l3.rs.cap) ∧ V.cell? ⟨P3, 3, none⟩ = some (.slice l3.bot.ad l3.bot.l.length l3.bot.cap) ∧ V.cell? ⟨P3, 4, none⟩ = some (.int .i64 l3.mv) ∧ V.cell? ⟨P3, 5, none⟩ = some (.int .i64 l3.cp)))
  have HS0 : Hid (HasD W5 l0) := HB0.out.2; have HS1 : Hid (HasD W5 l1) := HB1.out.2; have HS2 : Hid (HasD W5 l2) := HB2.out.2; have HS3 : Hid (HasD W5 l3) := HB3.out.2
  cases ok with
  | true =>
    have hpn : (0 : Int) < (n : Int) := by have h := HOKN.out; simp at h; omega
    have hpd : decide (0 < n) = true := decide_eq_true (by omega)
    go_upto_region 9 with (first
      | (go_at_call 16; (with_reducible refine (HVL.out _ HS0.out).mono ?_); rintro e v1 ⟨rfl, hv⟩; have HV1 := Lib.hid hv; clear hv; obtain ⟨c00, c01, c02, c03, c04, c05, c10, c11, c12, c13, c14, c15, c20, c21, c22, c23, c24, c25, c30, c31, c32, c33, c34, c35⟩ := HKP.out v1 HV1.out)
      | (go_at_call 16; (with_reducible refine (HCA.out.2 _ (HS1.out.stay HV1.out)).mono ?_); rintro e v2 ⟨rfl, hv⟩; have HV2 := Lib.hid (HV1.out.thn hv); clear hv; obtain ⟨c00, c01, c02, c03, c04, c05, c10, c11, c12, c13, c14, c15, c20, c21, c22, c23, c24, c25, c30, c31, c32, c33, c34, c35⟩ := HKP.out v2 HV2.out)
      | (go_at_call 16; (with_reducible refine (HCB.out.2 _ (HS2.out.stay HV2.out)).mono ?_); rintro e v3 ⟨rfl, hv⟩; have HV3 := Lib.hid (HV2.out.thn hv); clear hv; obtain ⟨c00, c01, c02, c03, c04, c05, c10, c11, c12, c13, c14, c15, c20, c21, c22, c23, c24, c25, c30, c31, c32, c33, c34, c35⟩ := HKP.out v3 HV3.out)
      | (go_at_call 16; (with_reducible refine (HCC.out.2 _ (HS3.out.stay HV3.out)).mono ?_); rintro e v4 ⟨rfl, hv⟩; have HV4 := Lib.hid (HV3.out.thn hv); clear hv; obtain ⟨c00, c01, c02, c03, c04, c05, c10, c11, c12, c13, c14, c15, c20, c21, c22, c23, c24, c25, c30, c31, c32, c33, c34, c35⟩ := HKP.out v4 HV4.out))
    have hw1 : IntKind.i64.wrap ((n : Int) + 1) = (n : Int) + 1 := by rw [IntKind.wrap_i64]; omega
    have hw2 : IntKind.i64.wrap ((n : Int) - 1) = (n : Int) - 1 := by rw [IntKind.wrap_i64]; omega
    go_wp2_with (first
      | (go_at_call 21; (with_reducible refine (HCA.out.1 _ (HS1.out.stay HV4.out)).mono ?_); rintro e v5 ⟨rfl, hv⟩; have HV5 := Lib.hid (HV4.out.thn hv); clear hv; obtain ⟨c00, c01, c02, c03, c04, c05, c10, c11, c12, c13, c14, c15, c20, c21, c22, c23, c24, c25, c30, c31, c32, c33, c34, c35⟩ := HKP.out v5 HV5.out)
      | (go_at_call 21; (with_reducible refine (HCB.out.1 _ (HS2.out.stay HV5.out)).mono ?_); rintro e v6 ⟨rfl, hv⟩; have HV6 := Lib.hid (HV5.out.thn hv); clear hv; obtain ⟨c00, c01, c02, c03, c04, c05, c10, c11, c12, c13, c14, c15, c20, c21, c22, c23, c24, c25, c30, c31, c32, c33, c34, c35⟩ := HKP.out v6 HV6.out)
      | (go_at_call 21; (with_reducible refine (HCC.out.1 _ (HS3.out.stay HV6.out)).mono ?_); rintro e v7 ⟨rfl, hv⟩; have HV7 := Lib.hid (HV6.out.thn hv); clear hv))
    go_ret
    exact ⟨ret_bool (by have := HNC.out; rw [beq_iff_eq]; omega), HUW.out.thn HV7.out⟩
  | false =>
    have hpn : ¬ (0 : Int) < (n : Int) := by have h := HOKN.out; simp at h; omega
    have hpd : decide (0 < n) = false := decide_eq_false (by omega)
    go_upto_region 9 with (first
      | (go_at_call 16; (with_reducible refine (HVL.out _ HS0.out).mono ?_); rintro e v1 ⟨rfl, hv⟩; have HV1 := Lib.hid hv; clear hv; obtain ⟨c00, c01, c02, c03, c04, c05, c10, c11, c12, c13, c14, c15, c20, c21, c22, c23, c24, c25, c30, c31, c32, c33, c34, c35⟩ := HKP.out v1 HV1.out)
      | (go_at_call 16; (with_reducible refine (HCA.out.2 _ (HS1.out.stay HV1.out)).mono ?_); rintro e v2 ⟨rfl, hv⟩; have HV2 := Lib.hid (HV1.out.thn hv); clear hv; obtain ⟨c00, c01, c02, c03, c04, c05, c10, c11, c12, c13, c14, c15, c20, c21, c22, c23, c24, c25, c30, c31, c32, c33, c34, c35⟩ := HKP.out v2 HV2.out)
      | (go_at_call 16; (with_reducible refine (HCB.out.2 _ (HS2.out.stay HV2.out)).mono ?_); rintro e v3 ⟨rfl, hv⟩; have HV3 := Lib.hid (HV2.out.thn hv); clear hv; obtain ⟨c00, c01, c02, c03, c04, c05, c10, c11, c12, c13, c14, c15, c20, c21, c22, c23, c24, c25, c30, c31, c32, c33, c34, c35⟩ := HKP.out v3 HV3.out)
      | (go_at_call 16; (with_reducible refine (HCC.out.2 _ (HS3.out.stay HV3.out)).mono ?_); rintro e v4 ⟨rfl, hv⟩; have HV4 := Lib.hid (HV3.out.thn hv); clear hv; obtain ⟨c00, c01, c02, c03, c04, c05, c10, c11, c12, c13, c14, c15, c20, c21, c22, c23, c24, c25, c30, c31, c32, c33, c34, c35⟩ := HKP.out v4 HV4.out))
    have hw1 : IntKind.i64.wrap ((n : Int) + 1) = (n : Int) + 1 := by rw [IntKind.wrap_i64]; omega
    have hw2 : IntKind.i64.wrap ((n : Int) - 1) = (n : Int) - 1 := by rw [IntKind.wrap_i64]; omega
    go_wp2_with (first
      | (go_at_call 21; (with_reducible refine (HCA.out.1 _ (HS1.out.stay HV4.out)).mono ?_); rintro e v5 ⟨rfl, hv⟩; have HV5 := Lib.hid (HV4.out.thn hv); clear hv; obtain ⟨c00, c01, c02, c03, c04, c05, c10, c11, c12, c13, c14, c15, c20, c21, c22, c23, c24, c25, c30, c31, c32, c33, c34, c35⟩ := HKP.out v5 HV5.out)
      | (go_at_call 21; (with_reducible refine (HCB.out.1 _ (HS2.out.stay HV5.out)).mono ?_); rintro e v6 ⟨rfl, hv⟩; have HV6 := Lib.hid (HV5.out.thn hv); clear hv; obtain ⟨c00, c01, c02, c03, c04, c05, c10, c11, c12, c13, c14, c15, c20, c21, c22, c23, c24, c25, c30, c31, c32, c33, c34, c35⟩ := HKP.out v6 HV6.out)
      | (go_at_call 21; (with_reducible refine (HCC.out.1 _ (HS3.out.stay HV6.out)).mono ?_); rintro e v7 ⟨rfl, hv⟩; have HV7 := Lib.hid (HV6.out.thn hv); clear hv))
    go_ret
    exact ⟨ret_bool (by have := HNC.out; rw [beq_iff_eq]; omega), HUW.out.thn HV7.out⟩
end Go.Proofs.YtneodiemgemhfaaGreat
