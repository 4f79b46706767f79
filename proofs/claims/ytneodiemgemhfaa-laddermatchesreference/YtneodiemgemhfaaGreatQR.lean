/- LadderSorts: the law's walk. -/
import Derived.Test.YtneodiemgemhfaaGreatQQ
import Derived.Test.YtneodiemgemhfaaGreatQF
namespace Go.Proofs.YtneodiemgemhfaaGreat
open Go.RowKit Go.Lib

theorem sortI_nil {l : List It} (h : sortI l = []) : l = [] := by
  have := (sortI_perm l).length_eq
  rw [h] at this
  exact List.eq_nil_of_length_eq_zero this.symm
theorem pop_sorted {l : Ld} (hg : GoodL l) {y : It} {ys : List It} (h : sortI (itemsL l) = y :: ys) : ∃ gp, popL l = (gp, y, true) ∧ sortI (itemsL gp) = ys := by
  cases pop_ok hg with
  | no e p hb =>
    exfalso
    rw [e] at h
    simp [sortI] at h
  | yes x l' p _ good its least hpot mv cp bot =>
    have := Popped.sort hg its least
    rw [this] at h
    simp only [List.cons.injEq] at h
    obtain ⟨rfl, rfl⟩ := h
    exact ⟨l', p, rfl⟩
theorem pop_empty {l : Ld} (hg : GoodL l) (h : itemsL l = []) : ∃ gp i, popL l = (gp, i, false) ∧ lenD l = 0 := by
  obtain ⟨i, ok, gp, hpp⟩ := pp_of hg
  have h0 : lenD l = 0 := by rw [lenD_its, h]; rfl
  have hs := hpp.some
  rw [h0] at hs
  simp at hs
  subst hs
  exact ⟨gp, i, hpp.po, h0⟩
theorem RItems_fit {k : Nat} {g : Ld} (h : ReachL k g) (hk : k ≤ 10000) {l : LdR} (he : l.ld = g) (V : World) (hv : HasD V l) : Calls Tryz.prog 26 #[encD l] V fun e w' => ∃ s : SlR It, e = .returned (.slice s.ad s.l.length s.cap) ∧ s.l = itemsL g ∧ HasS LI w' s ∧ Upd [] V w' := by
  have hf := h.fit hk he
  subst he
  have h1 := hf.1.sizes
  refine (RItems_has l V hv (by omega) (fun r hr => by rw [hf.1.h8 r hr]; decide) (by rw [← lenD_its]; exact hf.1.len)).mono ?_
  rintro e w' ⟨va, vc, rfl, hown, hu⟩
  obtain ⟨_, ad, cap, hv2, hS, _⟩ := hasS_row (L := LI) hown
  simp only [Value.slice.injEq] at hv2
  obtain ⟨rfl, _, rfl⟩ := hv2
  exact ⟨⟨itemsL l.ld, va, vc⟩, rfl, rfl, hS, hu⟩
set_option maxRecDepth 100000 in
set_option maxHeartbeats 16000000 in
theorem Sorts_any (la : Option Addr) (lc : Nat) (os : List Ox) (w : World) (ho : Row LX w la os) (hoa : ∀ o ∈ os, U64 o.a) :
    Calls Tryz.prog 5 #[.slice la os.length lc] w fun e w' => e = .returned (.bool true) ∧ Upd [] w w' := by
  have HHD := Lib.hid head_true
  have HRO := Lib.hid ho
  have HMD := Lib.hid (fun V (hv : Row LX V la os) => LMade_has la lc os V hv hoa)
  have hre := made_reach os
  have HRE : Hid (ReachL (madeM os).seq (madeM os).l) := hre.reach
  have HLA := Lib.hid hre.last
  have HSQ := Lib.hid hre.seq
  unfold MadePost at HMD
  obtain ⟨L, hL⟩ : ∃ L, L = os.length := ⟨_, rfl⟩
  rw [← hL] at HMD ⊢
  generalize (madeM os).seq = seq at *
  generalize (madeM os).last = last at *
  generalize (madeM os).l = g at *
  clear ho hoa hL hre
  have HIL : Hid ((itemsL g).length ≤ 150) := by show (itemsL g).length ≤ 150; rw [← lenD_its]; have h1 := HRE.out.len; have h2 := HSQ.out; omega
  go_enter Tryz.func5, Tryz.ntmps5
  have HUW := Lib.hid (Upd.refl [] w)
  go_upto_region 2 with (go_at_call 8; (with_reducible refine (HHD.out _).mono ?_); rintro e w0 ⟨rfl, hu0⟩)
  replace HUW := Lib.hid (HUW.out.thn hu0)
  clear hu0 HHD
  have HMDK := Lib.hid (HMD.out w0 (HRO.out.stay HUW.out))
  go_upto_region 3 with (go_at_call 10; (with_reducible refine HMDK.out.mono ?_); rintro e w1 ⟨l0, rfl, hB⟩; unfold encD cellsD)
  have hgeP : w.heap.size ≤ w1.heap.size := (HUW.out.thn hB.upd).size
  have hal := (Upd.refl [] w1).alloc (.cells #[.int .i64 l0.ts, .slice l0.top.ad l0.top.l.length l0.top.cap, .slice l0.rs.ad l0.rs.l.length l0.rs.cap, .slice l0.bot.ad l0.bot.l.length l0.bot.cap, .int .i64 l0.mv, .int .i64 l0.cp] 25)
  have hb : InBoxD w1.heap.size l0 (w1.alloc (.cells #[.int .i64 l0.ts, .slice l0.top.ad l0.top.l.length l0.top.cap, .slice l0.rs.ad l0.rs.l.length l0.rs.cap, .slice l0.bot.ad l0.bot.l.length l0.bot.cap, .int .i64 l0.mv, .int .i64 l0.cp] 25)) := ⟨heap_alloc1 _ _, hB.has.stay hal⟩
  have hu3 := hB.upd.thn hal
  have HE0 : Hid (l0.ld = g) := hB.eq
  generalize w1.alloc (.cells #[.int .i64 l0.ts, .slice l0.top.ad l0.top.l.length l0.top.cap, .slice l0.rs.ad l0.rs.l.length l0.rs.cap, .slice l0.bot.ad l0.bot.l.length l0.bot.cap, .int .i64 l0.mv, .int .i64 l0.cp] 25) = W1 at *
  generalize w1.heap.size = P0 at *
  have HB0 := Lib.hid hb
  replace HUW := Lib.hid (HUW.out.thn hu3)
  clear hal hb hu3 hB
  have HGEP := Lib.hid hgeP
  clear hgeP
  clear HMD HMDK HRO
  have hri := RItems_fit HRE.out (by have := HSQ.out; omega) HE0.out
  have HRI : Hid (Calls Tryz.prog 26 #[encD l0] W1 fun e w' => ∃ s : SlR It, e = .returned (.slice s.ad s.l.length s.cap) ∧ s.l = itemsL g ∧ HasS LI w' s ∧ Upd [] W1 w') := hri W1 HB0.out.2
  unfold encD cellsD at HRI
  clear hri
  obtain ⟨c0, c1, c2, c3, c4, c5⟩ := cells6 (show W1.heap[P0]? = some (.cells #[.int .i64 l0.ts, .slice l0.top.ad l0.top.l.length l0.top.cap, .slice l0.rs.ad l0.rs.l.length l0.rs.cap, .slice l0.bot.ad l0.bot.l.length l0.bot.cap, .int .i64 l0.mv, .int .i64 l0.cp] 25 (0, 0)) from HB0.out.1)
  go_upto_region 4 with (first
    | (go_at_call 26; (with_reducible refine HRI.out.mono ?_); rintro e w2 ⟨s, rfl, hsl, hS, hu2⟩; have HSO := Lib.hid (Sort_has s w2 hS (by rw [hsl]; have := HIL.out; omega)); have HSL := Lib.hid hsl; clear hsl)
    | (go_at_call 25; (with_reducible refine HSO.out.mono ?_); rintro e w3 ⟨ws, rfl, hM⟩))
  clear c0 c1 c2 c3 c4 c5
  have hu3 := hu2.thn hM.upd
  have HWA : Hid (AvS ws P0) := avS_ge hM.ge (Nat.lt_of_lt_of_le (lt_block HB0.out.1) hu2.size)
  replace HB0 := Lib.hid (HB0.out.stay hu3)
  replace HUW := Lib.hid (HUW.out.thn hu3)
  have HWL : Hid (ws.l = sortI (itemsL g)) := by show _ = _; rw [hM.eq, HSL.out]
  have HWS := Lib.hid hM.has
  clear hu3 hu2 hM hS HSL HSO HRI
  obtain ⟨n, hn⟩ : ∃ n, n = ws.l.length := ⟨_, rfl⟩
  have HN := Lib.hid hn
  rw [← hn]
  have hn150 : n ≤ 150 := by rw [hn, HWL.out, sortI_length]; exact HIL.out
  have HG0 : Hid (sortI (itemsL l0.ld) = ws.l.drop 0) := by show _ = _; rw [HE0.out, HWL.out, List.drop_zero]
  have HR0 : Hid (ReachL seq l0.ld) := by rw [HE0.out]; exact HRE.out
  have hge : w.heap.size ≤ P0 := HGEP.out
  have HGE := Lib.hid hge
  clear hge
  have HWH := Lib.hid (fun V (hu : Upd [] w3 V) => HWS.out.stay hu)
  clear hn
  go_wp2_with fail
  go_loopg [8, 9, 10, 11] n (fun gk vi v9 v10 v11 wr => ∃ (k : Nat) (l : LdR), vi = .int .i64 k ∧ k + gk = n ∧ Hid (InBoxD P0 l wr) ∧ Hid (sortI (itemsL l.ld) = ws.l.drop k) ∧ Hid (ReachL seq l.ld) ∧ Hid (Upd [] w wr) ∧ Hid (HasS LI wr ws))
  case atStart => exact ⟨0, l0, rfl, by omega, HB0, HG0, HR0, HUW, HWS⟩
  case round =>
    obtain ⟨k, l, rfl, hkg, HB, HG, HR, HU, HW⟩ := hrel
    clear HB0 HG0 HR0 HUW HWS HE0
    by_cases hlt : k < n
    · have hltz : (k : Int) < (n : Int) := by omega
      have hk1 : k < ws.l.length := by have := HN.out; omega
      have hgd := HG.out
      rw [List.drop_eq_getElem_cons hk1] at hgd
      obtain ⟨gp, hpo, hgs⟩ := pop_sorted HR.out.good hgd
      have hfit := HR.out.fit (by have := HSQ.out; omega) rfl
      have hrp := HR.out.pop
      rw [hpo] at hrp
      have HRP : Hid (ReachL seq gp) := hrp
      have HGS := Lib.hid hgs
      have hpc := Pop_has l wr HB.out.2 hfit.1
      rw [hpo] at hpc
      obtain ⟨b, off, hbo, x0, x1, x2⟩ := HW.out.row.item k hk1
      generalize ws.l[k] = y at *
      obtain ⟨j0, j1, j2⟩ := y
      have HCK : Hid (Calls Tryz.prog 14 #[encD l] wr (Peeked wr (gp, ⟨j0, j1, j2⟩, true))) := hpc
      unfold encD cellsD at HCK
      simp only at x0 x1 x2
      clear hgd hpo hgs hfit hrp hpc
      have HBO := Lib.hid hbo
      clear hbo
      obtain ⟨c0, c1, c2, c3, c4, c5⟩ := cells6 (show wr.heap[P0]? = some (.cells #[.int .i64 l.ts, .slice l.top.ad l.top.l.length l.top.cap, .slice l.rs.ad l.rs.l.length l.rs.cap, .slice l.bot.ad l.bot.l.length l.bot.cap, .int .i64 l.mv, .int .i64 l.cp] 25 (0, 0)) from HB.out.1)
      go_upto_region 8 with (go_at_call 14; (with_reducible refine HCK.out.mono ?_); rintro e w2 ⟨l2, rfl, hB⟩; unfold encD cellsD aggI; simp only)
      clear c0 c1 c2 c3 c4 c5
      have hx0 := hB.upd.cell x0 (by simp); have hx1 := hB.upd.cell x1 (by simp); have hx2 := hB.upd.cell x2 (by simp)
      obtain ⟨hal, hqm, hqt, hsm⟩ := two_boxes w2 (.cells #[.int .i64 l2.ts, .slice l2.top.ad l2.top.l.length l2.top.cap, .slice l2.rs.ad l2.rs.l.length l2.rs.cap, .slice l2.bot.ad l2.bot.l.length l2.bot.cap, .int .i64 l2.mv, .int .i64 l2.cp] 25) (.cells #[.int .i64 j0, .int .i64 j1, .int .i64 j2] 36)
      have hz0 := hal.cell hx0 (by simp); have hz1 := hal.cell hx1 (by simp); have hz2 := hal.cell hx2 (by simp)
      have hu3 := hB.upd.thn hal
      have q0 := hu3.at HB.out.1 (by simp)
      have hav := hB.av P0 (lt_block HB.out.1)
      have hld : l2.ld = gp := hB.eq
      have h2s := hB.has.stay hal
      have hPM : P0 < w2.heap.size := Nat.lt_of_lt_of_le (lt_block HB.out.1) hB.upd.size
      have hw3 := HW.out.stay hu3
      have hue := HU.out.thn hu3
      have hgeP : w.heap.size ≤ P0 := HGE.out
      generalize (w2.alloc (.cells #[.int .i64 l2.ts, .slice l2.top.ad l2.top.l.length l2.top.cap, .slice l2.rs.ad l2.rs.l.length l2.rs.cap, .slice l2.bot.ad l2.bot.l.length l2.bot.cap, .int .i64 l2.mv, .int .i64 l2.cp] 25)).alloc (.cells #[.int .i64 j0, .int .i64 j1, .int .i64 j2] 36) = W3 at *
      generalize w2.heap.size = P1 at *
      have HQM := Lib.hid hqm; have HQ0 := Lib.hid q0; have HAV := Lib.hid hav; have HLD := Lib.hid hld; have H2S := Lib.hid h2s; have HPM := Lib.hid hPM; have HW3 := Lib.hid hw3; have HUE := Lib.hid hue
      obtain ⟨t0, t1, t2⟩ := cells3 hqt
      clear x0 x1 x2 hx0 hx1 hx2 hal hB hsm hqm hu3 q0 hav hld h2s hPM hw3 hue hqt HB HU HW HCK
      have hgd := guardItem
      have hq := neqItem ⟨j0, j1, j2⟩ ⟨j0, j1, j2⟩
      simp only [decide_true, Bool.not_true] at hq
      rw [HBO.out]
      go_quiet (fail)
      have hdq : Upd [] W3 (W3.drewN nq) := (Upd.refl [] W3).drewN nq
      generalize W3.drewN nq = W4 at *
      clear hgd hq t0 t1 t2 hz0 hz1 hz2
      have q0 := hdq.at HQ0.out (by simp)
      have qm := hdq.at HQM.out (by simp)
      unfold cellsD at q0
      have HDQ := Lib.hid hdq; have HQ0' := Lib.hid q0
      clear hdq
      obtain ⟨y0, y1, y2, y3, y4, y5⟩ := cells6 qm
      obtain ⟨b0, b1, b2, b3, b4, b5⟩ := cells6 q0
      obtain ⟨z0, z1, z2, z3, z4, z5⟩ := free6 q0
      clear q0 qm
      go_upto_region 6 with (fail)
      have p2 := stored6 HQ0'.out (.int .i64 l2.ts) (.slice l2.top.ad l2.top.l.length l2.top.cap) (.slice l2.rs.ad l2.rs.l.length l2.rs.cap) (.slice l2.bot.ad l2.bot.l.length l2.bot.cap) (.int .i64 l2.mv) (.int .i64 l2.cp)
      have hU5 := upd_set6 W4 P0 (.int .i64 l2.ts) (.slice l2.top.ad l2.top.l.length l2.top.cap) (.slice l2.rs.ad l2.rs.l.length l2.rs.cap) (.slice l2.bot.ad l2.bot.l.length l2.bot.cap) (.int .i64 l2.mv) (.int .i64 l2.cp)
      with_reducible generalize (((((W4.setCell ⟨P0, 0, none⟩ (.int .i64 l2.ts)).setCell ⟨P0, 1, none⟩ (.slice l2.top.ad l2.top.l.length l2.top.cap)).setCell ⟨P0, 2, none⟩ (.slice l2.rs.ad l2.rs.l.length l2.rs.cap)).setCell ⟨P0, 3, none⟩ (.slice l2.bot.ad l2.bot.l.length l2.bot.cap)).setCell ⟨P0, 4, none⟩ (.int .i64 l2.mv)).setCell ⟨P0, 5, none⟩ (.int .i64 l2.cp) = W5 at p2 hU5 ⊢
      have hb5 : InBoxD P0 l2 W5 := ⟨p2, (H2S.out.stay HDQ.out).keep1 hU5 HAV.out⟩
      have HB5 := Lib.hid hb5; have HU5 := Lib.hid ((HUE.out.thn HDQ.out).new hU5 HGE.out); have HW5 := Lib.hid ((HW3.out.stay HDQ.out).keep1 hU5 HWA.out)
      clear p2 hU5 hb5 b0 b1 b2 b3 b4 b5 z0 z1 z2 z3 z4 z5
      have hwk : IntKind.i64.wrap ((k : Int) + 1) = (k : Int) + 1 := by rw [IntKind.wrap_i64]; omega
      rw [← HBO.out]
      go_wp2_with fail
      go_roundg (gk - 1)
      case measure => omega
      case rel => exact ⟨k + 1, l2, by go_num, by omega, HB5, by rw [HLD.out]; exact HGS, by rw [HLD.out]; exact HRP, HU5, HW5⟩
    · have hltz : ¬ (k : Int) < (n : Int) := by omega
      obtain rfl : n = k := by omega
      have hemp : itemsL l.ld = [] := sortI_nil (by rw [HG.out, HN.out, List.drop_length])
      obtain ⟨gp, ⟨e0, e1, e2⟩, hpo, hl0⟩ := pop_empty HR.out.good hemp
      have hfit := HR.out.fit (by have := HSQ.out; omega) rfl
      have hpc := Pop_has l wr HB.out.2 hfit.1
      rw [hpo] at hpc
      have hcl := (HR.out.calls (by have := HSQ.out; omega) rfl).1
      rw [hl0] at hcl
      have HCK : Hid (Calls Tryz.prog 14 #[encD l] wr (Peeked wr (gp, ⟨e0, e1, e2⟩, false))) := hpc
      have HLN := Lib.hid hcl
      unfold encD cellsD at HCK HLN
      clear hemp hpo hl0 hfit hpc hcl HW
      obtain ⟨c0, c1, c2, c3, c4, c5⟩ := cells6 (show wr.heap[P0]? = some (.cells #[.int .i64 l.ts, .slice l.top.ad l.top.l.length l.top.cap, .slice l.rs.ad l.rs.l.length l.rs.cap, .slice l.bot.ad l.bot.l.length l.bot.cap, .int .i64 l.mv, .int .i64 l.cp] 25 (0, 0)) from HB.out.1)
      go_upto_region 12 with (go_at_call 14; (with_reducible refine HCK.out.mono ?_); rintro e w2 ⟨l2, rfl, hB⟩; unfold encD cellsD aggI; simp only)
      clear c0 c1 c2 c3 c4 c5
      obtain ⟨hal, hqm, hqt, hsm⟩ := two_boxes w2 (.cells #[.int .i64 l2.ts, .slice l2.top.ad l2.top.l.length l2.top.cap, .slice l2.rs.ad l2.rs.l.length l2.rs.cap, .slice l2.bot.ad l2.bot.l.length l2.bot.cap, .int .i64 l2.mv, .int .i64 l2.cp] 25) (.cells #[.int .i64 e0, .int .i64 e1, .int .i64 e2] 36)
      have hu3 := hB.upd.thn hal
      generalize (w2.alloc (.cells #[.int .i64 l2.ts, .slice l2.top.ad l2.top.l.length l2.top.cap, .slice l2.rs.ad l2.rs.l.length l2.rs.cap, .slice l2.bot.ad l2.bot.l.length l2.bot.cap, .int .i64 l2.mv, .int .i64 l2.cp] 25)).alloc (.cells #[.int .i64 e0, .int .i64 e1, .int .i64 e2] 36) = W3 at *
      replace HB := Lib.hid (HB.out.stay hu3)
      replace HU := Lib.hid (HU.out.thn hu3)
      clear hal hqm hqt hsm hB hu3
      obtain ⟨c0, c1, c2, c3, c4, c5⟩ := cells6 (show W3.heap[P0]? = some (.cells #[.int .i64 l.ts, .slice l.top.ad l.top.l.length l.top.cap, .slice l.rs.ad l.rs.l.length l.rs.cap, .slice l.bot.ad l.bot.l.length l.bot.cap, .int .i64 l.mv, .int .i64 l.cp] 25 (0, 0)) from HB.out.1)
      have HLNK := Lib.hid (HLN.out W3 HB.out.2)
      go_wp2_with (go_at_call 21; (with_reducible refine HLNK.out.mono ?_); rintro e w6 ⟨rfl, hu6⟩)
      go_ret
      exact ⟨by first | rfl | simp, HU.out.thn hu6⟩
end Go.Proofs.YtneodiemgemhfaaGreat
