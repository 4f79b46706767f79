
/- Contract: the program's clone of a queue. -/
import Derived.Test.YtmfnfinbkdemkaaGreatPD
namespace Go.Proofs.YtmfnfinbkdemkaaGreat
open Go.RowKit Go.Lib

theorem own_apart {w : World} {b1 b2 s1 s2 n1 n2 : Nat} {e1 e2 : TypeId} {v1 v2 : Value} {x1 x2 : List Value} (h1 : w.ownsRow b1 e1 s1 v1 n1 x1) (h2 : w.ownsRow b2 e2 s2 v2 n2 x2) (he : e1 ≠ e2) : ∀ k, v1.ownBlock = some k → k ∉ v2.ownBlock.toList := fun k hk hm => by
  have hk2 := toList_of hm
  rcases h1.2 with ⟨rfl, _⟩ | ⟨g, cap, cur, rfl, hb, hg, _⟩
  · simp [Value.ownBlock] at hk
  · simp [Value.ownBlock] at hk
    subst hk
    exact ne_own hg h2 he hk2
theorem PartB.zero {W : World} {bl : List (SlR It)} {g cap : Nat} (h : Held LB 47 W g cap bl) : PartB W bl 0 W bl g cap :=
  ⟨rfl, fun j _ _ hj => by omega, fun j _ _ _ => rfl, h, h.lt, Upd.refl _ _⟩
theorem PartB.rows {W wr : World} {bl sl : List (SlR It)} {g cap : Nat} (h : PartB W bl bl.length wr sl g cap) : rowsOf sl = rowsOf bl := by
  have hl := h.len
  refine List.ext_getElem (by simp [rowsOf, hl]) fun j h1 h2 => ?_
  simp only [rowsOf, List.length_map] at h1 h2
  simp only [rowsOf, List.getElem_map]
  exact (h.done j h1 h2 h2).1
theorem PartB.its {W wr : World} {bl sl : List (SlR It)} {g cap : Nat} (h : PartB W bl bl.length wr sl g cap) : ∀ s ∈ sl, HasS LI wr s ∧ ∀ b, b < W.heap.size → AvS s b := fun s hs => by
  obtain ⟨j, hj, rfl⟩ := List.mem_iff_getElem.1 hs
  have hl := h.len
  exact (h.done j hj (by omega) (by omega)).2
theorem ClnAt.zero {W : World} {b0 : Nat} {rl : List RgR} {v : Value} (h : W.ownsRow b0 93 4 v rl.length (LR.flat rl)) : ClnAt W b0 rl 0 W rl v :=
  ⟨rfl, h, fun j _ _ hj => by omega, fun j _ _ _ => rfl, fun x hx => (h.lt x hx).2, Upd.refl _ _⟩
theorem ClnAt.ld {W wr : World} {b0 : Nat} {rl cs : List RgR} {v : Value} (h : ClnAt W b0 rl rl.length wr cs v) : cs.map RgR.rg = rl.map RgR.rg := by
  have hl := h.len
  refine List.ext_getElem (by simp [hl]) fun j h1 h2 => ?_
  simp only [List.length_map] at h1 h2
  simp only [List.getElem_map]
  exact (h.done j h1 h2 h2).1
theorem ClnAt.rgs {W wr : World} {b0 : Nat} {rl cs : List RgR} {v : Value} (h : ClnAt W b0 rl rl.length wr cs v) : ∀ r ∈ cs, HasR wr r ∧ ∀ b, b < W.heap.size → AvR r b := fun r hr => by
  obtain ⟨j, hj, rfl⟩ := List.mem_iff_getElem.1 hr
  have hl := h.len
  exact (h.done j hj (by omega) (by omega)).2

set_option maxRecDepth 100000 in
set_option maxHeartbeats 8000000 in
theorem lclone_has (l : LdR) (w : World) (h : HasD w l) (h8 : ∀ r ∈ l.rs.l, r.bk.l.length = 8) (ht : l.top.l.length ≤ 1000000) (hr : l.rs.l.length ≤ 1000) (hb : l.bot.l.length ≤ 1000000) (hi : ∀ r ∈ l.rs.l, ∀ s ∈ r.bk.l, s.l.length ≤ 1000000) :
    Calls Tryz.prog 69 #[encD l] w fun e w' => ∃ l', e = .returned (encD l') ∧ l'.ld = l.ld ∧ Own w.heap.size w' l' ∧ Upd [] w w' := by
  obtain ⟨ts, ⟨tl, ta, tc⟩, ⟨rl, ra, rc⟩, ⟨bl, ba, bc⟩, mv, cp⟩ := l
  simp only at h8 ht hr hb hi
  have HD := Lib.hid h
  have H8 := Lib.hid h8
  have HI := Lib.hid hi
  have HCT := Lib.hid (fun W (hu : Upd [] w W) => Clone_has ta tc tl W (h.stay hu).top.row (h.stay hu).top.nn ht)
  have HCB := Lib.hid (fun W (hu : Upd [] w W) => Clone_has ba bc bl W (h.stay hu).bot.row (h.stay hu).bot.nn hb)
  have HCR := Lib.hid (fun W (hu : Upd [] w W) => CloneR_has ra rc rl W (h.stay hu).rs.row (h.stay hu).rs.nn (by omega))
  unfold encD cellsD
  simp only at HCT HCB HCR ⊢
  have HFN : Hid (∀ (W : World) (ta' ba' ra' : Option Addr) (tc' bc' rc' : Nat) (cs : List RgR), cs.length = rl.length → cs.map RgR.rg = rl.map RgR.rg → Own w.heap.size W ⟨ts, ⟨tl, ta', tc'⟩, ⟨cs, ra', rc'⟩, ⟨bl, ba', bc'⟩, mv, cp⟩ → Upd [] w W → ∃ l' : LdR, Ending.returned (.agg #[.int .i64 ts, .slice ta' tl.length tc', .slice ra' rl.length rc', .slice ba' bl.length bc', .int .i64 mv, .int .i64 cp]) = .returned (.agg #[.int .i64 l'.ts, .slice l'.top.ad l'.top.l.length l'.top.cap, .slice l'.rs.ad l'.rs.l.length l'.rs.cap, .slice l'.bot.ad l'.bot.l.length l'.bot.cap, .int .i64 l'.mv, .int .i64 l'.cp]) ∧ l'.ld = (⟨ts, ⟨tl, ta, tc⟩, ⟨rl, ra, rc⟩, ⟨bl, ba, bc⟩, mv, cp⟩ : LdR).ld ∧ Own w.heap.size W l' ∧ Upd [] w W) := fun W ta' ba' ra' tc' bc' rc' cs e1 e2 e3 e4 => ⟨⟨ts, ⟨tl, ta', tc'⟩, ⟨cs, ra', rc'⟩, ⟨bl, ba', bc'⟩, mv, cp⟩, by simp only [e1], by simp only [LdR.ld, e2], e3, e4⟩
  obtain ⟨n, hn⟩ : ∃ n, n = rl.length := ⟨_, rfl⟩
  have HN := Lib.hid hn
  rw [← hn] at hr HCR HFN ⊢
  generalize htn : tl.length = tn at *
  generalize hbn : bl.length = bn at *
  have HTN := Lib.hid htn; have HBN := Lib.hid hbn
  clear h h8 hi hn htn hbn
  go_enter Tryz.func69, Tryz.ntmps69
  go_upto_region 1 with (fail)
  generalize hA : (Obj.cells #[.int .i64 ts, .slice ta tn tc, .slice ra n rc, .slice ba bn bc, .int .i64 mv, .int .i64 cp] 68 : Obj) = A
  generalize hC : (Obj.cells #[.int .i64 0, .slice none 0 0, .slice none 0 0, .slice none 0 0, .int .i64 0, .int .i64 0] 68 : Obj) = C
  obtain ⟨hu, b0, b2, hsz⟩ := two_boxes w A C
  generalize (w.alloc A).alloc C = W at *
  generalize hH : w.heap.size = H at *
  rw [← hA] at b0
  rw [← hC] at b2
  have HU := Lib.hid hu; have HB0 := Lib.hid b0; have HB2 := Lib.hid b2; have HH := Lib.hid hH; have HSZ := Lib.hid hsz
  obtain ⟨c0, c1, c2, c3, c4, c5⟩ := cells6 b0
  clear hu hA hC b0 b2 hH hsz c0 c2 c3 c4 c5
  go_upto_region 2 with (go_at_call 96; (with_reducible refine (HCT.out _ HU.out).mono ?_); rintro e w1 ⟨ta', tc', rfl, hown, hu1⟩; have HO1 := Lib.hid hown; have HU1 := Lib.hid hu1; have q0 := hu1.at HB0.out (by simp); have HQ0 := Lib.hid q0; obtain ⟨c0, c1, c2, c3, c4, c5⟩ := cells6 q0; obtain ⟨d0, d1, d2, d3, d4, d5⟩ := free6 q0; clear q0 c0 c2 c3 c4 c5 d0 d2 d3 d4 d5 hu1 hown)
  clear c1 d1
  have q0 : (w1.setCell ⟨H, 1, none⟩ (.slice ta' tn tc')).heap[H]? = some (.cells #[.int .i64 ts, .slice ta' tn tc', .slice ra n rc, .slice ba bn bc, .int .i64 mv, .int .i64 cp] 68 (0, 0)) := setCell_block HQ0.out _
  have hU1 := upd_set1 w1 H 1 (.slice ta' tn tc')
  have HO1 := Lib.hid (row_setCell HO1.out (ne_own HQ0.out HO1.out (by decide)) (.slice ta' tn tc') (a := ⟨H, 1, none⟩))
  have q2 := hU1.at (HU1.out.at HB2.out (by simp)) (by simp)
  have hup := (HU.out.thn HU1.out).new hU1 (by have := HH.out; omega)
  have hs1 : W.heap.size ≤ (w1.setCell ⟨H, 1, none⟩ (.slice ta' tn tc')).heap.size := Nat.le_trans HU1.out.size hU1.size
  generalize w1.setCell ⟨H, 1, none⟩ (.slice ta' tn tc') = W1 at *
  have HB0 := Lib.hid q0; have HB2 := Lib.hid q2; have HU := Lib.hid hup; have HS1 := Lib.hid hs1
  obtain ⟨c0, c1, c2, c3, c4, c5⟩ := cells6 q0
  clear hup q0 q2 hU1 hs1 HU1 HQ0 c0 c1 c2 c4 c5
  go_upto_region 3 with (go_at_call 96; (with_reducible refine (HCB.out _ HU.out).mono ?_); rintro e w2 ⟨ba', bc', rfl, hown, hu1⟩; have HO2 := Lib.hid hown; have HU1 := Lib.hid hu1; have q0 := hu1.at HB0.out (by simp); have HQ0 := Lib.hid q0; obtain ⟨c0, c1, c2, c3, c4, c5⟩ := cells6 q0; obtain ⟨d0, d1, d2, d3, d4, d5⟩ := free6 q0; clear q0 c0 c1 c2 c4 c5 d0 d1 d2 d4 d5 hu1 hown)
  clear c3 d3
  have q0 : (w2.setCell ⟨H, 3, none⟩ (.slice ba' bn bc')).heap[H]? = some (.cells #[.int .i64 ts, .slice ta' tn tc', .slice ra n rc, .slice ba' bn bc', .int .i64 mv, .int .i64 cp] 68 (0, 0)) := setCell_block HQ0.out _
  have hU1 := upd_set1 w2 H 3 (.slice ba' bn bc')
  have ho1 := HU1.out.row HO1.out (by simp)
  have HO1b := Lib.hid (row_setCell ho1 (ne_own HQ0.out ho1 (by decide)) (.slice ba' bn bc') (a := ⟨H, 3, none⟩))
  have HO2 := Lib.hid (row_setCell HO2.out (ne_own HQ0.out HO2.out (by decide)) (.slice ba' bn bc') (a := ⟨H, 3, none⟩))
  have HTL : Hid (∀ x, (Value.slice ta' tn tc').ownBlock = some x → x < W1.heap.size) := fun x hx => (HO1.out.lt x hx).2
  have q2 := hU1.at (HU1.out.at HB2.out (by simp)) (by simp)
  have hup := HU.out.thn (HU1.out.trans (T := []) (Upd.refl [] _) (by simp))
  have hup := hup.new hU1 (by have := HH.out; omega)
  have hs2 : W1.heap.size ≤ (w2.setCell ⟨H, 3, none⟩ (.slice ba' bn bc')).heap.size := Nat.le_trans HU1.out.size hU1.size
  generalize w2.setCell ⟨H, 3, none⟩ (.slice ba' bn bc') = W2 at *
  have HB0 := Lib.hid q0; have HB2 := Lib.hid q2; have HU := Lib.hid hup; have HS2 := Lib.hid hs2
  obtain ⟨c0, c1, c2, c3, c4, c5⟩ := cells6 q0
  clear hup q0 q2 hU1 hs2 HU1 HQ0 ho1 HO1 c0 c1 c3 c4 c5
  go_upto_region 4 with (go_at_call 97; (with_reducible refine (HCR.out _ HU.out).mono ?_); rintro e w3 ⟨ra', rc', rfl, hown, hu1⟩; have HO3 := Lib.hid hown; have HU1 := Lib.hid hu1; have q0 := hu1.at HB0.out (by simp); have HQ0 := Lib.hid q0; obtain ⟨c0, c1, c2, c3, c4, c5⟩ := cells6 q0; obtain ⟨d0, d1, d2, d3, d4, d5⟩ := free6 q0; clear q0 c0 c1 c3 c4 c5 d0 d1 d3 d4 d5 hu1 hown)
  clear c2 d2
  have q0 : (w3.setCell ⟨H, 2, none⟩ (.slice ra' n rc')).heap[H]? = some (.cells #[.int .i64 ts, .slice ta' tn tc', .slice ra' n rc', .slice ba' bn bc', .int .i64 mv, .int .i64 cp] 68 (0, 0)) := setCell_block HQ0.out _
  have hU1 := upd_set1 w3 H 2 (.slice ra' n rc')
  have ho1 := HU1.out.row HO1b.out (by simp)
  have ho2 := HU1.out.row HO2.out (by simp)
  have HO1c := Lib.hid (row_setCell ho1 (ne_own HQ0.out ho1 (by decide)) (.slice ra' n rc') (a := ⟨H, 2, none⟩))
  have HO2c := Lib.hid (row_setCell ho2 (ne_own HQ0.out ho2 (by decide)) (.slice ra' n rc') (a := ⟨H, 2, none⟩))
  have HO3 := Lib.hid (row_setCell HO3.out (ne_own HQ0.out HO3.out (by decide)) (.slice ra' n rc') (a := ⟨H, 2, none⟩))
  have q2 := hU1.at (HU1.out.at HB2.out (by simp)) (by simp)
  have hup := (HU.out.thn HU1.out).new hU1 (by have := HH.out; omega)
  have hs3 : W2.heap.size ≤ (w3.setCell ⟨H, 2, none⟩ (.slice ra' n rc')).heap.size := Nat.le_trans HU1.out.size hU1.size
  generalize w3.setCell ⟨H, 2, none⟩ (.slice ra' n rc') = W3 at *
  have HB0 := Lib.hid q0; have HB2 := Lib.hid q2; have HU := Lib.hid hup; have HS3 := Lib.hid hs3
  obtain ⟨c0, c1, c2, c3, c4, c5⟩ := cells6 q0
  clear hup q0 q2 hU1 hs3 HU1 HQ0 ho1 ho2 HO1b HO2 c0 c1 c3 c4 c5
  go_wp2_with fail
  clear c2
  have HZ : Hid (ClnAt W3 W2.heap.size rl 0 W3 rl (.slice ra' n rc')) := by
    have := HO3.out
    rw [HN.out] at this ⊢
    exact ClnAt.zero this
  go_loopg [21] n (fun gk vi wr => ∃ (k : Nat) (cs : List RgR), vi = .int .i64 k ∧ k + gk = n ∧ Hid (ClnAt W3 W2.heap.size rl k wr cs (.slice ra' n rc')))
  case atStart => exact ⟨0, rl, rfl, by omega, HZ⟩
  case round =>
    obtain ⟨k, cs, rfl, hkg, HC⟩ := hrel
    by_cases hlt : k < n
    · have hltz : (k : Int) < (n : Int) := by omega
      have hk1 : k < rl.length := by have := HN.out; omega
      have hkc : k < cs.length := by rw [HC.out.len]; exact hk1
      have HUN : Hid (Upd [] w wr) := HU.out.trans HC.out.upd (fun x hx hl => by
        have h1 := own_ge HO3.out x (toList_of hx)
        have h2 := HS2.out; have h3 := HS1.out; have h4 := HSZ.out; have h5 := HH.out
        omega)
      have q0 := HC.out.upd.at HB0.out (fun hm => ne_own HB0.out HO3.out (by decide) (toList_of hm))
      have HQ0 := Lib.hid q0
      obtain ⟨hnn, g, cap, ev, hbg, hheld⟩ := held_row (L := LR) HC.out.own (by omega)
      simp only [Value.slice.injEq] at ev
      obtain ⟨rfl, hev, rfl⟩ := ev
      clear hev
      obtain ⟨x3, z3⟩ := hheld.cell k hkc 3 _ rfl
      rw [show LR.k = 4 from rfl] at x3 z3
      have HHD := Lib.hid hheld
      have hD := HD.out.stay HUN.out
      have hRk := hD.rg _ (List.getElem_mem hk1)
      have h8k := H8.out _ (List.getElem_mem hk1)
      have HIK := Lib.hid (HI.out _ (List.getElem_mem hk1))
      have HRK := Lib.hid hRk.its
      have HCB2 := Lib.hid (CloneB_has rl[k].bk.ad rl[k].bk.cap rl[k].bk.l wr hRk.bk.row hRk.bk.nn (by omega))
      rw [HC.out.rest k hkc hk1 (Nat.le_refl _)] at x3
      have HST := Lib.hid (fun w2 w3 gb capb (sl : List (SlR It)) => HC.out.step (w2 := w2) (w3 := w3) (gb := gb) (capb := capb) hk1 (sl := sl))
      have HBS : Hid (rowsOf rl[k].bk.l = rl[k].rg.bs) := rfl
      clear hnn hbg hheld hD hRk
      generalize rl[k].bk.l = kl at *
      generalize rl[k].bk.ad = ka at *
      generalize rl[k].bk.cap = kc at *
      have HK8 := Lib.hid h8k
      rw [h8k] at x3 HCB2
      obtain ⟨c0, c1, c2, c3, c4, c5⟩ := cells6 q0
      clear q0 c0 c1 c3 c4 c5 h8k
      go_upto_region 8 with (go_at_call 98; (with_reducible refine HCB2.out.mono ?_); rintro e w5 ⟨va, vc, rfl, hown, hu1⟩)
      have hle5 : wr.heap.size ≤ w5.heap.size := hu1.size
      obtain ⟨hn8, gb, capb, ev, hbgb, hheldb⟩ := held_row (L := LB) hown (by omega)
      simp only [Value.slice.injEq] at ev
      obtain ⟨rfl, hev, rfl⟩ := ev
      clear hev
      have HPB := Lib.hid (PartB.zero hheldb)
      have HU5 := Lib.hid hu1
      have HGB := Lib.hid hbgb
      clear hn8 hown hu1 hbgb hheldb c2 x3 z3 hle5
      go_wp2_with fail
      generalize wr = wo at *
      go_loopg [33] 8 (fun gj vj wz => ∃ (j : Nat) (sl : List (SlR It)), vj = .int .i64 j ∧ j + gj = 8 ∧ Hid (PartB w5 kl j wz sl gb vc))
      case atStart => exact ⟨0, kl, rfl, by omega, HPB⟩
      case round =>
      obtain ⟨j, sl, rfl, hjg, HP⟩ := hrel
      have HUZ : Hid (Upd [] wo wr) := HU5.out.new HP.out.upd HGB.out
      by_cases hjl : j < 8
      · have hjz : (j : Int) < 8 := by omega
        have hj1 : j < kl.length := by have := HK8.out; omega
        have hjs : j < sl.length := by rw [HP.out.len]; exact hj1
        obtain ⟨y0, z0⟩ := HP.out.held.cell j hjs 0 _ rfl
        rw [show j * LB.k + 0 = j from by show j * 1 + 0 = _; omega] at y0 z0
        rw [HP.out.rest j hjs hj1 (Nat.le_refl _)] at y0
        have hij := (HRK.out _ (List.getElem_mem hj1)).stay HUZ.out
        have HCL := Lib.hid (Clone_has kl[j].ad kl[j].cap kl[j].l wr hij.row hij.nn (HIK.out _ (List.getElem_mem hj1)))
        have HSTP := Lib.hid (fun (s : SlR It) (hs : s.l = kl[j].l) w1 => HP.out.step (w1 := w1) hj1 s hs)
        have HF0 := Lib.hid (fun w1 (hu : Upd [] wr w1) => (by
          obtain ⟨cur, hc, _⟩ := (HP.out.held.keep hu (by simp)).ex
          exact free_block hc j : w1.frozen? ⟨gb, j, none⟩ = false))
        have HC0 := Lib.hid (fun w1 (hu : Upd [] wr w1) => hu.cell y0 (by simp))
        generalize kl[j].l = il at *
        generalize kl[j].ad = am at *
        generalize kl[j].cap = cm at *
        generalize hm : il.length = m at *
        have HMM := Lib.hid hm
        clear z0 hij hm
        go_upto_region 12 with (go_at_call 96; (with_reducible refine HCL.out.mono ?_); rintro e w1 ⟨va, vd, rfl, hown, hu⟩; have k0 := HC0.out w1 hu; have z0 := HF0.out w1 hu; have HO := Lib.hid hown; have HU1 := Lib.hid hu; clear hown hu)
        have HP2 : Hid (PartB w5 kl (j + 1) (w1.setCell ⟨gb, j, none⟩ (.slice va m vd)) (sl.set j ⟨il, va, vd⟩) gb vc) := by
          have := HSTP.out ⟨il, va, vd⟩ rfl w1 HU1.out (by simp only [SlR.v]; rw [HMM.out]; exact HO.out)
          simp only [SlR.v] at this
          rw [HMM.out] at this
          exact this
        generalize w1.setCell ⟨gb, j, none⟩ (.slice va m vd) = w2 at HP2 ⊢
        clear k0 z0 y0
        go_wp2_with fail
        go_roundg (8 - (j + 1))
        case measure => omega
        case rel => exact ⟨j + 1, _, by go_num, by omega, HP2⟩
      · have hjz : ¬ (j : Int) < 8 := by omega
        obtain rfl : j = 8 := by omega
        have hPB : PartB w5 kl kl.length wr sl gb vc := by rw [HK8.out]; exact HP.out
        obtain ⟨c0, c1, c2, c3, c4, c5⟩ := cells6 (HUZ.out.at HQ0.out (by simp))
        obtain ⟨x3, z3⟩ := (HHD.out.keep HUZ.out (by simp)).cell k hkc 3 _ rfl
        rw [show LR.k = 4 from rfl] at x3 z3
        have hsl8 : sl.length = 8 := by rw [HP.out.len, HK8.out]
        have HST2 := Lib.hid (HST.out wr _ gb vc sl HUZ.out hPB.held.has HGB.out (fun s hs => ⟨(hPB.its s hs).1, fun b hb => (hPB.its s hs).2 b (by have := HU5.out.size; omega)⟩) (hPB.rows.trans HBS.out) rfl)
        rw [hsl8] at HST2
        clear hPB hsl8 c0 c1 c3 c4 c5
        go_upto_region 14 with (fail)
        generalize wr.setCell ⟨g, k * 4 + 3, none⟩ (.slice (some ⟨gb, 0, none⟩) 8 vc) = w6 at HST2 ⊢
        clear c2 x3 z3
        go_wp2_with fail
        go_roundg (n - (k + 1))
        case measure => omega
        case rel => exact ⟨k + 1, _, by go_num, by omega, HST2⟩
    · have hltz : ¬ (k : Int) < (n : Int) := by omega
      have HCN : Hid (ClnAt W3 W2.heap.size rl rl.length wr cs (.slice ra' n rc')) := by
        have := HC.out
        rw [show k = rl.length by have := HN.out; omega] at this
        exact this
      have q0 := HC.out.upd.at HB0.out (fun hm => ne_own HB0.out HO3.out (by decide) (toList_of hm))
      have q2 := HC.out.upd.at HB2.out (fun hm => ne_own HB2.out HO3.out (by decide) (toList_of hm))
      have HQ2 := Lib.hid q2
      obtain ⟨c0, c1, c2, c3, c4, c5⟩ := cells6 q0
      obtain ⟨e0, e1, e2, e3, e4, e5⟩ := cells6 q2
      obtain ⟨z0, z1, z2, z3, z4, z5⟩ := free6 q2
      clear q0 q2
      go_wp2_with fail
      have p2 := stored6 HQ2.out (.int .i64 ts) (.slice ta' tn tc') (.slice ra' n rc') (.slice ba' bn bc') (.int .i64 mv) (.int .i64 cp)
      have hU5 := upd_set6 wr (H + 1) (.int .i64 ts) (.slice ta' tn tc') (.slice ra' n rc') (.slice ba' bn bc') (.int .i64 mv) (.int .i64 cp)
      generalize (((((wr.setCell ⟨H + 1, 0, none⟩ (.int .i64 ts)).setCell ⟨H + 1, 1, none⟩ (.slice ta' tn tc')).setCell ⟨H + 1, 2, none⟩ (.slice ra' n rc')).setCell ⟨H + 1, 3, none⟩ (.slice ba' bn bc')).setCell ⟨H + 1, 4, none⟩ (.int .i64 mv)).setCell ⟨H + 1, 5, none⟩ (.int .i64 cp) = wf at p2 hU5 ⊢
      obtain ⟨r0, r1, r2, r3, r4, r5⟩ := cells6 p2
      have s1 := HS1.out; have s2 := HS2.out; have s3 := HS3.out; have sz := HSZ.out; have hh := HH.out
      have hcl : cs.length = n := by rw [HCN.out.len, HN.out]
      have hT := hU5.row (HCN.out.upd.row HO1c.out (own_apart HO1c.out HO3.out (by decide))) (fun x hx hm => ne_own HQ2.out (HCN.out.upd.row HO1c.out (own_apart HO1c.out HO3.out (by decide))) (by decide) (by simp only [List.mem_singleton] at hm; rw [← hm]; exact hx))
      have hBt := hU5.row (HCN.out.upd.row HO2c.out (own_apart HO2c.out HO3.out (by decide))) (fun x hx hm => ne_own HQ2.out (HCN.out.upd.row HO2c.out (own_apart HO2c.out HO3.out (by decide))) (by decide) (by simp only [List.mem_singleton] at hm; rw [← hm]; exact hx))
      have hR := hU5.row HCN.out.own (fun x hx hm => ne_own HQ2.out HCN.out.own (by decide) (by simp only [List.mem_singleton] at hm; rw [← hm]; exact hx))
      refine bodyPost_ret (v := .agg #[.int .i64 ts, .slice ta' tn tc', .slice ra' n rc', .slice ba' bn bc', .int .i64 mv, .int .i64 cp]) (by simp [results, Tryz.results69, go_sem, r0, r1, r2, r3, r4, r5]) rfl ?_
      rw [HH.out]
      refine HFN.out wf ta' ba' ra' tc' bc' rc' cs hcl HCN.out.ld ⟨?_, ?_, ?_, ?_, ?_, ?_, ?_⟩ ?_
      · simp only [SlR.v]; rw [HTN.out]; exact row_base hT (by omega)
      · simp only [SlR.v]
        have := row_base (base' := H) hR (by omega)
        rw [hcl] at this ⊢
        exact this
      · simp only [SlR.v]; rw [HBN.out]; exact row_base hBt (by omega)
      · intro r hr
        obtain ⟨g1, g2⟩ := HCN.out.rgs r hr
        exact ⟨g1.keep1 hU5 (g2 _ (by omega)), fun b hb => g2 b (by omega)⟩
      · intro x hx
        simp only [SlR.v, HTN.out] at hx
        have hx1 := HTL.out x hx
        exact ⟨av_own (w := wf) (base := W1.heap.size) (s := ⟨bl, ba', bc'⟩) (by simp only [SlR.v]; rw [HBN.out]; exact hBt) hx1, fun r hr => (HCN.out.rgs r hr).2 x (by omega)⟩
      · intro x hx
        simp only [SlR.v, HBN.out] at hx
        have hx1 := HO2c.out.lt x hx
        refine ⟨fun _ a ea he => ?_, fun r hr => (HCN.out.rgs r hr).2 x (by omega)⟩
        simp only at ea
        have := HTL.out a.block (by rw [ea]; rfl)
        omega
      · intro x hx r hr
        simp only [SlR.v, hcl] at hx
        exact (HCN.out.rgs r hr).2 x (HO3.out.lt x hx).2
      · exact (HU.out.trans HCN.out.upd (fun x hx hl => by
          have h1 := own_ge HO3.out x (toList_of hx)
          omega)).new hU5 (by omega)
end Go.Proofs.YtmfnfinbkdemkaaGreat
