/- Contracts: the program's Len, New; the tests within Valid. -/
/- Contracts: the tests on times within Valid. -/
import Derived.Test.YtneodiemgemhfaaGreatPZ
namespace Go.Proofs.YtneodiemgemhfaaGreat
open Go.RowKit Go.Lib

set_option maxRecDepth 100000 in
set_option maxHeartbeats 4000000 in
theorem PLen_has (l : LdR) (w : World) (h : HasD w l) (hl : l.rs.l.length ≤ 1000) (hs : lenD l.ld ≤ 100000) (hb : ∀ r ∈ l.rs.l, r.bk.l.length ≤ 1000000) (hi : ∀ r ∈ l.rs.l, ∀ s ∈ r.bk.l, s.l.length ≤ 1000000) :
    Calls Tryz.prog 21 #[encD l] w fun e w' => e = .returned (.int .i64 (lenD l.ld : Nat)) ∧ Upd [] w w' := by
  obtain ⟨ts, ⟨tl, ta, tc⟩, ⟨rl, ra, rc⟩, ⟨bl, ba, bc⟩, mv, cp⟩ := l
  have HD := Lib.hid h
  have HB := Lib.hid hb; have HI := Lib.hid hi
  have HLD : Hid (lenD (LdR.ld ⟨ts, ⟨tl, ta, tc⟩, ⟨rl, ra, rc⟩, ⟨bl, ba, bc⟩, mv, cp⟩) = tl.length + bl.length + lenRs (rl.map RgR.rg) rl.length) := by
    show _ = _
    simp [lenD, LdR.ld, lenRs, List.take_of_length_le]
  have HLE : Hid (∀ k, lenRs (rl.map RgR.rg) k ≤ lenD (LdR.ld ⟨ts, ⟨tl, ta, tc⟩, ⟨rl, ra, rc⟩, ⟨bl, ba, bc⟩, mv, cp⟩)) := fun k => by
    have := lenRs_le (rl.map RgR.rg) k
    simp only [lenD, LdR.ld]
    omega
  have HSU : Hid (∀ k (hk : k < rl.length), lenRs (rl.map RgR.rg) (k + 1) = lenRs (rl.map RgR.rg) k + lenL rl[k].rg.bs) := fun k hk => by
    rw [lenRs_succ (by simpa using hk)]; simp
  have HL0 : Hid (lenRs (rl.map RgR.rg) 0 = 0) := rfl
  unfold encD cellsD
  simp only at hl ⊢
  rw [HLD.out] at hs HLE ⊢
  clear h hb hi HLD
  generalize lenRs (rl.map RgR.rg) = f at *
  obtain ⟨n, hn⟩ : ∃ n, n = rl.length := ⟨_, rfl⟩
  have HN := Lib.hid hn
  rw [← hn] at hl hs HLE ⊢
  generalize tl.length = tn at *
  generalize bl.length = bn at *
  clear hn
  go_enter Tryz.func21, Tryz.ntmps21
  go_upto_region 1 with (fail)
  have hu := (Upd.refl [] w).alloc (.cells #[.int .i64 ts, .slice ta tn tc, .slice ra n rc, .slice ba bn bc, .int .i64 mv, .int .i64 cp] 25)
  have b0 := heap_alloc1 w (.cells #[.int .i64 ts, .slice ta tn tc, .slice ra n rc, .slice ba bn bc, .int .i64 mv, .int .i64 cp] 25)
  generalize w.alloc (.cells #[.int .i64 ts, .slice ta tn tc, .slice ra n rc, .slice ba bn bc, .int .i64 mv, .int .i64 cp] 25) = W at *
  generalize w.heap.size = P at *
  have HU := Lib.hid hu; have HB0 := Lib.hid b0
  obtain ⟨c0, c1, c2, c3, c4, c5⟩ := cells6 b0
  clear hu b0
  have hw0 : IntKind.i64.wrap ((tn : Int) + (bn : Int)) = (tn : Int) + (bn : Int) := by rw [IntKind.wrap_i64]; omega
  go_wp2_with fail
  clear c0 c1 c2 c3 c4 c5
  go_loopg [3, 16] n (fun gk vc vi wr => ∃ k : Nat, vi = .int .i64 k ∧ vc = .int .i64 (tn + bn + f k : Nat) ∧ k + gk = n ∧ Hid (Upd [] W wr))
  case atStart => exact ⟨0, rfl, by rw [HL0.out]; simp, by omega, Lib.hid (Upd.refl _ _)⟩
  case round =>
    obtain ⟨k, rfl, rfl, hkg, HUR⟩ := hrel
    have hle := HLE.out k
    obtain ⟨c0, c1, c2, c3, c4, c5⟩ := cells6 (HUR.out.at HB0.out (by simp))
    by_cases hlt : k < n
    · have hltz : (k : Int) < (n : Int) := by omega
      have hk1 : k < rl.length := by have := HN.out; omega
      have hle2 := HLE.out (k + 1)
      have HSK := Lib.hid (HSU.out k hk1)
      rw [HSK.out] at hle2
      have hD := HD.out.stay (HU.out.thn HUR.out)
      obtain ⟨b, off, hbo, x0, x1, x2, x3⟩ := hD.rs.row.rung k hk1
      simp only at hbo x0 x1 x2 x3
      subst hbo
      have hcall := fun W' (hu : Upd [] wr W') => Len_has rl[k] W' ((hD.rg _ (List.getElem_mem hk1)).stay hu) (HB.out _ (List.getElem_mem hk1)) (by omega) (HI.out _ (List.getElem_mem hk1))
      unfold encR at hcall
      generalize lenL rl[k].rg.bs = m at *
      generalize rl[k].bk.l.length = y at *
      generalize rl[k].bk.ad = yad at *
      generalize rl[k].bk.cap = yc at *
      generalize rl[k].fr = yf at *
      generalize rl[k].wd = yw at *
      generalize rl[k].cu = yu at *
      have HCALL := Lib.hid hcall
      have hw : IntKind.i64.wrap (((tn + bn + f k : Nat) : Int) + (m : Int)) = ((tn + bn + f k + m : Nat) : Int) := by rw [IntKind.wrap_i64]; omega
      clear hcall hD
      generalize htot : tn + bn + f k = tot at *
      have HTOT := Lib.hid htot
      clear htot
      go_upto_region 5 with (fail)
      have bq := heap_alloc1 wr (.cells #[.int .i64 yf, .int .i64 yw, .int .i64 yu, .slice yad y yc] 53)
      have hu4 := (Upd.refl [] wr).alloc (.cells #[.int .i64 yf, .int .i64 yw, .int .i64 yu, .slice yad y yc] 53)
      generalize wr.alloc (.cells #[.int .i64 yf, .int .i64 yw, .int .i64 yu, .slice yad y yc] 53) = W4 at *
      generalize wr.heap.size = Q at *
      clear c0 c1 c2 c3 c4 c5 x0 x1 x2 x3
      obtain ⟨x0, x1, x2, x3⟩ := cells4 bq
      have HU4 := Lib.hid hu4
      clear bq hu4
      go_upto_region 6 with (go_at_call 52; (with_reducible refine (HCALL.out _ HU4.out).mono ?_); rintro e w1 ⟨rfl, hu1⟩)
      have HU1 := Lib.hid ((HUR.out.thn HU4.out).thn hu1)
      clear x0 x1 x2 x3 hu1
      go_wp2_with fail
      go_roundg (n - (k + 1))
      case measure => omega
      case rel => exact ⟨k + 1, by go_num, by rw [HSK.out, ← HTOT.out]; go_num, by omega, HU1⟩
    · have hltz : ¬ (k : Int) < (n : Int) := by omega
      obtain rfl : n = k := by omega
      go_wp2_with fail
      go_ret
      exact ⟨rfl, HU.out.thn HUR.out⟩

set_option maxRecDepth 100000 in
set_option maxHeartbeats 2000000 in
theorem LNew_has (w : World) : Calls Tryz.prog 23 #[] w (GaveD w newL) := by
  go_enter Tryz.func23, Tryz.ntmps23
  go_upto_region 1 with (fail)
  have b0 := heap_alloc1 w (.cells #[.int .i64 0, .slice none 0 0, .slice none 0 0, .slice none 0 0, .int .i64 0, .int .i64 0] 25)
  have hu := (Upd.refl [] w).alloc (.cells #[.int .i64 0, .slice none 0 0, .slice none 0 0, .slice none 0 0, .int .i64 0, .int .i64 0] 25)
  generalize w.alloc (.cells #[.int .i64 0, .slice none 0 0, .slice none 0 0, .slice none 0 0, .int .i64 0, .int .i64 0] 25) = W at *
  generalize hP : w.heap.size = P at *
  have HB0 := Lib.hid b0; have HU := Lib.hid hu; have HP := Lib.hid hP
  obtain ⟨c0, c1, c2, c3, c4, c5⟩ := cells6 b0
  obtain ⟨z0, z1, z2, z3, z4, z5⟩ := free6 b0
  clear b0 hu hP
  go_wp2_with fail
  have p2 := stored6 HB0.out (.int .i64 0) (.slice none 0 0) (.slice none 0 0) (.slice none 0 0) (.int .i64 0) (.int .i64 0)
  have hU5 := upd_set6 W P (.int .i64 0) (.slice none 0 0) (.slice none 0 0) (.slice none 0 0) (.int .i64 0) (.int .i64 0)
  with_reducible generalize (((((W.setCell ⟨P, 0, none⟩ (.int .i64 0)).setCell ⟨P, 1, none⟩ (.slice none 0 0)).setCell ⟨P, 2, none⟩ (.slice none 0 0)).setCell ⟨P, 3, none⟩ (.slice none 0 0)).setCell ⟨P, 4, none⟩ (.int .i64 0)).setCell ⟨P, 5, none⟩ (.int .i64 0) = w4 at p2 hU5 ⊢
  obtain ⟨r0, r1, r2, r3, r4, r5⟩ := cells6 p2
  exact bodyPost_ret (v := encD ⟨0, nilS, ⟨[], none, 0⟩, nilS, 0, 0⟩) (by simp [encD, cellsD, nilS, results, Tryz.results23, go_sem, r0, r1, r2, r3, r4, r5]) rfl
    ⟨_, rfl, rfl, ⟨hasS_nil _ _, hasS_nil _ _, fun r hr => by simp at hr, hasS_nil _ _⟩, fun b _ => ⟨avS_nil _ _ _, avS_nil _ _ _, fun r hr => by simp at hr, avS_nil _ _ _⟩, HU.out.new hU5 (by have := HP.out; omega)⟩
end Go.Proofs.YtneodiemgemhfaaGreat
namespace Go.Proofs.YtneodiemgemhfaaGreat
open Go.RowKit Go.Lib

def outB (f t : Int) (it : It) : Bool := decide (it.t < f) || decide (t ≤ it.t)
set_option maxRecDepth 100000 in
set_option maxHeartbeats 2000000 in
theorem within1_has (A B : Nat) (f t : Int) (it : It) (w : World) (hA : w.cell? ⟨A, 0, none⟩ = some (.int .i64 f)) (hB : w.cell? ⟨B, 0, none⟩ = some (.int .i64 t)) :
    Calls Tryz.prog 90 #[aggI it, .pointer (some ⟨A, 0, none⟩), .pointer (some ⟨B, 0, none⟩)] w fun e w' => e = .returned (.bool (outB f t it)) ∧ Upd [] w w' := by
  obtain ⟨i0, i1, i2⟩ := it
  unfold aggI outB
  simp only
  by_cases h1 : i0 < f
  · have d1 : decide (i0 < f) = true := by simpa using h1
    rw [d1, Bool.true_or]
    go_enter Tryz.func90, Tryz.ntmps90
    go_upto_region 1 with (fail)
    have hu := (Upd.refl [] w).alloc (.cells #[.int .i64 i0, .int .i64 i1, .int .i64 i2] 36)
    have b0 := heap_alloc1 w (.cells #[.int .i64 i0, .int .i64 i1, .int .i64 i2] 36)
    have k1 := hu.cell hA (by simp)
    have k2 := hu.cell hB (by simp)
    generalize w.alloc (.cells #[.int .i64 i0, .int .i64 i1, .int .i64 i2] 36) = W at *
    generalize w.heap.size = P at *
    obtain ⟨c0, c1, c2⟩ := cells3 b0
    have HU := Lib.hid hu
    clear hu b0 hA hB
    go_wp2_with fail
    go_ret
    exact ⟨rfl, HU.out⟩
  · have d1 : decide (i0 < f) = false := by simpa using h1
    rw [d1, Bool.false_or]
    go_enter Tryz.func90, Tryz.ntmps90
    go_upto_region 1 with (fail)
    have hu := (Upd.refl [] w).alloc (.cells #[.int .i64 i0, .int .i64 i1, .int .i64 i2] 36)
    have b0 := heap_alloc1 w (.cells #[.int .i64 i0, .int .i64 i1, .int .i64 i2] 36)
    have k1 := hu.cell hA (by simp)
    have k2 := hu.cell hB (by simp)
    generalize w.alloc (.cells #[.int .i64 i0, .int .i64 i1, .int .i64 i2] 36) = W at *
    generalize w.heap.size = P at *
    obtain ⟨c0, c1, c2⟩ := cells3 b0
    have HU := Lib.hid hu
    clear hu b0 hA hB
    go_wp2_with fail
    go_ret
    exact ⟨rfl, HU.out⟩
/-- The index of the first that a test strikes, or -1. -/
def firstI (p : It → Bool) (l : List It) : Int := if l.any p then ((l.findIdx p : Nat) : Int) else -1
theorem firstI_at {p : It → Bool} {l : List It} {k : Nat} (hk : k < l.length) (h0 : ∀ j (hj : j < k), p (l[j]'(by omega)) = false) (h1 : p l[k] = true) : firstI p l = k := by
  have : l.findIdx p = k := (List.findIdx_eq hk).2 ⟨h1, fun j hj => by rw [h0 j hj]⟩
  rw [firstI, if_pos (List.any_eq_true.2 ⟨_, List.getElem_mem hk, h1⟩), this]
theorem firstI_none {p : It → Bool} {l : List It} (h : ∀ j (hj : j < l.length), p l[j] = false) : firstI p l = -1 := by
  rw [firstI, if_neg]
  intro ha
  obtain ⟨x, hx, h2⟩ := List.any_eq_true.1 ha
  obtain ⟨j, hj, rfl⟩ := List.mem_iff_getElem.1 hx
  rw [h j hj] at h2
  simp at h2
theorem firstI_ge {p : It → Bool} {l : List It} : decide (0 ≤ firstI p l) = l.any p := by
  unfold firstI
  by_cases h : l.any p = true
  · rw [if_pos h, h]; simp
  · rw [if_neg h]
    simp only [Bool.not_eq_true] at h
    rw [h]; decide
set_option maxRecDepth 100000 in
set_option maxHeartbeats 2000000 in
theorem IndexFunc_has (a : Option Addr) (c : Nat) (l : List It) (A B : Nat) (f t : Int) (w : World) (hr : Row LI w a l) (hl : l.length ≤ 1000000) (hA : w.cell? ⟨A, 0, none⟩ = some (.int .i64 f)) (hB : w.cell? ⟨B, 0, none⟩ = some (.int .i64 t)) :
    Calls Tryz.prog 103 #[.slice a l.length c, .func (.func 90) #[] #[.pointer (some ⟨A, 0, none⟩), .pointer (some ⟨B, 0, none⟩)]] w fun e w' => e = .returned (.int .i64 (firstI (outB f t) l)) ∧ Upd [] w w' := by
  have HR := Lib.hid hr
  have HC := Lib.hid (fun (x : It) W (hu : Upd [] w W) => within1_has A B f t x W (hu.cell hA (by simp)) (hu.cell hB (by simp)))
  have H1 : Hid (∀ k (hk : k < l.length), (∀ j (hj : j < k) (h : j < l.length), outB f t l[j] = false) → outB f t l[k] = true → firstI (outB f t) l = k) := fun k hk h0 h1 => firstI_at hk (fun j hj => h0 j hj (by omega)) h1
  have H2 : Hid ((∀ j (hj : j < l.length), outB f t l[j] = false) → firstI (outB f t) l = -1) := fun h => firstI_none h
  obtain ⟨r, hr2⟩ : ∃ r, r = firstI (outB f t) l := ⟨_, rfl⟩
  rw [← hr2] at H1 H2 ⊢
  obtain ⟨n, hn⟩ : ∃ n, n = l.length := ⟨_, rfl⟩
  have HN := Lib.hid hn
  rw [← hn] at hl ⊢
  clear hr hA hB hr2 hn
  have eg : ∀ args w, (callFunc 90 args).run Tryz.prog w = .ok (.enter 90 args) w := enters_of Tryz.func90 (by kernel_rfl) rfl
  go_enter Tryz.func103, Tryz.ntmps103
  go_wp2_with fail
  go_loopg [8] n (fun gk vi wr => ∃ k : Nat, vi = .int .i64 k ∧ k + gk = n ∧ Hid (Upd [] w wr) ∧ Hid (∀ j (hj : j < k) (h : j < l.length), outB f t l[j] = false))
  case atStart => exact ⟨0, rfl, by omega, Upd.refl _ _, fun j hj => by omega⟩
  case round =>
    obtain ⟨k, rfl, hkg, HU, HF⟩ := hrel
    by_cases hlt : k < n
    · have hltz : (k : Int) < (n : Int) := by omega
      have hk1 : k < l.length := by have := HN.out; omega
      obtain ⟨b, off, hbo, x0, x1, x2⟩ := (HR.out.stay HU.out).item k hk1
      subst hbo
      have HCK := Lib.hid (HC.out l[k] wr HU.out)
      have HH1 := Lib.hid (H1.out k hk1)
      have HNX : Hid (outB f t l[k] = false → ∀ j (hj : j < k + 1) (h : j < l.length), outB f t l[j] = false) := fun he j hj h => by
        by_cases e : j = k
        · subst e; exact he
        · exact HF.out j (by omega) h
      have HIT : Hid (aggI l[k] = .agg #[.int .i64 l[k].t, .int .i64 l[k].q, .int .i64 l[k].s]) := rfl
      rw [HIT.out] at HCK
      clear HIT
      generalize outB f t l[k] = bb at *
      generalize l[k].t = y0 at *
      generalize l[k].q = y1 at *
      generalize l[k].s = y2 at *
      cases bb with
      | true =>
        go_wp2_with (go_at_call 90; go_loud ((with_reducible refine HCK.out.mono ?_); rintro e w1 ⟨rfl, hu1⟩; have HU1 := Lib.hid (HU.out.thn hu1); clear hu1))
        go_ret
        exact ⟨ret_int (HH1.out HF.out (by first | rfl | trivial)).symm, HU1.out⟩
      | false =>
        go_wp2_with (go_at_call 90; go_loud ((with_reducible refine HCK.out.mono ?_); rintro e w1 ⟨rfl, hu1⟩; have HU1 := Lib.hid (HU.out.thn hu1); clear hu1))
        go_roundg (gk - 1)
        case measure => omega
        case rel => exact ⟨k + 1, by go_num, by omega, HU1, HNX.out (by first | rfl | trivial)⟩
    · have hltz : ¬ (k : Int) < (n : Int) := by omega
      have HE := Lib.hid (H2.out (fun j hj => HF.out j (by have := HN.out; omega) hj))
      go_wp2_with fail
      go_ret
      exact ⟨ret_int HE.out.symm, HU.out⟩
end Go.Proofs.YtneodiemgemhfaaGreat
