/- Contract: Small of the laws of layer 8. -/
import Derived.Test.YtneodiemgemhfaaGreatQU
import Derived.Test.YtneodiemgemhfaaGreatUJ
namespace Go.Proofs.YtneodiemgemhfaaGreat
open Go.RowKit Go.Lib

/-- What Small of a queue tells. -/
structure SmD (l : LdR) : Prop where
  top : l.top.l.length ≤ 200
  bot : l.bot.l.length ≤ 200
  rs : l.rs.l.length ≤ 10
  rg : ∀ i (h : i < l.rs.l.length), (l.rs.l[i]).bk.l.length ≤ 20 ∧ ∀ s ∈ (l.rs.l[i]).bk.l, s.l.length ≤ 200
theorem sum_le {α : Type} (f : α → Nat) (c : Nat) : ∀ l : List α, (∀ x ∈ l, f x ≤ c) → (l.map f).sum ≤ l.length * c
  | [], _ => by simp
  | x :: xs, h => by
    have h1 := h x List.mem_cons_self
    have h2 := sum_le f c xs (fun y hy => h y (List.mem_cons_of_mem _ hy))
    simp only [List.map_cons, List.sum_cons, List.length_cons, Nat.add_mul, Nat.one_mul]
    omega
theorem SmD.sz {l : LdR} (h : SmD l) : Sz l := by
  have hln : ∀ r ∈ l.rs.l, lenL r.rg.bs ≤ 4000 := fun r hr => by
    obtain ⟨i, hi, rfl⟩ := List.mem_iff_getElem.1 hr
    obtain ⟨h1, h2⟩ := h.rg i hi
    have := sum_le (List.length : List It → Nat) 200 (rowsOf (l.rs.l[i]).bk.l) (fun b hb => by
      obtain ⟨s, hs, rfl⟩ := List.mem_map.1 hb
      exact h2 s hs)
    rw [rowsOf_length] at this
    have h3 : (l.rs.l[i]).bk.l.length * 200 ≤ 20 * 200 := Nat.mul_le_mul_right _ h1
    show (List.map List.length (rowsOf (l.rs.l[i]).bk.l)).sum ≤ 4000
    omega
  have hall : lenD l.ld ≤ 100000 := by
    have h1 := sum_le (fun r : Rg => lenL r.bs) 4000 l.ld.rs (fun r hr => by
      obtain ⟨x, hx, rfl⟩ := List.mem_map.1 hr
      exact hln x hx)
    have h2 := h.top; have h3 := h.bot; have h4 := h.rs
    have h5 : l.ld.rs.length = l.rs.l.length := by simp [LdR.ld]
    have h6 : l.ld.rs.length * 4000 ≤ 10 * 4000 := Nat.mul_le_mul_right _ (by omega)
    unfold lenD
    have e1 : l.ld.top = l.top.l := rfl
    have e2 : l.ld.bot = l.bot.l := rfl
    rw [e1, e2]
    omega
  have h2 := h.top; have h3 := h.bot; have h4 := h.rs
  refine ⟨by omega, by omega, by omega, fun r hr => ?_, fun r hr s hs => ?_, fun r hr => Nat.le_trans (hln r hr) (by decide), by rw [← lenD_its]; exact hall⟩
  · obtain ⟨i, hi, rfl⟩ := List.mem_iff_getElem.1 hr
    have := (h.rg i hi).1; omega
  · obtain ⟨i, hi, rfl⟩ := List.mem_iff_getElem.1 hr
    have := (h.rg i hi).2 s hs; omega
/-- How great an argument may be: no slice is longer than a machine's. -/
structure MaxD (l : LdR) : Prop where
  top : l.top.l.length ≤ 9223372036854775807
  bot : l.bot.l.length ≤ 9223372036854775807
  rs : l.rs.l.length ≤ 9223372036854775807
  rg : ∀ r ∈ l.rs.l, r.bk.l.length ≤ 9223372036854775807 ∧ ∀ s ∈ r.bk.l, s.l.length ≤ 9223372036854775807
def LSmallPost (l : LdR) (w : World) (e : Ending) (w' : World) : Prop := ∃ b, e = .returned (.bool b) ∧ (b = true → SmD l) ∧ Upd [] w w'
set_option maxRecDepth 100000 in
set_option maxHeartbeats 4000000 in
theorem LSmall_has (l : LdR) (w : World) (h : HasD w l) (hm : MaxD l) : Calls Tryz.prog 9 #[encD l] w (LSmallPost l w) := by
  have HD := Lib.hid h
  have HMX := Lib.hid hm
  have HOK : Hid (∀ W b, SmD l → Upd [] w W → LSmallPost l w (.returned (.bool b)) W) := fun W b hs hu => ⟨b, rfl, fun _ => hs, hu⟩
  have HNO : Hid (∀ W, Upd [] w W → LSmallPost l w (.returned (.bool false)) W) := fun W hu => ⟨false, rfl, fun h => by simp at h, hu⟩
  have HLL : Hid (encD l = .agg #[.int .i64 l.ts, .slice l.top.ad l.top.l.length l.top.cap, .slice l.rs.ad l.rs.l.length l.rs.cap, .slice l.bot.ad l.bot.l.length l.bot.cap, .int .i64 l.mv, .int .i64 l.cp]) := rfl
  rw [HLL.out]
  obtain ⟨tn, htn⟩ : ∃ n, n = l.top.l.length := ⟨_, rfl⟩
  obtain ⟨n, hn⟩ : ∃ n, n = l.rs.l.length := ⟨_, rfl⟩
  obtain ⟨bn, hbn⟩ : ∃ n, n = l.bot.l.length := ⟨_, rfl⟩
  have HTN := Lib.hid htn; have HN := Lib.hid hn; have HBN := Lib.hid hbn
  rw [← htn, ← hn, ← hbn]
  clear h hm HLL htn hn hbn
  go_enter Tryz.func9, Tryz.ntmps9
  go_upto_region 1 with (fail)
  have hu := (Upd.refl [] w).alloc (.cells #[.int .i64 l.ts, .slice l.top.ad tn l.top.cap, .slice l.rs.ad n l.rs.cap, .slice l.bot.ad bn l.bot.cap, .int .i64 l.mv, .int .i64 l.cp] 25)
  have b0 := heap_alloc1 w (.cells #[.int .i64 l.ts, .slice l.top.ad tn l.top.cap, .slice l.rs.ad n l.rs.cap, .slice l.bot.ad bn l.bot.cap, .int .i64 l.mv, .int .i64 l.cp] 25)
  generalize w.alloc (.cells #[.int .i64 l.ts, .slice l.top.ad tn l.top.cap, .slice l.rs.ad n l.rs.cap, .slice l.bot.ad bn l.bot.cap, .int .i64 l.mv, .int .i64 l.cp] 25) = W at *
  generalize w.heap.size = P at *
  have HU := Lib.hid hu; have HB0 := Lib.hid b0
  obtain ⟨c0, c1, c2, c3, c4, c5⟩ := cells6 b0
  clear hu b0
  by_cases h1 : 200 < tn
  · have d1 : decide (200 < tn) = true := decide_eq_true h1
    have d1' : decide ((200 : Int) < (tn : Int)) = true := decide_eq_true (by omega)
    go_wp2_with fail
    go_ret
    exact HNO.out _ HU.out
  have d1 : decide (200 < tn) = false := decide_eq_false h1
  have d1' : decide ((200 : Int) < (tn : Int)) = false := decide_eq_false (by omega)
  by_cases h2 : 200 < bn
  · have d2 : decide (200 < bn) = true := decide_eq_true h2
    have d2' : decide ((200 : Int) < (bn : Int)) = true := decide_eq_true (by omega)
    go_wp2_with fail
    go_ret
    exact HNO.out _ HU.out
  have d2 : decide (200 < bn) = false := decide_eq_false h2
  have d2' : decide ((200 : Int) < (bn : Int)) = false := decide_eq_false (by omega)
  by_cases h3 : 10 < n
  · have d3 : decide (10 < n) = true := decide_eq_true h3
    have d3' : decide ((10 : Int) < (n : Int)) = true := decide_eq_true (by omega)
    go_wp2_with fail
    go_ret
    exact HNO.out _ HU.out
  have d3 : decide (10 < n) = false := decide_eq_false h3
  have d3' : decide ((10 : Int) < (n : Int)) = false := decide_eq_false (by omega)
  have HS : Hid (tn ≤ 200 ∧ bn ≤ 200 ∧ n ≤ 10) := ⟨by omega, by omega, by omega⟩
  clear h1 h2 h3
  go_upto_region 3 with (fail)
  clear d1 d1' d2 d2' d3 d3' c0 c1 c2 c3 c4 c5
  go_wp2_with fail
  go_loopg [3] n (fun gk vi wr => ∃ i : Nat, vi = .int .i64 i ∧ i + gk = n ∧ Hid (∀ j (h : j < l.rs.l.length), j < i → (l.rs.l[j]).bk.l.length ≤ 20 ∧ ∀ s ∈ (l.rs.l[j]).bk.l, s.l.length ≤ 200) ∧ Hid (Upd [] W wr))
  case atStart => exact ⟨0, rfl, by omega, fun j _ hj => by omega, Upd.refl _ _⟩
  case round =>
    obtain ⟨i, rfl, hig, HK, HUR⟩ := hrel
    have h10 := HS.out.2.2
    obtain ⟨c0, c1, c2, c3, c4, c5⟩ := cells6 (HUR.out.at HB0.out (by simp))
    by_cases hlt : i < n
    · have hltz : (i : Int) < (n : Int) := by omega
      have hi1 : i < l.rs.l.length := by have := HN.out; omega
      obtain ⟨b, off, hbo, x0, x1, x2, x3⟩ := (HD.out.stay (HU.out.thn HUR.out)).rs.row.rung i hi1
      have hmx := HMX.out.rg _ (List.getElem_mem hi1)
      have hsm := Small_has l.rs.l[i] wr ((HD.out.stay (HU.out.thn HUR.out)).rg _ (List.getElem_mem hi1)) hmx.1 hmx.2
      have HKK : Hid ((l.rs.l[i]).bk.l.length ≤ 20 ∧ (∀ s ∈ (l.rs.l[i]).bk.l, s.l.length ≤ 200) → ∀ j (h : j < l.rs.l.length), j < i + 1 → (l.rs.l[j]).bk.l.length ≤ 20 ∧ ∀ s ∈ (l.rs.l[j]).bk.l, s.l.length ≤ 200) := fun h j hj hji => by
        by_cases e : j = i
        · subst e; exact h
        · exact HK.out j hj (by omega)
      obtain ⟨r, hr⟩ : ∃ r, r = l.rs.l[i] := ⟨_, rfl⟩
      rw [← hr] at x0 x1 x2 x3 hsm HKK
      clear hr hmx
      obtain ⟨fr, wd, cu, ⟨bl, ba, bc⟩⟩ := r
      unfold encR SmallPost at hsm
      simp only at x0 x1 x2 x3 hsm HKK
      rw [hbo] at c2
      have HSM := Lib.hid hsm
      have HBO := Lib.hid hbo
      clear hsm hbo
      go_upto_region 6 with (fail)
      go_upto_if 33 with (go_at_call 31; (with_reducible refine HSM.out.mono ?_); rintro e w5 ⟨vb, rfl, hvb, hu5⟩)
      have HVB := Lib.hid hvb
      have HU5 := Lib.hid (HUR.out.thn hu5)
      clear c0 c1 c2 c3 c4 c5 x0 x1 x2 x3 hvb hu5
      cases vb with
      | false =>
        go_wp2_with fail
        go_ret
        exact HNO.out _ (HU.out.thn HU5.out)
      | true =>
        have HKN := Lib.hid (HKK.out (HVB.out (by first | rfl | trivial)))
        go_wp2_with fail
        go_roundg (n - (i + 1))
        case measure => omega
        case rel => exact ⟨i + 1, by go_num, by omega, HKN, HU5⟩
    · have hltz : ¬ (i : Int) < (n : Int) := by omega
      obtain rfl : n = i := by omega
      have HSMD : Hid (SmD l) := by
        have h1 := HS.out; have h2 := HTN.out; have h3 := HBN.out; have h4 := HN.out
        exact ⟨by omega, by omega, by omega, fun j hj => HK.out j hj (by omega)⟩
      go_wp2_with fail
      go_ret
      exact HOK.out _ _ HSMD.out (HU.out.thn HUR.out)
end Go.Proofs.YtneodiemgemhfaaGreat
