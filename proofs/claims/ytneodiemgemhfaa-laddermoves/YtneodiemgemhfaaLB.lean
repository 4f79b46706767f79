/- Contracts: the tests on times within Valid. -/
import Derived.Test.YtneodiemgemhfaaLA
namespace Go.Proofs.Ytneodiemgemhfaa
open Go.RowKit Go.Lib

def outB (f t : Int) (it : It) : Bool := decide (it.t < f) || decide (t ≤ it.t)
set_option maxRecDepth 100000 in
set_option maxHeartbeats 2000000 in
theorem within1_has (A B : Nat) (f t : Int) (it : It) (w : World) (hA : w.cell? ⟨A, 0, none⟩ = some (.int .i64 f)) (hB : w.cell? ⟨B, 0, none⟩ = some (.int .i64 t)) :
    Calls Try.prog 56 #[aggI it, .pointer (some ⟨A, 0, none⟩), .pointer (some ⟨B, 0, none⟩)] w fun e w' => e = .returned (.bool (outB f t it)) ∧ Upd [] w w' := by
  obtain ⟨i0, i1, i2⟩ := it
  unfold aggI outB
  simp only
  by_cases h1 : i0 < f
  · have d1 : decide (i0 < f) = true := by simpa using h1
    rw [d1, Bool.true_or]
    go_enter Try.func56, Try.ntmps56
    go_upto_region 1 with (fail)
    have hu := (Upd.refl [] w).alloc (.cells #[.int .i64 i0, .int .i64 i1, .int .i64 i2] 34)
    have b0 := heap_alloc1 w (.cells #[.int .i64 i0, .int .i64 i1, .int .i64 i2] 34)
    have k1 := hu.cell hA (by simp)
    have k2 := hu.cell hB (by simp)
    generalize w.alloc (.cells #[.int .i64 i0, .int .i64 i1, .int .i64 i2] 34) = W at *
    generalize w.heap.size = P at *
    obtain ⟨c0, c1, c2⟩ := cells3 b0
    have HU := Lib.hid hu
    clear hu b0 hA hB
    go_wp2_with fail
    go_ret
    exact ⟨rfl, HU.out⟩
  · have d1 : decide (i0 < f) = false := by simpa using h1
    rw [d1, Bool.false_or]
    go_enter Try.func56, Try.ntmps56
    go_upto_region 1 with (fail)
    have hu := (Upd.refl [] w).alloc (.cells #[.int .i64 i0, .int .i64 i1, .int .i64 i2] 34)
    have b0 := heap_alloc1 w (.cells #[.int .i64 i0, .int .i64 i1, .int .i64 i2] 34)
    have k1 := hu.cell hA (by simp)
    have k2 := hu.cell hB (by simp)
    generalize w.alloc (.cells #[.int .i64 i0, .int .i64 i1, .int .i64 i2] 34) = W at *
    generalize w.heap.size = P at *
    obtain ⟨c0, c1, c2⟩ := cells3 b0
    have HU := Lib.hid hu
    clear hu b0 hA hB
    go_wp2_with fail
    go_ret
    exact ⟨rfl, HU.out⟩
/-- The index of the first that a test strikes, or -1. -/
def firstI (p : It → Bool) (l : List It) : Int := if l.any p then ((l.findIdx p : Nat) : Int) else -1
theorem firstI_at {p : It → Bool} {l : List It} {k : Nat} (hk : k < l.length) (h0 : ∀ j (hj : j < k), p (l[j]'(by omega)) = false) (h1 : p l[k] = true) : firstI p l = k := by
  have : l.findIdx p = k := (List.findIdx_eq hk).2 ⟨h1, fun j hj => by rw [h0 j hj]⟩
  rw [firstI, if_pos (List.any_eq_true.2 ⟨_, List.getElem_mem hk, h1⟩), this]
theorem firstI_none {p : It → Bool} {l : List It} (h : ∀ j (hj : j < l.length), p l[j] = false) : firstI p l = -1 := by
  rw [firstI, if_neg]
  intro ha
  obtain ⟨x, hx, h2⟩ := List.any_eq_true.1 ha
  obtain ⟨j, hj, rfl⟩ := List.mem_iff_getElem.1 hx
  rw [h j hj] at h2
  simp at h2
theorem firstI_ge {p : It → Bool} {l : List It} : decide (0 ≤ firstI p l) = l.any p := by
  unfold firstI
  by_cases h : l.any p = true
  · rw [if_pos h, h]; simp
  · rw [if_neg h]
    simp only [Bool.not_eq_true] at h
    rw [h]; decide
set_option maxRecDepth 100000 in
set_option maxHeartbeats 2000000 in
theorem IndexFunc_has (a : Option Addr) (c : Nat) (l : List It) (A B : Nat) (f t : Int) (w : World) (hr : Row LI w a l) (hl : l.length ≤ 1000000) (hA : w.cell? ⟨A, 0, none⟩ = some (.int .i64 f)) (hB : w.cell? ⟨B, 0, none⟩ = some (.int .i64 t)) :
    Calls Try.prog 70 #[.slice a l.length c, .func (.func 56) #[] #[.pointer (some ⟨A, 0, none⟩), .pointer (some ⟨B, 0, none⟩)]] w fun e w' => e = .returned (.int .i64 (firstI (outB f t) l)) ∧ Upd [] w w' := by
  have HR := Lib.hid hr
  have HC := Lib.hid (fun (x : It) W (hu : Upd [] w W) => within1_has A B f t x W (hu.cell hA (by simp)) (hu.cell hB (by simp)))
  have H1 : Hid (∀ k (hk : k < l.length), (∀ j (hj : j < k) (h : j < l.length), outB f t l[j] = false) → outB f t l[k] = true → firstI (outB f t) l = k) := fun k hk h0 h1 => firstI_at hk (fun j hj => h0 j hj (by omega)) h1
  have H2 : Hid ((∀ j (hj : j < l.length), outB f t l[j] = false) → firstI (outB f t) l = -1) := fun h => firstI_none h
  obtain ⟨r, hr2⟩ : ∃ r, r = firstI (outB f t) l := ⟨_, rfl⟩
  rw [← hr2] at H1 H2 ⊢
  obtain ⟨n, hn⟩ : ∃ n, n = l.length := ⟨_, rfl⟩
  have HN := Lib.hid hn
  rw [← hn] at hl ⊢
  clear hr hA hB hr2 hn
  have eg : ∀ args w, (callFunc 56 args).run Try.prog w = .ok (.enter 56 args) w := enters_of Try.func56 (by kernel_rfl) rfl
  go_enter Try.func70, Try.ntmps70
  go_wp2_with fail
  go_loopg [8] n (fun gk vi wr => ∃ k : Nat, vi = .int .i64 k ∧ k + gk = n ∧ Hid (Upd [] w wr) ∧ Hid (∀ j (hj : j < k) (h : j < l.length), outB f t l[j] = false))
  case atStart => exact ⟨0, rfl, by omega, Upd.refl _ _, fun j hj => by omega⟩
  case round =>
    obtain ⟨k, rfl, hkg, HU, HF⟩ := hrel
    by_cases hlt : k < n
    · have hltz : (k : Int) < (n : Int) := by omega
      have hk1 : k < l.length := by have := HN.out; omega
      obtain ⟨b, off, hbo, x0, x1, x2⟩ := (HR.out.stay HU.out).item k hk1
      subst hbo
      have HCK := Lib.hid (HC.out l[k] wr HU.out)
      have HH1 := Lib.hid (H1.out k hk1)
      have HNX : Hid (outB f t l[k] = false → ∀ j (hj : j < k + 1) (h : j < l.length), outB f t l[j] = false) := fun he j hj h => by
        by_cases e : j = k
        · subst e; exact he
        · exact HF.out j (by omega) h
      have HIT : Hid (aggI l[k] = .agg #[.int .i64 l[k].t, .int .i64 l[k].q, .int .i64 l[k].s]) := rfl
      rw [HIT.out] at HCK
      clear HIT
      generalize outB f t l[k] = bb at *
      generalize l[k].t = y0 at *
      generalize l[k].q = y1 at *
      generalize l[k].s = y2 at *
      cases bb with
      | true =>
        go_wp2_with (go_at_call 56; go_loud ((with_reducible refine HCK.out.mono ?_); rintro e w1 ⟨rfl, hu1⟩; have HU1 := Lib.hid (HU.out.thn hu1); clear hu1))
        go_ret
        exact ⟨ret_int (HH1.out HF.out (by first | rfl | trivial)).symm, HU1.out⟩
      | false =>
        go_wp2_with (go_at_call 56; go_loud ((with_reducible refine HCK.out.mono ?_); rintro e w1 ⟨rfl, hu1⟩; have HU1 := Lib.hid (HU.out.thn hu1); clear hu1))
        go_roundg (gk - 1)
        case measure => omega
        case rel => exact ⟨k + 1, by go_num, by omega, HU1, HNX.out (by first | rfl | trivial)⟩
    · have hltz : ¬ (k : Int) < (n : Int) := by omega
      have HE := Lib.hid (H2.out (fun j hj => HF.out j (by have := HN.out; omega) hj))
      go_wp2_with fail
      go_ret
      exact ⟨ret_int HE.out.symm, HU.out⟩
end Go.Proofs.Ytneodiemgemhfaa
