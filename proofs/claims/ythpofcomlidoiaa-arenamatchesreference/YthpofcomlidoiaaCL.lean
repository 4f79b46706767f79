/- Contract: Pick of the laws. -/
import Derived.Test.YthpofcomlidoiaaCK
namespace Go.Proofs.Ythpofcomlidoiaa
open Go.RowKit Go.Lib

theorem pick_lt (n : Int) (m : Nat) (hm : 0 < m) : (n.tmod m).natAbs < m := by
  have h : (n.tmod m).natAbs = n.natAbs % m := by rw [Int.natAbs_tmod]; rfl
  rw [h]; exact Nat.mod_lt _ hm

set_option maxHeartbeats 1000000 in
theorem Pick_any (ia : Option Addr) (ic : Nat) (is : List Int) (n : Int) (w : World) (hi : Ints w ia is) (hl : is.length ≤ 1000000) :
    Calls Try.prog 16 #[.slice ia is.length ic, .int .i64 n] w fun e w' => e = .returned (.int .i64 (pickA is n)) ∧ w = w' := by
  obtain ⟨v, hv⟩ : ∃ v, v = pickA is n := ⟨_, rfl⟩
  rw [← hv]
  have HV := Lib.hid hv
  have HI := Lib.hid hi
  clear hv hi
  generalize hm : is.length = m at hl ⊢
  have HM := Lib.hid hm
  clear hm
  by_cases h0 : m = 0
  · subst h0
    have hnil : is = [] := List.eq_nil_of_length_eq_zero HM.out
    go_enter Try.func16, Try.ntmps16
    go_wp2_with fail
    go_ret
    exact ⟨ret_int (by rw [HV.out, pickA, if_pos (.inl hnil)]), rfl⟩
  have h0b : ((m : Int) == 0) = false := by simpa using h0
  have hnn : is ≠ [] := fun e => by rw [e] at HM; exact h0 HM.out.symm
  by_cases h5 : n.tmod 5 = 4
  · have h5b : (n.tmod 5 == 4) = true := by simpa using h5
    have H5 := Lib.hid h5
    clear h5
    go_enter Try.func16, Try.ntmps16
    go_wp2_with fail
    go_ret
    exact ⟨ret_int (by rw [HV.out, pickA, if_pos (.inr H5.out)]), rfl⟩
  have h5b : (n.tmod 5 == 4) = false := by simpa using h5
  have H5 := Lib.hid h5
  clear h5
  have hlt := pick_lt n m (by omega)
  have HX : Hid (v = is[(n.tmod m).natAbs]'(by rw [HM.out]; exact hlt)) := by
    show v = _
    rw [HV.out, pickA, if_neg (fun q => q.elim hnn H5.out)]
    simp only [HM.out]
    rw [List.getElem?_eq_getElem (by rw [HM.out]; exact hlt), Option.getD_some]
  obtain ⟨b, off, rfl, c⟩ := HI.out (n.tmod m).natAbs (by rw [HM.out]; exact hlt)
  rw [← HX.out] at c
  generalize hk : n.tmod (m : Int) = k at *
  have hkb : -(m : Int) < k ∧ k < m := by omega
  have h0z : (0 : Int) < m := by omega
  clear HX HI HV
  rcases (by omega : k = 0 ∨ 0 < k ∨ k < 0) with hz | hp | hn
  · subst hz
    simp only [Int.natAbs_zero, Nat.add_zero] at c
    go_enter Try.func16, Try.ntmps16
    go_wp2_with fail
    go_ret
    exact ⟨rfl, rfl⟩
  · rw [show k.natAbs = k.toNat from by omega] at c
    have hk1 : k < (m : Int) := hkb.2
    go_enter Try.func16, Try.ntmps16
    go_wp2_with fail
    go_ret
    exact ⟨rfl, rfl⟩
  · rw [show k.natAbs = (-k).toNat from by omega] at c
    have hk1 : -k < (m : Int) := by omega
    go_enter Try.func16, Try.ntmps16
    go_wp2_with fail
    go_ret
    exact ⟨rfl, rfl⟩
end Go.Proofs.Ythpofcomlidoiaa
