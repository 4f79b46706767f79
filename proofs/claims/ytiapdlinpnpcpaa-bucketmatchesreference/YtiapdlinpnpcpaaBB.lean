/- The head: the fixed examples. -/
import Derived.Test.YtiapdlinpnpcpaaBA
namespace Go.Proofs.Ytiapdlinpnpcpaa
open Go.RowKit Go.Lib

theorem Upd.thn {a b c : World} (h : Upd [] a b) (k : Upd [] b c) : Upd [] a c := h.trans k (by simp)

set_option maxHeartbeats 1000000 in
theorem head_any (w : World) :
    Calls Try.prog 8 #[] w fun e w' => e = .returned (.bool true) ∧ Upd [] w w' := by
  have E1 := Lib.hid (Width_in 10 25 (by decide) (by decide) (by decide))
  have E2 := Lib.hid (Width_in 5 5 (by decide) (by decide) (by decide))
  have E3 := Lib.hid (Index_in 10 2 25 (by decide) (by decide) (by decide) (by decide))
  have E4 := Lib.hid (Index_in 10 2 10 (by decide) (by decide) (by decide) (by decide))
  have E5 := Lib.hid (Narrow_in 9 (by decide))
  have E6 := Lib.hid (Narrow_in 8 (by decide))
  have E7 := Lib.hid (Start_in 10 2 3 (by decide) (by decide))
  go_enter Try.func8, Try.ntmps8
  go_wp2_with fail
  (with_reducible refine (E1.out _).mono ?_)
  rintro e w0 ⟨rfl, u0⟩
  go_wp2_with fail
  (with_reducible refine (E2.out _).mono ?_)
  rintro e w1 ⟨rfl, u1⟩
  go_wp2_with fail
  (with_reducible refine (E3.out _).mono ?_)
  rintro e w2 ⟨rfl, u2⟩
  go_wp2_with fail
  (with_reducible refine (E4.out _).mono ?_)
  rintro e w3 ⟨rfl, u3⟩
  go_wp2_with fail
  (with_reducible refine (E5.out _).mono ?_)
  rintro e w4 ⟨rfl, u4⟩
  go_wp2_with fail
  (with_reducible refine (E6.out _).mono ?_)
  rintro e w5 ⟨rfl, u5⟩
  go_wp2_with fail
  (with_reducible refine (E7.out _).mono ?_)
  rintro e w6 ⟨rfl, u6⟩
  go_wp2_with fail
  go_ret
  exact ⟨rfl, u0.thn (u1.thn (u2.thn (u3.thn (u4.thn (u5.thn (u6))))))⟩
end Go.Proofs.Ytiapdlinpnpcpaa
