
/- Contract of layer 10: the law's Small. -/
import Derived.Test.YtpneljhplbkdkaaAK
namespace Go.Proofs.Ytpneljhplbkdkaa
open Go.RowKit Go.Lib

def smallB (m : Md) : Bool := decide (m.es.length ≤ 100) && decide (m.is.length ≤ 200)
set_option maxRecDepth 100000 in
set_option maxHeartbeats 8000000 in
theorem Small_has (m : MdR) (w : World) :
    Calls Try.prog 10 #[encM m] w fun e w' => e = .returned (.bool (smallB m.md)) ∧ Upd [] w w' := by
  obtain ⟨cap, ⟨l, ea, ec⟩, nx, ⟨is, ia, ic⟩⟩ := m
  unfold encM cellsM MdR.md smallB
  simp only
  generalize l.length = n
  generalize is.length = q
  obtain ⟨res, hres⟩ : ∃ r, r = (decide (n ≤ 100) && decide (q ≤ 200)) := ⟨_, rfl⟩
  rw [← hres]
  have HR := Lib.hid hres
  clear hres
  have hu0 := (Upd.refl [] w).alloc (.cells #[.int .i64 cap, .slice ea n ec, .int .i64 nx, .slice ia q ic] 25)
  have b0 := heap_alloc1 w (.cells #[.int .i64 cap, .slice ea n ec, .int .i64 nx, .slice ia q ic] 25)
  by_cases h1 : n ≤ 100
  · have g1 : decide ((n : Int) ≤ 100) = true := decide_eq_true (by omega)
    by_cases h2 : q ≤ 200
    · have g2 : decide ((q : Int) ≤ 200) = true := decide_eq_true (by omega)
      have HT : Hid (res = true) := Lib.hid (by rw [HR.out, decide_eq_true h1, decide_eq_true h2]; rfl)
      clear h1 h2 HR
      go_enter Try.func10, Try.ntmps10
      go_upto_region 1 with (fail)
      generalize w.alloc (.cells #[.int .i64 cap, .slice ea n ec, .int .i64 nx, .slice ia q ic] 25) = W at *
      generalize w.heap.size = P at *
      obtain ⟨x0, x1, x2, x3⟩ := cells4 b0
      have HU := Lib.hid hu0
      clear b0 hu0
      go_wp2_with fail
      go_ret
      exact ⟨ret_bool HT.out.symm, HU.out⟩
    · have g2 : decide ((q : Int) ≤ 200) = false := decide_eq_false (by omega)
      have HT : Hid (res = false) := Lib.hid (by rw [HR.out, decide_eq_false h2, Bool.and_false])
      clear h1 h2 HR
      go_enter Try.func10, Try.ntmps10
      go_upto_region 1 with (fail)
      generalize w.alloc (.cells #[.int .i64 cap, .slice ea n ec, .int .i64 nx, .slice ia q ic] 25) = W at *
      generalize w.heap.size = P at *
      obtain ⟨x0, x1, x2, x3⟩ := cells4 b0
      have HU := Lib.hid hu0
      clear b0 hu0
      go_wp2_with fail
      go_ret
      exact ⟨ret_bool HT.out.symm, HU.out⟩
  · have g1 : decide ((n : Int) ≤ 100) = false := decide_eq_false (by omega)
    have HT : Hid (res = false) := Lib.hid (by rw [HR.out, decide_eq_false h1, Bool.false_and])
    clear h1 HR
    go_enter Try.func10, Try.ntmps10
    go_upto_region 1 with (fail)
    generalize w.alloc (.cells #[.int .i64 cap, .slice ea n ec, .int .i64 nx, .slice ia q ic] 25) = W at *
    generalize w.heap.size = P at *
    obtain ⟨x0, x1, x2, x3⟩ := cells4 b0
    have HU := Lib.hid hu0
    clear b0 hu0
    go_wp2_with fail
    go_ret
    exact ⟨ret_bool HT.out.symm, HU.out⟩
end Go.Proofs.Ytpneljhplbkdkaa
