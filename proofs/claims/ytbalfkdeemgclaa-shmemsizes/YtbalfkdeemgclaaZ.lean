/- ShmemSizes: the walk. -/
import Derived.Test.YtbalfkdeemgclaaH
import Derived.Test.YtbalfkdeemgclaaD
namespace Go.Proofs.Ytbalfkdeemgclaa
open Go.RowKit
section
variable {F : List Nat} {p bw bm m n : Nat} {w : World}
theorem zero_small (hm : m ≤ 256) (hn : n ≤ 256) : (zeroSt m n).Small := ⟨by simpa [zeroSt] using hm, by simpa [zeroSt] using hn, by simp [zeroSt], by simp [zeroSt], by simp [zeroSt]⟩
theorem Word_zero (h : Mem F p bw bm (zeroSt m n) w) (hm : m ≤ 256) (hn : n ≤ 256) (i : Int) :
    Calls Try.prog 15 #[.pointer (some ⟨p, 0, none⟩), .int .i64 i] w fun e w' => e = .returned (.int .i64 0) ∧ w = w' := by
  by_cases hi : 0 ≤ i ∧ i < m
  · obtain ⟨k, rfl⟩ := Int.eq_ofNat_of_zero_le hi.1
    have hk : k < (zeroSt m n).ws.length := by simp [zeroSt]; omega
    have := Word_in h (zero_small hm hn) k hk
    simpa [zeroSt] using this
  · exact Word_out h (zero_small hm hn) i (by simp [zeroSt]; omega)
theorem Holder_zero (h : Mem F p bw bm (zeroSt m n) w) (hm : m ≤ 256) (hn : n ≤ 256) (i : Int) :
    Calls Try.prog 16 #[.pointer (some ⟨p, 0, none⟩), .int .i64 i] w fun e w' => e = .returned (.int .i64 (-1)) ∧ Upd [] w w' := by
  by_cases hi : 0 ≤ i ∧ i < n
  · obtain ⟨k, rfl⟩ := Int.eq_ofNat_of_zero_le hi.1
    have hk : k < (zeroSt m n).ms.length := by simp [zeroSt]; omega
    have := Holder_in h (zero_small hm hn) k hk
    simpa [zeroSt, hold] using this
  · exact Holder_out h (zero_small hm hn) i (by simp [zeroSt]; omega)
theorem lock_zero (t i a b : Int) : ((zeroSt m n).step ⟨5, t, i, a, b⟩).2.2 = (decide (0 ≤ i) && decide (i < n)) := by
  have hl : (zeroSt m n).ms.length = n := by simp [zeroSt]
  by_cases hi : 0 ≤ i ∧ i < n
  · have hk : i.toNat < n := by omega
    have hx : ((zeroSt m n).m i) = (false, 0) := by simp [St.m, zeroSt, hk]
    have h2 : (decide (0 ≤ i) && decide (i < n)) = true := by simpa using hi
    simp only [St.step, hl, if_pos hi, hx, h2, show ¬ (5 : Int) ≤ 4 from by decide, if_true, if_false, Bool.false_eq_true]
  · have h2 : (decide (0 ≤ i) && decide (i < n)) = false := by simp; omega
    simp only [St.step, hl, if_neg hi, h2, show ¬ (5 : Int) ≤ 4 from by decide, show (5 : Int) ≤ 6 from by decide, if_true, if_false]
end

set_option maxHeartbeats 2000000 in
theorem Sizes_yes (m n : Nat) (i : Int) (hm : m ≤ 256) (hn : n ≤ 256) (w : World) :
    Calls Try.prog 8 #[.int .i64 m, .int .i64 n, .int .i64 i] w fun e w' => e = .returned (.bool true) ∧ Upd [] w w' := by
  have m0 : decide (0 ≤ (m : Int)) = true := by simp
  have m1 : decide ((m : Int) ≤ 256) = true := by simp; omega
  have n0 : decide (0 ≤ (n : Int)) = true := by simp
  have n1 : decide ((n : Int) ≤ 256) = true := by simp; omega
  go_enter Try.func8, Try.ntmps8
  go_wp2_with fail
  refine (head_any _).mono ?_
  rintro e w0 ⟨rfl, hu0⟩
  go_wp2_with fail
  refine (New_yes m n hm hn _).mono ?_
  rintro e w1 ⟨p, bw, bm, F, rfl, hM, hF, hu1⟩
  have HM := Lib.hid hM; have HF := Lib.hid hF; clear hM hF
  go_wp2_with fail
  refine (Word_zero HM.out hm hn i).mono ?_
  rintro e w2 ⟨rfl, rfl⟩
  go_wp2_with fail
  refine (Holder_zero HM.out hm hn i).mono ?_
  rintro e w2 ⟨rfl, hu2⟩
  have HM2 := Lib.hid (HM.out.stay hu2)
  go_wp2_with fail
  refine (Log_any HM2.out (zero_small hm hn)).mono ?_
  rintro e w3 ⟨v, rfl, ho, hu3⟩
  have hv : ∃ a c, v = .slice a 0 c := by
    rcases ho.2 with ⟨rfl, _⟩ | ⟨g, cap, cur, rfl, _⟩
    · exact ⟨_, _, rfl⟩
    · exact ⟨_, _, rfl⟩
  obtain ⟨va, vc, rfl⟩ := hv
  clear ho
  have HM3 := Lib.hid (HM2.out.stay hu3)
  go_wp2_with fail
  refine (Violations_any HM3.out).mono ?_
  rintro e w4 ⟨rfl, rfl⟩
  rw [show (zeroSt m n).v = 0 from rfl]
  go_wp2_with fail
  refine (TryLock_step HM3.out (zero_small hm hn) 3 i 0 0).mono ?_
  rintro e w4 ⟨rfl, F', hM4, hG4⟩
  rw [lock_zero]
  clear hM4
  have hfin : Upd [] w w4 := (((hu0.trans hu1 (by simp)).trans hu2 (by simp)).trans hu3 (by simp)).trans hG4.1 (fun x hx hl => absurd (HF.out x hx) (by have := hu0.size; omega))
  by_cases hi : 0 ≤ i
  · have hi0 : decide (0 ≤ i) = true := by simpa using hi
    rw [hi0, Bool.true_and]
    by_cases hj : i < n
    · have hj0 : decide (i < n) = true := by simpa using hj
      rw [hj0]
      go_wp2_with fail
      go_ret
      exact ⟨rfl, hfin⟩
    · have hj0 : decide (i < n) = false := by simpa using hj
      rw [hj0]
      go_wp2_with fail
      go_ret
      exact ⟨rfl, hfin⟩
  · have hi0 : decide (0 ≤ i) = false := by simpa using hi
    rw [hi0, Bool.false_and]
    go_wp2_with fail
    go_ret
    exact ⟨rfl, hfin⟩

set_option maxHeartbeats 2000000 in
theorem Sizes_no (m n i : Int) (h : ¬ (0 ≤ m ∧ m ≤ 256 ∧ 0 ≤ n ∧ n ≤ 256)) (w : World) :
    Calls Try.prog 8 #[.int .i64 m, .int .i64 n, .int .i64 i] w fun e w' => e = .returned (.bool true) ∧ Upd [] w w' := by
  have hc : decide (0 ≤ m) = false ∨ (decide (0 ≤ m) = true ∧ decide (m ≤ 256) = false) ∨ (decide (0 ≤ m) = true ∧ decide (m ≤ 256) = true ∧ decide (0 ≤ n) = false) ∨ (decide (0 ≤ m) = true ∧ decide (m ≤ 256) = true ∧ decide (0 ≤ n) = true ∧ decide (n ≤ 256) = false) := by
    simp; omega
  have Hh := Lib.hid h; clear h
  rcases hc with a1 | ⟨a1, a2⟩ | ⟨a1, a2, a3⟩ | ⟨a1, a2, a3, a4⟩
  all_goals
    go_enter Try.func8, Try.ntmps8
    go_wp2_with fail
    refine (head_any _).mono ?_
    rintro e w0 ⟨rfl, hu0⟩
    go_wp2_with fail
    refine (New_no m n Hh.out _).mono ?_
    rintro e w1 ⟨rfl, rfl⟩
    go_wp2_with fail
    go_ret
    exact ⟨rfl, hu0⟩

theorem Sizes_any (m n i : Int) (w : World) :
    Calls Try.prog 8 #[.int .i64 m, .int .i64 n, .int .i64 i] w fun e w' => e = .returned (.bool true) ∧ Upd [] w w' := by
  by_cases h : 0 ≤ m ∧ m ≤ 256 ∧ 0 ≤ n ∧ n ≤ 256
  · obtain ⟨m, rfl⟩ := Int.eq_ofNat_of_zero_le h.1
    obtain ⟨n, rfl⟩ := Int.eq_ofNat_of_zero_le h.2.2.1
    exact Sizes_yes m n i (by omega) (by omega) w
  · exact Sizes_no m n i h w
end Go.Proofs.Ytbalfkdeemgclaa
