/- SchedRobin and SchedRandom: the walks. -/
import Derived.Test.YtbpkigdelfgafaaSH
namespace Go.Proofs.Ytbpkigdelfgafaa
open Go.RowKit

theorem Threads_ex (x : Int) (h : 0 ≤ x ∧ x < 256) (w : World) :
    Calls Try.prog 10 #[.int .u8 x] w fun e w' => ∃ n : Nat, 1 ≤ n ∧ n ≤ 8 ∧ e = .returned (.int .i64 n) ∧ w = w' :=
  (Threads_any x h w).mono fun e w' ⟨he, hw⟩ => ⟨_, by omega, by omega, he, hw⟩
theorem RoundRobin_z (f : Int) (n m : Nat) (h0 : 0 ≤ f) (hf : f < n) (hn : n ≤ 64) (hm : m ≤ 65536) (w : World) :
    Calls Try.prog 15 #[.int .i64 f, .int .i64 n, .int .i64 m] w (Gives (rrL f.toNat n m) w) := by
  obtain ⟨f, rfl⟩ := Int.eq_ofNat_of_zero_le h0
  exact RoundRobin_any f n m (by omega) hn hm w
theorem RRR_z (f : Int) (n m : Nat) (h0 : 0 ≤ f) (hf : f < n) (hn : n ≤ 64) (hm : m ≤ 65536) (w : World) :
    Calls Try.prog 16 #[.int .i64 f, .int .i64 n, .int .i64 m] w (Gives (rrL f.toNat n m) w) := by
  obtain ⟨f, rfl⟩ := Int.eq_ofNat_of_zero_le h0
  exact RRR_any f n m (by omega) hn hm w
theorem Fair_z (ad : Option Addr) (cp : Nat) (l : List Int) (n : Nat) (v : Int) (hn0 : 1 ≤ n) (hn : n ≤ 64) (hv0 : 1 ≤ v) (hv : v ≤ 100000) (hl : l.length ≤ 65536) (hcp : l.length ≤ cp) (hT : Thr n l) (w : World) (hi : Ints w ad l) :
    Calls Try.prog 17 #[.slice ad l.length cp, .int .i64 n, .int .i64 v] w fun e w' => e = .returned (.bool (fairB n v.toNat l)) ∧ Upd [] w w' := by
  obtain ⟨v, rfl⟩ := Int.eq_ofNat_of_zero_le (show 0 ≤ v by omega)
  exact Fair_any ad cp l n v hn0 hn (by omega) (by omega) hl hcp hT w hi
theorem RFair_z (ad : Option Addr) (cp : Nat) (l : List Int) (n : Nat) (v : Int) (hn : n ≤ 64) (hv0 : 1 ≤ v) (hv : v ≤ 100000) (hl : l.length ≤ 65536) (w : World) (hi : Ints w ad l) :
    Calls Try.prog 18 #[.slice ad l.length cp, .int .i64 n, .int .i64 v] w fun e w' => e = .returned (.bool (fairB n v.toNat l)) ∧ w = w' := by
  obtain ⟨v, rfl⟩ := Int.eq_ofNat_of_zero_le (show 0 ≤ v by omega)
  exact RFair_any ad cp l n v hn (by omega) (by omega) hl w hi
theorem Repair_z (ad : Option Addr) (cp : Nat) (ps : List Int) (n : Nat) (v : Int) (hn0 : 1 ≤ n) (hn : n ≤ 64) (hnv : n ≤ v) (hv : v ≤ 100000) (hm : ps.length ≤ 65536) (hT : Thr n ps) (w : World) (hi : Ints w ad ps) :
    Calls Try.prog 19 #[.slice ad ps.length cp, .int .i64 n, .int .i64 v] w (Gives (repair n v.toNat ps) w) := by
  obtain ⟨v, rfl⟩ := Int.eq_ofNat_of_zero_le (show 0 ≤ v by omega)
  exact Repair_any ad cp ps n v hn0 hn (by omega) (by omega) hm hT w hi
theorem RRepair_z (ad : Option Addr) (cp : Nat) (ps : List Int) (n : Nat) (v : Int) (hn0 : 1 ≤ n) (hn : n ≤ 64) (hnv : n ≤ v) (hv : v ≤ 100000) (hm : ps.length ≤ 65536) (hT : Thr n ps) (w : World) (hi : Ints w ad ps) :
    Calls Try.prog 20 #[.slice ad ps.length cp, .int .i64 n, .int .i64 v] w (Gives (repair n v.toNat ps) w) := by
  obtain ⟨v, rfl⟩ := Int.eq_ofNat_of_zero_le (show 0 ≤ v by omega)
  exact RRepair_any ad cp ps n v hn0 hn (by omega) (by omega) hm hT w hi
theorem rrL_thr (f n k : Nat) (hn : 0 < n) : Thr n (rrL f n k) := by
  intro x hx
  simp only [rrL, List.mem_map] at hx
  obtain ⟨i, _, rfl⟩ := hx
  have := Nat.mod_lt (f + i) hn
  omega

set_option maxRecDepth 100000 in
set_option maxHeartbeats 2000000 in
theorem Robin_any (f th c m : Nat) (hf : f < 256) (ht : th < 256) (hc : c < 256) (hm : m < 256) (w : World) :
    Calls Try.prog 7 #[.int .u8 f, .int .u8 th, .int .u8 c, .int .u8 m] w fun e w' => e = .returned (.bool true) ∧ Upd [] w w' := by
  go_enter Try.func7, Try.ntmps7
  go_wp2_with fail
  refine (head_any _).mono ?_
  rintro e w0 ⟨rfl, hu0⟩
  have HU0 := Lib.hid hu0; clear hu0
  go_wp2_with fail
  refine (Threads_ex th (by omega) _).mono ?_
  rintro e w1 ⟨n, hn0, hn8, rfl, rfl⟩
  have hmod0 : 0 ≤ (f : Int) % n := Int.emod_nonneg _ (by omega)
  have hmod1 : (f : Int) % n < n := Int.emod_lt_of_pos _ (by omega)
  go_wp2_with fail
  refine (RoundRobin_z _ n c hmod0 hmod1 (by omega) (by omega) _).mono ?_
  rintro e w2 ⟨a1, c1, rfl, hi1, hu1, hc1⟩
  have HI1 := Lib.hid hi1; have HU1 : Hid (Upd [] w w2) := HU0.out.trans hu1 (by simp)
  clear hi1 hu1 HU0
  have hl := rrL_length ((f : Int) % n).toNat n c
  have hT := rrL_thr ((f : Int) % n).toNat n c (by omega)
  have hW := rr_win ((f : Int) % n).toNat n ((n : Int) + m).toNat c (by omega)
  have hR := rr_keep ((f : Int) % n).toNat n c (by omega)
  generalize rrL ((f : Int) % n).toNat n c = l at *
  have HT := Lib.hid hT; have HW := Lib.hid hW; have HR := Lib.hid hR; have HL := Lib.hid hl
  have hl1 : l.length ≤ c := by omega
  have hl2 : c ≤ l.length := by omega
  clear hT hW hR hl
  have hd : ((l.length : Int) != (c : Int)) = false := by simp; omega
  go_wp2_with fail
  refine (Fair_z a1 c1 l n _ hn0 (by omega) (by omega) (by omega) (by omega) hc1 HT.out _ HI1.out).mono ?_
  rintro e w3 ⟨rfl, hu2⟩
  have HU3 : Hid (Upd [] w w3) := HU1.out.trans hu2 (by simp)
  have HI3 := Lib.hid (HI1.out.stay hu2)
  clear hu2 HU1 HI1
  rw [(fairB_iff _ _ _).2 HW.out]
  go_wp2_with fail
  refine (Repair_z a1 c1 l n _ hn0 (by omega) (by omega) (by omega) (by omega) HT.out _ HI3.out).mono ?_
  rintro e w4 ⟨a2, c2, rfl, hi4, hu4, _⟩
  have HU4 : Hid (Upd [] w w4) := HU3.out.trans hu4 (by simp)
  have HI4 := Lib.hid hi4; have HI5 := Lib.hid (HI3.out.stay hu4)
  clear hi4 hu4 HI3 HU3
  go_wp2_with fail
  refine (Same_any a2 a1 c2 c1 _ l _ HI4.out HI5.out (by rw [repair_length]; omega) (by omega)).mono ?_
  rintro e w5 ⟨rfl, hu5⟩
  rw [show (2 * (n : Int)).toNat = 2 * n by omega, HR.out, show eqL l l = true by simp [eqL]]
  go_wp2_with fail
  go_ret
  exact ⟨rfl, HU4.out.trans hu5 (by simp)⟩
theorem Robin_z (f th c m : Int) (hf : 0 ≤ f ∧ f < 256) (ht : 0 ≤ th ∧ th < 256) (hc : 0 ≤ c ∧ c < 256) (hm : 0 ≤ m ∧ m < 256) (w : World) :
    Calls Try.prog 7 #[.int .u8 f, .int .u8 th, .int .u8 c, .int .u8 m] w fun e w' => e = .returned (.bool true) ∧ Upd [] w w' := by
  obtain ⟨f, rfl⟩ := Int.eq_ofNat_of_zero_le hf.1
  obtain ⟨th, rfl⟩ := Int.eq_ofNat_of_zero_le ht.1
  obtain ⟨c, rfl⟩ := Int.eq_ofNat_of_zero_le hc.1
  obtain ⟨m, rfl⟩ := Int.eq_ofNat_of_zero_le hm.1
  exact Robin_any f th c m (by omega) (by omega) (by omega) (by omega) w
end Go.Proofs.Ytbpkigdelfgafaa
