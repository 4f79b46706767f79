/- SchedRandom: the walk. -/
import Derived.Test.YtbpkigdelfgafaaSI
namespace Go.Proofs.Ytbpkigdelfgafaa
open Go.RowKit

theorem Same_n (a1 a2 : Option Addr) (n1 n2 c1 c2 : Nat) (xs ys : List Int) (w : World) (e1 : n1 = xs.length) (e2 : n2 = ys.length) (h1 : Ints w a1 xs) (h2 : Ints w a2 ys) (l1 : n1 ≤ 100000) (l2 : n2 ≤ 100000) :
    Calls Try.prog 12 #[.slice a1 n1 c1, .slice a2 n2 c2] w fun e w' => e = .returned (.bool (eqL xs ys)) ∧ Upd [] w w' := by
  subst e1 e2; exact Same_any a1 a2 c1 c2 xs ys w h1 h2 l1 l2
theorem ints_take {w : World} {ad : Option Addr} {xs : List Int} (h : Ints w ad xs) (k : Nat) : Ints w ad (xs.take k) := by
  intro j hj
  obtain ⟨b, off, ha, hc⟩ := h j (by simp at hj; omega)
  exact ⟨b, off, ha, by rw [hc]; simp⟩
theorem Same_rnd (s : Int) (n b2 b k c k2 c2 : Nat) (w : World) (h2 : Ints w (some ⟨b2, 0, none⟩) (rndL s n k)) (h1 : Ints w (some ⟨b, 0, none⟩) (rndL s n c)) (hk : k ≤ c) (hc : c ≤ 100000) :
    Calls Try.prog 12 #[.slice (some ⟨b2, 0, none⟩) k k2, .slice (some ⟨b, 0, none⟩) k c2] w fun e w' => e = .returned (.bool true) ∧ Upd [] w w' := by
  have h := Same_n (some ⟨b2, 0, none⟩) (some ⟨b, 0, none⟩) k k k2 c2 (rndL s n k) ((rndL s n c).take k) w (rndL_length _ _ _).symm (by rw [List.length_take, rndL_length]; omega) h2 (ints_take h1 _) (by omega) (by omega)
  rwa [rndL_take s n c _ hk, show eqL (rndL s n k) (rndL s n k) = true by simp [eqL]] at h
def RdRel (s : Int) (c : Nat) (w : World) (g : Nat) (xv iv : Value) (wr : World) : Prop :=
  ∃ k : Nat, iv = .int .i64 (k : Nat) ∧ k + g = c ∧ xv = .int .u32 (lcgN s k) ∧ Upd [] w wr
set_option maxRecDepth 100000 in
set_option maxHeartbeats 2000000 in
theorem RandomLaw_any (s : Int) (hs : 0 ≤ s ∧ s < 4294967296) (th c m : Nat) (ht : th < 256) (hc : c < 256) (hm : m < 256) (w : World) :
    Calls Try.prog 8 #[.int .u32 s, .int .u8 th, .int .u8 c, .int .u8 m] w fun e w' => e = .returned (.bool true) ∧ Upd [] w w' := by
  go_enter Try.func8, Try.ntmps8
  go_wp2_with fail
  refine (head_any _).mono ?_
  rintro e w0 ⟨rfl, hu0⟩
  have HU0 := Lib.hid hu0; clear hu0
  go_wp2_with fail
  refine (Threads_ex th (by omega) _).mono ?_
  rintro e w1 ⟨n, hn0, hn8, rfl, rfl⟩
  go_wp2_with fail
  refine (Random_some s hs n c hn0 (by omega) (by omega) _).mono ?_
  rintro e w2 ⟨b, rfl, hi1, hu1⟩
  have HI1 := Lib.hid hi1; have HU1 : Hid (Upd [] w w2) := HU0.out.trans hu1 (by simp)
  clear hi1 hu1 HU0
  go_wp2_with fail
  all_goals
    refine (Random_some s hs n _ hn0 (by omega) (by omega) _).mono ?_
    rintro e w3 ⟨b2, rfl, hi2, hu2⟩
    have HI2 := Lib.hid hi2; have HI3 := Lib.hid (HI1.out.stay hu2); have HU2 : Hid (Upd [] w w3) := HU1.out.trans hu2 (by simp)
    clear hi2 hu2 HU1 HI1
    go_wp2_with fail
    go_loopg [13, 14] c (fun g xv iv wr => RdRel s c w3 g xv iv wr)
    case atStart => exact ⟨0, rfl, by omega, rfl, Upd.refl _ _⟩
    case round =>
      obtain ⟨k, rfl, hkg, rfl, hU⟩ := hrel
      have HU := Lib.hid hU; clear hU
      by_cases hk : k < c
      · obtain ⟨b', off', hbo, hcc⟩ := (HI3.out.stay HU.out) k (by rw [rndL_length]; exact hk)
        cases hbo
        rw [rndL_get s n c k hk, Nat.zero_add] at hcc
        obtain ⟨hx0, hx1⟩ := lcgN_bd s hs k
        obtain ⟨hy0, hy1⟩ := lcg_bd (lcgN s k)
        have hl : lcgN s (k + 1) = lcg (lcgN s k) := rfl
        have hl2 : lcg (lcgN s k) = (1664525 * lcgN s k + 1013904223) % 4294967296 := rfl
        rw [hl] at hcc
        have HL := Lib.hid hl; have HL2 := Lib.hid hl2; clear hl hl2
        generalize lcgN s k = x at *
        have hE : (x * 1664525 % 4294967296 + 1013904223) % 4294967296 = lcg x := by unfold lcg; omega
        have HE := Lib.hid hE; clear hE
        go_wp2_with fail
        rw [HE.out]
        generalize lcg x = y at *
        have hP0 : 0 ≤ y / 65536 % (n : Int) := Int.emod_nonneg _ (by omega)
        have hP1 : y / 65536 % (n : Int) < n := Int.emod_lt_of_pos _ (by omega)
        have hD0 : 0 ≤ y / 65536 := by omega
        have hD1 : y / 65536 ≤ 65536 := by omega
        have d1 : decide (y / 65536 % (n : Int) < 0) = false := by simpa using hP0
        have d2 : decide ((n : Int) ≤ y / 65536 % (n : Int)) = false := by simpa using hP1
        have t1 : y.tdiv 65536 = y / 65536 := Int.tdiv_eq_ediv_of_nonneg hy0
        have t2 : (y / 65536).tmod (n : Int) = y / 65536 % (n : Int) := Int.tmod_eq_emod_of_nonneg hD0
        go_quiet (fail)
        go_wp2_with fail
        go_roundg (gk - 1)
        case measure => omega
        case rel => exact ⟨k + 1, by go_num, by omega, by rw [HL.out], HU.out.drewN _⟩
      · go_wp2_with fail
        refine (Same_rnd s n b2 b _ c _ _ _ (HI2.out.stay HU.out) (HI3.out.stay HU.out) (by omega) (by omega)).mono ?_
        rintro e w5 ⟨rfl, hu5⟩
        go_wp2_with fail
        go_ret
        exact ⟨rfl, (HU2.out.trans HU.out (by simp)).trans hu5 (by simp)⟩
theorem RandomLaw_z (s th c m : Int) (hs : 0 ≤ s ∧ s < 4294967296) (ht : 0 ≤ th ∧ th < 256) (hc : 0 ≤ c ∧ c < 256) (hm : 0 ≤ m ∧ m < 256) (w : World) :
    Calls Try.prog 8 #[.int .u32 s, .int .u8 th, .int .u8 c, .int .u8 m] w fun e w' => e = .returned (.bool true) ∧ Upd [] w w' := by
  obtain ⟨th, rfl⟩ := Int.eq_ofNat_of_zero_le ht.1
  obtain ⟨c, rfl⟩ := Int.eq_ofNat_of_zero_le hc.1
  obtain ⟨m, rfl⟩ := Int.eq_ofNat_of_zero_le hm.1
  exact RandomLaw_any s hs th c m (by omega) (by omega) (by omega) w
end Go.Proofs.Ytbpkigdelfgafaa
