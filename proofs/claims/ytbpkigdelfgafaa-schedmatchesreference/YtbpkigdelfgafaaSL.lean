/- SchedRepairs: the walk. -/
import Derived.Test.YtbpkigdelfgafaaSJ
namespace Go.Proofs.Ytbpkigdelfgafaa
open Go.RowKit

def CkRel (c : Nat) (w : World) (g : Nat) (iv : Value) (wr : World) : Prop := ∃ k : Nat, iv = .int .i64 (k : Nat) ∧ k + g = c ∧ w = wr

set_option maxRecDepth 100000 in
set_option maxHeartbeats 2000000 in
theorem Repairs_any (th m : Nat) (ht : th < 256) (hm : m < 256) (ad : Option Addr) (cp : Nat) (rs : List Int) (hlen : rs.length ≤ maxLen) (w : World) (hb : Bytes w ad rs) :
    Calls Try.prog 5 #[.int .u8 th, .slice ad rs.length cp, .int .u8 m] w fun e w' => e = .returned (.bool true) ∧ Upd [] w w' := by
  unfold maxLen at hlen
  have HB := Lib.hid hb; clear hb
  by_cases hl : 500 < rs.length
  · go_enter Try.func5, Try.ntmps5
    go_wp2_with fail
    refine (head_any _).mono ?_
    rintro e w0 ⟨rfl, hu0⟩
    go_wp2_with fail
    go_ret
    exact ⟨rfl, hu0⟩
  · have hl0 : decide (500 < (rs.length : Int)) = false := by simp; omega
    go_enter Try.func5, Try.ntmps5
    go_wp2_with fail
    refine (head_any _).mono ?_
    rintro e w0 ⟨rfl, hu0⟩
    have HU0 := Lib.hid hu0; clear hu0
    go_wp2_with fail
    refine (Threads_ex th (by omega) _).mono ?_
    rintro e w1 ⟨n, hn0, hn8, rfl, rfl⟩
    go_wp2_with fail
    refine (Picks_any ad cp rs n hn0 (by omega) (by omega) _ (HB.out.stay HU0.out)).mono ?_
    rintro e w2 ⟨a1, c1, rfl, hi1, hu1, hc1⟩
    have HI1 := Lib.hid hi1; have HU1 : Hid (Upd [] w w2) := HU0.out.trans hu1 (by simp)
    clear hi1 hu1 HU0
    have hpl := pickL_length n rs
    have hT := pickL_thr n rs (by omega)
    generalize pickL n rs = l at *
    have HT := Lib.hid hT
    have hll : l.length ≤ 500 := by omega
    clear hT hpl
    have hv0 : (n : Int) ≤ n + (m : Int) % 30 := by omega
    have hv1 : (n : Int) + (m : Int) % 30 ≤ 38 := by omega
    generalize (n : Int) + (m : Int) % 30 = v at *
    go_wp2_with fail
    refine (Repair_z a1 c1 l n v hn0 (by omega) (by omega) (by omega) (by omega) HT.out _ HI1.out).mono ?_
    rintro e w3 ⟨a2, c2, rfl, hi2, hu2, hc2⟩
    have HI2 := Lib.hid hi2; have HU2 : Hid (Upd [] w w3) := HU1.out.trans hu2 (by simp)
    clear hi2 hu2 HU1
    have hql := repair_length n v.toNat l
    have hQT := repair_thr n v.toNat l (by omega) HT.out
    have hQW := repair_win n v.toNat l (by omega)
    generalize repair n v.toNat l = q at *
    have hd : ((q.length : Int) != (l.length : Int)) = false := by simp; omega
    have HQT := Lib.hid hQT; have HQW := Lib.hid hQW
    have hq5 : q.length ≤ 500 := by omega
    clear hQT hQW hql
    go_wp2_with fail
    go_loopg [12] q.length (fun g iv wr => CkRel q.length w3 g iv wr)
    case atStart => exact ⟨0, rfl, by omega, rfl⟩
    case round =>
      obtain ⟨k, rfl, hkg, rfl⟩ := hrel
      by_cases hk : k < q.length
      · obtain ⟨b, off, rfl, hcc⟩ := HI2.out k hk
        obtain ⟨hx0, hx1⟩ := HQT.out _ (List.getElem_mem hk)
        generalize q[k] = x at *
        have d1 : decide (x < 0) = false := by simpa using hx0
        have d2 : decide ((n : Int) ≤ x) = false := by simpa using hx1
        go_wp2_with fail
        go_roundg (gk - 1)
        case measure => omega
        case rel => exact ⟨k + 1, by go_num, by omega, rfl⟩
      · go_wp2_with fail
        refine (Fair_z a2 c2 q n v hn0 (by omega) (by omega) (by omega) (by omega) hc2 HQT.out _ HI2.out).mono ?_
        rintro e w4 ⟨rfl, hu4⟩
        have HU4 : Hid (Upd [] w w4) := HU2.out.trans hu4 (by simp)
        have HI4 := Lib.hid (HI2.out.stay hu4)
        clear hu4
        rw [(fairB_iff _ _ _).2 HQW.out]
        go_wp2_with fail
        refine (RFair_z a2 c2 q n v (by omega) (by omega) (by omega) (by omega) _ HI4.out).mono ?_
        rintro e w5 ⟨rfl, rfl⟩
        rw [(fairB_iff _ _ _).2 HQW.out]
        go_wp2_with fail
        go_ret
        exact ⟨rfl, HU4.out⟩
theorem Repairs_z (th m : Int) (ht : 0 ≤ th ∧ th < 256) (hm : 0 ≤ m ∧ m < 256) (ad : Option Addr) (cp : Nat) (rs : List Int) (hlen : rs.length ≤ maxLen) (w : World) (hb : Bytes w ad rs) :
    Calls Try.prog 5 #[.int .u8 th, .slice ad rs.length cp, .int .u8 m] w fun e w' => e = .returned (.bool true) ∧ Upd [] w w' := by
  obtain ⟨th, rfl⟩ := Int.eq_ofNat_of_zero_le ht.1
  obtain ⟨m, rfl⟩ := Int.eq_ofNat_of_zero_le hm.1
  exact Repairs_any th m (by omega) (by omega) ad cp rs hlen w hb
end Go.Proofs.Ytbpkigdelfgafaa
