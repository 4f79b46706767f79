/- SchedWindows: the walk. -/
import Derived.Test.YtbpkigdelfgafaaSL
namespace Go.Proofs.Ytbpkigdelfgafaa
open Go.RowKit

def FullW (n v : Nat) (l : List Int) (i : Nat) : Prop := ∀ t : Nat, t < n → (t : Int) ∈ (l.drop i).take v
def WiRel (l : List Int) (n v : Nat) (w : World) (g : Nat) (av iv : Value) (wr : World) : Prop :=
  ∃ (i : Nat) (a : Bool), iv = .int .i64 (i : Nat) ∧ i + g = l.length + 1 ∧ av = .bool a ∧ (a = true ↔ ∀ j, j < i → FullW n v l j) ∧ (1 ≤ i → i - 1 + v ≤ l.length) ∧ w = wr
def WtRel (l : List Int) (n v i : Nat) (P : Prop) (w : World) (g : Nat) (av tv : Value) (wr : World) : Prop :=
  ∃ (t : Nat) (a : Bool), tv = .int .i64 (t : Nat) ∧ t + g = n ∧ av = .bool a ∧ (a = true ↔ P ∧ ∀ s : Nat, s < t → (s : Int) ∈ (l.drop i).take v) ∧ w = wr
def WkRel (l : List Int) (v i t : Nat) (w : World) (g : Nat) (nv kv : Value) (wr : World) : Prop :=
  ∃ (k : Nat) (a : Bool), kv = .int .i64 (i + k : Nat) ∧ k + g = v ∧ nv = .bool a ∧ (a = true ↔ (t : Int) ∈ (l.drop i).take k) ∧ w = wr
theorem win_step (l : List Int) (i k : Nat) (h : i + k < l.length) (t : Int) : t ∈ (l.drop i).take (k + 1) ↔ t ∈ (l.drop i).take k ∨ l[i + k] = t := by
  rw [List.take_succ_eq_append_getElem (by simp; omega), List.mem_append]
  simp
  constructor
  · rintro (h | h)
    · exact .inl h
    · exact .inr h.symm
  · rintro (h | h)
    · exact .inl h
    · exact .inr h.symm

set_option maxRecDepth 100000 in
set_option maxHeartbeats 4000000 in
theorem Windows_any (th m : Nat) (ht : th < 256) (hm : m < 256) (ad : Option Addr) (cp : Nat) (rs : List Int) (hlen : rs.length ≤ maxLen) (w : World) (hb : Bytes w ad rs) :
    Calls Try.prog 4 #[.int .u8 th, .slice ad rs.length cp, .int .u8 m] w fun e w' => e = .returned (.bool true) ∧ Upd [] w w' := by
  unfold maxLen at hlen
  have HB := Lib.hid hb; clear hb
  by_cases hl : 100 < rs.length
  · go_enter Try.func4, Try.ntmps4
    go_wp2_with fail
    refine (head_any _).mono ?_
    rintro e w0 ⟨rfl, hu0⟩
    go_wp2_with fail
    go_ret
    exact ⟨rfl, hu0⟩
  · have hl0 : decide (100 < (rs.length : Int)) = false := by simp; omega
    go_enter Try.func4, Try.ntmps4
    go_wp2_with fail
    refine (head_any _).mono ?_
    rintro e w0 ⟨rfl, hu0⟩
    have HU0 := Lib.hid hu0; clear hu0
    go_wp2_with fail
    refine (Threads_ex th (by omega) _).mono ?_
    rintro e w1 ⟨n, hn0, hn8, rfl, rfl⟩
    go_wp2_with fail
    refine (Picks_any ad cp rs n hn0 (by omega) (by omega) _ (HB.out.stay HU0.out)).mono ?_
    rintro e w2 ⟨a1, c1, rfl, hi1, hu1, hc1⟩
    have HI1 := Lib.hid hi1; have HU1 : Hid (Upd [] w w2) := HU0.out.trans hu1 (by simp)
    clear hi1 hu1 HU0
    have hpl := pickL_length n rs
    have hT := pickL_thr n rs (by omega)
    generalize pickL n rs = l at *
    have HT := Lib.hid hT
    have hll : l.length ≤ 500 := by omega
    clear hT hpl
    obtain ⟨v, hv⟩ : ∃ v : Nat, (m : Int) % 30 + 1 = (v : Nat) := ⟨((m : Int) % 30 + 1).toNat, by omega⟩
    have hv0 : 1 ≤ v := by omega
    have hv1 : v ≤ 30 := by omega
    have HV := Lib.hid hv; clear hv
    go_wp2_with fail
    rw [HV.out]
    go_loopg [11, 12] (l.length + 1) (fun g av iv wr => WiRel l n v w2 g av iv wr)
    case atStart => exact ⟨0, true, rfl, by omega, rfl, by simp, by omega, rfl⟩
    case round =>
      obtain ⟨i, a, rfl, hig, rfl, hA, hiv, rfl⟩ := hrel
      have HA := Lib.hid hA; have HIV := Lib.hid hiv; clear hA hiv
      by_cases hi : i + v ≤ l.length
      · have hdi : decide ((i : Int) + v ≤ l.length) = true := by simp; omega
        go_wp2_with fail
        go_loopg [11, 13] n (fun g av tv wr => WtRel l n v i (∀ j, j < i → FullW n v l j) w2 g av tv wr)
        case atStart => exact ⟨0, a, rfl, by omega, rfl, by rw [HA.out]; simp, rfl⟩
        clear HA
        case round =>
        obtain ⟨t, a, rfl, htg, rfl, hA, rfl⟩ := hrel
        have HA := Lib.hid hA; clear hA
        by_cases htn : t < n
        · go_wp2_with fail
          go_loopg [14, 15] v (fun g nv kv wr => WkRel l v i t w2 g nv kv wr)
          case atStart => exact ⟨0, false, rfl, by omega, rfl, by simp, rfl⟩
          case round =>
          obtain ⟨k, b, rfl, hkg, rfl, hB, rfl⟩ := hrel
          have HBB := Lib.hid hB; clear hB
          by_cases hk : k < v
          · obtain ⟨bk, off, rfl, hcc⟩ := HI1.out (i + k) (by omega)
            have hws := win_step l i k (by omega) t
            have HWS := Lib.hid hws; clear hws
            generalize l[i + k]'(by omega) = x at *
            cases b
            · by_cases hx : x = (t : Int)
              · have d : (x == (t : Int)) = true := by simpa using hx
                have HX := Lib.hid hx; clear hx
                go_wp2_with fail
                go_roundg (v - (k + 1))
                case measure => omega
                case rel => exact ⟨k + 1, true, by go_num, by omega, by simp, by rw [HWS.out]; simp [HX.out], rfl⟩
              · have d : (x == (t : Int)) = false := by simpa using hx
                have HX := Lib.hid hx; clear hx
                go_wp2_with fail
                go_roundg (v - (k + 1))
                case measure => omega
                case rel => exact ⟨k + 1, false, by go_num, by omega, by simp, by rw [HWS.out, ← HBB.out]; simp [HX.out], rfl⟩
            · go_wp2_with fail
              go_roundg (v - (k + 1))
              case measure => omega
              case rel => exact ⟨k + 1, true, by go_num, by omega, by simp, by rw [HWS.out, ← HBB.out]; simp, rfl⟩
          · obtain rfl : v = k := by omega
            cases a
            · go_wp2_with fail
              go_roundg (n - (t + 1))
              case measure => omega
              case rel =>
                refine ⟨t + 1, false, by go_num, by omega, rfl, ?_, rfl⟩
                have h1 := HA.out
                simp only [Bool.false_eq_true, false_iff, not_and] at h1 ⊢
                intro hP hs
                exact h1 hP (fun s hs' => hs s (by omega))
            · go_wp2_with fail
              go_roundg (n - (t + 1))
              case measure => omega
              case rel =>
                refine ⟨t + 1, b, by go_num, by omega, by simp, ?_, rfl⟩
                have h1 := HA.out.1 (by trivial)
                rw [HBB.out]
                constructor
                · intro hin
                  refine ⟨h1.1, fun s hs => ?_⟩
                  by_cases e : s = t
                  · subst e; exact hin
                  · exact h1.2 s (by omega)
                · intro h
                  exact h.2 t (by omega)
        · obtain rfl : n = t := by omega
          go_wp2_with fail
          go_roundg (l.length + 1 - (i + 1))
          case measure => omega
          case rel =>
            refine ⟨i + 1, a, by go_num, by omega, rfl, ?_, fun _ => by omega, rfl⟩
            rw [HA.out]
            constructor
            · rintro ⟨h1, h2⟩ j hj
              by_cases e : j = i
              · subst e; exact h2
              · exact h1 j (by omega)
            · intro h
              exact ⟨fun j hj => h j (by omega), h i (by omega)⟩
      · go_wp2_with fail
        refine (Fair_any a1 c1 l n v hn0 (by omega) hv0 (by omega) (by omega) hc1 HT.out _ HI1.out).mono ?_
        rintro e w4 ⟨rfl, hu4⟩
        have hfa : fairB n v l = a := by
          rw [Bool.eq_iff_iff, fairB_iff, HA.out]
          constructor
          · intro h j hj
            exact h j (by have := HIV.out (by omega); omega)
          · intro h j hj
            exact h j (by omega)
        rw [hfa]
        go_wp2_with fail
        go_ret
        exact ⟨by simp, HU1.out.trans hu4 (by simp)⟩
theorem Windows_z (th m : Int) (ht : 0 ≤ th ∧ th < 256) (hm : 0 ≤ m ∧ m < 256) (ad : Option Addr) (cp : Nat) (rs : List Int) (hlen : rs.length ≤ maxLen) (w : World) (hb : Bytes w ad rs) :
    Calls Try.prog 4 #[.int .u8 th, .slice ad rs.length cp, .int .u8 m] w fun e w' => e = .returned (.bool true) ∧ Upd [] w w' := by
  obtain ⟨th, rfl⟩ := Int.eq_ofNat_of_zero_le ht.1
  obtain ⟨m, rfl⟩ := Int.eq_ofNat_of_zero_le hm.1
  exact Windows_any th m (by omega) (by omega) ad cp rs hlen w hb
end Go.Proofs.Ytbpkigdelfgafaa
