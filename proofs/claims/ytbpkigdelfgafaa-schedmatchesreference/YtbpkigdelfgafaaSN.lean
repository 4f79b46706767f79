/- SchedKeeps: the walk. -/
import Derived.Test.YtbpkigdelfgafaaSK
namespace Go.Proofs.Ytbpkigdelfgafaa
open Go.RowKit

theorem ageR_lt (t : Int) (r : List Int) : ∀ j, j ≤ ageR t r → (j < ageR t r ↔ ∃ h : j < r.length, r[j] ≠ t) := by
  induction r with
  | nil => intro j hj; simp [ageR] at hj ⊢
  | cons x r ih =>
    intro j hj
    by_cases hx : x = t
    · simp only [ageR, if_pos hx] at hj ⊢
      obtain rfl : j = 0 := by omega
      simp [hx]
    · simp only [ageR, if_neg hx] at hj ⊢
      cases j with
      | zero => simp [hx]
      | succ j =>
        have := ih j (by omega)
        simp only [Nat.add_lt_add_iff_right, this, List.length_cons, List.getElem_cons_succ]
theorem age_lt (t : Int) (l : List Int) (i j : Nat) (hi : i ≤ l.length) (hj : j ≤ age t (l.take i)) : j < age t (l.take i) ↔ ∃ h : j < i, l[i - 1 - j]'(by omega) ≠ t := by
  have h := ageR_lt t (l.take i).reverse j hj
  rw [age, h]
  have hl : (l.take i).reverse.length = i := by simp; omega
  constructor
  · rintro ⟨h1, h2⟩
    refine ⟨by omega, ?_⟩
    rw [List.getElem_reverse, List.getElem_take] at h2
    simpa [Nat.min_eq_left hi] using h2
  · rintro ⟨h1, h2⟩
    refine ⟨by omega, ?_⟩
    rw [List.getElem_reverse, List.getElem_take]
    simpa [Nat.min_eq_left hi] using h2
theorem ages_lt (t : Nat) (l : List Int) (i : Nat) (hi : i ≤ l.length) (j : Nat) (hj : j ≤ ages (l.take i) t) : j < ages (l.take i) t ↔ ∃ h : j < i, l[i - 1 - j]'(by omega) ≠ (t : Int) := age_lt t l i j hi hj
def mx (f : Nat → Nat) : Nat → Nat
  | 0 => 0
  | t + 1 => max (mx f t) (f t)
theorem mx_old (f : Nat → Nat) (n : Nat) (hn : 1 ≤ n) : mx f n = f (old f n) := by
  induction n with
  | zero => omega
  | succ n ih =>
    cases n with
    | zero => simp [mx, old]
    | succ n =>
      have h := ih (by omega)
      rw [mx, h, old.eq_2 f (n + 1)]
      split <;> omega
def ownA (f : Nat → Nat) (y t : Nat) : Nat := if y < t then f y else 0
theorem own_yes (f : Nat → Nat) (y : Nat) : ownA f y (y + 1) = f y := by simp [ownA]
theorem own_no (f : Nat → Nat) (y t : Nat) (h : t ≠ y) : ownA f y (t + 1) = ownA f y t := by
  unfold ownA
  by_cases h1 : y < t
  · rw [if_pos h1, if_pos (by omega)]
  · rw [if_neg h1, if_neg (by omega)]

def KiRel (c : Nat) (w : World) (g : Nat) (iv : Value) (wr : World) : Prop := ∃ k : Nat, iv = .int .i64 (k : Nat) ∧ k + g = c ∧ Upd [] w wr
def KtRel (f : Nat → Nat) (n y : Nat) (w : World) (g : Nat) (lv ov tv : Value) (wr : World) : Prop :=
  ∃ t : Nat, tv = .int .i64 (t : Nat) ∧ t + g = n ∧ lv = .int .i64 (mx f t : Nat) ∧ ov = .int .i64 (ownA f y t : Nat) ∧ w = wr
def KaRel (i A : Nat) (w : World) (g : Nat) (av kv : Value) (wr : World) : Prop :=
  ∃ (j : Nat) (kk : Int), av = .int .i64 (j : Nat) ∧ kv = .int .i64 kk ∧ kk = (i : Int) - 1 - j ∧ j ≤ A ∧ j + g = i ∧ w = wr

set_option maxRecDepth 100000 in
set_option maxHeartbeats 8000000 in
theorem Keeps_any (th m : Nat) (ht : th < 256) (hm : m < 256) (ad : Option Addr) (cp : Nat) (rs : List Int) (hlen : rs.length ≤ maxLen) (w : World) (hb : Bytes w ad rs) :
    Calls Try.prog 6 #[.int .u8 th, .slice ad rs.length cp, .int .u8 m] w fun e w' => e = .returned (.bool true) ∧ Upd [] w w' := by
  unfold maxLen at hlen
  have HB := Lib.hid hb; clear hb
  by_cases hl : 300 < rs.length
  · go_enter Try.func6, Try.ntmps6
    go_wp2_with fail
    refine (head_any _).mono ?_
    rintro e w0 ⟨rfl, hu0⟩
    go_wp2_with fail
    go_ret
    exact ⟨rfl, hu0⟩
  · have hl0 : decide (300 < (rs.length : Int)) = false := by simp; omega
    go_enter Try.func6, Try.ntmps6
    go_wp2_with fail
    refine (head_any _).mono ?_
    rintro e w0 ⟨rfl, hu0⟩
    have HU0 := Lib.hid hu0; clear hu0
    go_wp2_with fail
    refine (Threads_ex th (by omega) _).mono ?_
    rintro e w1 ⟨n, hn0, hn8, rfl, rfl⟩
    go_wp2_with fail
    obtain ⟨v, hv⟩ : ∃ v : Nat, (n : Int) + (m : Int) % 30 = (v : Nat) := ⟨((n : Int) + (m : Int) % 30).toNat, by omega⟩
    have hv0 : n ≤ v := by omega
    have hv1 : v ≤ 38 := by omega
    rw [hv]
    clear hv
    refine (Picks_any ad cp rs n hn0 (by omega) (by omega) _ (HB.out.stay HU0.out)).mono ?_
    rintro e w2 ⟨a1, c1, rfl, hi1, hu1, hc1⟩
    have HI1 := Lib.hid hi1; have HU1 : Hid (Upd [] w w2) := HU0.out.trans hu1 (by simp)
    clear hi1 hu1 HU0
    have hpl := pickL_length n rs
    have hT := pickL_thr n rs (by omega)
    generalize pickL n rs = l at *
    have HT := Lib.hid hT
    have hll : l.length ≤ 300 := by omega
    clear hT hpl
    go_wp2_with fail
    refine (Repair_any a1 c1 l n v hn0 (by omega) (by omega) (by omega) (by omega) HT.out _ HI1.out).mono ?_
    rintro e w3 ⟨a2, c2, rfl, hi2, hu2, hc2⟩
    have HI2 := Lib.hid hi2; have HI3 := Lib.hid (HI1.out.stay hu2); have HU2 : Hid (Upd [] w w3) := HU1.out.trans hu2 (by simp)
    clear hi2 hu2 HU1 HI1
    have hql := repair_length n v l
    have hQT := repair_thr n v l (by omega) HT.out
    have hget : ∀ k (h : k < l.length) (h2 : k < (repair n v l).length), (repair n v l)[k] = choice n v ((repair n v l).take k) l[k] := fun k h h2 => repair_get n v l k h
    generalize repair n v l = q at *
    have hd : ((q.length : Int) != (l.length : Int)) = false := by simp; omega
    have HQT := Lib.hid hQT; have HQ := Lib.hid hql; have HGET := Lib.hid hget
    have hq5 : q.length ≤ 300 := by omega
    clear hQT hql hget
    go_wp2_with fail
    go_loopg [12] q.length (fun g iv wr => KiRel q.length w3 g iv wr)
    case atStart => exact ⟨0, rfl, by omega, Upd.refl _ _⟩
    case round =>
      obtain ⟨i, rfl, hig, hU⟩ := hrel
      have HU := Lib.hid hU; clear hU
      by_cases hi : i < q.length
      · have hil : i < l.length := by have := HQ.out; omega
        have HG := Lib.hid (HGET.out i hil hi)
        obtain ⟨bq, offq, rfl, hcq⟩ := (HI2.out.stay HU.out) i hi
        obtain ⟨bp, offp, rfl, hcp⟩ := (HI3.out.stay HU.out) i hil
        have hth := HQT.out _ (List.getElem_mem hi)
        obtain ⟨y, hy⟩ := Int.eq_ofNat_of_zero_le hth.1
        have hyn : y < n := by omega
        rw [hy] at hcq
        have HY := Lib.hid hy; clear hy hth
        have hag : ∀ s, ages (q.take i) s ≤ i := fun s => by have := age_le (s : Int) (q.take i); simp at this; unfold ages; omega
        have HAG := Lib.hid hag; clear hag
        go_wp2_with fail
        go_loopg [13, 14, 15] n (fun g lv ov tv wr2 => KtRel (ages (q.take i)) n y wr g lv ov tv wr2)
        case atStart => exact ⟨0, rfl, by omega, rfl, rfl, rfl⟩
        case round =>
        obtain ⟨t, rfl, htg, rfl, rfl, rfl⟩ := hrel
        by_cases htn : t < n
        · have hA := HAG.out t
          have hmx : mx (ages (q.take i)) (t + 1) = max (mx (ages (q.take i)) t) (ages (q.take i) t) := rfl
          have hlt := ages_lt t q i (by omega)
          have hmb : mx (ages (q.take i)) t ≤ i := by
            clear hmx hlt htg
            induction t with
            | zero => simp [mx]
            | succ t ih => have := ih (by omega) (HAG.out t); have := HAG.out t; simp only [mx]; omega
          have howy := own_yes (ages (q.take i)) y
          have hown := own_no (ages (q.take i)) y t
          generalize hAA : ages (q.take i) t = A at *
          generalize hMM : mx (ages (q.take i)) t = M at *
          have HMX := Lib.hid hmx; have HLT := Lib.hid hlt; have HOY := Lib.hid howy; have HON := Lib.hid hown; have HAA := Lib.hid hAA
          clear hmx hlt howy hown hAA hMM
          go_wp2_with fail
          go_loopg [16, 17] i (fun g av kv wr2 => KaRel i A wr g av kv wr2)
          case atStart => exact ⟨0, _, rfl, rfl, by omega, by omega, by omega, rfl⟩
          case round =>
          obtain ⟨j, kk, rfl, rfl, hkk, hjA, hjg, rfl⟩ := hrel
          have hk1 := Int.le_of_eq hkk
          have hk2 := Int.le_of_eq hkk.symm
          clear hkk
          by_cases hj : j < A
          · obtain ⟨hji, hne⟩ := (HLT.out j (by omega)).1 hj
            obtain ⟨kn, rfl⟩ := Int.eq_ofNat_of_zero_le (show 0 ≤ kk by omega)
            obtain ⟨b', off', hbo, hcc⟩ := (HI2.out.stay HU.out) kn (by omega)
            cases hbo
            have hkn : kn = i - 1 - j := by omega
            have hne2 : q[kn]'(by omega) ≠ (t : Int) := by
              have : q[kn]'(by omega) = q[i - 1 - j]'(by omega) := by congr 1
              rw [this]; exact hne
            have hkl : kn < q.length := by omega
            generalize q[kn]'(by omega) = x at *
            have d : (x != (t : Int)) = true := by simpa using hne2
            have d0 : decide (0 ≤ (kn : Int)) = true := by simp
            clear hne hne2 hkn
            go_wp2_with fail
            go_roundg (i - (j + 1))
            case measure => omega
            case rel => exact ⟨j + 1, _, by go_num, rfl, by omega, by omega, by omega, rfl⟩
          · obtain rfl : A = j := by omega
            have hxit : (kk = -1) ∨ ∃ kn : Nat, kk = (kn : Int) ∧ ∃ h : kn < q.length, q[kn] = (t : Int) := by
              by_cases hAi : A < i
              · refine .inr ⟨i - 1 - A, by omega, by omega, ?_⟩
                have h1 := HLT.out A (Nat.le_refl _)
                exact Classical.byContradiction fun hne => hj (h1.2 ⟨hAi, hne⟩)
              · exact .inl (by omega)
            clear hj hk1 hk2
            have hown2 : (ownA (ages (q.take i)) y (t + 1) = A ∧ (((t : Int) == (y : Int)) = true)) ∨ (ownA (ages (q.take i)) y (t + 1) = ownA (ages (q.take i)) y t ∧ (((t : Int) == (y : Int)) = false)) := by
              by_cases hty : t = y
              · subst hty
                exact .inl ⟨by rw [HOY.out]; exact HAA.out, by simp⟩
              · exact .inr ⟨HON.out hty, by simp; omega⟩
            have hmx2 : (mx (ages (q.take i)) (t + 1) = A ∧ M < A) ∨ (mx (ages (q.take i)) (t + 1) = M ∧ A ≤ M) := by
              rw [HMX.out]
              by_cases hMA : M < A
              · exact .inl ⟨by omega, hMA⟩
              · exact .inr ⟨by omega, by omega⟩
            generalize hOW : ownA (ages (q.take i)) y t = O at *
            have HOW := Lib.hid hOW; clear hOW
            rcases hxit with rfl | ⟨kn, rfl, hkl, hqk⟩
            · rcases hown2 with ⟨ho, hd1⟩ | ⟨ho, hd1⟩
              all_goals
                rcases hmx2 with ⟨hm2, hm3⟩ | ⟨hm2, hm3⟩
                all_goals
                  have HO2 := Lib.hid ho; have HM2 := Lib.hid hm2
                  clear ho hm2
                  go_wp2_with fail
                  go_roundg (n - (t + 1))
                  case measure => omega
                  case rel => exact ⟨t + 1, by go_num, by omega, by rw [HM2.out], by rw [HO2.out], rfl⟩
            · obtain ⟨b', off', hbo, hcc⟩ := (HI2.out.stay HU.out) kn hkl
              cases hbo
              rw [hqk] at hcc
              clear hqk
              have d : (((t : Int)) != (t : Int)) = false := by simp
              have d0 : decide (0 ≤ (kn : Int)) = true := by simp
              rcases hown2 with ⟨ho, hd1⟩ | ⟨ho, hd1⟩
              all_goals
                rcases hmx2 with ⟨hm2, hm3⟩ | ⟨hm2, hm3⟩
                all_goals
                  have HO2 := Lib.hid ho; have HM2 := Lib.hid hm2
                  clear ho hm2
                  go_wp2_with fail
                  go_roundg (n - (t + 1))
                  case measure => omega
                  case rel => exact ⟨t + 1, by go_num, by omega, by rw [HM2.out], by rw [HO2.out], rfl⟩
        · obtain rfl : n = t := by omega
          rw [mx_old _ _ hn0]
          have hfin : (v - n ≤ ages (q.take i) (old (ages (q.take i)) n) ∧ ownA (ages (q.take i)) y n = ages (q.take i) (old (ages (q.take i)) n)) ∨ (¬ v - n ≤ ages (q.take i) (old (ages (q.take i)) n) ∧ (y : Int) = l[i]) := by
            have hg := HG.out
            unfold choice at hg
            by_cases hdue : v - n ≤ ages (q.take i) (old (ages (q.take i)) n)
            · rw [if_pos hdue, HY.out] at hg
              have : y = old (ages (q.take i)) n := by omega
              refine .inl ⟨hdue, ?_⟩
              rw [ownA, if_pos hyn, this]
            · rw [if_neg hdue, HY.out] at hg
              exact .inr ⟨hdue, hg⟩
          have hb1 := HAG.out (old (ages (q.take i)) n)
          generalize ages (q.take i) (old (ages (q.take i)) n) = X at *
          generalize ownA (ages (q.take i)) y n = O at *
          rcases hfin with ⟨hdue, rfl⟩ | ⟨hdue, hyl⟩
          · have d1 : decide ((O : Int) < (v : Int) - n) = false := by simp; omega
            have d2 : decide ((v : Int) - n ≤ (O : Int)) = true := by simp; omega
            go_wp2_with fail
            go_quiet (fail)
            go_wp2_with fail
            go_roundg (q.length - (i + 1))
            case measure => omega
            case rel => exact ⟨i + 1, by go_num, by omega, HU.out.drewN _⟩
          · rw [← hyl] at hcp
            clear hyl
            have d1 : decide ((X : Int) < (v : Int) - n) = true := by simp; omega
            have d2 : decide ((v : Int) - n ≤ (X : Int)) = false := by simp; omega
            go_wp2_with fail
            go_quiet (fail)
            go_wp2_with fail
            go_roundg (q.length - (i + 1))
            case measure => omega
            case rel => exact ⟨i + 1, by go_num, by omega, HU.out.drewN _⟩
      · go_wp2_with fail
        go_ret
        exact ⟨rfl, HU2.out.trans HU.out (by simp)⟩
theorem Keeps_z (th m : Int) (ht : 0 ≤ th ∧ th < 256) (hm : 0 ≤ m ∧ m < 256) (ad : Option Addr) (cp : Nat) (rs : List Int) (hlen : rs.length ≤ maxLen) (w : World) (hb : Bytes w ad rs) :
    Calls Try.prog 6 #[.int .u8 th, .slice ad rs.length cp, .int .u8 m] w fun e w' => e = .returned (.bool true) ∧ Upd [] w w' := by
  obtain ⟨th, rfl⟩ := Int.eq_ofNat_of_zero_le ht.1
  obtain ⟨m, rfl⟩ := Int.eq_ofNat_of_zero_le hm.1
  exact Keeps_any th m (by omega) (by omega) ad cp rs hlen w hb
end Go.Proofs.Ytbpkigdelfgafaa
