/- Contracts: the reference's Fair; the ages of package sched; Repair. -/
import Derived.Test.YtbpkigdelfgafaaSB
namespace Go.Proofs.Ytbpkigdelfgafaa
open Go.RowKit

/-- Among the first m picks no thread below t has waited w picks. -/
def OkT (w t : Nat) (l : List Int) : Prop := ∀ m, m ≤ l.length → ∀ s : Nat, s < t → age s (l.take m) < w
def OkI (w t m : Nat) (l : List Int) : Prop := ∀ j, j ≤ m → age t (l.take j) < w
def RfRel (l : List Int) (n w : Nat) (w0 : World) (g : Nat) (tv : Value) (wr : World) : Prop := ∃ t : Nat, tv = .int .i64 (t : Nat) ∧ t + g = n ∧ OkT w t l ∧ w0 = wr
def RfRel2 (l : List Int) (w t : Nat) (w0 : World) (g : Nat) (lastv iv : Value) (wr : World) : Prop :=
  ∃ i : Nat, iv = .int .i64 (i : Nat) ∧ i + g = l.length ∧ lastv = .int .i64 ((i : Int) - 1 - age t (l.take i)) ∧ OkI w t i l ∧ w0 = wr
theorem okI_succ {w t i : Nat} {l : List Int} (h : OkI w t i l) (h1 : age t (l.take (i + 1)) < w) : OkI w t (i + 1) l := by
  intro j hj
  by_cases e : j = i + 1
  · subst e; exact h1
  · exact h j (by omega)
theorem okT_succ {w t : Nat} {l : List Int} (h : OkT w t l) (h1 : OkI w t l.length l) : OkT w (t + 1) l := by
  intro m hm s hs
  by_cases e : s = t
  · subst e; exact h1 m hm
  · exact h m hm s (by omega)
theorem fair_true {n w : Nat} {l : List Int} (h : OkT w n l) : fairB n w l = true := (fairB_iff _ _ _).2 ((win_age _ _ _).2 h)
theorem fair_false {n w t m : Nat} {l : List Int} (ht : t < n) (hm : m ≤ l.length) (h : ¬ age t (l.take m) < w) : fairB n w l = false := by
  cases e : fairB n w l with
  | false => rfl
  | true => exact absurd ((win_age _ _ _).1 ((fairB_iff _ _ _).1 e) m hm t ht) h

set_option maxRecDepth 100000 in
set_option maxHeartbeats 1000000 in
theorem RFair_any (ad : Option Addr) (cp : Nat) (l : List Int) (n w : Nat) (hn : n ≤ 64) (hw0 : 1 ≤ w) (hw : w ≤ 100000) (hl : l.length ≤ 65536) (W : World) (hi : Ints W ad l) :
    Calls Try.prog 18 #[.slice ad l.length cp, .int .i64 n, .int .i64 w] W fun e w' => e = .returned (.bool (fairB n w l)) ∧ W = w' := by
  have HI := Lib.hid hi; clear hi
  go_enter Try.func18, Try.ntmps18
  go_wp2_with fail
  go_loopg [7] n (fun g tv wr => RfRel l n w W g tv wr)
  case atStart => exact ⟨0, rfl, by omega, by intro m _ s hs; omega, rfl⟩
  case round =>
    obtain ⟨t, rfl, htg, hT, rfl⟩ := hrel
    have HT := Lib.hid hT; clear hT
    by_cases ht : t < n
    · go_wp2_with fail
      go_loopg [8, 9] l.length (fun g lv iv wr => RfRel2 l w t W g lv iv wr)
      case atStart =>
        refine ⟨0, rfl, by omega, rfl, ?_, rfl⟩
        intro j hj
        obtain rfl : j = 0 := by omega
        simp only [List.take_zero, age_nil]; omega
      case round =>
        obtain ⟨i, rfl, hig, rfl, hO, rfl⟩ := hrel
        have HO := Lib.hid hO; clear hO
        by_cases hk : i < l.length
        · obtain ⟨b, off, rfl, hc⟩ := HI.out i hk
          have hage := age_le t (l.take i)
          have hs := age_snoc (t : Int) (l.take i) l[i]
          rw [← List.take_succ_eq_append_getElem hk] at hs
          have HS := Lib.hid hs; clear hs
          generalize l[i] = x at *
          rw [List.length_take, Nat.min_eq_left (by omega)] at hage
          generalize hA : age (t : Int) (l.take i) = A at *
          have HA := Lib.hid hA; clear hA
          by_cases hx : x = (t : Int)
          · have hd : (x == (t : Int)) = true := by simpa using hx
            have hs1 : age (t : Int) (l.take (i + 1)) = 0 := by rw [HS.out, if_pos hx]
            have HS1 := Lib.hid hs1; clear hs1 hx
            have hd2 : decide ((w : Int) ≤ 0) = false := by simp; omega
            go_wp2_with fail
            go_roundg (gk - 1)
            case measure => omega
            case rel => exact ⟨i + 1, by go_num, by omega, by rw [HS1.out]; go_num, okI_succ HO.out (by rw [HS1.out]; omega), rfl⟩
          · have hd : (x == (t : Int)) = false := by simpa using hx
            have hs1 : age (t : Int) (l.take (i + 1)) = A + 1 := by rw [HS.out, if_neg hx]
            have HS1 := Lib.hid hs1; clear hs1 hx
            by_cases hw2 : w ≤ A + 1
            · go_wp2_with fail
              go_ret
              exact ⟨by rw [fair_false (m := i + 1) ht (by omega) (by rw [HS1.out]; omega)]; rfl, rfl⟩
            · go_wp2_with fail
              go_roundg (gk - 1)
              case measure => omega
              case rel => exact ⟨i + 1, by go_num, by omega, by rw [HS1.out]; go_num, okI_succ HO.out (by rw [HS1.out]; omega), rfl⟩
        · obtain rfl : i = l.length := by omega
          go_wp2_with fail
          go_roundg (n - (t + 1))
          case measure => omega
          case rel => exact ⟨t + 1, by go_num, by omega, okT_succ HT.out HO.out, rfl⟩
    · obtain rfl : t = n := by omega
      go_wp2_with fail
      go_ret
      exact ⟨by rw [fair_true HT.out]; rfl, rfl⟩

/-- The ages of n threads behind the picks l. -/
def ageL (n : Nat) (l : List Int) : List Int := (List.range n).map fun t => (ages l t : Int)
theorem ageL_length (n : Nat) (l : List Int) : (ageL n l).length = n := by simp [ageL]
theorem ageL_get (n : Nat) (l : List Int) (t : Nat) (h : t < n) : (ageL n l)[t]'(by rw [ageL_length]; exact h) = (ages l t : Int) := by simp [ageL]
theorem ageL_cell {w : World} {b n : Nat} {l : List Int} {e : TypeId} {f : Nat × Nat} (h : w.heap[b]? = some (.cells (icells (ageL n l)) e f)) (t : Nat) (ht : t < n) : w.cell? ⟨b, t, none⟩ = some (.int .i64 (ages l t : Int)) := by
  rw [cell_block h, icells_get _ t (by rw [ageL_length]; exact ht), ageL_get n l t ht]

def OldRel (l : List Int) (n : Nat) (w0 : World) (g : Nat) (tv iv : Value) (wr : World) : Prop :=
  ∃ k : Nat, iv = .int .i64 (k : Nat) ∧ k + g = n ∧ tv = .int .i64 (old (ages l) k : Nat) ∧ w0 = wr
theorem old_le (f : Nat → Nat) (n k : Nat) (h : k < n) : old f k < n := by
  cases k with
  | zero => simp [old]; omega
  | succ k => have := old_lt f (k + 1) (by omega); omega
theorem old_yes (f : Nat → Nat) (k : Nat) (h : f (old f k) < f k) : old f (k + 1) = k := by simp [old, h]
theorem old_no (f : Nat → Nat) (k : Nat) (h : ¬ f (old f k) < f k) : old f (k + 1) = old f k := by simp [old, h]

set_option maxRecDepth 100000 in
set_option maxHeartbeats 1000000 in
theorem oldest_any (b n : Nat) (l : List Int) (hn0 : 1 ≤ n) (hn : n ≤ 64) (w : World) (hb : w.heap[b]? = some (.cells (icells (ageL n l)) 3 (0, 0))) :
    Calls Try.prog 29 #[.slice (some ⟨b, 0, none⟩) n n] w fun e w' => e = .returned (.int .i64 (old (ages l) n : Nat)) ∧ w = w' := by
  have HB := Lib.hid hb; clear hb
  go_enter Try.func29, Try.ntmps29
  go_wp2_with fail
  go_loopg [3, 8] n (fun g tv iv wr => OldRel l n w g tv iv wr)
  case atStart => exact ⟨0, rfl, by omega, rfl, rfl⟩
  case round =>
    obtain ⟨k, rfl, hkg, rfl, rfl⟩ := hrel
    by_cases hk : k < n
    · have hol := old_le (ages l) n k hk
      have c1 := ageL_cell HB.out k hk
      have c2 := ageL_cell HB.out _ hol
      have hy := old_yes (ages l) k
      have hno := old_no (ages l) k
      have HY := Lib.hid hy; have HN := Lib.hid hno; clear hy hno
      generalize hO : old (ages l) k = o at *
      have HO := Lib.hid hO; clear hO
      generalize hA : ages l k = A at *
      have HA := Lib.hid hA; clear hA
      generalize hA2 : ages l o = A2 at *
      have HA2 := Lib.hid hA2; clear hA2
      by_cases hc : A2 < A
      · go_wp2_with fail
        go_roundg (gk - 1)
        case measure => omega
        case rel => exact ⟨k + 1, by go_num, by omega, by rw [HY.out hc], rfl⟩
      · go_wp2_with fail
        go_roundg (gk - 1)
        case measure => omega
        case rel => exact ⟨k + 1, by go_num, by omega, by rw [HN.out hc], rfl⟩
    · obtain rfl : k = n := by omega
      go_wp2_with fail
      go_ret
      exact ⟨rfl, rfl⟩

/-- The ages while they are raised one by one: the first k are raised. -/
def upL (n : Nat) (l : List Int) (k : Nat) : List Int := (List.range n).map fun t => if t < k then (ages l t : Int) + 1 else (ages l t : Int)
theorem upL_length (n : Nat) (l : List Int) (k : Nat) : (upL n l k).length = n := by simp [upL]
theorem upL_zero (n : Nat) (l : List Int) : upL n l 0 = ageL n l := by simp [upL, ageL]
theorem upL_get (n : Nat) (l : List Int) (k : Nat) (h : k < n) : (upL n l k)[k]'(by rw [upL_length]; exact h) = (ages l k : Int) := by simp [upL]
theorem upL_set (n : Nat) (l : List Int) (k : Nat) (_h : k < n) : (upL n l k).set k ((ages l k : Int) + 1) = upL n l (k + 1) := by
  apply List.ext_getElem
  · simp [upL]
  · intro i h1 h2
    have hi : i < n := by simpa [upL] using h2
    rw [List.getElem_set]
    by_cases e : k = i
    · subst e; simp [upL]
    · rw [if_neg e]
      simp only [upL, List.getElem_map, List.getElem_range]
      by_cases h3 : i < k
      · rw [if_pos h3, if_pos (by omega)]
      · rw [if_neg h3, if_neg (by omega)]
theorem upL_done (n : Nat) (l : List Int) (p : Nat) (_hp : p < n) : (upL n l n).set p 0 = ageL n (l ++ [(p : Int)]) := by
  apply List.ext_getElem
  · simp [upL, ageL]
  · intro i h1 h2
    have hi : i < n := by simpa [ageL] using h2
    rw [List.getElem_set, ageL_get _ _ _ hi, ages_snoc]
    by_cases e : p = i
    · subst e; simp
    · rw [if_neg e, if_neg (by omega)]
      simp [upL, hi]
def AdvRel (l : List Int) (b n : Nat) (w0 : World) (g : Nat) (iv : Value) (wr : World) : Prop :=
  ∃ k : Nat, iv = .int .i64 (k : Nat) ∧ k + g = n ∧ wr.heap[b]? = some (.cells (icells (upL n l k)) 3 (0, 0)) ∧ Upd [b] w0 wr
set_option maxRecDepth 100000 in
set_option maxHeartbeats 1000000 in
theorem advance_any (b n p : Nat) (l : List Int) (hp : p < n) (hn : n ≤ 64) (hl : l.length ≤ 65536) (w : World) (hb : w.heap[b]? = some (.cells (icells (ageL n l)) 3 (0, 0))) :
    Calls Try.prog 30 #[.slice (some ⟨b, 0, none⟩) n n, .int .i64 p] w fun e w' => e = .returned (.tuple #[]) ∧ w'.heap[b]? = some (.cells (icells (ageL n (l ++ [(p : Int)]))) 3 (0, 0)) ∧ Upd [b] w w' := by
  have HB := Lib.hid hb; clear hb
  go_enter Try.func30, Try.ntmps30
  go_wp2_with fail
  go_loopg [7] n (fun g iv wr => AdvRel l b n w g iv wr)
  case atStart => exact ⟨0, rfl, by omega, by rw [upL_zero]; exact HB.out, Upd.refl _ _⟩
  case round =>
    obtain ⟨k, rfl, hkg, hb, hU⟩ := hrel
    have HBK := Lib.hid hb; have HU := Lib.hid hU
    by_cases hk : k < n
    · have c1 := cell_block hb k
      rw [icells_get _ k (by rw [upL_length]; exact hk), upL_get n l k hk] at c1
      have f1 := free_block hb k
      have hag : ages l k ≤ 65536 := Nat.le_trans (age_le _ _) hl
      clear hb hU
      go_wp2_with fail
      go_roundg (gk - 1)
      case measure => omega
      case rel => exact ⟨k + 1, by go_num, by omega, by rw [setCell_block HBK.out, icells_set, upL_set n l k hk], HU.out.setCell (by simp) _⟩
    · obtain rfl : k = n := by omega
      obtain ⟨v, c1⟩ := icell_some hb p (by rw [upL_length]; exact hp)
      have f1 := free_block hb p
      clear hb hU
      go_wp2_with fail
      refine (isThread_yes p k hp _).mono ?_
      rintro e w' ⟨rfl, rfl⟩
      go_wp2_with fail
      go_end0
      exact ⟨rfl, by rw [setCell_block HBK.out, icells_set, upL_done k l p hp], HU.out.setCell (by simp) _⟩
end Go.Proofs.Ytbpkigdelfgafaa
