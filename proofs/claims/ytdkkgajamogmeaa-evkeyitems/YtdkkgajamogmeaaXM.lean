/- Plain maths of layer 3: the orders of ints, keys, items and events. -/
import Derived.Test.YtdkkgajamogmeaaXX
namespace Go.Proofs.Ytdkkgajamogmeaa
open Go.Sort

def cmpI (a b : Int) : Int := if a < b then -1 else if b < a then 1 else 0
theorem cmpI_lt {a b : Int} (h : a < b) : cmpI a b = -1 := if_pos h
theorem cmpI_gt {a b : Int} (h : b < a) : cmpI a b = 1 := by rw [cmpI, if_neg (by omega), if_pos h]
theorem cmpI_self (a : Int) : cmpI a a = 0 := by rw [cmpI, if_neg (by omega), if_neg (by omega)]
theorem cmpI_zero {a b : Int} : cmpI a b = 0 ↔ a = b := by
  unfold cmpI
  by_cases h1 : a < b
  · rw [if_pos h1]; omega
  · rw [if_neg h1]
    by_cases h2 : b < a
    · rw [if_pos h2]; omega
    · rw [if_neg h2]; omega
theorem cmpI_neg (a b : Int) : cmpI b a = - cmpI a b := by
  unfold cmpI
  by_cases h1 : a < b <;> by_cases h2 : b < a <;> simp [h1, h2] <;> omega
theorem cmpI_range (a b : Int) : -1 ≤ cmpI a b ∧ cmpI a b ≤ 1 := by
  unfold cmpI
  by_cases h1 : a < b <;> by_cases h2 : b < a <;> simp [h1, h2]
theorem cmpI_trans (a b c : Int) (h1 : cmpI a b ≤ 0) (h2 : cmpI b c ≤ 0) : cmpI a c = min (cmpI a b) (cmpI b c) := by
  rcases Int.lt_trichotomy a b with h | rfl | h
  · rcases Int.lt_trichotomy b c with k | rfl | k
    · rw [cmpI_lt h, cmpI_lt k, cmpI_lt (by omega)]; rfl
    · rw [cmpI_lt h, cmpI_self]; rfl
    · rw [cmpI_gt k] at h2; omega
  · rw [cmpI_self, Int.min_eq_right h2]
  · rw [cmpI_gt h] at h1; omega

/-- A first comparison outweighs a second. -/
def lex (x y : Int) : Int := if x = 0 then y else x
theorem lex_zero {x y : Int} : lex x y = 0 ↔ x = 0 ∧ y = 0 := by
  unfold lex; split <;> simp_all
/-- The laws of a comparison. -/
structure Ord {α : Type} (c : α → α → Int) : Prop where
  range : ∀ a b, -1 ≤ c a b ∧ c a b ≤ 1
  neg : ∀ a b, c b a = - c a b
  trans : ∀ x y z, c x y ≤ 0 → c y z ≤ 0 → c x z = min (c x y) (c y z)
theorem ordI : Ord cmpI := ⟨cmpI_range, cmpI_neg, cmpI_trans⟩
theorem Ord.zero_left {α : Type} {c : α → α → Int} (h : Ord c) {x y : α} (e : c x y = 0) (z : α) : c x z = c y z := by
  have n1 := h.neg x y; have n2 := h.neg y z; have n3 := h.neg x z
  by_cases h1 : c y z ≤ 0
  · have := h.trans x y z (by omega) h1; omega
  · have := h.trans z y x (by omega) (by omega); omega
theorem Ord.lexed {α β γ : Type} {c : β → β → Int} {d : γ → γ → Int} (hc : Ord c) (hd : Ord d) (f : α → β) (g : α → γ) : Ord (fun x y => lex (c (f x) (f y)) (d (g x) (g y))) := by
  refine ⟨fun a b => ?_, fun a b => ?_, fun x y z h1 h2 => ?_⟩
  · unfold lex; split
    · exact hd.range _ _
    · exact hc.range _ _
  · have n1 := hc.neg (f a) (f b); have n2 := hd.neg (g a) (g b)
    unfold lex
    split <;> split <;> omega
  · have r1 := hc.range (f x) (f y); have r2 := hc.range (f y) (f z); have r3 := hd.range (g x) (g y); have r4 := hd.range (g y) (g z)
    simp only [lex] at h1 h2 ⊢
    by_cases e1 : c (f x) (f y) = 0
    · rw [if_pos e1] at h1
      rw [if_pos e1]
      rw [hc.zero_left e1 (f z)]
      by_cases e2 : c (f y) (f z) = 0
      · rw [if_pos e2] at h2
        rw [if_pos e2, if_pos e2]; exact hd.trans _ _ _ h1 h2
      · rw [if_neg e2] at h2
        rw [if_neg e2, if_neg e2]; omega
    · rw [if_neg e1] at h1
      rw [if_neg e1]
      by_cases e2 : c (f y) (f z) = 0
      · rw [if_pos e2] at h2
        have := hc.trans (f x) (f y) (f z) h1 (by omega)
        rw [if_neg (by omega), if_pos e2]; omega
      · rw [if_neg e2] at h2
        have := hc.trans (f x) (f y) (f z) h1 h2
        rw [if_neg (by omega), if_neg e2]; exact this

def cmpK : List Int → List Int → Int
  | [], [] => 0
  | [], _ :: _ => -1
  | _ :: _, [] => 1
  | x :: xs, y :: ys => lex (cmpI x y) (cmpK xs ys)
theorem cmpK_range : ∀ a b : List Int, -1 ≤ cmpK a b ∧ cmpK a b ≤ 1
  | [], [] => by simp [cmpK]
  | [], _ :: _ => by simp [cmpK]
  | _ :: _, [] => by simp [cmpK]
  | x :: xs, y :: ys => by
    unfold cmpK lex
    split
    · exact cmpK_range xs ys
    · exact cmpI_range x y
theorem cmpK_neg : ∀ a b : List Int, cmpK b a = - cmpK a b
  | [], [] => by simp [cmpK]
  | [], _ :: _ => by simp [cmpK]
  | _ :: _, [] => by simp [cmpK]
  | x :: xs, y :: ys => by
    have h1 := cmpK_neg xs ys
    have h2 := cmpI_neg x y
    unfold cmpK lex
    split <;> split <;> omega
theorem cmpK_zero : ∀ {a b : List Int}, cmpK a b = 0 ↔ a = b
  | [], [] => by simp [cmpK]
  | [], _ :: _ => by simp [cmpK]
  | _ :: _, [] => by simp [cmpK]
  | x :: xs, y :: ys => by
    rw [cmpK, lex_zero, cmpI_zero, cmpK_zero, List.cons.injEq]
theorem cmpK_trans : ∀ a b c : List Int, cmpK a b ≤ 0 → cmpK b c ≤ 0 → cmpK a c = min (cmpK a b) (cmpK b c)
  | [], [], c, _, h2 => by
    rw [show cmpK [] [] = 0 from rfl, Int.min_eq_right h2]
  | [], y :: ys, [], _, h2 => by simp [cmpK] at h2
  | [], y :: ys, z :: zs, _, _ => by
    have := cmpK_range (y :: ys) (z :: zs)
    rw [show cmpK [] (z :: zs) = -1 from rfl, show cmpK [] (y :: ys) = -1 from rfl]; omega
  | x :: xs, [], c, h1, _ => by simp [cmpK] at h1
  | x :: xs, y :: ys, [], _, h2 => by simp [cmpK] at h2
  | x :: xs, y :: ys, z :: zs, h1, h2 => by
    have r1 := cmpI_range x y; have r2 := cmpI_range y z; have r3 := cmpK_range xs ys; have r4 := cmpK_range ys zs
    simp only [cmpK, lex] at h1 h2 ⊢
    by_cases e1 : cmpI x y = 0
    · rw [if_pos e1] at h1
      rw [if_pos e1]
      obtain rfl := cmpI_zero.1 e1
      by_cases e2 : cmpI x z = 0
      · rw [if_pos e2] at h2
        rw [if_pos e2, if_pos e2]; exact cmpK_trans xs ys zs h1 h2
      · rw [if_neg e2] at h2
        rw [if_neg e2, if_neg e2]; omega
    · rw [if_neg e1] at h1
      rw [if_neg e1]
      by_cases e2 : cmpI y z = 0
      · rw [if_pos e2] at h2
        obtain rfl := cmpI_zero.1 e2
        rw [if_neg e1, if_pos e2]; omega
      · rw [if_neg e2] at h2
        have := cmpI_trans x y z h1 h2
        rw [if_neg (by omega), if_neg e2]; exact this
theorem ordK : Ord cmpK := ⟨cmpK_range, cmpK_neg, cmpK_trans⟩
theorem cmpK_self (a : List Int) : cmpK a a = 0 := cmpK_zero.2 rfl
theorem cmpK_child : ∀ (a : List Int) (i : Int), cmpK a (a ++ [i]) = -1
  | [], i => rfl
  | x :: xs, i => by
    show lex (cmpI x x) (cmpK xs (xs ++ [i])) = -1
    rw [cmpI_self, lex, if_pos rfl]; exact cmpK_child xs i
theorem cmpK_children : ∀ (a : List Int) (i k : Int), cmpK (a ++ [i]) (a ++ [k]) = cmpI i k
  | [], i, k => by
    show lex (cmpI i k) 0 = cmpI i k
    unfold lex; split <;> simp_all
  | x :: xs, i, k => by
    show lex (cmpI x x) (cmpK (xs ++ [i]) (xs ++ [k])) = _
    rw [cmpI_self, lex, if_pos rfl]; exact cmpK_children xs i k
/-- Whether a is a prefix of b. -/
def prefB : List Int → List Int → Bool
  | [], _ => true
  | _ :: _, [] => false
  | x :: xs, y :: ys => x == y && prefB xs ys
theorem cmpK_ahead : ∀ (a b u v : List Int), prefB a b = false → cmpK a b = -1 → cmpK (a ++ u) (b ++ v) = -1
  | [], _, _, _, h, _ => by simp [prefB] at h
  | _ :: _, [], _, _, _, h => by simp [cmpK] at h
  | x :: xs, y :: ys, u, v, h1, h2 => by
    simp only [prefB, Bool.and_eq_false_iff, beq_eq_false_iff_ne] at h1
    show lex (cmpI x y) (cmpK (xs ++ u) (ys ++ v)) = -1
    have h2' : lex (cmpI x y) (cmpK xs ys) = -1 := h2
    unfold lex at h2' ⊢
    by_cases e : cmpI x y = 0
    · rw [if_pos e] at h2' ⊢
      have := cmpI_zero.1 e
      rcases h1 with h1 | h1
      · exact absurd this h1
      · exact cmpK_ahead xs ys u v h1 h2'
    · rw [if_neg e] at h2' ⊢; exact h2'

/-- An item, as far as it is compared. -/
structure It where
  time : Int
  seq : Int
  slot : Int
def cmpIt (a b : It) : Int := lex (cmpI a.time b.time) (cmpI a.seq b.seq)
theorem ordIt : Ord cmpIt := ordI.lexed ordI It.time It.seq
theorem cmpIt_zero {a b : It} : cmpIt a b = 0 ↔ a.time = b.time ∧ a.seq = b.seq := by rw [cmpIt, lex_zero, cmpI_zero, cmpI_zero]
/-- An event. -/
structure Ev where
  time : Int
  key : List Int
  lp : Int
  kind : Int
  proc : Int
  arg : Int
  deriving DecidableEq, Inhabited
def cmpE (a b : Ev) : Int := lex (cmpI a.time b.time) (cmpK a.key b.key)
theorem ordE : Ord cmpE := ordI.lexed ordK Ev.time Ev.key
theorem cmpE_zero {a b : Ev} : cmpE a b = 0 ↔ a.time = b.time ∧ a.key = b.key := by rw [cmpE, lex_zero, cmpI_zero, cmpK_zero]
theorem Ord.swo {α : Type} {c : α → α → Int} (h : Ord c) {β : Type} (f : β → α) : SWO (Go.Proofs.ltOf fun x y => c (f x) (f y)) where
  irrefl x := by
    have := h.neg (f x) (f x)
    simp [ltOf]; omega
  trans x y z h1 h2 := by
    simp only [ltOf, decide_eq_true_eq] at h1 h2 ⊢
    have := h.trans (f x) (f y) (f z) (by omega) (by omega)
    omega
  ntrans x y z h1 h2 := by
    simp only [ltOf, decide_eq_false_iff_not] at h1 h2 ⊢
    have n1 := h.neg (f x) (f y); have n2 := h.neg (f y) (f z); have n3 := h.neg (f x) (f z)
    have := h.trans (f z) (f y) (f x) (by omega) (by omega)
    have r1 := h.range (f z) (f y); have r2 := h.range (f y) (f x)
    omega
end Go.Proofs.Ytdkkgajamogmeaa
