/- Plain maths: a rung as lists, its operations, when it is valid, what they keep. Nothing of the program. -/
/- Plain maths: the order of items, insertion at a place, sorting by insertion. Nothing of the program. -/
import Derived.Test.YtmfnfinbkdemkaaGreatRows
namespace Go.Proofs.YtmfnfinbkdemkaaGreat

structure It where
  t : Int
  q : Int
  s : Int
  deriving DecidableEq, Inhabited
structure Rg where
  fr : Int
  wd : Int
  cu : Int
  bs : List (List It)
  deriving DecidableEq
def bAt (bs : List (List It)) (i : Nat) : List It := bs[i]?.getD []
theorem bAt_get {bs : List (List It)} {i : Nat} (h : i < bs.length) : bAt bs i = bs[i] := by simp [bAt, h]
theorem bAt_set {bs : List (List It)} {i k : Nat} {s : List It} (h : i < bs.length) : bAt (bs.set i s) k = if k = i then s else bAt bs k := by
  unfold bAt
  rw [List.getElem?_set]
  by_cases hk : k = i
  · subst hk; simp [h]
  · rw [if_neg (fun e => hk e.symm), if_neg hk]
def curT (r : Rg) : Int := r.fr + r.cu * r.wd
def endT (r : Rg) : Int := r.fr + 8 * r.wd
def lenL (bs : List (List It)) : Nat := (bs.map List.length).sum
def lenTo (bs : List (List It)) (k : Nat) : Nat := lenL (bs.take k)
theorem lenTo_zero (bs : List (List It)) : lenTo bs 0 = 0 := by simp [lenTo, lenL]
theorem lenTo_succ {bs : List (List It)} {k : Nat} (h : k < bs.length) : lenTo bs (k + 1) = lenTo bs k + bs[k].length := by
  have e : bs.take (k + 1) = bs.take k ++ [bs[k]] := List.take_succ_eq_append_getElem h
  rw [lenTo, lenTo, e]
  simp only [lenL, List.map_append, List.sum_append, List.map_cons, List.map_nil, List.sum_cons, List.sum_nil, Nat.add_zero]
theorem lenTo_all {bs : List (List It)} : lenTo bs bs.length = lenL bs := by simp [lenTo]
theorem lenL_app (a b : List (List It)) : lenL (a ++ b) = lenL a + lenL b := by simp [lenL]
theorem lenTo_le (bs : List (List It)) (k : Nat) : lenTo bs k ≤ lenL bs := by
  have h := lenL_app (bs.take k) (bs.drop k)
  rw [List.take_append_drop] at h
  unfold lenTo; omega
theorem len_le {bs : List (List It)} {k : Nat} (h : k < bs.length) : bs[k].length ≤ lenL bs := by
  have h1 := lenTo_succ h
  have h2 := lenTo_le bs (k + 1)
  omega
theorem lenL_set : ∀ {bs : List (List It)} {i : Nat} (h : i < bs.length) (s : List It), lenL (bs.set i s) + bs[i].length = lenL bs + s.length
  | x :: bs, 0, _, s => by simp [lenL]; omega
  | x :: bs, i + 1, h, s => by
    have ih := lenL_set (bs := bs) (i := i) (by simpa using h) s
    simp only [List.set_cons_succ, List.getElem_cons_succ] at ih ⊢
    simp only [lenL, List.map_cons, List.sum_cons] at ih ⊢
    omega
theorem lenL_set' {bs : List (List It)} {i : Nat} (h : i < bs.length) (s : List It) : lenL (bs.set i s) + (bAt bs i).length = lenL bs + s.length := by
  rw [bAt_get h]; exact lenL_set h s
theorem lenL_zero {bs : List (List It)} (h : ∀ i, i < bs.length → bAt bs i = []) : lenL bs = 0 := by
  induction bs with
  | nil => rfl
  | cons x bs ih =>
    have h0 := h 0 (by simp)
    have : x = [] := by simpa [bAt] using h0
    subst this
    have hi := ih (fun i hi => by simpa [bAt] using h (i + 1) (by simpa using hi))
    simp only [lenL, List.map_cons, List.sum_cons, List.length_nil, Nat.zero_add] at hi ⊢
    exact hi

def ixR (r : Rg) (t : Int) : Nat := ((t - r.fr) / r.wd).toNat
def Fits (r : Rg) (t : Int) : Prop := curT r ≤ t ∧ t < endT r
instance (r : Rg) (t : Int) : Decidable (Fits r t) := by unfold Fits; infer_instance
def addR (r : Rg) (it : It) : Rg := ⟨r.fr, r.wd, r.cu, r.bs.set (ixR r it.t) (bAt r.bs (ixR r it.t) ++ [it])⟩
def putR (r : Rg) (it : It) : Rg × Bool := if Fits r it.t then (addR r it, true) else (r, false)
theorem putR_yes {r : Rg} {it : It} (h : Fits r it.t) : putR r it = (addR r it, true) := by rw [putR, if_pos h]
theorem putR_no {r : Rg} {it : It} (h : ¬ Fits r it.t) : putR r it = (r, false) := by rw [putR, if_neg h]
def takeR (r : Rg) (i : Nat) : Rg := ⟨r.fr, r.wd, i + 1, r.bs.set i []⟩
def firstR (bs : List (List It)) : Nat := bs.findIdx (fun b => !b.isEmpty)
def nextR (r : Rg) : Rg × List It × Int × Bool := if firstR r.bs < r.bs.length then (takeR r (firstR r.bs), bAt r.bs (firstR r.bs), r.fr + (firstR r.bs : Nat) * r.wd, true) else (⟨r.fr, r.wd, 8, r.bs⟩, [], 0, false)
theorem firstR_is {bs : List (List It)} {i : Nat} (hi : i < bs.length) (h1 : bAt bs i ≠ []) (h0 : ∀ k, k < i → bAt bs k = []) : firstR bs = i := by
  unfold firstR
  rw [List.findIdx_eq hi]
  refine ⟨?_, fun j hj => ?_⟩
  · rw [bAt_get hi] at h1
    cases hb : bs[i] with
    | nil => exact absurd hb h1
    | cons x xs => rfl
  · have := h0 j hj
    rw [bAt_get (by omega)] at this
    rw [this]; rfl
theorem firstR_none {bs : List (List It)} (h0 : ∀ k, k < bs.length → bAt bs k = []) : firstR bs = bs.length := by
  unfold firstR
  rw [List.findIdx_eq_length]
  intro x hx
  obtain ⟨i, hi, rfl⟩ := List.mem_iff_getElem.1 hx
  have := h0 i hi
  rw [bAt_get hi] at this
  rw [this]; rfl
theorem firstR_at {bs : List (List It)} (h : firstR bs < bs.length) : bAt bs (firstR bs) ≠ [] ∧ ∀ k, k < firstR bs → bAt bs k = [] := by
  constructor
  · have := List.findIdx_getElem (p := fun b : List It => !b.isEmpty) (xs := bs) (w := h)
    rw [bAt_get h]
    intro e
    unfold firstR at e
    rw [e] at this
    simp at this
  · intro k hk
    have := List.not_of_lt_findIdx (p := fun b : List It => !b.isEmpty) (xs := bs) hk
    rw [bAt_get (by omega)]
    simpa using this
theorem firstR_le (bs : List (List It)) : firstR bs ≤ bs.length := List.findIdx_le_length
theorem firstR_end {bs : List (List It)} (h : ¬ firstR bs < bs.length) : ∀ k, k < bs.length → bAt bs k = [] := by
  intro k hk
  have h1 := firstR_le bs
  have := List.not_of_lt_findIdx (p := fun b : List It => !b.isEmpty) (xs := bs) (i := k) (by unfold firstR at h h1; omega)
  rw [bAt_get hk]
  simpa using this
theorem nextR_yes {r : Rg} {i : Nat} (hi : i < r.bs.length) (h1 : bAt r.bs i ≠ []) (h0 : ∀ k, k < i → bAt r.bs k = []) : nextR r = (takeR r i, bAt r.bs i, r.fr + i * r.wd, true) := by
  have := firstR_is hi h1 h0
  rw [nextR, this, if_pos hi]
theorem nextR_no {r : Rg} (h0 : ∀ k, k < r.bs.length → bAt r.bs k = []) : nextR r = (⟨r.fr, r.wd, 8, r.bs⟩, [], 0, false) := by
  have := firstR_none h0
  rw [nextR, this, if_neg (by omega)]
/-- Next, by cases. -/
theorem nextR_cases (r : Rg) : (∃ i, i < r.bs.length ∧ bAt r.bs i ≠ [] ∧ (∀ k, k < i → bAt r.bs k = []) ∧ nextR r = (takeR r i, bAt r.bs i, r.fr + i * r.wd, true)) ∨ ((∀ k, k < r.bs.length → bAt r.bs k = []) ∧ nextR r = (⟨r.fr, r.wd, 8, r.bs⟩, [], 0, false)) := by
  by_cases h : firstR r.bs < r.bs.length
  · have := firstR_at h
    exact .inl ⟨_, h, this.1, this.2, nextR_yes h this.1 this.2⟩
  · have := firstR_end h
    exact .inr ⟨this, nextR_no this⟩

def InB (r : Rg) (i : Nat) (it : It) : Prop := r.fr + i * r.wd ≤ it.t ∧ it.t < r.fr + (i + 1) * r.wd
structure GoodR (r : Rg) : Prop where
  fr0 : 0 ≤ r.fr
  fr1 : r.fr ≤ 1152921504606846976
  wd0 : 1 ≤ r.wd
  wd1 : r.wd ≤ 144115188075855873
  cu0 : 0 ≤ r.cu
  cu1 : r.cu ≤ 8
  len : r.bs.length = 8
  low : ∀ i : Nat, i < 8 → (i : Int) < r.cu → bAt r.bs i = []
  inb : ∀ i : Nat, i < 8 → ∀ it ∈ bAt r.bs i, InB r i it
open Classical in
noncomputable def validR (r : Rg) : Bool := decide (GoodR r)
theorem validR_yes {r : Rg} : validR r = true ↔ GoodR r := by simp [validR]
theorem validR_no {r : Rg} : validR r = false ↔ ¬ GoodR r := by simp [validR]
theorem mul_mono {a b w : Int} (h : a ≤ b) (hw : 1 ≤ w) : a * w ≤ b * w := Int.mul_le_mul_of_nonneg_right h (by omega)
theorem GoodR.prod {r : Rg} (h : GoodR r) {i : Int} (h0 : 0 ≤ i) (h1 : i ≤ 8) : 0 ≤ i * r.wd ∧ i * r.wd ≤ 8 * r.wd := ⟨Int.mul_nonneg h0 (by have := h.wd0; omega), mul_mono h1 h.wd0⟩
theorem GoodR.times {r : Rg} (h : GoodR r) : 0 ≤ curT r ∧ curT r ≤ endT r ∧ endT r ≤ 2305843009213693960 ∧ r.fr ≤ curT r := by
  have h1 := h.prod h.cu0 h.cu1
  have h2 := h.fr0
  have h3 := h.fr1
  have h4 := h.wd1
  unfold curT endT
  omega
/-- The bucket of a time that fits. -/
theorem GoodR.ix {r : Rg} (h : GoodR r) {t : Int} (hf : Fits r t) : ixR r t < 8 ∧ r.cu ≤ (ixR r t : Nat) ∧ r.fr + (ixR r t : Nat) * r.wd ≤ t ∧ t < r.fr + ((ixR r t : Nat) + 1) * r.wd ∧ ((ixR r t : Nat) : Int) = (t - r.fr) / r.wd := by
  obtain ⟨h1, h2⟩ := hf
  have ht := h.times
  have hw := h.wd0
  unfold curT at h1
  unfold endT at h2
  have d0 : 0 ≤ t - r.fr := by have := h.prod h.cu0 h.cu1; omega
  have e0 := Int.ediv_nonneg d0 (show 0 ≤ r.wd by omega)
  have e : ((ixR r t : Nat) : Int) = (t - r.fr) / r.wd := by unfold ixR; omega
  have e1 : (t - r.fr) / r.wd < 8 := Int.ediv_lt_of_lt_mul (by omega) (by omega)
  have e2 : r.cu ≤ (t - r.fr) / r.wd := Int.le_ediv_of_mul_le (by omega) (by omega)
  have e3 := Int.ediv_mul_add_emod (t - r.fr) r.wd
  have e4 := Int.emod_nonneg (t - r.fr) (show r.wd ≠ 0 by omega)
  have e5 := Int.emod_lt_of_pos (t - r.fr) (show 0 < r.wd by omega)
  have e6 : (((t - r.fr) / r.wd) + 1) * r.wd = (t - r.fr) / r.wd * r.wd + r.wd := by rw [Int.add_mul]; omega
  rw [e]
  refine ⟨by omega, e2, by omega, by omega, rfl⟩
theorem GoodR.add {r : Rg} (h : GoodR r) {it : It} (hf : Fits r it.t) : GoodR (addR r it) := by
  obtain ⟨h1, h2, h3, h4, _⟩ := h.ix hf
  have hl := h.len
  refine ⟨h.fr0, h.fr1, h.wd0, h.wd1, h.cu0, h.cu1, by simp [addR, hl], fun i hi hc => ?_, fun i hi x hx => ?_⟩
  · show bAt (r.bs.set _ _) i = []
    have hc' : (i : Int) < r.cu := hc
    rw [bAt_set (by omega), if_neg (by omega)]
    exact h.low i hi hc
  · have hx' : x ∈ bAt (r.bs.set (ixR r it.t) (bAt r.bs (ixR r it.t) ++ [it])) i := hx
    rw [bAt_set (by omega)] at hx'
    split at hx'
    · rename_i e
      subst e
      rcases List.mem_append.1 hx' with hx' | hx'
      · exact h.inb _ hi x hx'
      · obtain rfl : x = it := by simpa using hx'
        exact ⟨h3, h4⟩
    · exact h.inb i hi x hx'
theorem GoodR.put {r : Rg} (h : GoodR r) (it : It) : GoodR (putR r it).1 := by
  by_cases hf : Fits r it.t
  · rw [putR_yes hf]; exact h.add hf
  · rw [putR_no hf]; exact h
theorem GoodR.take {r : Rg} (h : GoodR r) {i : Nat} (hi : i < r.bs.length) (h0 : ∀ k, k < i → bAt r.bs k = []) : GoodR (takeR r i) := by
  have hl := h.len
  refine ⟨h.fr0, h.fr1, h.wd0, h.wd1, by show (0 : Int) ≤ (i : Int) + 1; omega, by show (i : Int) + 1 ≤ 8; omega, by simp [takeR, hl], fun k hk hc => ?_, fun k hk x hx => ?_⟩
  · have hc' : (k : Int) < (i : Int) + 1 := hc
    show bAt (r.bs.set i []) k = []
    rw [bAt_set hi]
    split
    · rfl
    · exact h0 k (by omega)
  · have hx' : x ∈ bAt (r.bs.set i []) k := hx
    rw [bAt_set hi] at hx'
    split at hx'
    · simp at hx'
    · exact h.inb k hk x hx'
theorem GoodR.shut {r : Rg} (h : GoodR r) (h0 : ∀ k, k < r.bs.length → bAt r.bs k = []) : GoodR ⟨r.fr, r.wd, 8, r.bs⟩ :=
  ⟨h.fr0, h.fr1, h.wd0, h.wd1, (by decide : (0 : Int) ≤ 8), (by decide : (8 : Int) ≤ 8), h.len, fun i hi _ => h0 i (by have := h.len; omega), fun i hi x hx => by
    have e : bAt r.bs i = [] := h0 i (by have := h.len; omega)
    simp only at hx
    rw [e] at hx; simp at hx⟩
theorem GoodR.next {r : Rg} (h : GoodR r) : GoodR (nextR r).1 := by
  rcases nextR_cases r with ⟨i, hi, _, h0, e⟩ | ⟨h0, e⟩
  · rw [e]; exact h.take hi h0
  · rw [e]; exact h.shut h0
theorem put_len {r : Rg} (h : GoodR r) {it : It} (hf : Fits r it.t) : lenL (addR r it).bs = lenL r.bs + 1 := by
  obtain ⟨h1, _⟩ := h.ix hf
  have := lenL_set' (bs := r.bs) (i := ixR r it.t) (by rw [h.len]; exact h1) (bAt r.bs (ixR r it.t) ++ [it])
  rw [List.length_append, List.length_singleton] at this
  show lenL (r.bs.set _ _) = _
  omega
theorem next_len (r : Rg) : lenL (nextR r).1.bs + (nextR r).2.1.length = lenL r.bs := by
  rcases nextR_cases r with ⟨i, hi, _, _, e⟩ | ⟨_, e⟩
  · rw [e]
    have := lenL_set' hi []
    simpa [takeR] using this
  · rw [e]; simp
def newR (f w : Int) : Rg := ⟨f, w, 0, List.replicate 8 []⟩
theorem bAt_rep (n i : Nat) : bAt (List.replicate n []) i = [] := by
  unfold bAt
  rw [List.getElem?_replicate]
  split <;> rfl
theorem newR_good {f w : Int} (h1 : 0 ≤ f) (h2 : f ≤ 1152921504606846976) (h3 : 1 ≤ w) (h4 : w ≤ 144115188075855873) : GoodR (newR f w) :=
  ⟨h1, h2, h3, h4, (by decide : (0 : Int) ≤ 0), (by decide : (0 : Int) ≤ 8), by simp [newR], fun i _ _ => bAt_rep 8 i, fun i hi x hx => by
    have hx' : x ∈ bAt (List.replicate 8 []) i := hx
    rw [bAt_rep] at hx'
    simp at hx'⟩

/-- One operation of a script. -/
structure Oz where
  n : Bool
  a : Int
  q : Int
def itemR (r : Rg) (o : Oz) : It := ⟨r.fr + o.a % (8 * r.wd + 3) - 1, o.q, 0⟩
def stepR (r : Rg) (o : Oz) : Rg := if o.n then (nextR r).1 else (putR r (itemR r o)).1
def runR (r : Rg) (os : List Oz) : Rg := os.foldl stepR r
theorem runR_take_succ (r : Rg) (os : List Oz) (k : Nat) (h : k < os.length) : runR r (os.take (k + 1)) = stepR (runR r (os.take k)) os[k] := by
  unfold runR
  rw [List.take_succ_eq_append_getElem h, List.foldl_append]
  rfl
structure Reach (f w : Int) (k : Nat) (r : Rg) : Prop where
  good : GoodR r
  fr : r.fr = f
  wd : r.wd = w
  len : lenL r.bs ≤ k
theorem putR_fr (r : Rg) (it : It) : (putR r it).1.fr = r.fr ∧ (putR r it).1.wd = r.wd := by
  unfold putR
  split <;> exact ⟨rfl, rfl⟩
theorem nextR_fr (r : Rg) : (nextR r).1.fr = r.fr ∧ (nextR r).1.wd = r.wd := by
  unfold nextR
  split <;> exact ⟨rfl, rfl⟩
theorem put_len_le {r : Rg} (h : GoodR r) (it : It) : lenL (putR r it).1.bs ≤ lenL r.bs + 1 := by
  by_cases hf : Fits r it.t
  · rw [putR_yes hf]
    have := put_len h hf
    simp only
    omega
  · rw [putR_no hf]; simp
theorem Reach.step {f w : Int} {k : Nat} {r : Rg} (h : Reach f w k r) (o : Oz) : Reach f w (k + 1) (stepR r o) := by
  unfold stepR
  split
  · have := nextR_fr r
    have hl := next_len r
    have := h.len
    exact ⟨h.good.next, by rw [(nextR_fr r).1]; exact h.fr, by rw [(nextR_fr r).2]; exact h.wd, by omega⟩
  · have hl := put_len_le h.good (itemR r o)
    have := h.len
    exact ⟨h.good.put _, by rw [(putR_fr r _).1]; exact h.fr, by rw [(putR_fr r _).2]; exact h.wd, by omega⟩
theorem reach_new {f w : Int} (h1 : 0 ≤ f) (h2 : f ≤ 1152921504606846976) (h3 : 1 ≤ w) (h4 : w ≤ 144115188075855873) : Reach f w 0 (newR f w) :=
  ⟨newR_good h1 h2 h3 h4, rfl, rfl, by have := lenL_zero (bs := List.replicate 8 []) (fun i _ => bAt_rep 8 i); show lenL (List.replicate 8 []) ≤ 0; omega⟩
theorem reach_run {f w : Int} (h1 : 0 ≤ f) (h2 : f ≤ 1152921504606846976) (h3 : 1 ≤ w) (h4 : w ≤ 144115188075855873) (os : List Oz) : ∀ k, k ≤ os.length → Reach f w k (runR (newR f w) (os.take k))
  | 0, _ => by simpa [runR] using reach_new h1 h2 h3 h4
  | k + 1, hk => by
    rw [runR_take_succ _ _ _ (by omega)]
    exact (reach_run h1 h2 h3 h4 os k (by omega)).step _
end Go.Proofs.YtmfnfinbkdemkaaGreat
namespace Go.Proofs.YtmfnfinbkdemkaaGreat

/-- x comes before y. -/
def ltI (x y : It) : Prop := x.t < y.t ∨ (x.t = y.t ∧ x.q < y.q)
instance (x y : It) : Decidable (ltI x y) := by unfold ltI; infer_instance
/-- The same key. -/
def eqK (x y : It) : Prop := x.t = y.t ∧ x.q = y.q
def cmpI (x y : It) : Int := if ltI x y then -1 else if ltI y x then 1 else 0
theorem cmpI_gt {x y : It} : 0 < cmpI x y ↔ ltI y x := by
  unfold cmpI
  constructor
  · intro h
    split at h
    · omega
    · split at h
      · assumption
      · omega
  · intro h
    have : ¬ ltI x y := by unfold ltI at *; omega
    rw [if_neg this, if_pos h]; decide
theorem cmpI_lt {x y : It} : cmpI x y < 0 ↔ ltI x y := by
  unfold cmpI
  constructor
  · intro h
    split at h
    · assumption
    · split at h <;> omega
  · intro h
    rw [if_pos h]; decide
theorem cmpI_zero {x y : It} : cmpI x y = 0 ↔ eqK x y := by
  unfold cmpI eqK
  constructor
  · intro h
    split at h
    · omega
    · split at h
      · omega
      · unfold ltI at *; omega
  · intro h
    rw [if_neg (by unfold ltI; omega), if_neg (by unfold ltI; omega)]
theorem ltI_trans {x y z : It} (h : ltI x y) (k : ltI y z) : ltI x z := by unfold ltI at *; omega
theorem ltI_irrefl (x : It) : ¬ ltI x x := by unfold ltI; omega
theorem ltI_asymm {x y : It} (h : ltI x y) : ¬ ltI y x := by unfold ltI at *; omega
theorem ltI_or (x y : It) : ltI x y ∨ eqK x y ∨ ltI y x := by unfold ltI eqK; omega

/-- Where place puts it: behind the last that is not greater. -/
def plAt (it : It) : List It → Nat
  | [] => 0
  | x :: xs => if xs.any (fun y => !decide (ltI it y)) then plAt it xs + 1 else if ltI it x then 0 else 1
theorem plAt_le (it : It) : ∀ l, plAt it l ≤ l.length
  | [] => by simp [plAt]
  | x :: xs => by
    unfold plAt
    have := plAt_le it xs
    split
    · simp; omega
    · split <;> simp
/-- All behind the place are greater. -/
theorem plAt_gt (it : It) : ∀ (l : List It) (i : Nat) (h : i < l.length), plAt it l ≤ i → ltI it l[i]
  | x :: xs, i, h, hi => by
    unfold plAt at hi
    split at hi
    · obtain ⟨j, rfl⟩ : ∃ j, i = j + 1 := ⟨i - 1, by omega⟩
      exact plAt_gt it xs j (by simpa using h) (by omega)
    · rename_i hn
      have hall : ∀ y ∈ xs, ltI it y := fun y hy => by
        apply Classical.byContradiction
        intro hc
        exact hn (List.any_eq_true.2 ⟨y, hy, by simp [hc]⟩)
      cases i with
      | zero =>
        split at hi
        · assumption
        · omega
      | succ j => exact hall _ (List.getElem_mem (by simpa using h))
/-- The one before the place is not greater. -/
theorem plAt_not (it : It) : ∀ (l : List It) (h : 0 < plAt it l), ¬ ltI it (l[plAt it l - 1]'(by have := plAt_le it l; omega))
  | [], h => by simp [plAt] at h
  | x :: xs, h => by
    by_cases hn : xs.any (fun y => !decide (ltI it y)) = true
    · have e : plAt it (x :: xs) = plAt it xs + 1 := by rw [plAt, if_pos hn]
      have hpos : 0 < plAt it xs := by
        apply Classical.byContradiction
        intro h0
        obtain ⟨y, hy, hy2⟩ := List.any_eq_true.1 hn
        obtain ⟨i, hi, rfl⟩ := List.mem_iff_getElem.1 hy
        have := plAt_gt it xs i hi (by omega)
        simp [this] at hy2
      have ih := plAt_not it xs hpos
      simp only [e, Nat.add_sub_cancel]
      rw [List.getElem_cons, dif_neg (by omega)]
      exact ih
    · by_cases hx : ltI it x
      · rw [plAt, if_neg hn, if_pos hx] at h
        omega
      · have e : plAt it (x :: xs) = 1 := by rw [plAt, if_neg hn, if_neg hx]
        simp only [e]
        exact hx
/-- The place is the one that the search from behind finds. -/
theorem plAt_is {it : It} {l : List It} {k : Nat} (hk : k ≤ l.length) (h1 : ∀ i (h : i < l.length), k ≤ i → ltI it l[i]) (h2 : ∀ h : 0 < k, ¬ ltI it (l[k - 1]'(by omega))) : plAt it l = k := by
  rcases Nat.lt_trichotomy (plAt it l) k with h | h | h
  · exact absurd (plAt_gt it l (k - 1) (by omega) (by omega)) (h2 (by omega))
  · exact h
  · exact absurd (h1 (plAt it l - 1) (by have := plAt_le it l; omega) (by omega)) (plAt_not it l (by omega))
def plI (l : List It) (it : It) : List It := l.take (plAt it l) ++ it :: l.drop (plAt it l)
def sortI (l : List It) : List It := l.foldl plI []
theorem plI_perm (l : List It) (it : It) : (plI l it).Perm (it :: l) := by
  unfold plI
  refine List.perm_middle.trans ?_
  rw [List.take_append_drop]
theorem plI_length (l : List It) (it : It) : (plI l it).length = l.length + 1 := (plI_perm l it).length_eq
theorem foldl_plI_perm : ∀ (l acc : List It), (l.foldl plI acc).Perm (l ++ acc)
  | [], acc => List.Perm.refl _
  | x :: xs, acc => by
    refine (foldl_plI_perm xs (plI acc x)).trans ?_
    exact ((plI_perm acc x).append_left xs).trans List.perm_middle
theorem sortI_perm (l : List It) : (sortI l).Perm l := by have := foldl_plI_perm l []; rw [List.append_nil] at this; exact this
theorem sortI_length (l : List It) : (sortI l).length = l.length := (sortI_perm l).length_eq
/-- In order: none comes before one that stands ahead of it. -/
def SortedI (l : List It) : Prop := l.Pairwise (fun x y => ¬ ltI y x)
/-- Strictly in order. -/
def StrictI (l : List It) : Prop := l.Pairwise ltI
/-- No two with one key. -/
def DistI (l : List It) : Prop := l.Pairwise (fun x y => ¬ eqK x y)
theorem pairwise_at {R : It → It → Prop} {l : List It} : l.Pairwise R ↔ ∀ i j (hi : i < l.length) (hj : j < l.length), i < j → R l[i] l[j] := List.pairwise_iff_getElem
theorem plI_sorted {l : List It} (h : SortedI l) (it : It) : SortedI (plI l it) := by
  unfold SortedI plI at *
  have hle := plAt_le it l
  rw [List.pairwise_append]
  refine ⟨h.sublist (List.take_sublist _ _), List.pairwise_cons.2 ⟨fun y hy => ?_, h.sublist (List.drop_sublist _ _)⟩, fun a ha b hb => ?_⟩
  · obtain ⟨i, hi, rfl⟩ := List.mem_iff_getElem.1 hy
    rw [List.getElem_drop]
    have := plAt_gt it l (plAt it l + i) (by simp at hi; omega) (by omega)
    exact ltI_asymm this
  · obtain ⟨i, hi, rfl⟩ := List.mem_iff_getElem.1 ha
    simp only [List.length_take] at hi
    rw [List.getElem_take]
    have hp : 0 < plAt it l := by omega
    have hlast := plAt_not it l hp
    have hil : ¬ ltI it l[i] := by
      by_cases e : i = plAt it l - 1
      · subst e; exact hlast
      · have := pairwise_at.1 h i (plAt it l - 1) (by omega) (by omega) (by omega)
        intro hc
        have h3 := ltI_or it (l[plAt it l - 1]'(by omega))
        unfold ltI eqK at *
        omega
    rcases List.mem_cons.1 hb with rfl | hb
    · exact hil
    · obtain ⟨j, hj, rfl⟩ := List.mem_iff_getElem.1 hb
      rw [List.getElem_drop]
      exact pairwise_at.1 h i (plAt it l + j) (by omega) (by simp at hj; omega) (by omega)
theorem foldl_plI_sorted : ∀ (l acc : List It), SortedI acc → SortedI (l.foldl plI acc)
  | [], _, h => h
  | x :: xs, _, h => foldl_plI_sorted xs _ (plI_sorted h x)
theorem sortI_sorted (l : List It) : SortedI (sortI l) := foldl_plI_sorted l [] List.Pairwise.nil
theorem eqK_symm {x y : It} (h : eqK x y) : eqK y x := ⟨h.1.symm, h.2.symm⟩
theorem DistI.perm {l m : List It} (h : DistI l) (p : l.Perm m) : DistI m := List.Pairwise.perm h p (fun {_ _} hxy hyx => hxy (eqK_symm hyx))
theorem strict_of {l : List It} (hs : SortedI l) (hd : DistI l) : StrictI l := (hs.and hd).imp (fun {x y} ⟨h1, h2⟩ => by
  rcases ltI_or x y with h | h | h
  · exact h
  · exact absurd h h2
  · exact absurd h h1)
theorem StrictI.sorted {l : List It} (h : StrictI l) : SortedI l := h.imp (fun {_ _} h => ltI_asymm h)
theorem StrictI.dist {l : List It} (h : StrictI l) : DistI l := h.imp (fun {_ _} h => by unfold ltI eqK at *; omega)
theorem sortI_strict {l : List It} (h : DistI l) : StrictI (sortI l) := strict_of (sortI_sorted l) (h.perm (sortI_perm l).symm)
/-- A strict order of given items is the only one. -/
theorem strict_unique : ∀ {l m : List It}, StrictI l → StrictI m → l.Perm m → l = m
  | [], m, _, _, p => (List.nil_perm.1 p).symm
  | x :: xs, [], _, _, p => by have := p.length_eq; simp at this
  | x :: xs, y :: ys, hl, hm, p => by
    obtain ⟨hx, hxs⟩ := List.pairwise_cons.1 hl
    obtain ⟨hy, hys⟩ := List.pairwise_cons.1 hm
    have e : x = y := by
      have h1 : x ∈ y :: ys := p.subset (List.mem_cons_self)
      have h2 : y ∈ x :: xs := p.symm.subset (List.mem_cons_self)
      rcases List.mem_cons.1 h1 with h1 | h1
      · exact h1
      · rcases List.mem_cons.1 h2 with h2 | h2
        · exact h2.symm
        · exact absurd (hx y h2) (ltI_asymm (hy x h1))
    subst e
    rw [strict_unique hxs hys ((List.perm_cons x).1 p)]
theorem sortI_unique {l m : List It} (hm : StrictI m) (p : m.Perm l) : sortI l = m :=
  strict_unique (sortI_strict (hm.dist.perm p)) hm ((sortI_perm l).trans p.symm)
theorem sortI_of_perm {l m : List It} (h : DistI l) (p : l.Perm m) : sortI l = sortI m := sortI_unique (sortI_strict (h.perm p)) ((sortI_perm m).trans p.symm)
/-- The least, taken out. -/
theorem sortI_cons {x : It} {l : List It} (hd : DistI (x :: l)) (hx : ∀ y ∈ l, ltI x y) : sortI (x :: l) = x :: sortI l :=
  sortI_unique (List.pairwise_cons.2 ⟨fun y hy => hx y ((sortI_perm l).subset hy), sortI_strict (List.pairwise_cons.1 hd).2⟩) ((sortI_perm l).cons x)
end Go.Proofs.YtmfnfinbkdemkaaGreat
