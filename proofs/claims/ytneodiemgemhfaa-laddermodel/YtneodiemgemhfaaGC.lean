/- Plain maths: a rung as lists, its operations, when it is valid, what they keep. Nothing of the program. -/
/- Frames: which old blocks a step may have turned. Plain facts on worlds, nothing of the program. -/
/- General facts on worlds: boxes, cells, what grows, what is kept. Nothing of the program's types. -/
/- Rows of records in memory, whatever the record: read, kept, owned, grown, set. -/
import Derived.Test.YtneodiemgemhfaaRows
import Derived.WalkKit
import Derived.Deep.AppendLies
import Derived.Deep.Draws
import Derived.WalkSpells
import Derived.WalkLawsBesides
import Derived.BigQuiet
import Derived.Deep.QuietTactic
import Derived.Deep.LoopGhost
import Derived.Deep.RegionLaw
import Derived.Deep.RegionWith
import Derived.Deep.RegionHeld3
import Derived.Deep.Light
import Derived.Deep.DeepCutAuto
import Derived.OwnWalk
import Derived.Lib.Hide
import Derived.Lib.Walk
import Derived.Lib.SliceRun
import Derived.Laws.AppendOwnNone
import Derived.Shelf.SlSortCmp.QuietGrown
namespace Go.Proofs.Ytneodiemgemhfaa

structure It where
  t : Int
  q : Int
  s : Int
  deriving DecidableEq, Inhabited
structure Rg where
  fr : Int
  wd : Int
  cu : Int
  bs : List (List It)
  deriving DecidableEq
def bAt (bs : List (List It)) (i : Nat) : List It := bs[i]?.getD []
theorem bAt_get {bs : List (List It)} {i : Nat} (h : i < bs.length) : bAt bs i = bs[i] := by simp [bAt, h]
theorem bAt_set {bs : List (List It)} {i k : Nat} {s : List It} (h : i < bs.length) : bAt (bs.set i s) k = if k = i then s else bAt bs k := by
  unfold bAt
  rw [List.getElem?_set]
  by_cases hk : k = i
  · subst hk; simp [h]
  · rw [if_neg (fun e => hk e.symm), if_neg hk]
def curT (r : Rg) : Int := r.fr + r.cu * r.wd
def endT (r : Rg) : Int := r.fr + 8 * r.wd
def lenL (bs : List (List It)) : Nat := (bs.map List.length).sum
def lenTo (bs : List (List It)) (k : Nat) : Nat := lenL (bs.take k)
theorem lenTo_zero (bs : List (List It)) : lenTo bs 0 = 0 := by simp [lenTo, lenL]
theorem lenTo_succ {bs : List (List It)} {k : Nat} (h : k < bs.length) : lenTo bs (k + 1) = lenTo bs k + bs[k].length := by
  have e : bs.take (k + 1) = bs.take k ++ [bs[k]] := List.take_succ_eq_append_getElem h
  rw [lenTo, lenTo, e]
  simp only [lenL, List.map_append, List.sum_append, List.map_cons, List.map_nil, List.sum_cons, List.sum_nil, Nat.add_zero]
theorem lenTo_all {bs : List (List It)} : lenTo bs bs.length = lenL bs := by simp [lenTo]
theorem lenL_app (a b : List (List It)) : lenL (a ++ b) = lenL a + lenL b := by simp [lenL]
theorem lenTo_le (bs : List (List It)) (k : Nat) : lenTo bs k ≤ lenL bs := by
  have h := lenL_app (bs.take k) (bs.drop k)
  rw [List.take_append_drop] at h
  unfold lenTo; omega
theorem len_le {bs : List (List It)} {k : Nat} (h : k < bs.length) : bs[k].length ≤ lenL bs := by
  have h1 := lenTo_succ h
  have h2 := lenTo_le bs (k + 1)
  omega
theorem lenL_set : ∀ {bs : List (List It)} {i : Nat} (h : i < bs.length) (s : List It), lenL (bs.set i s) + bs[i].length = lenL bs + s.length
  | x :: bs, 0, _, s => by simp [lenL]; omega
  | x :: bs, i + 1, h, s => by
    have ih := lenL_set (bs := bs) (i := i) (by simpa using h) s
    simp only [List.set_cons_succ, List.getElem_cons_succ] at ih ⊢
    simp only [lenL, List.map_cons, List.sum_cons] at ih ⊢
    omega
theorem lenL_set' {bs : List (List It)} {i : Nat} (h : i < bs.length) (s : List It) : lenL (bs.set i s) + (bAt bs i).length = lenL bs + s.length := by
  rw [bAt_get h]; exact lenL_set h s
theorem lenL_zero {bs : List (List It)} (h : ∀ i, i < bs.length → bAt bs i = []) : lenL bs = 0 := by
  induction bs with
  | nil => rfl
  | cons x bs ih =>
    have h0 := h 0 (by simp)
    have : x = [] := by simpa [bAt] using h0
    subst this
    have hi := ih (fun i hi => by simpa [bAt] using h (i + 1) (by simpa using hi))
    simp only [lenL, List.map_cons, List.sum_cons, List.length_nil, Nat.zero_add] at hi ⊢
    exact hi

def ixR (r : Rg) (t : Int) : Nat := ((t - r.fr) / r.wd).toNat
def Fits (r : Rg) (t : Int) : Prop := curT r ≤ t ∧ t < endT r
instance (r : Rg) (t : Int) : Decidable (Fits r t) := by unfold Fits; infer_instance
def addR (r : Rg) (it : It) : Rg := ⟨r.fr, r.wd, r.cu, r.bs.set (ixR r it.t) (bAt r.bs (ixR r it.t) ++ [it])⟩
def putR (r : Rg) (it : It) : Rg × Bool := if Fits r it.t then (addR r it, true) else (r, false)
theorem putR_yes {r : Rg} {it : It} (h : Fits r it.t) : putR r it = (addR r it, true) := by rw [putR, if_pos h]
theorem putR_no {r : Rg} {it : It} (h : ¬ Fits r it.t) : putR r it = (r, false) := by rw [putR, if_neg h]
def takeR (r : Rg) (i : Nat) : Rg := ⟨r.fr, r.wd, i + 1, r.bs.set i []⟩
def firstR (bs : List (List It)) : Nat := bs.findIdx (fun b => !b.isEmpty)
def nextR (r : Rg) : Rg × List It × Int × Bool := if firstR r.bs < r.bs.length then (takeR r (firstR r.bs), bAt r.bs (firstR r.bs), r.fr + (firstR r.bs : Nat) * r.wd, true) else (⟨r.fr, r.wd, 8, r.bs⟩, [], 0, false)
theorem firstR_is {bs : List (List It)} {i : Nat} (hi : i < bs.length) (h1 : bAt bs i ≠ []) (h0 : ∀ k, k < i → bAt bs k = []) : firstR bs = i := by
  unfold firstR
  rw [List.findIdx_eq hi]
  refine ⟨?_, fun j hj => ?_⟩
  · rw [bAt_get hi] at h1
    cases hb : bs[i] with
    | nil => exact absurd hb h1
    | cons x xs => rfl
  · have := h0 j hj
    rw [bAt_get (by omega)] at this
    rw [this]; rfl
theorem firstR_none {bs : List (List It)} (h0 : ∀ k, k < bs.length → bAt bs k = []) : firstR bs = bs.length := by
  unfold firstR
  rw [List.findIdx_eq_length]
  intro x hx
  obtain ⟨i, hi, rfl⟩ := List.mem_iff_getElem.1 hx
  have := h0 i hi
  rw [bAt_get hi] at this
  rw [this]; rfl
theorem firstR_at {bs : List (List It)} (h : firstR bs < bs.length) : bAt bs (firstR bs) ≠ [] ∧ ∀ k, k < firstR bs → bAt bs k = [] := by
  constructor
  · have := List.findIdx_getElem (p := fun b : List It => !b.isEmpty) (xs := bs) (w := h)
    rw [bAt_get h]
    intro e
    unfold firstR at e
    rw [e] at this
    simp at this
  · intro k hk
    have := List.not_of_lt_findIdx (p := fun b : List It => !b.isEmpty) (xs := bs) hk
    rw [bAt_get (by omega)]
    simpa using this
theorem firstR_le (bs : List (List It)) : firstR bs ≤ bs.length := List.findIdx_le_length
theorem firstR_end {bs : List (List It)} (h : ¬ firstR bs < bs.length) : ∀ k, k < bs.length → bAt bs k = [] := by
  intro k hk
  have h1 := firstR_le bs
  have := List.not_of_lt_findIdx (p := fun b : List It => !b.isEmpty) (xs := bs) (i := k) (by unfold firstR at h h1; omega)
  rw [bAt_get hk]
  simpa using this
theorem nextR_yes {r : Rg} {i : Nat} (hi : i < r.bs.length) (h1 : bAt r.bs i ≠ []) (h0 : ∀ k, k < i → bAt r.bs k = []) : nextR r = (takeR r i, bAt r.bs i, r.fr + i * r.wd, true) := by
  have := firstR_is hi h1 h0
  rw [nextR, this, if_pos hi]
theorem nextR_no {r : Rg} (h0 : ∀ k, k < r.bs.length → bAt r.bs k = []) : nextR r = (⟨r.fr, r.wd, 8, r.bs⟩, [], 0, false) := by
  have := firstR_none h0
  rw [nextR, this, if_neg (by omega)]
/-- Next, by cases. -/
theorem nextR_cases (r : Rg) : (∃ i, i < r.bs.length ∧ bAt r.bs i ≠ [] ∧ (∀ k, k < i → bAt r.bs k = []) ∧ nextR r = (takeR r i, bAt r.bs i, r.fr + i * r.wd, true)) ∨ ((∀ k, k < r.bs.length → bAt r.bs k = []) ∧ nextR r = (⟨r.fr, r.wd, 8, r.bs⟩, [], 0, false)) := by
  by_cases h : firstR r.bs < r.bs.length
  · have := firstR_at h
    exact .inl ⟨_, h, this.1, this.2, nextR_yes h this.1 this.2⟩
  · have := firstR_end h
    exact .inr ⟨this, nextR_no this⟩

def InB (r : Rg) (i : Nat) (it : It) : Prop := r.fr + i * r.wd ≤ it.t ∧ it.t < r.fr + (i + 1) * r.wd
structure GoodR (r : Rg) : Prop where
  fr0 : 0 ≤ r.fr
  fr1 : r.fr ≤ 1152921504606846976
  wd0 : 1 ≤ r.wd
  wd1 : r.wd ≤ 144115188075855873
  cu0 : 0 ≤ r.cu
  cu1 : r.cu ≤ 8
  len : r.bs.length = 8
  low : ∀ i : Nat, i < 8 → (i : Int) < r.cu → bAt r.bs i = []
  inb : ∀ i : Nat, i < 8 → ∀ it ∈ bAt r.bs i, InB r i it
open Classical in
noncomputable def validR (r : Rg) : Bool := decide (GoodR r)
theorem validR_yes {r : Rg} : validR r = true ↔ GoodR r := by simp [validR]
theorem validR_no {r : Rg} : validR r = false ↔ ¬ GoodR r := by simp [validR]
theorem mul_mono {a b w : Int} (h : a ≤ b) (hw : 1 ≤ w) : a * w ≤ b * w := Int.mul_le_mul_of_nonneg_right h (by omega)
theorem GoodR.prod {r : Rg} (h : GoodR r) {i : Int} (h0 : 0 ≤ i) (h1 : i ≤ 8) : 0 ≤ i * r.wd ∧ i * r.wd ≤ 8 * r.wd := ⟨Int.mul_nonneg h0 (by have := h.wd0; omega), mul_mono h1 h.wd0⟩
theorem GoodR.times {r : Rg} (h : GoodR r) : 0 ≤ curT r ∧ curT r ≤ endT r ∧ endT r ≤ 2305843009213693960 ∧ r.fr ≤ curT r := by
  have h1 := h.prod h.cu0 h.cu1
  have h2 := h.fr0
  have h3 := h.fr1
  have h4 := h.wd1
  unfold curT endT
  omega
/-- The bucket of a time that fits. -/
theorem GoodR.ix {r : Rg} (h : GoodR r) {t : Int} (hf : Fits r t) : ixR r t < 8 ∧ r.cu ≤ (ixR r t : Nat) ∧ r.fr + (ixR r t : Nat) * r.wd ≤ t ∧ t < r.fr + ((ixR r t : Nat) + 1) * r.wd ∧ ((ixR r t : Nat) : Int) = (t - r.fr) / r.wd := by
  obtain ⟨h1, h2⟩ := hf
  have ht := h.times
  have hw := h.wd0
  unfold curT at h1
  unfold endT at h2
  have d0 : 0 ≤ t - r.fr := by have := h.prod h.cu0 h.cu1; omega
  have e0 := Int.ediv_nonneg d0 (show 0 ≤ r.wd by omega)
  have e : ((ixR r t : Nat) : Int) = (t - r.fr) / r.wd := by unfold ixR; omega
  have e1 : (t - r.fr) / r.wd < 8 := Int.ediv_lt_of_lt_mul (by omega) (by omega)
  have e2 : r.cu ≤ (t - r.fr) / r.wd := Int.le_ediv_of_mul_le (by omega) (by omega)
  have e3 := Int.ediv_mul_add_emod (t - r.fr) r.wd
  have e4 := Int.emod_nonneg (t - r.fr) (show r.wd ≠ 0 by omega)
  have e5 := Int.emod_lt_of_pos (t - r.fr) (show 0 < r.wd by omega)
  have e6 : (((t - r.fr) / r.wd) + 1) * r.wd = (t - r.fr) / r.wd * r.wd + r.wd := by rw [Int.add_mul]; omega
  rw [e]
  refine ⟨by omega, e2, by omega, by omega, rfl⟩
theorem GoodR.add {r : Rg} (h : GoodR r) {it : It} (hf : Fits r it.t) : GoodR (addR r it) := by
  obtain ⟨h1, h2, h3, h4, _⟩ := h.ix hf
  have hl := h.len
  refine ⟨h.fr0, h.fr1, h.wd0, h.wd1, h.cu0, h.cu1, by simp [addR, hl], fun i hi hc => ?_, fun i hi x hx => ?_⟩
  · show bAt (r.bs.set _ _) i = []
    have hc' : (i : Int) < r.cu := hc
    rw [bAt_set (by omega), if_neg (by omega)]
    exact h.low i hi hc
  · have hx' : x ∈ bAt (r.bs.set (ixR r it.t) (bAt r.bs (ixR r it.t) ++ [it])) i := hx
    rw [bAt_set (by omega)] at hx'
    split at hx'
    · rename_i e
      subst e
      rcases List.mem_append.1 hx' with hx' | hx'
      · exact h.inb _ hi x hx'
      · obtain rfl : x = it := by simpa using hx'
        exact ⟨h3, h4⟩
    · exact h.inb i hi x hx'
theorem GoodR.put {r : Rg} (h : GoodR r) (it : It) : GoodR (putR r it).1 := by
  by_cases hf : Fits r it.t
  · rw [putR_yes hf]; exact h.add hf
  · rw [putR_no hf]; exact h
theorem GoodR.take {r : Rg} (h : GoodR r) {i : Nat} (hi : i < r.bs.length) (h0 : ∀ k, k < i → bAt r.bs k = []) : GoodR (takeR r i) := by
  have hl := h.len
  refine ⟨h.fr0, h.fr1, h.wd0, h.wd1, by show (0 : Int) ≤ (i : Int) + 1; omega, by show (i : Int) + 1 ≤ 8; omega, by simp [takeR, hl], fun k hk hc => ?_, fun k hk x hx => ?_⟩
  · have hc' : (k : Int) < (i : Int) + 1 := hc
    show bAt (r.bs.set i []) k = []
    rw [bAt_set hi]
    split
    · rfl
    · exact h0 k (by omega)
  · have hx' : x ∈ bAt (r.bs.set i []) k := hx
    rw [bAt_set hi] at hx'
    split at hx'
    · simp at hx'
    · exact h.inb k hk x hx'
theorem GoodR.shut {r : Rg} (h : GoodR r) (h0 : ∀ k, k < r.bs.length → bAt r.bs k = []) : GoodR ⟨r.fr, r.wd, 8, r.bs⟩ :=
  ⟨h.fr0, h.fr1, h.wd0, h.wd1, (by decide : (0 : Int) ≤ 8), (by decide : (8 : Int) ≤ 8), h.len, fun i hi _ => h0 i (by have := h.len; omega), fun i hi x hx => by
    have e : bAt r.bs i = [] := h0 i (by have := h.len; omega)
    simp only at hx
    rw [e] at hx; simp at hx⟩
theorem GoodR.next {r : Rg} (h : GoodR r) : GoodR (nextR r).1 := by
  rcases nextR_cases r with ⟨i, hi, _, h0, e⟩ | ⟨h0, e⟩
  · rw [e]; exact h.take hi h0
  · rw [e]; exact h.shut h0
theorem put_len {r : Rg} (h : GoodR r) {it : It} (hf : Fits r it.t) : lenL (addR r it).bs = lenL r.bs + 1 := by
  obtain ⟨h1, _⟩ := h.ix hf
  have := lenL_set' (bs := r.bs) (i := ixR r it.t) (by rw [h.len]; exact h1) (bAt r.bs (ixR r it.t) ++ [it])
  rw [List.length_append, List.length_singleton] at this
  show lenL (r.bs.set _ _) = _
  omega
theorem next_len (r : Rg) : lenL (nextR r).1.bs + (nextR r).2.1.length = lenL r.bs := by
  rcases nextR_cases r with ⟨i, hi, _, _, e⟩ | ⟨_, e⟩
  · rw [e]
    have := lenL_set' hi []
    simpa [takeR] using this
  · rw [e]; simp
def newR (f w : Int) : Rg := ⟨f, w, 0, List.replicate 8 []⟩
theorem bAt_rep (n i : Nat) : bAt (List.replicate n []) i = [] := by
  unfold bAt
  rw [List.getElem?_replicate]
  split <;> rfl
theorem newR_good {f w : Int} (h1 : 0 ≤ f) (h2 : f ≤ 1152921504606846976) (h3 : 1 ≤ w) (h4 : w ≤ 144115188075855873) : GoodR (newR f w) :=
  ⟨h1, h2, h3, h4, (by decide : (0 : Int) ≤ 0), (by decide : (0 : Int) ≤ 8), by simp [newR], fun i _ _ => bAt_rep 8 i, fun i hi x hx => by
    have hx' : x ∈ bAt (List.replicate 8 []) i := hx
    rw [bAt_rep] at hx'
    simp at hx'⟩

/-- One operation of a script. -/
structure Oz where
  n : Bool
  a : Int
  q : Int
def itemR (r : Rg) (o : Oz) : It := ⟨r.fr + o.a % (8 * r.wd + 3) - 1, o.q, 0⟩
def stepR (r : Rg) (o : Oz) : Rg := if o.n then (nextR r).1 else (putR r (itemR r o)).1
def runR (r : Rg) (os : List Oz) : Rg := os.foldl stepR r
theorem runR_take_succ (r : Rg) (os : List Oz) (k : Nat) (h : k < os.length) : runR r (os.take (k + 1)) = stepR (runR r (os.take k)) os[k] := by
  unfold runR
  rw [List.take_succ_eq_append_getElem h, List.foldl_append]
  rfl
structure Reach (f w : Int) (k : Nat) (r : Rg) : Prop where
  good : GoodR r
  fr : r.fr = f
  wd : r.wd = w
  len : lenL r.bs ≤ k
theorem putR_fr (r : Rg) (it : It) : (putR r it).1.fr = r.fr ∧ (putR r it).1.wd = r.wd := by
  unfold putR
  split <;> exact ⟨rfl, rfl⟩
theorem nextR_fr (r : Rg) : (nextR r).1.fr = r.fr ∧ (nextR r).1.wd = r.wd := by
  unfold nextR
  split <;> exact ⟨rfl, rfl⟩
theorem put_len_le {r : Rg} (h : GoodR r) (it : It) : lenL (putR r it).1.bs ≤ lenL r.bs + 1 := by
  by_cases hf : Fits r it.t
  · rw [putR_yes hf]
    have := put_len h hf
    simp only
    omega
  · rw [putR_no hf]; simp
theorem Reach.step {f w : Int} {k : Nat} {r : Rg} (h : Reach f w k r) (o : Oz) : Reach f w (k + 1) (stepR r o) := by
  unfold stepR
  split
  · have := nextR_fr r
    have hl := next_len r
    have := h.len
    exact ⟨h.good.next, by rw [(nextR_fr r).1]; exact h.fr, by rw [(nextR_fr r).2]; exact h.wd, by omega⟩
  · have hl := put_len_le h.good (itemR r o)
    have := h.len
    exact ⟨h.good.put _, by rw [(putR_fr r _).1]; exact h.fr, by rw [(putR_fr r _).2]; exact h.wd, by omega⟩
theorem reach_new {f w : Int} (h1 : 0 ≤ f) (h2 : f ≤ 1152921504606846976) (h3 : 1 ≤ w) (h4 : w ≤ 144115188075855873) : Reach f w 0 (newR f w) :=
  ⟨newR_good h1 h2 h3 h4, rfl, rfl, by have := lenL_zero (bs := List.replicate 8 []) (fun i _ => bAt_rep 8 i); show lenL (List.replicate 8 []) ≤ 0; omega⟩
theorem reach_run {f w : Int} (h1 : 0 ≤ f) (h2 : f ≤ 1152921504606846976) (h3 : 1 ≤ w) (h4 : w ≤ 144115188075855873) (os : List Oz) : ∀ k, k ≤ os.length → Reach f w k (runR (newR f w) (os.take k))
  | 0, _ => by simpa [runR] using reach_new h1 h2 h3 h4
  | k + 1, hk => by
    rw [runR_take_succ _ _ _ (by omega)]
    exact (reach_run h1 h2 h3 h4 os k (by omega)).step _
end Go.Proofs.Ytneodiemgemhfaa
namespace Go.Proofs.Ytneodiemgemhfaa
open Go.RowKit

theorem cell_block {w : World} {b : Nat} {c : Array Value} {e : TypeId} {f : Nat × Nat} (h : w.heap[b]? = some (.cells c e f)) (o : Nat) : w.cell? ⟨b, o, none⟩ = c[o]? := by
  simp [World.cell?, h]
theorem free_block {w : World} {b : Nat} {c : Array Value} {e : TypeId} (h : w.heap[b]? = some (.cells c e (0, 0))) (o : Nat) : w.frozen? ⟨b, o, none⟩ = false := by
  simp [World.frozen?, h]
theorem lt_block {w : World} {b : Nat} {o : Obj} (h : w.heap[b]? = some o) : b < w.heap.size := (Array.getElem?_eq_some_iff.1 h).1

/-- Of the blocks of w only those in S may have turned; new ones may have come. -/
structure Upd (S : List Nat) (w w' : World) : Prop where
  os : w'.os = w.os
  tape : w'.tape = w.tape
  output : w'.output = w.output
  size : w.heap.size ≤ w'.heap.size
  block : ∀ k, k < w.heap.size → k ∉ S → w'.heap[k]? = w.heap[k]?

theorem Upd.refl (S : List Nat) (w : World) : Upd S w w := ⟨rfl, rfl, rfl, Nat.le_refl _, fun _ _ _ => rfl⟩
theorem Upd.trans {S T : List Nat} {a b c : World} (h : Upd S a b) (k : Upd T b c) (hT : ∀ x ∈ T, x < a.heap.size → x ∈ S) : Upd S a c :=
  ⟨k.os.trans h.os, k.tape.trans h.tape, k.output.trans h.output, Nat.le_trans h.size k.size,
    fun i hi hS => (k.block i (Nat.lt_of_lt_of_le hi h.size) (fun hx => hS (hT i hx hi))).trans (h.block i hi hS)⟩
theorem Upd.mono {S T : List Nat} {a b : World} (h : Upd S a b) (hT : ∀ x ∈ S, x ∈ T) : Upd T a b :=
  ⟨h.os, h.tape, h.output, h.size, fun i hi hS => h.block i hi (fun hx => hS (hT i hx))⟩
theorem Upd.below {S : List Nat} {a b : World} (h : Upd S a b) {B : Nat} (hB : ∀ x ∈ S, B ≤ x) (hs : B ≤ a.heap.size) : Below B a b :=
  ⟨h.os, h.tape, h.output, h.size, fun k hk => h.block k (by omega) (fun hx => by have := hB k hx; omega)⟩
theorem Upd.of_below {a b : World} (h : Below a.heap.size a b) : Upd [] a b := ⟨h.os, h.tape, h.output, h.size, fun k hk _ => h.block k hk⟩
theorem Upd.to_below {a b : World} (h : Upd [] a b) : Below a.heap.size a b := ⟨h.os, h.tape, h.output, h.size, fun k hk => h.block k hk (by simp)⟩
theorem Upd.drew {S : List Nat} {a b : World} (h : Upd S a b) : Upd S a b.drew := ⟨h.os, h.tape, h.output, h.size, h.block⟩
theorem Upd.drewN {S : List Nat} {a b : World} (h : Upd S a b) (n : Nat) : Upd S a (b.drewN n) := ⟨h.os, h.tape, h.output, h.size, h.block⟩
theorem Upd.alloc {S : List Nat} {a b : World} (h : Upd S a b) (o : Obj) : Upd S a (b.alloc o) :=
  h.trans (T := []) ⟨rfl, rfl, rfl, by simp, fun k hk _ => Below.heap_alloc _ _ _ hk⟩ (by simp)
theorem Upd.setCell {S : List Nat} {a b : World} (h : Upd S a b) {p : Addr} (hp : p.block < a.heap.size → p.block ∈ S) (u : Value) : Upd S a (b.setCell p u) :=
  h.trans (T := [p.block]) ⟨rfl, rfl, rfl, by simp [World.setCell], fun k _ hk => Below.heap_setCell _ _ _ _ (by simpa using hk)⟩ (by simpa using hp)
theorem Upd.grown {S : List Nat} {a b c : World} {row : Option Nat} (h : Upd S a b) (hg : b.grownBy c row) (hr : ∀ k, row = some k → k < a.heap.size → k ∈ S) : Upd S a c :=
  h.trans (T := row.toList) ⟨hg.os, hg.tape, hg.output, hg.size, fun k hk hn => hg.block k hk (fun e => hn (by simp [← e]))⟩ (fun x hx hl => hr x (by simpa using hx) hl)
theorem Upd.at {S : List Nat} {a b : World} (h : Upd S a b) {k : Nat} {o : Obj} (ho : a.heap[k]? = some o) (hk : k ∉ S) : b.heap[k]? = some o :=
  (h.block k (lt_block ho) hk).trans ho
theorem Upd.row {S : List Nat} {a b : World} (h : Upd S a b) {base : Nat} {e : TypeId} {size : Nat} {v : Value} {n : Nat} {xs : List Value} (ho : a.ownsRow base e size v n xs) (hk : ∀ k, v.ownBlock = some k → k ∉ S) : b.ownsRow base e size v n xs := by
  refine ⟨ho.1, ?_⟩
  rcases ho.2 with hn | ⟨g, cap, cur, rfl, hb, hgg, rest⟩
  · exact .inl hn
  · exact .inr ⟨g, cap, cur, rfl, hb, h.at hgg (hk g rfl), rest⟩

theorem setCell_block {w : World} {b o : Nat} {c : Array Value} {e : TypeId} {f : Nat × Nat} (h : w.heap[b]? = some (.cells c e f)) (u : Value) :
    (w.setCell ⟨b, o, none⟩ u).heap[b]? = some (.cells (c.setIfInBounds o u) e f) := by
  have hl := lt_block h
  simp only [World.setCell, Array.getElem?_modify, if_true, h, Option.map_some]
  simp

theorem heap_alloc1 (w : World) (A : Obj) : (w.alloc A).heap[w.heap.size]? = some A := heap_alloc_new w A
theorem heap_alloc2 (w : World) (A B : Obj) : ((w.alloc A).alloc B).heap[w.heap.size + 1]? = some B := by
  have := heap_alloc_new (w.alloc A) B
  simpa using this
theorem heap_alloc3 (w : World) (A B C : Obj) : (((w.alloc A).alloc B).alloc C).heap[w.heap.size + 1 + 1]? = some C := by
  have h := heap_alloc2 (w.alloc A) B C
  rw [show (w.alloc A).heap.size = w.heap.size + 1 by simp] at h
  exact h
theorem toList_of {v : Value} {k : Nat} (h : k ∈ v.ownBlock.toList) : v.ownBlock = some k := by simpa using h
/-- A block of another element type is not the row that a slice owns. -/
theorem ne_own {w : World} {b : Nat} {c : Array Value} {t e : TypeId} {f : Nat × Nat} (h : w.heap[b]? = some (.cells c t f)) {base size : Nat} {v : Value} {n : Nat} {xs : List Value} (ho : w.ownsRow base e size v n xs) (hte : t ≠ e) : v.ownBlock ≠ some b := by
  rcases ho.2 with ⟨rfl, _⟩ | ⟨g, cap, cur, rfl, hb, hgg, rest⟩
  · simp [Value.ownBlock]
  · intro hg
    simp [Value.ownBlock] at hg
    subst hg
    rw [h] at hgg
    simp at hgg
    exact hte hgg.2.1
theorem ne_block {w : World} {b b' : Nat} {c c' : Array Value} {t t' : TypeId} {f f' : Nat × Nat} (h : w.heap[b]? = some (.cells c t f)) (h' : w.heap[b']? = some (.cells c' t' f')) (hte : t ≠ t') : b ≠ b' := by
  intro he
  subst he
  rw [h] at h'
  simp at h'
  exact hte h'.2.1
theorem row_setCell {w : World} {base : Nat} {e : TypeId} {size : Nat} {v : Value} {n : Nat} {xs : List Value} (h : w.ownsRow base e size v n xs) {a : Addr} (ha : v.ownBlock ≠ some a.block) (u : Value) : (w.setCell a u).ownsRow base e size v n xs := by
  refine ⟨h.1, ?_⟩
  rcases h.2 with hn | ⟨g, cap, cur, rfl, hb, hgg, rest⟩
  · exact .inl hn
  · refine .inr ⟨g, cap, cur, rfl, hb, ?_, rest⟩
    rw [Below.heap_setCell _ _ _ _ (by intro he; exact ha (by simp [Value.ownBlock, he]))]
    exact hgg

end Go.Proofs.Ytneodiemgemhfaa
namespace Go.Proofs.Ytneodiemgemhfaa
open Go.RowKit Go.Lib Go.Sort

theorem ret_int {k : IntKind} {a b : Int} (h : a = b) : Ending.returned (.int k a) = .returned (.int k b) := by rw [h]
theorem ret_bool {a b : Bool} (h : a = b) : Ending.returned (.bool a) = .returned (.bool b) := by rw [h]
theorem Upd.thn {a b c : World} (h : Upd [] a b) (k : Upd [] b c) : Upd [] a c := h.trans k (by simp)
theorem Upd.cell {S : List Nat} {a b : World} (h : Upd S a b) {p : Addr} {v : Value} (hc : a.cell? p = some v) (hp : p.block ∉ S) : b.cell? p = some v :=
  (World.cell?_of_block (h.block p.block (World.block_lt_of_cell? a p hc) hp)).trans hc
theorem mkAny (t e : TypeId) (z : Value) (size bytes : Nat) (ht : Try.prog.underlying t = some (.slice e)) (hi : (Try.prog.info? e).map (fun i => (i.zero, i.size, i.bytes)) = some (some z, size, bytes)) (n : Nat) (hb : bytes * n ≤ 281474976710656) (hn : n ≤ 100000000) (Z : Array Value) (hZ : madeCells z.cells (n * size) = Z) (w : World) :
    (Instr.makeSlice t (.int .i64 (n : Int)) (.int .i64 (n : Int))).run Try.prog w = .ok (.slice (some ⟨w.heap.size, 0, none⟩) n n) (w.alloc (.cells Z e)) := by
  obtain ⟨i, h1, h2, h3, h4⟩ := info_parts hi
  have hb' : (i.bytes : Int) * (n : Int) ≤ 281474976710656 := by
    rw [h4]
    have h : ((bytes * n : Nat) : Int) ≤ 281474976710656 := by omega
    rwa [Int.natCast_mul] at h
  have := run_make (P := Try.prog) w t e i z ht h1 h2 .i64 .i64 n n (by omega) (Int.le_refl _) hb' (by omega)
  rw [h3, Int.toNat_natCast, hZ] at this
  exact this
theorem heap_alloc_at {w : World} {n : Nat} (A : Obj) (h : n = w.heap.size) : (w.alloc A).heap[n]? = some A := by subst h; exact heap_alloc1 w A
theorem box_at (w : World) {O o' : Obj} (h : o' = O) : (w.alloc O).heap[w.heap.size]? = some o' := by rw [h]; exact heap_alloc1 w O
theorem app_upd {w wr w1 : World} {v : Value} {e : TypeId} {s n : Nat} {xs : List Value} {O : Obj} (hU : Upd [] w wr) (hr : wr.ownsRow w.heap.size e s v n xs) (hg : (wr.alloc O).grownBy w1 v.ownBlock) : Upd [] w w1 :=
  (hU.alloc O).grown hg (fun k hk hl => by have := (hr.lt k hk).1; omega)
theorem grownBy_refl (w : World) (row : Option Nat) : w.grownBy w row := ⟨rfl, rfl, rfl, Nat.le_refl _, fun _ _ _ => rfl⟩

/-- Draws, and blocks laid behind: nothing old turned. -/
def Grown (w w' : World) : Prop := ∃ q os, w' = grow (w.drewN q) os
theorem Grown.refl (w : World) : Grown w w := ⟨0, #[], by rw [grow_empty]; rfl⟩
theorem Grown.trans {a b c : World} (h : Grown a b) (k : Grown b c) : Grown a c := by
  obtain ⟨q, os, rfl⟩ := h
  obtain ⟨r, os', rfl⟩ := k
  exact ⟨q + r, os ++ os', by show grow (grow ((a.drewN q).drewN r) os) os' = _; rw [grow_grow, World.drewN_drewN]⟩
theorem Grown.alloc {a b : World} (h : Grown a b) (o : Obj) : Grown a (b.alloc o) := h.trans ⟨0, #[o], by rw [alloc_eq_grow]; rfl⟩
theorem Grown.drew {a b : World} (h : Grown a b) : Grown a b.drew := h.trans ⟨1, #[], by rw [grow_empty]; rfl⟩
theorem Grown.drewN {a b : World} (h : Grown a b) (n : Nat) : Grown a (b.drewN n) := h.trans ⟨n, #[], by rw [grow_empty]⟩
theorem upd_grow (w : World) (os : Array Obj) : Upd [] w (grow w os) := ⟨rfl, rfl, rfl, by simp, fun k hk _ => by
  show (w.heap ++ os)[k]? = w.heap[k]?
  rw [Array.getElem?_append_left hk]⟩
theorem Grown.upd {a b : World} (h : Grown a b) : Upd [] a b := by
  obtain ⟨q, os, rfl⟩ := h
  exact ((Upd.refl [] a).drewN q).trans (upd_grow _ os) (by simp)

theorem mixed : Try.prog.follows .mixedOrders = true := by kernel_rfl
/-- A world in which nothing of w has turned. -/
structure Kept (w : World) where
  x : World
  up : Upd [] w x
instance (w : World) : Inhabited (Kept w) := ⟨⟨w, Upd.refl [] w⟩⟩
theorem wp_region_quiet_kept {P : Program} {id : Nat} {Q : Exit → Act → World → Prop} {a : Act} {w : World} {l : List Oper} (hm : P.follows .mixedOrders = true) (hB : Region.lexB .any l.toArray = true)
    (h : wpQuiet P l.toArray (fun w' => ∃ p : Kept w, w' = p.x) (fun a' => ∀ w', (∃ p : Kept w, w' = p.x) → Q .normal a' w') l a) : (Code.region id l.toArray true).wp P Q a w :=
  wp_region_quiet (C := fun w' => ∃ p : Kept w, w' = p.x) hm hB ⟨⟨w.drew, (Upd.refl [] w).drew⟩, rfl⟩ (by simpa using h)
theorem kept_cell {w : World} {b o : Nat} {c : Array Value} {t : TypeId} {f : Nat × Nat} {v : Value} (h : w.heap[b]? = some (.cells c t f)) (hv : c[o]? = some v) (p : Kept w) : p.x.cell? ⟨b, o, none⟩ = some v :=
  (cell_block (p.up.at h (by simp)) o).trans hv
/-- A callee's contract, met in a world of the class. -/
theorem calls_kept {P : Program} {f : FuncId} {args : Array Value} {w : World} {p : Kept w} {v : Value}
    (h : Calls P f args p.x fun e w' => e = .returned v ∧ Upd [] p.x w') : Calls P f args p.x fun e w'' => e = .returned v ∧ ∃ q : Kept w, w'' = q.x :=
  h.mono fun _ w'' ⟨he, hu⟩ => ⟨he, ⟨⟨w'', p.up.trans hu (by simp)⟩, rfl⟩⟩
theorem kept_at {w : World} {p : Addr} {v : Value} (h : w.cell? p = some v) : ∀ q : Kept w, q.x.cell? p = some v := fun q => q.up.cell h (by simp)

theorem cells3 {w : World} {b : Nat} {x y z : Value} {t : TypeId} {f : Nat × Nat} (h : w.heap[b]? = some (.cells #[x, y, z] t f)) : w.cell? ⟨b, 0, none⟩ = some x ∧ w.cell? ⟨b, 1, none⟩ = some y ∧ w.cell? ⟨b, 2, none⟩ = some z := ⟨cell_block h 0, cell_block h 1, cell_block h 2⟩
theorem cells4 {w : World} {b : Nat} {x y z p : Value} {t : TypeId} {f : Nat × Nat} (h : w.heap[b]? = some (.cells #[x, y, z, p] t f)) : w.cell? ⟨b, 0, none⟩ = some x ∧ w.cell? ⟨b, 1, none⟩ = some y ∧ w.cell? ⟨b, 2, none⟩ = some z ∧ w.cell? ⟨b, 3, none⟩ = some p := ⟨cell_block h 0, cell_block h 1, cell_block h 2, cell_block h 3⟩
theorem free3 {w : World} {b : Nat} {c : Array Value} {t : TypeId} (h : w.heap[b]? = some (.cells c t (0, 0))) : w.frozen? ⟨b, 0, none⟩ = false ∧ w.frozen? ⟨b, 1, none⟩ = false ∧ w.frozen? ⟨b, 2, none⟩ = false := ⟨free_block h 0, free_block h 1, free_block h 2⟩
theorem free4 {w : World} {b : Nat} {c : Array Value} {t : TypeId} (h : w.heap[b]? = some (.cells c t (0, 0))) : w.frozen? ⟨b, 0, none⟩ = false ∧ w.frozen? ⟨b, 1, none⟩ = false ∧ w.frozen? ⟨b, 2, none⟩ = false ∧ w.frozen? ⟨b, 3, none⟩ = false := ⟨free_block h 0, free_block h 1, free_block h 2, free_block h 3⟩
theorem stored3 {w : World} {b : Nat} {x y z : Value} {t : TypeId} {f : Nat × Nat} (h : w.heap[b]? = some (.cells #[x, y, z] t f)) (u v s : Value) :
    (((w.setCell ⟨b, 0, none⟩ u).setCell ⟨b, 1, none⟩ v).setCell ⟨b, 2, none⟩ s).heap[b]? = some (.cells #[u, v, s] t f) := setCell_block (setCell_block (setCell_block h _) _) _
theorem stored4 {w : World} {b : Nat} {x y z p : Value} {t : TypeId} {f : Nat × Nat} (h : w.heap[b]? = some (.cells #[x, y, z, p] t f)) (u v s q : Value) :
    ((((w.setCell ⟨b, 0, none⟩ u).setCell ⟨b, 1, none⟩ v).setCell ⟨b, 2, none⟩ s).setCell ⟨b, 3, none⟩ q).heap[b]? = some (.cells #[u, v, s, q] t f) := setCell_block (setCell_block (setCell_block (setCell_block h _) _) _) _
theorem upd_set1 (w : World) (b o : Nat) (u : Value) : Upd [b] w (w.setCell ⟨b, o, none⟩ u) := (Upd.refl [b] w).setCell (p := ⟨b, o, none⟩) (fun _ => by simp) _
theorem upd_set3 (w : World) (b : Nat) (u v s : Value) : Upd [b] w (((w.setCell ⟨b, 0, none⟩ u).setCell ⟨b, 1, none⟩ v).setCell ⟨b, 2, none⟩ s) :=
  (((Upd.refl [b] w).setCell (p := ⟨b, 0, none⟩) (fun _ => by simp) _).setCell (p := ⟨b, 1, none⟩) (fun _ => by simp) _).setCell (p := ⟨b, 2, none⟩) (fun _ => by simp) _
theorem upd_set4 (w : World) (b : Nat) (u v s q : Value) : Upd [b] w ((((w.setCell ⟨b, 0, none⟩ u).setCell ⟨b, 1, none⟩ v).setCell ⟨b, 2, none⟩ s).setCell ⟨b, 3, none⟩ q) :=
  (upd_set3 w b u v s).setCell (p := ⟨b, 3, none⟩) (fun _ => by simp) _
/-- What turned only in a block that is new to a. -/
theorem Upd.new {a b c : World} {g : Nat} (h : Upd [] a b) (k : Upd [g] b c) (hg : a.heap.size ≤ g) : Upd [] a c := h.trans k (fun x hx hl => by simp at hx; omega)
theorem two_boxes (w : World) (A B : Obj) : Upd [] w ((w.alloc A).alloc B) ∧ ((w.alloc A).alloc B).heap[w.heap.size]? = some A ∧ ((w.alloc A).alloc B).heap[w.heap.size + 1]? = some B ∧ ((w.alloc A).alloc B).heap.size = w.heap.size + 2 :=
  ⟨((Upd.refl _ _).alloc _).alloc _, ((Upd.refl [] (w.alloc A)).alloc B).at (heap_alloc1 w A) (by simp), heap_alloc2 w A B, by simp⟩
theorem three_boxes (w : World) (A B C : Obj) : Upd [] w (((w.alloc A).alloc B).alloc C) ∧ (((w.alloc A).alloc B).alloc C).heap[w.heap.size]? = some A ∧ (((w.alloc A).alloc B).alloc C).heap[w.heap.size + 1]? = some B ∧ (((w.alloc A).alloc B).alloc C).heap[w.heap.size + 1 + 1]? = some C ∧ (((w.alloc A).alloc B).alloc C).heap.size = w.heap.size + 3 :=
  ⟨(((Upd.refl _ _).alloc _).alloc _).alloc _, (((Upd.refl [] (w.alloc A)).alloc B).alloc C).at (heap_alloc1 w A) (by simp), ((Upd.refl [] ((w.alloc A).alloc B)).alloc C).at (heap_alloc2 w A B) (by simp), heap_alloc3 w A B C, by simp⟩
theorem row_shape {w : World} {base size n : Nat} {e : TypeId} {v : Value} {xs : List Value} (h : w.ownsRow base e size v n xs) : ∃ va vc, v = .slice va n vc := by
  rcases h.2 with ⟨rfl, rfl⟩ | ⟨g, cap, cur, rfl, _⟩
  · exact ⟨none, 0, rfl⟩
  · exact ⟨_, _, rfl⟩
theorem row_base {w : World} {base base' size n : Nat} {e : TypeId} {v : Value} {xs : List Value} (h : w.ownsRow base e size v n xs) (hb : base' ≤ base) : w.ownsRow base' e size v n xs := by
  refine ⟨h.1, ?_⟩
  rcases h.2 with hn | ⟨g, cap, cur, rfl, hg, rest⟩
  · exact .inl hn
  · exact .inr ⟨g, cap, cur, rfl, by omega, rest⟩
theorem own_ge {w : World} {base size n : Nat} {e : TypeId} {v : Value} {xs : List Value} (h : w.ownsRow base e size v n xs) : ∀ k, v.ownBlock = some k → base ≤ k := fun k hk => (h.lt k hk).1
theorem upd_grown {w w' : World} {row : Option Nat} (h : w.grownBy w' row) : Upd row.toList w w' := (Upd.refl row.toList w).grown h (fun k hk _ => by simp [hk])
theorem drop_eq {α : Type} {xs ys : List α} {k : Nat} (h : k < xs.length) (h' : k < ys.length) : (xs.drop k = ys.drop k) = (xs[k] = ys[k] ∧ xs.drop (k + 1) = ys.drop (k + 1)) := by
  rw [List.drop_eq_getElem_cons h, List.drop_eq_getElem_cons h', List.cons.injEq]
theorem drop_dec {α : Type} [DecidableEq α] {xs ys : List α} {k : Nat} (h : k < xs.length) (h' : k < ys.length) : decide (xs.drop k = ys.drop k) = (decide (xs[k] = ys[k]) && decide (xs.drop (k + 1) = ys.drop (k + 1))) := by
  rw [← Bool.decide_and]
  have := drop_eq h h'
  exact decide_eq_decide.2 (by rw [this])
end Go.Proofs.Ytneodiemgemhfaa
namespace Go.Proofs.Ytneodiemgemhfaa
open Go.RowKit Go.Lib

/-- How a record lies: in k cells. -/
structure Lay (α : Type) where
  k : Nat
  enc : α → List Value
  len : ∀ x, (enc x).length = k
  one : ∀ x, ∀ v ∈ enc x, v.oneCell' = true
  pos : 0 < k
variable {α : Type}
def Lay.flat (L : Lay α) (l : List α) : List Value := l.flatMap L.enc
theorem Lay.flat_cons (L : Lay α) (x : α) (l : List α) : L.flat (x :: l) = L.enc x ++ L.flat l := rfl
theorem Lay.flat_nil (L : Lay α) : L.flat [] = [] := rfl
theorem Lay.flat_length (L : Lay α) (l : List α) : (L.flat l).length = l.length * L.k := by
  induction l with
  | nil => simp [Lay.flat_nil]
  | cons x l ih => rw [L.flat_cons, List.length_append, L.len, ih, List.length_cons, Nat.add_mul, Nat.one_mul, Nat.add_comm]
theorem Lay.flat_append (L : Lay α) (l m : List α) : L.flat (l ++ m) = L.flat l ++ L.flat m := by simp [Lay.flat]
theorem Lay.flat_single (L : Lay α) (x : α) : L.flat [x] = L.enc x := by simp [Lay.flat]
theorem Lay.flat_one (L : Lay α) (l : List α) : ∀ v ∈ L.flat l, v.oneCell' = true := by
  intro v hv
  obtain ⟨s, _, h⟩ := List.mem_flatMap.1 hv
  exact L.one s v h
theorem Lay.lt (L : Lay α) {x : α} {t : Nat} {u : Value} (h : (L.enc x)[t]? = some u) : t < L.k := by
  rw [← L.len x]; exact (List.getElem?_eq_some_iff.1 h).1
theorem Lay.flat_at (L : Lay α) : ∀ (l : List α) (j : Nat) (h : j < l.length) (t : Nat) (u : Value), (L.enc l[j])[t]? = some u → (L.flat l)[j * L.k + t]? = some u
  | x :: l, 0, _, t, u, hu => by
    have ht := L.lt hu
    rw [L.flat_cons, List.getElem?_append_left (by rw [L.len]; omega)]
    simpa using hu
  | x :: l, j + 1, h, t, u, hu => by
    have ih := L.flat_at l j (by simpa using h) t u (by simpa using hu)
    have e : (j + 1) * L.k + t = L.k + (j * L.k + t) := by rw [Nat.add_mul]; omega
    rw [L.flat_cons, e, List.getElem?_append_right (by rw [L.len]; omega), L.len, Nat.add_sub_cancel_left]
    exact ih
theorem Lay.flat_of (L : Lay α) : ∀ (l : List α) (t : Nat) (u : Value), (L.flat l)[t]? = some u → ∃ (j : Nat) (h : j < l.length) (s : Nat), t = j * L.k + s ∧ (L.enc l[j])[s]? = some u
  | [], t, u, hu => by simp [Lay.flat_nil] at hu
  | x :: l, t, u, hu => by
    rw [L.flat_cons] at hu
    by_cases ht : t < L.k
    · rw [List.getElem?_append_left (by rw [L.len]; omega)] at hu
      exact ⟨0, by simp, t, by simp, by simpa using hu⟩
    · rw [List.getElem?_append_right (by rw [L.len]; omega), L.len] at hu
      obtain ⟨j, h, s, e, hs⟩ := L.flat_of l _ u hu
      exact ⟨j + 1, by simpa using h, s, by rw [Nat.add_mul]; omega, by simpa using hs⟩
theorem Lay.flat_set (L : Lay α) : ∀ (l : List α) (i : Nat) (_ : i < l.length) (x : α), L.flat (l.set i x) = (L.flat l).take (i * L.k) ++ L.enc x ++ (L.flat l).drop (i * L.k + L.k)
  | y :: l, 0, _, x => by
    rw [List.set_cons_zero, L.flat_cons, L.flat_cons]
    simp only [Nat.zero_mul, List.take_zero, List.nil_append, Nat.zero_add]
    have e : (L.enc y ++ L.flat l).drop L.k = L.flat l := by
      conv => lhs; rw [← L.len y]
      exact List.drop_left
    rw [e]
  | y :: l, i + 1, h, x => by
    have ih := L.flat_set l i (by simpa using h) x
    have e1 : (i + 1) * L.k = (L.enc y).length + i * L.k := by rw [L.len, Nat.add_mul]; omega
    have e2 : (i + 1) * L.k + L.k = (L.enc y).length + (i * L.k + L.k) := by omega
    rw [List.set_cons_succ, L.flat_cons, L.flat_cons, ih, e2, e1]
    rw [List.take_length_add_append, List.drop_length_add_append]
    simp [List.append_assoc]

/-- The slice at ad holds l. -/
def Row (L : Lay α) (w : World) (ad : Option Addr) (l : List α) : Prop := ∀ j (h : j < l.length), ∃ b off, ad = some ⟨b, off, none⟩ ∧ ∀ t u, (L.enc l[j])[t]? = some u → w.cell? ⟨b, off + j * L.k + t, none⟩ = some u
theorem Row.keep {L : Lay α} {S : List Nat} {w w' : World} {ad : Option Addr} {l : List α} (h : Row L w ad l) (hu : Upd S w w') (hS : l ≠ [] → ∀ a, ad = some a → a.block ∉ S) : Row L w' ad l := by
  intro j hj
  obtain ⟨b, off, rfl, c⟩ := h j hj
  have hb : b ∉ S := hS (by intro e; subst e; simp at hj) _ rfl
  exact ⟨b, off, rfl, fun t u ht => hu.cell (c t u ht) hb⟩
theorem Row.stay {L : Lay α} {w w' : World} {ad : Option Addr} {l : List α} (h : Row L w ad l) (hu : Upd [] w w') : Row L w' ad l := h.keep hu (by simp)
theorem row_nil (L : Lay α) (w : World) (ad : Option Addr) : Row L w ad [] := by intro j hj; simp at hj
theorem row_none {L : Lay α} {w : World} {l : List α} (h : Row L w none l) : l = [] := by
  cases l with
  | nil => rfl
  | cons x xs => obtain ⟨b, off, h, _⟩ := h 0 (by simp); simp at h
theorem Row.lt {L : Lay α} {w : World} {ad : Option Addr} {l : List α} (h : Row L w ad l) (hn : l ≠ []) {a : Addr} (ha : ad = some a) : a.block < w.heap.size := by
  obtain ⟨b, off, rfl, c⟩ := h 0 (List.length_pos_iff.2 hn)
  obtain rfl := Option.some.inj ha
  have hk := L.pos
  have hl := L.len (l[0]'(List.length_pos_iff.2 hn))
  have := World.block_lt_of_cell? w _ (c 0 ((L.enc (l[0]'(List.length_pos_iff.2 hn)))[0]'(by omega)) (List.getElem?_eq_getElem (by omega)))
  simpa using this
theorem Row.cells {L : Lay α} {w : World} {ad : Addr} {l : List α} (h : Row L w (some ad) l) : ∀ (t : Nat) (u : Value), (L.flat l)[t]? = some u → w.cell? (ad.add t) = some u := fun t u ht => by
  obtain ⟨j, hj, s, rfl, hs⟩ := L.flat_of l t u ht
  obtain ⟨b, off, e, c⟩ := h j hj
  obtain rfl := Option.some.inj e
  rw [Addr.add_lit, ← Nat.add_assoc]
  exact c s u hs
/-- A row read in part. -/
theorem Row.part {L : Lay α} {w : World} {ad : Option Addr} {l : List α} (h : Row L w ad l) (n : Nat) : Row L w ad (l.take n) := by
  intro j hj
  have hl : j < l.length := by simp at hj; omega
  obtain ⟨b, off, e, c⟩ := h j hl
  exact ⟨b, off, e, fun t u ht => c t u (by simpa using ht)⟩

/-- A slice of records as it lies. -/
structure SlR (α : Type) where
  l : List α
  ad : Option Addr
  cap : Nat
def SlR.v (s : SlR α) : Value := .slice s.ad s.l.length s.cap
structure HasS (L : Lay α) (w : World) (s : SlR α) : Prop where
  row : Row L w s.ad s.l
  le : s.l.length ≤ s.cap
  nn : s.ad = none → s.cap = 0
/-- The slice lies outside of block b. -/
def AvS (s : SlR α) (b : Nat) : Prop := s.l ≠ [] → ∀ a, s.ad = some a → a.block ≠ b
theorem HasS.stay {L : Lay α} {w w' : World} {s : SlR α} (h : HasS L w s) (hu : Upd [] w w') : HasS L w' s := ⟨h.row.stay hu, h.le, h.nn⟩
theorem HasS.keep1 {L : Lay α} {w w' : World} {s : SlR α} {b : Nat} (h : HasS L w s) (hu : Upd [b] w w') (ha : AvS s b) : HasS L w' s := ⟨h.row.keep hu (fun hn a e => by simpa using ha hn a e), h.le, h.nn⟩
theorem HasS.avoids {L : Lay α} {w : World} {s : SlR α} (h : HasS L w s) {b : Nat} (hb : w.heap.size ≤ b) : AvS s b := fun hn a e => by
  have := h.row.lt hn e
  omega
theorem hasS_nil (L : Lay α) (w : World) : HasS L w ⟨[], none, 0⟩ := ⟨row_nil L w none, by simp, fun _ => rfl⟩
theorem avS_nil (b : Nat) (ad : Option Addr) (c : Nat) : AvS (⟨[], ad, c⟩ : SlR α) b := fun h => absurd rfl h
/-- A row of the call's own, as a slice. -/
theorem hasS_row {L : Lay α} {w : World} {base n : Nat} {e : TypeId} {v : Value} {l : List α} (h : w.ownsRow base e L.k v n (L.flat l)) : n = l.length ∧ ∃ ad cap, v = .slice ad n cap ∧ HasS L w ⟨l, ad, cap⟩ ∧ ∀ a, ad = some a → base ≤ a.block := by
  have hn : n = l.length := by
    have h1 := h.1
    rw [L.flat_length] at h1
    exact (Nat.eq_of_mul_eq_mul_right L.pos h1).symm
  subst hn
  refine ⟨rfl, ?_⟩
  rcases h.2 with ⟨rfl, h0⟩ | ⟨g, cap, cur, rfl, hb, hg, hc, _, hs, ht⟩
  · obtain rfl : l = [] := List.eq_nil_of_length_eq_zero h0
    exact ⟨none, 0, rfl, hasS_nil L w, fun a e => by simp at e⟩
  · refine ⟨_, _, rfl, ⟨fun j hj => ⟨g, 0, rfl, fun t u hu => ?_⟩, hc, fun e => by simp at e⟩, fun a e => by obtain rfl := Option.some.inj e; exact hb⟩
    have := h.cells (g := g) rfl _ u (L.flat_at l j hj t u hu)
    rw [Addr.add_lit, ← Nat.add_assoc] at this
    exact this

/-- The types of a row: of the slice and of its element. -/
structure RowTy (L : Lay α) (ts te : TypeId) : Prop where
  un : Try.prog.underlying ts = some (.slice te)
  info : ∃ i z b, Try.prog.info? te = some i ∧ i.zero = some z ∧ i.size = L.k ∧ i.bytes = b ∧ z.cells.size = L.k ∧ b ≤ 1000
theorem rowTy {L : Lay α} {ts te : TypeId} (un : Try.prog.underlying ts = some (.slice te)) (z : Value) (b : Nat) (hi : (Try.prog.info? te).map (fun i => (i.zero, i.size, i.bytes)) = some (some z, L.k, b)) (hz : z.cells.size = L.k) (hb : b ≤ 1000) : RowTy L ts te := by
  obtain ⟨i, h1, h2, h3, h4⟩ := info_parts hi
  exact ⟨un, i, z, b, h1, h2, h3, h4, hz, hb⟩
/-- append of a slice to a row of the call's own. -/
theorem app_row {L : Lay α} {ts te : TypeId} (T : RowTy L ts te) {w : World} {ops : Array Oper} {rest : List Oper} {o : Oper} {a : Act} {Q : Exit → Act → World → Prop} (hgd : o.guard = none) (s x : Operand)
    (ho : o.op = .call { callee := .builtin .append, args := #[s, x], argTypes := #[ts, ts] })
    (base : Nat) (v : Value) (n : Nat) (xs : List α) (hs : a.eval s = v) (hown : w.ownsRow base te L.k v n (L.flat xs))
    (ad : Option Addr) (m c : Nat) (ys : List α) (hx : a.eval x = .slice ad m c) (hm : m = ys.length) (hy : Row L w ad ys) (hnil : ad = none → c = 0) (hn : n + m ≤ 1000000) (hbase : base ≤ w.heap.size)
    (h : ∀ v' w', w'.ownsRow base te L.k v' (n + m) (L.flat (xs ++ ys)) → w.grownBy w' v.ownBlock → wpList Try.prog ops Q rest (a.put o.dst v') w') :
    wpList Try.prog ops Q (o :: rest) a w := by
  obtain ⟨i0, z, b, hi0, hz0, hz1, hz2, hz3, hb⟩ := T.info
  cases ad with
  | none =>
    have e := row_none hy
    subst e
    obtain rfl := hnil rfl
    obtain rfl : m = 0 := by simpa using hm
    exact wpList_append_own_none hgd s x ts ho base te i0 L.k T.un hi0 v n _ hs hown hx (h v w (by simpa using hown) (grownBy_refl _ _))
  | some ad =>
    have hbb : (n + m) * b ≤ 1000000 * 1000 := Nat.mul_le_mul hn hb
    refine wpList_append_own _ hgd s x ts ho base te i0 z L.k b T.un hi0 hz0 hz1 hz2 hz3 L.pos v n _ hs hown ad m c (L.flat ys) hx (by rw [L.flat_length, hm]) hy.cells (L.flat_one ys) (by simp [maxLen]; omega) (by omega) hbase ?_
    intro v' w' h1 h2 _
    exact h v' w' (by rw [L.flat_append]; exact h1) h2

/-- The block g holds l in its first cells. -/
structure Held (L : Lay α) (te : TypeId) (w : World) (g cap : Nat) (l : List α) : Prop where
  ex : ∃ cur, w.heap[g]? = some (.cells cur te (0, 0)) ∧ cur.size = cap * L.k ∧ cur.toList.take (l.length * L.k) = L.flat l
  le : l.length ≤ cap
theorem held_row {L : Lay α} {te : TypeId} {w : World} {base n : Nat} {v : Value} {l : List α} (h : w.ownsRow base te L.k v n (L.flat l)) (h0 : 0 < n) : n = l.length ∧ ∃ g cap, v = .slice (some ⟨g, 0, none⟩) n cap ∧ base ≤ g ∧ Held L te w g cap l := by
  have hn := (hasS_row h).1
  refine ⟨hn, ?_⟩
  rcases h.2 with ⟨_, h1⟩ | ⟨g, cap, cur, rfl, hb, hg, hc, _, hs, ht⟩
  · omega
  · exact ⟨g, cap, rfl, hb, ⟨cur, hg, hs, by rw [← hn]; exact ht⟩, by omega⟩
theorem Held.lt {L : Lay α} {te : TypeId} {w : World} {g cap : Nat} {l : List α} (h : Held L te w g cap l) : g < w.heap.size := by
  obtain ⟨cur, h, _⟩ := h.ex
  exact lt_block h
theorem Held.cell {L : Lay α} {te : TypeId} {w : World} {g cap : Nat} {l : List α} (h : Held L te w g cap l) (j : Nat) (hj : j < l.length) (t : Nat) (u : Value) (hu : (L.enc l[j])[t]? = some u) : w.cell? ⟨g, j * L.k + t, none⟩ = some u ∧ w.frozen? ⟨g, j * L.k + t, none⟩ = false := by
  obtain ⟨cur, hg, hs, ht⟩ := h.ex
  refine ⟨?_, free_block hg _⟩
  rw [cell_block hg]
  have hf := L.flat_at l j hj t u hu
  rw [← ht, List.getElem?_take] at hf
  split at hf
  · rw [← Array.getElem?_toList]; exact hf
  · simp at hf
theorem Held.keep {L : Lay α} {te : TypeId} {S : List Nat} {w w' : World} {g cap : Nat} {l : List α} (h : Held L te w g cap l) (hu : Upd S w w') (hg : g ∉ S) : Held L te w' g cap l := by
  obtain ⟨cur, h1, h2, h3⟩ := h.ex
  exact ⟨⟨cur, hu.at h1 hg, h2, h3⟩, h.le⟩
theorem Held.has {L : Lay α} {te : TypeId} {w : World} {g cap : Nat} {l : List α} (h : Held L te w g cap l) : HasS L w ⟨l, some ⟨g, 0, none⟩, cap⟩ :=
  ⟨fun j hj => ⟨g, 0, rfl, fun t u hu => by rw [Nat.zero_add]; exact (h.cell j hj t u hu).1⟩, h.le, fun e => by simp at e⟩
/-- Cells stored one behind the other. -/
def stores (w : World) (g : Nat) : Nat → List Value → World
  | _, [] => w
  | o, v :: vs => stores (w.setCell ⟨g, o, none⟩ v) g (o + 1) vs
theorem stores_upd : ∀ (vs : List Value) (w : World) (g o : Nat), Upd [g] w (stores w g o vs)
  | [], w, g, o => Upd.refl _ _
  | v :: vs, w, g, o => (upd_set1 w g o v).trans (stores_upd vs _ g (o + 1)) (by simp)
theorem stores_block : ∀ (vs : List Value) {w : World} {g o : Nat} {c : Array Value} {t : TypeId} {f : Nat × Nat}, w.heap[g]? = some (.cells c t f) → o + vs.length ≤ c.size →
    ∃ c', (stores w g o vs).heap[g]? = some (.cells c' t f) ∧ c'.toList = c.toList.take o ++ vs ++ c.toList.drop (o + vs.length)
  | [], w, g, o, c, t, f, h, _ => ⟨c, h, by simp⟩
  | v :: vs, w, g, o, c, t, f, h, hl => by
    simp only [List.length_cons] at hl
    obtain ⟨c', h1, h2⟩ := stores_block vs (setCell_block (o := o) h v) (o := o + 1) (by simp; omega)
    refine ⟨c', h1, ?_⟩
    rw [h2]
    have ho : o < c.toList.length := by simp; omega
    have e : (c.setIfInBounds o v).toList = c.toList.set o v := by simp
    rw [e, List.length_cons, show o + (vs.length + 1) = o + 1 + vs.length by omega]
    have e2 : (c.toList.set o v).take (o + 1) = c.toList.take o ++ [v] := by
      have hmin : (c.toList.take o).length = o := by simp; simp at ho; omega
      rw [List.take_set, List.take_succ_eq_append_getElem ho, List.set_append, if_neg (by omega), hmin, Nat.sub_self]
      simp
    rw [e2, List.drop_set_of_lt (by omega)]
    simp
theorem Held.set {L : Lay α} {te : TypeId} {w : World} {g cap : Nat} {l : List α} (h : Held L te w g cap l) (i : Nat) (hi : i < l.length) (x : α) : Held L te (stores w g (i * L.k) (L.enc x)) g cap (l.set i x) := by
  obtain ⟨cur, h1, h2, h3⟩ := h.ex
  have hle := h.le
  have hik : i * L.k + L.k ≤ l.length * L.k := by
    have := Nat.mul_le_mul_right L.k (show i + 1 ≤ l.length by omega)
    rwa [Nat.add_mul, Nat.one_mul] at this
  have hlc : l.length * L.k ≤ cur.size := by rw [h2]; exact Nat.mul_le_mul_right _ hle
  obtain ⟨c', q1, q2⟩ := stores_block (L.enc x) (o := i * L.k) h1 (by rw [L.len]; omega)
  refine ⟨⟨c', q1, ?_, ?_⟩, by simpa using hle⟩
  · have := congrArg List.length q2
    simp only [Array.length_toList, List.length_append, List.length_take, List.length_drop, L.len] at this
    omega
  · rw [q2, L.len, L.flat_set l i hi, List.length_set, ← h3]
    have hlen : (cur.toList.take (i * L.k) ++ L.enc x).length = i * L.k + L.k := by simp [L.len]; omega
    rw [List.take_append, hlen, List.take_of_length_le (by rw [hlen]; omega), List.take_take, List.drop_take, Nat.min_eq_left (by omega)]
end Go.Proofs.Ytneodiemgemhfaa
