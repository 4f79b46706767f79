/- Arenas in memory: a row of slots, a row of ints, a number. -/
import Derived.Test.YthpofcomlidoiaaCH
namespace Go.Proofs.Ythpofcomlidoiaa
open Go.RowKit Go.Lib

def encS (s : Sl) : List Value := [.int .i64 s.g, .int .i64 s.s, .int .i64 s.t, .int .i64 s.q]
def aggS (s : Sl) : Value := .agg #[.int .i64 s.g, .int .i64 s.s, .int .i64 s.t, .int .i64 s.q]
theorem encS_len (s : Sl) : (encS s).length = 4 := rfl
def flatS (l : List Sl) : List Value := l.flatMap encS
theorem flatS_length (l : List Sl) : (flatS l).length = l.length * 4 := by
  induction l with
  | nil => rfl
  | cons x l ih => simp only [flatS, List.flatMap_cons, List.length_append, encS_len, List.length_cons] at ih ⊢; omega
theorem flatS_append (l m : List Sl) : flatS (l ++ m) = flatS l ++ flatS m := by simp [flatS]
theorem flatS_one (l : List Sl) : ∀ v ∈ flatS l, v.oneCell' = true := by
  intro v hv
  obtain ⟨s, _, h⟩ := List.mem_flatMap.1 hv
  simp only [encS, List.mem_cons, List.not_mem_nil, or_false] at h
  rcases h with rfl | rfl | rfl | rfl <;> rfl
theorem flatS_at : ∀ (l : List Sl) (j : Nat) (h : j < l.length), (flatS l)[j * 4]? = some (.int .i64 l[j].g) ∧ (flatS l)[j * 4 + 1]? = some (.int .i64 l[j].s) ∧ (flatS l)[j * 4 + 2]? = some (.int .i64 l[j].t) ∧ (flatS l)[j * 4 + 3]? = some (.int .i64 l[j].q)
  | s :: l, 0, _ => ⟨rfl, rfl, rfl, rfl⟩
  | s :: l, j + 1, h => by
    have := flatS_at l j (by simpa using h)
    have e : flatS (s :: l) = encS s ++ flatS l := rfl
    simp only [List.getElem_cons_succ]
    rw [e]
    refine ⟨?_, ?_, ?_, ?_⟩
    · rw [List.getElem?_append_right (by rw [encS_len]; omega), encS_len, show (j + 1) * 4 - 4 = j * 4 by omega]; exact this.1
    · rw [List.getElem?_append_right (by rw [encS_len]; omega), encS_len, show (j + 1) * 4 + 1 - 4 = j * 4 + 1 by omega]; exact this.2.1
    · rw [List.getElem?_append_right (by rw [encS_len]; omega), encS_len, show (j + 1) * 4 + 2 - 4 = j * 4 + 2 by omega]; exact this.2.2.1
    · rw [List.getElem?_append_right (by rw [encS_len]; omega), encS_len, show (j + 1) * 4 + 3 - 4 = j * 4 + 3 by omega]; exact this.2.2.2
theorem flatS_set : ∀ (l : List Sl) (i : Nat) (_ : i < l.length) (s : Sl), flatS (l.set i s) = ((((flatS l).set (i * 4) (.int .i64 s.g)).set (i * 4 + 1) (.int .i64 s.s)).set (i * 4 + 2) (.int .i64 s.t)).set (i * 4 + 3) (.int .i64 s.q)
  | x :: l, 0, _, s => rfl
  | x :: l, i + 1, h, s => by
    have ih := flatS_set l i (by simpa using h) s
    have e : ∀ m, flatS (x :: m) = encS x ++ flatS m := fun _ => rfl
    rw [List.set_cons_succ, e, e, ih]
    rw [List.set_append_right _ _ (by rw [encS_len]; omega), List.set_append_right _ _ (by rw [encS_len]; omega), List.set_append_right _ _ (by rw [encS_len]; omega), List.set_append_right _ _ (by rw [encS_len]; omega)]
    simp only [encS_len, show (i + 1) * 4 - 4 = i * 4 by omega, show (i + 1) * 4 + 1 - 4 = i * 4 + 1 by omega, show (i + 1) * 4 + 2 - 4 = i * 4 + 2 by omega, show (i + 1) * 4 + 3 - 4 = i * 4 + 3 by omega]

/-- The slice at ad holds the slots l. -/
def Slots (w : World) (ad : Option Addr) (l : List Sl) : Prop := ∀ j (h : j < l.length), ∃ b off, ad = some ⟨b, off, none⟩ ∧
  w.cell? ⟨b, off + j * 4, none⟩ = some (.int .i64 l[j].g) ∧ w.cell? ⟨b, off + j * 4 + 1, none⟩ = some (.int .i64 l[j].s) ∧ w.cell? ⟨b, off + j * 4 + 2, none⟩ = some (.int .i64 l[j].t) ∧ w.cell? ⟨b, off + j * 4 + 3, none⟩ = some (.int .i64 l[j].q)
theorem Slots.keep {S : List Nat} {w w' : World} {ad : Option Addr} {l : List Sl} (h : Slots w ad l) (hu : Upd S w w') (hS : ∀ a, ad = some a → a.block ∉ S) : Slots w' ad l := by
  intro j hj
  obtain ⟨b, off, rfl, c0, c1, c2, c3⟩ := h j hj
  have hb : b ∉ S := hS _ rfl
  exact ⟨b, off, rfl, hu.cell c0 hb, hu.cell c1 hb, hu.cell c2 hb, hu.cell c3 hb⟩
theorem Slots.stay {w w' : World} {ad : Option Addr} {l : List Sl} (h : Slots w ad l) (hu : Upd [] w w') : Slots w' ad l := h.keep hu (by simp)
theorem slots_nil (w : World) (ad : Option Addr) : Slots w ad [] := by intro j hj; simp at hj
theorem slots_none {w : World} {l : List Sl} (h : Slots w none l) : l = [] := by
  cases l with
  | nil => rfl
  | cons x xs => obtain ⟨b, off, h, _⟩ := h 0 (by simp); simp at h
theorem ints_none {w : World} {xs : List Int} (h : Ints w none xs) : xs = [] := by
  cases xs with
  | nil => rfl
  | cons x xs => obtain ⟨b, off, h, _⟩ := h 0 (by simp); simp at h
theorem slots_cells {w : World} {ad : Addr} {l : List Sl} (h : Slots w (some ad) l) : ∀ (t : Nat) (u : Value), (flatS l)[t]? = some u → w.cell? (ad.add t) = some u := fun t u ht => by
  have hl : t < l.length * 4 := by rw [← flatS_length]; exact (List.getElem?_eq_some_iff.1 ht).1
  have hj : t / 4 < l.length := by omega
  obtain ⟨b, off, e, c0, c1, c2, c3⟩ := h (t / 4) hj
  obtain rfl := Option.some.inj e
  obtain ⟨f0, f1, f2, f3⟩ := flatS_at l (t / 4) hj
  rw [Addr.add_lit]
  have hm : t % 4 = 0 ∨ t % 4 = 1 ∨ t % 4 = 2 ∨ t % 4 = 3 := by omega
  rcases hm with hm | hm | hm | hm
  · rw [show t / 4 * 4 = t by omega] at f0 c0; rw [f0] at ht; rw [← Option.some.inj ht]; exact c0
  · rw [show t / 4 * 4 + 1 = t by omega] at f1; rw [Nat.add_assoc, show t / 4 * 4 + 1 = t by omega] at c1; rw [f1] at ht; rw [← Option.some.inj ht]; exact c1
  · rw [show t / 4 * 4 + 2 = t by omega] at f2; rw [Nat.add_assoc, show t / 4 * 4 + 2 = t by omega] at c2; rw [f2] at ht; rw [← Option.some.inj ht]; exact c2
  · rw [show t / 4 * 4 + 3 = t by omega] at f3; rw [Nat.add_assoc, show t / 4 * 4 + 3 = t by omega] at c3; rw [f3] at ht; rw [← Option.some.inj ht]; exact c3
theorem ints_cells {w : World} {ad : Addr} {xs : List Int} (h : Ints w (some ad) xs) : ∀ (j : Nat) (u : Value), (xs.map (Value.int .i64))[j]? = some u → w.cell? (ad.add j) = some u := fun j u hj => by
  rw [List.getElem?_map] at hj
  obtain ⟨x, hx, rfl⟩ := Option.map_eq_some_iff.1 hj
  obtain ⟨hl, rfl⟩ := List.getElem?_eq_some_iff.1 hx
  obtain ⟨b, off, h, hc⟩ := h j hl
  obtain rfl := Option.some.inj h
  rw [Addr.add_lit]; exact hc
theorem slots_row {w : World} {base g n cap : Nat} {l : List Sl} (h : w.ownsRow base 44 4 (.slice (some ⟨g, 0, none⟩) n cap) l.length (flatS l)) : Slots w (some ⟨g, 0, none⟩) l := by
  intro j hj
  obtain ⟨f0, f1, f2, f3⟩ := flatS_at l j hj
  have k := fun t u ht => h.cells (g := g) rfl t u ht
  have hadd : ∀ t, (⟨g, 0, none⟩ : Addr).add t = ⟨g, 0 + t, none⟩ := fun t => by rw [Addr.add_lit]
  refine ⟨g, 0, rfl, ?_, ?_, ?_, ?_⟩
  · rw [← hadd]; exact k _ _ f0
  · rw [Nat.add_assoc, ← hadd]; exact k _ _ f1
  · rw [Nat.add_assoc, ← hadd]; exact k _ _ f2
  · rw [Nat.add_assoc, ← hadd]; exact k _ _ f3

/-- An arena as it lies. -/
structure ArR where
  ar : Ar
  sa : Option Addr
  sc : Nat
  ia : Option Addr
  ic : Nat
def encA (r : ArR) : Value := .agg #[.slice r.sa r.ar.sl.length r.sc, .slice r.ia r.ar.id.length r.ic, .int .i64 r.ar.nx]
structure HasA (w : World) (r : ArR) : Prop where
  sl : Slots w r.sa r.ar.sl
  id : Ints w r.ia r.ar.id
  sc : r.ar.sl.length ≤ r.sc
  ic : r.ar.id.length ≤ r.ic
  sn : r.sa = none → r.sc = 0
  nn : r.ia = none → r.ic = 0
theorem HasA.stay {w w' : World} {r : ArR} (h : HasA w r) (hu : Upd [] w w') : HasA w' r := ⟨h.sl.stay hu, h.id.stay hu, h.sc, h.ic, h.sn, h.nn⟩
theorem Slots.keepN {S : List Nat} {w w' : World} {ad : Option Addr} {l : List Sl} (h : Slots w ad l) (hu : Upd S w w') (hS : l ≠ [] → ∀ a, ad = some a → a.block ∉ S) : Slots w' ad l := by
  intro j hj
  exact (h.keep hu (hS (by intro e; subst e; simp at hj))) j hj
theorem Ints.keepN {S : List Nat} {w w' : World} {ad : Option Addr} {l : List Int} (h : Ints w ad l) (hu : Upd S w w') (hS : l ≠ [] → ∀ a, ad = some a → a.block ∉ S) : Ints w' ad l := by
  intro j hj
  exact (h.keep hu (hS (by intro e; subst e; simp at hj))) j hj
/-- The arena lies outside of block b. -/
def Avoids (r : ArR) (b : Nat) : Prop := (r.ar.sl ≠ [] → ∀ a, r.sa = some a → a.block ≠ b) ∧ (r.ar.id ≠ [] → ∀ a, r.ia = some a → a.block ≠ b)
theorem HasA.keep1 {w w' : World} {r : ArR} {b : Nat} (h : HasA w r) (hu : Upd [b] w w') (ha : Avoids r b) : HasA w' r :=
  ⟨h.sl.keepN hu (fun hn a e => by have := ha.1 hn a e; simpa using this), h.id.keepN hu (fun hn a e => by have := ha.2 hn a e; simpa using this), h.sc, h.ic, h.sn, h.nn⟩
theorem HasA.avoids {w : World} {r : ArR} (h : HasA w r) {b : Nat} (hb : w.heap.size ≤ b) : Avoids r b := by
  constructor
  · intro hn a e
    obtain ⟨b', off, e', c, _⟩ := h.sl 0 (List.length_pos_iff.2 hn)
    rw [e] at e'
    obtain rfl := Option.some.inj e'
    have := World.block_lt_of_cell? w _ c
    simp only at this ⊢
    omega
  · intro hn a e
    obtain ⟨b', off, e', c⟩ := h.id 0 (List.length_pos_iff.2 hn)
    rw [e] at e'
    obtain rfl := Option.some.inj e'
    have := World.block_lt_of_cell? w _ c
    simp only at this ⊢
    omega
/-- From the arena r in w a call came to the arena r' in w', which holds a'. -/
structure Nxt (w : World) (r : ArR) (a' : Ar) (w' : World) (r' : ArR) : Prop where
  eq : r'.ar = a'
  has : HasA w' r'
  av : ∀ b, b < w.heap.size → Avoids r b → Avoids r' b
  upd : Upd [] w w'
/-- An arena as a value: some place of it. -/
def IsA (w : World) (v : Value) (a : Ar) : Prop := ∃ r : ArR, v = encA r ∧ r.ar = a ∧ HasA w r
theorem IsA.stay {w w' : World} {v : Value} {a : Ar} (h : IsA w v a) (hu : Upd [] w w') : IsA w' v a := by
  obtain ⟨r, h1, h2, h3⟩ := h
  exact ⟨r, h1, h2, h3.stay hu⟩
theorem HasA.is {w : World} {r : ArR} (h : HasA w r) : IsA w (encA r) r.ar := ⟨r, rfl, rfl, h⟩

theorem box_at (w : World) {O o' : Obj} (h : o' = O) : (w.alloc O).heap[w.heap.size]? = some o' := by rw [h]; exact heap_alloc1 w O
theorem infoSlot : (Try.prog.info? 44).map (fun i => (i.zero, i.size, i.bytes)) = some (some (.agg #[.int .i64 0, .int .i64 0, .int .i64 0, .int .i64 0]), 4, 32) := by kernel_rfl
end Go.Proofs.Ythpofcomlidoiaa
