/- The memory of package shmem as it lies in the heap, and the contracts of its inner methods. -/
import Derived.Test.YtbalfkdeemgclaaA
import Derived.Test.YtbalfkdeemgclaaR
import Derived.Deep.RegionWith
import Derived.Deep.RegionHeld3
import Derived.Deep.Light
import Derived.Deep.DeepCutAuto
namespace Go.Proofs.Ytbalfkdeemgclaa
open Go.RowKit

structure Acc where
  (t k i old new : Int)
  ok : Bool
def Acc.cells (a : Acc) : List Value := [.int .i64 a.t, .int .i64 a.k, .int .i64 a.i, .int .i64 a.old, .int .i64 a.new, .bool a.ok]
structure St where
  ws : List Int
  ms : List (Bool × Int)
  log : List Acc
  v : Int
def ocells (o : Bool × Int) : List Value := [.bool o.1, .int .i64 o.2]
structure St.Small (s : St) : Prop where
  ws : s.ws.length ≤ 256
  ms : s.ms.length ≤ 256
  log : s.log.length ≤ 100000
  v0 : 0 ≤ s.v
  v1 : s.v ≤ 100000

theorem St.Small.big {s : St} (h : s.Small) : s.log.length ≤ 1000000 := by have := h.log; omega

/-- The memory lies at block p, its words at bw, its mutexes at bm; F: all its blocks. -/
def Mem (F : List Nat) (p bw bm : Nat) (s : St) (w : World) : Prop :=
  ∃ vl, F = p :: bw :: bm :: vl.ownBlock.toList ∧
    w.heap[p]? = some (.cells #[vl, .slice (some ⟨bw, 0, none⟩) s.ws.length s.ws.length, .slice (some ⟨bm, 0, none⟩) s.ms.length s.ms.length, .int .i64 s.v] 69 (0, 0)) ∧
    w.heap[bw]? = some (.cells (s.ws.map (Value.int .i64)).toArray 3 (0, 0)) ∧
    w.heap[bm]? = some (.cells (s.ms.flatMap ocells).toArray 65 (0, 0)) ∧
    w.ownsRow 0 47 6 vl s.log.length (s.log.flatMap Acc.cells)

/-- From F to F': only F's blocks have turned, and F' is of F or new. -/
def Goes (F F' : List Nat) (w w' : World) : Prop := Upd F w w' ∧ ∀ x ∈ F', x ∈ F ∨ w.heap.size ≤ x
theorem Goes.refl (F : List Nat) (w : World) : Goes F F w w := ⟨Upd.refl _ _, fun _ h => .inl h⟩
theorem Goes.trans {F G H : List Nat} {a b c : World} (h : Goes F G a b) (k : Goes G H b c) : Goes F H a c :=
  ⟨h.1.trans k.1 (fun x hx hl => (h.2 x hx).resolve_right (by omega)), fun x hx => (k.2 x hx).elim (fun hg => h.2 x hg) (fun hs => .inr (Nat.le_trans h.1.size hs))⟩
theorem Goes.upd {F G : List Nat} {a b c : World} (h : Goes F G a b) (k : Upd [] b c) : Goes F G a c := ⟨h.1.trans k (by simp), h.2⟩
theorem Goes.after {F G : List Nat} {a b c : World} (k : Upd [] a b) (h : Goes F G b c) : Goes F G a c :=
  ⟨(k.mono (by simp)).trans h.1 (fun _ hx _ => hx), fun x hx => (h.2 x hx).imp id (fun hs => Nat.le_trans k.size hs)⟩

theorem goes_of {F F' : List Nat} {w wc W2 w' : World} (hU : Upd F w wc) (h2 : Upd [] wc W2) (hG : Goes F F' W2 w') : Goes F F' w w' :=
  ⟨(hU.trans h2 (by simp)).trans hG.1 (fun _ hx _ => hx), fun x hx => (hG.2 x hx).imp id (fun h => Nat.le_trans (Nat.le_trans hU.size h2.size) h)⟩
theorem Mem.lt {F : List Nat} {p bw bm : Nat} {s : St} {w : World} (h : Mem F p bw bm s w) : ∀ x ∈ F, x < w.heap.size := by
  obtain ⟨vl, rfl, hp, hw, hm, hl⟩ := h
  intro x hx
  simp only [List.mem_cons] at hx
  rcases hx with rfl | rfl | rfl | hx
  · exact lt_block hp
  · exact lt_block hw
  · exact lt_block hm
  · exact (hl.lt x (toList_of hx)).2
theorem Mem.keep {F S : List Nat} {p bw bm : Nat} {s : St} {w w' : World} (h : Mem F p bw bm s w) (hu : Upd S w w') (hd : ∀ x ∈ F, x ∉ S) : Mem F p bw bm s w' := by
  obtain ⟨vl, rfl, hp, hw, hm, hl⟩ := h
  refine ⟨vl, rfl, hu.at hp (hd _ (by simp)), hu.at hw (hd _ (by simp)), hu.at hm (hd _ (by simp)), hu.row hl fun k hk => hd k (by simp [hk])⟩
theorem Mem.stay {F : List Nat} {p bw bm : Nat} {s : St} {w w' : World} (h : Mem F p bw bm s w) (hu : Upd [] w w') : Mem F p bw bm s w' := h.keep hu (by simp)

theorem getElem_ocells (ms : List (Bool × Int)) (k : Nat) (h : k < ms.length) : (ms.flatMap ocells)[k * 2]? = some (.bool ms[k].1) ∧ (ms.flatMap ocells)[k * 2 + 1]? = some (.int .i64 ms[k].2) := by
  induction ms generalizing k with
  | nil => simp at h
  | cons a r ih =>
    cases k with
    | zero => simp [ocells]
    | succ k =>
      have := ih k (by simpa using h)
      simp only [List.flatMap_cons, ocells, Nat.succ_mul, List.getElem_cons_succ]
      exact this

theorem Mem.cells {F : List Nat} {p bw bm : Nat} {s : St} {w : World} (h : Mem F p bw bm s w) :
    ∃ vl, w.cell? ⟨p, 0, none⟩ = some vl ∧ w.cell? ⟨p, 1, none⟩ = some (.slice (some ⟨bw, 0, none⟩) s.ws.length s.ws.length) ∧ w.cell? ⟨p, 2, none⟩ = some (.slice (some ⟨bm, 0, none⟩) s.ms.length s.ms.length) ∧ w.cell? ⟨p, 3, none⟩ = some (.int .i64 s.v) := by
  obtain ⟨vl, rfl, hp, hw, hm, hl⟩ := h
  exact ⟨vl, by simp [cell_block hp], by simp [cell_block hp], by simp [cell_block hp], by simp [cell_block hp]⟩
theorem Mem.free {F : List Nat} {p bw bm : Nat} {s : St} {w : World} (h : Mem F p bw bm s w) (o : Nat) : w.frozen? ⟨p, o, none⟩ = false ∧ w.frozen? ⟨bw, o, none⟩ = false ∧ w.frozen? ⟨bm, o, none⟩ = false := by
  obtain ⟨vl, rfl, hp, hw, hm, hl⟩ := h
  exact ⟨free_block hp _, free_block hw _, free_block hm _⟩
theorem Mem.word {F : List Nat} {p bw bm : Nat} {s : St} {w : World} (h : Mem F p bw bm s w) {k : Nat} (hk : k < s.ws.length) : w.cell? ⟨bw, k, none⟩ = some (.int .i64 s.ws[k]) := by
  obtain ⟨vl, rfl, hp, hw, hm, hl⟩ := h
  simp [cell_block hw, hk]
theorem Mem.owner {F : List Nat} {p bw bm : Nat} {s : St} {w : World} (h : Mem F p bw bm s w) {k : Nat} (hk : k < s.ms.length) : w.cell? ⟨bm, k * 2, none⟩ = some (.bool s.ms[k].1) ∧ w.cell? ⟨bm, k * 2 + 1, none⟩ = some (.int .i64 s.ms[k].2) := by
  obtain ⟨vl, rfl, hp, hw, hm, hl⟩ := h
  have := getElem_ocells s.ms k hk
  exact ⟨by simp [cell_block hm, this.1], by simp [cell_block hm, this.2]⟩

theorem Mem.setWord {F : List Nat} {p bw bm : Nat} {s : St} {w : World} (h : Mem F p bw bm s w) (k : Nat) (x : Int) : Mem F p bw bm { s with ws := s.ws.set k x } (w.setCell ⟨bw, k, none⟩ (.int .i64 x)) := by
  obtain ⟨vl, rfl, hp, hw, hm, hl⟩ := h
  have h1 := ne_block hp hw (by decide)
  have h2 := ne_block hm hw (by decide)
  refine ⟨vl, rfl, ?_, ?_, ?_, ?_⟩
  · rw [Below.heap_setCell _ _ _ _ h1, hp]; simp
  · rw [setCell_block hw]; simp
  · rw [Below.heap_setCell _ _ _ _ h2, hm]
  · exact row_setCell hl (ne_own hw hl (by decide)) _
theorem set_ocells (ms : List (Bool × Int)) (k : Nat) (o : Bool × Int) : ((ms.flatMap ocells).set (k * 2) (.bool o.1)).set (k * 2 + 1) (.int .i64 o.2) = (ms.set k o).flatMap ocells := by
  induction ms generalizing k with
  | nil => simp
  | cons a r ih =>
    cases k with
    | zero => simp [ocells]
    | succ k =>
      have := ih k
      simp only [List.flatMap_cons, ocells, Nat.succ_mul, List.set_cons_succ, List.cons_append, List.nil_append]
      rw [this]
theorem Mem.setOwner {F : List Nat} {p bw bm : Nat} {s : St} {w : World} (h : Mem F p bw bm s w) (k : Nat) (o : Bool × Int) :
    Mem F p bw bm { s with ms := s.ms.set k o } ((w.setCell ⟨bm, k * 2, none⟩ (.bool o.1)).setCell ⟨bm, k * 2 + 1, none⟩ (.int .i64 o.2)) := by
  obtain ⟨vl, rfl, hp, hw, hm, hl⟩ := h
  have h1 := ne_block hp hm (by decide)
  have h2 := ne_block hw hm (by decide)
  have h3 := ne_own hm hl (by decide)
  refine ⟨vl, rfl, ?_, ?_, ?_, ?_⟩
  · rw [Below.heap_setCell _ _ _ _ h1, Below.heap_setCell _ _ _ _ h1, hp]; simp
  · rw [Below.heap_setCell _ _ _ _ h2, Below.heap_setCell _ _ _ _ h2, hw]
  · rw [setCell_block (setCell_block hm _)]
    simp [← set_ocells]
  · exact row_setCell (row_setCell hl h3 _) h3 _
theorem Mem.setV {F : List Nat} {p bw bm : Nat} {s : St} {w : World} (h : Mem F p bw bm s w) (x : Int) : Mem F p bw bm { s with v := x } (w.setCell ⟨p, 3, none⟩ (.int .i64 x)) := by
  obtain ⟨vl, rfl, hp, hw, hm, hl⟩ := h
  refine ⟨vl, rfl, ?_, ?_, ?_, ?_⟩
  · rw [setCell_block hp]; simp
  · rw [Below.heap_setCell _ _ _ _ (ne_block hw hp (by decide)), hw]
  · rw [Below.heap_setCell _ _ _ _ (ne_block hm hp (by decide)), hm]
  · exact row_setCell hl (ne_own hp hl (by decide)) _

theorem record_mem {F : List Nat} {p bw bm : Nat} {s : St} {w : World} (h : Mem F p bw bm s w) (hs : s.log.length ≤ 1000000) (t k i x y : Int) (ok : Bool) :
    Calls Try.prog 42 #[.pointer (some ⟨p, 0, none⟩), .agg #[.int .i64 t, .int .i64 k, .int .i64 i, .int .i64 x, .int .i64 y, .bool ok]] w fun e w' =>
      e = .returned (.tuple #[]) ∧ ∃ F', Mem F' p bw bm { s with log := s.log ++ [⟨t, k, i, x, y, ok⟩] } w' ∧ Goes F F' w w' := by
  obtain ⟨vl, rfl, hp, hw, hm, hl⟩ := h
  refine (record_any p _ vl _ _ t k i x y ok w hp rfl hl hs).mono ?_
  rintro e w' ⟨rfl, g, cap, ho, hp', hu, hg⟩
  refine ⟨rfl, _, ⟨.slice (some ⟨g, 0, none⟩) (s.log.length + 1) cap, rfl, by simpa using hp', ?_, ?_, by simpa [Acc.cells] using ho⟩, ?_, ?_⟩
  · exact hu.at hw (by simp only [List.mem_cons, not_or]; exact ⟨ne_block hw hp (by decide), fun h => ne_own hw hl (by decide) (toList_of h)⟩)
  · exact hu.at hm (by simp only [List.mem_cons, not_or]; exact ⟨ne_block hm hp (by decide), fun h => ne_own hm hl (by decide) (toList_of h)⟩)
  · exact hu.mono (by intro x hx; simp only [List.mem_cons] at hx ⊢; rcases hx with rfl | hx; exact .inl rfl; exact .inr (.inr (.inr hx)))
  · intro x hx
    simp only [List.mem_cons] at hx ⊢
    rcases hx with rfl | rfl | rfl | hx
    · simp
    · simp
    · simp
    · simp [Value.ownBlock] at hx
      subst hx
      rcases hg with hg | hg
      · exact .inl (.inr (.inr (.inr (by simp [hg]))))
      · exact .inr hg
end Go.Proofs.Ytbalfkdeemgclaa
