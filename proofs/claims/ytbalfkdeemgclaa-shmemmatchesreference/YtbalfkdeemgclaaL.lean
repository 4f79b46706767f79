/- What the laws of layer 1 share: the raw operations as they lie in memory, and plain facts on a step. -/
import Derived.Test.YtbalfkdeemgclaaH
import Derived.Test.YtbalfkdeemgclaaD
import Derived.Deep.LoopGhost
namespace Go.Proofs.Ytbalfkdeemgclaa
open Go.RowKit

structure Rw where
  (k t i a b : Int)
structure Rw.Ok (r : Rw) : Prop where
  k0 : 0 ≤ r.k
  k1 : r.k < 256
  t0 : 0 ≤ r.t
  t1 : r.t < 256
  i0 : 0 ≤ r.i
  i1 : r.i < 256
/-- The slice at ad holds the raw operations rs. -/
def Raws (w : World) (ad : Option Addr) (rs : List Rw) : Prop :=
  ∀ j (h : j < rs.length), rs[j].Ok ∧ ∃ bl off, ad = some ⟨bl, off, none⟩ ∧ w.cell? ⟨bl, off + j * 5, none⟩ = some (.int .u8 rs[j].k) ∧ w.cell? ⟨bl, off + j * 5 + 1, none⟩ = some (.int .u8 rs[j].t) ∧
    w.cell? ⟨bl, off + j * 5 + 2, none⟩ = some (.int .u8 rs[j].i) ∧ w.cell? ⟨bl, off + j * 5 + 3, none⟩ = some (.int .i64 rs[j].a) ∧ w.cell? ⟨bl, off + j * 5 + 4, none⟩ = some (.int .i64 rs[j].b)
theorem Upd.cell {S : List Nat} {a b : World} (h : Upd S a b) {p : Addr} {v : Value} (hc : a.cell? p = some v) (hp : p.block ∉ S) : b.cell? p = some v :=
  (World.cell?_of_block (h.block p.block (World.block_lt_of_cell? a p hc) hp)).trans hc
theorem Raws.keep {w w' : World} {ad : Option Addr} {rs : List Rw} (h : Raws w ad rs) (hu : Upd [] w w') : Raws w' ad rs := by
  intro j hj
  obtain ⟨h0, bl, off, rfl, c0, c1, c2, c3, c4⟩ := h j hj
  exact ⟨h0, bl, off, rfl, hu.cell c0 (by simp), hu.cell c1 (by simp), hu.cell c2 (by simp), hu.cell c3 (by simp), hu.cell c4 (by simp)⟩
def Rw.op (r : Rw) : Oq := ⟨r.k % 7 + 1, r.t % 4, r.i % 6 - 1, r.a, r.b⟩

/-- A state of four words and four mutexes after at most n operations. -/
structure Four (n : Nat) (s : St) : Prop where
  ws : s.ws.length = 4
  ms : s.ms.length = 4
  log : s.log.length ≤ n
  v0 : 0 ≤ s.v
  v1 : s.v ≤ n
  held : ∀ j, (s.m j).1 = true → 0 ≤ (s.m j).2
theorem Four.small {n : Nat} {s : St} (h : Four n s) (hn : n ≤ 100000) : s.Small :=
  ⟨by rw [h.ws]; omega, by rw [h.ms]; omega, by have := h.log; omega, h.v0, by have := h.v1; omega⟩
theorem four_zero : Four 0 (zeroSt 4 4) := ⟨rfl, rfl, by simp [zeroSt], by simp [zeroSt], by simp [zeroSt], by
  intro j h
  exfalso
  simp only [St.m, zeroSt, List.getD_eq_getElem?_getD, List.getElem?_replicate] at h
  split at h <;> simp at h⟩
/-- What an operation does to the mutexes. -/
theorem ms_step (s : St) (o : Oq) : (s.step o).1.ms = if o.k = 5 ∧ (s.step o).2.2 = true then s.ms.set o.i.toNat (true, o.t) else if o.k = 6 ∧ (s.step o).2.2 = true then s.ms.set o.i.toNat (false, 0) else s.ms := by
  by_cases h4 : o.k ≤ 4
  · rw [if_neg (fun h => by have := h.1; omega), if_neg (fun h => by have := h.1; omega)]
    unfold St.step
    rw [if_pos h4]
    repeat' split
    all_goals rfl
  · unfold St.step
    rw [if_neg h4]
    by_cases hi : 0 ≤ o.i ∧ o.i < s.ms.length
    · rw [if_pos hi]
      by_cases h5 : o.k = 5
      · simp only [h5, if_true]
        by_cases hm : (s.m o.i).1 = true <;> simp [hm]
      · rw [if_neg h5]
        by_cases h6 : o.k = 6
        · simp only [h6, if_true]
          by_cases hm : s.m o.i = (true, o.t) <;> simp [hm]
        · rw [if_neg h6]
          by_cases hm : s.m o.i = (true, o.t) <;> simp [hm, h5, h6]
    · rw [if_neg hi]
      by_cases h6 : o.k ≤ 6 <;> simp [h6]
theorem ok_out (s : St) (o : Oq) (h : 5 ≤ o.k → ¬ (0 ≤ o.i ∧ o.i < s.ms.length)) (h' : o.k ≤ 4 → ¬ (0 ≤ o.i ∧ o.i < s.ws.length)) : (s.step o).2.2 = false := by
  unfold St.step
  by_cases h4 : o.k ≤ 4
  · rw [if_pos h4, if_neg (h' h4)]
  · rw [if_neg h4, if_neg (h (by omega))]
    split <;> rfl
theorem ok5 (s : St) (o : Oq) (hk : o.k = 5) (hi : 0 ≤ o.i ∧ o.i < s.ms.length) : (s.step o).2.2 = !(s.m o.i).1 := by
  unfold St.step
  rw [if_neg (by omega), if_pos hi, if_pos hk]
  by_cases hm : (s.m o.i).1 = true <;> simp [hm]
theorem ok67 (s : St) (o : Oq) (hk : o.k = 6 ∨ o.k = 7) (hi : 0 ≤ o.i ∧ o.i < s.ms.length) : (s.step o).2.2 = decide (s.m o.i = (true, o.t)) := by
  unfold St.step
  rw [if_neg (by omega), if_pos hi, if_neg (by omega)]
  by_cases hm : s.m o.i = (true, o.t) <;> rcases hk with h | h <;> simp [hm, h]
theorem Four.step {n : Nat} {s : St} (h : Four n s) (o : Oq) (ht : 0 ≤ o.t) : Four (n + 1) (s.step o).1 := by
  have hw : (s.step o).1.ws.length = 4 := by
    have := h.ws
    unfold St.step
    repeat' split
    all_goals simpa using this
  have hm : (s.step o).1.ms.length = 4 := by
    rw [ms_step]
    have := h.ms
    repeat' split
    all_goals simpa using this
  have hl : (s.step o).1.log.length ≤ n + 1 := by
    have := h.log
    unfold St.step
    repeat' split
    all_goals (simp; try omega)
  have hv : 0 ≤ (s.step o).1.v ∧ (s.step o).1.v ≤ ((n + 1 : Nat) : Int) := by
    have h0 := h.v0
    have h1 := h.v1
    unfold St.step
    repeat' split
    all_goals (constructor <;> simp <;> omega)
  refine ⟨hw, hm, hl, hv.1, hv.2, ?_⟩
  intro j hj
  have hms := ms_step s o
  have e : ∀ (s' : St) (l : List (Bool × Int)), s'.ms = l → s'.m j = l.getD j.toNat (false, 0) := fun s' l hl => by rw [St.m, hl]
  rw [e _ _ hms] at hj ⊢
  by_cases c1 : o.k = 5 ∧ (s.step o).2.2 = true
  · rw [if_pos c1] at hj ⊢
    simp only [List.getD_eq_getElem?_getD, List.getElem?_set] at hj ⊢
    split at hj
    · rename_i he
      rw [if_pos he]
      split at hj
      · rename_i hl; rw [if_pos hl]; exact ht
      · simp at hj
    · rename_i he
      rw [if_neg he]
      exact h.held j (by simpa [St.m] using hj)
  · rw [if_neg c1] at hj ⊢
    by_cases c2 : o.k = 6 ∧ (s.step o).2.2 = true
    · rw [if_pos c2] at hj ⊢
      simp only [List.getD_eq_getElem?_getD, List.getElem?_set] at hj ⊢
      split at hj
      · split at hj <;> simp at hj
      · rename_i he
        rw [if_neg he]
        exact h.held j (by simpa [St.m] using hj)
    · rw [if_neg c2] at hj ⊢
      exact h.held j hj
end Go.Proofs.Ytbalfkdeemgclaa
