
/- Contract: the program's Valid, a range over a function. -/
import Derived.Test.YtpabapjodcafkaaGreatUR
namespace Go.Proofs.YtpabapjodcafkaaGreat
open Go.RowKit Go.Shelf

def okP (r : Rg) (p : Nat × It) : Prop := r.cu ≤ (p.1 : Int) ∧ inB r.fr r.wd p.1 p.2.t = true
theorem inB_iff (r : Rg) (i : Nat) (it : It) : inB r.fr r.wd i it.t = true ↔ InB r i it := by
  simp only [inB, InB, Bool.and_eq_true, decide_eq_true_eq]
theorem good_okP {r : Rg} (h : Shp r) : GoodR r ↔ ∀ p ∈ allP r.bs 8, okP r p := by
  rw [good_iff]
  constructor
  · rintro ⟨_, hb⟩ ⟨i, it⟩ hp
    obtain ⟨hi, hm⟩ := mem_allP.1 hp
    obtain ⟨h1, h2⟩ := hb i hi
    refine ⟨?_, (inB_iff r i it).2 (h2 it hm)⟩
    have : ¬ (i : Int) < r.cu := fun hc => by rw [h1 hc] at hm; simp at hm
    simp only; omega
  · intro hp
    refine ⟨h, fun i hi => ⟨fun hc => ?_, fun it hm => (inB_iff r i it).1 (hp (i, it) (mem_allP.2 ⟨hi, hm⟩)).2⟩⟩
    cases hb : bAt r.bs i with
    | nil => rfl
    | cons x xs =>
      have := (hp (i, x) (mem_allP.2 ⟨hi, by rw [hb]; simp⟩)).1
      simp only at this
      omega
def VI (w : World) (r : RgR) (A C H0 : Nat) (n : Nat) (pre : List (Px n)) (W : World) : Prop :=
  W.heap[A]? = some (.cells (cellsR r) 59 (0, 0)) ∧ W.heap[C]? = some (.cells #[.bool false] 4 (0, 0)) ∧ Upd [] w W ∧ H0 ≤ W.heap.size ∧ ∀ p ∈ pvs pre, okP r.rg p
theorem vi_own (w : World) (r : RgR) (A C H0 n : Nat) (hw : w.heap.size ≤ H0) : OwnFrom H0 (VI w r A C H0 n) := by
  intro pre A W' row ⟨h0, h1, h2, h3, h4⟩ hg hr
  exact ⟨own_at h0 hg hr, own_at h1 hg hr, own_upd h2 hw hg hr, Nat.le_trans h3 hg.size, h4⟩
def VX (w : World) (r : RgR) (C : Nat) (n : Nat) (c : Code) (pre : List (Px n)) (W : World) : Prop :=
  c = .ret ∧ W.heap[C]? = some (.cells #[.bool false] 4 (0, 0)) ∧ Upd [] w W ∧ ∃ p ∈ pvs pre, ¬ okP r.rg p
theorem vx_own (w : World) (r : RgR) (C H0 n : Nat) (hw : w.heap.size ≤ H0) (c : Code) : OwnFrom H0 (VX w r C n c) := by
  intro pre A W' row ⟨h0, h1, h2, h3⟩ hg hr
  exact ⟨h0, own_at h1 hg hr, own_upd h2 hw hg hr, h3⟩

end Go.Proofs.YtpabapjodcafkaaGreat
