/- Contract: the program's Len, a range over a function. -/
/- Contracts: the program's validShape, inBucket, Valid. -/
/- Contract: the program's Valid, a range over a function. -/
import Derived.Test.YtmfnfinbkdemkaaGreatUP
namespace Go.Proofs.YtmfnfinbkdemkaaGreat
open Go.RowKit Go.Shelf

theorem Upd.keepsFrom {S : List Nat} {W W' : World} {H : Nat} (hu : Upd S W W') (hS : ∀ x ∈ S, x < H) : KeepsFrom H W W' :=
  ⟨hu.size, fun i _ hB hi _ => hu.at hi (fun hx => by have := hS i hx; omega)⟩
theorem own_at {A B : World} {row : Option Nat} {H j : Nat} {c : Array Value} {e : TypeId} {f : Nat × Nat} (h : A.heap[j]? = some (.cells c e f)) (hg : A.grownBy B row) (hr : ∀ r, row = some r → H ≤ r ∧ ∃ o : Obj, A.heap[r]? = some o ∧ o.isCells = false) : B.heap[j]? = some (.cells c e f) := by
  rw [hg.block j (lt_block h) (fun he => ?_)]
  · exact h
  · obtain ⟨_, o, ho, hc⟩ := hr j he.symm
    rw [h] at ho
    cases ho
    simp [Obj.isCells] at hc
theorem own_upd {w A B : World} {row : Option Nat} {H : Nat} (h : Upd [] w A) (hw : w.heap.size ≤ H) (hg : A.grownBy B row) (hr : ∀ r, row = some r → H ≤ r ∧ ∃ o : Obj, A.heap[r]? = some o ∧ o.isCells = false) : Upd [] w B :=
  h.grown hg (fun k hk hl => by have := (hr k hk).1; omega)
theorem Upd.putObj {w A : World} {D : Nat} (h : Upd [] w A) (hD : w.heap.size ≤ D) (o : Obj) : Upd [] w (A.putObj D o) := h.grown (grownBy_putObj' A D o) (fun k hk hl => by cases hk; omega)
theorem upd_putObj (A : World) (D : Nat) (o : Obj) : Upd [D] A (A.putObj D o) := (Upd.refl [D] A).grown (grownBy_putObj' A D o) (fun k hk _ => by cases hk; simp)
theorem InBox.keep1 {B : Nat} {r : RgR} {w w' : World} {b : Nat} (h : InBox B r w) (hu : Upd [b] w w') (hB : B ≠ b) (ha : AvR r b) : InBox B r w' := ⟨hu.at h.1 (by simpa using hB), h.2.keep1 hu ha⟩
/-- The rung in its box is kept. -/
def KpB (B : Nat) (r : RgR) (A C : World) : Prop := InBox B r A → InBox B r C
theorem KpB.trans {B : Nat} {r : RgR} {A C D : World} (h : KpB B r A C) (k : KpB B r C D) : KpB B r A D := fun x => k (h x)
theorem KpB.put {B : Nat} {r : RgR} {w W : World} {l : Nat} (hr : HasR w r) (hB : B < w.heap.size) (hl : w.heap.size ≤ l) (o : Obj) : KpB B r W (W.putObj l o) := fun h => h.keep1 (upd_putObj W l o) (by omega) (hr.avoids hl)

def LI2 (w : World) (C H : Nat) (n : Nat) (pre : List (Px n)) (W : World) : Prop := W.heap[C]? = some (.cells #[.int .i64 (pre.length : Nat)] 3 (0, 0)) ∧ Upd [] w W ∧ H ≤ W.heap.size
theorem li_own (w : World) (C H n : Nat) (hw : w.heap.size ≤ H) : OwnFrom H (LI2 w C H n) := by
  intro pre A W' row ⟨h1, h2, h3⟩ hg hr
  exact ⟨own_at h1 hg hr, own_upd h2 hw hg hr, Nat.le_trans h3 hg.size⟩
def LX2 (n : Nat) (_ : Code) (_ : List (Px n)) (_ : World) : Prop := False
theorem lx_own (H n : Nat) (c : Code) : OwnFrom H (LX2 n c) := fun _ _ _ _ h _ _ => h
theorem ps_len {n : Nat} {bs : List (List It)} (hn : n = bs.length) {ys : List (Px n)} (h : pvs ys = allP bs n) : ys.length = lenL bs := by
  rw [← pvs_length, h, hn, allP_length bs _ (Nat.le_refl _), lenTo_all]

end Go.Proofs.YtmfnfinbkdemkaaGreat
namespace Go.Proofs.YtmfnfinbkdemkaaGreat
open Go.RowKit Go.Shelf

theorem shp_iff (r : RgR) : Shp r.rg ↔ (0 ≤ r.fr ∧ r.fr ≤ 1152921504606846976 ∧ 1 ≤ r.wd ∧ r.wd ≤ 144115188075855873 ∧ 0 ≤ r.cu ∧ r.cu ≤ 8 ∧ r.bk.l.length = 8) :=
  ⟨fun h => ⟨h.fr0, h.fr1, h.wd0, h.wd1, h.cu0, h.cu1, by have := h.len; simpa [RgR.rg, rowsOf_length] using this⟩, fun ⟨h1, h2, h3, h4, h5, h6, h7⟩ => ⟨h1, h2, h3, h4, h5, h6, by simpa [RgR.rg, rowsOf_length] using h7⟩⟩
open Classical in
noncomputable def shpB (r : Rg) : Bool := decide (Shp r)
theorem shpB_yes {r : Rg} (h : Shp r) : shpB r = true := by simp [shpB, h]
theorem shpB_no {r : Rg} (h : ¬ Shp r) : shpB r = false := by simp [shpB, h]
def inB (fr wd i t : Int) : Bool := decide (fr + i * wd ≤ t) && decide (t < fr + (i + 1) * wd)
end Go.Proofs.YtmfnfinbkdemkaaGreat
namespace Go.Proofs.YtmfnfinbkdemkaaGreat
open Go.RowKit Go.Shelf

def okP (r : Rg) (p : Nat × It) : Prop := r.cu ≤ (p.1 : Int) ∧ inB r.fr r.wd p.1 p.2.t = true
theorem inB_iff (r : Rg) (i : Nat) (it : It) : inB r.fr r.wd i it.t = true ↔ InB r i it := by
  simp only [inB, InB, Bool.and_eq_true, decide_eq_true_eq]
theorem good_okP {r : Rg} (h : Shp r) : GoodR r ↔ ∀ p ∈ allP r.bs 8, okP r p := by
  rw [good_iff]
  constructor
  · rintro ⟨_, hb⟩ ⟨i, it⟩ hp
    obtain ⟨hi, hm⟩ := mem_allP.1 hp
    obtain ⟨h1, h2⟩ := hb i hi
    refine ⟨?_, (inB_iff r i it).2 (h2 it hm)⟩
    have : ¬ (i : Int) < r.cu := fun hc => by rw [h1 hc] at hm; simp at hm
    simp only; omega
  · intro hp
    refine ⟨h, fun i hi => ⟨fun hc => ?_, fun it hm => (inB_iff r i it).1 (hp (i, it) (mem_allP.2 ⟨hi, hm⟩)).2⟩⟩
    cases hb : bAt r.bs i with
    | nil => rfl
    | cons x xs =>
      have := (hp (i, x) (mem_allP.2 ⟨hi, by rw [hb]; simp⟩)).1
      simp only at this
      omega
def VI (w : World) (r : RgR) (A C H0 : Nat) (n : Nat) (pre : List (Px n)) (W : World) : Prop :=
  W.heap[A]? = some (.cells (cellsR r) 93 (0, 0)) ∧ W.heap[C]? = some (.cells #[.bool false] 4 (0, 0)) ∧ Upd [] w W ∧ H0 ≤ W.heap.size ∧ ∀ p ∈ pvs pre, okP r.rg p
theorem vi_own (w : World) (r : RgR) (A C H0 n : Nat) (hw : w.heap.size ≤ H0) : OwnFrom H0 (VI w r A C H0 n) := by
  intro pre A W' row ⟨h0, h1, h2, h3, h4⟩ hg hr
  exact ⟨own_at h0 hg hr, own_at h1 hg hr, own_upd h2 hw hg hr, Nat.le_trans h3 hg.size, h4⟩
def VX (w : World) (r : RgR) (C : Nat) (n : Nat) (c : Code) (pre : List (Px n)) (W : World) : Prop :=
  c = .ret ∧ W.heap[C]? = some (.cells #[.bool false] 4 (0, 0)) ∧ Upd [] w W ∧ ∃ p ∈ pvs pre, ¬ okP r.rg p
theorem vx_own (w : World) (r : RgR) (C H0 n : Nat) (hw : w.heap.size ≤ H0) (c : Code) : OwnFrom H0 (VX w r C n c) := by
  intro pre A W' row ⟨h0, h1, h2, h3⟩ hg hr
  exact ⟨h0, own_at h1 hg hr, own_upd h2 hw hg hr, h3⟩

end Go.Proofs.YtmfnfinbkdemkaaGreat
