
/- Arguments opened: a slice of structs whose fields take one cell each. Plain facts on readings. -/
import Derived.Test.YtmfnfinbkdemkaaGreatRows
import Derived.ProofKit
import Derived.OpenShut
import Derived.Deep.Slices
import Derived.Deep.Fields
namespace Go.Proofs.YtmfnfinbkdemkaaGreat
open Go.ChangeShapes Go.WideShapes Go.ChangeAt Go.RowKit Go.Deep

theorem wf_u8 {n : Int} (h : (Lit.int .u8 n).wf = true) : 0 ≤ n ∧ n < 256 := by
  have := bounds_u8 h
  omega
section
variable {H : Type} {enc : TypeId × Value → H} {P : Program} {w : World}
theorem slice_fields {t e : TypeId} {fs : Array Field} {a : Option Addr} {len cap : Nat} {d : DataW H} {ps : List MemPlace} (ht : P.underlying t = some (.slice e)) (he : P.underlying e = some (.struct fs))
    (hone : oneCellFields P fs = true) (hC : P.cellsOf e = fs.size) (h0 : 0 < fs.size) (h : DataW.Trod enc P w 0 (fun _ => true) true t (.slice a len cap) d ps) :
    len ≤ maxLen ∧ ∀ i, i < len → ∃ b off n, a = some ⟨b, off, none⟩ ∧ ∀ j f, fs[j]? = some f → ∃ v y, w.cell? ⟨b, off + i * fs.size + j, none⟩ = some v ∧ DataW.trod enc P w 0 (fun _ => true) true n f.type [v] = some y := by
  obtain ⟨fuel, hf⟩ := h
  rcases open_slice ht hf with ⟨hcs, _⟩ | ⟨a', len', cap', m, n, D, Pl, hcs, _, hl, hm, hmm, _, hx⟩
  · simp [Value.cells] at hcs
    obtain ⟨rfl, rfl, rfl⟩ := hcs
    exact ⟨by decide, fun i hi => absurd hi (by omega)⟩
  · simp [Value.cells] at hcs
    obtain ⟨rfl, rfl, rfl⟩ := hcs
    refine ⟨by omega, fun i hi => ?_⟩
    obtain ⟨cs, hc, htr⟩ := hx i (by rw [hmm]; simp; omega)
    obtain ⟨ys, n', _, _, _, hyl, hfld⟩ := DataW.trod_struct he htr
    obtain ⟨_, hlen, hat⟩ := World.cells?_some hc
    rw [hC] at hlen hat
    obtain ⟨b, off, spot⟩ := a'
    have hspot : spot = none := by
      obtain ⟨cs0, hc0, _⟩ := hx 0 (by rw [hmm]; simp; omega)
      obtain ⟨_, hl0, hat0⟩ := World.cells?_some hc0
      rw [hC] at hl0 hat0
      have := hat0 0 h0
      rw [List.getElem?_eq_getElem (by omega)] at this
      simpa [Addr.add] using World.cell?_spot this
    subst hspot
    refine ⟨b, off, n', rfl, fun j f hj => ?_⟩
    obtain ⟨ho, hk⟩ := hone_of hone j f hj
    have hjl : j < fs.size := (Array.getElem?_eq_some_iff.1 hj).1
    have hr := hfld j f hj
    rw [ho, hk, List.drop_eq_getElem_cons (show j < cs.length by omega), List.take_succ_cons, List.take_zero, List.getElem?_eq_getElem (show j < ys.length by omega)] at hr
    refine ⟨_, _, ?_, hr⟩
    have h2 := hat j hjl
    rw [add_add, add_plain, List.getElem?_eq_getElem (by omega)] at h2
    rw [← h2, Nat.add_assoc]
theorem agg_fields {r : Reach} {b0 : Nat} {t : TypeId} {fs : Array Field} {v : Value} {d : DataW H} {ps : List MemPlace} (hs : P.underlying t = some (.struct fs)) (hone : oneCellFields P fs = true) (hC : P.cellsOf t = fs.size)
    (hv : Value.okWide P w r b0 t v) (h : DataW.Trod enc P w 0 (fun _ => true) true t v d ps) :
    ∃ (cs : List Value) (n : Nat), v = .agg cs.toArray ∧ cs.length = fs.size ∧ ∀ (j : Nat) (f : Field), fs[j]? = some f → ∃ x y, cs[j]? = some x ∧ DataW.trod enc P w 0 (fun _ => true) true n f.type [x] = some y := by
  obtain ⟨cs, rfl, hsz⟩ := okWide_struct hs hv
  obtain ⟨fuel, hf⟩ := h
  obtain ⟨ys, n, _, _, _, hyl, hfld⟩ := DataW.trod_struct hs hf
  simp only [Value.cells] at hfld
  have hcl : cs.toList.length = fs.size := by simpa using hsz.trans hC
  refine ⟨cs.toList, n, by simp, hcl, fun j f hj => ?_⟩
  obtain ⟨ho, hk⟩ := hone_of hone j f hj
  have hjl : j < fs.size := (Array.getElem?_eq_some_iff.1 hj).1
  have hr := hfld j f hj
  rw [ho, hk, List.drop_eq_getElem_cons (show j < cs.toList.length by omega), List.take_succ_cons, List.take_zero, List.getElem?_eq_getElem (show j < ys.length by omega)] at hr
  exact ⟨_, _, List.getElem?_eq_getElem _, hr⟩
theorem trod_lt_of {t : TypeId} {v : Value} {d : DataW H} {ps : List MemPlace} (k : DataW.Trod enc P w 0 (fun _ => true) true t v d ps) : ∀ x ∈ ps, x.block < w.heap.size := by
  obtain ⟨m, hm⟩ := k
  exact DataW.trod_lt m _ _ _ hm
end
end Go.Proofs.YtmfnfinbkdemkaaGreat
