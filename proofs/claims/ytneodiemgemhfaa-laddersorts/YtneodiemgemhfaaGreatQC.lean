/- Arguments opened: a slice of structs whose fields take one cell each. Plain facts on readings. -/
/- Arguments opened: integers, slices of operations, one operation. -/
import Derived.Test.YtneodiemgemhfaaGreatRows
import Derived.ProofKit
import Derived.OpenShut
import Derived.Deep.Slices
import Derived.Deep.Fields
import Derived.Test.YtneodiemgemhfaaGreatQA
namespace Go.Proofs.YtneodiemgemhfaaGreat
open Go.ChangeShapes Go.WideShapes Go.ChangeAt Go.RowKit Go.Deep

theorem wf_u8 {n : Int} (h : (Lit.int .u8 n).wf = true) : 0 ≤ n ∧ n < 256 := by
  have := bounds_u8 h
  omega
section
variable {H : Type} {enc : TypeId × Value → H} {P : Program} {w : World}
theorem slice_fields {t e : TypeId} {fs : Array Field} {a : Option Addr} {len cap : Nat} {d : DataW H} {ps : List MemPlace} (ht : P.underlying t = some (.slice e)) (he : P.underlying e = some (.struct fs))
    (hone : oneCellFields P fs = true) (hC : P.cellsOf e = fs.size) (h0 : 0 < fs.size) (h : DataW.Trod enc P w 0 (fun _ => true) true t (.slice a len cap) d ps) :
    len ≤ maxLen ∧ ∀ i, i < len → ∃ b off n, a = some ⟨b, off, none⟩ ∧ ∀ j f, fs[j]? = some f → ∃ v y, w.cell? ⟨b, off + i * fs.size + j, none⟩ = some v ∧ DataW.trod enc P w 0 (fun _ => true) true n f.type [v] = some y := by
  obtain ⟨fuel, hf⟩ := h
  rcases open_slice ht hf with ⟨hcs, _⟩ | ⟨a', len', cap', m, n, D, Pl, hcs, _, hl, hm, hmm, _, hx⟩
  · simp [Value.cells] at hcs
    obtain ⟨rfl, rfl, rfl⟩ := hcs
    exact ⟨by decide, fun i hi => absurd hi (by omega)⟩
  · simp [Value.cells] at hcs
    obtain ⟨rfl, rfl, rfl⟩ := hcs
    refine ⟨by omega, fun i hi => ?_⟩
    obtain ⟨cs, hc, htr⟩ := hx i (by rw [hmm]; simp; omega)
    obtain ⟨ys, n', _, _, _, hyl, hfld⟩ := DataW.trod_struct he htr
    obtain ⟨_, hlen, hat⟩ := World.cells?_some hc
    rw [hC] at hlen hat
    obtain ⟨b, off, spot⟩ := a'
    have hspot : spot = none := by
      obtain ⟨cs0, hc0, _⟩ := hx 0 (by rw [hmm]; simp; omega)
      obtain ⟨_, hl0, hat0⟩ := World.cells?_some hc0
      rw [hC] at hl0 hat0
      have := hat0 0 h0
      rw [List.getElem?_eq_getElem (by omega)] at this
      simpa [Addr.add] using World.cell?_spot this
    subst hspot
    refine ⟨b, off, n', rfl, fun j f hj => ?_⟩
    obtain ⟨ho, hk⟩ := hone_of hone j f hj
    have hjl : j < fs.size := (Array.getElem?_eq_some_iff.1 hj).1
    have hr := hfld j f hj
    rw [ho, hk, List.drop_eq_getElem_cons (show j < cs.length by omega), List.take_succ_cons, List.take_zero, List.getElem?_eq_getElem (show j < ys.length by omega)] at hr
    refine ⟨_, _, ?_, hr⟩
    have h2 := hat j hjl
    rw [add_add, add_plain, List.getElem?_eq_getElem (by omega)] at h2
    rw [← h2, Nat.add_assoc]
theorem agg_fields {r : Reach} {b0 : Nat} {t : TypeId} {fs : Array Field} {v : Value} {d : DataW H} {ps : List MemPlace} (hs : P.underlying t = some (.struct fs)) (hone : oneCellFields P fs = true) (hC : P.cellsOf t = fs.size)
    (hv : Value.okWide P w r b0 t v) (h : DataW.Trod enc P w 0 (fun _ => true) true t v d ps) :
    ∃ (cs : List Value) (n : Nat), v = .agg cs.toArray ∧ cs.length = fs.size ∧ ∀ (j : Nat) (f : Field), fs[j]? = some f → ∃ x y, cs[j]? = some x ∧ DataW.trod enc P w 0 (fun _ => true) true n f.type [x] = some y := by
  obtain ⟨cs, rfl, hsz⟩ := okWide_struct hs hv
  obtain ⟨fuel, hf⟩ := h
  obtain ⟨ys, n, _, _, _, hyl, hfld⟩ := DataW.trod_struct hs hf
  simp only [Value.cells] at hfld
  have hcl : cs.toList.length = fs.size := by simpa using hsz.trans hC
  refine ⟨cs.toList, n, by simp, hcl, fun j f hj => ?_⟩
  obtain ⟨ho, hk⟩ := hone_of hone j f hj
  have hjl : j < fs.size := (Array.getElem?_eq_some_iff.1 hj).1
  have hr := hfld j f hj
  rw [ho, hk, List.drop_eq_getElem_cons (show j < cs.toList.length by omega), List.take_succ_cons, List.take_zero, List.getElem?_eq_getElem (show j < ys.length by omega)] at hr
  exact ⟨_, _, List.getElem?_eq_getElem _, hr⟩
theorem trod_lt_of {t : TypeId} {v : Value} {d : DataW H} {ps : List MemPlace} (k : DataW.Trod enc P w 0 (fun _ => true) true t v d ps) : ∀ x ∈ ps, x.block < w.heap.size := by
  obtain ⟨m, hm⟩ := k
  exact DataW.trod_lt m _ _ _ hm
end
end Go.Proofs.YtneodiemgemhfaaGreat
namespace Go.Proofs.YtneodiemgemhfaaGreat
open Go.ChangeShapes Go.WideShapes Go.ChangeAt Go.RowKit Go.Deep

theorem u64_bd {n : Int} (h : (Lit.int .u64 n).wf = true) : U64 n := by
  have := bounds_u64 h
  exact ⟨by omega, by omega⟩
theorem own_knob : ownKnob Tryz.prog.godebug = none := by kernel_rfl
theorem laid_out : laidOutB Tryz.prog = true := by kernel_rfl
theorem row_of_each {α : Type} [Inhabited α] {L : Lay α} {w : World} {a : Option Addr} {Pd : α → Prop} {len : Nat} (each : ∀ i, i < len → ∃ r : α, Pd r ∧ ∃ b off, a = some ⟨b, off, none⟩ ∧ ∀ t u, (L.enc r)[t]? = some u → w.cell? ⟨b, off + i * L.k + t, none⟩ = some u) :
    ∃ xs : List α, len = xs.length ∧ Row L w a xs ∧ ∀ x ∈ xs, Pd x := by
  have hch : ∃ f : Nat → α, ∀ i, i < len → Pd (f i) ∧ ∃ b off, a = some ⟨b, off, none⟩ ∧ ∀ t u, (L.enc (f i))[t]? = some u → w.cell? ⟨b, off + i * L.k + t, none⟩ = some u := by
    classical
    exact ⟨fun i => if h : i < len then (each i h).choose else default, fun i hi => by simp only [hi, dif_pos]; exact (each i hi).choose_spec⟩
  obtain ⟨f, hf⟩ := hch
  refine ⟨(List.range len).map f, by simp, fun j hj => ?_, fun x hx => ?_⟩
  · have hj' : j < len := by simpa using hj
    have := (hf j hj').2
    simpa using this
  · obtain ⟨j, hj, rfl⟩ := List.mem_map.1 hx
    exact (hf j (by simpa using hj)).1
instance : Inhabited Ox := ⟨⟨false, 0, false⟩⟩
def aggX (o : Ox) : Value := .agg #[.bool o.p, .int .u64 o.a, .bool o.n]
theorem encX3 {w : World} {b o : Nat} {r : Ox} (c0 : w.cell? ⟨b, o, none⟩ = some (.bool r.p)) (c1 : w.cell? ⟨b, o + 1, none⟩ = some (.int .u64 r.a)) (c2 : w.cell? ⟨b, o + 2, none⟩ = some (.bool r.n)) : ∀ t u, (LX.enc r)[t]? = some u → w.cell? ⟨b, o + t, none⟩ = some u := by
  intro t u hu
  have ht := LX.lt hu
  have hk : LX.k = 3 := rfl
  rcases (show t = 0 ∨ t = 1 ∨ t = 2 by omega) with rfl | rfl | rfl
  · have h : some (Value.bool r.p) = some u := hu
    rw [← h]; exact c0
  · have h : some (Value.int .u64 r.a) = some u := hu
    rw [← h]; exact c1
  · have h : some (Value.bool r.n) = some u := hu
    rw [← h]; exact c2
section
variable {H : Type} {enc : TypeId × Value → H} {w : World}
theorem ops_of {a : Option Addr} {len cap : Nat} {d : DataW H} {ps : List MemPlace} (h : DataW.Trod enc Tryz.prog w 0 (fun _ => true) true 26 (.slice a len cap) d ps) :
    ∃ rs : List Ox, len = rs.length ∧ rs.length ≤ maxLen ∧ Row LX w a rs ∧ ∀ o ∈ rs, U64 o.a := by
  obtain ⟨hl, hx⟩ := slice_fields Tryz.underlying26 Tryz.underlying29 (by kernel_rfl) (by kernel_rfl) (by decide) h
  obtain ⟨rs, e, h1, h2⟩ := row_of_each (L := LX) (w := w) (a := a) (Pd := fun r => U64 r.a) (len := len) (by
    intro i hi
    obtain ⟨b, off, n, ha, hf⟩ := hx i hi
    obtain ⟨v0, y0, c0, t0⟩ := hf 0 _ rfl
    obtain ⟨v1, y1, c1, t1⟩ := hf 1 _ rfl
    obtain ⟨v2, y2, c2, t2⟩ := hf 2 _ rfl
    obtain ⟨x0, e0, _⟩ := DataW.trod_bool Tryz.underlying4 t0
    obtain ⟨x1, e1, _, w1⟩ := DataW.trod_int Tryz.underlying27 t1
    obtain ⟨x2, e2, _⟩ := DataW.trod_bool Tryz.underlying4 t2
    simp only [List.cons.injEq, and_true] at e0 e1 e2
    subst e0 e1 e2
    exact ⟨⟨x0, x1, x2⟩, u64_bd w1, b, off, ha, encX3 c0 c1 c2⟩)
  exact ⟨rs, e, by omega, h1, h2⟩
set_option maxRecDepth 100000 in
theorem op_of {r : Go.Reach} {b0 : Nat} {v : Value} {d : DataW H} {ps : List MemPlace} (hv : Value.okWide Tryz.prog w r b0 29 v) (h : DataW.Trod enc Tryz.prog w 0 (fun _ => true) true 29 v d ps) :
    ∃ r : Ox, v = aggX r ∧ U64 r.a := by
  obtain ⟨cs, n, rfl, hl, hf⟩ := agg_fields Tryz.underlying29 (by kernel_rfl) (by kernel_rfl) hv h
  match cs, hl with
  | [v0, v1, v2], _ =>
    obtain ⟨u0, y0, c0, t0⟩ := hf 0 _ rfl
    obtain ⟨u1, y1, c1, t1⟩ := hf 1 _ rfl
    obtain ⟨u2, y2, c2, t2⟩ := hf 2 _ rfl
    obtain ⟨x0, e0, _⟩ := DataW.trod_bool Tryz.underlying4 t0
    obtain ⟨x1, e1, _, w1⟩ := DataW.trod_int Tryz.underlying27 t1
    obtain ⟨x2, e2, _⟩ := DataW.trod_bool Tryz.underlying4 t2
    simp only [List.cons.injEq, and_true] at e0 e1 e2
    simp only [List.getElem?_cons_zero, List.getElem?_cons_succ, Option.some.injEq] at c0 c1 c2
    subst e0 e1 e2 c0 c1 c2
    exact ⟨⟨x0, x1, x2⟩, rfl, u64_bd w1⟩
end
end Go.Proofs.YtneodiemgemhfaaGreat
