/- Arguments opened: integers, slices of operations, one operation. -/
import Derived.Test.YtneodiemgemhfaaGreatO
import Derived.Test.YtneodiemgemhfaaGreatQA
namespace Go.Proofs.YtneodiemgemhfaaGreat
open Go.ChangeShapes Go.WideShapes Go.ChangeAt Go.RowKit Go.Deep

theorem u64_bd {n : Int} (h : (Lit.int .u64 n).wf = true) : U64 n := by
  have := bounds_u64 h
  exact ⟨by omega, by omega⟩
theorem own_knob : ownKnob Tryz.prog.godebug = none := by kernel_rfl
theorem laid_out : laidOutB Tryz.prog = true := by kernel_rfl
theorem row_of_each {α : Type} [Inhabited α] {L : Lay α} {w : World} {a : Option Addr} {Pd : α → Prop} {len : Nat} (each : ∀ i, i < len → ∃ r : α, Pd r ∧ ∃ b off, a = some ⟨b, off, none⟩ ∧ ∀ t u, (L.enc r)[t]? = some u → w.cell? ⟨b, off + i * L.k + t, none⟩ = some u) :
    ∃ xs : List α, len = xs.length ∧ Row L w a xs ∧ ∀ x ∈ xs, Pd x := by
  have hch : ∃ f : Nat → α, ∀ i, i < len → Pd (f i) ∧ ∃ b off, a = some ⟨b, off, none⟩ ∧ ∀ t u, (L.enc (f i))[t]? = some u → w.cell? ⟨b, off + i * L.k + t, none⟩ = some u := by
    classical
    exact ⟨fun i => if h : i < len then (each i h).choose else default, fun i hi => by simp only [hi, dif_pos]; exact (each i hi).choose_spec⟩
  obtain ⟨f, hf⟩ := hch
  refine ⟨(List.range len).map f, by simp, fun j hj => ?_, fun x hx => ?_⟩
  · have hj' : j < len := by simpa using hj
    have := (hf j hj').2
    simpa using this
  · obtain ⟨j, hj, rfl⟩ := List.mem_map.1 hx
    exact (hf j (by simpa using hj)).1
instance : Inhabited Ox := ⟨⟨false, 0, false⟩⟩
def aggX (o : Ox) : Value := .agg #[.bool o.p, .int .u64 o.a, .bool o.n]
theorem encX3 {w : World} {b o : Nat} {r : Ox} (c0 : w.cell? ⟨b, o, none⟩ = some (.bool r.p)) (c1 : w.cell? ⟨b, o + 1, none⟩ = some (.int .u64 r.a)) (c2 : w.cell? ⟨b, o + 2, none⟩ = some (.bool r.n)) : ∀ t u, (LX.enc r)[t]? = some u → w.cell? ⟨b, o + t, none⟩ = some u := by
  intro t u hu
  have ht := LX.lt hu
  have hk : LX.k = 3 := rfl
  rcases (show t = 0 ∨ t = 1 ∨ t = 2 by omega) with rfl | rfl | rfl
  · have h : some (Value.bool r.p) = some u := hu
    rw [← h]; exact c0
  · have h : some (Value.int .u64 r.a) = some u := hu
    rw [← h]; exact c1
  · have h : some (Value.bool r.n) = some u := hu
    rw [← h]; exact c2
section
variable {H : Type} {enc : TypeId × Value → H} {w : World}
theorem ops_of {a : Option Addr} {len cap : Nat} {d : DataW H} {ps : List MemPlace} (h : DataW.Trod enc Tryz.prog w 0 (fun _ => true) true 26 (.slice a len cap) d ps) :
    ∃ rs : List Ox, len = rs.length ∧ rs.length ≤ maxLen ∧ Row LX w a rs ∧ ∀ o ∈ rs, U64 o.a := by
  obtain ⟨hl, hx⟩ := slice_fields Tryz.underlying26 Tryz.underlying29 (by kernel_rfl) (by kernel_rfl) (by decide) h
  obtain ⟨rs, e, h1, h2⟩ := row_of_each (L := LX) (w := w) (a := a) (Pd := fun r => U64 r.a) (len := len) (by
    intro i hi
    obtain ⟨b, off, n, ha, hf⟩ := hx i hi
    obtain ⟨v0, y0, c0, t0⟩ := hf 0 _ rfl
    obtain ⟨v1, y1, c1, t1⟩ := hf 1 _ rfl
    obtain ⟨v2, y2, c2, t2⟩ := hf 2 _ rfl
    obtain ⟨x0, e0, _⟩ := DataW.trod_bool Tryz.underlying4 t0
    obtain ⟨x1, e1, _, w1⟩ := DataW.trod_int Tryz.underlying27 t1
    obtain ⟨x2, e2, _⟩ := DataW.trod_bool Tryz.underlying4 t2
    simp only [List.cons.injEq, and_true] at e0 e1 e2
    subst e0 e1 e2
    exact ⟨⟨x0, x1, x2⟩, u64_bd w1, b, off, ha, encX3 c0 c1 c2⟩)
  exact ⟨rs, e, by omega, h1, h2⟩
set_option maxRecDepth 100000 in
theorem op_of {r : Go.Reach} {b0 : Nat} {v : Value} {d : DataW H} {ps : List MemPlace} (hv : Value.okWide Tryz.prog w r b0 29 v) (h : DataW.Trod enc Tryz.prog w 0 (fun _ => true) true 29 v d ps) :
    ∃ r : Ox, v = aggX r ∧ U64 r.a := by
  obtain ⟨cs, n, rfl, hl, hf⟩ := agg_fields Tryz.underlying29 (by kernel_rfl) (by kernel_rfl) hv h
  match cs, hl with
  | [v0, v1, v2], _ =>
    obtain ⟨u0, y0, c0, t0⟩ := hf 0 _ rfl
    obtain ⟨u1, y1, c1, t1⟩ := hf 1 _ rfl
    obtain ⟨u2, y2, c2, t2⟩ := hf 2 _ rfl
    obtain ⟨x0, e0, _⟩ := DataW.trod_bool Tryz.underlying4 t0
    obtain ⟨x1, e1, _, w1⟩ := DataW.trod_int Tryz.underlying27 t1
    obtain ⟨x2, e2, _⟩ := DataW.trod_bool Tryz.underlying4 t2
    simp only [List.cons.injEq, and_true] at e0 e1 e2
    simp only [List.getElem?_cons_zero, List.getElem?_cons_succ, Option.some.injEq] at c0 c1 c2
    subst e0 e1 e2 c0 c1 c2
    exact ⟨⟨x0, x1, x2⟩, rfl, u64_bd w1⟩
end
end Go.Proofs.YtneodiemgemhfaaGreat
