/- Arguments opened: a slice of operations of a script, one operation, bounds. -/
import Derived.Test.YthpofcomlidoiaaO
import Derived.Test.YthpofcomlidoiaaCT
namespace Go.Proofs.Ythpofcomlidoiaa
open Go.ChangeShapes Go.WideShapes Go.ChangeAt Go.RowKit Go.Deep

theorem u8_bd {n : Int} (h : (Lit.int .u8 n).wf = true) : 0 ≤ n ∧ n < 256 := by
  have := bounds_u8 h
  omega
theorem u32_bd {n : Int} (h : (Lit.int .u32 n).wf = true) : 0 ≤ n ∧ n < 4294967296 := by
  have := bounds_u32 h
  omega
theorem own_knob : ownKnob Try.prog.godebug = none := by kernel_rfl
theorem laid_out : laidOutB Try.prog = true := by kernel_rfl
theorem ops_of {H : Type} {enc : TypeId × Value → H} {w : World} {a : Option Addr} {len cap : Nat} {d : DataW H} {ps : List MemPlace} (h : DataW.Trod enc Try.prog w 0 (fun _ => true) true 26 (.slice a len cap) d ps) :
    ∃ rs : List Oz, len = rs.length ∧ rs.length ≤ maxLen ∧ Ozs w a rs := by
  obtain ⟨hl, hx⟩ := slice_fields Try.underlying26 Try.underlying28 (by kernel_rfl) (by kernel_rfl) (by decide) h
  have each : ∀ i, i < len → ∃ r : Oz, OzOk r ∧ ∃ bl off, a = some ⟨bl, off, none⟩ ∧ w.cell? ⟨bl, off + i * 4, none⟩ = some (.int .u8 r.k) ∧ w.cell? ⟨bl, off + i * 4 + 1, none⟩ = some (.int .i64 r.n) ∧
      w.cell? ⟨bl, off + i * 4 + 2, none⟩ = some (.int .u8 r.a) ∧ w.cell? ⟨bl, off + i * 4 + 3, none⟩ = some (.int .u8 r.b) := by
    intro i hi
    obtain ⟨b, off, n, ha, hf⟩ := hx i hi
    obtain ⟨v0, y0, c0, t0⟩ := hf 0 _ rfl
    obtain ⟨v1, y1, c1, t1⟩ := hf 1 _ rfl
    obtain ⟨v2, y2, c2, t2⟩ := hf 2 _ rfl
    obtain ⟨v3, y3, c3, t3⟩ := hf 3 _ rfl
    obtain ⟨x0, e0, _, w0⟩ := DataW.trod_int Try.underlying5 t0
    obtain ⟨x1, e1, _, w1⟩ := DataW.trod_int Try.underlying3 t1
    obtain ⟨x2, e2, _, w2⟩ := DataW.trod_int Try.underlying5 t2
    obtain ⟨x3, e3, _, w3⟩ := DataW.trod_int Try.underlying5 t3
    simp only [List.cons.injEq, and_true] at e0 e1 e2 e3
    subst e0 e1 e2 e3
    exact ⟨⟨x0, x1, x2, x3⟩, ⟨u8_bd w0, u8_bd w2, u8_bd w3⟩, b, off, ha, c0, c1, c2, c3⟩
  have hch : ∃ f : Nat → Oz, ∀ i, i < len → OzOk (f i) ∧ ∃ bl off, a = some ⟨bl, off, none⟩ ∧ w.cell? ⟨bl, off + i * 4, none⟩ = some (.int .u8 (f i).k) ∧ w.cell? ⟨bl, off + i * 4 + 1, none⟩ = some (.int .i64 (f i).n) ∧
      w.cell? ⟨bl, off + i * 4 + 2, none⟩ = some (.int .u8 (f i).a) ∧ w.cell? ⟨bl, off + i * 4 + 3, none⟩ = some (.int .u8 (f i).b) := by
    classical
    exact ⟨fun i => if h : i < len then (each i h).choose else ⟨0, 0, 0, 0⟩, fun i hi => by simp only [hi, dif_pos]; exact (each i hi).choose_spec⟩
  obtain ⟨f, hf⟩ := hch
  refine ⟨(List.range len).map f, by simp, by simpa using hl, ?_⟩
  intro j hj
  have hj' : j < len := by simpa using hj
  have := hf j hj'
  simpa using this
theorem op_of {H : Type} {enc : TypeId × Value → H} {w : World} {r : Go.Reach} {b0 : Nat} {v : Value} {d : DataW H} {ps : List MemPlace} (hv : Value.okWide Try.prog w r b0 28 v) (h : DataW.Trod enc Try.prog w 0 (fun _ => true) true 28 v d ps) :
    ∃ r : Oz, v = encO r ∧ OzOk r := by
  obtain ⟨cs, n, rfl, hl, hf⟩ := agg_fields Try.underlying28 (by kernel_rfl) (by kernel_rfl) hv h
  match cs, hl with
  | [v0, v1, v2, v3], _ =>
    obtain ⟨u0, y0, c0, t0⟩ := hf 0 _ rfl
    obtain ⟨u1, y1, c1, t1⟩ := hf 1 _ rfl
    obtain ⟨u2, y2, c2, t2⟩ := hf 2 _ rfl
    obtain ⟨u3, y3, c3, t3⟩ := hf 3 _ rfl
    obtain ⟨x0, e0, _, w0⟩ := DataW.trod_int Try.underlying5 t0
    obtain ⟨x1, e1, _, w1⟩ := DataW.trod_int Try.underlying3 t1
    obtain ⟨x2, e2, _, w2⟩ := DataW.trod_int Try.underlying5 t2
    obtain ⟨x3, e3, _, w3⟩ := DataW.trod_int Try.underlying5 t3
    simp only [List.cons.injEq, and_true] at e0 e1 e2 e3
    simp only [List.getElem?_cons_zero, List.getElem?_cons_succ, Option.some.injEq] at c0 c1 c2 c3
    subst e0 e1 e2 e3 c0 c1 c2 c3
    exact ⟨⟨x0, x1, x2, x3⟩, rfl, ⟨u8_bd w0, u8_bd w2, u8_bd w3⟩⟩
end Go.Proofs.Ythpofcomlidoiaa
