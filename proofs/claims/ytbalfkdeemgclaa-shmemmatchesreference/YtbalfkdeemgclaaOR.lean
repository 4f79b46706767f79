/- A slice of raw operations, opened. -/
import Derived.Test.YtbalfkdeemgclaaO
import Derived.Test.YtbalfkdeemgclaaL
namespace Go.Proofs.Ytbalfkdeemgclaa
open Go.ChangeShapes Go.WideShapes Go.ChangeAt Go.RowKit Go.Deep

theorem raws_of {H : Type} {enc : TypeId × Value → H} {w : World} {a : Option Addr} {len cap : Nat} {d : DataW H} {ps : List MemPlace} (h : DataW.Trod enc Try.prog w 0 (fun _ => true) true 22 (.slice a len cap) d ps) :
    ∃ rs : List Rw, len = rs.length ∧ rs.length ≤ maxLen ∧ Raws w a rs := by
  obtain ⟨hl, hx⟩ := slice_fields Try.underlying22 Try.underlying32 (by kernel_rfl) (by kernel_rfl) (by decide) h
  have each : ∀ i, i < len → ∃ r : Rw, r.Ok ∧ ∃ bl off, a = some ⟨bl, off, none⟩ ∧ w.cell? ⟨bl, off + i * 5, none⟩ = some (.int .u8 r.k) ∧ w.cell? ⟨bl, off + i * 5 + 1, none⟩ = some (.int .u8 r.t) ∧
      w.cell? ⟨bl, off + i * 5 + 2, none⟩ = some (.int .u8 r.i) ∧ w.cell? ⟨bl, off + i * 5 + 3, none⟩ = some (.int .i64 r.a) ∧ w.cell? ⟨bl, off + i * 5 + 4, none⟩ = some (.int .i64 r.b) := by
    intro i hi
    obtain ⟨b, off, n, ha, hf⟩ := hx i hi
    obtain ⟨v0, y0, c0, t0⟩ := hf 0 _ rfl
    obtain ⟨v1, y1, c1, t1⟩ := hf 1 _ rfl
    obtain ⟨v2, y2, c2, t2⟩ := hf 2 _ rfl
    obtain ⟨v3, y3, c3, t3⟩ := hf 3 _ rfl
    obtain ⟨v4, y4, c4, t4⟩ := hf 4 _ rfl
    obtain ⟨x0, e0, _, w0⟩ := DataW.trod_int Try.underlying5 t0
    obtain ⟨x1, e1, _, w1⟩ := DataW.trod_int Try.underlying5 t1
    obtain ⟨x2, e2, _, w2⟩ := DataW.trod_int Try.underlying5 t2
    obtain ⟨x3, e3, _, w3⟩ := DataW.trod_int Try.underlying3 t3
    obtain ⟨x4, e4, _, w4⟩ := DataW.trod_int Try.underlying3 t4
    simp only [List.cons.injEq, and_true] at e0 e1 e2 e3 e4
    subst e0 e1 e2 e3 e4
    exact ⟨⟨x0, x1, x2, x3, x4⟩, ⟨(wf_u8 w0).1, (wf_u8 w0).2, (wf_u8 w1).1, (wf_u8 w1).2, (wf_u8 w2).1, (wf_u8 w2).2⟩, b, off, ha, c0, c1, c2, c3, c4⟩
  have hch : ∃ f : Nat → Rw, ∀ i, i < len → (f i).Ok ∧ ∃ bl off, a = some ⟨bl, off, none⟩ ∧ w.cell? ⟨bl, off + i * 5, none⟩ = some (.int .u8 (f i).k) ∧ w.cell? ⟨bl, off + i * 5 + 1, none⟩ = some (.int .u8 (f i).t) ∧
      w.cell? ⟨bl, off + i * 5 + 2, none⟩ = some (.int .u8 (f i).i) ∧ w.cell? ⟨bl, off + i * 5 + 3, none⟩ = some (.int .i64 (f i).a) ∧ w.cell? ⟨bl, off + i * 5 + 4, none⟩ = some (.int .i64 (f i).b) := by
    classical
    exact ⟨fun i => if h : i < len then (each i h).choose else ⟨0, 0, 0, 0, 0⟩, fun i hi => by simp only [hi, dif_pos]; exact (each i hi).choose_spec⟩
  obtain ⟨f, hf⟩ := hch
  refine ⟨(List.range len).map f, by simp, by simpa using hl, ?_⟩
  intro j hj
  have hj' : j < len := by simpa using hj
  have := hf j hj'
  simpa using this
theorem raw_of {H : Type} {enc : TypeId × Value → H} {w : World} {r : Reach} {b0 : Nat} {v : Value} {d : DataW H} {ps : List MemPlace} (hv : Value.okWide Try.prog w r b0 32 v) (h : DataW.Trod enc Try.prog w 0 (fun _ => true) true 32 v d ps) :
    ∃ r : Rw, v = .agg #[.int .u8 r.k, .int .u8 r.t, .int .u8 r.i, .int .i64 r.a, .int .i64 r.b] ∧ r.Ok := by
  obtain ⟨cs, n, rfl, hl, hf⟩ := agg_fields Try.underlying32 (by kernel_rfl) (by kernel_rfl) hv h
  match cs, hl with
  | [v0, v1, v2, v3, v4], _ =>
    obtain ⟨u0, y0, c0, t0⟩ := hf 0 _ rfl
    obtain ⟨u1, y1, c1, t1⟩ := hf 1 _ rfl
    obtain ⟨u2, y2, c2, t2⟩ := hf 2 _ rfl
    obtain ⟨u3, y3, c3, t3⟩ := hf 3 _ rfl
    obtain ⟨u4, y4, c4, t4⟩ := hf 4 _ rfl
    obtain ⟨x0, e0, _, w0⟩ := DataW.trod_int Try.underlying5 t0
    obtain ⟨x1, e1, _, w1⟩ := DataW.trod_int Try.underlying5 t1
    obtain ⟨x2, e2, _, w2⟩ := DataW.trod_int Try.underlying5 t2
    obtain ⟨x3, e3, _, w3⟩ := DataW.trod_int Try.underlying3 t3
    obtain ⟨x4, e4, _, w4⟩ := DataW.trod_int Try.underlying3 t4
    simp only [List.cons.injEq, and_true] at e0 e1 e2 e3 e4
    simp only [List.getElem?_cons_zero, List.getElem?_cons_succ, Option.some.injEq] at c0 c1 c2 c3 c4
    subst e0 e1 e2 e3 e4 c0 c1 c2 c3 c4
    exact ⟨⟨x0, x1, x2, x3, x4⟩, rfl, ⟨(wf_u8 w0).1, (wf_u8 w0).2, (wf_u8 w1).1, (wf_u8 w1).2, (wf_u8 w2).1, (wf_u8 w2).2⟩⟩
end Go.Proofs.Ytbalfkdeemgclaa
