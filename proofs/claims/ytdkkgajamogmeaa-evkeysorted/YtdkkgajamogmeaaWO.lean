/- Arguments opened: slices of ints, items, events, slices of events. -/
import Derived.Test.YtdkkgajamogmeaaXG
import Derived.Test.YtdkkgajamogmeaaO
namespace Go.Proofs.Ytdkkgajamogmeaa
open Go.ChangeShapes Go.WideShapes Go.ChangeAt Go.RowKit Go.Deep

theorem own_knob : ownKnob Try.prog.godebug = none := by kernel_rfl
theorem laid_out : laidOutB Try.prog = true := by kernel_rfl

section
variable {H : Type} {enc : TypeId × Value → H} {w : World}
theorem ints_at {fuel : Nat} {v : Value} {x : DataW H × List MemPlace} (h : DataW.trod enc Try.prog w 0 (fun _ => true) true fuel 24 [v] = some x) :
    ∃ (a : Option Addr) (xs : List Int) (cap : Nat), v = .slice a xs.length cap ∧ xs.length ≤ maxLen ∧ Ints w a xs ∧ (a = none → cap = 0) := by
  rcases open_slice Try.underlying24 h with ⟨hcs, _⟩ | ⟨a', len', cap', m, n, D, Pl, hcs, _, hl, hm, hmm, _, hx⟩
  · simp at hcs
    exact ⟨none, [], 0, hcs, by decide, ints_nil _ _, fun _ => rfl⟩
  · simp at hcs
    subst hcs
    have hC : Try.prog.cellsOf 3 = 1 := by kernel_rfl
    have each : ∀ i, i < len' → ∃ r : Int, ∃ b off, a' = ⟨b, off, none⟩ ∧ w.cell? ⟨b, off + i, none⟩ = some (.int .i64 r) := by
      intro i hi
      obtain ⟨cs, hc, htr⟩ := hx i (by rw [hmm]; simp; omega)
      obtain ⟨x, rfl, _, hw⟩ := DataW.trod_int Try.underlying3 htr
      obtain ⟨_, hlen, hat⟩ := World.cells?_some hc
      have h0 := hat 0 (by rw [hC]; omega)
      rw [hC] at h0
      obtain ⟨b, off, spot⟩ := a'
      have hspot : spot = none := by
        obtain ⟨cs0, hc0, htr0⟩ := hx 0 (by rw [hmm]; simp; omega)
        obtain ⟨x0, rfl, _, _⟩ := DataW.trod_int Try.underlying3 htr0
        obtain ⟨_, _, hat0⟩ := World.cells?_some hc0
        have h1 := hat0 0 (by rw [hC]; omega)
        rw [hC] at h1
        have h2 : w.cell? ((Addr.add ⟨b, off, spot⟩ (0 * 1)).add 0) = some (.int .i64 x0) := by rw [h1]; rfl
        simpa [Addr.add] using World.cell?_spot h2
      subst hspot
      refine ⟨x, b, off, rfl, ?_⟩
      rw [add_add, add_plain] at h0
      simpa using h0
    have hch : ∃ f : Nat → Int, ∀ i, i < len' → ∃ b off, a' = ⟨b, off, none⟩ ∧ w.cell? ⟨b, off + i, none⟩ = some (.int .i64 (f i)) := by
      classical
      exact ⟨fun i => if h : i < len' then (each i h).choose else 0, fun i hi => by simp only [hi, dif_pos]; exact (each i hi).choose_spec⟩
    obtain ⟨f, hf⟩ := hch
    refine ⟨some a', (List.range len').map f, cap', by simp, by simp; omega, ?_, fun h => by simp at h⟩
    intro j hj
    have hj' : j < len' := by simpa using hj
    obtain ⟨b, off, rfl, hc⟩ := hf j hj'
    exact ⟨b, off, rfl, by simpa using hc⟩
theorem ints_of {v : Value} {d : DataW H} {ps : List MemPlace} (h : DataW.Trod enc Try.prog w 0 (fun _ => true) true 24 v d ps) (hv : ∃ a len cap, v = .slice a len cap) :
    ∃ (a : Option Addr) (xs : List Int) (cap : Nat), v = .slice a xs.length cap ∧ xs.length ≤ maxLen ∧ Ints w a xs ∧ (a = none → cap = 0) := by
  obtain ⟨fuel, hf⟩ := h
  obtain ⟨a, len, cap, rfl⟩ := hv
  exact ints_at (by simpa [Value.cells] using hf)
theorem item_of {r : Reach} {b0 : Nat} {v : Value} {d : DataW H} {ps : List MemPlace} (hv : Value.okWide Try.prog w r b0 23 v) (h : DataW.Trod enc Try.prog w 0 (fun _ => true) true 23 v d ps) :
    ∃ t s q : Int, v = .agg #[.int .i64 t, .int .i64 s, .int .i64 q] := by
  obtain ⟨cs, n, rfl, hl, hf⟩ := agg_fields Try.underlying23 (by kernel_rfl) (by kernel_rfl) hv h
  match cs, hl with
  | [v0, v1, v2], _ =>
    obtain ⟨u0, y0, c0, t0⟩ := hf 0 _ rfl
    obtain ⟨u1, y1, c1, t1⟩ := hf 1 _ rfl
    obtain ⟨u2, y2, c2, t2⟩ := hf 2 _ rfl
    obtain ⟨x0, e0, _, _⟩ := DataW.trod_int Try.underlying3 t0
    obtain ⟨x1, e1, _, _⟩ := DataW.trod_int Try.underlying3 t1
    obtain ⟨x2, e2, _, _⟩ := DataW.trod_int Try.underlying3 t2
    simp only [List.cons.injEq, and_true] at e0 e1 e2
    simp only [List.getElem?_cons_zero, List.getElem?_cons_succ, Option.some.injEq] at c0 c1 c2
    subst e0 e1 e2 c0 c1 c2
    exact ⟨x0, x1, x2, rfl⟩
/-- Six values read as an event's fields. -/
theorem ev_fields {n : Nat} {v0 v1 v2 v3 v4 v5 : Value} {y0 y1 y2 y3 y4 y5 : DataW H × List MemPlace} (t0 : DataW.trod enc Try.prog w 0 (fun _ => true) true n 3 [v0] = some y0) (t1 : DataW.trod enc Try.prog w 0 (fun _ => true) true n 24 [v1] = some y1) (t2 : DataW.trod enc Try.prog w 0 (fun _ => true) true n 3 [v2] = some y2)
    (t3 : DataW.trod enc Try.prog w 0 (fun _ => true) true n 3 [v3] = some y3) (t4 : DataW.trod enc Try.prog w 0 (fun _ => true) true n 3 [v4] = some y4) (t5 : DataW.trod enc Try.prog w 0 (fun _ => true) true n 3 [v5] = some y5) :
    ∃ r : EvR, Ints w r.ka r.ev.key ∧ v0 = .int .i64 r.ev.time ∧ v1 = .slice r.ka r.ev.key.length r.kc ∧ v2 = .int .i64 r.ev.lp ∧ v3 = .int .i64 r.ev.kind ∧ v4 = .int .i64 r.ev.proc ∧ v5 = .int .i64 r.ev.arg := by
  obtain ⟨x0, e0, _, _⟩ := DataW.trod_int Try.underlying3 t0
  obtain ⟨x2, e2, _, _⟩ := DataW.trod_int Try.underlying3 t2
  obtain ⟨x3, e3, _, _⟩ := DataW.trod_int Try.underlying3 t3
  obtain ⟨x4, e4, _, _⟩ := DataW.trod_int Try.underlying3 t4
  obtain ⟨x5, e5, _, _⟩ := DataW.trod_int Try.underlying3 t5
  obtain ⟨a, xs, cap, e1, _, hi, _⟩ := ints_at t1
  simp only [List.cons.injEq, and_true] at e0 e2 e3 e4 e5
  exact ⟨⟨⟨x0, xs, x2, x3, x4, x5⟩, a, cap⟩, hi, e0, e1, e2, e3, e4, e5⟩
theorem ev_of {r : Reach} {b0 : Nat} {v : Value} {d : DataW H} {ps : List MemPlace} (hv : Value.okWide Try.prog w r b0 30 v) (h : DataW.Trod enc Try.prog w 0 (fun _ => true) true 30 v d ps) :
    ∃ r : EvR, v = .agg (encR r).toArray ∧ Ints w r.ka r.ev.key := by
  obtain ⟨cs, n, rfl, hl, hf⟩ := agg_fields Try.underlying30 (by kernel_rfl) (by kernel_rfl) hv h
  match cs, hl with
  | [v0, v1, v2, v3, v4, v5], _ =>
    obtain ⟨u0, y0, c0, t0⟩ := hf 0 _ rfl
    obtain ⟨u1, y1, c1, t1⟩ := hf 1 _ rfl
    obtain ⟨u2, y2, c2, t2⟩ := hf 2 _ rfl
    obtain ⟨u3, y3, c3, t3⟩ := hf 3 _ rfl
    obtain ⟨u4, y4, c4, t4⟩ := hf 4 _ rfl
    obtain ⟨u5, y5, c5, t5⟩ := hf 5 _ rfl
    simp only [List.getElem?_cons_zero, List.getElem?_cons_succ, Option.some.injEq] at c0 c1 c2 c3 c4 c5
    subst c0 c1 c2 c3 c4 c5
    obtain ⟨r, hi, rfl, rfl, rfl, rfl, rfl, rfl⟩ := ev_fields t0 t1 t2 t3 t4 t5
    exact ⟨r, rfl, hi⟩
theorem evs_of {a : Option Addr} {len cap : Nat} {d : DataW H} {ps : List MemPlace} (h : DataW.Trod enc Try.prog w 0 (fun _ => true) true 25 (.slice a len cap) d ps) :
    ∃ rs : List EvR, len = rs.length ∧ rs.length ≤ maxLen ∧ Evs w a rs ∧ (a = none → cap = 0) := by
  have hnone : a = none → cap = 0 := by
    obtain ⟨fuel, hf⟩ := h
    rcases open_slice Try.underlying25 hf with ⟨hcs, _⟩ | ⟨a', len', cap', m, n, D, Pl, hcs, _⟩
    · simp [Value.cells] at hcs; exact fun _ => hcs.2.2
    · simp [Value.cells] at hcs; intro h; rw [h] at hcs; simp at hcs
  obtain ⟨hl, hx⟩ := slice_fields Try.underlying25 Try.underlying30 (by kernel_rfl) (by kernel_rfl) (by decide) h
  have each : ∀ i, i < len → ∃ r : EvR, Ints w r.ka r.ev.key ∧ ∃ b off, a = some ⟨b, off, none⟩ ∧
      w.cell? ⟨b, off + i * 6, none⟩ = some (.int .i64 r.ev.time) ∧ w.cell? ⟨b, off + i * 6 + 1, none⟩ = some (.slice r.ka r.ev.key.length r.kc) ∧ w.cell? ⟨b, off + i * 6 + 2, none⟩ = some (.int .i64 r.ev.lp) ∧
      w.cell? ⟨b, off + i * 6 + 3, none⟩ = some (.int .i64 r.ev.kind) ∧ w.cell? ⟨b, off + i * 6 + 4, none⟩ = some (.int .i64 r.ev.proc) ∧ w.cell? ⟨b, off + i * 6 + 5, none⟩ = some (.int .i64 r.ev.arg) := by
    intro i hi
    obtain ⟨b, off, n, ha, hf⟩ := hx i hi
    obtain ⟨v0, y0, c0, t0⟩ := hf 0 _ rfl
    obtain ⟨v1, y1, c1, t1⟩ := hf 1 _ rfl
    obtain ⟨v2, y2, c2, t2⟩ := hf 2 _ rfl
    obtain ⟨v3, y3, c3, t3⟩ := hf 3 _ rfl
    obtain ⟨v4, y4, c4, t4⟩ := hf 4 _ rfl
    obtain ⟨v5, y5, c5, t5⟩ := hf 5 _ rfl
    obtain ⟨r, hi, rfl, rfl, rfl, rfl, rfl, rfl⟩ := ev_fields t0 t1 t2 t3 t4 t5
    exact ⟨r, hi, b, off, ha, c0, c1, c2, c3, c4, c5⟩
  have hch : ∃ f : Nat → EvR, ∀ i, i < len → Ints w (f i).ka (f i).ev.key ∧ ∃ b off, a = some ⟨b, off, none⟩ ∧
      w.cell? ⟨b, off + i * 6, none⟩ = some (.int .i64 (f i).ev.time) ∧ w.cell? ⟨b, off + i * 6 + 1, none⟩ = some (.slice (f i).ka (f i).ev.key.length (f i).kc) ∧ w.cell? ⟨b, off + i * 6 + 2, none⟩ = some (.int .i64 (f i).ev.lp) ∧
      w.cell? ⟨b, off + i * 6 + 3, none⟩ = some (.int .i64 (f i).ev.kind) ∧ w.cell? ⟨b, off + i * 6 + 4, none⟩ = some (.int .i64 (f i).ev.proc) ∧ w.cell? ⟨b, off + i * 6 + 5, none⟩ = some (.int .i64 (f i).ev.arg) := by
    classical
    exact ⟨fun i => if h : i < len then (each i h).choose else default, fun i hi => by simp only [hi, dif_pos]; exact (each i hi).choose_spec⟩
  obtain ⟨f, hf⟩ := hch
  refine ⟨(List.range len).map f, by simp, by simpa using hl, ?_, hnone⟩
  intro j hj
  have hj' : j < len := by simpa using hj
  have := hf j hj'
  simpa using this
end
end Go.Proofs.Ytdkkgajamogmeaa
