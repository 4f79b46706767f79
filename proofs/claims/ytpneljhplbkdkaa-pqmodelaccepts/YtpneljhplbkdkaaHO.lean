
/- Arguments of layer 10 opened: integers, events, steps, models, results, slices of steps. -/
import Derived.Test.YtpneljhplbkdkaaO
import Derived.Test.YtpneljhplbkdkaaAQ
namespace Go.Proofs.Ytpneljhplbkdkaa
open Go.ChangeShapes Go.WideShapes Go.ChangeAt Go.RowKit Go.Deep

theorem u8_bd {n : Int} (h : (Lit.int .u8 n).wf = true) : 0 ≤ n ∧ n < 256 := wf_u8 h
theorem u32_bd {n : Int} (h : (Lit.int .u32 n).wf = true) : 0 ≤ n ∧ n < 4294967296 := by
  have := bounds_u32 h
  exact ⟨by omega, by omega⟩
theorem own_knob : ownKnob Try.prog.godebug = none := by kernel_rfl
theorem laid_out : laidOutB Try.prog = true := by kernel_rfl
instance : Inhabited Ca := ⟨⟨0, 0, 0, 0, 0⟩⟩
instance : Inhabited St := ⟨⟨default, 0⟩⟩
instance : Inhabited En := ⟨⟨0, 0, 0, false⟩⟩
instance : Inhabited Ev := ⟨⟨0, 0⟩⟩
theorem row_of_each {α : Type} [Inhabited α] {L : Lay α} {w : World} {a : Option Addr} {len : Nat} (each : ∀ i, i < len → ∃ r : α, ∃ b off, a = some ⟨b, off, none⟩ ∧ ∀ t u, (L.enc r)[t]? = some u → w.cell? ⟨b, off + i * L.k + t, none⟩ = some u) :
    ∃ xs : List α, len = xs.length ∧ Row L w a xs := by
  have hch : ∃ f : Nat → α, ∀ i, i < len → ∃ b off, a = some ⟨b, off, none⟩ ∧ ∀ t u, (L.enc (f i))[t]? = some u → w.cell? ⟨b, off + i * L.k + t, none⟩ = some u := by
    classical
    exact ⟨fun i => if h : i < len then (each i h).choose else default, fun i hi => by simp only [hi, dif_pos]; exact (each i hi).choose_spec⟩
  obtain ⟨f, hf⟩ := hch
  refine ⟨(List.range len).map f, by simp, fun j hj => ?_⟩
  have hj' : j < len := by simpa using hj
  have := hf j hj'
  simpa using this
section
variable {H : Type} {enc : TypeId × Value → H} {w : World}
theorem one_fields {t : TypeId} {fs : Array Field} {cs : List Value} {fuel : Nat} {x : DataW H × List MemPlace} (hs : Try.prog.underlying t = some (.struct fs)) (hone : oneCellFields Try.prog fs = true) (hC : Try.prog.cellsOf t = fs.size) (h : DataW.trod enc Try.prog w 0 (fun _ => true) true fuel t cs = some x) :
    cs.length = fs.size ∧ ∃ n, ∀ (j : Nat) (f : Field), fs[j]? = some f → ∃ v y, cs[j]? = some v ∧ DataW.trod enc Try.prog w 0 (fun _ => true) true n f.type [v] = some y := by
  obtain ⟨ys, n, _, _, hl, hyl, hfld⟩ := DataW.trod_struct hs h
  rw [hC] at hl
  refine ⟨hl, n, fun j f hj => ?_⟩
  obtain ⟨ho, hk⟩ := hone_of hone j f hj
  have hjl : j < fs.size := (Array.getElem?_eq_some_iff.1 hj).1
  have hr := hfld j f hj
  rw [ho, hk, List.drop_eq_getElem_cons (show j < cs.length by omega), List.take_succ_cons, List.take_zero, List.getElem?_eq_getElem (show j < ys.length by omega)] at hr
  exact ⟨_, _, List.getElem?_eq_getElem _, hr⟩
/-- A slice whose elements each read as a record. -/
theorem rows_at {α : Type} [Inhabited α] {L : Lay α} {t e : TypeId} (ht : Try.prog.underlying t = some (.slice e)) (hC : Try.prog.cellsOf e = L.k)
    (hel : ∀ fuel cs x, DataW.trod enc Try.prog w 0 (fun _ => true) true fuel e cs = some x → ∃ r : α, cs = L.enc r) {fuel : Nat} {v : Value} {x : DataW H × List MemPlace} (h : DataW.trod enc Try.prog w 0 (fun _ => true) true fuel t [v] = some x) :
    ∃ s : SlR α, v = .slice s.ad s.l.length s.cap ∧ HasS L w s ∧ s.l.length ≤ maxLen := by
  rcases open_slice ht h with ⟨hcs, _⟩ | ⟨a', len', cap', m, n, D, Pl, hcs, _, hl, hm, hmm, _, hx⟩
  · simp at hcs
    exact ⟨⟨[], none, 0⟩, hcs, hasS_nil L w, by simp⟩
  · simp at hcs
    subst hcs
    obtain ⟨rs, e2, h1⟩ := row_of_each (L := L) (w := w) (a := some a') (len := len') (by
      intro i hi
      obtain ⟨cs, hc, htr⟩ := hx i (by rw [hmm]; simp; omega)
      obtain ⟨_, hlen, hat⟩ := World.cells?_some hc
      rw [hC] at hlen hat
      obtain ⟨r, rfl⟩ := hel _ _ _ htr
      obtain ⟨b, off, spot⟩ := a'
      have hk := L.pos
      have hspot : spot = none := by
        obtain ⟨cs0, hc0, _⟩ := hx 0 (by rw [hmm]; simp; omega)
        obtain ⟨_, hl0, hat0⟩ := World.cells?_some hc0
        rw [hC] at hl0 hat0
        have h0 := hat0 0 hk
        rw [List.getElem?_eq_getElem (by omega)] at h0
        simpa [Addr.add] using World.cell?_spot h0
      subst hspot
      refine ⟨r, b, off, rfl, fun t u hu => ?_⟩
      have h2 := hat t (L.lt hu)
      rw [add_add, add_plain, hu] at h2
      rw [← h2, Nat.add_assoc])
    subst e2
    exact ⟨⟨rs, some a', cap'⟩, rfl, ⟨h1, hl, fun e => by simp at e⟩, by simp only; omega⟩
set_option maxRecDepth 100000 in
theorem entry_at (fuel : Nat) (cs : List Value) (x : DataW H × List MemPlace) (h : DataW.trod enc Try.prog w 0 (fun _ => true) true fuel 49 cs = some x) : ∃ r : En, cs = LE.enc r := by
  obtain ⟨hl, n, hf⟩ := one_fields Try.underlying49 (by kernel_rfl) (by kernel_rfl) h
  match cs, hl with
  | [v0, v1, v2, v3], _ =>
    obtain ⟨u0, y0, c0, t0⟩ := hf 0 _ rfl
    obtain ⟨u1, y1, c1, t1⟩ := hf 1 _ rfl
    obtain ⟨u2, y2, c2, t2⟩ := hf 2 _ rfl
    obtain ⟨u3, y3, c3, t3⟩ := hf 3 _ rfl
    obtain ⟨x0, e0, _, _⟩ := DataW.trod_int Try.underlying3 t0
    obtain ⟨x1, e1, _, _⟩ := DataW.trod_int Try.underlying3 t1
    obtain ⟨x2, e2, _, _⟩ := DataW.trod_int Try.underlying3 t2
    obtain ⟨x3, e3, _⟩ := DataW.trod_bool Try.underlying4 t3
    simp only [List.cons.injEq, and_true] at e0 e1 e2 e3
    simp only [List.getElem?_cons_zero, List.getElem?_cons_succ, Option.some.injEq] at c0 c1 c2 c3
    subst e0 e1 e2 e3 c0 c1 c2 c3
    exact ⟨⟨x0, x1, x2, x3⟩, rfl⟩
set_option maxRecDepth 100000 in
theorem event_at (fuel : Nat) (cs : List Value) (x : DataW H × List MemPlace) (h : DataW.trod enc Try.prog w 0 (fun _ => true) true fuel 51 cs = some x) : ∃ r : Ev, cs = LV.enc r := by
  obtain ⟨hl, n, hf⟩ := one_fields Try.underlying51 (by kernel_rfl) (by kernel_rfl) h
  match cs, hl with
  | [v0, v1], _ =>
    obtain ⟨u0, y0, c0, t0⟩ := hf 0 _ rfl
    obtain ⟨u1, y1, c1, t1⟩ := hf 1 _ rfl
    obtain ⟨x0, e0, _, _⟩ := DataW.trod_int Try.underlying3 t0
    obtain ⟨x1, e1, _, _⟩ := DataW.trod_int Try.underlying3 t1
    simp only [List.cons.injEq, and_true] at e0 e1
    simp only [List.getElem?_cons_zero, List.getElem?_cons_succ, Option.some.injEq] at c0 c1
    subst e0 e1 c0 c1
    exact ⟨⟨x0, x1⟩, rfl⟩
theorem num_at (fuel : Nat) (cs : List Value) (x : DataW H × List MemPlace) (h : DataW.trod enc Try.prog w 0 (fun _ => true) true fuel 3 cs = some x) : ∃ r : Int, cs = LN.enc r := by
  obtain ⟨x0, e0, _, _⟩ := DataW.trod_int Try.underlying3 h
  exact ⟨x0, e0⟩
set_option maxRecDepth 100000 in
theorem call_at (fuel : Nat) (cs : List Value) (x : DataW H × List MemPlace) (h : DataW.trod enc Try.prog w 0 (fun _ => true) true fuel 28 cs = some x) : ∃ r : Ca, cs = [.int .i64 r.k, .int .i64 r.t, .int .i64 r.h, .int .i64 r.m, .int .i64 r.b] := by
  obtain ⟨hl, n, hf⟩ := one_fields Try.underlying28 (by kernel_rfl) (by kernel_rfl) h
  match cs, hl with
  | [v0, v1, v2, v3, v4], _ =>
    obtain ⟨u0, y0, c0, t0⟩ := hf 0 _ rfl
    obtain ⟨u1, y1, c1, t1⟩ := hf 1 _ rfl
    obtain ⟨u2, y2, c2, t2⟩ := hf 2 _ rfl
    obtain ⟨u3, y3, c3, t3⟩ := hf 3 _ rfl
    obtain ⟨u4, y4, c4, t4⟩ := hf 4 _ rfl
    obtain ⟨x0, e0, _, _⟩ := DataW.trod_int Try.underlying3 t0
    obtain ⟨x1, e1, _, _⟩ := DataW.trod_int Try.underlying3 t1
    obtain ⟨x2, e2, _, _⟩ := DataW.trod_int Try.underlying3 t2
    obtain ⟨x3, e3, _, _⟩ := DataW.trod_int Try.underlying3 t3
    obtain ⟨x4, e4, _, _⟩ := DataW.trod_int Try.underlying3 t4
    simp only [List.cons.injEq, and_true] at e0 e1 e2 e3 e4
    simp only [List.getElem?_cons_zero, List.getElem?_cons_succ, Option.some.injEq] at c0 c1 c2 c3 c4
    subst e0 e1 e2 e3 e4 c0 c1 c2 c3 c4
    exact ⟨⟨x0, x1, x2, x3, x4⟩, rfl⟩
set_option maxRecDepth 100000 in
theorem step_at (fuel : Nat) (cs : List Value) (x : DataW H × List MemPlace) (h : DataW.trod enc Try.prog w 0 (fun _ => true) true fuel 30 cs = some x) : ∃ r : St, cs = LP.enc r := by
  obtain ⟨ys, n, _, _, hl, hyl, hf⟩ := DataW.trod_struct Try.underlying30 h
  have hC : Try.prog.cellsOf 30 = 6 := by kernel_rfl
  have hC5 : Try.prog.cellsOf 28 = 5 := by kernel_rfl
  have hC1 : Try.prog.cellsOf 3 = 1 := by kernel_rfl
  rw [hC] at hl
  match cs, hl, ys, hyl with
  | [v0, v1, v2, v3, v4, v5], _, [y0, y1], _ =>
    have t0 : DataW.trod enc Try.prog w 0 (fun _ => true) true n 28 (([v0, v1, v2, v3, v4, v5].drop 0).take (Try.prog.cellsOf 28)) = [y0, y1][0]? := hf 0 _ rfl
    have t1 : DataW.trod enc Try.prog w 0 (fun _ => true) true n 3 (([v0, v1, v2, v3, v4, v5].drop 5).take (Try.prog.cellsOf 3)) = [y0, y1][1]? := hf 1 _ rfl
    rw [hC5] at t0
    rw [hC1] at t1
    obtain ⟨r, e0⟩ := call_at (w := w) (enc := enc) _ _ _ t0
    obtain ⟨x1, e1, _, _⟩ := DataW.trod_int Try.underlying3 t1
    simp at e0 e1
    obtain ⟨rfl, rfl, rfl, rfl, rfl⟩ := e0
    subst e1
    exact ⟨⟨r, x1⟩, rfl⟩
theorem steps_of {a : Option Addr} {len cap : Nat} {d : DataW H} {ps : List MemPlace} (h : DataW.Trod enc Try.prog w 0 (fun _ => true) true 26 (.slice a len cap) d ps) :
    ∃ rs : List St, len = rs.length ∧ rs.length ≤ maxLen ∧ Row LP w a rs := by
  obtain ⟨fuel, hf⟩ := h
  obtain ⟨⟨l, ad, c⟩, e, hs, hm⟩ := rows_at (L := LP) Try.underlying26 (by kernel_rfl) (fun fuel cs x h => step_at fuel cs x h) (fuel := fuel) (v := .slice a len cap) hf
  simp only [Value.slice.injEq] at e
  obtain ⟨rfl, rfl, rfl⟩ := e
  exact ⟨l, rfl, hm, hs.row⟩
theorem step_of {r : Go.Reach} {b0 : Nat} {v : Value} {d : DataW H} {ps : List MemPlace} (hv : Value.okWide Try.prog w r b0 30 v) (h : DataW.Trod enc Try.prog w 0 (fun _ => true) true 30 v d ps) :
    ∃ s : St, v = encS s := by
  obtain ⟨cs, rfl, hsz⟩ := okWide_struct Try.underlying30 hv
  obtain ⟨fuel, hf⟩ := h
  obtain ⟨s, e⟩ := step_at (w := w) (enc := enc) fuel _ _ hf
  simp only [Value.cells] at e
  exact ⟨s, congrArg Value.agg (Array.toList_inj.1 (by rw [e]; rfl))⟩
theorem event_of {r : Go.Reach} {b0 : Nat} {v : Value} {d : DataW H} {ps : List MemPlace} (hv : Value.okWide Try.prog w r b0 51 v) (h : DataW.Trod enc Try.prog w 0 (fun _ => true) true 51 v d ps) :
    ∃ s : Ev, v = .agg #[.int .i64 s.t, .int .i64 s.h] := by
  obtain ⟨cs, rfl, hsz⟩ := okWide_struct Try.underlying51 hv
  obtain ⟨fuel, hf⟩ := h
  obtain ⟨s, e⟩ := event_at (w := w) (enc := enc) fuel _ _ hf
  simp only [Value.cells] at e
  exact ⟨s, congrArg Value.agg (Array.toList_inj.1 (by rw [e]; rfl))⟩
set_option maxRecDepth 100000 in
theorem model_of {r : Go.Reach} {b0 : Nat} {v : Value} {d : DataW H} {ps : List MemPlace} (hv : Value.okWide Try.prog w r b0 25 v) (h : DataW.Trod enc Try.prog w 0 (fun _ => true) true 25 v d ps) :
    ∃ m : MdR, v = encM m ∧ HasM w m ∧ m.es.l.length ≤ maxLen ∧ m.is.l.length ≤ maxLen := by
  obtain ⟨cs, n, rfl, hl, hf⟩ := agg_fields Try.underlying25 (by kernel_rfl) (by kernel_rfl) hv h
  match cs, hl with
  | [v0, v1, v2, v3], _ =>
    obtain ⟨u0, y0, c0, t0⟩ := hf 0 _ rfl
    obtain ⟨u1, y1, c1, t1⟩ := hf 1 _ rfl
    obtain ⟨u2, y2, c2, t2⟩ := hf 2 _ rfl
    obtain ⟨u3, y3, c3, t3⟩ := hf 3 _ rfl
    obtain ⟨x0, e0, _, _⟩ := DataW.trod_int Try.underlying3 t0
    obtain ⟨x2, e2, _, _⟩ := DataW.trod_int Try.underlying3 t2
    obtain ⟨s1, e1, hs1, hm1⟩ := rows_at (L := LE) Try.underlying22 (by kernel_rfl) (fun fuel cs x h => entry_at fuel cs x h) t1
    obtain ⟨s3, e3, hs3, hm3⟩ := rows_at (L := LN) Try.underlying23 (by kernel_rfl) (fun fuel cs x h => num_at fuel cs x h) t3
    simp only [List.cons.injEq, and_true] at e0 e2
    simp only [List.getElem?_cons_zero, List.getElem?_cons_succ, Option.some.injEq] at c0 c1 c2 c3
    subst e0 e1 e2 e3 c0 c1 c2 c3
    exact ⟨⟨x0, s1, x2, s3⟩, rfl, ⟨hs1, hs3⟩, hm1, hm3⟩
set_option maxRecDepth 100000 in
theorem result_of {r : Go.Reach} {b0 : Nat} {v : Value} {d : DataW H} {ps : List MemPlace} (hv : Value.okWide Try.prog w r b0 34 v) (h : DataW.Trod enc Try.prog w 0 (fun _ => true) true 34 v d ps) :
    ∃ s : RsR, v = encR s ∧ HasS LV w s.ev ∧ s.ev.l.length ≤ maxLen := by
  obtain ⟨cs, n, rfl, hl, hf⟩ := agg_fields Try.underlying34 (by kernel_rfl) (by kernel_rfl) hv h
  match cs, hl with
  | [v0, v1, v2, v3], _ =>
    obtain ⟨u0, y0, c0, t0⟩ := hf 0 _ rfl
    obtain ⟨u1, y1, c1, t1⟩ := hf 1 _ rfl
    obtain ⟨u2, y2, c2, t2⟩ := hf 2 _ rfl
    obtain ⟨u3, y3, c3, t3⟩ := hf 3 _ rfl
    obtain ⟨x0, e0, _, _⟩ := DataW.trod_int Try.underlying31 t0
    obtain ⟨x1, e1, _, _⟩ := DataW.trod_int Try.underlying3 t1
    obtain ⟨x2, e2, _⟩ := DataW.trod_bool Try.underlying4 t2
    obtain ⟨s3, e3, hs3, hm3⟩ := rows_at (L := LV) Try.underlying32 (by kernel_rfl) (fun fuel cs x h => event_at fuel cs x h) t3
    simp only [List.cons.injEq, and_true] at e0 e1 e2
    simp only [List.getElem?_cons_zero, List.getElem?_cons_succ, Option.some.injEq] at c0 c1 c2 c3
    subst e0 e1 e2 e3 c0 c1 c2 c3
    exact ⟨⟨x0, x1, x2, s3⟩, rfl, hs3, hm3⟩
end
end Go.Proofs.Ytpneljhplbkdkaa
