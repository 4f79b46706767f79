/- Arguments opened: integers, slices of operations, one operation, a rung. -/
import Derived.Test.YtmfijhophaeljaaO
import Derived.Test.YtmfijhophaeljaaUI
namespace Go.Proofs.Ytmfijhophaeljaa
open Go.ChangeShapes Go.WideShapes Go.ChangeAt Go.RowKit Go.Deep

theorem u64_bd {n : Int} (h : (Lit.int .u64 n).wf = true) : U64 n := by
  have := bounds_u64 h
  exact ⟨by omega, by omega⟩
theorem own_knob : ownKnob Try.prog.godebug = none := by kernel_rfl
theorem laid_out : laidOutB Try.prog = true := by kernel_rfl
theorem row_of_each {α : Type} [Inhabited α] {L : Lay α} {w : World} {a : Option Addr} {Pd : α → Prop} {len : Nat} (each : ∀ i, i < len → ∃ r : α, Pd r ∧ ∃ b off, a = some ⟨b, off, none⟩ ∧ ∀ t u, (L.enc r)[t]? = some u → w.cell? ⟨b, off + i * L.k + t, none⟩ = some u) :
    ∃ xs : List α, len = xs.length ∧ Row L w a xs ∧ ∀ x ∈ xs, Pd x := by
  have hch : ∃ f : Nat → α, ∀ i, i < len → Pd (f i) ∧ ∃ b off, a = some ⟨b, off, none⟩ ∧ ∀ t u, (L.enc (f i))[t]? = some u → w.cell? ⟨b, off + i * L.k + t, none⟩ = some u := by
    classical
    exact ⟨fun i => if h : i < len then (each i h).choose else default, fun i hi => by simp only [hi, dif_pos]; exact (each i hi).choose_spec⟩
  obtain ⟨f, hf⟩ := hch
  refine ⟨(List.range len).map f, by simp, fun j hj => ?_, fun x hx => ?_⟩
  · have hj' : j < len := by simpa using hj
    have := (hf j hj').2
    simpa using this
  · obtain ⟨j, hj, rfl⟩ := List.mem_map.1 hx
    exact (hf j (by simpa using hj)).1
instance : Inhabited Oz := ⟨⟨false, 0, 0⟩⟩
instance : Inhabited (SlR It) := ⟨⟨[], none, 0⟩⟩
theorem encO3 {w : World} {b o : Nat} {r : Oz} (c0 : w.cell? ⟨b, o, none⟩ = some (.bool r.n)) (c1 : w.cell? ⟨b, o + 1, none⟩ = some (.int .u64 r.a)) (c2 : w.cell? ⟨b, o + 2, none⟩ = some (.int .i64 r.q)) : ∀ t u, (LO.enc r)[t]? = some u → w.cell? ⟨b, o + t, none⟩ = some u := by
  intro t u hu
  have ht := LO.lt hu
  have hk : LO.k = 3 := rfl
  rcases (show t = 0 ∨ t = 1 ∨ t = 2 by omega) with rfl | rfl | rfl
  · have h : some (Value.bool r.n) = some u := hu
    rw [← h]; exact c0
  · have h : some (Value.int .u64 r.a) = some u := hu
    rw [← h]; exact c1
  · have h : some (Value.int .i64 r.q) = some u := hu
    rw [← h]; exact c2
theorem encI3 {w : World} {b o : Nat} {r : It} (c0 : w.cell? ⟨b, o, none⟩ = some (.int .i64 r.t)) (c1 : w.cell? ⟨b, o + 1, none⟩ = some (.int .i64 r.q)) (c2 : w.cell? ⟨b, o + 2, none⟩ = some (.int .i64 r.s)) : ∀ t u, (LI.enc r)[t]? = some u → w.cell? ⟨b, o + t, none⟩ = some u := by
  intro t u hu
  have ht := LI.lt hu
  have hk : LI.k = 3 := rfl
  rcases (show t = 0 ∨ t = 1 ∨ t = 2 by omega) with rfl | rfl | rfl
  · have h : some (Value.int .i64 r.t) = some u := hu
    rw [← h]; exact c0
  · have h : some (Value.int .i64 r.q) = some u := hu
    rw [← h]; exact c1
  · have h : some (Value.int .i64 r.s) = some u := hu
    rw [← h]; exact c2
section
variable {H : Type} {enc : TypeId × Value → H} {w : World}
theorem ops_of {a : Option Addr} {len cap : Nat} {d : DataW H} {ps : List MemPlace} (h : DataW.Trod enc Try.prog w 0 (fun _ => true) true 26 (.slice a len cap) d ps) :
    ∃ rs : List Oz, len = rs.length ∧ rs.length ≤ maxLen ∧ Row LO w a rs ∧ ∀ o ∈ rs, U64 o.a := by
  obtain ⟨hl, hx⟩ := slice_fields Try.underlying26 Try.underlying28 (by kernel_rfl) (by kernel_rfl) (by decide) h
  obtain ⟨rs, e, h1, h2⟩ := row_of_each (L := LO) (w := w) (a := a) (Pd := fun r => U64 r.a) (len := len) (by
    intro i hi
    obtain ⟨b, off, n, ha, hf⟩ := hx i hi
    obtain ⟨v0, y0, c0, t0⟩ := hf 0 _ rfl
    obtain ⟨v1, y1, c1, t1⟩ := hf 1 _ rfl
    obtain ⟨v2, y2, c2, t2⟩ := hf 2 _ rfl
    obtain ⟨x0, e0, _⟩ := DataW.trod_bool Try.underlying4 t0
    obtain ⟨x1, e1, _, w1⟩ := DataW.trod_int Try.underlying25 t1
    obtain ⟨x2, e2, _, w2⟩ := DataW.trod_int Try.underlying3 t2
    simp only [List.cons.injEq, and_true] at e0 e1 e2
    subst e0 e1 e2
    exact ⟨⟨x0, x1, x2⟩, u64_bd w1, b, off, ha, encO3 c0 c1 c2⟩)
  exact ⟨rs, e, by omega, h1, h2⟩
theorem op_of {r : Go.Reach} {b0 : Nat} {v : Value} {d : DataW H} {ps : List MemPlace} (hv : Value.okWide Try.prog w r b0 28 v) (h : DataW.Trod enc Try.prog w 0 (fun _ => true) true 28 v d ps) :
    ∃ r : Oz, v = aggO r ∧ U64 r.a := by
  obtain ⟨cs, n, rfl, hl, hf⟩ := agg_fields Try.underlying28 (by kernel_rfl) (by kernel_rfl) hv h
  match cs, hl with
  | [v0, v1, v2], _ =>
    obtain ⟨u0, y0, c0, t0⟩ := hf 0 _ rfl
    obtain ⟨u1, y1, c1, t1⟩ := hf 1 _ rfl
    obtain ⟨u2, y2, c2, t2⟩ := hf 2 _ rfl
    obtain ⟨x0, e0, _⟩ := DataW.trod_bool Try.underlying4 t0
    obtain ⟨x1, e1, _, w1⟩ := DataW.trod_int Try.underlying25 t1
    obtain ⟨x2, e2, _, w2⟩ := DataW.trod_int Try.underlying3 t2
    simp only [List.cons.injEq, and_true] at e0 e1 e2
    simp only [List.getElem?_cons_zero, List.getElem?_cons_succ, Option.some.injEq] at c0 c1 c2
    subst e0 e1 e2 c0 c1 c2
    exact ⟨⟨x0, x1, x2⟩, rfl, u64_bd w1⟩
theorem slice_shape {t e : TypeId} (ht : Try.prog.underlying t = some (.slice e)) {fuel : Nat} {v : Value} {x : DataW H × List MemPlace} (h : DataW.trod enc Try.prog w 0 (fun _ => true) true fuel t [v] = some x) : ∃ a len cap, v = .slice a len cap ∧ (a = none → cap = 0) ∧ len ≤ cap := by
  rcases open_slice ht h with ⟨hcs, _⟩ | ⟨a', len', cap', m, n, D, Pl, hcs, _, hl, _⟩
  · simp at hcs
    exact ⟨none, 0, 0, hcs, fun _ => rfl, Nat.le_refl _⟩
  · simp at hcs
    exact ⟨some a', len', cap', hcs, fun e => by simp at e, hl⟩
theorem items_at {fuel : Nat} {v : Value} {x : DataW H × List MemPlace} (h : DataW.trod enc Try.prog w 0 (fun _ => true) true fuel 37 [v] = some x) :
    ∃ s : SlR It, v = .slice s.ad s.l.length s.cap ∧ HasS LI w s ∧ s.l.length ≤ maxLen := by
  obtain ⟨a, len, cap, rfl, hn, hc⟩ := slice_shape Try.underlying37 h
  have hT : DataW.Trod enc Try.prog w 0 (fun _ => true) true 37 (.slice a len cap) x.1 x.2 := ⟨fuel, by simpa [Value.cells] using h⟩
  obtain ⟨hl, hx⟩ := slice_fields Try.underlying37 Try.underlying33 (by kernel_rfl) (by kernel_rfl) (by decide) hT
  obtain ⟨rs, e, h1, _⟩ := row_of_each (L := LI) (w := w) (a := a) (Pd := fun _ => True) (len := len) (by
    intro i hi
    obtain ⟨b, off, n, ha, hf⟩ := hx i hi
    obtain ⟨v0, y0, c0, t0⟩ := hf 0 _ rfl
    obtain ⟨v1, y1, c1, t1⟩ := hf 1 _ rfl
    obtain ⟨v2, y2, c2, t2⟩ := hf 2 _ rfl
    obtain ⟨x0, e0, _, _⟩ := DataW.trod_int Try.underlying3 t0
    obtain ⟨x1, e1, _, _⟩ := DataW.trod_int Try.underlying3 t1
    obtain ⟨x2, e2, _, _⟩ := DataW.trod_int Try.underlying3 t2
    simp only [List.cons.injEq, and_true] at e0 e1 e2
    subst e0 e1 e2
    exact ⟨⟨x0, x1, x2⟩, trivial, b, off, ha, encI3 c0 c1 c2⟩)
  subst e
  exact ⟨⟨rs, a, cap⟩, rfl, ⟨h1, hc, hn⟩, hl⟩
theorem buckets_at {fuel : Nat} {v : Value} {x : DataW H × List MemPlace} (h : DataW.trod enc Try.prog w 0 (fun _ => true) true fuel 22 [v] = some x) :
    ∃ s : SlR (SlR It), v = .slice s.ad s.l.length s.cap ∧ HasS LB w s ∧ s.l.length ≤ maxLen ∧ (∀ b ∈ s.l, HasS LI w b) ∧ ∀ b ∈ s.l, b.l.length ≤ maxLen := by
  rcases open_slice Try.underlying22 h with ⟨hcs, _⟩ | ⟨a', len', cap', m, n, D, Pl, hcs, _, hl, hm, hmm, _, hx⟩
  · simp at hcs
    exact ⟨⟨[], none, 0⟩, hcs, hasS_nil LB w, by simp, fun b hb => by simp at hb, fun b hb => by simp at hb⟩
  · simp at hcs
    subst hcs
    have hC : Try.prog.cellsOf 37 = 1 := by kernel_rfl
    obtain ⟨rs, e, h1, h2⟩ := row_of_each (L := LB) (w := w) (a := some a') (Pd := fun s => HasS LI w s ∧ s.l.length ≤ maxLen) (len := len') (by
      intro i hi
      obtain ⟨cs, hc, htr⟩ := hx i (by rw [hmm]; simp; omega)
      obtain ⟨_, hlen, hat⟩ := World.cells?_some hc
      rw [hC] at hlen hat
      have h0 := hat 0 (by omega)
      match cs, hlen with
      | [c], _ =>
        obtain ⟨s, rfl, hs, hsl⟩ := items_at htr
        obtain ⟨b, off, spot⟩ := a'
        have hspot : spot = none := by
          obtain ⟨cs0, hc0, htr0⟩ := hx 0 (by rw [hmm]; simp; omega)
          obtain ⟨_, hl0, hat0⟩ := World.cells?_some hc0
          rw [hC] at hl0 hat0
          have h1 := hat0 0 (by omega)
          rw [List.getElem?_eq_getElem (by omega)] at h1
          simpa [Addr.add] using World.cell?_spot h1
        subst hspot
        refine ⟨s, ⟨hs, hsl⟩, b, off, rfl, fun t u hu => ?_⟩
        have ht := LB.lt hu
        have hk : LB.k = 1 := rfl
        obtain rfl : t = 0 := by omega
        have hu' : some (Value.slice s.ad s.l.length s.cap) = some u := hu
        rw [← hu', hk]
        rw [add_add, add_plain] at h0
        simpa using h0)
    subst e
    exact ⟨⟨rs, some a', cap'⟩, rfl, ⟨h1, hl, fun e => by simp at e⟩, by simp only; omega, fun b hb => (h2 b hb).1, fun b hb => (h2 b hb).2⟩
theorem rung_of {r : Go.Reach} {b0 : Nat} {v : Value} {d : DataW H} {ps : List MemPlace} (hv : Value.okWide Try.prog w r b0 24 v) (h : DataW.Trod enc Try.prog w 0 (fun _ => true) true 24 v d ps) :
    ∃ r : RgR, v = encR r ∧ HasR w r ∧ r.bk.l.length ≤ maxLen ∧ ∀ s ∈ r.bk.l, s.l.length ≤ maxLen := by
  obtain ⟨cs, n, rfl, hl, hf⟩ := agg_fields Try.underlying24 (by kernel_rfl) (by kernel_rfl) hv h
  match cs, hl with
  | [v0, v1, v2, v3], _ =>
    obtain ⟨u0, y0, c0, t0⟩ := hf 0 _ rfl
    obtain ⟨u1, y1, c1, t1⟩ := hf 1 _ rfl
    obtain ⟨u2, y2, c2, t2⟩ := hf 2 _ rfl
    obtain ⟨u3, y3, c3, t3⟩ := hf 3 _ rfl
    obtain ⟨x0, e0, _, _⟩ := DataW.trod_int Try.underlying3 t0
    obtain ⟨x1, e1, _, _⟩ := DataW.trod_int Try.underlying3 t1
    obtain ⟨x2, e2, _, _⟩ := DataW.trod_int Try.underlying3 t2
    obtain ⟨s, e3, hs, hsl, hb, hbl⟩ := buckets_at t3
    simp only [List.cons.injEq, and_true] at e0 e1 e2
    simp only [List.getElem?_cons_zero, List.getElem?_cons_succ, Option.some.injEq] at c0 c1 c2 c3
    subst e0 e1 e2 e3 c0 c1 c2 c3
    exact ⟨⟨x0, x1, x2, s⟩, rfl, ⟨hs, hb⟩, hsl, hbl⟩
end
end Go.Proofs.Ytmfijhophaeljaa
