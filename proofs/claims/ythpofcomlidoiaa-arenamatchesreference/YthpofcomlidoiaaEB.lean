/- Arguments opened: an arena. -/
import Derived.Test.YthpofcomlidoiaaOZ
import Derived.Test.YthpofcomlidoiaaCA
namespace Go.Proofs.Ythpofcomlidoiaa
open Go.ChangeShapes Go.WideShapes Go.ChangeAt Go.RowKit Go.Deep

section
variable {H : Type} {enc : TypeId × Value → H} {w : World}
theorem ints_at {fuel : Nat} {v : Value} {x : DataW H × List MemPlace} (h : DataW.trod enc Try.prog w 0 (fun _ => true) true fuel 23 [v] = some x) :
    ∃ (a : Option Addr) (xs : List Int) (cap : Nat), v = .slice a xs.length cap ∧ xs.length ≤ maxLen ∧ Ints w a xs ∧ (a = none → cap = 0) ∧ xs.length ≤ cap := by
  rcases open_slice Try.underlying23 h with ⟨hcs, _⟩ | ⟨a', len', cap', m, n, D, Pl, hcs, _, hl, hm, hmm, _, hx⟩
  · simp at hcs
    exact ⟨none, [], 0, hcs, by decide, ints_nil _ _, fun _ => rfl, Nat.le_refl _⟩
  · simp at hcs
    subst hcs
    have hC : Try.prog.cellsOf 3 = 1 := by kernel_rfl
    have each : ∀ i, i < len' → ∃ r : Int, ∃ b off, a' = ⟨b, off, none⟩ ∧ w.cell? ⟨b, off + i, none⟩ = some (.int .i64 r) := by
      intro i hi
      obtain ⟨cs, hc, htr⟩ := hx i (by rw [hmm]; simp; omega)
      obtain ⟨x, rfl, _, hw⟩ := DataW.trod_int Try.underlying3 htr
      obtain ⟨_, hlen, hat⟩ := World.cells?_some hc
      have h0 := hat 0 (by rw [hC]; omega)
      rw [hC] at h0
      obtain ⟨b, off, spot⟩ := a'
      have hspot : spot = none := by
        obtain ⟨cs0, hc0, htr0⟩ := hx 0 (by rw [hmm]; simp; omega)
        obtain ⟨x0, rfl, _, _⟩ := DataW.trod_int Try.underlying3 htr0
        obtain ⟨_, _, hat0⟩ := World.cells?_some hc0
        have h1 := hat0 0 (by rw [hC]; omega)
        rw [hC] at h1
        have h2 : w.cell? ((Addr.add ⟨b, off, spot⟩ (0 * 1)).add 0) = some (.int .i64 x0) := by rw [h1]; rfl
        simpa [Addr.add] using World.cell?_spot h2
      subst hspot
      refine ⟨x, b, off, rfl, ?_⟩
      rw [add_add, add_plain] at h0
      simpa using h0
    have hch : ∃ f : Nat → Int, ∀ i, i < len' → ∃ b off, a' = ⟨b, off, none⟩ ∧ w.cell? ⟨b, off + i, none⟩ = some (.int .i64 (f i)) := by
      classical
      exact ⟨fun i => if h : i < len' then (each i h).choose else 0, fun i hi => by simp only [hi, dif_pos]; exact (each i hi).choose_spec⟩
    obtain ⟨f, hf⟩ := hch
    refine ⟨some a', (List.range len').map f, cap', by simp, by simp; omega, ?_, fun h => by simp at h, by simpa using hl⟩
    intro j hj
    have hj' : j < len' := by simpa using hj
    obtain ⟨b, off, rfl, hc⟩ := hf j hj'
    exact ⟨b, off, rfl, by simpa using hc⟩
theorem slots_at {fuel : Nat} {v : Value} {x : DataW H × List MemPlace} (h : DataW.trod enc Try.prog w 0 (fun _ => true) true fuel 22 [v] = some x) :
    ∃ (a : Option Addr) (xs : List Sl) (cap : Nat), v = .slice a xs.length cap ∧ Slots w a xs ∧ (a = none → cap = 0) ∧ xs.length ≤ cap := by
  have hsh : ∃ a len cap, v = .slice a len cap ∧ (a = none → cap = 0) ∧ len ≤ cap := by
    rcases open_slice Try.underlying22 h with ⟨hcs, _⟩ | ⟨a', len', cap', m, n, D, Pl, hcs, _, hl, _⟩
    · simp at hcs
      exact ⟨none, 0, 0, hcs, fun _ => rfl, Nat.le_refl _⟩
    · simp at hcs
      exact ⟨some a', len', cap', hcs, fun e => by simp at e, hl⟩
  obtain ⟨a, len, cap, rfl, hn, hc⟩ := hsh
  have hT : DataW.Trod enc Try.prog w 0 (fun _ => true) true 22 (.slice a len cap) x.1 x.2 := ⟨fuel, by simpa [Value.cells] using h⟩
  obtain ⟨_, hx⟩ := slice_fields Try.underlying22 Try.underlying44 (by kernel_rfl) (by kernel_rfl) (by decide) hT
  have each : ∀ i, i < len → ∃ r : Sl, ∃ bl off, a = some ⟨bl, off, none⟩ ∧ w.cell? ⟨bl, off + i * 4, none⟩ = some (.int .i64 r.g) ∧ w.cell? ⟨bl, off + i * 4 + 1, none⟩ = some (.int .i64 r.s) ∧
      w.cell? ⟨bl, off + i * 4 + 2, none⟩ = some (.int .i64 r.t) ∧ w.cell? ⟨bl, off + i * 4 + 3, none⟩ = some (.int .i64 r.q) := by
    intro i hi
    obtain ⟨b, off, n, ha, hf⟩ := hx i hi
    obtain ⟨v0, y0, c0, t0⟩ := hf 0 _ rfl
    obtain ⟨v1, y1, c1, t1⟩ := hf 1 _ rfl
    obtain ⟨v2, y2, c2, t2⟩ := hf 2 _ rfl
    obtain ⟨v3, y3, c3, t3⟩ := hf 3 _ rfl
    obtain ⟨x0, e0, _, _⟩ := DataW.trod_int Try.underlying3 t0
    obtain ⟨x1, e1, _, _⟩ := DataW.trod_int Try.underlying3 t1
    obtain ⟨x2, e2, _, _⟩ := DataW.trod_int Try.underlying3 t2
    obtain ⟨x3, e3, _, _⟩ := DataW.trod_int Try.underlying3 t3
    simp only [List.cons.injEq, and_true] at e0 e1 e2 e3
    subst e0 e1 e2 e3
    exact ⟨⟨x0, x1, x2, x3⟩, b, off, ha, c0, c1, c2, c3⟩
  have hch : ∃ f : Nat → Sl, ∀ i, i < len → ∃ bl off, a = some ⟨bl, off, none⟩ ∧ w.cell? ⟨bl, off + i * 4, none⟩ = some (.int .i64 (f i).g) ∧ w.cell? ⟨bl, off + i * 4 + 1, none⟩ = some (.int .i64 (f i).s) ∧
      w.cell? ⟨bl, off + i * 4 + 2, none⟩ = some (.int .i64 (f i).t) ∧ w.cell? ⟨bl, off + i * 4 + 3, none⟩ = some (.int .i64 (f i).q) := by
    classical
    exact ⟨fun i => if h : i < len then (each i h).choose else ⟨0, 0, 0, 0⟩, fun i hi => by simp only [hi, dif_pos]; exact (each i hi).choose_spec⟩
  obtain ⟨f, hf⟩ := hch
  refine ⟨a, (List.range len).map f, cap, by simp, ?_, hn, by simpa using hc⟩
  intro j hj
  have hj' : j < len := by simpa using hj
  have := hf j hj'
  simpa using this
theorem arena_of {r : Go.Reach} {b0 : Nat} {v : Value} {d : DataW H} {ps : List MemPlace} (hv : Value.okWide Try.prog w r b0 25 v) (h : DataW.Trod enc Try.prog w 0 (fun _ => true) true 25 v d ps) :
    ∃ r : ArR, v = encA r ∧ HasA w r := by
  obtain ⟨cs, n, rfl, hl, hf⟩ := agg_fields Try.underlying25 (by kernel_rfl) (by kernel_rfl) hv h
  match cs, hl with
  | [v0, v1, v2], _ =>
    obtain ⟨u0, y0, c0, t0⟩ := hf 0 _ rfl
    obtain ⟨u1, y1, c1, t1⟩ := hf 1 _ rfl
    obtain ⟨u2, y2, c2, t2⟩ := hf 2 _ rfl
    simp only [List.getElem?_cons_zero, List.getElem?_cons_succ, Option.some.injEq] at c0 c1 c2
    subst c0 c1 c2
    obtain ⟨sa, ss, sc, rfl, hs, hsn, hsc⟩ := slots_at t0
    obtain ⟨ia, xs, ic, rfl, _, hi, hin, hic⟩ := ints_at t1
    obtain ⟨x2, e2, _, _⟩ := DataW.trod_int Try.underlying3 t2
    simp only [List.cons.injEq, and_true] at e2
    subst e2
    exact ⟨⟨⟨ss, xs, x2⟩, sa, sc, ia, ic⟩, rfl, ⟨hs, hi, hsc, hic, hsn, hin⟩⟩
end
end Go.Proofs.Ythpofcomlidoiaa
