/- Arguments opened: a queue. -/
import Derived.Test.YtneodiemgemhfaaGreatQC
import Derived.Test.YtneodiemgemhfaaGreatQV
namespace Go.Proofs.YtneodiemgemhfaaGreat
open Go.ChangeShapes Go.WideShapes Go.ChangeAt Go.RowKit Go.Deep

instance : Inhabited (SlR It) := ⟨⟨[], none, 0⟩⟩
instance : Inhabited RgR := ⟨⟨0, 0, 0, ⟨[], none, 0⟩⟩⟩
instance : Inhabited It := ⟨⟨0, 0, 0⟩⟩
theorem encIt3 {w : World} {b o : Nat} {r : It} (c0 : w.cell? ⟨b, o, none⟩ = some (.int .i64 r.t)) (c1 : w.cell? ⟨b, o + 1, none⟩ = some (.int .i64 r.q)) (c2 : w.cell? ⟨b, o + 2, none⟩ = some (.int .i64 r.s)) : ∀ t u, (LI.enc r)[t]? = some u → w.cell? ⟨b, o + t, none⟩ = some u := by
  intro t u hu
  have ht := LI.lt hu
  have hk : LI.k = 3 := rfl
  rcases (show t = 0 ∨ t = 1 ∨ t = 2 by omega) with rfl | rfl | rfl
  · have h : some (Value.int .i64 r.t) = some u := hu
    rw [← h]; exact c0
  · have h : some (Value.int .i64 r.q) = some u := hu
    rw [← h]; exact c1
  · have h : some (Value.int .i64 r.s) = some u := hu
    rw [← h]; exact c2
theorem encRg4 {w : World} {b o : Nat} {r : RgR} (c0 : w.cell? ⟨b, o, none⟩ = some (.int .i64 r.fr)) (c1 : w.cell? ⟨b, o + 1, none⟩ = some (.int .i64 r.wd)) (c2 : w.cell? ⟨b, o + 2, none⟩ = some (.int .i64 r.cu)) (c3 : w.cell? ⟨b, o + 3, none⟩ = some (.slice r.bk.ad r.bk.l.length r.bk.cap)) : ∀ t u, (LR.enc r)[t]? = some u → w.cell? ⟨b, o + t, none⟩ = some u := by
  intro t u hu
  have ht := LR.lt hu
  have hk : LR.k = 4 := rfl
  rcases (show t = 0 ∨ t = 1 ∨ t = 2 ∨ t = 3 by omega) with rfl | rfl | rfl | rfl
  · have h : some (Value.int .i64 r.fr) = some u := hu
    rw [← h]; exact c0
  · have h : some (Value.int .i64 r.wd) = some u := hu
    rw [← h]; exact c1
  · have h : some (Value.int .i64 r.cu) = some u := hu
    rw [← h]; exact c2
  · have h : some (Value.slice r.bk.ad r.bk.l.length r.bk.cap) = some u := hu
    rw [← h]; exact c3
section
variable {H : Type} {enc : TypeId × Value → H} {w : World}
theorem sl_shape {t e : TypeId} (ht : Tryz.prog.underlying t = some (.slice e)) {fuel : Nat} {v : Value} {x : DataW H × List MemPlace} (h : DataW.trod enc Tryz.prog w 0 (fun _ => true) true fuel t [v] = some x) : ∃ a len cap, v = .slice a len cap ∧ (a = none → cap = 0) ∧ len ≤ cap := by
  rcases open_slice ht h with ⟨hcs, _⟩ | ⟨a', len', cap', m, n, D, Pl, hcs, _, hl, _⟩
  · simp at hcs
    exact ⟨none, 0, 0, hcs, fun _ => rfl, Nat.le_refl _⟩
  · simp at hcs
    exact ⟨some a', len', cap', hcs, fun e => by simp at e, hl⟩
set_option maxRecDepth 100000 in
theorem its_at {fuel : Nat} {v : Value} {x : DataW H × List MemPlace} (h : DataW.trod enc Tryz.prog w 0 (fun _ => true) true fuel 22 [v] = some x) :
    ∃ s : SlR It, v = .slice s.ad s.l.length s.cap ∧ HasS LI w s ∧ s.l.length ≤ maxLen := by
  obtain ⟨a, len, cap, rfl, hn, hc⟩ := sl_shape Tryz.underlying22 h
  have hT : DataW.Trod enc Tryz.prog w 0 (fun _ => true) true 22 (.slice a len cap) x.1 x.2 := ⟨fuel, by simpa [Value.cells] using h⟩
  obtain ⟨hl, hx⟩ := slice_fields Tryz.underlying22 Tryz.underlying36 (by kernel_rfl) (by kernel_rfl) (by decide) hT
  obtain ⟨rs, e, h1, _⟩ := row_of_each (L := LI) (w := w) (a := a) (Pd := fun _ => True) (len := len) (by
    intro i hi
    obtain ⟨b, off, n, ha, hf⟩ := hx i hi
    obtain ⟨v0, y0, c0, t0⟩ := hf 0 _ rfl
    obtain ⟨v1, y1, c1, t1⟩ := hf 1 _ rfl
    obtain ⟨v2, y2, c2, t2⟩ := hf 2 _ rfl
    obtain ⟨x0, e0, _, _⟩ := DataW.trod_int Tryz.underlying3 t0
    obtain ⟨x1, e1, _, _⟩ := DataW.trod_int Tryz.underlying3 t1
    obtain ⟨x2, e2, _, _⟩ := DataW.trod_int Tryz.underlying3 t2
    simp only [List.cons.injEq, and_true] at e0 e1 e2
    subst e0 e1 e2
    exact ⟨⟨x0, x1, x2⟩, trivial, b, off, ha, encIt3 c0 c1 c2⟩)
  subst e
  exact ⟨⟨rs, a, cap⟩, rfl, ⟨h1, hc, hn⟩, hl⟩
set_option maxRecDepth 100000 in
theorem bks_at {fuel : Nat} {v : Value} {x : DataW H × List MemPlace} (h : DataW.trod enc Tryz.prog w 0 (fun _ => true) true fuel 51 [v] = some x) :
    ∃ s : SlR (SlR It), v = .slice s.ad s.l.length s.cap ∧ HasS LB w s ∧ s.l.length ≤ maxLen ∧ (∀ b ∈ s.l, HasS LI w b) ∧ ∀ b ∈ s.l, b.l.length ≤ maxLen := by
  rcases open_slice Tryz.underlying51 h with ⟨hcs, _⟩ | ⟨a', len', cap', m, n, D, Pl, hcs, _, hl, hm, hmm, _, hx⟩
  · simp at hcs
    exact ⟨⟨[], none, 0⟩, hcs, hasS_nil LB w, by simp, fun b hb => by simp at hb, fun b hb => by simp at hb⟩
  · simp at hcs
    subst hcs
    have hC : Tryz.prog.cellsOf 22 = 1 := by kernel_rfl
    obtain ⟨rs, e, h1, h2⟩ := row_of_each (L := LB) (w := w) (a := some a') (Pd := fun s => HasS LI w s ∧ s.l.length ≤ maxLen) (len := len') (by
      intro i hi
      obtain ⟨cs, hc, htr⟩ := hx i (by rw [hmm]; simp; omega)
      obtain ⟨_, hlen, hat⟩ := World.cells?_some hc
      rw [hC] at hlen hat
      have h0 := hat 0 (by omega)
      match cs, hlen with
      | [c], _ =>
        obtain ⟨s, rfl, hs, hsl⟩ := its_at htr
        obtain ⟨b, off, spot⟩ := a'
        have hspot : spot = none := by
          obtain ⟨cs0, hc0, htr0⟩ := hx 0 (by rw [hmm]; simp; omega)
          obtain ⟨_, hl0, hat0⟩ := World.cells?_some hc0
          rw [hC] at hl0 hat0
          have h1 := hat0 0 (by omega)
          rw [List.getElem?_eq_getElem (by omega)] at h1
          simpa [Addr.add] using World.cell?_spot h1
        subst hspot
        refine ⟨s, ⟨hs, hsl⟩, b, off, rfl, fun t u hu => ?_⟩
        have ht := LB.lt hu
        have hk : LB.k = 1 := rfl
        obtain rfl : t = 0 := by omega
        have hu' : some (Value.slice s.ad s.l.length s.cap) = some u := hu
        rw [← hu', hk]
        rw [add_add, add_plain] at h0
        simpa using h0)
    subst e
    exact ⟨⟨rs, some a', cap'⟩, rfl, ⟨h1, hl, fun e => by simp at e⟩, by simp only; omega, fun b hb => (h2 b hb).1, fun b hb => (h2 b hb).2⟩
set_option maxRecDepth 100000 in
theorem rgs_at {fuel : Nat} {v : Value} {x : DataW H × List MemPlace} (h : DataW.trod enc Tryz.prog w 0 (fun _ => true) true fuel 23 [v] = some x) :
    ∃ s : SlR RgR, v = .slice s.ad s.l.length s.cap ∧ HasS LR w s ∧ s.l.length ≤ maxLen ∧ ∀ r ∈ s.l, HasR w r ∧ r.bk.l.length ≤ maxLen ∧ ∀ b ∈ r.bk.l, b.l.length ≤ maxLen := by
  obtain ⟨a, len, cap, rfl, hn, hc⟩ := sl_shape Tryz.underlying23 h
  have hT : DataW.Trod enc Tryz.prog w 0 (fun _ => true) true 23 (.slice a len cap) x.1 x.2 := ⟨fuel, by simpa [Value.cells] using h⟩
  obtain ⟨hl, hx⟩ := slice_fields Tryz.underlying23 Tryz.underlying53 (by kernel_rfl) (by kernel_rfl) (by decide) hT
  obtain ⟨rs, e, h1, h2⟩ := row_of_each (L := LR) (w := w) (a := a) (Pd := fun r => HasR w r ∧ r.bk.l.length ≤ maxLen ∧ ∀ b ∈ r.bk.l, b.l.length ≤ maxLen) (len := len) (by
    intro i hi
    obtain ⟨b, off, n, ha, hf⟩ := hx i hi
    obtain ⟨v0, y0, c0, t0⟩ := hf 0 _ rfl
    obtain ⟨v1, y1, c1, t1⟩ := hf 1 _ rfl
    obtain ⟨v2, y2, c2, t2⟩ := hf 2 _ rfl
    obtain ⟨v3, y3, c3, t3⟩ := hf 3 _ rfl
    obtain ⟨x0, e0, _, _⟩ := DataW.trod_int Tryz.underlying3 t0
    obtain ⟨x1, e1, _, _⟩ := DataW.trod_int Tryz.underlying3 t1
    obtain ⟨x2, e2, _, _⟩ := DataW.trod_int Tryz.underlying3 t2
    obtain ⟨s, e3, hs, hsl, hb, hbl⟩ := bks_at t3
    simp only [List.cons.injEq, and_true] at e0 e1 e2
    subst e0 e1 e2 e3
    exact ⟨⟨x0, x1, x2, s⟩, ⟨⟨hs, hb⟩, hsl, hbl⟩, b, off, ha, encRg4 c0 c1 c2 c3⟩)
  subst e
  exact ⟨⟨rs, a, cap⟩, rfl, ⟨h1, hc, hn⟩, hl, h2⟩
set_option maxRecDepth 100000 in
theorem ladder_of {r : Go.Reach} {b0 : Nat} {v : Value} {d : DataW H} {ps : List MemPlace} (hv : Value.okWide Tryz.prog w r b0 25 v) (h : DataW.Trod enc Tryz.prog w 0 (fun _ => true) true 25 v d ps) :
    ∃ l : LdR, v = encD l ∧ HasD w l ∧ MaxD l := by
  obtain ⟨cs, n, rfl, hl, hf⟩ := agg_fields Tryz.underlying25 (by kernel_rfl) (by kernel_rfl) hv h
  match cs, hl with
  | [v0, v1, v2, v3, v4, v5], _ =>
    obtain ⟨u0, y0, c0, t0⟩ := hf 0 _ rfl
    obtain ⟨u1, y1, c1, t1⟩ := hf 1 _ rfl
    obtain ⟨u2, y2, c2, t2⟩ := hf 2 _ rfl
    obtain ⟨u3, y3, c3, t3⟩ := hf 3 _ rfl
    obtain ⟨u4, y4, c4, t4⟩ := hf 4 _ rfl
    obtain ⟨u5, y5, c5, t5⟩ := hf 5 _ rfl
    obtain ⟨x0, e0, _, _⟩ := DataW.trod_int Tryz.underlying3 t0
    obtain ⟨x4, e4, _, _⟩ := DataW.trod_int Tryz.underlying3 t4
    obtain ⟨x5, e5, _, _⟩ := DataW.trod_int Tryz.underlying3 t5
    obtain ⟨s1, e1, hs1, hm1⟩ := its_at t1
    obtain ⟨s2, e2, hs2, hm2, hr2⟩ := rgs_at t2
    obtain ⟨s3, e3, hs3, hm3⟩ := its_at t3
    simp only [List.cons.injEq, and_true] at e0 e4 e5
    simp only [List.getElem?_cons_zero, List.getElem?_cons_succ, Option.some.injEq] at c0 c1 c2 c3 c4 c5
    subst e0 e1 e2 e3 e4 e5 c0 c1 c2 c3 c4 c5
    have hmx : maxLen = 9223372036854775807 := rfl
    exact ⟨⟨x0, s1, s2, s3, x4, x5⟩, rfl, ⟨hs1, hs2, fun r hr => (hr2 r hr).1, hs3⟩, ⟨by simp only; omega, by simp only; omega, by simp only; omega, fun r hr => ⟨by have := (hr2 r hr).2.1; omega, fun b hb => by have := (hr2 r hr).2.2 b hb; omega⟩⟩⟩
end
end Go.Proofs.YtneodiemgemhfaaGreat
