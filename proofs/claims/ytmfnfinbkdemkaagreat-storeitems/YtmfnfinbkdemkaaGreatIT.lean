
/- Arguments opened: integers, slices of operations. -/
import Derived.Test.YtmfnfinbkdemkaaGreatO
import Derived.Test.YtmfnfinbkdemkaaGreatIS
namespace Go.Proofs.YtmfnfinbkdemkaaGreat
open Go.ChangeShapes Go.WideShapes Go.ChangeAt Go.RowKit Go.Deep

theorem u8_bd {n : Int} (h : (Lit.int .u8 n).wf = true) : 0 ≤ n ∧ n < 256 := by
  have := bounds_u8 h
  omega
theorem u32_bd {n : Int} (h : (Lit.int .u32 n).wf = true) : 0 ≤ n ∧ n < 4294967296 := by
  have := bounds_u32 h
  exact ⟨by omega, by omega⟩
theorem u16_bd {n : Int} (h : (Lit.int .u16 n).wf = true) : 0 ≤ n ∧ n < 65536 := by
  simp only [Lit.wf] at h
  have e1 : IntKind.u16.min = 0 := by decide
  have e2 : IntKind.u16.max = 65535 := by decide
  rw [e1, e2] at h
  simp at h
  omega
theorem u64_bd {n : Int} (h : (Lit.int .u64 n).wf = true) : 0 ≤ n ∧ n < 18446744073709551616 := by
  have := bounds_u64 h
  exact ⟨by omega, by omega⟩
theorem own_knob : ownKnob Tryz.prog.godebug = none := by kernel_rfl
theorem laid_out : laidOutB Tryz.prog = true := by kernel_rfl
theorem row_of_each {α : Type} [Inhabited α] {L : Lay α} {w : World} {a : Option Addr} {Pd : α → Prop} {len : Nat} (each : ∀ i, i < len → ∃ r : α, Pd r ∧ ∃ b off, a = some ⟨b, off, none⟩ ∧ ∀ t u, (L.enc r)[t]? = some u → w.cell? ⟨b, off + i * L.k + t, none⟩ = some u) :
    ∃ xs : List α, len = xs.length ∧ Row L w a xs ∧ ∀ x ∈ xs, Pd x := by
  have hch : ∃ f : Nat → α, ∀ i, i < len → Pd (f i) ∧ ∃ b off, a = some ⟨b, off, none⟩ ∧ ∀ t u, (L.enc (f i))[t]? = some u → w.cell? ⟨b, off + i * L.k + t, none⟩ = some u := by
    classical
    exact ⟨fun i => if h : i < len then (each i h).choose else default, fun i hi => by simp only [hi, dif_pos]; exact (each i hi).choose_spec⟩
  obtain ⟨f, hf⟩ := hch
  refine ⟨(List.range len).map f, by simp, fun j hj => ?_, fun x hx => ?_⟩
  · have hj' : j < len := by simpa using hj
    have := (hf j hj').2
    simpa using this
  · obtain ⟨j, hj, rfl⟩ := List.mem_map.1 hx
    exact (hf j (by simpa using hj)).1
theorem encO3 {w : World} {b o : Nat} {r : Oq} (c0 : w.cell? ⟨b, o, none⟩ = some (.int .u8 r.k)) (c1 : w.cell? ⟨b, o + 1, none⟩ = some (.int .u64 r.t)) (c2 : w.cell? ⟨b, o + 2, none⟩ = some (.bool r.near)) : ∀ t u, (LO.enc r)[t]? = some u → w.cell? ⟨b, o + t, none⟩ = some u := by
  intro t u hu
  have ht := LO.lt hu
  have hk : LO.k = 3 := rfl
  rcases (show t = 0 ∨ t = 1 ∨ t = 2 by omega) with rfl | rfl | rfl
  · have h : some (Value.int .u8 r.k) = some u := hu
    rw [← h]; exact c0
  · have h : some (Value.int .u64 r.t) = some u := hu
    rw [← h]; exact c1
  · have h : some (Value.bool r.near) = some u := hu
    rw [← h]; exact c2
section
variable {H : Type} {enc : TypeId × Value → H} {w : World}
theorem ops_of {a : Option Addr} {len cap : Nat} {d : DataW H} {ps : List MemPlace} (h : DataW.Trod enc Tryz.prog w 0 (fun _ => true) true 22 (.slice a len cap) d ps) :
    ∃ rs : List Oq, len = rs.length ∧ Row LO w a rs ∧ ∀ o ∈ rs, OkO o := by
  obtain ⟨hl, hx⟩ := slice_fields Tryz.underlying22 Tryz.underlying30 (by kernel_rfl) (by kernel_rfl) (by decide) h
  exact row_of_each (L := LO) (w := w) (a := a) (Pd := fun r => OkO r) (len := len) (by
    intro i hi
    obtain ⟨b, off, n, ha, hf⟩ := hx i hi
    obtain ⟨v0, y0, c0, t0⟩ := hf 0 _ rfl
    obtain ⟨v1, y1, c1, t1⟩ := hf 1 _ rfl
    obtain ⟨v2, y2, c2, t2⟩ := hf 2 _ rfl
    obtain ⟨x0, e0, _, w0⟩ := DataW.trod_int Tryz.underlying5 t0
    obtain ⟨x1, e1, _, w1⟩ := DataW.trod_int Tryz.underlying28 t1
    obtain ⟨x2, e2, _⟩ := DataW.trod_bool Tryz.underlying4 t2
    simp only [List.cons.injEq, and_true] at e0 e1 e2
    subst e0 e1 e2
    exact ⟨⟨x0, x1, x2⟩, ⟨(u8_bd w0).1, (u8_bd w0).2, (u64_bd w1).1, (u64_bd w1).2⟩, b, off, ha, encO3 c0 c1 c2⟩)
end
end Go.Proofs.YtmfnfinbkdemkaaGreat
