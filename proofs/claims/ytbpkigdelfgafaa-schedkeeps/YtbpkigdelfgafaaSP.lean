/- Arguments opened: a slice of bytes. -/
import Derived.Test.YtbpkigdelfgafaaSB
import Derived.ProofKit
import Derived.OpenShut
import Derived.Deep.Slices
import Derived.Deep.Fields
namespace Go.Proofs.Ytbpkigdelfgafaa
open Go.ChangeShapes Go.WideShapes Go.ChangeAt Go.RowKit Go.Deep

theorem u8_bd {n : Int} (h : (Lit.int .u8 n).wf = true) : 0 ≤ n ∧ n < 256 := by
  have := bounds_u8 h
  omega
theorem u32_bd {n : Int} (h : (Lit.int .u32 n).wf = true) : 0 ≤ n ∧ n < 4294967296 := by
  have := bounds_u32 h
  omega
theorem trod_lt_of {H : Type} {enc : TypeId × Value → H} {P : Program} {w : World} {t : TypeId} {v : Value} {d : DataW H} {ps : List MemPlace} (k : DataW.Trod enc P w 0 (fun _ => true) true t v d ps) : ∀ x ∈ ps, x.block < w.heap.size := by
  obtain ⟨m, hm⟩ := k
  exact DataW.trod_lt m _ _ _ hm
theorem own_knob : ownKnob Try.prog.godebug = none := by kernel_rfl
theorem laid_out : laidOutB Try.prog = true := by kernel_rfl

theorem bytes_of {H : Type} {enc : TypeId × Value → H} {w : World} {a : Option Addr} {len cap : Nat} {d : DataW H} {ps : List MemPlace} (h : DataW.Trod enc Try.prog w 0 (fun _ => true) true 23 (.slice a len cap) d ps) :
    ∃ rs : List Int, len = rs.length ∧ rs.length ≤ maxLen ∧ Bytes w a rs := by
  have each : len ≤ maxLen ∧ ∀ i, i < len → ∃ r : Int, (0 ≤ r ∧ r < 256) ∧ ∃ b off, a = some ⟨b, off, none⟩ ∧ w.cell? ⟨b, off + i, none⟩ = some (.int .u8 r) := by
    obtain ⟨fuel, hf⟩ := h
    rcases open_slice Try.underlying23 hf with ⟨hcs, _⟩ | ⟨a', len', cap', m, n, D, Pl, hcs, _, hl, hm, hmm, _, hx⟩
    · simp [Value.cells] at hcs
      obtain ⟨rfl, rfl, rfl⟩ := hcs
      exact ⟨by decide, fun i hi => absurd hi (by omega)⟩
    · simp [Value.cells] at hcs
      obtain ⟨rfl, rfl, rfl⟩ := hcs
      refine ⟨by omega, fun i hi => ?_⟩
      obtain ⟨cs, hc, htr⟩ := hx i (by rw [hmm]; simp; omega)
      obtain ⟨x, rfl, _, hw⟩ := DataW.trod_int Try.underlying5 htr
      obtain ⟨_, hlen, hat⟩ := World.cells?_some hc
      have hC : Try.prog.cellsOf 5 = 1 := by kernel_rfl
      have h0 := hat 0 (by rw [hC]; omega)
      rw [hC] at h0
      obtain ⟨b, off, spot⟩ := a'
      have hspot : spot = none := by
        obtain ⟨cs0, hc0, htr0⟩ := hx 0 (by rw [hmm]; simp; omega)
        obtain ⟨x0, rfl, _, _⟩ := DataW.trod_int Try.underlying5 htr0
        obtain ⟨_, _, hat0⟩ := World.cells?_some hc0
        have h1 := hat0 0 (by rw [hC]; omega)
        rw [hC] at h1
        have h2 : w.cell? ((Addr.add ⟨b, off, spot⟩ (0 * 1)).add 0) = some (.int .u8 x0) := by rw [h1]; rfl
        simpa [Addr.add] using World.cell?_spot h2
      subst hspot
      refine ⟨x, u8_bd hw, b, off, rfl, ?_⟩
      rw [add_add, add_plain] at h0
      simpa using h0
  obtain ⟨hl, each⟩ := each
  have hch : ∃ f : Nat → Int, ∀ i, i < len → (0 ≤ f i ∧ f i < 256) ∧ ∃ b off, a = some ⟨b, off, none⟩ ∧ w.cell? ⟨b, off + i, none⟩ = some (.int .u8 (f i)) := by
    classical
    exact ⟨fun i => if h : i < len then (each i h).choose else 0, fun i hi => by simp only [hi, dif_pos]; exact (each i hi).choose_spec⟩
  obtain ⟨f, hf⟩ := hch
  refine ⟨(List.range len).map f, by simp, by simpa using hl, ?_⟩
  intro j hj
  have hj' : j < len := by simpa using hj
  simpa using hf j hj'
end Go.Proofs.Ytbpkigdelfgafaa
