/- Plain facts for the laws of layer 7. -/
import Derived.Test.YtmfijhophaeljaaUT
namespace Go.Proofs.Ytmfijhophaeljaa
open Go.RowKit Go.Lib

theorem made_good {f d : Int} (hf : U64 f) (hd : U64 d) (os : List Oz) : GoodR (madeR f d os) ∧ lenL (madeR f d os).bs ≤ 100 := by
  obtain ⟨h1, h2⟩ := hf
  obtain ⟨h3, h4⟩ := hd
  have e : os.take 100 = os.take (min os.length 100) := by rw [List.take_eq_take_iff]; omega
  have h := reach_run (f := f % 1152921504606846977) (w := (d % 144115188075855873 + 1) / 8 + 1) (by omega) (by omega) (by omega) (by omega) os (min os.length 100) (by omega)
  rw [madeR, e]
  exact ⟨h.good, by have := h.len; omega⟩
/-- What a rung that stands for g keeps to. -/
structure Std (r : RgR) (g : Rg) : Prop where
  eq : r.rg = g
  good : GoodR g
  len : lenL g.bs ≤ 1000
theorem Std.g {r : RgR} {g : Rg} (h : Std r g) : GoodR r.rg := by rw [h.eq]; exact h.good
theorem Std.l {r : RgR} {g : Rg} (h : Std r g) : lenL r.rg.bs ≤ 100000 := by rw [h.eq]; have := h.len; omega
theorem Std.n {r : RgR} {g : Rg} (h : Std r g) : r.bk.l.length ≤ 1000000 := (sh_of h.eq h.good h.len).1
theorem Std.m {r : RgR} {g : Rg} (h : Std r g) : ∀ s ∈ r.bk.l, s.l.length ≤ 1000000 := (sh_of h.eq h.good h.len).2.1
theorem Std.put {r : RgR} {g : Rg} (h : Std r g) (hl : lenL g.bs ≤ 100) {r' : RgR} {it : It} (e : r'.rg = (putR r.rg it).1) : Std r' (putR g it).1 := by
  rw [h.eq] at e
  exact ⟨e, h.good.put it, by have := put_len_le h.good it; omega⟩
theorem Std.next {r : RgR} {g : Rg} (h : Std r g) {r' : RgR} (e : r'.rg = (nextR r.rg).1) : Std r' (nextR g).1 := by
  rw [h.eq] at e
  exact ⟨e, h.good.next, by have := next_len g; have := h.len; omega⟩
theorem same_std {r s : RgR} {g g' : Rg} (h : r.rg = g) (k : s.rg = g') (e : g = g') : decide (r.rg = s.rg) = true := by rw [h, k, e]; simp
end Go.Proofs.Ytmfijhophaeljaa
