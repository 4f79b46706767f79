
/- Contracts: the laws' Ops of layer 9; operations in memory. -/
import Derived.Test.YtpabapjodcafkaaYB
import Derived.Test.YtpabapjodcafkaaNG
namespace Go.Proofs.Ytpabapjodcafkaa
open Go.RowKit Go.Lib

def LW : Lay Wo := ⟨2, fun x => [.bool x.p, .int .i64 x.t], fun _ => rfl, fun x v hv => by
  simp only [List.mem_cons, List.not_mem_nil, or_false] at hv
  rcases hv with rfl | rfl <;> rfl, by decide⟩
theorem infoWork : (Try.prog.info? 31).map (fun i => (i.zero, i.size, i.bytes)) = some (some (.agg #[.bool false, .int .i64 0]), 2, 16) := by kernel_rfl
theorem tyW : RowTy LW 22 31 := rowTy Try.underlying22 _ 16 infoWork rfl (by decide)
theorem Row.work {w : World} {ad : Option Addr} {l : List Wo} (h : Row LW w ad l) (j : Nat) (hj : j < l.length) : ∃ b off, ad = some ⟨b, off, none⟩ ∧ w.cell? ⟨b, off + j * 2, none⟩ = some (.bool l[j].p) ∧ w.cell? ⟨b, off + j * 2 + 1, none⟩ = some (.int .i64 l[j].t) := by
  obtain ⟨b, off, e, c⟩ := h j hj
  exact ⟨b, off, e, c 0 _ rfl, c 1 _ rfl⟩
theorem work_cells {w : World} {b : Nat} {x : Wo} {e : TypeId} {f : Nat × Nat} (h : w.heap[b]? = some (.cells #[.bool x.p, .int .i64 x.t] e f)) : Row LW w (some ⟨b, 0, none⟩) [x] := by
  intro j hj
  obtain rfl : j = 0 := by simp at hj; omega
  refine ⟨b, 0, rfl, fun t u hu => ?_⟩
  rw [cell_block h]
  simp only [List.getElem_cons_zero] at hu
  have ht := LW.lt hu
  rw [show 0 + 0 * LW.k + t = t by omega]
  simpa [LW] using hu
/-- A row that a call made, as a slice. -/
structure MadeW (w : World) (l : List Wo) (w' : World) (s : SlR Wo) : Prop where
  eq : s.l = l
  has : HasS LW w' s
  ge : ∀ a, s.ad = some a → w.heap.size ≤ a.block
  upd : Upd [] w w'
def opW (x : Wo) : Wo := ⟨x.p, max (x.t.tmod 1152921504606846977) (-(x.t.tmod 1152921504606846977))⟩
theorem tmod_bd (t : Int) : -1152921504606846976 ≤ t.tmod 1152921504606846977 ∧ t.tmod 1152921504606846977 ≤ 1152921504606846976 := by
  rcases Int.le_total 0 t with h | h
  · rw [Int.tmod_eq_emod_of_nonneg h]; omega
  · have h2 : (-t).tmod 1152921504606846977 = (-t) % 1152921504606846977 := Int.tmod_eq_emod_of_nonneg (by omega)
    rw [Int.neg_tmod] at h2
    omega
theorem opW_bd (x : Wo) : 0 ≤ (opW x).t ∧ (opW x).t ≤ MaxT := by
  have h := tmod_bd x.t
  have hM : MaxT = 1152921504606846976 := rfl
  rw [hM]
  unfold opW
  simp only
  omega
theorem flat_nil_row {w : World} (base : Nat) (e : TypeId) : w.ownsRow base e LW.k (.slice none 0 0) 0 (LW.flat []) := ⟨rfl, .inl ⟨rfl, rfl⟩⟩
set_option maxRecDepth 100000 in
set_option maxHeartbeats 4000000 in
theorem Ops_has (la : Option Addr) (lc : Nat) (os : List Wo) (w : World) (ho : Row LW w la os) (hl : os.length ≤ 1000) :
    Calls Try.prog 8 #[.slice la os.length lc] w fun e w' => ∃ s', e = .returned (.slice s'.ad s'.l.length s'.cap) ∧ MadeW w (os.map opW) w' s' := by
  have HO := Lib.hid ho
  obtain ⟨n, hn⟩ : ∃ n, n = os.length := ⟨_, rfl⟩
  have HN := Lib.hid hn
  have HSU : Hid (∀ k (h : k < os.length), (os.take (k + 1)).map opW = (os.take k).map opW ++ [opW os[k]]) := fun k h => by rw [List.take_succ_eq_append_getElem h, List.map_append]; rfl
  have HZ : Hid ((os.take 0).map opW = []) := rfl
  have HAL : Hid ((os.take n).map opW = os.map opW) := by rw [hn, List.take_length]; rfl
  obtain ⟨g, hg⟩ : ∃ g : Nat → List Wo, g = fun k => (os.take k).map opW := ⟨_, rfl⟩
  have HSU : Hid (∀ k (h : k < os.length), g (k + 1) = g k ++ [opW os[k]]) := by rw [hg]; exact HSU
  have HZ : Hid (g 0 = []) := by rw [hg]; exact HZ
  have HAL : Hid (g n = os.map opW) := by rw [hg]; exact HAL
  rw [← hn] at hl ⊢
  rw [← HAL.out]
  clear ho hn hg
  go_enter Try.func8, Try.ntmps8
  go_wp2_with fail
  go_loopg [3, 4] n (fun gk vs vi wr => ∃ (k : Nat) (va : Option Addr) (vc : Nat), vs = .slice va k vc ∧ vi = .int .i64 k ∧ k + gk = n ∧ Hid (wr.ownsRow w.heap.size 31 LW.k (.slice va k vc) k (LW.flat (g k))) ∧ Hid (Upd [] w wr))
  case atStart => exact ⟨0, none, 0, rfl, rfl, by omega, by rw [HZ.out]; exact flat_nil_row _ _, Upd.refl [] w⟩
  case round =>
    obtain ⟨k, va, vc, rfl, rfl, hkg, HOW, HUR⟩ := hrel
    by_cases hlt : k < n
    · have hltz : (k : Int) < (n : Int) := by omega
      have hk1 : k < os.length := by have := HN.out; omega
      obtain ⟨b, off, hb, x0, x1⟩ := (HO.out.stay HUR.out).work k hk1
      have HSK := Lib.hid (HSU.out k hk1)
      obtain ⟨⟨p, t⟩, hx⟩ : ∃ x, x = os[k]'hk1 := ⟨_, rfl⟩
      rw [← hx] at x0 x1 HSK
      simp only at x0 x1
      subst hb
      have hbd := tmod_bd t
      obtain ⟨m, hm⟩ : ∃ m, m = t.tmod 1152921504606846977 := ⟨_, rfl⟩
      have HSK2 : Hid (g (k + 1) = g k ++ [⟨p, max m (-m)⟩]) := by rw [hm]; exact HSK
      rw [← hm] at hbd
      have hm2 : t.tmod 1152921504606846977 = m := hm.symm
      have hwm : IntKind.i64.wrap (-m) = -m := by rw [IntKind.wrap_i64]; omega
      have hwk : IntKind.i64.wrap ((k : Int) + 1) = (k : Int) + 1 := by rw [IntKind.wrap_i64]; omega
      clear hx hk1 HSK hm
      have hsz := HUR.out.size
      obtain ⟨u, hu⟩ : ∃ u, u = max m (-m) := ⟨_, rfl⟩
      rw [← hu] at HSK2
      have hmx : max m (-m) = u := hu.symm
      have hu5 := (Upd.refl [] wr).alloc (.cells #[.bool p, .int .i64 u] 31)
      have HR2 := Lib.hid (work_cells (x := ⟨p, u⟩) (heap_alloc1 wr (.cells #[.bool p, .int .i64 u] 31)))
      have HO2 := Lib.hid (hu5.row HOW.out (by simp))
      have HU5 := Lib.hid (HUR.out.thn hu5)
      clear hu hu5
      go_upto_region 6 with (fail)
      go_upto_region 4 with (at_builtin; refine app_row tyW rfl _ _ rfl w.heap.size (.slice va k vc) k (g k) rfl HO2.out (some ⟨wr.heap.size, 0, none⟩) 1 1 [⟨p, u⟩] rfl rfl HR2.out (fun e => by simp at e) (by omega) (by simp; omega) ?_; intro v2 w2 hown2 hgrow2; obtain ⟨va2, vc2, rfl⟩ := row_shape hown2)
      have HO3 := Lib.hid hown2
      have HU6 : Hid (Upd [] w w2) := HU5.out.grown hgrow2 (fun x hx hl => by have := own_ge HOW.out x hx; omega)
      clear hown2 hgrow2 x0 x1
      go_wp2_with fail
      go_roundg (n - (k + 1))
      case measure => omega
      case rel => exact ⟨k + 1, va2, vc2, rfl, by go_num, by omega, by rw [HSK2.out]; exact HO3, HU6⟩
    · have hltz : ¬ (k : Int) < (n : Int) := by omega
      obtain rfl : k = n := by omega
      have hs := hasS_row HOW.out
      obtain ⟨hnn, ad3, cap3, e3, hS3, hge3⟩ := hs
      have HFIN : Hid (MadeW w (g k) wr ⟨g k, ad3, cap3⟩) := ⟨rfl, hS3, hge3, HUR.out⟩
      have HE3 := Lib.hid e3
      have HNN := Lib.hid hnn
      clear hnn e3 hS3 hge3
      go_wp2_with fail
      go_ret
      refine ⟨_, ?_, HFIN.out⟩
      rw [HE3.out]
      simp only
      exact ret_slice HNN.out
end Go.Proofs.Ytpabapjodcafkaa
