/- Contracts: the program's Len, New; the tests within Valid. -/
/- Contracts: the tests on times within Valid. -/
/- Contracts: ContainsFunc, within, bound. -/
/- Contracts: slices.Grow of nil, slices.Concat over rows of items. -/
/- Contract: slices.Concat over rows of items. -/
import Derived.Test.YtmfnfinbkdemkaaGreatPZ
namespace Go.Proofs.YtmfnfinbkdemkaaGreat
open Go.RowKit Go.Lib

set_option maxRecDepth 100000 in
set_option maxHeartbeats 2000000 in
theorem LNew_has (w : World) : Calls Tryz.prog 60 #[] w (GaveD w newL) := by
  go_enter Tryz.func60, Tryz.ntmps60
  go_upto_region 1 with (fail)
  have b0 := heap_alloc1 w (.cells #[.int .i64 0, .slice none 0 0, .slice none 0 0, .slice none 0 0, .int .i64 0, .int .i64 0] 68)
  have hu := (Upd.refl [] w).alloc (.cells #[.int .i64 0, .slice none 0 0, .slice none 0 0, .slice none 0 0, .int .i64 0, .int .i64 0] 68)
  generalize w.alloc (.cells #[.int .i64 0, .slice none 0 0, .slice none 0 0, .slice none 0 0, .int .i64 0, .int .i64 0] 68) = W at *
  generalize hP : w.heap.size = P at *
  have HB0 := Lib.hid b0; have HU := Lib.hid hu; have HP := Lib.hid hP
  obtain ⟨c0, c1, c2, c3, c4, c5⟩ := cells6 b0
  obtain ⟨z0, z1, z2, z3, z4, z5⟩ := free6 b0
  clear b0 hu hP
  go_wp2_with fail
  have p2 := stored6 HB0.out (.int .i64 0) (.slice none 0 0) (.slice none 0 0) (.slice none 0 0) (.int .i64 0) (.int .i64 0)
  have hU5 := upd_set6 W P (.int .i64 0) (.slice none 0 0) (.slice none 0 0) (.slice none 0 0) (.int .i64 0) (.int .i64 0)
  with_reducible generalize (((((W.setCell ⟨P, 0, none⟩ (.int .i64 0)).setCell ⟨P, 1, none⟩ (.slice none 0 0)).setCell ⟨P, 2, none⟩ (.slice none 0 0)).setCell ⟨P, 3, none⟩ (.slice none 0 0)).setCell ⟨P, 4, none⟩ (.int .i64 0)).setCell ⟨P, 5, none⟩ (.int .i64 0) = w4 at p2 hU5 ⊢
  obtain ⟨r0, r1, r2, r3, r4, r5⟩ := cells6 p2
  exact bodyPost_ret (v := encD ⟨0, nilS, ⟨[], none, 0⟩, nilS, 0, 0⟩) (by simp [encD, cellsD, nilS, results, Tryz.results60, go_sem, r0, r1, r2, r3, r4, r5]) rfl
    ⟨_, rfl, rfl, ⟨hasS_nil _ _, hasS_nil _ _, fun r hr => by simp at hr, hasS_nil _ _⟩, fun b _ => ⟨avS_nil _ _ _, avS_nil _ _ _, fun r hr => by simp at hr, avS_nil _ _ _⟩, HU.out.new hU5 (by have := HP.out; omega)⟩
end Go.Proofs.YtmfnfinbkdemkaaGreat
namespace Go.Proofs.YtmfnfinbkdemkaaGreat
open Go.RowKit Go.Lib

def outB (f t : Int) (it : It) : Bool := decide (it.t < f) || decide (t ≤ it.t)
/-- The index of the first that a test strikes, or -1. -/
def firstI (p : It → Bool) (l : List It) : Int := if l.any p then ((l.findIdx p : Nat) : Int) else -1
theorem firstI_at {p : It → Bool} {l : List It} {k : Nat} (hk : k < l.length) (h0 : ∀ j (hj : j < k), p (l[j]'(by omega)) = false) (h1 : p l[k] = true) : firstI p l = k := by
  have : l.findIdx p = k := (List.findIdx_eq hk).2 ⟨h1, fun j hj => by rw [h0 j hj]⟩
  rw [firstI, if_pos (List.any_eq_true.2 ⟨_, List.getElem_mem hk, h1⟩), this]
theorem firstI_none {p : It → Bool} {l : List It} (h : ∀ j (hj : j < l.length), p l[j] = false) : firstI p l = -1 := by
  rw [firstI, if_neg]
  intro ha
  obtain ⟨x, hx, h2⟩ := List.any_eq_true.1 ha
  obtain ⟨j, hj, rfl⟩ := List.mem_iff_getElem.1 hx
  rw [h j hj] at h2
  simp at h2
theorem firstI_ge {p : It → Bool} {l : List It} : decide (0 ≤ firstI p l) = l.any p := by
  unfold firstI
  by_cases h : l.any p = true
  · rw [if_pos h, h]; simp
  · rw [if_neg h]
    simp only [Bool.not_eq_true] at h
    rw [h]; decide
end Go.Proofs.YtmfnfinbkdemkaaGreat
namespace Go.Proofs.YtmfnfinbkdemkaaGreat
open Go.RowKit Go.Lib

def withinB (l : List It) (f t : Int) : Bool := !(l.any (outB f t))
theorem withinB_yes {l : List It} {f t : Int} : withinB l f t = true ↔ ∀ it ∈ l, f ≤ it.t ∧ it.t < t := by
  unfold withinB outB
  simp only [Bool.not_eq_true', List.any_eq_false, Bool.or_eq_true, decide_eq_true_eq]
  constructor
  · intro h it hit
    have := h it hit
    omega
  · intro h it hit
    have := h it hit
    omega
theorem boundR_take {b : Int} {rs : List Rg} {k : Nat} (h : k < rs.length) : boundR b (rs.take (k + 1)) = min (boundR b (rs.take k)) (curT rs[k]) := by
  rw [List.take_succ_eq_append_getElem h, boundR_append]
end Go.Proofs.YtmfnfinbkdemkaaGreat
namespace Go.Proofs.YtmfnfinbkdemkaaGreat
open Go.RowKit Go.Lib

set_option maxRecDepth 100000 in
set_option maxHeartbeats 4000000 in
theorem Grow_has (n : Nat) (w : World) (hn : n ≤ 100000) :
    Calls Tryz.prog 73 #[.slice none 0 0, .int .i64 n] w fun e w' => ∃ va vc, e = .returned (.slice va 0 vc) ∧ w'.ownsRow w.heap.size 36 3 (.slice va 0 vc) 0 [] ∧ Upd [] w w' := by
  by_cases h0 : 0 < n
  · obtain ⟨i0, z, b, hi0, hz0, hz1, hz2, hz3, hb⟩ := tyI.info
    have hz1' : i0.size = 3 := hz1
    have hold : (Builtin.firstCells i0.size 0 (.slice none 0 0)).run Tryz.prog w.drew = .ok ([] : List Value).toArray w.drew := run_firstCells_none w.drew _ 0 0 0
    obtain ⟨G, hG⟩ : ∃ G, G = grownCap w n 0 36 := ⟨_, rfl⟩
    obtain ⟨ROW, hROW⟩ : ∃ ROW : Array Value, ROW = ([] : List Value).toArray ++ Builtin.zeroCells z.cells n ++ Builtin.zeroCells z.cells (G - n) := ⟨_, rfl⟩
    have hrz : ∀ ty, (Builtin.append_ #[47, 3] ty #[.slice none 0 0, .int .i64 (n : Int)]).run Tryz.prog w = .ok (.slice (some ⟨w.heap.size, 0, none⟩) n G) (w.drew.alloc (.cells ROW 36)) := fun ty => by
      have h := Lib.run_append_grow_zeros (P := Tryz.prog) w 47 3 ty 36 i0 z .i64 .i64 Tryz.underlying47 Tryz.underlying3 hi0 hz0 none 0 0 [] hold n h0 (by omega) (by omega) (by omega) (by rw [hz2]; exact Nat.le_trans (Nat.mul_le_mul hn hb) (by decide)) (by
        rw [Nat.zero_add]
        exact growslice_fits h0 (by rw [hz2]; exact Nat.le_trans (Nat.mul_le_mul hn hb) (by decide)))
      rw [Nat.zero_add, ← hG, ← hROW] at h
      exact h
    have hGn : n ≤ G := by rw [hG]; exact grownCap_ge w _ _ _
    have hGm : G ≤ maxLen := by rw [hG]; exact grownCap_le_maxLen w n 0 36 (by unfold maxLen; omega)
    have hzs : z.cells.size = 3 := hz3
    have hRs : ROW.size = G * 3 := by
      rw [hROW]
      simp only [Array.size_append, zeroCells_size, hzs, List.size_toArray, List.length_nil]
      omega
    have HFN : Hid (∀ W', W' = (w.alloc (.cells ROW 36)).drew → W'.ownsRow w.heap.size 36 3 (.slice (some ⟨w.heap.size, 0, none⟩) 0 G) 0 [] ∧ Upd [] w W') := fun W' hW' => by
      subst hW'
      refine ⟨⟨rfl, .inr ⟨w.heap.size, G, ROW, rfl, Nat.le_refl _, heap_alloc1 w _, Nat.zero_le _, hGm, hRs, by simp⟩⟩, ((Upd.refl [] w).alloc _).drew⟩
    have hw1 : IntKind.i64.wrap (n : Int) = (n : Int) := by rw [IntKind.wrap_i64]; omega
    have hd0 : decide ((n : Int) < 0) = false := decide_eq_false (by omega)
    have hd1 : decide ((0 : Int) < (n : Int)) = true := decide_eq_true (by omega)
    have hd2 : decide (0 < n) = true := by simpa using h0
    have hG63 : G ≤ 9223372036854775807 := hGm
    clear hold hG hROW hGm hRs hz1' hz1 hz2 hz3 hzs hi0 hz0 hb
    go_enter Tryz.func73, Tryz.ntmps73
    go_wp2_with (at_builtin; refine Lib.wpList_append_run _ rfl _ _ _ _ rfl _ _ rfl rfl _ _ (hrz _) ?_)
    go_ret
    obtain ⟨h1, h2⟩ := HFN.out _ rfl
    exact ⟨_, _, rfl, h1, h2⟩
  · obtain rfl : n = 0 := by omega
    go_enter Tryz.func73, Tryz.ntmps73
    go_wp2_with fail
    go_ret
    exact ⟨_, _, rfl, World.ownsRow_nil _ _ _ _, Upd.refl _ _⟩
end Go.Proofs.YtmfnfinbkdemkaaGreat
namespace Go.Proofs.YtmfnfinbkdemkaaGreat
open Go.RowKit Go.Lib

theorem takeF_succ {bs : List (List It)} {k : Nat} (h : k < bs.length) : (bs.take (k + 1)).flatten = (bs.take k).flatten ++ bs[k] := by
  rw [List.take_succ_eq_append_getElem h, List.flatten_append]; simp
set_option maxRecDepth 100000 in
set_option maxHeartbeats 4000000 in
theorem Concat_has (bl : List (SlR It)) (ba : Option Addr) (bc : Nat) (w : World) (hb : Row LB w ba bl) (hi : ∀ s ∈ bl, HasS LI w s) (hn : bl.length ≤ 1000) (hs : lenL (rowsOf bl) ≤ 100000) :
    Calls Tryz.prog 47 #[.slice ba bl.length bc] w fun e w' => ∃ va vc, e = .returned (.slice va (lenL (rowsOf bl)) vc) ∧ w'.ownsRow w.heap.size 36 3 (.slice va (lenL (rowsOf bl)) vc) (lenL (rowsOf bl)) (LI.flat (rowsOf bl).flatten) ∧ Upd [] w w' := by
  have HB := Lib.hid hb; have HI := Lib.hid hi
  have HSU : Hid (∀ k (hk : k < bl.length), lenTo (rowsOf bl) (k + 1) = lenTo (rowsOf bl) k + bl[k].l.length) := fun k hk => by
    rw [lenTo_succ (by rw [rowsOf_length]; exact hk), rowsOf_get hk]
  have HLE : Hid (∀ k, lenTo (rowsOf bl) k ≤ 100000) := fun k => Nat.le_trans (lenTo_le _ _) hs
  have HZ : Hid (lenTo (rowsOf bl) 0 = 0) := lenTo_zero _
  have HALL : Hid (lenL (rowsOf bl) = lenTo (rowsOf bl) bl.length ∧ (rowsOf bl).flatten = ((rowsOf bl).take bl.length).flatten) := by
    have h1 : (rowsOf bl).length = bl.length := rowsOf_length bl
    constructor
    · rw [← h1, lenTo_all]
    · rw [← h1, List.take_length]
  have HFL : Hid (∀ k (hk : k < bl.length), ((rowsOf bl).take (k + 1)).flatten = ((rowsOf bl).take k).flatten ++ bl[k].l) := fun k hk => by
    rw [takeF_succ (by rw [rowsOf_length]; exact hk), rowsOf_get hk]
  have HF0 : Hid (LI.flat ((rowsOf bl).take 0).flatten = []) := rfl
  have HGR := Lib.hid (fun W => Grow_has (lenTo (rowsOf bl) bl.length) W (HLE.out _))
  rw [HALL.out.1, HALL.out.2]
  obtain ⟨n, hnn⟩ : ∃ n, n = bl.length := ⟨_, rfl⟩
  have HN := Lib.hid hnn
  rw [← hnn] at hn HGR ⊢
  generalize hf : lenTo (rowsOf bl) = f at *
  generalize hg : (fun k => ((rowsOf bl).take k).flatten) = g at *
  have hge : ∀ k, ((rowsOf bl).take k).flatten = g k := fun k => by rw [← hg]
  simp only [hge] at HFL HF0 ⊢
  clear hb hi hs HALL hnn hf hg hge
  have hln := HLE.out n
  go_enter Tryz.func47, Tryz.ntmps47
  go_wp2_with fail
  go_loopg [3, 11] n (fun gk vs vi wr => ∃ k : Nat, vi = .int .i64 k ∧ vs = .int .i64 (f k) ∧ k + gk = n ∧ w = wr)
  case atStart => exact ⟨0, rfl, by rw [HZ.out]; rfl, by omega, rfl⟩
  case round =>
    obtain ⟨k, rfl, rfl, hkg, rfl⟩ := hrel
    by_cases hlt : k < n
    · have hltz : (k : Int) < (n : Int) := by omega
      have hk1 : k < bl.length := by have := HN.out; omega
      obtain ⟨b, off, hbo, b0⟩ := HB.out.bucket k hk1
      subst hbo
      have HSK := Lib.hid (HSU.out k hk1)
      have hle1 := HLE.out (k + 1)
      rw [HSK.out] at hle1
      generalize bl[k].l.length = m at *
      have hw : IntKind.i64.wrap ((f k : Int) + (m : Int)) = ((f k + m : Nat) : Int) := by rw [IntKind.wrap_i64]; omega
      have hd : decide (((f k + m : Nat) : Int) < 0) = false := decide_eq_false (by omega)
      go_wp2_with fail
      go_roundg (gk - 1)
      case measure => omega
      case rel => exact ⟨k + 1, by go_num, by rw [HSK.out]; go_num, by omega, rfl⟩
    · have hltz : ¬ (k : Int) < (n : Int) := by omega
      obtain rfl : k = n := by omega
      go_wp2_with (go_at_call 73; (with_reducible refine (HGR.out _).mono ?_); rintro e w1 ⟨va, vc, rfl, hown, hu1⟩; have HO := Lib.hid hown; have HU1 := Lib.hid hu1; clear hown hu1)
      have HST : Hid (w1.ownsRow w.heap.size 36 3 (.slice va (f 0) vc) (f 0) (LI.flat (g 0))) := by rw [HZ.out, HF0.out]; exact HO.out
      go_loopg [6, 27] k (fun gj va' vi wr => ∃ (j : Nat) (va : Option Addr) (vc : Nat), vi = .int .i64 j ∧ va' = .slice va (f j) vc ∧ j + gj = k ∧ Hid (wr.ownsRow w.heap.size 36 3 (.slice va (f j) vc) (f j) (LI.flat (g j))) ∧ Hid (Upd [] w wr))
      case atStart => exact ⟨0, va, vc, rfl, by rw [HZ.out], by omega, HST, HU1⟩
      case round =>
        obtain ⟨j, va, vc, rfl, rfl, hjg, HOW, HUR⟩ := hrel
        by_cases hlt : j < k
        · have hltz : (j : Int) < (k : Int) := by omega
          have hk1 : j < bl.length := by have := HN.out; omega
          obtain ⟨b, off, hbo, b0⟩ := (HB.out.stay HUR.out).bucket j hk1
          subst hbo
          have hij := (HI.out _ (List.getElem_mem hk1)).stay HUR.out
          have HSK := Lib.hid (HSU.out j hk1)
          have HFK := Lib.hid (HFL.out j hk1)
          have hle1 := HLE.out (j + 1)
          rw [HSK.out] at hle1
          have HIR := Lib.hid hij.row; have HIN := Lib.hid hij.nn
          have hbw : w.heap.size ≤ wr.heap.size := HUR.out.size
          clear hij
          generalize bl[j].l = il at *
          generalize bl[j].ad = ia at *
          generalize bl[j].cap = ic at *
          go_wp2_with (at_builtin; refine app_row tyI rfl _ _ rfl w.heap.size (.slice va (f j) vc) (f j) (g j) rfl HOW.out ia il.length ic il rfl rfl HIR.out HIN.out (by omega) hbw ?_; intro v' w2 hown hgrow; obtain ⟨va2, vc2, rfl⟩ := row_shape hown; have HO2 := Lib.hid hown; have HU2 : Hid (Upd [] w w2) := HUR.out.grown hgrow (fun x hx hl => (by have := own_ge HOW.out x hx; omega)); clear hown hgrow)
          go_roundg (k - (j + 1))
          case measure => omega
          case rel => exact ⟨j + 1, va2, vc2, by go_num, by rw [HSK.out], by omega, by rw [HSK.out, HFK.out]; exact HO2.out, HU2⟩
        · have hltz : ¬ (j : Int) < (k : Int) := by omega
          obtain rfl : j = k := by omega
          go_wp2_with fail
          go_ret
          exact ⟨va, vc, rfl, HOW.out, HUR.out⟩
end Go.Proofs.YtmfnfinbkdemkaaGreat
