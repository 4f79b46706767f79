/- Contract: slices.Concat over rows of items. -/
import Derived.Test.YtneodiemgemhfaaLD
namespace Go.Proofs.Ytneodiemgemhfaa
open Go.RowKit Go.Lib

theorem takeF_succ {bs : List (List It)} {k : Nat} (h : k < bs.length) : (bs.take (k + 1)).flatten = (bs.take k).flatten ++ bs[k] := by
  rw [List.take_succ_eq_append_getElem h, List.flatten_append]; simp
set_option maxRecDepth 100000 in
set_option maxHeartbeats 4000000 in
theorem Concat_has (bl : List (SlR It)) (ba : Option Addr) (bc : Nat) (w : World) (hb : Row LB w ba bl) (hi : ∀ s ∈ bl, HasS LI w s) (hn : bl.length ≤ 1000) (hs : lenL (rowsOf bl) ≤ 100000) :
    Calls Try.prog 44 #[.slice ba bl.length bc] w fun e w' => ∃ va vc, e = .returned (.slice va (lenL (rowsOf bl)) vc) ∧ w'.ownsRow w.heap.size 34 3 (.slice va (lenL (rowsOf bl)) vc) (lenL (rowsOf bl)) (LI.flat (rowsOf bl).flatten) ∧ Upd [] w w' := by
  have HB := Lib.hid hb; have HI := Lib.hid hi
  have HSU : Hid (∀ k (hk : k < bl.length), lenTo (rowsOf bl) (k + 1) = lenTo (rowsOf bl) k + bl[k].l.length) := fun k hk => by
    rw [lenTo_succ (by rw [rowsOf_length]; exact hk), rowsOf_get hk]
  have HLE : Hid (∀ k, lenTo (rowsOf bl) k ≤ 100000) := fun k => Nat.le_trans (lenTo_le _ _) hs
  have HZ : Hid (lenTo (rowsOf bl) 0 = 0) := lenTo_zero _
  have HALL : Hid (lenL (rowsOf bl) = lenTo (rowsOf bl) bl.length ∧ (rowsOf bl).flatten = ((rowsOf bl).take bl.length).flatten) := by
    have h1 : (rowsOf bl).length = bl.length := rowsOf_length bl
    constructor
    · rw [← h1, lenTo_all]
    · rw [← h1, List.take_length]
  have HFL : Hid (∀ k (hk : k < bl.length), ((rowsOf bl).take (k + 1)).flatten = ((rowsOf bl).take k).flatten ++ bl[k].l) := fun k hk => by
    rw [takeF_succ (by rw [rowsOf_length]; exact hk), rowsOf_get hk]
  have HF0 : Hid (LI.flat ((rowsOf bl).take 0).flatten = []) := rfl
  have HGR := Lib.hid (fun W => Grow_has (lenTo (rowsOf bl) bl.length) W (HLE.out _))
  rw [HALL.out.1, HALL.out.2]
  obtain ⟨n, hnn⟩ : ∃ n, n = bl.length := ⟨_, rfl⟩
  have HN := Lib.hid hnn
  rw [← hnn] at hn HGR ⊢
  generalize hf : lenTo (rowsOf bl) = f at *
  generalize hg : (fun k => ((rowsOf bl).take k).flatten) = g at *
  have hge : ∀ k, ((rowsOf bl).take k).flatten = g k := fun k => by rw [← hg]
  simp only [hge] at HFL HF0 ⊢
  clear hb hi hs HALL hnn hf hg hge
  have hln := HLE.out n
  go_enter Try.func44, Try.ntmps44
  go_wp2_with fail
  go_loopg [3, 11] n (fun gk vs vi wr => ∃ k : Nat, vi = .int .i64 k ∧ vs = .int .i64 (f k) ∧ k + gk = n ∧ w = wr)
  case atStart => exact ⟨0, rfl, by rw [HZ.out]; rfl, by omega, rfl⟩
  case round =>
    obtain ⟨k, rfl, rfl, hkg, rfl⟩ := hrel
    by_cases hlt : k < n
    · have hltz : (k : Int) < (n : Int) := by omega
      have hk1 : k < bl.length := by have := HN.out; omega
      obtain ⟨b, off, hbo, b0⟩ := HB.out.bucket k hk1
      subst hbo
      have HSK := Lib.hid (HSU.out k hk1)
      have hle1 := HLE.out (k + 1)
      rw [HSK.out] at hle1
      generalize bl[k].l.length = m at *
      have hw : IntKind.i64.wrap ((f k : Int) + (m : Int)) = ((f k + m : Nat) : Int) := by rw [IntKind.wrap_i64]; omega
      have hd : decide (((f k + m : Nat) : Int) < 0) = false := decide_eq_false (by omega)
      go_wp2_with fail
      go_roundg (gk - 1)
      case measure => omega
      case rel => exact ⟨k + 1, by go_num, by rw [HSK.out]; go_num, by omega, rfl⟩
    · have hltz : ¬ (k : Int) < (n : Int) := by omega
      obtain rfl : k = n := by omega
      go_wp2_with (go_at_call 59; (with_reducible refine (HGR.out _).mono ?_); rintro e w1 ⟨va, vc, rfl, hown, hu1⟩; have HO := Lib.hid hown; have HU1 := Lib.hid hu1; clear hown hu1)
      have HST : Hid (w1.ownsRow w.heap.size 34 3 (.slice va (f 0) vc) (f 0) (LI.flat (g 0))) := by rw [HZ.out, HF0.out]; exact HO.out
      go_loopg [6, 27] k (fun gj va' vi wr => ∃ (j : Nat) (va : Option Addr) (vc : Nat), vi = .int .i64 j ∧ va' = .slice va (f j) vc ∧ j + gj = k ∧ Hid (wr.ownsRow w.heap.size 34 3 (.slice va (f j) vc) (f j) (LI.flat (g j))) ∧ Hid (Upd [] w wr))
      case atStart => exact ⟨0, va, vc, rfl, by rw [HZ.out], by omega, HST, HU1⟩
      case round =>
        obtain ⟨j, va, vc, rfl, rfl, hjg, HOW, HUR⟩ := hrel
        by_cases hlt : j < k
        · have hltz : (j : Int) < (k : Int) := by omega
          have hk1 : j < bl.length := by have := HN.out; omega
          obtain ⟨b, off, hbo, b0⟩ := (HB.out.stay HUR.out).bucket j hk1
          subst hbo
          have hij := (HI.out _ (List.getElem_mem hk1)).stay HUR.out
          have HSK := Lib.hid (HSU.out j hk1)
          have HFK := Lib.hid (HFL.out j hk1)
          have hle1 := HLE.out (j + 1)
          rw [HSK.out] at hle1
          have HIR := Lib.hid hij.row; have HIN := Lib.hid hij.nn
          have hbw : w.heap.size ≤ wr.heap.size := HUR.out.size
          clear hij
          generalize bl[j].l = il at *
          generalize bl[j].ad = ia at *
          generalize bl[j].cap = ic at *
          go_wp2_with (at_builtin; refine app_row tyI rfl _ _ rfl w.heap.size (.slice va (f j) vc) (f j) (g j) rfl HOW.out ia il.length ic il rfl rfl HIR.out HIN.out (by omega) hbw ?_; intro v' w2 hown hgrow; obtain ⟨va2, vc2, rfl⟩ := row_shape hown; have HO2 := Lib.hid hown; have HU2 : Hid (Upd [] w w2) := HUR.out.grown hgrow (fun x hx hl => (by have := own_ge HOW.out x hx; omega)); clear hown hgrow)
          go_roundg (k - (j + 1))
          case measure => omega
          case rel => exact ⟨j + 1, va2, vc2, by go_num, by rw [HSK.out], by omega, by rw [HSK.out, HFK.out]; exact HO2.out, HU2⟩
        · have hltz : ¬ (j : Int) < (k : Int) := by omega
          obtain rfl : j = k := by omega
          go_wp2_with fail
          go_ret
          exact ⟨va, vc, rfl, HOW.out, HUR.out⟩
end Go.Proofs.Ytneodiemgemhfaa
