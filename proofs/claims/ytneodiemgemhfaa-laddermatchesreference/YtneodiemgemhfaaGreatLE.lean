/- Contracts: ContainsFunc, within, bound. -/
/- Contracts: slices.Grow of nil, slices.Concat over rows of items. -/
/- Contract: slices.Concat over rows of items. -/
import Derived.Test.YtneodiemgemhfaaGreatLB
namespace Go.Proofs.YtneodiemgemhfaaGreat
open Go.RowKit Go.Lib

set_option maxRecDepth 100000 in
set_option maxHeartbeats 2000000 in
theorem ContainsFunc_has (a : Option Addr) (c : Nat) (l : List It) (A B : Nat) (f t : Int) (w : World) (hr : Row LI w a l) (hl : l.length ≤ 1000000) (hA : w.cell? ⟨A, 0, none⟩ = some (.int .i64 f)) (hB : w.cell? ⟨B, 0, none⟩ = some (.int .i64 t)) :
    Calls Tryz.prog 89 #[.slice a l.length c, .func (.func 90) #[] #[.pointer (some ⟨A, 0, none⟩), .pointer (some ⟨B, 0, none⟩)]] w fun e w' => e = .returned (.bool (l.any (outB f t))) ∧ Upd [] w w' := by
  have HC := Lib.hid (IndexFunc_has a c l A B f t w hr hl hA hB)
  rw [← firstI_ge]
  generalize firstI (outB f t) l = r at *
  generalize l.length = n at *
  clear hr hA hB
  go_enter Tryz.func89, Tryz.ntmps89
  go_wp2_with (go_at_call 103; (with_reducible refine HC.out.mono ?_); rintro e w1 ⟨rfl, hu1⟩; have HU1 := Lib.hid hu1; clear hu1)
  go_ret
  exact ⟨rfl, HU1.out⟩
def withinB (l : List It) (f t : Int) : Bool := !(l.any (outB f t))
theorem withinB_yes {l : List It} {f t : Int} : withinB l f t = true ↔ ∀ it ∈ l, f ≤ it.t ∧ it.t < t := by
  unfold withinB outB
  simp only [Bool.not_eq_true', List.any_eq_false, Bool.or_eq_true, decide_eq_true_eq]
  constructor
  · intro h it hit
    have := h it hit
    omega
  · intro h it hit
    have := h it hit
    omega
set_option maxRecDepth 100000 in
set_option maxHeartbeats 2000000 in
theorem within_has (a : Option Addr) (c : Nat) (l : List It) (f t : Int) (w : World) (hr : Row LI w a l) (hl : l.length ≤ 1000000) :
    Calls Tryz.prog 62 #[.slice a l.length c, .int .i64 f, .int .i64 t] w fun e w' => e = .returned (.bool (withinB l f t)) ∧ Upd [] w w' := by
  have HR := Lib.hid hr
  have HC := Lib.hid (fun A B W (hu : Upd [] w W) => ContainsFunc_has a c l A B f t W (hr.stay hu) hl)
  unfold withinB
  generalize l.any (outB f t) = r at *
  generalize l.length = n at *
  clear hr
  go_enter Tryz.func62, Tryz.ntmps62
  go_upto_region 1 with (fail)
  generalize hA : (Obj.cells #[.int .i64 f] 3 : Obj) = A
  generalize hB : (Obj.cells #[.int .i64 t] 3 : Obj) = B
  obtain ⟨hu, b0, b1, hsz⟩ := two_boxes w A B
  generalize (w.alloc A).alloc B = W at *
  generalize w.heap.size = H at *
  rw [← hA] at b0
  rw [← hB] at b1
  have HC2 := Lib.hid (HC.out H (H + 1) W hu (by rw [cell_block b0]; rfl) (by rw [cell_block b1]; rfl))
  have HU := Lib.hid hu
  clear hu hA hB b0 b1 hsz
  go_wp2_with (go_at_call 89; (with_reducible refine HC2.out.mono ?_); rintro e w1 ⟨rfl, hu1⟩; have HU1 := Lib.hid (HU.out.thn hu1); clear hu1)
  go_ret
  exact ⟨rfl, HU1.out⟩
theorem boundR_take {b : Int} {rs : List Rg} {k : Nat} (h : k < rs.length) : boundR b (rs.take (k + 1)) = min (boundR b (rs.take k)) (curT rs[k]) := by
  rw [List.take_succ_eq_append_getElem h, boundR_append]
set_option maxRecDepth 100000 in
set_option maxHeartbeats 4000000 in
theorem bound_has (l : LdR) (m : Nat) (w : World) (h : HasD w l) (hm : m ≤ l.rs.l.length) (hl : l.rs.l.length ≤ 1000000) (hg : ∀ j (hj : j < l.rs.l.length), j < m → GoodR (l.rs.l[j]).rg) :
    Calls Tryz.prog 63 #[encD l, .int .i64 m] w fun e w' => e = .returned (.int .i64 (boundR l.ts ((l.rs.l.map RgR.rg).take m))) ∧ Upd [] w w' := by
  obtain ⟨ts, ⟨tl, ta, tc⟩, ⟨rl, ra, rc⟩, ⟨bl, ba, bc⟩, mv, cp⟩ := l
  have HD := Lib.hid h
  have hle : rl.length ≤ rc := h.rs.le
  have HG := Lib.hid hg
  have HSU : Hid (∀ k (hk : k < rl.length), boundR ts ((rl.map RgR.rg).take (k + 1)) = min (boundR ts ((rl.map RgR.rg).take k)) (curT rl[k].rg)) := fun k hk => by
    rw [boundR_take (by simpa using hk)]; simp
  have HZ : Hid (boundR ts ((rl.map RgR.rg).take 0) = ts) := rfl
  unfold encD cellsD
  simp only at hm hl HG ⊢
  generalize hf : (fun k => boundR ts ((rl.map RgR.rg).take k)) = bf at *
  have hfe : ∀ k, boundR ts ((rl.map RgR.rg).take k) = bf k := fun k => by rw [← hf]
  simp only [hfe] at HSU HZ ⊢
  clear hf hfe h hg
  obtain ⟨n, hn⟩ : ∃ n, n = rl.length := ⟨_, rfl⟩
  have HN := Lib.hid hn
  rw [← hn] at hm hl hle ⊢
  generalize tl.length = tn at *
  generalize bl.length = bn at *
  clear hn
  have hmc : m ≤ rc := by omega
  go_enter Tryz.func63, Tryz.ntmps63
  go_upto_region 1 with (fail)
  have hu := (Upd.refl [] w).alloc (.cells #[.int .i64 ts, .slice ta tn tc, .slice ra n rc, .slice ba bn bc, .int .i64 mv, .int .i64 cp] 25)
  have b0 := heap_alloc1 w (.cells #[.int .i64 ts, .slice ta tn tc, .slice ra n rc, .slice ba bn bc, .int .i64 mv, .int .i64 cp] 25)
  generalize w.alloc (.cells #[.int .i64 ts, .slice ta tn tc, .slice ra n rc, .slice ba bn bc, .int .i64 mv, .int .i64 cp] 25) = W at *
  generalize w.heap.size = P at *
  have HU := Lib.hid hu; have HB0 := Lib.hid b0
  obtain ⟨c0, c1, c2, c3, c4, c5⟩ := cells6 b0
  clear hu b0
  go_wp2_with fail
  clear c0 c1 c2 c3 c4 c5
  go_loopg [5, 15] m (fun gk vb vi wr => ∃ k : Nat, vi = .int .i64 k ∧ vb = .int .i64 (bf k) ∧ k + gk = m ∧ Hid (Upd [] W wr))
  case atStart => exact ⟨0, rfl, by rw [HZ.out], by omega, Upd.refl _ _⟩
  case round =>
    obtain ⟨k, rfl, rfl, hkg, HUR⟩ := hrel
    by_cases hlt : k < m
    · have hltz : (k : Int) < (m : Int) := by omega
      have hk1 : k < rl.length := by have := HN.out; omega
      have HSK := Lib.hid (HSU.out k hk1)
      have hD := HD.out.stay (HU.out.thn HUR.out)
      obtain ⟨b, off, hbo, x0, x1, x2, x3⟩ := hD.rs.row.rung k hk1
      simp only at hbo x0 x1 x2 x3
      subst hbo
      have HCU := Lib.hid (fun W' => Current_has rl[k] W' (HG.out k hk1 hlt))
      unfold encR at HCU
      generalize curT rl[k].rg = ct at *
      generalize rl[k].bk.l.length = y at *
      generalize rl[k].bk.ad = yad at *
      generalize rl[k].bk.cap = yc at *
      generalize rl[k].fr = yf at *
      generalize rl[k].wd = yw at *
      generalize rl[k].cu = yu at *
      clear hD
      go_upto_region 5 with (fail)
      have bq := heap_alloc1 wr (.cells #[.int .i64 yf, .int .i64 yw, .int .i64 yu, .slice yad y yc] 53)
      have hu4 := (Upd.refl [] wr).alloc (.cells #[.int .i64 yf, .int .i64 yw, .int .i64 yu, .slice yad y yc] 53)
      generalize wr.alloc (.cells #[.int .i64 yf, .int .i64 yw, .int .i64 yu, .slice yad y yc] 53) = W4 at *
      generalize wr.heap.size = Q at *
      clear x0 x1 x2 x3
      obtain ⟨x0, x1, x2, x3⟩ := cells4 bq
      have HU4 := Lib.hid hu4
      clear bq hu4
      go_wp2_with (go_at_call 44; (with_reducible refine (HCU.out _).mono ?_); rintro e w1 ⟨rfl, hu1⟩; have HU1 := Lib.hid ((HUR.out.thn HU4.out).thn hu1); clear hu1)
      go_roundg (m - (k + 1))
      case measure => omega
      case rel => exact ⟨k + 1, by go_num, by rw [HSK.out], by omega, HU1⟩
    · have hltz : ¬ (k : Int) < (m : Int) := by omega
      obtain rfl : m = k := by omega
      go_wp2_with fail
      go_ret
      exact ⟨rfl, HU.out.thn HUR.out⟩
end Go.Proofs.YtneodiemgemhfaaGreat
namespace Go.Proofs.YtneodiemgemhfaaGreat
open Go.RowKit Go.Lib

set_option maxRecDepth 100000 in
set_option maxHeartbeats 4000000 in
theorem Grow_has (n : Nat) (w : World) (hn : n ≤ 100000) :
    Calls Tryz.prog 93 #[.slice none 0 0, .int .i64 n] w fun e w' => ∃ va vc, e = .returned (.slice va 0 vc) ∧ w'.ownsRow w.heap.size 36 3 (.slice va 0 vc) 0 [] ∧ Upd [] w w' := by
  by_cases h0 : 0 < n
  · obtain ⟨i0, z, b, hi0, hz0, hz1, hz2, hz3, hb⟩ := tyI.info
    have hz1' : i0.size = 3 := hz1
    have hold : (Builtin.firstCells i0.size 0 (.slice none 0 0)).run Tryz.prog w.drew = .ok ([] : List Value).toArray w.drew := run_firstCells_none w.drew _ 0 0 0
    obtain ⟨G, hG⟩ : ∃ G, G = grownCap w n 0 36 := ⟨_, rfl⟩
    obtain ⟨ROW, hROW⟩ : ∃ ROW : Array Value, ROW = ([] : List Value).toArray ++ Builtin.zeroCells z.cells n ++ Builtin.zeroCells z.cells (G - n) := ⟨_, rfl⟩
    have hrz : ∀ ty, (Builtin.append_ #[22, 3] ty #[.slice none 0 0, .int .i64 (n : Int)]).run Tryz.prog w = .ok (.slice (some ⟨w.heap.size, 0, none⟩) n G) (w.drew.alloc (.cells ROW 36)) := fun ty => by
      have h := Lib.run_append_grow_zeros (P := Tryz.prog) w 22 3 ty 36 i0 z .i64 .i64 Tryz.underlying22 Tryz.underlying3 hi0 hz0 none 0 0 [] hold n h0 (by omega) (by omega) (by omega) (by rw [hz2]; exact Nat.le_trans (Nat.mul_le_mul hn hb) (by decide)) (by
        rw [Nat.zero_add]
        exact growslice_fits h0 (by rw [hz2]; exact Nat.le_trans (Nat.mul_le_mul hn hb) (by decide)))
      rw [Nat.zero_add, ← hG, ← hROW] at h
      exact h
    have hGn : n ≤ G := by rw [hG]; exact grownCap_ge w _ _ _
    have hGm : G ≤ maxLen := by rw [hG]; exact grownCap_le_maxLen w n 0 36 (by unfold maxLen; omega)
    have hzs : z.cells.size = 3 := hz3
    have hRs : ROW.size = G * 3 := by
      rw [hROW]
      simp only [Array.size_append, zeroCells_size, hzs, List.size_toArray, List.length_nil]
      omega
    have HFN : Hid (∀ W', W' = (w.alloc (.cells ROW 36)).drew → W'.ownsRow w.heap.size 36 3 (.slice (some ⟨w.heap.size, 0, none⟩) 0 G) 0 [] ∧ Upd [] w W') := fun W' hW' => by
      subst hW'
      refine ⟨⟨rfl, .inr ⟨w.heap.size, G, ROW, rfl, Nat.le_refl _, heap_alloc1 w _, Nat.zero_le _, hGm, hRs, by simp⟩⟩, ((Upd.refl [] w).alloc _).drew⟩
    have hw1 : IntKind.i64.wrap (n : Int) = (n : Int) := by rw [IntKind.wrap_i64]; omega
    have hd0 : decide ((n : Int) < 0) = false := decide_eq_false (by omega)
    have hd1 : decide ((0 : Int) < (n : Int)) = true := decide_eq_true (by omega)
    have hd2 : decide (0 < n) = true := by simpa using h0
    have hG63 : G ≤ 9223372036854775807 := hGm
    clear hold hG hROW hGm hRs hz1' hz1 hz2 hz3 hzs hi0 hz0 hb
    go_enter Tryz.func93, Tryz.ntmps93
    go_wp2_with (at_builtin; refine Lib.wpList_append_run _ rfl _ _ _ _ rfl _ _ rfl rfl _ _ (hrz _) ?_)
    go_ret
    obtain ⟨h1, h2⟩ := HFN.out _ rfl
    exact ⟨_, _, rfl, h1, h2⟩
  · obtain rfl : n = 0 := by omega
    go_enter Tryz.func93, Tryz.ntmps93
    go_wp2_with fail
    go_ret
    exact ⟨_, _, rfl, World.ownsRow_nil _ _ _ _, Upd.refl _ _⟩
end Go.Proofs.YtneodiemgemhfaaGreat
namespace Go.Proofs.YtneodiemgemhfaaGreat
open Go.RowKit Go.Lib

theorem takeF_succ {bs : List (List It)} {k : Nat} (h : k < bs.length) : (bs.take (k + 1)).flatten = (bs.take k).flatten ++ bs[k] := by
  rw [List.take_succ_eq_append_getElem h, List.flatten_append]; simp
set_option maxRecDepth 100000 in
set_option maxHeartbeats 4000000 in
theorem Concat_has (bl : List (SlR It)) (ba : Option Addr) (bc : Nat) (w : World) (hb : Row LB w ba bl) (hi : ∀ s ∈ bl, HasS LI w s) (hn : bl.length ≤ 1000) (hs : lenL (rowsOf bl) ≤ 100000) :
    Calls Tryz.prog 66 #[.slice ba bl.length bc] w fun e w' => ∃ va vc, e = .returned (.slice va (lenL (rowsOf bl)) vc) ∧ w'.ownsRow w.heap.size 36 3 (.slice va (lenL (rowsOf bl)) vc) (lenL (rowsOf bl)) (LI.flat (rowsOf bl).flatten) ∧ Upd [] w w' := by
  have HB := Lib.hid hb; have HI := Lib.hid hi
  have HSU : Hid (∀ k (hk : k < bl.length), lenTo (rowsOf bl) (k + 1) = lenTo (rowsOf bl) k + bl[k].l.length) := fun k hk => by
    rw [lenTo_succ (by rw [rowsOf_length]; exact hk), rowsOf_get hk]
  have HLE : Hid (∀ k, lenTo (rowsOf bl) k ≤ 100000) := fun k => Nat.le_trans (lenTo_le _ _) hs
  have HZ : Hid (lenTo (rowsOf bl) 0 = 0) := lenTo_zero _
  have HALL : Hid (lenL (rowsOf bl) = lenTo (rowsOf bl) bl.length ∧ (rowsOf bl).flatten = ((rowsOf bl).take bl.length).flatten) := by
    have h1 : (rowsOf bl).length = bl.length := rowsOf_length bl
    constructor
    · rw [← h1, lenTo_all]
    · rw [← h1, List.take_length]
  have HFL : Hid (∀ k (hk : k < bl.length), ((rowsOf bl).take (k + 1)).flatten = ((rowsOf bl).take k).flatten ++ bl[k].l) := fun k hk => by
    rw [takeF_succ (by rw [rowsOf_length]; exact hk), rowsOf_get hk]
  have HF0 : Hid (LI.flat ((rowsOf bl).take 0).flatten = []) := rfl
  have HGR := Lib.hid (fun W => Grow_has (lenTo (rowsOf bl) bl.length) W (HLE.out _))
  rw [HALL.out.1, HALL.out.2]
  obtain ⟨n, hnn⟩ : ∃ n, n = bl.length := ⟨_, rfl⟩
  have HN := Lib.hid hnn
  rw [← hnn] at hn HGR ⊢
  generalize hf : lenTo (rowsOf bl) = f at *
  generalize hg : (fun k => ((rowsOf bl).take k).flatten) = g at *
  have hge : ∀ k, ((rowsOf bl).take k).flatten = g k := fun k => by rw [← hg]
  simp only [hge] at HFL HF0 ⊢
  clear hb hi hs HALL hnn hf hg hge
  have hln := HLE.out n
  go_enter Tryz.func66, Tryz.ntmps66
  go_wp2_with fail
  go_loopg [3, 11] n (fun gk vs vi wr => ∃ k : Nat, vi = .int .i64 k ∧ vs = .int .i64 (f k) ∧ k + gk = n ∧ w = wr)
  case atStart => exact ⟨0, rfl, by rw [HZ.out]; rfl, by omega, rfl⟩
  case round =>
    obtain ⟨k, rfl, rfl, hkg, rfl⟩ := hrel
    by_cases hlt : k < n
    · have hltz : (k : Int) < (n : Int) := by omega
      have hk1 : k < bl.length := by have := HN.out; omega
      obtain ⟨b, off, hbo, b0⟩ := HB.out.bucket k hk1
      subst hbo
      have HSK := Lib.hid (HSU.out k hk1)
      have hle1 := HLE.out (k + 1)
      rw [HSK.out] at hle1
      generalize bl[k].l.length = m at *
      have hw : IntKind.i64.wrap ((f k : Int) + (m : Int)) = ((f k + m : Nat) : Int) := by rw [IntKind.wrap_i64]; omega
      have hd : decide (((f k + m : Nat) : Int) < 0) = false := decide_eq_false (by omega)
      go_wp2_with fail
      go_roundg (gk - 1)
      case measure => omega
      case rel => exact ⟨k + 1, by go_num, by rw [HSK.out]; go_num, by omega, rfl⟩
    · have hltz : ¬ (k : Int) < (n : Int) := by omega
      obtain rfl : k = n := by omega
      go_wp2_with (go_at_call 93; (with_reducible refine (HGR.out _).mono ?_); rintro e w1 ⟨va, vc, rfl, hown, hu1⟩; have HO := Lib.hid hown; have HU1 := Lib.hid hu1; clear hown hu1)
      have HST : Hid (w1.ownsRow w.heap.size 36 3 (.slice va (f 0) vc) (f 0) (LI.flat (g 0))) := by rw [HZ.out, HF0.out]; exact HO.out
      go_loopg [6, 27] k (fun gj va' vi wr => ∃ (j : Nat) (va : Option Addr) (vc : Nat), vi = .int .i64 j ∧ va' = .slice va (f j) vc ∧ j + gj = k ∧ Hid (wr.ownsRow w.heap.size 36 3 (.slice va (f j) vc) (f j) (LI.flat (g j))) ∧ Hid (Upd [] w wr))
      case atStart => exact ⟨0, va, vc, rfl, by rw [HZ.out], by omega, HST, HU1⟩
      case round =>
        obtain ⟨j, va, vc, rfl, rfl, hjg, HOW, HUR⟩ := hrel
        by_cases hlt : j < k
        · have hltz : (j : Int) < (k : Int) := by omega
          have hk1 : j < bl.length := by have := HN.out; omega
          obtain ⟨b, off, hbo, b0⟩ := (HB.out.stay HUR.out).bucket j hk1
          subst hbo
          have hij := (HI.out _ (List.getElem_mem hk1)).stay HUR.out
          have HSK := Lib.hid (HSU.out j hk1)
          have HFK := Lib.hid (HFL.out j hk1)
          have hle1 := HLE.out (j + 1)
          rw [HSK.out] at hle1
          have HIR := Lib.hid hij.row; have HIN := Lib.hid hij.nn
          have hbw : w.heap.size ≤ wr.heap.size := HUR.out.size
          clear hij
          generalize bl[j].l = il at *
          generalize bl[j].ad = ia at *
          generalize bl[j].cap = ic at *
          go_wp2_with (at_builtin; refine app_row tyI rfl _ _ rfl w.heap.size (.slice va (f j) vc) (f j) (g j) rfl HOW.out ia il.length ic il rfl rfl HIR.out HIN.out (by omega) hbw ?_; intro v' w2 hown hgrow; obtain ⟨va2, vc2, rfl⟩ := row_shape hown; have HO2 := Lib.hid hown; have HU2 : Hid (Upd [] w w2) := HUR.out.grown hgrow (fun x hx hl => (by have := own_ge HOW.out x hx; omega)); clear hown hgrow)
          go_roundg (k - (j + 1))
          case measure => omega
          case rel => exact ⟨j + 1, va2, vc2, by go_num, by rw [HSK.out], by omega, by rw [HSK.out, HFK.out]; exact HO2.out, HU2⟩
        · have hltz : ¬ (j : Int) < (k : Int) := by omega
          obtain rfl : j = k := by omega
          go_wp2_with fail
          go_ret
          exact ⟨va, vc, rfl, HOW.out, HUR.out⟩
end Go.Proofs.YtneodiemgemhfaaGreat
