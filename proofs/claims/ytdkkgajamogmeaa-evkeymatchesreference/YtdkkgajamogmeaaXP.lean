/- EvkeyItems, walked. -/
import Derived.Test.YtdkkgajamogmeaaXO
namespace Go.Proofs.Ytdkkgajamogmeaa
open Go.Shelf Go.RowKit Go.Sort Go.Lib

def itCells (i : It) : Array Value := #[.int .i64 i.time, .int .i64 i.seq, .int .i64 i.slot]
/-- Three items in boxes. -/
structure Box3 (w : World) (a b c : It) (wr : World) : Prop where
  b0 : wr.heap[w.heap.size]? = some (.cells (itCells a) 23 (0, 0))
  b1 : wr.heap[w.heap.size + 1]? = some (.cells (itCells b) 23 (0, 0))
  b2 : wr.heap[w.heap.size + 1 + 1]? = some (.cells (itCells c) 23 (0, 0))
  upd : Upd [] w wr
theorem Box3.stay {w : World} {a b c : It} {wr w' : World} (h : Box3 w a b c wr) (hu : Upd [] wr w') : Box3 w a b c w' :=
  ⟨hu.at h.b0 (by simp), hu.at h.b1 (by simp), hu.at h.b2 (by simp), h.upd.trans hu (by simp)⟩
theorem box3 (w : World) (a b c : It) : Box3 w a b c (((w.alloc (.cells (itCells a) 23)).alloc (.cells (itCells b) 23)).alloc (.cells (itCells c) 23)) :=
  ⟨(((Upd.refl [] _).alloc _).alloc _).at (heap_alloc1 w _) (by simp), ((Upd.refl [] _).alloc _).at (heap_alloc2 w _ _) (by simp), heap_alloc3 w _ _ _, (((Upd.refl [] w).alloc _).alloc _).alloc _⟩
theorem Box3.cells {w : World} {a b c : It} {wr : World} (h : Box3 w a b c wr) :
    (wr.cell? ⟨w.heap.size, 0, none⟩ = some (.int .i64 a.time) ∧ wr.cell? ⟨w.heap.size, 1, none⟩ = some (.int .i64 a.seq) ∧ wr.cell? ⟨w.heap.size, 2, none⟩ = some (.int .i64 a.slot)) ∧
    (wr.cell? ⟨w.heap.size + 1, 0, none⟩ = some (.int .i64 b.time) ∧ wr.cell? ⟨w.heap.size + 1, 1, none⟩ = some (.int .i64 b.seq) ∧ wr.cell? ⟨w.heap.size + 1, 2, none⟩ = some (.int .i64 b.slot)) ∧
    (wr.cell? ⟨w.heap.size + 1 + 1, 0, none⟩ = some (.int .i64 c.time) ∧ wr.cell? ⟨w.heap.size + 1 + 1, 1, none⟩ = some (.int .i64 c.seq) ∧ wr.cell? ⟨w.heap.size + 1 + 1, 2, none⟩ = some (.int .i64 c.slot)) :=
  ⟨⟨cell_block h.b0 0, cell_block h.b0 1, cell_block h.b0 2⟩, ⟨cell_block h.b1 0, cell_block h.b1 1, cell_block h.b1 2⟩, ⟨cell_block h.b2 0, cell_block h.b2 1, cell_block h.b2 2⟩⟩
theorem three (x : Int) (h : -1 ≤ x ∧ x ≤ 1) : x = -1 ∨ x = 0 ∨ x = 1 := by omega

set_option maxHeartbeats 8000000 in
set_option maxRecDepth 100000 in
theorem EvkeyItems_any (a b c : It) (w : World) :
    Calls Try.prog 4 #[.agg (itCells a), .agg (itCells b), .agg (itCells c)] w fun e w' => e = .returned (.bool true) ∧ Upd [] w w' := by
  have h13 : ∀ (i j : It) (W : World), Calls Try.prog 13 #[.agg #[.int .i64 i.time, .int .i64 i.seq, .int .i64 i.slot], .agg #[.int .i64 j.time, .int .i64 j.seq, .int .i64 j.slot]] W fun e w' => e = .returned (.int .i64 (cmpIt i j)) ∧ Upd [] W w' := fun i j W => (CompareItems_any i j W).mono fun e w' h => ⟨h.1, h.2.upd⟩
  have HC := Lib.hid h13
  clear h13
  have hx := three _ (ordIt.range a b)
  have hy := three _ (ordIt.range b c)
  have hz := ordIt.neg a b
  have ht := ordIt.trans a b c
  have h0 := cmpIt_zero (a := a) (b := b)
  obtain ⟨x, ex⟩ : ∃ x, x = cmpIt a b := ⟨_, rfl⟩
  obtain ⟨y, ey⟩ : ∃ y, y = cmpIt b c := ⟨_, rfl⟩
  obtain ⟨z, ez⟩ : ∃ z, z = cmpIt b a := ⟨_, rfl⟩
  obtain ⟨u, eu⟩ : ∃ u, u = cmpIt a c := ⟨_, rfl⟩
  have H1 := Lib.hid (HC.out a b); have H2 := Lib.hid (HC.out b c); have H3 := Lib.hid (HC.out b a); have H4 := Lib.hid (HC.out a c)
  rw [← ex] at hx hz ht h0 H1
  rw [← ey] at hy ht H2
  rw [← ez] at hz H3
  rw [← eu] at ht H4
  have HB := Lib.hid (box3 w a b c)
  unfold itCells at HB ⊢
  have HX := Lib.hid hx; have HY := Lib.hid hy; have HZ := Lib.hid hz; have HT := Lib.hid ht; have H0 := Lib.hid h0
  clear hx hy hz ht h0 HC ex ey ez eu
  go_enter Try.func4, Try.ntmps4
  go_wp2_with fail
  generalize ((w.alloc _).alloc _).alloc _ = w0 at HB ⊢
  refine (head_any _).mono ?_
  rintro e w1 ⟨rfl, hu⟩
  have HB1 := Lib.hid (HB.out.stay hu)
  obtain ⟨⟨x0, x1, x2⟩, ⟨y0, y1, y2⟩, ⟨z0, z1, z2⟩⟩ := HB1.out.cells
  clear HB hu
  go_wp2_with fail
  refine (H1.out _).mono ?_
  rintro e w2 ⟨rfl, hu⟩
  have HB2 := Lib.hid (HB1.out.stay hu)
  clear x0 x1 x2 y0 y1 y2 z0 z1 z2 HB1 hu
  obtain ⟨⟨x0, x1, x2⟩, ⟨y0, y1, y2⟩, ⟨z0, z1, z2⟩⟩ := HB2.out.cells
  go_wp2_with fail
  refine (H2.out _).mono ?_
  rintro e w3 ⟨rfl, hu⟩
  have HB3 := Lib.hid (HB2.out.stay hu)
  clear x0 x1 x2 y0 y1 y2 z0 z1 z2 HB2 hu
  obtain ⟨⟨x0, x1, x2⟩, ⟨y0, y1, y2⟩, ⟨z0, z1, z2⟩⟩ := HB3.out.cells
  go_wp2_with fail
  refine (H3.out _).mono ?_
  rintro e w4 ⟨rfl, hu⟩
  have HB4 := Lib.hid (HB3.out.stay hu)
  clear x0 x1 x2 y0 y1 y2 z0 z1 z2 HB3 hu
  obtain ⟨⟨x0, x1, x2⟩, ⟨y0, y1, y2⟩, ⟨z0, z1, z2⟩⟩ := HB4.out.cells
  have hz : z = -x := HZ.out
  subst hz
  rcases HX.out with rfl | rfl | rfl
  · have hn := H0.out
    by_cases ht : a.time = b.time
    · have hs : (a.seq == b.seq) = false := by rw [beq_eq_false_iff_ne]; intro h; have := hn.2 ⟨ht, h⟩; omega
      have htt : (a.time == b.time) = true := by rw [beq_iff_eq]; exact ht
      clear hn ht
      rcases HY.out with rfl | rfl | rfl
      · have hu4 : u = -1 := HT.out (by omega) (by omega)
        subst hu4
        go_wp2_with fail
        refine (H4.out _).mono ?_
        rintro e w5 ⟨rfl, hu⟩
        have HB5 := Lib.hid (HB4.out.stay hu)
        clear hu
        go_wp2_with fail
        go_ret
        exact ⟨by first | (simp; done) | (simp; decide), HB5.out.upd⟩
      · have hu4 : u = -1 := HT.out (by omega) (by omega)
        subst hu4
        go_wp2_with fail
        refine (H4.out _).mono ?_
        rintro e w5 ⟨rfl, hu⟩
        have HB5 := Lib.hid (HB4.out.stay hu)
        clear hu
        go_wp2_with fail
        go_ret
        exact ⟨by first | (simp; done) | (simp; decide), HB5.out.upd⟩
      · go_wp2_with fail
        go_ret
        exact ⟨by simp, HB4.out.upd⟩
    · have htt : (a.time == b.time) = false := by rw [beq_eq_false_iff_ne]; exact ht
      clear hn ht
      rcases HY.out with rfl | rfl | rfl
      · have hu4 : u = -1 := HT.out (by omega) (by omega)
        subst hu4
        go_wp2_with fail
        refine (H4.out _).mono ?_
        rintro e w5 ⟨rfl, hu⟩
        have HB5 := Lib.hid (HB4.out.stay hu)
        clear hu
        go_wp2_with fail
        go_ret
        exact ⟨by first | (simp; done) | (simp; decide), HB5.out.upd⟩
      · have hu4 : u = -1 := HT.out (by omega) (by omega)
        subst hu4
        go_wp2_with fail
        refine (H4.out _).mono ?_
        rintro e w5 ⟨rfl, hu⟩
        have HB5 := Lib.hid (HB4.out.stay hu)
        clear hu
        go_wp2_with fail
        go_ret
        exact ⟨by first | (simp; done) | (simp; decide), HB5.out.upd⟩
      · go_wp2_with fail
        go_ret
        exact ⟨by simp, HB4.out.upd⟩
  · have hn := H0.out.1 rfl
    have htt : (a.time == b.time) = true := by rw [beq_iff_eq]; exact hn.1
    have hss : (a.seq == b.seq) = true := by rw [beq_iff_eq]; exact hn.2
    clear hn
    rcases HY.out with rfl | rfl | rfl
    · have hu4 : u = -1 := HT.out (by omega) (by omega)
      subst hu4
      go_wp2_with fail
      refine (H4.out _).mono ?_
      rintro e w5 ⟨rfl, hu⟩
      have HB5 := Lib.hid (HB4.out.stay hu)
      clear hu
      go_wp2_with fail
      go_ret
      exact ⟨by first | (simp; done) | (simp; decide), HB5.out.upd⟩
    · have hu4 : u = 0 := HT.out (by omega) (by omega)
      subst hu4
      go_wp2_with fail
      refine (H4.out _).mono ?_
      rintro e w5 ⟨rfl, hu⟩
      have HB5 := Lib.hid (HB4.out.stay hu)
      clear hu
      go_wp2_with fail
      go_ret
      exact ⟨by first | (simp; done) | (simp; decide), HB5.out.upd⟩
    · go_wp2_with fail
      go_ret
      exact ⟨by simp, HB4.out.upd⟩
  · have hn := H0.out
    by_cases ht : a.time = b.time
    · have hs : (a.seq == b.seq) = false := by rw [beq_eq_false_iff_ne]; intro h; have := hn.2 ⟨ht, h⟩; omega
      have htt : (a.time == b.time) = true := by rw [beq_iff_eq]; exact ht
      clear hn ht
      go_wp2_with fail
      go_ret
      exact ⟨by simp, HB4.out.upd⟩
    · have htt : (a.time == b.time) = false := by rw [beq_eq_false_iff_ne]; exact ht
      clear hn ht
      go_wp2_with fail
      go_ret
      exact ⟨by simp, HB4.out.upd⟩
end Go.Proofs.Ytdkkgajamogmeaa
