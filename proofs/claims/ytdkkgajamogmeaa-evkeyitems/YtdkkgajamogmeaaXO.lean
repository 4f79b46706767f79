/- The fixed examples hold. -/
import Derived.Test.YtdkkgajamogmeaaXN
import Derived.Test.YtdkkgajamogmeaaRS
namespace Go.Proofs.Ytdkkgajamogmeaa
open Go.Shelf Go.RowKit Go.Sort Go.Lib

theorem headSort : IsSort [⟨2, [0], 0, 0, 0, 0⟩, ⟨1, [1, 0], 0, 0, 0, 0⟩, ⟨1, [1], 0, 0, 0, 0⟩] [⟨1, [1], 0, 0, 0, 0⟩, ⟨1, [1, 0], 0, 0, 0, 0⟩, ⟨2, [0], 0, 0, 0, 0⟩] := by
  refine ⟨[(⟨1, [1], 0, 0, 0, 0⟩, 2), (⟨1, [1, 0], 0, 0, 0, 0⟩, 1), (⟨2, [0], 0, 0, 0, 0⟩, 0)], ?_, ?_, rfl⟩
  · exact (List.Perm.trans (List.Perm.swap _ _ _) (List.Perm.trans (List.Perm.cons _ (List.Perm.swap _ _ _)) (List.Perm.swap _ _ _)))
  · unfold Srt
    decide
theorem head_evs {rs' : List EvR} {rs : List EvR} (h0 : evs rs = [⟨2, [0], 0, 0, 0, 0⟩, ⟨1, [1, 0], 0, 0, 0, 0⟩, ⟨1, [1], 0, 0, 0, 0⟩]) (h : IsSort (evs rs) (evs rs')) :
    ∃ a0 c0 a1 c1 a2 c2, rs' = [⟨⟨1, [1], 0, 0, 0, 0⟩, a0, c0⟩, ⟨⟨1, [1, 0], 0, 0, 0, 0⟩, a1, c1⟩, ⟨⟨2, [0], 0, 0, 0, 0⟩, a2, c2⟩] := by
  rw [h0] at h
  have := h.unique headSort
  match rs', this with
  | [⟨e0, a0, c0⟩, ⟨e1, a1, c1⟩, ⟨e2, a2, c2⟩], h =>
    simp only [evs, List.map_cons, List.map_nil, List.cons.injEq, and_true] at h
    obtain ⟨rfl, rfl, rfl⟩ := h
    exact ⟨a0, c0, a1, c1, a2, c2, rfl⟩

/-- The row that the examples sort. -/
def headRow (b0 b1 b2 : Nat) : List EvR := [⟨⟨2, [0], 0, 0, 0, 0⟩, some ⟨b0, 0, none⟩, 1⟩, ⟨⟨1, [1, 0], 0, 0, 0, 0⟩, some ⟨b1, 0, none⟩, 2⟩, ⟨⟨1, [1], 0, 0, 0, 0⟩, some ⟨b2, 0, none⟩, 1⟩]
theorem headRow_evs (b0 b1 b2 : Nat) : evs (headRow b0 b1 b2) = [⟨2, [0], 0, 0, 0, 0⟩, ⟨1, [1, 0], 0, 0, 0, 0⟩, ⟨1, [1], 0, 0, 0, 0⟩] := rfl
theorem headRow_at {w : World} {b0 b1 b2 g : Nat} {t : TypeId} (h0 : w.heap[b0]? = some (.cells #[.int .i64 0] t (0, 0))) (h1 : w.heap[b1]? = some (.cells #[.int .i64 1, .int .i64 0] t (0, 0))) (h2 : w.heap[b2]? = some (.cells #[.int .i64 1] t (0, 0)))
    (hg : w.heap[g]? = some (.cells (flatE (headRow b0 b1 b2)).toArray 30 (0, 0))) : Evs w (some ⟨g, 0, none⟩) (headRow b0 b1 b2) := by
  refine evs_cells (fun t u hu => ?_) (fun r hr => ?_)
  · rw [Nat.zero_add, cell_block hg, List.getElem?_toArray]; exact hu
  · simp only [headRow, List.mem_cons, List.not_mem_nil, or_false] at hr
    rcases hr with rfl | rfl | rfl
    · exact ints_block (xs := [0]) h0
    · exact ints_block (xs := [1, 0]) h1
    · exact ints_block (xs := [1]) h2

set_option maxHeartbeats 40000000 in
set_option maxRecDepth 1000000 in
theorem head_any (w : World) : Calls Try.prog 9 #[] w fun e w' => e = .returned (.bool true) ∧ Upd [] w w' := by
  go_enter Try.func9, Try.ntmps9
  go_wp2_with fail
  generalize hA : (Obj.cells #[.int .i64 0] 3 : Obj) = A
  generalize hB : (Obj.cells #[.int .i64 1, .int .i64 0] 3 : Obj) = B
  generalize hC : (Obj.cells #[.int .i64 1] 3 : Obj) = C
  generalize hD : (Obj.cells _ 30 : Obj) = D
  have k0 := (((Upd.refl [] (w.alloc A)).alloc B).alloc C |>.alloc D).at (heap_alloc1 w A) (by simp)
  have k1 := ((Upd.refl [] ((w.alloc A).alloc B)).alloc C |>.alloc D).at (heap_alloc2 w A B) (by simp)
  have k2 := ((Upd.refl [] (((w.alloc A).alloc B).alloc C)).alloc D).at (heap_alloc3 w A B C) (by simp)
  have k3 : ((((w.alloc A).alloc B).alloc C).alloc D).heap[w.heap.size + 1 + 1 + 1]? = some D := by
    have := heap_alloc1 (((w.alloc A).alloc B).alloc C) D
    simpa using this
  have hu0 : Upd [] w ((((w.alloc A).alloc B).alloc C).alloc D) := ((((Upd.refl [] w).alloc A).alloc B).alloc C).alloc D
  generalize (((w.alloc A).alloc B).alloc C).alloc D = w1 at *
  rw [← hA] at k0
  rw [← hB] at k1
  rw [← hC] at k2
  rw [← hD] at k3
  have hev := headRow_at k0 k1 k2 k3
  have hs := SortEvents_any (some ⟨w.heap.size + 1 + 1 + 1, 0, none⟩) 3 _ w1 hev (by simp [headRow]) (by simp [headRow])
  have HS := Lib.hid hs; have HU0 := Lib.hid hu0
  clear hs hev k0 k1 k2 k3 hA hB hC hD hu0 A B C D
  refine HS.out.mono ?_
  rintro e w2 ⟨ad, cap, rs', rfl, hev, hso, hu⟩
  obtain ⟨a0, c0, a1, c1, a2, c2, rfl⟩ := head_evs (headRow_evs _ _ _) hso
  obtain ⟨i0, b, off, rfl, x0, x1, x2, x3, x4, x5⟩ := hev 0 (by simp)
  obtain ⟨i1, b', off', he, y0, y1, y2, y3, y4, y5⟩ := hev 1 (by simp)
  obtain ⟨rfl, rfl⟩ : b = b' ∧ off = off' := by simpa using he
  obtain ⟨_, b', off', he, z0, _, _, _, _, _⟩ := hev 2 (by simp)
  obtain ⟨rfl, rfl⟩ : b = b' ∧ off = off' := by simpa using he
  simp only [List.getElem_cons_zero, List.getElem_cons_succ, Nat.zero_mul, Nat.add_zero, Nat.one_mul, List.length_cons, List.length_nil, Nat.zero_add, Nat.reduceAdd, Nat.reduceMul] at i0 i1 x0 x1 x2 x3 x4 x5 y0 y1 y2 y3 y4 y5 z0
  have HU2 : Hid (Upd [] w w2) := HU0.out.trans hu (by simp)
  clear hev hso hu HS HU0 he
  simp only [List.length_cons, List.length_nil, Nat.zero_add, Nat.reduceAdd]
  have HK : Hid (∀ wz, Upd [] w2 wz → (fun wz => wz.cell? ⟨b, off, none⟩ = some (.int .i64 1) ∧ wz.cell? ⟨b, off + 1, none⟩ = some (.slice a0 1 c0) ∧ wz.cell? ⟨b, off + 2, none⟩ = some (.int .i64 0) ∧ wz.cell? ⟨b, off + 3, none⟩ = some (.int .i64 0) ∧ wz.cell? ⟨b, off + 4, none⟩ = some (.int .i64 0) ∧ wz.cell? ⟨b, off + 5, none⟩ = some (.int .i64 0) ∧ wz.cell? ⟨b, off + 6, none⟩ = some (.int .i64 1) ∧ wz.cell? ⟨b, off + 6 + 1, none⟩ = some (.slice a1 2 c1) ∧ wz.cell? ⟨b, off + 6 + 2, none⟩ = some (.int .i64 0) ∧ wz.cell? ⟨b, off + 6 + 3, none⟩ = some (.int .i64 0) ∧ wz.cell? ⟨b, off + 6 + 4, none⟩ = some (.int .i64 0) ∧ wz.cell? ⟨b, off + 6 + 5, none⟩ = some (.int .i64 0) ∧ wz.cell? ⟨b, off + 12, none⟩ = some (.int .i64 2)) wz) := fun wz h => ⟨h.cell x0 (by simp), h.cell x1 (by simp), h.cell x2 (by simp), h.cell x3 (by simp), h.cell x4 (by simp), h.cell x5 (by simp), h.cell y0 (by simp), h.cell y1 (by simp), h.cell y2 (by simp), h.cell y3 (by simp), h.cell y4 (by simp), h.cell y5 (by simp), h.cell z0 (by simp)⟩
  have h13a : ∀ W : World, Calls Try.prog 13 #[.agg #[.int .i64 1, .int .i64 9, .int .i64 0], .agg #[.int .i64 2, .int .i64 0, .int .i64 0]] W fun e w' => e = .returned (.int .i64 (-1)) ∧ Upd [] W w' := fun W => (CompareItems_any ⟨1, 9, 0⟩ ⟨2, 0, 0⟩ W).mono fun e w' h => ⟨h.1, h.2.upd⟩
  have h13b : ∀ W : World, Calls Try.prog 13 #[.agg #[.int .i64 2, .int .i64 9, .int .i64 0], .agg #[.int .i64 2, .int .i64 8, .int .i64 0]] W fun e w' => e = .returned (.int .i64 1) ∧ Upd [] W w' := fun W => (CompareItems_any ⟨2, 9, 0⟩ ⟨2, 8, 0⟩ W).mono fun e w' h => ⟨h.1, h.2.upd⟩
  have h15 : ∀ (b c : Nat) (W : World), Ints W (some ⟨b, 0, none⟩) [1] → Ints W (some ⟨c, 0, none⟩) [1, 0] → Calls Try.prog 15 #[.slice (some ⟨b, 0, none⟩) 1 1, .slice (some ⟨c, 0, none⟩) 2 2] W fun e w' => e = .returned (.int .i64 (-1)) ∧ Upd [] W w' := fun b c W h5 h6 => (CompareKeys_any (some ⟨b, 0, none⟩) (some ⟨c, 0, none⟩) 1 2 [1] [1, 0] W h5 h6 (by simp) (by simp)).mono fun e w' h => ⟨h.1, h.2 ▸ Upd.refl _ _⟩
  have h16 : ∀ (b c : Nat) (W : World), Ints W (some ⟨b, 0, none⟩) [1, 5] → Ints W (some ⟨c, 0, none⟩) [2] → Calls Try.prog 15 #[.slice (some ⟨b, 0, none⟩) 2 2, .slice (some ⟨c, 0, none⟩) 1 1] W fun e w' => e = .returned (.int .i64 (-1)) ∧ Upd [] W w' := fun b c W h5 h6 => (CompareKeys_any (some ⟨b, 0, none⟩) (some ⟨c, 0, none⟩) 2 1 [1, 5] [2] W h5 h6 (by simp) (by simp)).mono fun e w' h => ⟨h.1, h.2 ▸ Upd.refl _ _⟩
  have h19 : ∀ (W : World), Calls Try.prog 15 #[.slice none 0 0, .slice none 0 0] W fun e w' => e = .returned (.int .i64 0) ∧ Upd [] W w' := fun W => (CompareKeys_any none none 0 0 [] [] W (ints_nil _ _) (ints_nil _ _) (by simp) (by simp)).mono fun e w' h => ⟨h.1, h.2 ▸ Upd.refl _ _⟩
  have h18 : ∀ (b : Nat) (W : World), Ints W (some ⟨b, 0, none⟩) [4] → Calls Try.prog 18 #[.slice (some ⟨b, 0, none⟩) 1 1, .int .i64 7] W fun e w' => ∃ v, e = .returned v ∧ (∃ ad cap, v = .slice ad 2 cap ∧ Ints w' ad [4, 7]) ∧ Upd [] W w' := fun b W h => (Child_any (some ⟨b, 0, none⟩) 1 [4] 7 W h (by simp)).mono fun e w' ⟨ad, cap, h1, h2, h3, _⟩ => ⟨_, h1, ⟨ad, cap, rfl, h2⟩, h3⟩
  have h17 : ∀ (v : Value) (b : Nat) (W : World), (∃ ad cap, v = .slice ad 2 cap ∧ Ints W ad [4, 7]) → Ints W (some ⟨b, 0, none⟩) [4, 7] → Calls Try.prog 17 #[v, .slice (some ⟨b, 0, none⟩) 2 2] W fun e w' => e = .returned (.bool true) ∧ Upd [] W w' := fun v b W ⟨ad, cap, hv, h1⟩ h2 => by
    subst hv
    exact (SameKey_any ad (some ⟨b, 0, none⟩) cap 2 [4, 7] [4, 7] W h1 h2 (by simp) (by simp)).mono fun e w' h => ⟨h.1, h.2.grown.upd⟩
  have h11 : ∀ W, Upd [] w2 W → Calls Try.prog 11 #[.agg #[.int .i64 1, .slice a0 1 c0, .int .i64 0, .int .i64 0, .int .i64 0, .int .i64 0], .agg #[.int .i64 1, .slice a1 2 c1, .int .i64 0, .int .i64 0, .int .i64 0, .int .i64 0]] W fun e w' => e = .returned (.int .i64 (-1)) ∧ Upd [] W w' := fun W hu => (CompareEvents_any ⟨⟨1, [1], 0, 0, 0, 0⟩, a0, c0⟩ ⟨⟨1, [1, 0], 0, 0, 0, 0⟩, a1, c1⟩ W (i0.stay hu) (i1.stay hu) (by simp) (by simp)).mono fun e w' h => ⟨h.1, h.2.upd⟩
  have H13a := Lib.hid h13a; have H13b := Lib.hid h13b; have H15 := Lib.hid h15; have H16 := Lib.hid h16; have H19 := Lib.hid h19; have H18 := Lib.hid h18; have H17 := Lib.hid h17; have H11 := Lib.hid h11
  have hS0 := HK.out w2.drew (Upd.refl [] w2).drew
  clear h13a h13b h15 h16 h19 h18 h17 h11 i0 i1 x0 x1 x2 x3 x4 x5 y0 y1 y2 y3 y4 y5 z0
  have HS0 := Lib.hid hS0
  clear hS0
  go_wp2_with fail
  refine wp_region_noPanic ?_
  refine wp_region_held_drew (S := (fun wz => wz.cell? ⟨b, off, none⟩ = some (.int .i64 1) ∧ wz.cell? ⟨b, off + 1, none⟩ = some (.slice a0 1 c0) ∧ wz.cell? ⟨b, off + 2, none⟩ = some (.int .i64 0) ∧ wz.cell? ⟨b, off + 3, none⟩ = some (.int .i64 0) ∧ wz.cell? ⟨b, off + 4, none⟩ = some (.int .i64 0) ∧ wz.cell? ⟨b, off + 5, none⟩ = some (.int .i64 0) ∧ wz.cell? ⟨b, off + 6, none⟩ = some (.int .i64 1) ∧ wz.cell? ⟨b, off + 6 + 1, none⟩ = some (.slice a1 2 c1) ∧ wz.cell? ⟨b, off + 6 + 2, none⟩ = some (.int .i64 0) ∧ wz.cell? ⟨b, off + 6 + 3, none⟩ = some (.int .i64 0) ∧ wz.cell? ⟨b, off + 6 + 4, none⟩ = some (.int .i64 0) ∧ wz.cell? ⟨b, off + 6 + 5, none⟩ = some (.int .i64 0) ∧ wz.cell? ⟨b, off + 12, none⟩ = some (.int .i64 2))) (by kernel_rfl) HS0.out (fun hS => ?_)
  generalize hwx : w2.drew = wx at hS ⊢
  have hux : Upd [] w2 wx := by rw [← hwx]; exact (Upd.refl [] w2).drew
  clear hwx HS0
  show wpAnyH _ _ _ _ _ 58 (Array.replicate 58 false) _ _
  refine take_one (i := 0) (d := 13) (v := ?_) rfl rfl (by kernel_rfl) (by kernel_rfl) (by kernel_rfl) (fun _ _ _ _ _ h => h) (by rfl) ?_ hS ?_
  rotate_left
  · intro wz hz; (try dsimp only at hz); go_simp; (try with_reducible rfl)
  simp only [Act.put, List.setIfInBounds_toArray, List.set_cons_zero, List.set_cons_succ]
  refine take_one (i := 1) (d := 14) (v := ?_) rfl rfl (by kernel_rfl) (by kernel_rfl) (by kernel_rfl) (fun _ _ _ _ _ h => h) (by rfl) ?_ hS ?_
  rotate_left
  · intro wz hz; (try dsimp only at hz); go_simp; (try with_reducible rfl)
  simp only [Act.put, List.setIfInBounds_toArray, List.set_cons_zero, List.set_cons_succ]
  refine one_call (c := 2) (dc := 15) (f := 13) (args := #[.agg #[.int .i64 1, .int .i64 9, .int .i64 0], .agg #[.int .i64 2, .int .i64 0, .int .i64 0]]) (x := .int .i64 (-1)) rfl rfl (by kernel_rfl) (by rfl) ?ec (H13a.out _) (fun W hu => HK.out W (hux.trans hu (by simp))) (fun wa hu => ?_)
  case ec => go_simp
  have hS := HK.out wa (hux.trans hu (by simp))
  have wau : Upd [] w2 wa := hux.trans hu (by simp)
  clear hu
  simp only [Act.put, List.setIfInBounds_toArray, List.set_cons_zero, List.set_cons_succ]
  refine take_one (i := 3) (d := 16) (v := ?_) rfl rfl (by kernel_rfl) (by kernel_rfl) (by kernel_rfl) (fun _ _ _ _ _ h => h) (by rfl) ?_ hS ?_
  rotate_left
  · intro wz hz; (try dsimp only at hz); go_simp; (try with_reducible rfl)
  simp only [Act.put, List.setIfInBounds_toArray, List.set_cons_zero, List.set_cons_succ]
  refine take_one (i := 4) (d := 17) (v := ?_) rfl rfl (by kernel_rfl) (by kernel_rfl) (by kernel_rfl) (fun _ _ _ _ _ h => h) (by rfl) ?_ hS ?_
  rotate_left
  · intro wz hz; (try dsimp only at hz); go_simp; (try with_reducible rfl)
  simp only [Act.put, List.setIfInBounds_toArray, List.set_cons_zero, List.set_cons_succ]
  refine take_one (i := 5) (d := 18) (v := ?_) rfl rfl (by kernel_rfl) (by kernel_rfl) (by kernel_rfl) (fun _ _ _ _ _ h => h) (by rfl) ?_ hS ?_
  rotate_left
  · intro wz hz; (try dsimp only at hz); go_simp; (try with_reducible rfl)
  simp only [Act.put, List.setIfInBounds_toArray, List.set_cons_zero, List.set_cons_succ]
  refine take_one (i := 6) (d := 19) (v := ?_) rfl rfl (by kernel_rfl) (by kernel_rfl) (by kernel_rfl) (fun _ _ _ _ _ h => h) (by rfl) ?_ hS ?_
  rotate_left
  · intro wz hz; (try dsimp only at hz); go_simp; (try with_reducible rfl)
  simp only [Act.put, List.setIfInBounds_toArray, List.set_cons_zero, List.set_cons_succ]
  refine one_call (c := 7) (dc := 20) (f := 13) (args := #[.agg #[.int .i64 2, .int .i64 9, .int .i64 0], .agg #[.int .i64 2, .int .i64 8, .int .i64 0]]) (x := .int .i64 1) rfl rfl (by kernel_rfl) (by rfl) ?ec (H13b.out _) (fun W hu => HK.out W (wau.trans hu (by simp))) (fun wb hu => ?_)
  case ec => go_simp
  have hS := HK.out wb (wau.trans hu (by simp))
  have wbu : Upd [] w2 wb := wau.trans hu (by simp)
  clear hu
  simp only [Act.put, List.setIfInBounds_toArray, List.set_cons_zero, List.set_cons_succ]
  refine take_one (i := 8) (d := 21) (v := ?_) rfl rfl (by kernel_rfl) (by kernel_rfl) (by kernel_rfl) (fun _ _ _ _ _ h => h) (by rfl) ?_ hS ?_
  rotate_left
  · intro wz hz; (try dsimp only at hz); go_simp; (try with_reducible rfl)
  simp only [Act.put, List.setIfInBounds_toArray, List.set_cons_zero, List.set_cons_succ]
  refine take_one (i := 9) (d := 22) (v := ?_) rfl rfl (by kernel_rfl) (by kernel_rfl) (by kernel_rfl) (fun _ _ _ _ _ h => h) (by rfl) ?_ hS ?_
  rotate_left
  · intro wz hz; (try dsimp only at hz); go_simp; (try with_reducible rfl)
  simp only [Act.put, List.setIfInBounds_toArray, List.set_cons_zero, List.set_cons_succ]
  refine take_one (i := 10) (d := 23) (v := ?_) rfl rfl (by kernel_rfl) (by kernel_rfl) (by kernel_rfl) (fun _ _ _ _ _ h => h) (by rfl) ?_ hS ?_
  rotate_left
  · intro wz hz; (try dsimp only at hz); go_simp; (try with_reducible rfl)
  simp only [Act.put, List.setIfInBounds_toArray, List.set_cons_zero, List.set_cons_succ]
  refine pair_call (i := 11) (j := 12) (c := 13) (di := 24) (dj := 25) (dc := 26) (si := fun b => .slice (some ⟨b, 0, none⟩) 1 1) (sj := fun b => .slice (some ⟨b, 0, none⟩) 2 2) (Ai := .cells #[.int .i64 1] 3) (Aj := .cells #[.int .i64 1, .int .i64 0] 3) (f := 15) (args := fun b c => #[.slice (some ⟨b, 0, none⟩) 1 1, .slice (some ⟨c, 0, none⟩) 2 2]) (x := .int .i64 (-1)) rfl rfl rfl rfl rfl rfl (by kernel_rfl) (by kernel_rfl) (by kernel_rfl) (by kernel_rfl) (by decide) (by decide) ?wi ?wj ?wc ?ec ?hcall (fun W hu => HK.out W (wbu.trans hu (by simp))) (fun u24 u25 wc hu => ?_)
  case wi =>
    rintro a' (rfl | ⟨u, rfl⟩)
    · exact ⟨by rfl, fun W => by go_simp⟩
    · exact ⟨by rfl, fun W => by simp only [Act.put, List.setIfInBounds_toArray, List.set_cons_zero, List.set_cons_succ]; go_simp⟩
  case wj =>
    rintro a' (rfl | ⟨u, rfl⟩)
    · exact ⟨by rfl, fun W => by go_simp⟩
    · exact ⟨by rfl, fun W => by simp only [Act.put, List.setIfInBounds_toArray, List.set_cons_zero, List.set_cons_succ]; go_simp⟩
  case wc => intro u v; rfl
  case ec => intro bi bj W; simp only [Act.put, List.setIfInBounds_toArray, List.set_cons_zero, List.set_cons_succ]; go_simp
  case hcall => exact fun bi bj W h1 h2 _ => H15.out bi bj W (ints_block (xs := [1]) h1) (ints_block (xs := [1, 0]) h2)
  have hS := HK.out wc (wbu.trans hu (by simp))
  have wcu : Upd [] w2 wc := wbu.trans hu (by simp)
  clear hu
  simp only [Act.put, List.setIfInBounds_toArray, List.set_cons_zero, List.set_cons_succ]
  refine take_one (i := 14) (d := 27) (v := ?_) rfl rfl (by kernel_rfl) (by kernel_rfl) (by kernel_rfl) (fun _ _ _ _ _ h => h) (by rfl) ?_ hS ?_
  rotate_left
  · intro wz hz; (try dsimp only at hz); go_simp; (try with_reducible rfl)
  simp only [Act.put, List.setIfInBounds_toArray, List.set_cons_zero, List.set_cons_succ]
  refine take_one (i := 15) (d := 28) (v := ?_) rfl rfl (by kernel_rfl) (by kernel_rfl) (by kernel_rfl) (fun _ _ _ _ _ h => h) (by rfl) ?_ hS ?_
  rotate_left
  · intro wz hz; (try dsimp only at hz); go_simp; (try with_reducible rfl)
  simp only [Act.put, List.setIfInBounds_toArray, List.set_cons_zero, List.set_cons_succ]
  refine take_one (i := 16) (d := 29) (v := ?_) rfl rfl (by kernel_rfl) (by kernel_rfl) (by kernel_rfl) (fun _ _ _ _ _ h => h) (by rfl) ?_ hS ?_
  rotate_left
  · intro wz hz; (try dsimp only at hz); go_simp; (try with_reducible rfl)
  simp only [Act.put, List.setIfInBounds_toArray, List.set_cons_zero, List.set_cons_succ]
  refine pair_call (i := 17) (j := 18) (c := 19) (di := 30) (dj := 31) (dc := 32) (si := fun b => .slice (some ⟨b, 0, none⟩) 2 2) (sj := fun b => .slice (some ⟨b, 0, none⟩) 1 1) (Ai := .cells #[.int .i64 1, .int .i64 5] 3) (Aj := .cells #[.int .i64 2] 3) (f := 15) (args := fun b c => #[.slice (some ⟨b, 0, none⟩) 2 2, .slice (some ⟨c, 0, none⟩) 1 1]) (x := .int .i64 (-1)) rfl rfl rfl rfl rfl rfl (by kernel_rfl) (by kernel_rfl) (by kernel_rfl) (by kernel_rfl) (by decide) (by decide) ?wi ?wj ?wc ?ec ?hcall (fun W hu => HK.out W (wcu.trans hu (by simp))) (fun u30 u31 wd hu => ?_)
  case wi =>
    rintro a' (rfl | ⟨u, rfl⟩)
    · exact ⟨by rfl, fun W => by go_simp⟩
    · exact ⟨by rfl, fun W => by simp only [Act.put, List.setIfInBounds_toArray, List.set_cons_zero, List.set_cons_succ]; go_simp⟩
  case wj =>
    rintro a' (rfl | ⟨u, rfl⟩)
    · exact ⟨by rfl, fun W => by go_simp⟩
    · exact ⟨by rfl, fun W => by simp only [Act.put, List.setIfInBounds_toArray, List.set_cons_zero, List.set_cons_succ]; go_simp⟩
  case wc => intro u v; rfl
  case ec => intro bi bj W; simp only [Act.put, List.setIfInBounds_toArray, List.set_cons_zero, List.set_cons_succ]; go_simp
  case hcall => exact fun bi bj W h1 h2 _ => H16.out bi bj W (ints_block (xs := [1, 5]) h1) (ints_block (xs := [2]) h2)
  have hS := HK.out wd (wcu.trans hu (by simp))
  have wdu : Upd [] w2 wd := wcu.trans hu (by simp)
  clear hu
  simp only [Act.put, List.setIfInBounds_toArray, List.set_cons_zero, List.set_cons_succ]
  refine take_one (i := 20) (d := 33) (v := ?_) rfl rfl (by kernel_rfl) (by kernel_rfl) (by kernel_rfl) (fun _ _ _ _ _ h => h) (by rfl) ?_ hS ?_
  rotate_left
  · intro wz hz; (try dsimp only at hz); go_simp; (try with_reducible rfl)
  simp only [Act.put, List.setIfInBounds_toArray, List.set_cons_zero, List.set_cons_succ]
  refine take_one (i := 21) (d := 34) (v := ?_) rfl rfl (by kernel_rfl) (by kernel_rfl) (by kernel_rfl) (fun _ _ _ _ _ h => h) (by rfl) ?_ hS ?_
  rotate_left
  · intro wz hz; (try dsimp only at hz); go_simp; (try with_reducible rfl)
  simp only [Act.put, List.setIfInBounds_toArray, List.set_cons_zero, List.set_cons_succ]
  refine take_one (i := 22) (d := 35) (v := ?_) rfl rfl (by kernel_rfl) (by kernel_rfl) (by kernel_rfl) (fun _ _ _ _ _ h => h) (by rfl) ?_ hS ?_
  rotate_left
  · intro wz hz; (try dsimp only at hz); go_simp; (try with_reducible rfl)
  simp only [Act.put, List.setIfInBounds_toArray, List.set_cons_zero, List.set_cons_succ]
  refine one_call (c := 23) (dc := 36) (f := 15) (args := #[.slice none 0 0, .slice none 0 0]) (x := .int .i64 0) rfl rfl (by kernel_rfl) (by rfl) ?ec (H19.out _) (fun W hu => HK.out W (wdu.trans hu (by simp))) (fun we hu => ?_)
  case ec => go_simp
  have hS := HK.out we (wdu.trans hu (by simp))
  have weu : Upd [] w2 we := wdu.trans hu (by simp)
  clear hu
  simp only [Act.put, List.setIfInBounds_toArray, List.set_cons_zero, List.set_cons_succ]
  refine take_one (i := 24) (d := 37) (v := ?_) rfl rfl (by kernel_rfl) (by kernel_rfl) (by kernel_rfl) (fun _ _ _ _ _ h => h) (by rfl) ?_ hS ?_
  rotate_left
  · intro wz hz; (try dsimp only at hz); go_simp; (try with_reducible rfl)
  simp only [Act.put, List.setIfInBounds_toArray, List.set_cons_zero, List.set_cons_succ]
  refine take_one (i := 25) (d := 38) (v := ?_) rfl rfl (by kernel_rfl) (by kernel_rfl) (by kernel_rfl) (fun _ _ _ _ _ h => h) (by rfl) ?_ hS ?_
  rotate_left
  · intro wz hz; (try dsimp only at hz); go_simp; (try with_reducible rfl)
  simp only [Act.put, List.setIfInBounds_toArray, List.set_cons_zero, List.set_cons_succ]
  refine take_one (i := 26) (d := 39) (v := ?_) rfl rfl (by kernel_rfl) (by kernel_rfl) (by kernel_rfl) (fun _ _ _ _ _ h => h) (by rfl) ?_ hS ?_
  rotate_left
  · intro wz hz; (try dsimp only at hz); go_simp; (try with_reducible rfl)
  simp only [Act.put, List.setIfInBounds_toArray, List.set_cons_zero, List.set_cons_succ]
  refine triple_call (i := 27) (p := 28) (j := 29) (c := 30) (di := 40) (dp := 41) (dj := 42) (dc := 43) (si := fun b => .slice (some ⟨b, 0, none⟩) 1 1) (sj := fun b => .slice (some ⟨b, 0, none⟩) 2 2) (Ai := .cells #[.int .i64 4] 3) (Aj := .cells #[.int .i64 4, .int .i64 7] 3) (f := 18) (g := 17) (args := fun b => #[.slice (some ⟨b, 0, none⟩) 1 1, .int .i64 7]) (args2 := fun v b => #[v, .slice (some ⟨b, 0, none⟩) 2 2]) (Pv := fun v W => ∃ ad cap, v = .slice ad 2 cap ∧ Ints W ad [4, 7]) (x := .bool true) rfl rfl rfl rfl rfl rfl rfl rfl (by kernel_rfl) (by kernel_rfl) (by kernel_rfl) (by kernel_rfl) (by kernel_rfl) (by kernel_rfl) (by decide) (by decide) (by decide) (by decide) ?wi ?wj ?wp ?hcp ?hst ?wc ?ec ?hcc (fun W hu => HK.out W (weu.trans hu (by simp))) (fun u40 u41 u42 wf hu => ?_)
  case wi =>
    rintro a' (rfl | ⟨u, rfl⟩)
    · exact ⟨by rfl, fun W => by go_simp⟩
    · exact ⟨by rfl, fun W => by simp only [Act.put, List.setIfInBounds_toArray, List.set_cons_zero, List.set_cons_succ]; go_simp⟩
  case wj =>
    rintro a' (rfl | ⟨u, rfl⟩ | ⟨u, v, rfl⟩)
    · exact ⟨by rfl, fun W => by go_simp⟩
    · exact ⟨by rfl, fun W => by simp only [Act.put, List.setIfInBounds_toArray, List.set_cons_zero, List.set_cons_succ]; go_simp⟩
    · exact ⟨by rfl, fun W => by simp only [Act.put, List.setIfInBounds_toArray, List.set_cons_zero, List.set_cons_succ]; go_simp⟩
  case wp =>
    rintro b a' (rfl | ⟨v, rfl⟩)
    · exact ⟨by rfl, fun W => by simp only [Act.put, List.setIfInBounds_toArray, List.set_cons_zero, List.set_cons_succ]; go_simp⟩
    · exact ⟨by rfl, fun W => by simp only [Act.put, List.setIfInBounds_toArray, List.set_cons_zero, List.set_cons_succ]; go_simp⟩
  case hcp => exact fun b W h1 _ => H18.out b W (ints_block (xs := [4]) h1)
  case hst => exact fun v W W' ⟨ad, cap, h1, h2⟩ hu => ⟨ad, cap, h1, h2.stay hu⟩
  case wc => intro u v b; rfl
  case ec => intro u v b W _; simp only [Act.put, List.setIfInBounds_toArray, List.set_cons_zero, List.set_cons_succ]; go_simp
  case hcc => exact fun v b W h1 h2 _ => H17.out v b W h1 (ints_block (xs := [4, 7]) h2)
  have hS := HK.out wf (weu.trans hu (by simp))
  have wfu : Upd [] w2 wf := weu.trans hu (by simp)
  clear hu
  simp only [Act.put, List.setIfInBounds_toArray, List.set_cons_zero, List.set_cons_succ]
  refine take_one (i := 31) (d := 44) (v := ?_) rfl rfl (by kernel_rfl) (by kernel_rfl) (by kernel_rfl) (fun _ _ _ _ _ h => h) (by rfl) ?_ hS ?_
  rotate_left
  · intro wz hz; (try dsimp only at hz); go_simp; (try with_reducible rfl)
  simp only [Act.put, List.setIfInBounds_toArray, List.set_cons_zero, List.set_cons_succ]
  refine take_one (i := 32) (d := 45) (v := ?_) rfl rfl (by kernel_rfl) (by kernel_rfl) (by kernel_rfl) (fun _ _ _ _ _ h => h) (by rfl) ?_ hS ?_
  rotate_left
  · intro wz hz; (try dsimp only at hz); go_simp; (try with_reducible rfl)
  simp only [Act.put, List.setIfInBounds_toArray, List.set_cons_zero, List.set_cons_succ]
  refine take_one (i := 33) (d := 46) (v := ?_) rfl rfl (by kernel_rfl) (by kernel_rfl) (by kernel_rfl) (fun _ _ _ _ _ h => h) (by rfl) ?_ hS ?_
  rotate_left
  · intro wz hz; (try dsimp only at hz); go_simp; (try with_reducible rfl)
  simp only [Act.put, List.setIfInBounds_toArray, List.set_cons_zero, List.set_cons_succ]
  refine take_one (i := 34) (d := 47) (v := ?_) rfl rfl (by kernel_rfl) (by kernel_rfl) (by kernel_rfl) (fun _ _ _ _ _ h => h) (by rfl) ?_ hS ?_
  rotate_left
  · intro wz hz; (try dsimp only at hz); go_simp; (try with_reducible rfl)
  simp only [Act.put, List.setIfInBounds_toArray, List.set_cons_zero, List.set_cons_succ]
  refine take_one (i := 35) (d := 48) (v := ?_) rfl rfl (by kernel_rfl) (by kernel_rfl) (by kernel_rfl) (fun _ _ _ _ _ h => h) (by rfl) ?_ hS ?_
  rotate_left
  · intro wz hz; (try dsimp only at hz); go_simp; (try with_reducible rfl)
  simp only [Act.put, List.setIfInBounds_toArray, List.set_cons_zero, List.set_cons_succ]
  refine take_one (i := 36) (d := 49) (v := ?_) rfl rfl (by kernel_rfl) (by kernel_rfl) (by kernel_rfl) (fun _ _ _ _ _ h => h) (by rfl) ?_ hS ?_
  rotate_left
  · intro wz hz; (try dsimp only at hz); go_simp; (try with_reducible rfl)
  simp only [Act.put, List.setIfInBounds_toArray, List.set_cons_zero, List.set_cons_succ]
  refine take_one (i := 37) (d := 50) (v := ?_) rfl rfl (by kernel_rfl) (by kernel_rfl) (by kernel_rfl) (fun _ _ _ _ _ h => h) (by rfl) ?_ hS ?_
  rotate_left
  · intro wz hz; (try dsimp only at hz); go_simp; (try with_reducible rfl)
  simp only [Act.put, List.setIfInBounds_toArray, List.set_cons_zero, List.set_cons_succ]
  refine take_one (i := 38) (d := 51) (v := ?_) rfl rfl (by kernel_rfl) (by kernel_rfl) (by kernel_rfl) (fun _ _ _ _ _ h => h) (by rfl) ?_ hS ?_
  rotate_left
  · intro wz hz; (try dsimp only at hz); go_simp; (try with_reducible rfl)
  simp only [Act.put, List.setIfInBounds_toArray, List.set_cons_zero, List.set_cons_succ]
  refine one_call (c := 39) (dc := 52) (f := 11) (args := #[.agg #[.int .i64 1, .slice a0 1 c0, .int .i64 0, .int .i64 0, .int .i64 0, .int .i64 0], .agg #[.int .i64 1, .slice a1 2 c1, .int .i64 0, .int .i64 0, .int .i64 0, .int .i64 0]]) (x := .int .i64 (-1)) rfl rfl (by kernel_rfl) (by rfl) ?ec (H11.out _ wfu) (fun W hu => HK.out W (wfu.trans hu (by simp))) (fun wg hu => ?_)
  case ec => go_simp
  have hS := HK.out wg (wfu.trans hu (by simp))
  have wgu : Upd [] w2 wg := wfu.trans hu (by simp)
  clear hu
  simp only [Act.put, List.setIfInBounds_toArray, List.set_cons_zero, List.set_cons_succ]
  refine take_one (i := 40) (d := 53) (v := ?_) rfl rfl (by kernel_rfl) (by kernel_rfl) (by kernel_rfl) (fun _ _ _ _ _ h => h) (by rfl) ?_ hS ?_
  rotate_left
  · intro wz hz; (try dsimp only at hz); go_simp; (try with_reducible rfl)
  simp only [Act.put, List.setIfInBounds_toArray, List.set_cons_zero, List.set_cons_succ]
  refine take_one (i := 41) (d := 54) (v := ?_) rfl rfl (by kernel_rfl) (by kernel_rfl) (by kernel_rfl) (fun _ _ _ _ _ h => h) (by rfl) ?_ hS ?_
  rotate_left
  · intro wz hz; (try dsimp only at hz); go_simp; (try with_reducible rfl)
  simp only [Act.put, List.setIfInBounds_toArray, List.set_cons_zero, List.set_cons_succ]
  refine take_one (i := 42) (d := 55) (v := ?_) rfl rfl (by kernel_rfl) (by kernel_rfl) (by kernel_rfl) (fun _ _ _ _ _ h => h) (by rfl) ?_ hS ?_
  rotate_left
  · intro wz hz; (try dsimp only at hz); go_simp; (try with_reducible rfl)
  simp only [Act.put, List.setIfInBounds_toArray, List.set_cons_zero, List.set_cons_succ]
  refine take_one (i := 43) (d := 56) (v := ?_) rfl rfl (by kernel_rfl) (by kernel_rfl) (by kernel_rfl) (fun _ _ _ _ _ h => h) (by rfl) ?_ hS ?_
  rotate_left
  · intro wz hz; (try dsimp only at hz); go_simp; (try with_reducible rfl)
  simp only [Act.put, List.setIfInBounds_toArray, List.set_cons_zero, List.set_cons_succ]
  refine take_one (i := 44) (d := 57) (v := ?_) rfl rfl (by kernel_rfl) (by kernel_rfl) (by kernel_rfl) (fun _ _ _ _ _ h => h) (by rfl) ?_ hS ?_
  rotate_left
  · intro wz hz; (try dsimp only at hz); go_simp; (try with_reducible rfl)
  simp only [Act.put, List.setIfInBounds_toArray, List.set_cons_zero, List.set_cons_succ]
  refine take_one (i := 45) (d := 58) (v := ?_) rfl rfl (by kernel_rfl) (by kernel_rfl) (by kernel_rfl) (fun _ _ _ _ _ h => h) (by rfl) ?_ hS ?_
  rotate_left
  · intro wz hz; (try dsimp only at hz); go_simp; (try with_reducible rfl)
  simp only [Act.put, List.setIfInBounds_toArray, List.set_cons_zero, List.set_cons_succ]
  refine take_one (i := 46) (d := 59) (v := ?_) rfl rfl (by kernel_rfl) (by kernel_rfl) (by kernel_rfl) (fun _ _ _ _ _ h => h) (by rfl) ?_ hS ?_
  rotate_left
  · intro wz hz; (try dsimp only at hz); go_simp; (try with_reducible rfl)
  simp only [Act.put, List.setIfInBounds_toArray, List.set_cons_zero, List.set_cons_succ]
  refine take_one (i := 47) (d := 60) (v := ?_) rfl rfl (by kernel_rfl) (by kernel_rfl) (by kernel_rfl) (fun _ _ _ _ _ h => h) (by rfl) ?_ hS ?_
  rotate_left
  · intro wz hz; (try dsimp only at hz); go_simp; (try with_reducible rfl)
  simp only [Act.put, List.setIfInBounds_toArray, List.set_cons_zero, List.set_cons_succ]
  refine take_one (i := 48) (d := 61) (v := ?_) rfl rfl (by kernel_rfl) (by kernel_rfl) (by kernel_rfl) (fun _ _ _ _ _ h => h) (by rfl) ?_ hS ?_
  rotate_left
  · intro wz hz; (try dsimp only at hz); go_simp; (try with_reducible rfl)
  simp only [Act.put, List.setIfInBounds_toArray, List.set_cons_zero, List.set_cons_succ]
  refine take_one (i := 49) (d := 62) (v := ?_) rfl rfl (by kernel_rfl) (by kernel_rfl) (by kernel_rfl) (fun _ _ _ _ _ h => h) (by rfl) ?_ hS ?_
  rotate_left
  · intro wz hz; (try dsimp only at hz); go_simp; (try with_reducible rfl)
  simp only [Act.put, List.setIfInBounds_toArray, List.set_cons_zero, List.set_cons_succ]
  refine take_one (i := 50) (d := 63) (v := ?_) rfl rfl (by kernel_rfl) (by kernel_rfl) (by kernel_rfl) (fun _ _ _ _ _ h => h) (by rfl) ?_ hS ?_
  rotate_left
  · intro wz hz; (try dsimp only at hz); go_simp; (try with_reducible rfl)
  simp only [Act.put, List.setIfInBounds_toArray, List.set_cons_zero, List.set_cons_succ]
  refine take_one (i := 51) (d := 64) (v := ?_) rfl rfl (by kernel_rfl) (by kernel_rfl) (by kernel_rfl) (fun _ _ _ _ _ h => h) (by rfl) ?_ hS ?_
  rotate_left
  · intro wz hz; (try dsimp only at hz); go_simp; (try with_reducible rfl)
  simp only [Act.put, List.setIfInBounds_toArray, List.set_cons_zero, List.set_cons_succ]
  refine take_one (i := 52) (d := 65) (v := ?_) rfl rfl (by kernel_rfl) (by kernel_rfl) (by kernel_rfl) (fun _ _ _ _ _ h => h) (by rfl) ?_ hS ?_
  rotate_left
  · intro wz hz; (try dsimp only at hz); go_simp; (try with_reducible rfl)
  simp only [Act.put, List.setIfInBounds_toArray, List.set_cons_zero, List.set_cons_succ]
  refine take_one (i := 53) (d := 66) (v := ?_) rfl rfl (by kernel_rfl) (by kernel_rfl) (by kernel_rfl) (fun _ _ _ _ _ h => h) (by rfl) ?_ hS ?_
  rotate_left
  · intro wz hz; (try dsimp only at hz); go_simp; (try with_reducible rfl)
  simp only [Act.put, List.setIfInBounds_toArray, List.set_cons_zero, List.set_cons_succ]
  refine take_one (i := 54) (d := 67) (v := ?_) rfl rfl (by kernel_rfl) (by kernel_rfl) (by kernel_rfl) (fun _ _ _ _ _ h => h) (by rfl) ?_ hS ?_
  rotate_left
  · intro wz hz; (try dsimp only at hz); go_simp; (try with_reducible rfl)
  simp only [Act.put, List.setIfInBounds_toArray, List.set_cons_zero, List.set_cons_succ]
  refine take_one (i := 55) (d := 68) (v := ?_) rfl rfl (by kernel_rfl) (by kernel_rfl) (by kernel_rfl) (fun _ _ _ _ _ h => h) (by rfl) ?_ hS ?_
  rotate_left
  · intro wz hz; (try dsimp only at hz); go_simp; (try with_reducible rfl)
  simp only [Act.put, List.setIfInBounds_toArray, List.set_cons_zero, List.set_cons_succ]
  refine take_one (i := 56) (d := 69) (v := ?_) rfl rfl (by kernel_rfl) (by kernel_rfl) (by kernel_rfl) (fun _ _ _ _ _ h => h) (by rfl) ?_ hS ?_
  rotate_left
  · intro wz hz; (try dsimp only at hz); go_simp; (try with_reducible rfl)
  simp only [Act.put, List.setIfInBounds_toArray, List.set_cons_zero, List.set_cons_succ]
  refine take_one (i := 57) (d := 0) (v := ?_) rfl rfl (by kernel_rfl) (by kernel_rfl) (by kernel_rfl) (fun _ _ _ _ _ h => h) (by rfl) ?_ hS ?_
  rotate_left
  · intro wz hz; (try dsimp only at hz); go_simp; (try with_reducible rfl)
  simp only [Act.put, List.setIfInBounds_toArray, List.set_cons_zero]
  refine wpAnyH_done (by kernel_rfl) ?_ _
  refine NoPanic.normal ?_
  go_wp2_with fail
  go_ret
  exact ⟨by first | rfl | (simp; done), HU2.out.trans wgu (by simp)⟩
end Go.Proofs.Ytdkkgajamogmeaa
