/- Contracts: Child, the program's and the reference's. -/
import Derived.Test.YtdkkgajamogmeaaXL
import Derived.Laws.CopyOwn
namespace Go.Proofs.Ytdkkgajamogmeaa
open Go.Shelf Go.RowKit Go.Sort Go.Lib

theorem ints_none {w : World} {xs : List Int} (h : Ints w none xs) : xs = [] := by
  cases xs with
  | nil => rfl
  | cons x xs => obtain ⟨b, off, h, _⟩ := h 0 (by simp); simp at h
theorem ints_cells {w : World} {ad : Addr} {xs : List Int} (h : Ints w (some ad) xs) : ∀ (j : Nat) (u : Value), (xs.map (Value.int .i64))[j]? = some u → w.cell? (ad.add j) = some u := fun j u hj => by
  rw [List.getElem?_map] at hj
  obtain ⟨x, hx, rfl⟩ := Option.map_eq_some_iff.1 hj
  obtain ⟨hl, rfl⟩ := List.getElem?_eq_some_iff.1 hx
  obtain ⟨b, off, h, hc⟩ := h j hl
  obtain rfl := Option.some.inj h
  rw [Addr.add_lit]; exact hc
theorem size1 : (Try.prog.info? 3).map (·.size) = some 1 := by kernel_rfl
theorem splice_all (xs : List Int) : splice ((List.replicate (xs.length + 1) (0 : Int)).map (Value.int .i64)) 0 (xs.map (Value.int .i64)) = ((xs ++ [0]).map (Value.int .i64)) := by
  unfold splice
  rw [List.take_zero, List.nil_append, List.length_map, Nat.zero_add, ← List.map_drop, List.drop_replicate, show xs.length + 1 - xs.length = 1 by omega]
  simp

set_option maxHeartbeats 2000000 in
set_option maxRecDepth 100000 in
theorem Child_any (a : Option Addr) (c : Nat) (xs : List Int) (i : Int) (w : World) (ha : Ints w a xs) (hx : xs.length ≤ 1000000) :
    Calls Try.prog 18 #[.slice a xs.length c, .int .i64 i] w (Gives (xs ++ [i]) w) := by
  obtain ⟨n, hn⟩ : ∃ n, n = xs.length := ⟨_, rfl⟩
  have hmk := mkAny 24 3 (.int .i64 0) 1 8 Try.underlying24 infoInt (n + 1) (by omega) (by omega) (icells (List.replicate (n + 1) (0 : Int))) (madeInts (n + 1))
  obtain ⟨Z, hZ⟩ : ∃ Z, Z = (List.replicate (n + 1) (0 : Int)).map (Value.int .i64) := ⟨_, rfl⟩
  have hic : icells (List.replicate (n + 1) (0 : Int)) = Z.toArray := by rw [hZ]; rfl
  rw [hic] at hmk
  obtain ⟨X, hX⟩ : ∃ X, X = xs.map (Value.int .i64) := ⟨_, rfl⟩
  have HSP : Hid (splice Z 0 X = (xs ++ [0]).map (Value.int .i64)) := by show _ = _; rw [hZ, hX, hn]; exact splice_all xs
  have HXL : Hid (X.length = n) := by show _ = _; rw [hX, List.length_map, hn]
  have HZL : Hid (Z.length = n + 1) := by show _ = _; rw [hZ]; simp
  have HX1 : Hid (∀ v ∈ X, v.oneCell' = true) := by show ∀ v ∈ X, _; rw [hX]; simp [Value.oneCell']
  have HXC : Hid (0 < X.length → ∃ ad, a = some ad ∧ ∀ (j : Nat) (u : Value), X[j]? = some u → w.cell? (ad.add j) = some u) := fun h0 => by
    cases a with
    | none => have := ints_none ha; subst this; rw [hX] at h0; simp at h0
    | some ad => exact ⟨ad, rfl, by rw [hX]; exact ints_cells ha⟩
  rw [← hn]
  have HN := Lib.hid hn
  clear hZ hX hic ha
  rw [← hn] at hx
  clear hn
  have en : IntKind.i64.wrap ((n : Int) + 1) = (n : Int) + 1 := by rw [IntKind.wrap_i64]; omega
  have hmk' : ∀ w : World, (Instr.makeSlice 24 (.int .i64 ((n : Int) + 1)) (.int .i64 ((n : Int) + 1))).run Try.prog w = .ok (.slice (some ⟨w.heap.size, 0, none⟩) (n + 1) (n + 1)) (w.alloc (.cells Z.toArray 3)) := by
    intro w; have := hmk w; rwa [show ((n + 1 : Nat) : Int) = (n : Int) + 1 by omega] at this
  clear hmk
  go_enter Try.func18, Try.ntmps18
  go_upto_region 3 with (with_reducible refine wpList_copy_splice rfl _ _ _ _ rfl 3 Try.underlying24 size1 _ _ _ _ _ _ rfl rfl w.heap.size 0 Z 3 (heap_alloc1 w _) X (HXL.out.trans (by simp [Nat.min_def])) (fun h0 => ⟨rfl, by obtain ⟨ad, h1, h2⟩ := HXC.out h0; exact ⟨ad, h1, fun j u hj => Lib.cell?_alloc_some _ (h2 j u hj)⟩⟩) (by rw [HXL.out, HZL.out]; omega) HX1.out w.heap.size w ((Below.refl _ w).alloc (Nat.le_refl _) _) (Nat.le_refl _) ?_; intro w2 HB2 hbel; have HBE := Lib.hid hbel; clear hbel)
  have hb : w2.heap[w.heap.size]? = some (.cells (icells (xs ++ [0])) 3 (0, 0)) := by
    have := HB2.out
    rw [HSP.out] at this
    exact this
  have hlx : n < (xs ++ [(0 : Int)]).length := by rw [List.length_append, ← HN.out]; simp
  obtain ⟨v, cc⟩ := icell_some hb n hlx
  have ff := free_block hb n
  have HU : Hid (Upd [] w w2) := Upd.of_below HBE.out
  have HB := Lib.hid hb
  have hnz : (n : Int) < (n : Int) + 1 := by omega
  clear hb hlx
  go_wp2_with fail
  go_ret
  have hset : (xs ++ [(0 : Int)]).set n i = xs ++ [i] := by rw [HN.out]; simp
  refine gives (xs := xs ++ [i]) (by rw [List.length_append, ← HN.out]; rfl) (Nat.le_refl _) (ints_block (by rw [setCell_block HB.out, icells_set, hset])) (HU.out.setCell (by simp) _)

set_option maxHeartbeats 2000000 in
set_option maxRecDepth 100000 in
theorem RChild_any (a : Option Addr) (c : Nat) (xs : List Int) (i : Int) (w : World) (ha : Ints w a xs) (hc : a = none → c = 0) (hx : xs.length ≤ 100000) :
    Calls Try.prog 19 #[.slice a xs.length c, .int .i64 i] w (Gives (xs ++ [i]) w) := by
  obtain ⟨i0, hi0, hz0, hz1, hz2⟩ := info_parts infoInt
  have HA := Lib.hid ha
  clear ha
  cases a with
  | none =>
    have hn := ints_none HA.out
    subst hn
    obtain rfl := hc rfl
    clear HA
    simp only [List.length_nil, List.nil_append]
    go_enter Try.func19, Try.ntmps19
    go_upto_region 2 with (at_builtin; refine wpList_append_own_none rfl _ _ 24 rfl w.heap.size 3 i0 1 Try.underlying24 hi0 (.slice (some ⟨w.heap.size, 0, none⟩) 0 0) 0 [] rfl (World.ownsRow_made w #[] 0 (Nat.le_refl _) (Nat.zero_le _) (by simp)) rfl ?_)
    go_wp2_with (at_builtin; refine app_int rfl _ _ rfl w.heap.size (.slice (some ⟨w.heap.size, 0, none⟩) 0 0) 0 [] rfl (by exact (World.ownsRow_made w #[] 0 (Nat.le_refl _) (Nat.zero_le _) (by simp)).alloc _) (w.heap.size + 1) i (by first | rfl | simp) (heap_alloc2 _ _ _) (by omega) (by simp; omega) ?_; intro g cap w2 hown hgrow hat hlt; have HO2 := Lib.hid hown; have HG2 := Lib.hid hgrow; clear hown hgrow hat)
    go_ret
    exact gives_row' HO2.out (Nat.le_refl _) (((((Upd.refl [] w).alloc _).alloc _)).grown HG2.out (fun k hk hl => by simp [Value.ownBlock] at hk; omega))
  | some ad =>
    have HN := Lib.hid (ints_cells HA.out)
    clear HA hc
    go_enter Try.func19, Try.ntmps19
    go_upto_region 2 with (at_builtin; refine wpList_append_own _ rfl _ _ 24 rfl w.heap.size 3 i0 _ 1 8 Try.underlying24 hi0 hz0 hz1 hz2 rfl (by decide) (.slice (some ⟨w.heap.size, 0, none⟩) 0 0) 0 [] rfl (World.ownsRow_made w #[] 0 (Nat.le_refl _) (Nat.zero_le _) (by simp)) ad xs.length c (xs.map (Value.int .i64)) rfl (by simp) (fun j u hj => Lib.cell?_alloc_some _ (HN.out j u hj)) (by simp [Value.oneCell']) (by simp [maxLen]; omega) (by omega) (by simp) ?_; intro v' w1 hown hgrow hnil; have HO := Lib.hid hown; have HG := Lib.hid hgrow; clear hown hgrow hnil)
    have HU : Hid (Upd [] w w1) := ((Upd.refl [] w).alloc _).grown HG.out (fun k hk hl => by simp [Value.ownBlock] at hk; omega)
    have HO1 : Hid (w1.ownsRow w.heap.size 3 1 v' xs.length (xs.map (Value.int .i64))) := by
      have := HO.out
      rw [Nat.zero_add, List.nil_append] at this
      exact this
    have hsz := HU.out.size
    go_wp2_with (at_builtin; refine app_int rfl _ _ rfl w.heap.size v' xs.length xs rfl (by exact HO1.out.alloc _) _ _ rfl (heap_alloc1 _ _) (by omega) (by simp; omega) ?_; intro g cap w2 hown hgrow hat hlt; have HO2 := Lib.hid hown; have HG2 := Lib.hid hgrow; clear hown hgrow hat)
    go_ret
    exact gives_row' HO2.out (Nat.le_refl _) (app_upd HU.out HO1.out HG2.out)
end Go.Proofs.Ytdkkgajamogmeaa
