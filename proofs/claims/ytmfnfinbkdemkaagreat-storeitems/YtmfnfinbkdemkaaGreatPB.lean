/- Contract: slices.Insert over items: in place and into a new row. -/
/- slices.SortFunc over items: the library's own contract, laid at this program. -/
import Derived.Test.YtmfnfinbkdemkaaGreatPH
import Derived.Shelf.SlSortCmp.WholeK
namespace Go.Proofs.YtmfnfinbkdemkaaGreat
open Go.RowKit Go.Lib

set_option maxRecDepth 100000 in
set_option maxHeartbeats 4000000 in
theorem SInsert_shift (g cap : Nat) (l : List It) (it : It) (i vb : Nat) (w : World) (hi : i < l.length) (hroom : l.length + 1 ≤ cap) (hcap : cap ≤ maxLen) (hl : l.length ≤ 100000) (hH : Held LI 36 w g cap l)
    (hvb : w.heap[vb]? = some (.cells #[.int .i64 it.t, .int .i64 it.q, .int .i64 it.s] 36 (0, 0))) (hne : vb ≠ g) :
    Calls Tryz.prog 81 #[.slice (some ⟨g, 0, none⟩) l.length cap, .int .i64 i, .slice (some ⟨vb, 0, none⟩) 1 1] w fun e w' => e = .returned (.slice (some ⟨g, 0, none⟩) (l.length + 1) cap) ∧ w' = (w.drew.setCells g ((i + 1) * 3) (LI.flat (l.drop i))).setCells g (i * 3) (LI.enc it) := by
  obtain ⟨cur, hg, hs, ht⟩ := hH.ex
  have hs3 : cur.size = cap * 3 := hs
  obtain ⟨n, hn⟩ : ∃ n, n = l.length := ⟨_, rfl⟩
  rw [← hn] at hi hroom hl ⊢
  obtain ⟨cs, hcs⟩ : ∃ cs, cs = LI.flat (l.drop i) := ⟨_, rfl⟩
  have hcl : cs.length = (n - i) * 3 := by rw [hcs, LI.flat_length, List.length_drop, hn]; rfl
  have hsrc : ∀ j v, cs[j]? = some v → w.cell? ⟨g, i * 3 + j, none⟩ = some v := fun j v hj => by
    rw [cell_block hg]
    have h1 : (LI.flat l)[i * 3 + j]? = some v := by
      rw [hcs, ← LI.flat_drop l i (by omega), List.getElem?_drop] at hj
      exact hj
    rw [← ht, List.getElem?_take] at h1
    split at h1
    · rw [← Array.getElem?_toList]; exact h1
    · simp at h1
  have hone : ∀ v ∈ cs, v.oneCell' = true := by rw [hcs]; exact LI.flat_one _
  have hsome : ∀ j, j < cap * 3 → (w.cell? ⟨g, j, none⟩).isSome = true := fun j hj => by
    rw [cell_block hg, Array.getElem?_eq_getElem (by omega)]; rfl
  have hfz : ∀ j, w.frozen? ⟨g, j, none⟩ = false := fun j => free_block hg j
  have hov : ∀ o lb cb, (callFunc 113 #[.slice (some ⟨vb, 0, none⟩) 1 1, .slice (some ⟨g, o, none⟩) lb cb]).run Tryz.prog w = .ok (.value (.bool false)) w := fun o lb cb => by
    rw [run_callFunc_extern Tryz.func113 (by kernel_rfl) (by kernel_rfl) (by kernel_rfl) (e := Extern.SlicesOverlaps.overlaps #[47, 47] #[4]) (by kernel_rfl),
      Lib.run_overlaps_apart w 47 4 36 Tryz.underlying47 3 Tryz.sizeOf36 ⟨vb, 0, none⟩ ⟨g, o, none⟩ 1 1 lb cb hne 36 36 3 (cap * 3) (by simp [World.shape?, hvb]) (by simp [World.shape?, hg, hs3]) (by omega) (free_block hvb _) (free_block hvb _)]
    rfl
  have hcp1 : ∀ ty dc sc, (Builtin.copy_ #[47, 47] ty #[.slice (some ⟨g, (i + 1) * 3, none⟩) (n - i) dc, .slice (some ⟨g, i * 3, none⟩) (n + 1 - i) sc]).run Tryz.prog w.drew = .ok (goInt ((n - i : Nat) : Int)) (w.drew.setCells g ((i + 1) * 3) cs) := fun ty dc sc =>
    run_copy_items w.drew ty g ((i + 1) * 3) _ dc ⟨g, i * 3, none⟩ _ sc (n - i) cs (by simp only [Nat.min_def]; split <;> omega) hcl (fun j v hj => by rw [Addr.add_lit]; exact hsrc j v hj) (fun j hj => hsome _ (by omega)) (fun j hj => hfz _) hone
  obtain ⟨W1, hW1⟩ : ∃ W1, W1 = w.drew.setCells g ((i + 1) * 3) cs := ⟨_, rfl⟩
  have hsp1 : ∀ k, k < cap * 3 → (W1.cell? ⟨g, k, none⟩).isSome = true := fun k hk => by
    rw [hW1]
    exact isSome_setCells g cs ((i + 1) * 3) w.drew (fun j hj => hsome ((i + 1) * 3 + j) (by omega)) k (hsome k hk)
  obtain ⟨b0, b1, b2⟩ := cells3 hvb
  have hcp2 : ∀ (W : World), (∀ x, W.cell? x = W1.cell? x) → (∀ x, W.frozen? x = W1.frozen? x) → ∀ ty dc, (Builtin.copy_ #[47, 47] ty #[.slice (some ⟨g, i * 3, none⟩) (n + 1 - i) dc, .slice (some ⟨vb, 0, none⟩) 1 1]).run Tryz.prog W = .ok (goInt ((1 : Nat) : Int)) (W.setCells g (i * 3) (LI.enc it)) := fun W hWc hWf ty dc =>
    run_copy_items W ty g (i * 3) _ dc ⟨vb, 0, none⟩ 1 1 1 (LI.enc it) (by simp only [Nat.min_def]; split <;> omega) rfl
      (fun j v hj => by
        rw [Addr.add_lit, hWc, hW1, World.cell?_setCells_out g _ _ _ _ (fun h _ => absurd h hne), Nat.zero_add]
        show w.cell? ⟨vb, j, none⟩ = _
        rw [cell_block hvb]
        simpa [LI] using hj)
      (fun j hj => by
        have hj3 : j < 3 := hj
        rw [hWc]; exact hsp1 _ (by omega))
      (fun j hj => by rw [hWf, hW1, World.frozen?_setCells]; exact hfz _) (LI.one it)
  rw [← hW1] at hcp1
  have HW1 := Lib.hid hW1
  have HCS := Lib.hid hcs
  clear hcs hsrc hs hs3 ht hg hH hW1 hsp1 hsome hfz hvb b0 b1 b2
  have hw1 : IntKind.i64.wrap ((n : Int) + 1) = (n : Int) + 1 := by rw [IntKind.wrap_i64]; omega
  have hw2 : IntKind.i64.wrap ((i : Int) + 1) = (i : Int) + 1 := by rw [IntKind.wrap_i64]; omega
  have hin : i ≤ n := by omega
  have hz2 : ((i : Int) == (n : Int)) = false := by simp; omega
  have hz3 : decide ((cap : Int) < (n : Int) + 1) = false := by simp; unfold maxLen at hcap; omega
  have hic : i ≤ cap := by omega
  have hic2 : i + 1 ≤ n + 1 := by omega
  have hmx := mixed
  have hb1 : (0 : Int) ≤ (i : Int) + 1 := by omega
  have hb3 : (i : Int) ≤ (n : Int) + 1 := by omega
  have hb2 : ¬ cap = i + 1 := by omega
  have hb4 : ¬ cap = i := by omega
  have hc63 : cap ≤ 9223372036854775807 := hcap
  have HNN := Lib.hid hn
  clear hn hcap
  go_enter Tryz.func81, Tryz.ntmps81
  go_upto_region 15 with (simp only [hov])
  go_region_law_o (refine step_copy_runI rfl _ _ 47 47 rfl _ _ (by simp [Act.eval, Act.put]) (by simp [Act.eval, Act.put]) (hcp1 _ _ _) ?_)
  go_wp2_with (at_builtin; refine wpList_copy_runI _ rfl _ _ 47 47 rfl _ _ rfl rfl (hcp2 _ (fun _ => rfl) (fun _ => rfl) _ _) ?_)
  go_ret
  first | exact ⟨rfl, by rw [HW1.out, HCS.out]⟩ | (rw [HW1.out, HCS.out]; exact ⟨rfl, rfl⟩)
theorem zeroCells_size (z : Array Value) (k : Nat) : (Builtin.zeroCells z k).size = k * z.size := by
  unfold Builtin.zeroCells
  simp
set_option maxRecDepth 100000 in
set_option maxHeartbeats 4000000 in
theorem SInsert_grow (g cap : Nat) (l : List It) (it : It) (i vb : Nat) (w : World) (hi : i < l.length) (hroom : cap < l.length + 1) (hl : l.length ≤ 100000) (hH : Held LI 36 w g cap l)
    (hvb : w.heap[vb]? = some (.cells #[.int .i64 it.t, .int .i64 it.q, .int .i64 it.s] 36 (0, 0))) :
    Calls Tryz.prog 81 #[.slice (some ⟨g, 0, none⟩) l.length cap, .int .i64 i, .slice (some ⟨vb, 0, none⟩) 1 1] w fun e w' => ∃ G, e = .returned (.slice (some ⟨w.heap.size, 0, none⟩) (l.length + 1) G) ∧ G ≤ maxLen ∧ Held LI 36 w' w.heap.size G (l.take i ++ it :: l.drop i) ∧ Upd [] w w' := by
  obtain ⟨cur, hg, hs, ht⟩ := hH.ex
  have hs3 : cur.size = cap * 3 := hs
  have hle := hH.le
  have hgw : g < w.heap.size := lt_block hg
  have hvw : vb < w.heap.size := lt_block hvb
  obtain ⟨n, hn⟩ : ∃ n, n = l.length := ⟨_, rfl⟩
  rw [← hn] at hi hroom hl hle ⊢
  obtain ⟨cs, hcs⟩ : ∃ cs, cs = LI.flat (l.drop i) := ⟨_, rfl⟩
  have hcl : cs.length = (n - i) * 3 := by rw [hcs, LI.flat_length, List.length_drop, hn]; rfl
  have hall : ∀ t u, (LI.flat l)[t]? = some u → w.cell? ⟨g, t, none⟩ = some u := fun t u h1 => by
    rw [cell_block hg]
    rw [← ht, List.getElem?_take] at h1
    split at h1
    · rw [← Array.getElem?_toList]; exact h1
    · simp at h1
  have hsrc : ∀ j v, cs[j]? = some v → w.cell? ⟨g, i * 3 + j, none⟩ = some v := fun j v hj => hall _ _ (by
    rw [hcs, ← LI.flat_drop l i (by omega), List.getElem?_drop] at hj
    exact hj)
  have hone : ∀ v ∈ cs, v.oneCell' = true := by rw [hcs]; exact LI.flat_one _
  obtain ⟨i0, z, b, hi0, hz0, hz1, hz2, hz3, hb⟩ := tyI.info
  have hz1' : i0.size = 3 := hz1
  have hold : (Builtin.firstCells i0.size i (.slice (some ⟨g, 0, none⟩) i cap)).run Tryz.prog w.drew = .ok (LI.flat (l.take i)).toArray w.drew := by
    rw [hz1']
    exact run_firstCells_some w.drew 3 i ⟨g, 0, none⟩ i cap (LI.flat (l.take i)) (by rw [LI.flat_length, List.length_take, Nat.min_eq_left (by omega)]; rfl) (fun j v hj => by
      rw [Addr.add_lit, Nat.zero_add]
      refine hall j v ?_
      rw [← LI.flat_take l i (by omega), List.getElem?_take] at hj
      split at hj
      · exact hj
      · simp at hj)
  have hik : i + (n + 1 - i) = n + 1 := by omega
  have hkk : (n : Int) + 1 - (i : Int) = ((n + 1 - i : Nat) : Int) := by omega
  obtain ⟨G, hG⟩ : ∃ G, G = grownCap w (n + 1) cap 36 := ⟨_, rfl⟩
  obtain ⟨ROW, hROW⟩ : ∃ ROW : Array Value, ROW = (LI.flat (l.take i)).toArray ++ Builtin.zeroCells z.cells (n + 1 - i) ++ Builtin.zeroCells z.cells (G - (n + 1)) := ⟨_, rfl⟩
  have hrz : ∀ ty, (Builtin.append_ #[47, 3] ty #[.slice (some ⟨g, 0, none⟩) i cap, .int .i64 ((n : Int) + 1 - (i : Int))]).run Tryz.prog w = .ok (.slice (some ⟨w.heap.size, 0, none⟩) (n + 1) G) (w.drew.alloc (.cells ROW 36)) := fun ty => by
    have h := Lib.run_append_grow_zeros (P := Tryz.prog) w 47 3 ty 36 i0 z .i64 .i64 Tryz.underlying47 Tryz.underlying3 hi0 hz0 (some ⟨g, 0, none⟩) i cap (LI.flat (l.take i)) hold (n + 1 - i) (by omega) (by omega) (by omega) (by omega) (by rw [hz2]; exact Nat.le_trans (Nat.mul_le_mul (show n + 1 - i ≤ 100001 by omega) hb) (by decide)) (by
      rw [hik]
      exact growslice_fits hroom (by rw [hz2]; exact Nat.le_trans (Nat.mul_le_mul (show n + 1 ≤ 100001 by omega) hb) (by decide)))
    rw [hik, ← hG, ← hROW] at h
    rw [hkk]
    exact h
  have hGn : n + 1 ≤ G := by rw [hG]; exact grownCap_ge w _ _ _
  have hGm : G ≤ maxLen := by
    rw [hG]; exact grownCap_le_maxLen w (n + 1) cap 36 (by unfold maxLen; omega)
  have hzs : z.cells.size = 3 := hz3
  have hRs : ROW.size = G * 3 := by
    rw [hROW]
    simp only [Array.size_append, zeroCells_size, hzs, List.size_toArray, LI.flat_length, List.length_take]
    rw [show LI.k = 3 from rfl, Nat.min_eq_left (by omega)]
    omega
  have hRt : ROW.toList.take (i * 3) = LI.flat (l.take i) := by
    have hfl : (LI.flat (l.take i)).length = i * 3 := by rw [LI.flat_length, List.length_take, Nat.min_eq_left (by omega)]; rfl
    rw [hROW, Array.toList_append, Array.toList_append, List.append_assoc, ← hfl]
    simp
  obtain ⟨W1, hW1⟩ : ∃ W1, W1 = w.drew.alloc (.cells ROW 36) := ⟨_, rfl⟩
  rw [← hW1] at hrz
  have hbR : W1.heap[w.heap.size]? = some (.cells ROW 36 (0, 0)) := by rw [hW1]; exact heap_alloc1 w.drew _
  have hU1 : Upd [] w W1 := by rw [hW1]; exact ((Upd.refl [] w).drew).alloc _
  have hN : ∀ j, j < G * 3 → (W1.cell? ⟨w.heap.size, j, none⟩).isSome = true := fun j hj => by
    rw [cell_block hbR, Array.getElem?_eq_getElem (by omega)]; rfl
  have hNf : ∀ j, W1.frozen? ⟨w.heap.size, j, none⟩ = false := fun j => free_block hbR j
  have hcpA : ∀ (W : World), (∀ x, W.cell? x = W1.cell? x) → (∀ x, W.frozen? x = W1.frozen? x) → ∀ ty dc, (Builtin.copy_ #[47, 47] ty #[.slice (some ⟨w.heap.size, i * 3, none⟩) (n + 1 - i) dc, .slice (some ⟨vb, 0, none⟩) 1 1]).run Tryz.prog W = .ok (goInt ((1 : Nat) : Int)) (W.setCells w.heap.size (i * 3) (LI.enc it)) := fun W hWc hWf ty dc =>
    run_copy_items W ty w.heap.size (i * 3) _ dc ⟨vb, 0, none⟩ 1 1 1 (LI.enc it) (by simp only [Nat.min_def]; split <;> omega) rfl
      (fun j v hj => by
        rw [Addr.add_lit, hWc, Nat.zero_add]
        refine hU1.cell ?_ (by simp)
        rw [cell_block hvb]
        simpa [LI] using hj)
      (fun j hj => by
        have hj3 : j < 3 := hj
        rw [hWc]; exact hN _ (by omega))
      (fun j hj => by rw [hWf]; exact hNf _) (LI.one it)
  have hcpB : ∀ (W : World), (∀ x, W.cell? x = (W1.setCells w.heap.size (i * 3) (LI.enc it)).cell? x) → (∀ x, W.frozen? x = (W1.setCells w.heap.size (i * 3) (LI.enc it)).frozen? x) → ∀ ty dc sc, (Builtin.copy_ #[47, 47] ty #[.slice (some ⟨w.heap.size, (i + 1) * 3, none⟩) (n - i) dc, .slice (some ⟨g, i * 3, none⟩) (n - i) sc]).run Tryz.prog W = .ok (goInt ((n - i : Nat) : Int)) (W.setCells w.heap.size ((i + 1) * 3) cs) := fun W hWc hWf ty dc sc =>
    run_copy_items W ty w.heap.size ((i + 1) * 3) _ dc ⟨g, i * 3, none⟩ _ sc (n - i) cs (by simp) hcl
      (fun j v hj => by
        rw [Addr.add_lit, hWc, World.cell?_setCells_out _ _ _ _ _ (fun h _ => absurd h (by simp only; omega))]
        exact hU1.cell (hsrc j v hj) (by simp))
      (fun j hj => by rw [hWc]; exact isSome_setCells _ _ _ _ (fun t ht => hN _ (by have h3 : t < 3 := ht; omega)) _ (hN _ (by omega)))
      (fun j hj => by rw [hWf, World.frozen?_setCells]; exact hNf _) hone
  have HFIN : Hid (∀ W', W' = (((w.alloc (.cells ROW 36)).drew.setCells w.heap.size (i * 3) (LI.enc it)).drew).setCells w.heap.size ((i + 1) * 3) cs → G ≤ maxLen ∧ Held LI 36 W' w.heap.size G (l.take i ++ it :: l.drop i) ∧ Upd [] w W') := fun W' hW' => by
    subst hW'
    rw [drew_setCells]
    have hbR2 : ((w.alloc (.cells ROW 36)).drew.drew).heap[w.heap.size]? = some (.cells ROW 36 (0, 0)) := heap_alloc1 w _
    have hU2 : Upd [] w ((w.alloc (.cells ROW 36)).drew.drew) := (((Upd.refl [] w).alloc _).drew).drew
    refine ⟨hGm, ?_, ?_⟩
    · rw [hcs]
      exact ins_grow it hbR2 hRs hRt (by omega) (by omega)
    · rw [setCells_stores, setCells_stores]
      exact (hU2.new (stores_upd _ _ _ _) (Nat.le_refl _)).new (stores_upd _ _ _ _) (Nat.le_refl _)
  have hG63 : G ≤ 9223372036854775807 := hGm
  have HNN := Lib.hid hn
  subst hW1
  clear hold hall hsrc hs hs3 ht hg hH hROW hG hRs hRt hcs hone hik hGm hbR hU1 hN hNf hn hcl hz1' hz1 hz2 hz3 hzs hi0 hz0 hb hvb hkk
  have hE1 : ∀ x, ((w.alloc (.cells ROW 36)).drew).cell? x = (w.drew.alloc (.cells ROW 36)).cell? x := fun x => rfl
  have hE2 : ∀ x, ((w.alloc (.cells ROW 36)).drew).frozen? x = (w.drew.alloc (.cells ROW 36)).frozen? x := fun x => rfl
  have hF1 : ∀ x, (((w.alloc (.cells ROW 36)).drew.setCells w.heap.size (i * 3) (LI.enc it)).drew).cell? x = ((w.drew.alloc (.cells ROW 36)).setCells w.heap.size (i * 3) (LI.enc it)).cell? x := fun x => rfl
  have hF2 : ∀ x, (((w.alloc (.cells ROW 36)).drew.setCells w.heap.size (i * 3) (LI.enc it)).drew).frozen? x = ((w.drew.alloc (.cells ROW 36)).setCells w.heap.size (i * 3) (LI.enc it)).frozen? x := fun x => rfl
  have hw1 : IntKind.i64.wrap ((n : Int) + 1) = (n : Int) + 1 := by rw [IntKind.wrap_i64]; omega
  have hw2 : IntKind.i64.wrap ((i : Int) + 1) = (i : Int) + 1 := by rw [IntKind.wrap_i64]; omega
  have hw3 : IntKind.i64.wrap ((n : Int) + 1 - (i : Int)) = (n : Int) + 1 - (i : Int) := by rw [IntKind.wrap_i64]; omega
  have hin : i ≤ n := by omega
  have hz2 : ((i : Int) == (n : Int)) = false := by simp; omega
  have hz3 : decide ((cap : Int) < (n : Int) + 1) = true := by simp; omega
  have hic : i ≤ cap := by omega
  have hmx := mixed
  have hb1 : (0 : Int) ≤ (i : Int) + 1 := by omega
  have hb3 : (i : Int) ≤ (n : Int) + 1 := by omega
  have hb5 : i ≤ n + 1 := by omega
  have hb4 : ¬ cap = i := by omega
  have hG1 : ¬ G = i := by omega
  have hG2 : ¬ G = i + 1 := by omega
  go_enter Tryz.func81, Tryz.ntmps81
  go_wp2_with (first
    | (at_builtin; refine Lib.wpList_append_run _ rfl _ _ _ _ rfl _ _ rfl rfl _ _ (hrz _) ?_)
    | (at_builtin; refine wpList_copy_runI _ rfl _ _ 47 47 rfl _ _ rfl rfl (hcpA _ hE1 hE2 _ _) ?_)
    | (at_builtin; refine wpList_copy_runI _ rfl _ _ 47 47 rfl _ _ rfl rfl (hcpA _ (fun _ => rfl) (fun _ => rfl) _ _) ?_))
  go_region_law_o (refine step_copy_runI rfl _ _ 47 47 rfl (.slice (some ⟨w.heap.size, (i + 1) * 3, none⟩) (n - i) (G - (i + 1))) (.slice (some ⟨g, i * 3, none⟩) (n - i) (cap - i)) (by simp [Act.eval, Act.put]) (by simp [Act.eval, Act.put]) (hcpB _ hF1 hF2 3 (G - (i + 1)) (cap - i)) ?_)
  go_wp2_with fail
  go_ret
  exact ⟨G, rfl, HFIN.out _ rfl⟩
theorem SInsert_has (s : SlR It) (it : It) (p vb b0 : Nat) (w : World) (hp : p ≤ s.l.length) (ho : w.ownsRow b0 36 3 s.v s.l.length (LI.flat s.l)) (hl : s.l.length ≤ 100000)
    (hvb : w.heap[vb]? = some (.cells #[.int .i64 it.t, .int .i64 it.q, .int .i64 it.s] 36 (0, 0))) (hne : s.v.ownBlock ≠ some vb) (hb : b0 ≤ w.heap.size) :
    Calls Tryz.prog 81 #[.slice s.ad s.l.length s.cap, .int .i64 p, .slice (some ⟨vb, 0, none⟩) 1 1] w (InsPost s it p b0 w) := by
  by_cases h : p = s.l.length
  · subst h
    exact SInsert_end s it vb b0 w ho hl hvb hb
  · obtain ⟨hnn, g, cap, ev, hbg, hheld⟩ := held_row (L := LI) ho (by omega)
    have hcm : cap ≤ maxLen := by rw [ev] at ho; exact own_cap ho
    rw [ev] at hne
    obtain ⟨sl, sa, sc⟩ := s
    simp only [SlR.v, Value.slice.injEq] at ev
    obtain ⟨rfl, _, rfl⟩ := ev
    simp only at hp hl hheld h hnn ⊢
    have hne2 : vb ≠ g := fun e => hne (by rw [e]; rfl)
    by_cases hroom : sl.length + 1 ≤ sc
    · refine (SInsert_shift g sc sl it p vb w (by omega) hroom hcm hl hheld hvb hne2).mono ?_
      rintro e w' ⟨rfl, rfl⟩
      have hH2 : Held LI 36 w.drew g sc sl := hheld.keep ((Upd.refl [] w).drew) (by simp)
      have h3 := ins_shift it hH2 (show p ≤ sl.length by omega) hroom
      refine ⟨⟨sl.take p ++ it :: sl.drop p, some ⟨g, 0, none⟩, sc⟩, ?_, rfl, h3.has, fun b hb2 => fun _ a ea => ?_, ?_⟩
      · simp only [ins_length sl it p hp]
      · obtain rfl := Option.some.inj ea
        simp only
        omega
      · rw [setCells_stores, setCells_stores]
        show Upd [g] w _
        exact (((Upd.refl [g] w).drew).trans (stores_upd _ _ _ _) (fun x hx _ => hx)).trans (stores_upd _ _ _ _) (fun x hx _ => hx)
    · refine (SInsert_grow g sc sl it p vb w (by omega) (by omega) hl hheld hvb).mono ?_
      rintro e w' ⟨G, rfl, _, h3, h4⟩
      refine ⟨⟨sl.take p ++ it :: sl.drop p, some ⟨w.heap.size, 0, none⟩, G⟩, ?_, rfl, h3.has, fun b hb2 => fun _ a ea => ?_, h4.mono (by simp)⟩
      · simp only [ins_length sl it p hp]
      · obtain rfl := Option.some.inj ea
        simp only
        omega
end Go.Proofs.YtmfnfinbkdemkaaGreat
namespace Go.Proofs.YtmfnfinbkdemkaaGreat
open Go.Shelf Go.RowKit Go.Lib Go.Sort
def sortRen : Go.Shelf.Ren := ⟨fun | 6 => 48 | 15 => 75 | 14 => 74 | 28 => 107 | 29 => 108 | 20 => 99 | 21 => 100 | 22 => 101 | 23 => 102 | 24 => 103 | 25 => 104 | 26 => 105 | 27 => 106 | 46 => 123 | 47 => 124 | 48 => 125 | 49 => 126 | 50 => 127 | 57 => 131 | n => n, fun | 22 => 47 | 24 => 36 | 25 => 95 | 3 => 3 | 39 => 120 | 0 => 0 | 53 => 23 | 55 => 28 | 4 => 4 | 46 => 139 | 45 => 138 | 50 => 39 | 5 => 5 | 9 => 9 | 66 => 159 | 70 => 163 | 76 => 166 | 77 => 157 | n => n, fun n => n⟩
theorem sortLays : SlLaysF0.n6 Tryz.prog sortRen :=
  {
    mixed := by kernel_rfl,
    f6 := ⟨Tryz.f48.name, by decide, Tryz.func48.trans (congrArg some (by kernel_rfl))⟩,
    f14 := ⟨Tryz.f74.name, by decide, Tryz.func74.trans (congrArg some (by kernel_rfl))⟩,
    f15 := Tryz.func75.trans (congrArg some (by kernel_rfl)),
    f20 := ⟨Tryz.f99.name, by decide, Tryz.func99.trans (congrArg some (by kernel_rfl))⟩,
    f21 := ⟨Tryz.f100.name, by decide, Tryz.func100.trans (congrArg some (by kernel_rfl))⟩,
    f22 := ⟨Tryz.f101.name, by decide, Tryz.func101.trans (congrArg some (by kernel_rfl))⟩,
    f23 := ⟨Tryz.f102.name, by decide, Tryz.func102.trans (congrArg some (by kernel_rfl))⟩,
    f24 := ⟨Tryz.f103.name, by decide, Tryz.func103.trans (congrArg some (by kernel_rfl))⟩,
    f25 := ⟨Tryz.f104.name, by decide, Tryz.func104.trans (congrArg some (by kernel_rfl))⟩,
    f26 := ⟨Tryz.f105.name, by decide, Tryz.func105.trans (congrArg some (by kernel_rfl))⟩,
    f27 := ⟨Tryz.f106.name, by decide, Tryz.func106.trans (congrArg some (by kernel_rfl))⟩,
    f28 := Tryz.func107.trans (congrArg some (by kernel_rfl)),
    f29 := Tryz.func108.trans (congrArg some (by kernel_rfl)),
    f46 := ⟨Tryz.f123.name, by decide, Tryz.func123.trans (congrArg some (by kernel_rfl))⟩,
    f47 := Tryz.func124.trans (congrArg some (by kernel_rfl)),
    f48 := Tryz.func125.trans (congrArg some (by kernel_rfl)),
    f49 := ⟨Tryz.f126.name, by decide, Tryz.func126.trans (congrArg some (by kernel_rfl))⟩,
    f50 := ⟨Tryz.f127.name, by decide, Tryz.func127.trans (congrArg some (by kernel_rfl))⟩,
    f57 := ⟨Tryz.f131.name, by decide, Tryz.func131.trans (congrArg some (by kernel_rfl))⟩,
    t0 := Tryz.underlying0,
    a0 := Tryz.isAgg0,
    z0 := Tryz.sizeOf0,
    v0 := Tryz.zeroValue0,
    t3 := Tryz.underlying3,
    a3 := Tryz.isAgg3,
    z3 := Tryz.sizeOf3,
    v3 := Tryz.zeroValue3,
    t4 := Tryz.underlying4,
    a4 := Tryz.isAgg4,
    z4 := Tryz.sizeOf4,
    v4 := Tryz.zeroValue4,
    t5 := Tryz.underlying5,
    a5 := Tryz.isAgg5,
    z5 := Tryz.sizeOf5,
    v5 := Tryz.zeroValue5,
    t9 := Tryz.underlying9,
    a9 := Tryz.isAgg9,
    z9 := Tryz.sizeOf9,
    v9 := Tryz.zeroValue9,
    t22 := Tryz.underlying47,
    a22 := Tryz.isAgg47,
    z22 := Tryz.sizeOf47,
    v22 := Tryz.zeroValue47,
    t25 := Tryz.underlying95,
    a25 := Tryz.isAgg95,
    z25 := Tryz.sizeOf95,
    v25 := Tryz.zeroValue95,
    t39 := Tryz.underlying120,
    a39 := Tryz.isAgg120,
    z39 := Tryz.sizeOf120,
    v39 := Tryz.zeroValue120,
    t45 := Tryz.underlying138,
    a45 := Tryz.isAgg138,
    z45 := Tryz.sizeOf138,
    v45 := Tryz.zeroValue138,
    t46 := Tryz.underlying139,
    a46 := Tryz.isAgg139,
    z46 := Tryz.sizeOf139,
    v46 := Tryz.zeroValue139,
    t50 := Tryz.underlying39,
    a50 := Tryz.isAgg39,
    z50 := Tryz.sizeOf39,
    v50 := Tryz.zeroValue39,
    t53 := Tryz.underlying23,
    a53 := Tryz.isAgg23,
    z53 := Tryz.sizeOf23,
    v53 := Tryz.zeroValue23,
    t55 := Tryz.underlying28,
    a55 := Tryz.isAgg28,
    z55 := Tryz.sizeOf28,
    v55 := Tryz.zeroValue28,
    t66 := Tryz.underlying159,
    a66 := Tryz.isAgg159,
    z66 := Tryz.sizeOf159,
    v66 := Tryz.zeroValue159,
    t70 := Tryz.underlying163,
    a70 := Tryz.isAgg163,
    z70 := Tryz.sizeOf163,
    v70 := Tryz.zeroValue163,
    t76 := Tryz.underlying166,
    a76 := Tryz.isAgg166,
    z76 := Tryz.sizeOf166,
    v76 := Tryz.zeroValue166,
    t77 := Tryz.underlying157,
    a77 := Tryz.isAgg157,
    z77 := Tryz.sizeOf157,
    v77 := Tryz.zeroValue157 }
instance : Inhabited It := ⟨⟨0, 0, 0⟩⟩
theorem upd_sortWorldK {α : Type} [Inhabited α] (enc : α → List Value) (k : Nat) (w : World) (blk off m : Nat) (dk : Array α) (os : Array Obj) : Upd [blk] w (sortWorldK enc k w blk off m dk os) := by
  have h1 : Upd [blk] w (putRowK enc k (Sort.ahead w m) blk off dk) := by
    refine ⟨rfl, rfl, rfl, by rw [size_putRowK]; exact Nat.le_refl _, fun i hi hn => ?_⟩
    show ((Sort.ahead w m).heap.modify blk _)[i]? = _
    rw [Array.getElem?_modify, if_neg (by intro h; exact hn (by simp [h]))]
    rfl
  exact h1.trans (T := []) (upd_grow _ os) (by simp)
theorem cmp_lays (w : World) (g n : Nat) : CmpLays Tryz.prog 49 #[] LI.enc 3 cmpI g 0 n w := by
  intro m os dk _ x y
  exact CompareItems_any x y (sortWorldK LI.enc 3 w g 0 m dk os)
theorem swoI : SWO (ltOf cmpI) := by
  refine ⟨fun x => ?_, fun x y z h1 h2 => ?_, fun x y z h1 h2 => ?_⟩
  · simp only [ltOf, cmpI_lt, decide_eq_false_iff_not]; exact ltI_irrefl x
  · simp only [ltOf, cmpI_lt, decide_eq_true_eq] at *; exact ltI_trans h1 h2
  · simp only [ltOf, cmpI_lt, decide_eq_false_iff_not] at *; unfold ltI at *; omega
theorem held_holdsK {w : World} {g cap : Nat} {l : List It} (h : Held LI 36 w g cap l) : HoldsK LI.enc 3 w g 0 l.toArray := by
  intro t ht
  rw [size_flatK] at ht
  simp only [List.size_toArray] at ht
  have hj : t / 3 < l.length := by omega
  rw [get_flatK _ _ _ _ (by simpa using ht)]
  have hm : t % 3 < (LI.enc l[t / 3]).length := by rw [LI.len]; exact Nat.mod_lt _ (by decide)
  have e : (l.toArray)[t / 3]! = l[t / 3] := by rw [getElem!_pos _ _ (by simpa using hj)]; simp
  have := h.cell (t / 3) hj (t % 3) ((LI.enc l[t / 3])[t % 3]) (List.getElem?_eq_getElem hm)
  rw [show t / 3 * LI.k + t % 3 = t from by show t / 3 * 3 + t % 3 = t; omega] at this
  rw [e, Nat.zero_add, getElem!_pos (LI.enc l[t / 3]) _ hm]
  exact this
theorem swk_row {w W : World} {g : Nat} {d0 d' : Array It} (hb : g < w.heap.size) (hH : HoldsK LI.enc 3 w g 0 d0) (hs : d'.size = d0.size) (h : SWK LI.enc 3 w g 0 d' W) : Row LI W (some ⟨g, 0, none⟩) d'.toList := by
  have hW := h.holds hb hH hs
  intro j hj
  refine ⟨g, 0, rfl, fun t u hu => ?_⟩
  have ht := LI.lt hu
  have hj' : j < d'.size := by simpa using hj
  have ht3 : t < 3 := ht
  have hlt : j * 3 + t < d'.size * 3 := by omega
  have := hW (j * 3 + t) (by rw [size_flatK]; exact hlt)
  rw [get_flatK _ _ _ _ hlt, show (j * 3 + t) / 3 = j by omega, show (j * 3 + t) % 3 = t by omega] at this
  rw [show 0 + j * LI.k + t = 0 + (j * 3 + t) from by show 0 + j * 3 + t = _; omega, this.1]
  have hm : t < (LI.enc d'[j]!).length := by rw [LI.len]; exact ht
  rw [getElem!_pos d' j hj'] at hm ⊢
  simp only [Array.getElem_toList] at hu
  rw [List.getElem?_eq_getElem hm] at hu
  show some (LI.enc d'[j])[t]! = some u
  rw [getElem!_pos (LI.enc d'[j]) t hm]
  exact hu
theorem sorted_perm {d0 d' : Array It} (hp : PermIn 0 d0.size d0 d') (hs : SortedIn (ltOf cmpI) 0 d0.size d') : d'.toList.Perm d0.toList ∧ SortedI d'.toList := by
  obtain ⟨hz, _, hperm⟩ := hp
  have e1 : d'.extract 0 d0.size = d' := by rw [← hz]; exact Array.extract_size
  rw [e1, Array.extract_size] at hperm
  refine ⟨hperm, ?_⟩
  rw [SortedI, List.pairwise_iff_getElem]
  intro i j hi hj hij
  have hi' : i < d'.size := by simpa using hi
  have hj' : j < d'.size := by simpa using hj
  have := hs i j (Nat.zero_le _) hij (by omega)
  rw [getElem!_pos d' i hi', getElem!_pos d' j hj'] at this
  simp only [ltOf, cmpI_lt, decide_eq_false_iff_not] at this
  simpa using this
set_option maxRecDepth 100000 in
theorem SortFunc_has (g cap : Nat) (l : List It) (w : World) (hl : l.length ≤ 1000000) (hH : Held LI 36 w g cap l) :
    Calls Tryz.prog 48 #[.slice (some ⟨g, 0, none⟩) l.length cap, .func (.func 49) #[] #[]] w fun e w' =>
      e = .returned (.tuple #[]) ∧ ∃ l', l'.Perm l ∧ SortedI l' ∧ HasS LI w' ⟨l', some ⟨g, 0, none⟩, cap⟩ ∧ Upd [g] w w' := by
  have hk := held_holdsK hH
  have hb := hH.lt
  have h := AnyQ.slices_SortFunc sortLays 3 Tryz.isAgg36 Tryz.sizeOf36 LI.enc LI.len LI.one cmpI swoI 49 #[] g 0 cap l.toArray w (enters_of Tryz.func49 (by kernel_rfl) rfl) (cmp_lays w g _) hk hb (by simp; omega)
  have h2 : Calls Tryz.prog 48 #[.slice (some ⟨g, 0, none⟩) l.length cap, .func (.func 49) #[] #[]] w fun e w' => e = .returned (.tuple #[]) ∧ ∃ d' n os, PermIn 0 l.toArray.size l.toArray d' ∧ SortedIn (ltOf cmpI) 0 l.toArray.size d' ∧ w' = sortWorldK LI.enc 3 w g 0 n d' os := by
    have e : l.toArray.size = l.length := by simp
    rw [e] at h ⊢
    exact h
  refine h2.mono ?_
  rintro e w' ⟨rfl, d', n, os, hp, hs, rfl⟩
  obtain ⟨p1, p2⟩ := sorted_perm hp hs
  refine ⟨rfl, d'.toList, by simpa using p1, p2, ⟨swk_row hb hk hp.1 ⟨n, os, rfl⟩, ?_, fun e => by simp at e⟩, upd_sortWorldK _ _ _ _ _ _ _ _⟩
  have := p1.length_eq
  have h3 := hH.le
  simp only at this ⊢
  rw [this]; simpa using h3
end Go.Proofs.YtmfnfinbkdemkaaGreat
