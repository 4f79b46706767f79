
/- Contract: slices.Insert over items in a row of the call's own that begins anywhere in its block. -/
import Derived.Test.YtpabapjodcafkaaGreatPX
import Derived.Deep.AppendSrc
namespace Go.Proofs.YtpabapjodcafkaaGreat
open Go.RowKit Go.Lib

theorem held_at {w : World} {g c : Nat} {P l : List It} (h : Held LI 38 w g c (P ++ l)) : ∀ t u, (LI.flat l)[t]? = some u → w.cell? ⟨g, P.length * 3 + t, none⟩ = some u := fun t u h1 => by
  obtain ⟨cur, hg, _, ht⟩ := h.ex
  have h2 : (LI.flat (P ++ l))[P.length * 3 + t]? = some u := by
    rw [LI.flat_append, List.getElem?_append_right (by rw [LI.flat_length]; exact Nat.le_add_right _ _), LI.flat_length]
    rw [show P.length * LI.k = P.length * 3 from rfl, Nat.add_sub_cancel_left]
    exact h1
  rw [cell_block hg]
  rw [← ht, List.getElem?_take] at h2
  split at h2
  · rw [← Array.getElem?_toList]; exact h2
  · simp at h2
set_option maxRecDepth 100000 in
set_option maxHeartbeats 4000000 in
theorem SInsertO_shift (g cap : Nat) (P l : List It) (it : It) (i vb : Nat) (w : World) (hi : i < l.length) (hroom : l.length + 1 ≤ cap) (hcap : P.length + cap ≤ maxLen) (hl : l.length ≤ 100000) (hH : Held LI 38 w g (P.length + cap) (P ++ l))
    (hvb : w.heap[vb]? = some (.cells #[.int .i64 it.t, .int .i64 it.q, .int .i64 it.s] 38 (0, 0))) (hne : vb ≠ g) :
    Calls Tryz.prog 36 #[.slice (some ⟨g, P.length * 3, none⟩) l.length cap, .int .i64 i, .slice (some ⟨vb, 0, none⟩) 1 1] w fun e w' => e = .returned (.slice (some ⟨g, P.length * 3, none⟩) (l.length + 1) cap) ∧ w' = (w.drew.setCells g (P.length * 3 + (i + 1) * 3) (LI.flat (l.drop i))).setCells g (P.length * 3 + i * 3) (LI.enc it) := by
  have HHC := held_at hH
  obtain ⟨cur, hg, hs, ht⟩ := hH.ex
  have hs3 : cur.size = (P.length + cap) * 3 := hs
  obtain ⟨o, ho⟩ : ∃ o, o = P.length * 3 := ⟨_, rfl⟩
  rw [← ho] at HHC ⊢
  obtain ⟨n, hn⟩ : ∃ n, n = l.length := ⟨_, rfl⟩
  rw [← hn] at hi hroom hl ⊢
  obtain ⟨cs, hcs⟩ : ∃ cs, cs = LI.flat (l.drop i) := ⟨_, rfl⟩
  have hcl : cs.length = (n - i) * 3 := by rw [hcs, LI.flat_length, List.length_drop, hn]; rfl
  have hsrc : ∀ j v, cs[j]? = some v → w.cell? ⟨g, o + i * 3 + j, none⟩ = some v := fun j v hj => by
    rw [show o + i * 3 + j = o + (i * 3 + j) by omega]
    refine HHC _ _ ?_
    rw [hcs, ← LI.flat_drop l i (by omega), List.getElem?_drop] at hj
    exact hj
  have hone : ∀ v ∈ cs, v.oneCell' = true := by rw [hcs]; exact LI.flat_one _
  have hsome : ∀ j, j < o + cap * 3 → (w.cell? ⟨g, j, none⟩).isSome = true := fun j hj => by
    rw [cell_block hg, Array.getElem?_eq_getElem (by omega)]; rfl
  have hfz : ∀ j, w.frozen? ⟨g, j, none⟩ = false := fun j => free_block hg j
  have hov : ∀ oo lb cb, (callFunc 50 #[.slice (some ⟨vb, 0, none⟩) 1 1, .slice (some ⟨g, oo, none⟩) lb cb]).run Tryz.prog w = .ok (.value (.bool false)) w := fun oo lb cb => by
    rw [run_callFunc_extern Tryz.func50 (by kernel_rfl) (by kernel_rfl) (by kernel_rfl) (e := Extern.SlicesOverlaps.overlaps #[26, 26] #[4]) (by kernel_rfl),
      Lib.run_overlaps_apart w 26 4 38 Tryz.underlying26 3 Tryz.sizeOf38 ⟨vb, 0, none⟩ ⟨g, oo, none⟩ 1 1 lb cb hne 38 38 3 ((P.length + cap) * 3) (by simp [World.shape?, hvb]) (by simp [World.shape?, hg, hs3]) (by omega) (free_block hvb _) (free_block hvb _)]
    rfl
  have hcp1 : ∀ ty dc sc, (Builtin.copy_ #[26, 26] ty #[.slice (some ⟨g, o + (i + 1) * 3, none⟩) (n - i) dc, .slice (some ⟨g, o + i * 3, none⟩) (n + 1 - i) sc]).run Tryz.prog w.drew = .ok (goInt ((n - i : Nat) : Int)) (w.drew.setCells g (o + (i + 1) * 3) cs) := fun ty dc sc =>
    run_copy_items w.drew ty g (o + (i + 1) * 3) _ dc ⟨g, o + i * 3, none⟩ _ sc (n - i) cs (by simp only [Nat.min_def]; split <;> omega) hcl (fun j v hj => by rw [Addr.add_lit]; exact hsrc j v hj) (fun j hj => hsome _ (by omega)) (fun j hj => hfz _) hone
  obtain ⟨W1, hW1⟩ : ∃ W1, W1 = w.drew.setCells g (o + (i + 1) * 3) cs := ⟨_, rfl⟩
  have hsp1 : ∀ k, k < o + cap * 3 → (W1.cell? ⟨g, k, none⟩).isSome = true := fun k hk => by
    rw [hW1]
    exact isSome_setCells g cs (o + (i + 1) * 3) w.drew (fun j hj => hsome (o + (i + 1) * 3 + j) (by omega)) k (hsome k hk)
  obtain ⟨b0, b1, b2⟩ := cells3 hvb
  have hcp2 : ∀ (W : World), (∀ x, W.cell? x = W1.cell? x) → (∀ x, W.frozen? x = W1.frozen? x) → ∀ ty dc, (Builtin.copy_ #[26, 26] ty #[.slice (some ⟨g, o + i * 3, none⟩) (n + 1 - i) dc, .slice (some ⟨vb, 0, none⟩) 1 1]).run Tryz.prog W = .ok (goInt ((1 : Nat) : Int)) (W.setCells g (o + i * 3) (LI.enc it)) := fun W hWc hWf ty dc =>
    run_copy_items W ty g (o + i * 3) _ dc ⟨vb, 0, none⟩ 1 1 1 (LI.enc it) (by simp only [Nat.min_def]; split <;> omega) rfl
      (fun j v hj => by
        rw [Addr.add_lit, hWc, hW1, World.cell?_setCells_out g _ _ _ _ (fun h _ => absurd h hne), Nat.zero_add]
        show w.cell? ⟨vb, j, none⟩ = _
        rw [cell_block hvb]
        simpa [LI] using hj)
      (fun j hj => by
        have hj3 : j < 3 := hj
        rw [hWc]; exact hsp1 _ (by omega))
      (fun j hj => by rw [hWf, hW1, World.frozen?_setCells]; exact hfz _) (LI.one it)
  rw [← hW1] at hcp1
  have HW1 := Lib.hid hW1
  have HCS := Lib.hid hcs
  clear hcs hsrc hs hs3 ht hg hH HHC hW1 hsp1 hsome hfz hvb b0 b1 b2
  have hw1 : IntKind.i64.wrap ((n : Int) + 1) = (n : Int) + 1 := by rw [IntKind.wrap_i64]; omega
  have hw2 : IntKind.i64.wrap ((i : Int) + 1) = (i : Int) + 1 := by rw [IntKind.wrap_i64]; omega
  have hin : i ≤ n := by omega
  have hz2 : ((i : Int) == (n : Int)) = false := by simp; omega
  have hz3 : decide ((cap : Int) < (n : Int) + 1) = false := by simp; unfold maxLen at hcap; omega
  have hic : i ≤ cap := by omega
  have hic2 : i + 1 ≤ n + 1 := by omega
  have hmx := mixed
  have hb1 : (0 : Int) ≤ (i : Int) + 1 := by omega
  have hb3 : (i : Int) ≤ (n : Int) + 1 := by omega
  have hb2 : ¬ cap = i + 1 := by omega
  have hb4 : ¬ cap = i := by omega
  have hc63 : cap ≤ 9223372036854775807 := Nat.le_trans (Nat.le_add_left _ _) hcap
  have HO := Lib.hid ho
  clear ho
  have HNN := Lib.hid hn
  clear hn hcap
  go_enter Tryz.func36, Tryz.ntmps36
  go_upto_region 15 with (simp only [hov])
  go_region_law_o (refine step_copy_runI rfl _ _ 26 26 rfl _ _ (by simp [Act.eval, Act.put]) (by simp [Act.eval, Act.put]) (hcp1 _ _ _) ?_)
  go_wp2_with (at_builtin; refine wpList_copy_runI _ rfl _ _ 26 26 rfl _ _ rfl rfl (hcp2 _ (fun _ => rfl) (fun _ => rfl) _ _) ?_)
  go_ret
  first | exact ⟨rfl, by rw [HW1.out, HCS.out]⟩ | (rw [HW1.out, HCS.out]; exact ⟨rfl, rfl⟩)
set_option maxRecDepth 100000 in
set_option maxHeartbeats 4000000 in
theorem SInsertO_grow (g cap : Nat) (P l : List It) (it : It) (i vb : Nat) (w : World) (hi : i < l.length) (hroom : cap < l.length + 1) (hl : l.length ≤ 100000) (hH : Held LI 38 w g (P.length + cap) (P ++ l))
    (hvb : w.heap[vb]? = some (.cells #[.int .i64 it.t, .int .i64 it.q, .int .i64 it.s] 38 (0, 0))) :
    Calls Tryz.prog 36 #[.slice (some ⟨g, P.length * 3, none⟩) l.length cap, .int .i64 i, .slice (some ⟨vb, 0, none⟩) 1 1] w fun e w' => ∃ G, e = .returned (.slice (some ⟨w.heap.size, 0, none⟩) (l.length + 1) G) ∧ G ≤ maxLen ∧ Held LI 38 w' w.heap.size G (l.take i ++ it :: l.drop i) ∧ Upd [] w w' := by
  have HHC := held_at hH
  obtain ⟨cur, hg, hs, ht⟩ := hH.ex
  have hs3 : cur.size = (P.length + cap) * 3 := hs
  obtain ⟨o, ho⟩ : ∃ o, o = P.length * 3 := ⟨_, rfl⟩
  rw [← ho] at HHC ⊢
  have hle : l.length ≤ cap := by have := hH.le; simp only [List.length_append] at this; omega
  have hgw : g < w.heap.size := lt_block hg
  have hvw : vb < w.heap.size := lt_block hvb
  obtain ⟨n, hn⟩ : ∃ n, n = l.length := ⟨_, rfl⟩
  rw [← hn] at hi hroom hl hle ⊢
  obtain ⟨cs, hcs⟩ : ∃ cs, cs = LI.flat (l.drop i) := ⟨_, rfl⟩
  have hcl : cs.length = (n - i) * 3 := by rw [hcs, LI.flat_length, List.length_drop, hn]; rfl
  have hall : ∀ t u, (LI.flat l)[t]? = some u → w.cell? ⟨g, o + t, none⟩ = some u := HHC
  have hsrc : ∀ j v, cs[j]? = some v → w.cell? ⟨g, o + i * 3 + j, none⟩ = some v := fun j v hj => by
    rw [show o + i * 3 + j = o + (i * 3 + j) by omega]
    exact hall _ _ (by
    rw [hcs, ← LI.flat_drop l i (by omega), List.getElem?_drop] at hj
    exact hj)
  have hone : ∀ v ∈ cs, v.oneCell' = true := by rw [hcs]; exact LI.flat_one _
  obtain ⟨i0, z, b, hi0, hz0, hz1, hz2, hz3, hb⟩ := tyI.info
  have hz1' : i0.size = 3 := hz1
  have hold : (Builtin.firstCells i0.size i (.slice (some ⟨g, o, none⟩) i cap)).run Tryz.prog w.drew = .ok (LI.flat (l.take i)).toArray w.drew := by
    rw [hz1']
    exact run_firstCells_some w.drew 3 i ⟨g, o, none⟩ i cap (LI.flat (l.take i)) (by rw [LI.flat_length, List.length_take, Nat.min_eq_left (by omega)]; rfl) (fun j v hj => by
      rw [Addr.add_lit]
      refine hall j v ?_
      rw [← LI.flat_take l i (by omega), List.getElem?_take] at hj
      split at hj
      · exact hj
      · simp at hj)
  have hik : i + (n + 1 - i) = n + 1 := by omega
  have hkk : (n : Int) + 1 - (i : Int) = ((n + 1 - i : Nat) : Int) := by omega
  obtain ⟨G, hG⟩ : ∃ G, G = grownCap w (n + 1) cap 38 := ⟨_, rfl⟩
  obtain ⟨ROW, hROW⟩ : ∃ ROW : Array Value, ROW = (LI.flat (l.take i)).toArray ++ Builtin.zeroCells z.cells (n + 1 - i) ++ Builtin.zeroCells z.cells (G - (n + 1)) := ⟨_, rfl⟩
  have hrz : ∀ ty, (Builtin.append_ #[26, 3] ty #[.slice (some ⟨g, o, none⟩) i cap, .int .i64 ((n : Int) + 1 - (i : Int))]).run Tryz.prog w = .ok (.slice (some ⟨w.heap.size, 0, none⟩) (n + 1) G) (w.drew.alloc (.cells ROW 38)) := fun ty => by
    have h := Lib.run_append_grow_zeros (P := Tryz.prog) w 26 3 ty 38 i0 z .i64 .i64 Tryz.underlying26 Tryz.underlying3 hi0 hz0 (some ⟨g, o, none⟩) i cap (LI.flat (l.take i)) hold (n + 1 - i) (by omega) (by omega) (by omega) (by omega) (by rw [hz2]; exact Nat.le_trans (Nat.mul_le_mul (show n + 1 - i ≤ 100001 by omega) hb) (by decide)) (by
      rw [hik]
      exact growslice_fits hroom (by rw [hz2]; exact Nat.le_trans (Nat.mul_le_mul (show n + 1 ≤ 100001 by omega) hb) (by decide)))
    rw [hik, ← hG, ← hROW] at h
    rw [hkk]
    exact h
  have hGn : n + 1 ≤ G := by rw [hG]; exact grownCap_ge w _ _ _
  have hGm : G ≤ maxLen := by
    rw [hG]; exact grownCap_le_maxLen w (n + 1) cap 38 (by unfold maxLen; omega)
  have hzs : z.cells.size = 3 := hz3
  have hRs : ROW.size = G * 3 := by
    rw [hROW]
    simp only [Array.size_append, zeroCells_size, hzs, List.size_toArray, LI.flat_length, List.length_take]
    rw [show LI.k = 3 from rfl, Nat.min_eq_left (by omega)]
    omega
  have hRt : ROW.toList.take (i * 3) = LI.flat (l.take i) := by
    have hfl : (LI.flat (l.take i)).length = i * 3 := by rw [LI.flat_length, List.length_take, Nat.min_eq_left (by omega)]; rfl
    rw [hROW, Array.toList_append, Array.toList_append, List.append_assoc, ← hfl]
    simp
  obtain ⟨W1, hW1⟩ : ∃ W1, W1 = w.drew.alloc (.cells ROW 38) := ⟨_, rfl⟩
  rw [← hW1] at hrz
  have hbR : W1.heap[w.heap.size]? = some (.cells ROW 38 (0, 0)) := by rw [hW1]; exact heap_alloc1 w.drew _
  have hU1 : Upd [] w W1 := by rw [hW1]; exact ((Upd.refl [] w).drew).alloc _
  have hN : ∀ j, j < G * 3 → (W1.cell? ⟨w.heap.size, j, none⟩).isSome = true := fun j hj => by
    rw [cell_block hbR, Array.getElem?_eq_getElem (by omega)]; rfl
  have hNf : ∀ j, W1.frozen? ⟨w.heap.size, j, none⟩ = false := fun j => free_block hbR j
  have hcpA : ∀ (W : World), (∀ x, W.cell? x = W1.cell? x) → (∀ x, W.frozen? x = W1.frozen? x) → ∀ ty dc, (Builtin.copy_ #[26, 26] ty #[.slice (some ⟨w.heap.size, i * 3, none⟩) (n + 1 - i) dc, .slice (some ⟨vb, 0, none⟩) 1 1]).run Tryz.prog W = .ok (goInt ((1 : Nat) : Int)) (W.setCells w.heap.size (i * 3) (LI.enc it)) := fun W hWc hWf ty dc =>
    run_copy_items W ty w.heap.size (i * 3) _ dc ⟨vb, 0, none⟩ 1 1 1 (LI.enc it) (by simp only [Nat.min_def]; split <;> omega) rfl
      (fun j v hj => by
        rw [Addr.add_lit, hWc, Nat.zero_add]
        refine hU1.cell ?_ (by simp)
        rw [cell_block hvb]
        simpa [LI] using hj)
      (fun j hj => by
        have hj3 : j < 3 := hj
        rw [hWc]; exact hN _ (by omega))
      (fun j hj => by rw [hWf]; exact hNf _) (LI.one it)
  have hcpB : ∀ (W : World), (∀ x, W.cell? x = (W1.setCells w.heap.size (i * 3) (LI.enc it)).cell? x) → (∀ x, W.frozen? x = (W1.setCells w.heap.size (i * 3) (LI.enc it)).frozen? x) → ∀ ty dc sc, (Builtin.copy_ #[26, 26] ty #[.slice (some ⟨w.heap.size, (i + 1) * 3, none⟩) (n - i) dc, .slice (some ⟨g, o + i * 3, none⟩) (n - i) sc]).run Tryz.prog W = .ok (goInt ((n - i : Nat) : Int)) (W.setCells w.heap.size ((i + 1) * 3) cs) := fun W hWc hWf ty dc sc =>
    run_copy_items W ty w.heap.size ((i + 1) * 3) _ dc ⟨g, o + i * 3, none⟩ _ sc (n - i) cs (by simp) hcl
      (fun j v hj => by
        rw [Addr.add_lit, hWc, World.cell?_setCells_out _ _ _ _ _ (fun h _ => absurd h (by simp only; omega))]
        exact hU1.cell (hsrc j v hj) (by simp))
      (fun j hj => by rw [hWc]; exact isSome_setCells _ _ _ _ (fun t ht => hN _ (by have h3 : t < 3 := ht; omega)) _ (hN _ (by omega)))
      (fun j hj => by rw [hWf, World.frozen?_setCells]; exact hNf _) hone
  have HFIN : Hid (∀ W', W' = (((w.alloc (.cells ROW 38)).drew.setCells w.heap.size (i * 3) (LI.enc it)).drew).setCells w.heap.size ((i + 1) * 3) cs → G ≤ maxLen ∧ Held LI 38 W' w.heap.size G (l.take i ++ it :: l.drop i) ∧ Upd [] w W') := fun W' hW' => by
    subst hW'
    rw [drew_setCells]
    have hbR2 : ((w.alloc (.cells ROW 38)).drew.drew).heap[w.heap.size]? = some (.cells ROW 38 (0, 0)) := heap_alloc1 w _
    have hU2 : Upd [] w ((w.alloc (.cells ROW 38)).drew.drew) := (((Upd.refl [] w).alloc _).drew).drew
    refine ⟨hGm, ?_, ?_⟩
    · rw [hcs]
      exact ins_grow it hbR2 hRs hRt (by omega) (by omega)
    · rw [setCells_stores, setCells_stores]
      exact (hU2.new (stores_upd _ _ _ _) (Nat.le_refl _)).new (stores_upd _ _ _ _) (Nat.le_refl _)
  have hG63 : G ≤ 9223372036854775807 := hGm
  have HNN := Lib.hid hn
  subst hW1
  clear hold hall hsrc hs hs3 ht hg hH HHC ho hROW hG hRs hRt hcs hone hik hGm hbR hU1 hN hNf hn hcl hz1' hz1 hz2 hz3 hzs hi0 hz0 hb hvb hkk
  have hE1 : ∀ x, ((w.alloc (.cells ROW 38)).drew).cell? x = (w.drew.alloc (.cells ROW 38)).cell? x := fun x => rfl
  have hE2 : ∀ x, ((w.alloc (.cells ROW 38)).drew).frozen? x = (w.drew.alloc (.cells ROW 38)).frozen? x := fun x => rfl
  have hF1 : ∀ x, (((w.alloc (.cells ROW 38)).drew.setCells w.heap.size (i * 3) (LI.enc it)).drew).cell? x = ((w.drew.alloc (.cells ROW 38)).setCells w.heap.size (i * 3) (LI.enc it)).cell? x := fun x => rfl
  have hF2 : ∀ x, (((w.alloc (.cells ROW 38)).drew.setCells w.heap.size (i * 3) (LI.enc it)).drew).frozen? x = ((w.drew.alloc (.cells ROW 38)).setCells w.heap.size (i * 3) (LI.enc it)).frozen? x := fun x => rfl
  have hw1 : IntKind.i64.wrap ((n : Int) + 1) = (n : Int) + 1 := by rw [IntKind.wrap_i64]; omega
  have hw2 : IntKind.i64.wrap ((i : Int) + 1) = (i : Int) + 1 := by rw [IntKind.wrap_i64]; omega
  have hw3 : IntKind.i64.wrap ((n : Int) + 1 - (i : Int)) = (n : Int) + 1 - (i : Int) := by rw [IntKind.wrap_i64]; omega
  have hin : i ≤ n := by omega
  have hz2 : ((i : Int) == (n : Int)) = false := by simp; omega
  have hz3 : decide ((cap : Int) < (n : Int) + 1) = true := by simp; omega
  have hic : i ≤ cap := by omega
  have hmx := mixed
  have hb1 : (0 : Int) ≤ (i : Int) + 1 := by omega
  have hb3 : (i : Int) ≤ (n : Int) + 1 := by omega
  have hb5 : i ≤ n + 1 := by omega
  have hb4 : ¬ cap = i := by omega
  have hG1 : ¬ G = i := by omega
  have hG2 : ¬ G = i + 1 := by omega
  go_enter Tryz.func36, Tryz.ntmps36
  go_wp2_with (first
    | (at_builtin; refine Lib.wpList_append_run _ rfl _ _ _ _ rfl _ _ rfl rfl _ _ (hrz _) ?_)
    | (at_builtin; refine wpList_copy_runI _ rfl _ _ 26 26 rfl _ _ rfl rfl (hcpA _ hE1 hE2 _ _) ?_)
    | (at_builtin; refine wpList_copy_runI _ rfl _ _ 26 26 rfl _ _ rfl rfl (hcpA _ (fun _ => rfl) (fun _ => rfl) _ _) ?_))
  go_region_law_o (refine step_copy_runI rfl _ _ 26 26 rfl (.slice (some ⟨w.heap.size, (i + 1) * 3, none⟩) (n - i) (G - (i + 1))) (.slice (some ⟨g, o + i * 3, none⟩) (n - i) (cap - i)) (by simp [Act.eval, Act.put]) (by simp [Act.eval, Act.put]) (hcpB _ hF1 hF2 3 (G - (i + 1)) (cap - i)) ?_)
  go_wp2_with fail
  go_ret
  exact ⟨G, rfl, HFIN.out _ rfl⟩
/-- A slice of the call's own: nothing, or what stands behind some items in a block from b0 on. -/
def PendR (b0 : Nat) (w : World) (l : List It) (ad : Option Addr) (cap : Nat) : Prop :=
  (l = [] ∧ cap = 0 ∧ ∀ a, ad = some a → b0 ≤ a.block) ∨ ∃ (g : Nat) (P : List It), ad = some ⟨g, P.length * 3, none⟩ ∧ b0 ≤ g ∧ P.length + cap ≤ maxLen ∧ l.length ≤ cap ∧ Held LI 38 w g (P.length + cap) (P ++ l)
/-- The slice's block. -/
def blkA (ad : Option Addr) (cap : Nat) : List Nat := match ad with
  | some a => if cap = 0 then [] else [a.block]
  | none => []
theorem PendR.has {b0 : Nat} {w : World} {l : List It} {ad : Option Addr} {cap : Nat} (h : PendR b0 w l ad cap) : HasS LI w ⟨l, ad, cap⟩ := by
  rcases h with ⟨rfl, rfl, _⟩ | ⟨g, P, rfl, _, _, hle, hH⟩
  · exact ⟨row_nil LI w _, by simp, fun _ => rfl⟩
  · refine ⟨fun j hj => ⟨g, P.length * 3, rfl, fun t u hu => ?_⟩, hle, fun e => by simp at e⟩
    have h1 := held_at hH (j * 3 + t) u (LI.flat_at l j hj t u hu)
    rw [show P.length * 3 + (j * 3 + t) = P.length * 3 + j * LI.k + t by rw [show LI.k = 3 from rfl]; omega] at h1
    exact h1
theorem PendR.keep {b0 : Nat} {w w' : World} {l : List It} {ad : Option Addr} {cap : Nat} {S : List Nat} (h : PendR b0 w l ad cap) (hu : Upd S w w') (hS : ∀ x ∈ blkA ad cap, x ∉ S) : PendR b0 w' l ad cap := by
  rcases h with h | ⟨g, P, rfl, h1, h2, h3, hH⟩
  · exact .inl h
  · by_cases hc : cap = 0
    · exact .inl ⟨List.length_eq_zero_iff.1 (by omega), hc, fun a e => by rw [← Option.some.inj e]; exact h1⟩
    · exact .inr ⟨g, P, rfl, h1, h2, h3, hH.keep hu (hS g (by simp [blkA, hc]))⟩
theorem PendR.lt {b0 : Nat} {w : World} {l : List It} {ad : Option Addr} {cap : Nat} (h : PendR b0 w l ad cap) : ∀ x ∈ blkA ad cap, b0 ≤ x ∧ x < w.heap.size ∧ ∃ cs, w.heap[x]? = some (.cells cs 38 (0, 0)) := by
  rcases h with ⟨rfl, rfl, _⟩ | ⟨g, P, rfl, h1, h2, h3, hH⟩
  · intro x hx
    cases ad <;> simp [blkA] at hx
  · intro x hx
    obtain ⟨cur, hg, _, _⟩ := hH.ex
    unfold blkA at hx
    simp only at hx
    split at hx
    · simp at hx
    · obtain rfl : x = g := by simpa using hx
      exact ⟨h1, lt_block hg, cur, hg⟩
theorem pend_nil (b0 : Nat) (w : World) : PendR b0 w [] none 0 := .inl ⟨rfl, rfl, fun a e => by cases e⟩
theorem PendR.ge {b0 : Nat} {w : World} {l : List It} {ad : Option Addr} {cap : Nat} (h : PendR b0 w l ad cap) : ∀ a, ad = some a → b0 ≤ a.block := by
  rcases h with ⟨_, _, h⟩ | ⟨g, P, rfl, h1, _⟩
  · exact h
  · intro a e
    rw [← Option.some.inj e]; exact h1
/-- What append makes of one item behind the slice. -/
theorem run_app_pend {b0 vb : Nat} {w : World} {l : List It} {ad : Option Addr} {cap : Nat} {it : It} (ty : TypeId) (hp : PendR b0 w l ad cap) (hvb : w.heap[vb]? = some (.cells #[.int .i64 it.t, .int .i64 it.q, .int .i64 it.s] 38 (0, 0))) (hn : l.length ≤ 100000) (hb : b0 ≤ w.heap.size) :
    ∃ ad' cap' w', (Builtin.append_ #[26, 26] ty #[.slice ad l.length cap, .slice (some ⟨vb, 0, none⟩) 1 1]).run Tryz.prog w = .ok (.slice ad' (l.length + 1) cap') w' ∧ PendR b0 w' (l ++ [it]) ad' cap' ∧ Upd (blkA ad cap) w w' ∧ (ad' = ad ∧ cap' = cap ∨ ad' = some ⟨w.heap.size, 0, none⟩) := by
  obtain ⟨i0, z, b, hi0, hz0, hz1, hz2, hz3, hb1⟩ := tyI.info
  have hz1' : i0.size = 3 := hz1
  have hy : Row LI w (some ⟨vb, 0, none⟩) [it] := row_one hvb
  have hsrc : Src Tryz.prog i0.size 26 (.slice (some ⟨vb, 0, none⟩) 1 1) 1 (LI.flat [it]) w := by
    rw [hz1]; exact Src.ofSlice w tyI.un ⟨vb, 0, none⟩ 1 1 (LI.flat [it]) (by rw [LI.flat_length]; rfl) hy.cells (LI.flat_one _)
  have hbb : (l.length + 1) * b ≤ 140737488355328 := Nat.le_trans (Nat.mul_le_mul (show l.length + 1 ≤ 100001 by omega) hb1) (by decide)
  have hgrow : ∀ (hg : cap < l.length + 1) (hold : (Builtin.firstCells i0.size l.length (.slice ad l.length cap)).run Tryz.prog w.drew = .ok (LI.flat l).toArray w.drew),
      ∃ ad' cap' w', (Builtin.append_ #[26, 26] ty #[.slice ad l.length cap, .slice (some ⟨vb, 0, none⟩) 1 1]).run Tryz.prog w = .ok (.slice ad' (l.length + 1) cap') w' ∧ PendR b0 w' (l ++ [it]) ad' cap' ∧ Upd (blkA ad cap) w w' ∧ (ad' = ad ∧ cap' = cap ∨ ad' = some ⟨w.heap.size, 0, none⟩) := fun hg hold => by
    have hr := run_append_grow_src (P := Tryz.prog) w 26 26 ty 38 i0 z tyI.un hi0 hz0 ad l.length cap (LI.flat l) hold _ 1 _ hsrc hg (by omega) (growslice_fits hg (by rw [hz2]; exact hbb))
    have hzs : z.cells.size = 3 := hz3
    have hGn : l.length + 1 ≤ grownCap w (l.length + 1) cap 38 := grownCap_ge w _ _ _
    have hGm : grownCap w (l.length + 1) cap 38 ≤ maxLen := grownCap_le_maxLen w (l.length + 1) cap 38 (by unfold maxLen; omega)
    generalize grownCap w (l.length + 1) cap 38 = G at hr hGn hGm
    refine ⟨_, _, _, hr, .inr ⟨w.heap.size, [], rfl, hb, by simpa using hGm, by simpa using hGn, ⟨⟨_, heap_alloc1 w.drew _, ?_, ?_⟩, by simpa using hGn⟩⟩, (((Upd.refl [] w).drew).alloc _).mono (by simp), .inr rfl⟩
    · simp only [Array.size_append, zeroCells_size, hzs, List.size_toArray, List.length_append, LI.flat_length, List.length_singleton, List.length_nil, Nat.zero_add]
      rw [show LI.k = 3 from rfl]
      omega
    · rw [List.nil_append, Array.toList_append, List.toList_toArray, ← LI.flat_append, ← LI.flat_length, List.take_left]
  have hcase := hp
  rcases hcase with ⟨rfl, rfl, _⟩ | ⟨g, P, rfl, h1, h2, h3, hH⟩
  · refine hgrow (by simp) ?_
    cases ad with
    | none => exact run_firstCells_none w.drew _ 0 0 0
    | some a => exact run_firstCells_some w.drew _ 0 a 0 0 [] (by simp) (fun j v h => by simp at h)
  · by_cases hroom : l.length + 1 ≤ cap
    · obtain ⟨cur, hg, hs, ht⟩ := hH.ex
      have hs3 : cur.size = (P.length + cap) * 3 := hs
      have hr := run_append_room_src (P := Tryz.prog) w 26 26 ty 38 i0 tyI.un hi0 g (P.length * 3) l.length cap _ 1 _ hsrc hroom (fun j hj => by
        have hj3 : j < 3 := by rw [LI.flat_length] at hj; exact hj
        rw [cell_block hg, hz1', Array.getElem?_eq_getElem (by omega)]; rfl) (fun j hj => free_block hg _)
      rw [hz1'] at hr
      have h4 := ins_shift (i := P.length + l.length) it hH (by simp) (by simp only [List.length_append]; omega)
      rw [List.drop_of_length_le (by simp), List.take_of_length_le (by simp), show (P.length + l.length) * 3 = P.length * 3 + l.length * 3 by omega] at h4
      have h5 : Held LI 38 (w.setCells g (P.length * 3 + l.length * 3) (LI.flat [it])) g (P.length + cap) (P ++ (l ++ [it])) := by
        rw [← List.append_assoc]
        exact h4
      refine ⟨_, _, _, hr, .inr ⟨g, P, rfl, h1, h2, by simpa using hroom, h5⟩, ?_, .inl ⟨rfl, rfl⟩⟩
      rw [setCells_stores]
      exact (stores_upd _ _ _ _).mono (fun x hx => by simp only [blkA]; rw [if_neg (by omega)]; exact hx)
    · refine hgrow (by omega) ?_
      rw [hz1']
      exact run_firstCells_some w.drew 3 l.length ⟨g, P.length * 3, none⟩ l.length cap (LI.flat l) (by rw [LI.flat_length]; rfl) (fun j v hj => by
        rw [Addr.add_lit]
        exact held_at hH j v hj)
theorem app_pend {w : World} {ops : Array Oper} {rest : List Oper} {o : Oper} {a : Act} {Q : Exit → Act → World → Prop} (hgd : o.guard = none) (s x : Operand)
    (ho : o.op = .call { callee := .builtin .append, args := #[s, x], argTypes := #[26, 26] })
    (b0 vb : Nat) (l : List It) (it : It) (ad : Option Addr) (n cap : Nat) (hnl : n = l.length) (hs : a.eval s = .slice ad n cap) (hp : PendR b0 w l ad cap) (hx : a.eval x = .slice (some ⟨vb, 0, none⟩) 1 1)
    (hvb : w.heap[vb]? = some (.cells #[.int .i64 it.t, .int .i64 it.q, .int .i64 it.s] 38 (0, 0))) (hn : n ≤ 100000) (hb : b0 ≤ w.heap.size)
    (h : ∀ ad' cap' w', PendR b0 w' (l ++ [it]) ad' cap' → Upd (blkA ad cap) w w' → (ad' = ad ∧ cap' = cap ∨ ad' = some ⟨w.heap.size, 0, none⟩) → wpList Tryz.prog ops Q rest (a.put o.dst (.slice ad' (n + 1) cap')) w') :
    wpList Tryz.prog ops Q (o :: rest) a w := by
  subst hnl
  refine wpList_plain hgd fun _ hK => ?_
  obtain ⟨ad', cap', w', hr, h2, h3, h4⟩ := run_app_pend o.type hp hvb hn hb
  unfold Oper.wp execOp
  simp only [ho, resolve, invoke, builtin, Sem.run_bind, Sem.run_pure, Result.andThen_ok, List.map_toArray, List.map_cons, List.map_nil, hs, hx, hr]
  exact hK _ _ (h ad' cap' w' h2 h3 h4)
def PInsPost (b0 : Nat) (l : List It) (it : It) (i : Nat) (ad : Option Addr) (cap : Nat) (w : World) (e : Ending) (w' : World) : Prop := ∃ ad' cap', e = .returned (.slice ad' (l.length + 1) cap') ∧ PendR b0 w' (l.take i ++ it :: l.drop i) ad' cap' ∧ Upd (blkA ad cap) w w' ∧ (ad' = ad ∧ cap' = cap ∨ ∃ g, ad' = some ⟨g, 0, none⟩ ∧ w.heap.size ≤ g)
set_option maxRecDepth 100000 in
set_option maxHeartbeats 4000000 in
theorem PInsert_end (b0 vb : Nat) (l : List It) (it : It) (ad : Option Addr) (cap : Nat) (w : World) (hp : PendR b0 w l ad cap) (hl : l.length ≤ 100000)
    (hvb : w.heap[vb]? = some (.cells #[.int .i64 it.t, .int .i64 it.q, .int .i64 it.s] 38 (0, 0))) (hb : b0 ≤ w.heap.size) :
    Calls Tryz.prog 36 #[.slice ad l.length cap, .int .i64 l.length, .slice (some ⟨vb, 0, none⟩) 1 1] w (PInsPost b0 l it l.length ad cap w) := by
  have hle : l.length ≤ cap := hp.has.le
  have HP := Lib.hid hp
  have HV := Lib.hid hvb
  have HFN : Hid (∀ ad' cap' W, PendR b0 W (l ++ [it]) ad' cap' → Upd (blkA ad cap) w W → (ad' = ad ∧ cap' = cap ∨ ad' = some ⟨w.heap.size, 0, none⟩) → PInsPost b0 l it l.length ad cap w (.returned (.slice ad' (l.length + 1) cap')) W) := fun ad' cap' W h1 h2 h3 =>
    ⟨ad', cap', rfl, by simpa using h1, h2, h3.imp id (fun h => ⟨_, h, Nat.le_refl _⟩)⟩
  obtain ⟨n, hn⟩ : ∃ n, n = l.length := ⟨_, rfl⟩
  have HN := Lib.hid hn
  rw [← hn] at hl hle HFN ⊢
  clear hp hvb hn
  have hz : ((n : Int) == (n : Int)) = true := by simp
  by_cases hsc : cap = n
  · subst hsc
    go_enter Tryz.func36, Tryz.ntmps36
    go_wp2_with (at_builtin; refine app_pend rfl _ _ rfl b0 vb l it ad cap cap HN.out rfl HP.out rfl HV.out hl hb ?_; intro ad' cap' w1 h1 h2 h3)
    have HG := Lib.hid (HFN.out ad' cap' w1 h1 h2 h3)
    clear h1 h2 h3
    go_wp2_with fail
    go_ret
    exact HG.out
  · have hsc2 : ¬ n = cap := fun e => hsc e.symm
    go_enter Tryz.func36, Tryz.ntmps36
    go_wp2_with (at_builtin; refine app_pend rfl _ _ rfl b0 vb l it ad n cap HN.out rfl HP.out rfl HV.out hl hb ?_; intro ad' cap' w1 h1 h2 h3)
    have HG := Lib.hid (HFN.out ad' cap' w1 h1 h2 h3)
    clear h1 h2 h3
    go_wp2_with fail
    go_ret
    exact HG.out
theorem PInsert_has (b0 vb p : Nat) (l : List It) (it : It) (ad : Option Addr) (cap : Nat) (w : World) (hpl : p ≤ l.length) (hp : PendR b0 w l ad cap) (hl : l.length ≤ 100000)
    (hvb : w.heap[vb]? = some (.cells #[.int .i64 it.t, .int .i64 it.q, .int .i64 it.s] 38 (0, 0))) (hne : vb ∉ blkA ad cap) (hb : b0 ≤ w.heap.size) :
    Calls Tryz.prog 36 #[.slice ad l.length cap, .int .i64 p, .slice (some ⟨vb, 0, none⟩) 1 1] w (PInsPost b0 l it p ad cap w) := by
  by_cases h : p = l.length
  · subst h
    exact PInsert_end b0 vb l it ad cap w hp hl hvb hb
  · rcases hp with ⟨rfl, rfl, _⟩ | ⟨g, P, rfl, h1, h2, h3, hH⟩
    · simp only [List.length_nil] at hpl h
      omega
    · have hb2 : blkA (some ⟨g, P.length * 3, none⟩) cap = [g] := by simp only [blkA]; rw [if_neg (by omega)]
      rw [hb2, List.mem_singleton] at hne
      by_cases hroom : l.length + 1 ≤ cap
      · refine (SInsertO_shift g cap P l it p vb w (by omega) hroom h2 hl hH hvb hne).mono ?_
        rintro e w' ⟨rfl, rfl⟩
        have hH2 : Held LI 38 w.drew g (P.length + cap) (P ++ l) := hH.keep ((Upd.refl [] w).drew) (by simp)
        have h5 := ins_shift (i := P.length + p) it hH2 (by simp; omega) (by simp only [List.length_append]; omega)
        rw [List.drop_append, List.take_append, List.drop_of_length_le (by omega), List.take_of_length_le (by omega), Nat.add_sub_cancel_left, List.nil_append, List.append_assoc,
          show (P.length + p + 1) * 3 = P.length * 3 + (p + 1) * 3 by omega, show (P.length + p) * 3 = P.length * 3 + p * 3 by omega] at h5
        refine ⟨some ⟨g, P.length * 3, none⟩, cap, rfl, .inr ⟨g, P, rfl, h1, h2, by rw [ins_length l it p hpl]; exact hroom, h5⟩, ?_, .inl ⟨rfl, rfl⟩⟩
        rw [hb2, setCells_stores, setCells_stores]
        exact (((Upd.refl [g] w).drew).trans (stores_upd _ _ _ _) (fun x hx _ => hx)).trans (stores_upd _ _ _ _) (fun x hx _ => hx)
      · refine (SInsertO_grow g cap P l it p vb w (by omega) (by omega) hl hH hvb).mono ?_
        rintro e w' ⟨G, rfl, hG, h5, h6⟩
        exact ⟨_, G, rfl, .inr ⟨w.heap.size, [], rfl, hb, by simpa using hG, by have := h5.le; exact this, by simpa using h5⟩, h6.mono (by simp), .inr ⟨_, rfl, Nat.le_refl _⟩⟩
/-- The first item is taken off. -/
theorem PendR.tail {b0 : Nat} {w : World} {x : It} {l : List It} {ad : Option Addr} {cap : Nat} (h : PendR b0 w (x :: l) ad cap) : ∃ g o, ad = some ⟨g, o, none⟩ ∧ 1 ≤ cap ∧ PendR b0 w l (some ⟨g, if 1 < cap then o + 3 else o, none⟩) (cap - 1) := by
  rcases h with ⟨h, _⟩ | ⟨g, P, rfl, h1, h2, h3, hH⟩
  · simp at h
  · simp only [List.length_cons] at h3
    refine ⟨g, P.length * 3, rfl, by omega, ?_⟩
    by_cases hc : 1 < cap
    · rw [if_pos hc]
      refine .inr ⟨g, P ++ [x], by simp only [List.length_append, List.length_singleton, Nat.add_mul, Nat.one_mul], h1, by simp only [List.length_append, List.length_singleton]; omega, by omega, ?_⟩
      have e : (P ++ [x]).length + (cap - 1) = P.length + cap := by simp only [List.length_append, List.length_singleton]; omega
      rw [e, List.append_assoc]
      exact hH
    · exact .inl ⟨List.length_eq_zero_iff.1 (by omega), by omega, fun a e => by rw [← Option.some.inj e]; exact h1⟩
end Go.Proofs.YtpabapjodcafkaaGreat
