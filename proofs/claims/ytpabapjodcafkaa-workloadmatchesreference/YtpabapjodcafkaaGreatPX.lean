
/- Contract: slices.Insert over items: in place and into a new row. -/
import Derived.Test.YtpabapjodcafkaaGreatPH
namespace Go.Proofs.YtpabapjodcafkaaGreat
open Go.RowKit Go.Lib

set_option maxRecDepth 100000 in
set_option maxHeartbeats 4000000 in
theorem SInsert_shift (g cap : Nat) (l : List It) (it : It) (i vb : Nat) (w : World) (hi : i < l.length) (hroom : l.length + 1 ≤ cap) (hcap : cap ≤ maxLen) (hl : l.length ≤ 100000) (hH : Held LI 38 w g cap l)
    (hvb : w.heap[vb]? = some (.cells #[.int .i64 it.t, .int .i64 it.q, .int .i64 it.s] 38 (0, 0))) (hne : vb ≠ g) :
    Calls Tryz.prog 36 #[.slice (some ⟨g, 0, none⟩) l.length cap, .int .i64 i, .slice (some ⟨vb, 0, none⟩) 1 1] w fun e w' => e = .returned (.slice (some ⟨g, 0, none⟩) (l.length + 1) cap) ∧ w' = (w.drew.setCells g ((i + 1) * 3) (LI.flat (l.drop i))).setCells g (i * 3) (LI.enc it) := by
  obtain ⟨cur, hg, hs, ht⟩ := hH.ex
  have hs3 : cur.size = cap * 3 := hs
  obtain ⟨n, hn⟩ : ∃ n, n = l.length := ⟨_, rfl⟩
  rw [← hn] at hi hroom hl ⊢
  obtain ⟨cs, hcs⟩ : ∃ cs, cs = LI.flat (l.drop i) := ⟨_, rfl⟩
  have hcl : cs.length = (n - i) * 3 := by rw [hcs, LI.flat_length, List.length_drop, hn]; rfl
  have hsrc : ∀ j v, cs[j]? = some v → w.cell? ⟨g, i * 3 + j, none⟩ = some v := fun j v hj => by
    rw [cell_block hg]
    have h1 : (LI.flat l)[i * 3 + j]? = some v := by
      rw [hcs, ← LI.flat_drop l i (by omega), List.getElem?_drop] at hj
      exact hj
    rw [← ht, List.getElem?_take] at h1
    split at h1
    · rw [← Array.getElem?_toList]; exact h1
    · simp at h1
  have hone : ∀ v ∈ cs, v.oneCell' = true := by rw [hcs]; exact LI.flat_one _
  have hsome : ∀ j, j < cap * 3 → (w.cell? ⟨g, j, none⟩).isSome = true := fun j hj => by
    rw [cell_block hg, Array.getElem?_eq_getElem (by omega)]; rfl
  have hfz : ∀ j, w.frozen? ⟨g, j, none⟩ = false := fun j => free_block hg j
  have hov : ∀ o lb cb, (callFunc 50 #[.slice (some ⟨vb, 0, none⟩) 1 1, .slice (some ⟨g, o, none⟩) lb cb]).run Tryz.prog w = .ok (.value (.bool false)) w := fun o lb cb => by
    rw [run_callFunc_extern Tryz.func50 (by kernel_rfl) (by kernel_rfl) (by kernel_rfl) (e := Extern.SlicesOverlaps.overlaps #[26, 26] #[4]) (by kernel_rfl),
      Lib.run_overlaps_apart w 26 4 38 Tryz.underlying26 3 Tryz.sizeOf38 ⟨vb, 0, none⟩ ⟨g, o, none⟩ 1 1 lb cb hne 38 38 3 (cap * 3) (by simp [World.shape?, hvb]) (by simp [World.shape?, hg, hs3]) (by omega) (free_block hvb _) (free_block hvb _)]
    rfl
  have hcp1 : ∀ ty dc sc, (Builtin.copy_ #[26, 26] ty #[.slice (some ⟨g, (i + 1) * 3, none⟩) (n - i) dc, .slice (some ⟨g, i * 3, none⟩) (n + 1 - i) sc]).run Tryz.prog w.drew = .ok (goInt ((n - i : Nat) : Int)) (w.drew.setCells g ((i + 1) * 3) cs) := fun ty dc sc =>
    run_copy_items w.drew ty g ((i + 1) * 3) _ dc ⟨g, i * 3, none⟩ _ sc (n - i) cs (by simp only [Nat.min_def]; split <;> omega) hcl (fun j v hj => by rw [Addr.add_lit]; exact hsrc j v hj) (fun j hj => hsome _ (by omega)) (fun j hj => hfz _) hone
  obtain ⟨W1, hW1⟩ : ∃ W1, W1 = w.drew.setCells g ((i + 1) * 3) cs := ⟨_, rfl⟩
  have hsp1 : ∀ k, k < cap * 3 → (W1.cell? ⟨g, k, none⟩).isSome = true := fun k hk => by
    rw [hW1]
    exact isSome_setCells g cs ((i + 1) * 3) w.drew (fun j hj => hsome ((i + 1) * 3 + j) (by omega)) k (hsome k hk)
  obtain ⟨b0, b1, b2⟩ := cells3 hvb
  have hcp2 : ∀ (W : World), (∀ x, W.cell? x = W1.cell? x) → (∀ x, W.frozen? x = W1.frozen? x) → ∀ ty dc, (Builtin.copy_ #[26, 26] ty #[.slice (some ⟨g, i * 3, none⟩) (n + 1 - i) dc, .slice (some ⟨vb, 0, none⟩) 1 1]).run Tryz.prog W = .ok (goInt ((1 : Nat) : Int)) (W.setCells g (i * 3) (LI.enc it)) := fun W hWc hWf ty dc =>
    run_copy_items W ty g (i * 3) _ dc ⟨vb, 0, none⟩ 1 1 1 (LI.enc it) (by simp only [Nat.min_def]; split <;> omega) rfl
      (fun j v hj => by
        rw [Addr.add_lit, hWc, hW1, World.cell?_setCells_out g _ _ _ _ (fun h _ => absurd h hne), Nat.zero_add]
        show w.cell? ⟨vb, j, none⟩ = _
        rw [cell_block hvb]
        simpa [LI] using hj)
      (fun j hj => by
        have hj3 : j < 3 := hj
        rw [hWc]; exact hsp1 _ (by omega))
      (fun j hj => by rw [hWf, hW1, World.frozen?_setCells]; exact hfz _) (LI.one it)
  rw [← hW1] at hcp1
  have HW1 := Lib.hid hW1
  have HCS := Lib.hid hcs
  clear hcs hsrc hs hs3 ht hg hH hW1 hsp1 hsome hfz hvb b0 b1 b2
  have hw1 : IntKind.i64.wrap ((n : Int) + 1) = (n : Int) + 1 := by rw [IntKind.wrap_i64]; omega
  have hw2 : IntKind.i64.wrap ((i : Int) + 1) = (i : Int) + 1 := by rw [IntKind.wrap_i64]; omega
  have hin : i ≤ n := by omega
  have hz2 : ((i : Int) == (n : Int)) = false := by simp; omega
  have hz3 : decide ((cap : Int) < (n : Int) + 1) = false := by simp; unfold maxLen at hcap; omega
  have hic : i ≤ cap := by omega
  have hic2 : i + 1 ≤ n + 1 := by omega
  have hmx := mixed
  have hb1 : (0 : Int) ≤ (i : Int) + 1 := by omega
  have hb3 : (i : Int) ≤ (n : Int) + 1 := by omega
  have hb2 : ¬ cap = i + 1 := by omega
  have hb4 : ¬ cap = i := by omega
  have hc63 : cap ≤ 9223372036854775807 := hcap
  have HNN := Lib.hid hn
  clear hn hcap
  go_enter Tryz.func36, Tryz.ntmps36
  go_upto_region 15 with (simp only [hov])
  go_region_law_o (refine step_copy_runI rfl _ _ 26 26 rfl _ _ (by simp [Act.eval, Act.put]) (by simp [Act.eval, Act.put]) (hcp1 _ _ _) ?_)
  go_wp2_with (at_builtin; refine wpList_copy_runI _ rfl _ _ 26 26 rfl _ _ rfl rfl (hcp2 _ (fun _ => rfl) (fun _ => rfl) _ _) ?_)
  go_ret
  first | exact ⟨rfl, by rw [HW1.out, HCS.out]⟩ | (rw [HW1.out, HCS.out]; exact ⟨rfl, rfl⟩)
theorem zeroCells_size (z : Array Value) (k : Nat) : (Builtin.zeroCells z k).size = k * z.size := by
  unfold Builtin.zeroCells
  simp
set_option maxRecDepth 100000 in
set_option maxHeartbeats 4000000 in
theorem SInsert_grow (g cap : Nat) (l : List It) (it : It) (i vb : Nat) (w : World) (hi : i < l.length) (hroom : cap < l.length + 1) (hl : l.length ≤ 100000) (hH : Held LI 38 w g cap l)
    (hvb : w.heap[vb]? = some (.cells #[.int .i64 it.t, .int .i64 it.q, .int .i64 it.s] 38 (0, 0))) :
    Calls Tryz.prog 36 #[.slice (some ⟨g, 0, none⟩) l.length cap, .int .i64 i, .slice (some ⟨vb, 0, none⟩) 1 1] w fun e w' => ∃ G, e = .returned (.slice (some ⟨w.heap.size, 0, none⟩) (l.length + 1) G) ∧ G ≤ maxLen ∧ Held LI 38 w' w.heap.size G (l.take i ++ it :: l.drop i) ∧ Upd [] w w' := by
  obtain ⟨cur, hg, hs, ht⟩ := hH.ex
  have hs3 : cur.size = cap * 3 := hs
  have hle := hH.le
  have hgw : g < w.heap.size := lt_block hg
  have hvw : vb < w.heap.size := lt_block hvb
  obtain ⟨n, hn⟩ : ∃ n, n = l.length := ⟨_, rfl⟩
  rw [← hn] at hi hroom hl hle ⊢
  obtain ⟨cs, hcs⟩ : ∃ cs, cs = LI.flat (l.drop i) := ⟨_, rfl⟩
  have hcl : cs.length = (n - i) * 3 := by rw [hcs, LI.flat_length, List.length_drop, hn]; rfl
  have hall : ∀ t u, (LI.flat l)[t]? = some u → w.cell? ⟨g, t, none⟩ = some u := fun t u h1 => by
    rw [cell_block hg]
    rw [← ht, List.getElem?_take] at h1
    split at h1
    · rw [← Array.getElem?_toList]; exact h1
    · simp at h1
  have hsrc : ∀ j v, cs[j]? = some v → w.cell? ⟨g, i * 3 + j, none⟩ = some v := fun j v hj => hall _ _ (by
    rw [hcs, ← LI.flat_drop l i (by omega), List.getElem?_drop] at hj
    exact hj)
  have hone : ∀ v ∈ cs, v.oneCell' = true := by rw [hcs]; exact LI.flat_one _
  obtain ⟨i0, z, b, hi0, hz0, hz1, hz2, hz3, hb⟩ := tyI.info
  have hz1' : i0.size = 3 := hz1
  have hold : (Builtin.firstCells i0.size i (.slice (some ⟨g, 0, none⟩) i cap)).run Tryz.prog w.drew = .ok (LI.flat (l.take i)).toArray w.drew := by
    rw [hz1']
    exact run_firstCells_some w.drew 3 i ⟨g, 0, none⟩ i cap (LI.flat (l.take i)) (by rw [LI.flat_length, List.length_take, Nat.min_eq_left (by omega)]; rfl) (fun j v hj => by
      rw [Addr.add_lit, Nat.zero_add]
      refine hall j v ?_
      rw [← LI.flat_take l i (by omega), List.getElem?_take] at hj
      split at hj
      · exact hj
      · simp at hj)
  have hik : i + (n + 1 - i) = n + 1 := by omega
  have hkk : (n : Int) + 1 - (i : Int) = ((n + 1 - i : Nat) : Int) := by omega
  obtain ⟨G, hG⟩ : ∃ G, G = grownCap w (n + 1) cap 38 := ⟨_, rfl⟩
  obtain ⟨ROW, hROW⟩ : ∃ ROW : Array Value, ROW = (LI.flat (l.take i)).toArray ++ Builtin.zeroCells z.cells (n + 1 - i) ++ Builtin.zeroCells z.cells (G - (n + 1)) := ⟨_, rfl⟩
  have hrz : ∀ ty, (Builtin.append_ #[26, 3] ty #[.slice (some ⟨g, 0, none⟩) i cap, .int .i64 ((n : Int) + 1 - (i : Int))]).run Tryz.prog w = .ok (.slice (some ⟨w.heap.size, 0, none⟩) (n + 1) G) (w.drew.alloc (.cells ROW 38)) := fun ty => by
    have h := Lib.run_append_grow_zeros (P := Tryz.prog) w 26 3 ty 38 i0 z .i64 .i64 Tryz.underlying26 Tryz.underlying3 hi0 hz0 (some ⟨g, 0, none⟩) i cap (LI.flat (l.take i)) hold (n + 1 - i) (by omega) (by omega) (by omega) (by omega) (by rw [hz2]; exact Nat.le_trans (Nat.mul_le_mul (show n + 1 - i ≤ 100001 by omega) hb) (by decide)) (by
      rw [hik]
      exact growslice_fits hroom (by rw [hz2]; exact Nat.le_trans (Nat.mul_le_mul (show n + 1 ≤ 100001 by omega) hb) (by decide)))
    rw [hik, ← hG, ← hROW] at h
    rw [hkk]
    exact h
  have hGn : n + 1 ≤ G := by rw [hG]; exact grownCap_ge w _ _ _
  have hGm : G ≤ maxLen := by
    rw [hG]; exact grownCap_le_maxLen w (n + 1) cap 38 (by unfold maxLen; omega)
  have hzs : z.cells.size = 3 := hz3
  have hRs : ROW.size = G * 3 := by
    rw [hROW]
    simp only [Array.size_append, zeroCells_size, hzs, List.size_toArray, LI.flat_length, List.length_take]
    rw [show LI.k = 3 from rfl, Nat.min_eq_left (by omega)]
    omega
  have hRt : ROW.toList.take (i * 3) = LI.flat (l.take i) := by
    have hfl : (LI.flat (l.take i)).length = i * 3 := by rw [LI.flat_length, List.length_take, Nat.min_eq_left (by omega)]; rfl
    rw [hROW, Array.toList_append, Array.toList_append, List.append_assoc, ← hfl]
    simp
  obtain ⟨W1, hW1⟩ : ∃ W1, W1 = w.drew.alloc (.cells ROW 38) := ⟨_, rfl⟩
  rw [← hW1] at hrz
  have hbR : W1.heap[w.heap.size]? = some (.cells ROW 38 (0, 0)) := by rw [hW1]; exact heap_alloc1 w.drew _
  have hU1 : Upd [] w W1 := by rw [hW1]; exact ((Upd.refl [] w).drew).alloc _
  have hN : ∀ j, j < G * 3 → (W1.cell? ⟨w.heap.size, j, none⟩).isSome = true := fun j hj => by
    rw [cell_block hbR, Array.getElem?_eq_getElem (by omega)]; rfl
  have hNf : ∀ j, W1.frozen? ⟨w.heap.size, j, none⟩ = false := fun j => free_block hbR j
  have hcpA : ∀ (W : World), (∀ x, W.cell? x = W1.cell? x) → (∀ x, W.frozen? x = W1.frozen? x) → ∀ ty dc, (Builtin.copy_ #[26, 26] ty #[.slice (some ⟨w.heap.size, i * 3, none⟩) (n + 1 - i) dc, .slice (some ⟨vb, 0, none⟩) 1 1]).run Tryz.prog W = .ok (goInt ((1 : Nat) : Int)) (W.setCells w.heap.size (i * 3) (LI.enc it)) := fun W hWc hWf ty dc =>
    run_copy_items W ty w.heap.size (i * 3) _ dc ⟨vb, 0, none⟩ 1 1 1 (LI.enc it) (by simp only [Nat.min_def]; split <;> omega) rfl
      (fun j v hj => by
        rw [Addr.add_lit, hWc, Nat.zero_add]
        refine hU1.cell ?_ (by simp)
        rw [cell_block hvb]
        simpa [LI] using hj)
      (fun j hj => by
        have hj3 : j < 3 := hj
        rw [hWc]; exact hN _ (by omega))
      (fun j hj => by rw [hWf]; exact hNf _) (LI.one it)
  have hcpB : ∀ (W : World), (∀ x, W.cell? x = (W1.setCells w.heap.size (i * 3) (LI.enc it)).cell? x) → (∀ x, W.frozen? x = (W1.setCells w.heap.size (i * 3) (LI.enc it)).frozen? x) → ∀ ty dc sc, (Builtin.copy_ #[26, 26] ty #[.slice (some ⟨w.heap.size, (i + 1) * 3, none⟩) (n - i) dc, .slice (some ⟨g, i * 3, none⟩) (n - i) sc]).run Tryz.prog W = .ok (goInt ((n - i : Nat) : Int)) (W.setCells w.heap.size ((i + 1) * 3) cs) := fun W hWc hWf ty dc sc =>
    run_copy_items W ty w.heap.size ((i + 1) * 3) _ dc ⟨g, i * 3, none⟩ _ sc (n - i) cs (by simp) hcl
      (fun j v hj => by
        rw [Addr.add_lit, hWc, World.cell?_setCells_out _ _ _ _ _ (fun h _ => absurd h (by simp only; omega))]
        exact hU1.cell (hsrc j v hj) (by simp))
      (fun j hj => by rw [hWc]; exact isSome_setCells _ _ _ _ (fun t ht => hN _ (by have h3 : t < 3 := ht; omega)) _ (hN _ (by omega)))
      (fun j hj => by rw [hWf, World.frozen?_setCells]; exact hNf _) hone
  have HFIN : Hid (∀ W', W' = (((w.alloc (.cells ROW 38)).drew.setCells w.heap.size (i * 3) (LI.enc it)).drew).setCells w.heap.size ((i + 1) * 3) cs → G ≤ maxLen ∧ Held LI 38 W' w.heap.size G (l.take i ++ it :: l.drop i) ∧ Upd [] w W') := fun W' hW' => by
    subst hW'
    rw [drew_setCells]
    have hbR2 : ((w.alloc (.cells ROW 38)).drew.drew).heap[w.heap.size]? = some (.cells ROW 38 (0, 0)) := heap_alloc1 w _
    have hU2 : Upd [] w ((w.alloc (.cells ROW 38)).drew.drew) := (((Upd.refl [] w).alloc _).drew).drew
    refine ⟨hGm, ?_, ?_⟩
    · rw [hcs]
      exact ins_grow it hbR2 hRs hRt (by omega) (by omega)
    · rw [setCells_stores, setCells_stores]
      exact (hU2.new (stores_upd _ _ _ _) (Nat.le_refl _)).new (stores_upd _ _ _ _) (Nat.le_refl _)
  have hG63 : G ≤ 9223372036854775807 := hGm
  have HNN := Lib.hid hn
  subst hW1
  clear hold hall hsrc hs hs3 ht hg hH hROW hG hRs hRt hcs hone hik hGm hbR hU1 hN hNf hn hcl hz1' hz1 hz2 hz3 hzs hi0 hz0 hb hvb hkk
  have hE1 : ∀ x, ((w.alloc (.cells ROW 38)).drew).cell? x = (w.drew.alloc (.cells ROW 38)).cell? x := fun x => rfl
  have hE2 : ∀ x, ((w.alloc (.cells ROW 38)).drew).frozen? x = (w.drew.alloc (.cells ROW 38)).frozen? x := fun x => rfl
  have hF1 : ∀ x, (((w.alloc (.cells ROW 38)).drew.setCells w.heap.size (i * 3) (LI.enc it)).drew).cell? x = ((w.drew.alloc (.cells ROW 38)).setCells w.heap.size (i * 3) (LI.enc it)).cell? x := fun x => rfl
  have hF2 : ∀ x, (((w.alloc (.cells ROW 38)).drew.setCells w.heap.size (i * 3) (LI.enc it)).drew).frozen? x = ((w.drew.alloc (.cells ROW 38)).setCells w.heap.size (i * 3) (LI.enc it)).frozen? x := fun x => rfl
  have hw1 : IntKind.i64.wrap ((n : Int) + 1) = (n : Int) + 1 := by rw [IntKind.wrap_i64]; omega
  have hw2 : IntKind.i64.wrap ((i : Int) + 1) = (i : Int) + 1 := by rw [IntKind.wrap_i64]; omega
  have hw3 : IntKind.i64.wrap ((n : Int) + 1 - (i : Int)) = (n : Int) + 1 - (i : Int) := by rw [IntKind.wrap_i64]; omega
  have hin : i ≤ n := by omega
  have hz2 : ((i : Int) == (n : Int)) = false := by simp; omega
  have hz3 : decide ((cap : Int) < (n : Int) + 1) = true := by simp; omega
  have hic : i ≤ cap := by omega
  have hmx := mixed
  have hb1 : (0 : Int) ≤ (i : Int) + 1 := by omega
  have hb3 : (i : Int) ≤ (n : Int) + 1 := by omega
  have hb5 : i ≤ n + 1 := by omega
  have hb4 : ¬ cap = i := by omega
  have hG1 : ¬ G = i := by omega
  have hG2 : ¬ G = i + 1 := by omega
  go_enter Tryz.func36, Tryz.ntmps36
  go_wp2_with (first
    | (at_builtin; refine Lib.wpList_append_run _ rfl _ _ _ _ rfl _ _ rfl rfl _ _ (hrz _) ?_)
    | (at_builtin; refine wpList_copy_runI _ rfl _ _ 26 26 rfl _ _ rfl rfl (hcpA _ hE1 hE2 _ _) ?_)
    | (at_builtin; refine wpList_copy_runI _ rfl _ _ 26 26 rfl _ _ rfl rfl (hcpA _ (fun _ => rfl) (fun _ => rfl) _ _) ?_))
  go_region_law_o (refine step_copy_runI rfl _ _ 26 26 rfl (.slice (some ⟨w.heap.size, (i + 1) * 3, none⟩) (n - i) (G - (i + 1))) (.slice (some ⟨g, i * 3, none⟩) (n - i) (cap - i)) (by simp [Act.eval, Act.put]) (by simp [Act.eval, Act.put]) (hcpB _ hF1 hF2 3 (G - (i + 1)) (cap - i)) ?_)
  go_wp2_with fail
  go_ret
  exact ⟨G, rfl, HFIN.out _ rfl⟩
theorem SInsert_has (s : SlR It) (it : It) (p vb b0 : Nat) (w : World) (hp : p ≤ s.l.length) (ho : w.ownsRow b0 38 3 s.v s.l.length (LI.flat s.l)) (hl : s.l.length ≤ 100000)
    (hvb : w.heap[vb]? = some (.cells #[.int .i64 it.t, .int .i64 it.q, .int .i64 it.s] 38 (0, 0))) (hne : s.v.ownBlock ≠ some vb) (hb : b0 ≤ w.heap.size) :
    Calls Tryz.prog 36 #[.slice s.ad s.l.length s.cap, .int .i64 p, .slice (some ⟨vb, 0, none⟩) 1 1] w (InsPost s it p b0 w) := by
  by_cases h : p = s.l.length
  · subst h
    exact SInsert_end s it vb b0 w ho hl hvb hb
  · obtain ⟨hnn, g, cap, ev, hbg, hheld⟩ := held_row (L := LI) ho (by omega)
    have hcm : cap ≤ maxLen := by rw [ev] at ho; exact own_cap ho
    rw [ev] at hne
    obtain ⟨sl, sa, sc⟩ := s
    simp only [SlR.v, Value.slice.injEq] at ev
    obtain ⟨rfl, _, rfl⟩ := ev
    simp only at hp hl hheld h hnn ⊢
    have hne2 : vb ≠ g := fun e => hne (by rw [e]; rfl)
    by_cases hroom : sl.length + 1 ≤ sc
    · refine (SInsert_shift g sc sl it p vb w (by omega) hroom hcm hl hheld hvb hne2).mono ?_
      rintro e w' ⟨rfl, rfl⟩
      have hH2 : Held LI 38 w.drew g sc sl := hheld.keep ((Upd.refl [] w).drew) (by simp)
      have h3 := ins_shift it hH2 (show p ≤ sl.length by omega) hroom
      refine ⟨⟨sl.take p ++ it :: sl.drop p, some ⟨g, 0, none⟩, sc⟩, ?_, rfl, h3.has, fun b hb2 => fun _ a ea => ?_, ?_⟩
      · simp only [ins_length sl it p hp]
      · obtain rfl := Option.some.inj ea
        simp only
        omega
      · rw [setCells_stores, setCells_stores]
        show Upd [g] w _
        exact (((Upd.refl [g] w).drew).trans (stores_upd _ _ _ _) (fun x hx _ => hx)).trans (stores_upd _ _ _ _) (fun x hx _ => hx)
    · refine (SInsert_grow g sc sl it p vb w (by omega) (by omega) hl hheld hvb).mono ?_
      rintro e w' ⟨G, rfl, _, h3, h4⟩
      refine ⟨⟨sl.take p ++ it :: sl.drop p, some ⟨w.heap.size, 0, none⟩, G⟩, ?_, rfl, h3.has, fun b hb2 => fun _ a ea => ?_, h4.mono (by simp)⟩
      · simp only [ins_length sl it p hp]
      · obtain rfl := Option.some.inj ea
        simp only
        omega
end Go.Proofs.YtpabapjodcafkaaGreat
