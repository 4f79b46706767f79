
/- Contract of layer 10: slices.Insert over entries, of one entry into a row of the call's own. -/
import Derived.Test.YtpneljhplbkdkaaHA
import Derived.Test.YtpneljhplbkdkaaAH
import Derived.Shelf.Spec.SlicesInsert
import Derived.Lib.AppendZerosOnto
import Derived.Laws.NewBlocks
namespace Go.Proofs.Ytpneljhplbkdkaa
open Go.RowKit Go.Lib
theorem av_own {s : SlR En} {w : World} {base : Nat} {b : Nat} (h : w.ownsRow base 49 4 s.v s.l.length (LE.flat s.l)) (hb : b < base) : AvS s b := fun _ a ea he => by
  obtain ⟨l, ad, c⟩ := s
  simp only at ea
  subst ea
  have := own_ge h a.block rfl
  omega
theorem has_own {s : SlR En} {w : World} {base : Nat} (h : w.ownsRow base 49 4 s.v s.l.length (LE.flat s.l)) : HasS LE w s := by
  obtain ⟨_, ad, cap, e, hS, _⟩ := hasS_row h
  obtain ⟨l, a, c⟩ := s
  simp only [SlR.v, Value.slice.injEq] at e
  obtain ⟨rfl, _, rfl⟩ := e
  exact hS
theorem own_cap {w : World} {base size n : Nat} {e : TypeId} {ad : Option Addr} {m c : Nat} {xs : List Value} (h : w.ownsRow base e size (.slice ad m c) n xs) : c ≤ maxLen := by
  rcases h.2 with ⟨h1, _⟩ | ⟨g, cap, cur, h1, _, _, _, h2, _⟩
  · simp only [Value.slice.injEq] at h1; obtain ⟨_, _, rfl⟩ := h1; exact Nat.zero_le _
  · simp only [Value.slice.injEq] at h1; obtain ⟨_, _, rfl⟩ := h1; exact h2
theorem held_own {α : Type} {L : Lay α} {te : TypeId} {w : World} {g cap base : Nat} {l : List α} (h : Held L te w g cap l) (hb : base ≤ g) (hc : cap ≤ maxLen) : w.ownsRow base te L.k (.slice (some ⟨g, 0, none⟩) l.length cap) l.length (L.flat l) := by
  obtain ⟨cur, h1, h2, h3⟩ := h.ex
  exact ⟨L.flat_length l, .inr ⟨g, cap, cur, rfl, hb, h1, h.le, hc, h2, h3⟩⟩

def InsPost (s : SlR En) (it : En) (i b0 : Nat) (w : World) (e : Ending) (w' : World) : Prop := ∃ s' : SlR En, e = .returned (.slice s'.ad s'.l.length s'.cap) ∧ s'.l = s.l.take i ++ it :: s.l.drop i ∧ w'.ownsRow b0 49 LE.k s'.v s'.l.length (LE.flat s'.l) ∧ Upd s.v.ownBlock.toList w w'
set_option maxRecDepth 100000 in
set_option maxHeartbeats 4000000 in
theorem SInsert_end (s : SlR En) (it : En) (vb b0 : Nat) (w : World) (ho : w.ownsRow b0 49 4 s.v s.l.length (LE.flat s.l)) (hl : s.l.length ≤ 100000)
    (hvb : w.heap[vb]? = some (.cells #[.int .i64 it.t, .int .i64 it.q, .int .i64 it.h, .bool it.d] 49 (0, 0))) (hb : b0 ≤ w.heap.size) :
    Calls Try.prog 53 #[.slice s.ad s.l.length s.cap, .int .i64 s.l.length, .slice (some ⟨vb, 0, none⟩) 1 1] w (InsPost s it s.l.length b0 w) := by
  have hle := (has_own ho).le
  have HRO := Lib.hid (ent_cells hvb)
  have HFN : Hid (∀ va vc W, W.ownsRow b0 49 4 (.slice va (s.l.length + 1) vc) (s.l.length + 1) (LE.flat (s.l ++ [it])) → w.grownBy W s.v.ownBlock → InsPost s it s.l.length b0 w (.returned (.slice va (s.l.length + 1) vc)) W) := fun va vc W h1 h2 => by
    have e : (s.l ++ [it]).length = s.l.length + 1 := by simp
    have h3 : W.ownsRow b0 49 4 (SlR.v ⟨s.l ++ [it], va, vc⟩) (s.l ++ [it]).length (LE.flat (s.l ++ [it])) := by simp only [SlR.v]; rw [e]; exact h1
    exact ⟨⟨s.l ++ [it], va, vc⟩, by simp only [e], by simp, h3, upd_grown h2⟩
  obtain ⟨l, sa, sc⟩ := s
  simp only [SlR.v] at ho hl hle HFN ⊢
  have HO := Lib.hid ho
  generalize hn : l.length = n at *
  clear ho hvb
  have hz : ((n : Int) == (n : Int)) = true := by simp
  by_cases hsc : sc = n
  · have hsc2 : n = sc := hsc.symm
    subst hsc2
    clear hsc
    go_enter Try.func53, Try.ntmps53
    go_wp2_with (at_builtin; refine app_row tyE rfl _ _ rfl b0 (.slice sa n _) n l rfl HO.out (some ⟨vb, 0, none⟩) 1 1 [it] rfl rfl HRO.out (fun e => by simp at e) (by omega) hb ?_; intro v' w1 hown hgrow)
    obtain ⟨va, vc, rfl⟩ := row_shape hown
    have HG := Lib.hid (HFN.out va vc w1 hown hgrow)
    clear hown hgrow
    go_wp2_with fail
    go_ret
    exact HG.out
  · have hsc2 : ¬ n = sc := fun e => hsc e.symm
    go_enter Try.func53, Try.ntmps53
    go_wp2_with (at_builtin; refine app_row tyE rfl _ _ rfl b0 (.slice sa n _) n l rfl HO.out (some ⟨vb, 0, none⟩) 1 1 [it] rfl rfl HRO.out (fun e => by simp at e) (by omega) hb ?_; intro v' w1 hown hgrow)
    obtain ⟨va, vc, rfl⟩ := row_shape hown
    have HG := Lib.hid (HFN.out va vc w1 hown hgrow)
    clear hown hgrow
    go_wp2_with fail
    go_ret
    exact HG.out

theorem setCells_stores (g : Nat) : ∀ (vs : List Value) (o : Nat) (w : World), w.setCells g o vs = stores w g o vs
  | [], _, _ => rfl
  | v :: vs, o, w => by rw [World.setCells, stores, setCells_stores g vs]
theorem Lay.flat_take {α : Type} (L : Lay α) (l : List α) (i : Nat) (hi : i ≤ l.length) : (L.flat l).take (i * L.k) = L.flat (l.take i) := by
  have h : L.flat l = L.flat (l.take i) ++ L.flat (l.drop i) := by rw [← L.flat_append, List.take_append_drop]
  have hl : (L.flat (l.take i)).length = i * L.k := by rw [L.flat_length, List.length_take, Nat.min_eq_left hi]
  rw [h, ← hl, List.take_left]
theorem Lay.flat_drop {α : Type} (L : Lay α) (l : List α) (i : Nat) (hi : i ≤ l.length) : (L.flat l).drop (i * L.k) = L.flat (l.drop i) := by
  have h : L.flat l = L.flat (l.take i) ++ L.flat (l.drop i) := by rw [← L.flat_append, List.take_append_drop]
  have hl : (L.flat (l.take i)).length = i * L.k := by rw [L.flat_length, List.length_take, Nat.min_eq_left hi]
  rw [h, ← hl, List.drop_left]
theorem flat_ins (l : List En) (it : En) (i : Nat) : LE.flat (l.take i ++ it :: l.drop i) = LE.flat (l.take i) ++ LE.enc it ++ LE.flat (l.drop i) := by
  rw [LE.flat_append, LE.flat_cons, List.append_assoc]
theorem ins_length (l : List En) (it : En) (i : Nat) (hi : i ≤ l.length) : (l.take i ++ it :: l.drop i).length = l.length + 1 := by simp; omega
theorem held_of {w : World} {g cap : Nat} {l : List En} {it : En} {i : Nat} {c : Array Value} {rest : List Value} (hb : w.heap[g]? = some (.cells c 49 (0, 0))) (hs : c.size = cap * 4) (hi : i ≤ l.length) (hc : l.length + 1 ≤ cap) (ht : c.toList = LE.flat (l.take i) ++ LE.enc it ++ LE.flat (l.drop i) ++ rest) : Held LE 49 w g cap (l.take i ++ it :: l.drop i) := by
  refine ⟨⟨c, hb, hs, ?_⟩, by rw [ins_length l it i hi]; exact hc⟩
  rw [← LE.flat_length, flat_ins, ht, List.take_left]
theorem ins_shift {w : World} {g cap : Nat} {l : List En} {i : Nat} (it : En) (h : Held LE 49 w g cap l) (hi : i ≤ l.length) (hc : l.length + 1 ≤ cap) :
    Held LE 49 ((w.setCells g ((i + 1) * 4) (LE.flat (l.drop i))).setCells g (i * 4) (LE.enc it)) g cap (l.take i ++ it :: l.drop i) := by
  obtain ⟨cur, h1, h2, h3⟩ := h.ex
  have hk : LE.k = 4 := rfl
  rw [hk] at h2 h3
  have hd : (LE.flat (l.drop i)).length = (l.length - i) * 4 := by rw [LE.flat_length, List.length_drop]; rfl
  have hsz : cur.toList.length = cap * 4 := by simp [h2]
  rw [setCells_stores, setCells_stores]
  obtain ⟨c1, q1, q2⟩ := stores_block (LE.flat (l.drop i)) (o := (i + 1) * 4) h1 (by rw [hd, h2]; omega)
  have l1 : c1.toList.length = cap * 4 := by
    rw [q2]; simp only [List.length_append, List.length_take, List.length_drop, hsz, hd]; omega
  obtain ⟨c2, p1, p2⟩ := stores_block (LE.enc it) (o := i * 4) q1 (by rw [LE.len, hk]; simp at l1; omega)
  have l2 : c2.toList.length = cap * 4 := by
    rw [p2]; simp only [List.length_append, List.length_take, List.length_drop, l1, LE.len, hk]; omega
  refine held_of (rest := cur.toList.drop ((i + 1) * 4 + (LE.flat (l.drop i)).length)) p1 (by simpa using l2) hi hc ?_
  have hta : (cur.toList.take ((i + 1) * 4)).length = (i + 1) * 4 := by rw [List.length_take, hsz]; omega
  have e1 : c1.toList.take (i * 4) = LE.flat (l.take i) := by
    rw [q2, List.append_assoc, List.take_append_of_le_length (by rw [hta]; omega), List.take_take, Nat.min_eq_left (by omega)]
    have : cur.toList.take (i * 4) = (cur.toList.take (l.length * 4)).take (i * 4) := by rw [List.take_take, Nat.min_eq_left (by omega)]
    rw [this, h3]
    exact LE.flat_take l i hi
  have e2 : c1.toList.drop (i * 4 + (LE.enc it).length) = LE.flat (l.drop i) ++ cur.toList.drop ((i + 1) * 4 + (LE.flat (l.drop i)).length) := by
    rw [LE.len, hk, show i * 4 + 4 = (cur.toList.take ((i + 1) * 4)).length by rw [hta]; omega, q2, List.append_assoc, List.drop_left]
  rw [p2, e1, e2]
  simp [List.append_assoc]
theorem ins_grow {W : World} {g G : Nat} {l : List En} {i : Nat} {ROW : Array Value} (it : En) (hb : W.heap[g]? = some (.cells ROW 49 (0, 0))) (hs : ROW.size = G * 4) (ht : ROW.toList.take (i * 4) = LE.flat (l.take i)) (hi : i ≤ l.length) (hc : l.length + 1 ≤ G) :
    Held LE 49 ((W.setCells g (i * 4) (LE.enc it)).setCells g ((i + 1) * 4) (LE.flat (l.drop i))) g G (l.take i ++ it :: l.drop i) := by
  have hk : LE.k = 4 := rfl
  have hd : (LE.flat (l.drop i)).length = (l.length - i) * 4 := by rw [LE.flat_length, List.length_drop]; rfl
  have hsz : ROW.toList.length = G * 4 := by simp [hs]
  rw [setCells_stores, setCells_stores]
  obtain ⟨c1, q1, q2⟩ := stores_block (LE.enc it) (o := i * 4) hb (by rw [LE.len, hk, hs]; omega)
  have l1 : c1.toList.length = G * 4 := by
    rw [q2]; simp only [List.length_append, List.length_take, List.length_drop, hsz, LE.len, hk]; omega
  obtain ⟨c2, p1, p2⟩ := stores_block (LE.flat (l.drop i)) (o := (i + 1) * 4) q1 (by rw [hd]; simp at l1; omega)
  have l2 : c2.toList.length = G * 4 := by
    rw [p2]; simp only [List.length_append, List.length_take, List.length_drop, l1, hd]; omega
  refine held_of (rest := c1.toList.drop ((i + 1) * 4 + (LE.flat (l.drop i)).length)) p1 (by simpa using l2) hi hc ?_
  have hta : (ROW.toList.take (i * 4) ++ LE.enc it).length = (i + 1) * 4 := by rw [List.length_append, List.length_take, hsz, LE.len, hk]; omega
  have e1 : c1.toList.take ((i + 1) * 4) = LE.flat (l.take i) ++ LE.enc it := by
    rw [q2, ← hta, List.take_left, ht]
  rw [p2, e1]
theorem run_copy_items (w : World) (ty : TypeId) (b o dLen dCap : Nat) (a : Addr) (sLen sCap m : Nat) (cs : List Value) (hm : Nat.min sLen dLen = m) (hn : cs.length = m * 4)
    (hsrc : ∀ j v, cs[j]? = some v → w.cell? (a.add j) = some v) (hc : ∀ j, j < cs.length → (w.cell? ⟨b, o + j, none⟩).isSome = true) (hf : ∀ j, j < cs.length → w.frozen? ⟨b, o + j, none⟩ = false) (h1 : ∀ v ∈ cs, v.oneCell' = true) :
    (Builtin.copy_ #[22, 22] ty #[.slice (some ⟨b, o, none⟩) dLen dCap, .slice (some a) sLen sCap]).run Try.prog w = .ok (goInt m) (w.setCells b o cs) := by
  have hl := run_loadCells_list (P := Try.prog) w a cs hsrc
  have hst := run_storeCells_cells (P := Try.prog) b o cs 0 w (by simpa using hc) (by simpa using hf) h1
  obtain ⟨i, h2, h3, h4, h5⟩ := info_parts infoEntry
  simp [Builtin.copy_, run_underlying Try.underlying22, Builtin.lenOf, Builtin.firstCells, sizeOf, typeInfo, h2, h4, hm, ← hn, hl, hst]

set_option maxRecDepth 100000 in
set_option maxHeartbeats 4000000 in
theorem SInsert_shift (g cap : Nat) (l : List En) (it : En) (i vb : Nat) (w : World) (hi : i < l.length) (hroom : l.length + 1 ≤ cap) (hcap : cap ≤ maxLen) (hl : l.length ≤ 100000) (hH : Held LE 49 w g cap l)
    (hvb : w.heap[vb]? = some (.cells #[.int .i64 it.t, .int .i64 it.q, .int .i64 it.h, .bool it.d] 49 (0, 0))) (hne : vb ≠ g) :
    Calls Try.prog 53 #[.slice (some ⟨g, 0, none⟩) l.length cap, .int .i64 i, .slice (some ⟨vb, 0, none⟩) 1 1] w fun e w' => e = .returned (.slice (some ⟨g, 0, none⟩) (l.length + 1) cap) ∧ w' = (w.drew.setCells g ((i + 1) * 4) (LE.flat (l.drop i))).setCells g (i * 4) (LE.enc it) := by
  obtain ⟨cur, hg, hs, ht⟩ := hH.ex
  have hs3 : cur.size = cap * 4 := hs
  obtain ⟨n, hn⟩ : ∃ n, n = l.length := ⟨_, rfl⟩
  rw [← hn] at hi hroom hl ⊢
  obtain ⟨cs, hcs⟩ : ∃ cs, cs = LE.flat (l.drop i) := ⟨_, rfl⟩
  have hcl : cs.length = (n - i) * 4 := by rw [hcs, LE.flat_length, List.length_drop, hn]; rfl
  have hsrc : ∀ j v, cs[j]? = some v → w.cell? ⟨g, i * 4 + j, none⟩ = some v := fun j v hj => by
    rw [cell_block hg]
    have h1 : (LE.flat l)[i * 4 + j]? = some v := by
      rw [hcs, ← LE.flat_drop l i (by omega), List.getElem?_drop] at hj
      exact hj
    rw [← ht, List.getElem?_take] at h1
    split at h1
    · rw [← Array.getElem?_toList]; exact h1
    · simp at h1
  have hone : ∀ v ∈ cs, v.oneCell' = true := by rw [hcs]; exact LE.flat_one _
  have hsome : ∀ j, j < cap * 4 → (w.cell? ⟨g, j, none⟩).isSome = true := fun j hj => by
    rw [cell_block hg, Array.getElem?_eq_getElem (by omega)]; rfl
  have hfz : ∀ j, w.frozen? ⟨g, j, none⟩ = false := fun j => free_block hg j
  have hov : ∀ o lb cb, (callFunc 62 #[.slice (some ⟨vb, 0, none⟩) 1 1, .slice (some ⟨g, o, none⟩) lb cb]).run Try.prog w = .ok (.value (.bool false)) w := fun o lb cb => by
    rw [run_callFunc_extern Try.func62 (by kernel_rfl) (by kernel_rfl) (by kernel_rfl) (e := Extern.SlicesOverlaps.overlaps #[22, 22] #[4]) (by kernel_rfl),
      Lib.run_overlaps_apart w 22 4 49 Try.underlying22 4 Try.sizeOf49 ⟨vb, 0, none⟩ ⟨g, o, none⟩ 1 1 lb cb hne 49 49 4 (cap * 4) (by simp [World.shape?, hvb]) (by simp [World.shape?, hg, hs3]) (by omega) (free_block hvb _) (free_block hvb _)]
    rfl
  have hcp1 : ∀ ty dc sc, (Builtin.copy_ #[22, 22] ty #[.slice (some ⟨g, (i + 1) * 4, none⟩) (n - i) dc, .slice (some ⟨g, i * 4, none⟩) (n + 1 - i) sc]).run Try.prog w.drew = .ok (goInt ((n - i : Nat) : Int)) (w.drew.setCells g ((i + 1) * 4) cs) := fun ty dc sc =>
    run_copy_items w.drew ty g ((i + 1) * 4) _ dc ⟨g, i * 4, none⟩ _ sc (n - i) cs (by simp only [Nat.min_def]; split <;> omega) hcl (fun j v hj => by rw [Addr.add_lit]; exact hsrc j v hj) (fun j hj => hsome _ (by omega)) (fun j hj => hfz _) hone
  obtain ⟨W1, hW1⟩ : ∃ W1, W1 = w.drew.setCells g ((i + 1) * 4) cs := ⟨_, rfl⟩
  have hsp1 : ∀ k, k < cap * 4 → (W1.cell? ⟨g, k, none⟩).isSome = true := fun k hk => by
    rw [hW1]
    exact isSome_setCells g cs ((i + 1) * 4) w.drew (fun j hj => hsome ((i + 1) * 4 + j) (by omega)) k (hsome k hk)
  obtain ⟨b0, b1, b2, b3⟩ := cells4 hvb
  have hcp2 : ∀ (W : World), (∀ x, W.cell? x = W1.cell? x) → (∀ x, W.frozen? x = W1.frozen? x) → ∀ ty dc, (Builtin.copy_ #[22, 22] ty #[.slice (some ⟨g, i * 4, none⟩) (n + 1 - i) dc, .slice (some ⟨vb, 0, none⟩) 1 1]).run Try.prog W = .ok (goInt ((1 : Nat) : Int)) (W.setCells g (i * 4) (LE.enc it)) := fun W hWc hWf ty dc =>
    run_copy_items W ty g (i * 4) _ dc ⟨vb, 0, none⟩ 1 1 1 (LE.enc it) (by simp only [Nat.min_def]; split <;> omega) rfl
      (fun j v hj => by
        rw [Addr.add_lit, hWc, hW1, World.cell?_setCells_out g _ _ _ _ (fun h _ => absurd h hne), Nat.zero_add]
        show w.cell? ⟨vb, j, none⟩ = _
        rw [cell_block hvb]
        simpa [LE] using hj)
      (fun j hj => by
        have hj3 : j < 4 := hj
        rw [hWc]; exact hsp1 _ (by omega))
      (fun j hj => by rw [hWf, hW1, World.frozen?_setCells]; exact hfz _) (LE.one it)
  rw [← hW1] at hcp1
  have HW1 := Lib.hid hW1
  have HCS := Lib.hid hcs
  clear hcs hsrc hs hs3 ht hg hH hW1 hsp1 hsome hfz hvb b0 b1 b2 b3
  have hw1 : IntKind.i64.wrap ((n : Int) + 1) = (n : Int) + 1 := by rw [IntKind.wrap_i64]; omega
  have hw2 : IntKind.i64.wrap ((i : Int) + 1) = (i : Int) + 1 := by rw [IntKind.wrap_i64]; omega
  have hin : i ≤ n := by omega
  have hz2 : ((i : Int) == (n : Int)) = false := by simp; omega
  have hz3 : decide ((cap : Int) < (n : Int) + 1) = false := by simp; unfold maxLen at hcap; omega
  have hic : i ≤ cap := by omega
  have hic2 : i + 1 ≤ n + 1 := by omega
  have hmx := mixed
  have hb1 : (0 : Int) ≤ (i : Int) + 1 := by omega
  have hb3 : (i : Int) ≤ (n : Int) + 1 := by omega
  have hb2 : ¬ cap = i + 1 := by omega
  have hb4 : ¬ cap = i := by omega
  have hc63 : cap ≤ 9223372036854775807 := hcap
  have HNN := Lib.hid hn
  clear hn hcap
  go_enter Try.func53, Try.ntmps53
  go_upto_region 15 with (simp only [hov])
  go_region_law_o (refine step_copy_runI rfl _ _ 22 22 rfl _ _ (by simp [Act.eval, Act.put]) (by simp [Act.eval, Act.put]) (hcp1 _ _ _) ?_)
  go_wp2_with (at_builtin; refine wpList_copy_runI _ rfl _ _ 22 22 rfl _ _ rfl rfl (hcp2 _ (fun _ => rfl) (fun _ => rfl) _ _) ?_)
  go_ret
  first | exact ⟨rfl, by rw [HW1.out, HCS.out]⟩ | (rw [HW1.out, HCS.out]; exact ⟨rfl, rfl⟩)
theorem zeroCells_size (z : Array Value) (k : Nat) : (Builtin.zeroCells z k).size = k * z.size := by
  unfold Builtin.zeroCells
  simp
set_option maxRecDepth 100000 in
set_option maxHeartbeats 4000000 in
theorem SInsert_grow (g cap : Nat) (l : List En) (it : En) (i vb : Nat) (w : World) (hi : i < l.length) (hroom : cap < l.length + 1) (hl : l.length ≤ 100000) (hH : Held LE 49 w g cap l)
    (hvb : w.heap[vb]? = some (.cells #[.int .i64 it.t, .int .i64 it.q, .int .i64 it.h, .bool it.d] 49 (0, 0))) :
    Calls Try.prog 53 #[.slice (some ⟨g, 0, none⟩) l.length cap, .int .i64 i, .slice (some ⟨vb, 0, none⟩) 1 1] w fun e w' => ∃ G, e = .returned (.slice (some ⟨w.heap.size, 0, none⟩) (l.length + 1) G) ∧ G ≤ maxLen ∧ Held LE 49 w' w.heap.size G (l.take i ++ it :: l.drop i) ∧ Upd [] w w' := by
  obtain ⟨cur, hg, hs, ht⟩ := hH.ex
  have hs3 : cur.size = cap * 4 := hs
  have hle := hH.le
  have hgw : g < w.heap.size := lt_block hg
  have hvw : vb < w.heap.size := lt_block hvb
  obtain ⟨n, hn⟩ : ∃ n, n = l.length := ⟨_, rfl⟩
  rw [← hn] at hi hroom hl hle ⊢
  obtain ⟨cs, hcs⟩ : ∃ cs, cs = LE.flat (l.drop i) := ⟨_, rfl⟩
  have hcl : cs.length = (n - i) * 4 := by rw [hcs, LE.flat_length, List.length_drop, hn]; rfl
  have hall : ∀ t u, (LE.flat l)[t]? = some u → w.cell? ⟨g, t, none⟩ = some u := fun t u h1 => by
    rw [cell_block hg]
    rw [← ht, List.getElem?_take] at h1
    split at h1
    · rw [← Array.getElem?_toList]; exact h1
    · simp at h1
  have hsrc : ∀ j v, cs[j]? = some v → w.cell? ⟨g, i * 4 + j, none⟩ = some v := fun j v hj => hall _ _ (by
    rw [hcs, ← LE.flat_drop l i (by omega), List.getElem?_drop] at hj
    exact hj)
  have hone : ∀ v ∈ cs, v.oneCell' = true := by rw [hcs]; exact LE.flat_one _
  obtain ⟨i0, z, b, hi0, hz0, hz1, hz2, hz3, hb⟩ := tyE.info
  have hz1' : i0.size = 4 := hz1
  have hold : (Builtin.firstCells i0.size i (.slice (some ⟨g, 0, none⟩) i cap)).run Try.prog w.drew = .ok (LE.flat (l.take i)).toArray w.drew := by
    rw [hz1']
    exact run_firstCells_some w.drew 4 i ⟨g, 0, none⟩ i cap (LE.flat (l.take i)) (by rw [LE.flat_length, List.length_take, Nat.min_eq_left (by omega)]; rfl) (fun j v hj => by
      rw [Addr.add_lit, Nat.zero_add]
      refine hall j v ?_
      rw [← LE.flat_take l i (by omega), List.getElem?_take] at hj
      split at hj
      · exact hj
      · simp at hj)
  have hik : i + (n + 1 - i) = n + 1 := by omega
  have hkk : (n : Int) + 1 - (i : Int) = ((n + 1 - i : Nat) : Int) := by omega
  obtain ⟨G, hG⟩ : ∃ G, G = grownCap w (n + 1) cap 49 := ⟨_, rfl⟩
  obtain ⟨ROW, hROW⟩ : ∃ ROW : Array Value, ROW = (LE.flat (l.take i)).toArray ++ Builtin.zeroCells z.cells (n + 1 - i) ++ Builtin.zeroCells z.cells (G - (n + 1)) := ⟨_, rfl⟩
  have hrz : ∀ ty, (Builtin.append_ #[22, 3] ty #[.slice (some ⟨g, 0, none⟩) i cap, .int .i64 ((n : Int) + 1 - (i : Int))]).run Try.prog w = .ok (.slice (some ⟨w.heap.size, 0, none⟩) (n + 1) G) (w.drew.alloc (.cells ROW 49)) := fun ty => by
    have h := Lib.run_append_grow_zeros (P := Try.prog) w 22 3 ty 49 i0 z .i64 .i64 Try.underlying22 Try.underlying3 hi0 hz0 (some ⟨g, 0, none⟩) i cap (LE.flat (l.take i)) hold (n + 1 - i) (by omega) (by omega) (by omega) (by omega) (by rw [hz2]; exact Nat.le_trans (Nat.mul_le_mul (show n + 1 - i ≤ 100001 by omega) hb) (by decide)) (by
      rw [hik]
      exact growslice_fits hroom (by rw [hz2]; exact Nat.le_trans (Nat.mul_le_mul (show n + 1 ≤ 100001 by omega) hb) (by decide)))
    rw [hik, ← hG, ← hROW] at h
    rw [hkk]
    exact h
  have hGn : n + 1 ≤ G := by rw [hG]; exact grownCap_ge w _ _ _
  have hGm : G ≤ maxLen := by
    rw [hG]; exact grownCap_le_maxLen w (n + 1) cap 49 (by unfold maxLen; omega)
  have hzs : z.cells.size = 4 := hz3
  have hRs : ROW.size = G * 4 := by
    rw [hROW]
    simp only [Array.size_append, zeroCells_size, hzs, List.size_toArray, LE.flat_length, List.length_take]
    rw [show LE.k = 4 from rfl, Nat.min_eq_left (by omega)]
    omega
  have hRt : ROW.toList.take (i * 4) = LE.flat (l.take i) := by
    have hfl : (LE.flat (l.take i)).length = i * 4 := by rw [LE.flat_length, List.length_take, Nat.min_eq_left (by omega)]; rfl
    rw [hROW, Array.toList_append, Array.toList_append, List.append_assoc, ← hfl]
    simp
  obtain ⟨W1, hW1⟩ : ∃ W1, W1 = w.drew.alloc (.cells ROW 49) := ⟨_, rfl⟩
  rw [← hW1] at hrz
  have hbR : W1.heap[w.heap.size]? = some (.cells ROW 49 (0, 0)) := by rw [hW1]; exact heap_alloc1 w.drew _
  have hU1 : Upd [] w W1 := by rw [hW1]; exact ((Upd.refl [] w).drew).alloc _
  have hN : ∀ j, j < G * 4 → (W1.cell? ⟨w.heap.size, j, none⟩).isSome = true := fun j hj => by
    rw [cell_block hbR, Array.getElem?_eq_getElem (by omega)]; rfl
  have hNf : ∀ j, W1.frozen? ⟨w.heap.size, j, none⟩ = false := fun j => free_block hbR j
  have hcpA : ∀ (W : World), (∀ x, W.cell? x = W1.cell? x) → (∀ x, W.frozen? x = W1.frozen? x) → ∀ ty dc, (Builtin.copy_ #[22, 22] ty #[.slice (some ⟨w.heap.size, i * 4, none⟩) (n + 1 - i) dc, .slice (some ⟨vb, 0, none⟩) 1 1]).run Try.prog W = .ok (goInt ((1 : Nat) : Int)) (W.setCells w.heap.size (i * 4) (LE.enc it)) := fun W hWc hWf ty dc =>
    run_copy_items W ty w.heap.size (i * 4) _ dc ⟨vb, 0, none⟩ 1 1 1 (LE.enc it) (by simp only [Nat.min_def]; split <;> omega) rfl
      (fun j v hj => by
        rw [Addr.add_lit, hWc, Nat.zero_add]
        refine hU1.cell ?_ (by simp)
        rw [cell_block hvb]
        simpa [LE] using hj)
      (fun j hj => by
        have hj3 : j < 4 := hj
        rw [hWc]; exact hN _ (by omega))
      (fun j hj => by rw [hWf]; exact hNf _) (LE.one it)
  have hcpB : ∀ (W : World), (∀ x, W.cell? x = (W1.setCells w.heap.size (i * 4) (LE.enc it)).cell? x) → (∀ x, W.frozen? x = (W1.setCells w.heap.size (i * 4) (LE.enc it)).frozen? x) → ∀ ty dc sc, (Builtin.copy_ #[22, 22] ty #[.slice (some ⟨w.heap.size, (i + 1) * 4, none⟩) (n - i) dc, .slice (some ⟨g, i * 4, none⟩) (n - i) sc]).run Try.prog W = .ok (goInt ((n - i : Nat) : Int)) (W.setCells w.heap.size ((i + 1) * 4) cs) := fun W hWc hWf ty dc sc =>
    run_copy_items W ty w.heap.size ((i + 1) * 4) _ dc ⟨g, i * 4, none⟩ _ sc (n - i) cs (by simp) hcl
      (fun j v hj => by
        rw [Addr.add_lit, hWc, World.cell?_setCells_out _ _ _ _ _ (fun h _ => absurd h (by simp only; omega))]
        exact hU1.cell (hsrc j v hj) (by simp))
      (fun j hj => by rw [hWc]; exact isSome_setCells _ _ _ _ (fun t ht => hN _ (by have h3 : t < 4 := ht; omega)) _ (hN _ (by omega)))
      (fun j hj => by rw [hWf, World.frozen?_setCells]; exact hNf _) hone
  have HFIN : Hid (∀ W', W' = (((w.alloc (.cells ROW 49)).drew.setCells w.heap.size (i * 4) (LE.enc it)).drew).setCells w.heap.size ((i + 1) * 4) cs → G ≤ maxLen ∧ Held LE 49 W' w.heap.size G (l.take i ++ it :: l.drop i) ∧ Upd [] w W') := fun W' hW' => by
    subst hW'
    rw [drew_setCells]
    have hbR2 : ((w.alloc (.cells ROW 49)).drew.drew).heap[w.heap.size]? = some (.cells ROW 49 (0, 0)) := heap_alloc1 w _
    have hU2 : Upd [] w ((w.alloc (.cells ROW 49)).drew.drew) := (((Upd.refl [] w).alloc _).drew).drew
    refine ⟨hGm, ?_, ?_⟩
    · rw [hcs]
      exact ins_grow it hbR2 hRs hRt (by omega) (by omega)
    · rw [setCells_stores, setCells_stores]
      exact (hU2.new (stores_upd _ _ _ _) (Nat.le_refl _)).new (stores_upd _ _ _ _) (Nat.le_refl _)
  have hG63 : G ≤ 9223372036854775807 := hGm
  have HNN := Lib.hid hn
  subst hW1
  clear hold hall hsrc hs hs3 ht hg hH hROW hG hRs hRt hcs hone hik hGm hbR hU1 hN hNf hn hcl hz1' hz1 hz2 hz3 hzs hi0 hz0 hb hvb hkk
  have hE1 : ∀ x, ((w.alloc (.cells ROW 49)).drew).cell? x = (w.drew.alloc (.cells ROW 49)).cell? x := fun x => rfl
  have hE2 : ∀ x, ((w.alloc (.cells ROW 49)).drew).frozen? x = (w.drew.alloc (.cells ROW 49)).frozen? x := fun x => rfl
  have hF1 : ∀ x, (((w.alloc (.cells ROW 49)).drew.setCells w.heap.size (i * 4) (LE.enc it)).drew).cell? x = ((w.drew.alloc (.cells ROW 49)).setCells w.heap.size (i * 4) (LE.enc it)).cell? x := fun x => rfl
  have hF2 : ∀ x, (((w.alloc (.cells ROW 49)).drew.setCells w.heap.size (i * 4) (LE.enc it)).drew).frozen? x = ((w.drew.alloc (.cells ROW 49)).setCells w.heap.size (i * 4) (LE.enc it)).frozen? x := fun x => rfl
  have hw1 : IntKind.i64.wrap ((n : Int) + 1) = (n : Int) + 1 := by rw [IntKind.wrap_i64]; omega
  have hw2 : IntKind.i64.wrap ((i : Int) + 1) = (i : Int) + 1 := by rw [IntKind.wrap_i64]; omega
  have hw3 : IntKind.i64.wrap ((n : Int) + 1 - (i : Int)) = (n : Int) + 1 - (i : Int) := by rw [IntKind.wrap_i64]; omega
  have hin : i ≤ n := by omega
  have hz2 : ((i : Int) == (n : Int)) = false := by simp; omega
  have hz3 : decide ((cap : Int) < (n : Int) + 1) = true := by simp; omega
  have hic : i ≤ cap := by omega
  have hmx := mixed
  have hb1 : (0 : Int) ≤ (i : Int) + 1 := by omega
  have hb3 : (i : Int) ≤ (n : Int) + 1 := by omega
  have hb5 : i ≤ n + 1 := by omega
  have hb4 : ¬ cap = i := by omega
  have hG1 : ¬ G = i := by omega
  have hG2 : ¬ G = i + 1 := by omega
  go_enter Try.func53, Try.ntmps53
  go_wp2_with (first
    | (at_builtin; refine Lib.wpList_append_run _ rfl _ _ _ _ rfl _ _ rfl rfl _ _ (hrz _) ?_)
    | (at_builtin; refine wpList_copy_runI _ rfl _ _ 22 22 rfl _ _ rfl rfl (hcpA _ hE1 hE2 _ _) ?_)
    | (at_builtin; refine wpList_copy_runI _ rfl _ _ 22 22 rfl _ _ rfl rfl (hcpA _ (fun _ => rfl) (fun _ => rfl) _ _) ?_))
  go_region_law_o (refine step_copy_runI rfl _ _ 22 22 rfl (.slice (some ⟨w.heap.size, (i + 1) * 4, none⟩) (n - i) (G - (i + 1))) (.slice (some ⟨g, i * 4, none⟩) (n - i) (cap - i)) (by simp [Act.eval, Act.put]) (by simp [Act.eval, Act.put]) (hcpB _ hF1 hF2 3 (G - (i + 1)) (cap - i)) ?_)
  go_wp2_with fail
  go_ret
  exact ⟨G, rfl, HFIN.out _ rfl⟩
theorem SInsert_has (s : SlR En) (it : En) (p vb b0 : Nat) (w : World) (hp : p ≤ s.l.length) (ho : w.ownsRow b0 49 4 s.v s.l.length (LE.flat s.l)) (hl : s.l.length ≤ 100000)
    (hvb : w.heap[vb]? = some (.cells #[.int .i64 it.t, .int .i64 it.q, .int .i64 it.h, .bool it.d] 49 (0, 0))) (hne : s.v.ownBlock ≠ some vb) (hb : b0 ≤ w.heap.size) :
    Calls Try.prog 53 #[.slice s.ad s.l.length s.cap, .int .i64 p, .slice (some ⟨vb, 0, none⟩) 1 1] w (InsPost s it p b0 w) := by
  by_cases h : p = s.l.length
  · subst h
    exact SInsert_end s it vb b0 w ho hl hvb hb
  · obtain ⟨hnn, g, cap, ev, hbg, hheld⟩ := held_row (L := LE) ho (by omega)
    have hcm : cap ≤ maxLen := by rw [ev] at ho; exact own_cap ho
    rw [ev] at hne
    obtain ⟨sl, sa, sc⟩ := s
    simp only [SlR.v, Value.slice.injEq] at ev
    obtain ⟨rfl, _, rfl⟩ := ev
    simp only at hp hl hheld h hnn ⊢
    have hne2 : vb ≠ g := fun e => hne (by rw [e]; rfl)
    by_cases hroom : sl.length + 1 ≤ sc
    · refine (SInsert_shift g sc sl it p vb w (by omega) hroom hcm hl hheld hvb hne2).mono ?_
      rintro e w' ⟨rfl, rfl⟩
      have hH2 : Held LE 49 w.drew g sc sl := hheld.keep ((Upd.refl [] w).drew) (by simp)
      have h3 := ins_shift it hH2 (show p ≤ sl.length by omega) hroom
      refine ⟨⟨sl.take p ++ it :: sl.drop p, some ⟨g, 0, none⟩, sc⟩, ?_, rfl, held_own h3 hbg hcm, ?_⟩
      · simp only [ins_length sl it p hp]
      · rw [setCells_stores, setCells_stores]
        show Upd [g] w _
        exact (((Upd.refl [g] w).drew).trans (stores_upd _ _ _ _) (fun x hx _ => hx)).trans (stores_upd _ _ _ _) (fun x hx _ => hx)
    · refine (SInsert_grow g sc sl it p vb w (by omega) (by omega) hl hheld hvb).mono ?_
      rintro e w' ⟨G, rfl, hG2, h3, h4⟩
      refine ⟨⟨sl.take p ++ it :: sl.drop p, some ⟨w.heap.size, 0, none⟩, G⟩, ?_, rfl, held_own h3 hb hG2, h4.mono (by simp)⟩
      · simp only [ins_length sl it p hp]
end Go.Proofs.Ytpneljhplbkdkaa
