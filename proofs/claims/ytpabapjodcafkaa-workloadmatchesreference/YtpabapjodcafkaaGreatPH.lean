/- Contract: slices.Insert over items, of one item into a row of the call's own. -/
/- Contract: slices.Insert over items, ahead of the end. -/
import Derived.Test.YtpabapjodcafkaaGreatPA
import Derived.Shelf.Spec.SlicesInsert
import Derived.Lib.AppendZerosOnto
import Derived.Laws.NewBlocks
namespace Go.Proofs.YtpabapjodcafkaaGreat
open Go.RowKit Go.Lib

def InsPost (s : SlR It) (it : It) (i b0 : Nat) (w : World) (e : Ending) (w' : World) : Prop := ∃ s' : SlR It, e = .returned (.slice s'.ad s'.l.length s'.cap) ∧ s'.l = s.l.take i ++ it :: s.l.drop i ∧ HasS LI w' s' ∧ (∀ b, b < b0 → AvS s' b) ∧ Upd s.v.ownBlock.toList w w'
set_option maxRecDepth 100000 in
set_option maxHeartbeats 4000000 in
theorem SInsert_end (s : SlR It) (it : It) (vb b0 : Nat) (w : World) (ho : w.ownsRow b0 38 3 s.v s.l.length (LI.flat s.l)) (hl : s.l.length ≤ 100000)
    (hvb : w.heap[vb]? = some (.cells #[.int .i64 it.t, .int .i64 it.q, .int .i64 it.s] 38 (0, 0))) (hb : b0 ≤ w.heap.size) :
    Calls Tryz.prog 36 #[.slice s.ad s.l.length s.cap, .int .i64 s.l.length, .slice (some ⟨vb, 0, none⟩) 1 1] w (InsPost s it s.l.length b0 w) := by
  have hle := (has_own ho).le
  have HRO := Lib.hid (row_one hvb)
  have HFN : Hid (∀ va vc W, W.ownsRow b0 38 3 (.slice va (s.l.length + 1) vc) (s.l.length + 1) (LI.flat (s.l ++ [it])) → w.grownBy W s.v.ownBlock → InsPost s it s.l.length b0 w (.returned (.slice va (s.l.length + 1) vc)) W) := fun va vc W h1 h2 => by
    have e : (s.l ++ [it]).length = s.l.length + 1 := by simp
    have h3 : W.ownsRow b0 38 3 (SlR.v ⟨s.l ++ [it], va, vc⟩) (s.l ++ [it]).length (LI.flat (s.l ++ [it])) := by simp only [SlR.v]; rw [e]; exact h1
    exact ⟨⟨s.l ++ [it], va, vc⟩, by simp only [e], by simp, has_own h3, fun b hb => av_own h3 hb, upd_grown h2⟩
  obtain ⟨l, sa, sc⟩ := s
  simp only [SlR.v] at ho hl hle HFN ⊢
  have HO := Lib.hid ho
  generalize hn : l.length = n at *
  clear ho hvb
  have hz : ((n : Int) == (n : Int)) = true := by simp
  by_cases hsc : sc = n
  · have hsc2 : n = sc := hsc.symm
    subst hsc2
    clear hsc
    go_enter Tryz.func36, Tryz.ntmps36
    go_wp2_with (at_builtin; refine app_row tyI rfl _ _ rfl b0 (.slice sa n _) n l rfl HO.out (some ⟨vb, 0, none⟩) 1 1 [it] rfl rfl HRO.out (fun e => by simp at e) (by omega) hb ?_; intro v' w1 hown hgrow)
    obtain ⟨va, vc, rfl⟩ := row_shape hown
    have HG := Lib.hid (HFN.out va vc w1 hown hgrow)
    clear hown hgrow
    go_wp2_with fail
    go_ret
    exact HG.out
  · have hsc2 : ¬ n = sc := fun e => hsc e.symm
    go_enter Tryz.func36, Tryz.ntmps36
    go_wp2_with (at_builtin; refine app_row tyI rfl _ _ rfl b0 (.slice sa n _) n l rfl HO.out (some ⟨vb, 0, none⟩) 1 1 [it] rfl rfl HRO.out (fun e => by simp at e) (by omega) hb ?_; intro v' w1 hown hgrow)
    obtain ⟨va, vc, rfl⟩ := row_shape hown
    have HG := Lib.hid (HFN.out va vc w1 hown hgrow)
    clear hown hgrow
    go_wp2_with fail
    go_ret
    exact HG.out
end Go.Proofs.YtpabapjodcafkaaGreat
namespace Go.Proofs.YtpabapjodcafkaaGreat
open Go.RowKit Go.Lib

theorem setCells_stores (g : Nat) : ∀ (vs : List Value) (o : Nat) (w : World), w.setCells g o vs = stores w g o vs
  | [], _, _ => rfl
  | v :: vs, o, w => by rw [World.setCells, stores, setCells_stores g vs]
theorem Lay.flat_take {α : Type} (L : Lay α) (l : List α) (i : Nat) (hi : i ≤ l.length) : (L.flat l).take (i * L.k) = L.flat (l.take i) := by
  have h : L.flat l = L.flat (l.take i) ++ L.flat (l.drop i) := by rw [← L.flat_append, List.take_append_drop]
  have hl : (L.flat (l.take i)).length = i * L.k := by rw [L.flat_length, List.length_take, Nat.min_eq_left hi]
  rw [h, ← hl, List.take_left]
theorem Lay.flat_drop {α : Type} (L : Lay α) (l : List α) (i : Nat) (hi : i ≤ l.length) : (L.flat l).drop (i * L.k) = L.flat (l.drop i) := by
  have h : L.flat l = L.flat (l.take i) ++ L.flat (l.drop i) := by rw [← L.flat_append, List.take_append_drop]
  have hl : (L.flat (l.take i)).length = i * L.k := by rw [L.flat_length, List.length_take, Nat.min_eq_left hi]
  rw [h, ← hl, List.drop_left]
theorem flat_ins (l : List It) (it : It) (i : Nat) : LI.flat (l.take i ++ it :: l.drop i) = LI.flat (l.take i) ++ LI.enc it ++ LI.flat (l.drop i) := by
  rw [LI.flat_append, LI.flat_cons, List.append_assoc]
theorem ins_length (l : List It) (it : It) (i : Nat) (hi : i ≤ l.length) : (l.take i ++ it :: l.drop i).length = l.length + 1 := by simp; omega
theorem held_of {w : World} {g cap : Nat} {l : List It} {it : It} {i : Nat} {c : Array Value} {rest : List Value} (hb : w.heap[g]? = some (.cells c 38 (0, 0))) (hs : c.size = cap * 3) (hi : i ≤ l.length) (hc : l.length + 1 ≤ cap) (ht : c.toList = LI.flat (l.take i) ++ LI.enc it ++ LI.flat (l.drop i) ++ rest) : Held LI 38 w g cap (l.take i ++ it :: l.drop i) := by
  refine ⟨⟨c, hb, hs, ?_⟩, by rw [ins_length l it i hi]; exact hc⟩
  rw [← LI.flat_length, flat_ins, ht, List.take_left]
theorem ins_shift {w : World} {g cap : Nat} {l : List It} {i : Nat} (it : It) (h : Held LI 38 w g cap l) (hi : i ≤ l.length) (hc : l.length + 1 ≤ cap) :
    Held LI 38 ((w.setCells g ((i + 1) * 3) (LI.flat (l.drop i))).setCells g (i * 3) (LI.enc it)) g cap (l.take i ++ it :: l.drop i) := by
  obtain ⟨cur, h1, h2, h3⟩ := h.ex
  have hk : LI.k = 3 := rfl
  rw [hk] at h2 h3
  have hd : (LI.flat (l.drop i)).length = (l.length - i) * 3 := by rw [LI.flat_length, List.length_drop]; rfl
  have hsz : cur.toList.length = cap * 3 := by simp [h2]
  rw [setCells_stores, setCells_stores]
  obtain ⟨c1, q1, q2⟩ := stores_block (LI.flat (l.drop i)) (o := (i + 1) * 3) h1 (by rw [hd, h2]; omega)
  have l1 : c1.toList.length = cap * 3 := by
    rw [q2]; simp only [List.length_append, List.length_take, List.length_drop, hsz, hd]; omega
  obtain ⟨c2, p1, p2⟩ := stores_block (LI.enc it) (o := i * 3) q1 (by rw [LI.len, hk]; simp at l1; omega)
  have l2 : c2.toList.length = cap * 3 := by
    rw [p2]; simp only [List.length_append, List.length_take, List.length_drop, l1, LI.len, hk]; omega
  refine held_of (rest := cur.toList.drop ((i + 1) * 3 + (LI.flat (l.drop i)).length)) p1 (by simpa using l2) hi hc ?_
  have hta : (cur.toList.take ((i + 1) * 3)).length = (i + 1) * 3 := by rw [List.length_take, hsz]; omega
  have e1 : c1.toList.take (i * 3) = LI.flat (l.take i) := by
    rw [q2, List.append_assoc, List.take_append_of_le_length (by rw [hta]; omega), List.take_take, Nat.min_eq_left (by omega)]
    have : cur.toList.take (i * 3) = (cur.toList.take (l.length * 3)).take (i * 3) := by rw [List.take_take, Nat.min_eq_left (by omega)]
    rw [this, h3]
    exact LI.flat_take l i hi
  have e2 : c1.toList.drop (i * 3 + (LI.enc it).length) = LI.flat (l.drop i) ++ cur.toList.drop ((i + 1) * 3 + (LI.flat (l.drop i)).length) := by
    rw [LI.len, hk, show i * 3 + 3 = (cur.toList.take ((i + 1) * 3)).length by rw [hta]; omega, q2, List.append_assoc, List.drop_left]
  rw [p2, e1, e2]
  simp [List.append_assoc]
theorem ins_grow {W : World} {g G : Nat} {l : List It} {i : Nat} {ROW : Array Value} (it : It) (hb : W.heap[g]? = some (.cells ROW 38 (0, 0))) (hs : ROW.size = G * 3) (ht : ROW.toList.take (i * 3) = LI.flat (l.take i)) (hi : i ≤ l.length) (hc : l.length + 1 ≤ G) :
    Held LI 38 ((W.setCells g (i * 3) (LI.enc it)).setCells g ((i + 1) * 3) (LI.flat (l.drop i))) g G (l.take i ++ it :: l.drop i) := by
  have hk : LI.k = 3 := rfl
  have hd : (LI.flat (l.drop i)).length = (l.length - i) * 3 := by rw [LI.flat_length, List.length_drop]; rfl
  have hsz : ROW.toList.length = G * 3 := by simp [hs]
  rw [setCells_stores, setCells_stores]
  obtain ⟨c1, q1, q2⟩ := stores_block (LI.enc it) (o := i * 3) hb (by rw [LI.len, hk, hs]; omega)
  have l1 : c1.toList.length = G * 3 := by
    rw [q2]; simp only [List.length_append, List.length_take, List.length_drop, hsz, LI.len, hk]; omega
  obtain ⟨c2, p1, p2⟩ := stores_block (LI.flat (l.drop i)) (o := (i + 1) * 3) q1 (by rw [hd]; simp at l1; omega)
  have l2 : c2.toList.length = G * 3 := by
    rw [p2]; simp only [List.length_append, List.length_take, List.length_drop, l1, hd]; omega
  refine held_of (rest := c1.toList.drop ((i + 1) * 3 + (LI.flat (l.drop i)).length)) p1 (by simpa using l2) hi hc ?_
  have hta : (ROW.toList.take (i * 3) ++ LI.enc it).length = (i + 1) * 3 := by rw [List.length_append, List.length_take, hsz, LI.len, hk]; omega
  have e1 : c1.toList.take ((i + 1) * 3) = LI.flat (l.take i) ++ LI.enc it := by
    rw [q2, ← hta, List.take_left, ht]
  rw [p2, e1]
theorem run_copy_items (w : World) (ty : TypeId) (b o dLen dCap : Nat) (a : Addr) (sLen sCap m : Nat) (cs : List Value) (hm : Nat.min sLen dLen = m) (hn : cs.length = m * 3)
    (hsrc : ∀ j v, cs[j]? = some v → w.cell? (a.add j) = some v) (hc : ∀ j, j < cs.length → (w.cell? ⟨b, o + j, none⟩).isSome = true) (hf : ∀ j, j < cs.length → w.frozen? ⟨b, o + j, none⟩ = false) (h1 : ∀ v ∈ cs, v.oneCell' = true) :
    (Builtin.copy_ #[26, 26] ty #[.slice (some ⟨b, o, none⟩) dLen dCap, .slice (some a) sLen sCap]).run Tryz.prog w = .ok (goInt m) (w.setCells b o cs) := by
  have hl := run_loadCells_list (P := Tryz.prog) w a cs hsrc
  have hst := run_storeCells_cells (P := Tryz.prog) b o cs 0 w (by simpa using hc) (by simpa using hf) h1
  obtain ⟨i, h2, h3, h4, h5⟩ := info_parts infoItem
  simp [Builtin.copy_, run_underlying Tryz.underlying26, Builtin.lenOf, Builtin.firstCells, sizeOf, typeInfo, h2, h4, hm, ← hn, hl, hst]
end Go.Proofs.YtpabapjodcafkaaGreat
