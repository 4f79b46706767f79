/- Contracts: the program's comparison of items. -/
/- Contract: slices.Insert over items, of one item into a row of the call's own. -/
/- Contract: slices.Insert over items, ahead of the end. -/
import Derived.Test.YtmfnfinbkdemkaaGreatNG
import Derived.Test.YtmfnfinbkdemkaaGreatPE
import Derived.Shelf.Spec.SlicesInsert
import Derived.Lib.AppendZerosOnto
import Derived.Laws.NewBlocks
namespace Go.Proofs.YtmfnfinbkdemkaaGreat
open Go.RowKit Go.Lib Go.Sort

set_option maxHeartbeats 400000 in
theorem isNaN_any (x : Int) (w : World) : Calls Tryz.prog 109 #[.int .i64 x] w fun e w' => e = .returned (.bool false) ∧ w = w' := by
  go_enter Tryz.func109, Tryz.ntmps109
  go_wp2
  go_ret
  exact ⟨by simp, rfl⟩
theorem cmpZ_lt {a b : Int} (h : a < b) : cmpZ a b = -1 := by simp [cmpZ, h]
theorem cmpZ_gt {a b : Int} (h : b < a) : cmpZ a b = 1 := by unfold cmpZ; rw [if_neg (by omega), if_pos h]
theorem cmpZ_self (a : Int) : cmpZ a a = 0 := by simp [cmpZ]
theorem cmpZ_zero {a b : Int} : cmpZ a b = 0 ↔ a = b := by
  unfold cmpZ
  constructor
  · intro h
    by_cases h1 : a < b
    · simp [h1] at h
    · by_cases h2 : b < a
      · simp [h1, h2] at h
      · omega
  · rintro rfl; simp
set_option maxHeartbeats 800000 in
theorem Compare_any (x y : Int) (w : World) : Calls Tryz.prog 77 #[.int .i64 x, .int .i64 y] w fun e w' => e = .returned (.int .i64 (cmpZ x y)) ∧ w = w' := by
  obtain ⟨r, hr⟩ : ∃ r, r = cmpZ x y := ⟨_, rfl⟩
  rw [← hr]
  have HR := Lib.hid hr
  clear hr
  rcases Int.lt_trichotomy x y with h | h | h
  · go_enter Tryz.func77, Tryz.ntmps77
    go_wp2_with fail
    refine (isNaN_any x _).mono ?_
    rintro e w' ⟨rfl, rfl⟩
    go_wp2_with fail
    refine (isNaN_any y _).mono ?_
    rintro e w' ⟨rfl, rfl⟩
    go_wp2_with fail
    go_ret
    exact ⟨ret_int (by rw [HR.out, cmpZ_lt h]), rfl⟩
  · subst h
    go_enter Tryz.func77, Tryz.ntmps77
    go_wp2_with fail
    refine (isNaN_any x _).mono ?_
    rintro e w' ⟨rfl, rfl⟩
    go_wp2_with fail
    refine (isNaN_any x _).mono ?_
    rintro e w' ⟨rfl, rfl⟩
    go_wp2_with fail
    go_ret
    exact ⟨ret_int (by rw [HR.out, cmpZ_self]), rfl⟩
  · have h2 : ¬ x < y := by omega
    go_enter Tryz.func77, Tryz.ntmps77
    go_wp2_with fail
    refine (isNaN_any x _).mono ?_
    rintro e w' ⟨rfl, rfl⟩
    go_wp2_with fail
    refine (isNaN_any y _).mono ?_
    rintro e w' ⟨rfl, rfl⟩
    go_wp2_with fail
    go_ret
    exact ⟨ret_int (by rw [HR.out, cmpZ_gt h]), rfl⟩
def lexZ (x y : Int) : Int := if x = 0 then y else x
set_option maxHeartbeats 1000000 in
theorem fd_pair (b : Nat) (x y : Int) (w : World) (h : w.heap[b]? = some (.cells #[.int .i64 x, .int .i64 y] 3 (0, 0))) :
    Calls Tryz.prog 76 #[.slice (some ⟨b, 0, none⟩) 2 2] w fun e w' => e = .returned (.int .i64 (lexZ x y)) ∧ w = w' := by
  obtain ⟨r, hr⟩ : ∃ r, r = lexZ x y := ⟨_, rfl⟩
  rw [← hr]
  have HR := Lib.hid hr
  have c0 := cell_block h 0
  have c1 := cell_block h 1
  simp only [List.getElem?_toArray, List.getElem?_cons_zero, List.getElem?_cons_succ] at c0 c1
  clear hr h
  go_enter Tryz.func76, Tryz.ntmps76
  go_wp2_with fail
  go_loopg [7] 2 (fun gk vi wr => ∃ k : Nat, vi = .int .i64 k ∧ k + gk = 2 ∧ Hid ((1 ≤ k → x = 0) ∧ (2 ≤ k → y = 0)) ∧ w = wr)
  case atStart => exact ⟨0, rfl, by omega, ⟨fun h => by omega, fun h => by omega⟩, rfl⟩
  case round =>
    obtain ⟨k, rfl, hkg, HK, rfl⟩ := hrel
    by_cases h0 : k = 0
    · subst h0
      by_cases hx0 : x = 0
      · have HX := Lib.hid hx0
        have hz : (x == 0) = true := by simp [hx0]
        clear hx0
        go_wp2_with fail
        go_roundg (gk - 1)
        case measure => omega
        case rel => exact ⟨1, by go_num, by omega, ⟨fun _ => HX.out, fun h => by omega⟩, rfl⟩
      · have hz : (x == 0) = false := by rw [beq_eq_false_iff_ne]; exact hx0
        go_wp2_with fail
        go_ret
        exact ⟨ret_int (by rw [HR.out, lexZ, if_neg hx0]), rfl⟩
    · by_cases h1 : k = 1
      · subst h1
        by_cases hx0 : y = 0
        · have HX := Lib.hid hx0
          have hz : (y == 0) = true := by simp [hx0]
          clear hx0
          go_wp2_with fail
          go_roundg (gk - 1)
          case measure => omega
          case rel => exact ⟨2, by go_num, by omega, ⟨fun _ => HK.out.1 (by omega), fun h => HX.out⟩, rfl⟩
        · have hz : (y == 0) = false := by rw [beq_eq_false_iff_ne]; exact hx0
          have HX := Lib.hid (HK.out.1 (by omega))
          go_wp2_with fail
          go_ret
          exact ⟨ret_int (by rw [HR.out, lexZ, if_pos HX.out]), rfl⟩
      · obtain rfl : k = 2 := by omega
        go_wp2_with fail
        go_ret
        exact ⟨ret_int (by rw [HR.out, lexZ, if_pos (HK.out.1 (by omega)), HK.out.2 (by omega)]), rfl⟩
theorem cmpI_lex (x y : It) : cmpI x y = lexZ (cmpZ x.t y.t) (cmpZ x.q y.q) := by
  rw [cmpI_eq, lexZ]
  by_cases h : x.t = y.t
  · rw [if_pos h, if_pos (cmpZ_zero.2 h)]
  · rw [if_neg h, if_neg (fun e => h (cmpZ_zero.1 e))]
set_option maxHeartbeats 4000000 in
set_option maxRecDepth 100000 in
theorem CompareItems_any (i j : It) (w : World) :
    Calls Tryz.prog 49 #[aggI i, aggI j] w fun e w' => e = .returned (.int .i64 (cmpI i j)) ∧ Grown w w' := by
  rw [cmpI_lex]
  obtain ⟨t1, s1, q1⟩ := i
  obtain ⟨t2, s2, q2⟩ := j
  unfold aggI
  simp only
  have h1 := Compare_any
  have h3 := fd_pair
  generalize cmpZ = ci at *
  generalize lexZ = lx at *
  have H1 := Lib.hid h1; have H3 := Lib.hid h3
  clear h1 h3
  go_enter Tryz.func49, Tryz.ntmps49
  go_wp2_with fail
  have hg : Grown w ((w.alloc (.cells #[.int .i64 t1, .int .i64 s1, .int .i64 q1] 36)).alloc (.cells #[.int .i64 t2, .int .i64 s2, .int .i64 q2] 36)) := ((Grown.refl w).alloc _).alloc _
  have hb1 := ((Upd.refl [] (w.alloc (.cells #[.int .i64 t1, .int .i64 s1, .int .i64 q1] 36))).alloc (.cells #[.int .i64 t2, .int .i64 s2, .int .i64 q2] 36)).at (heap_alloc1 w _) (by simp)
  have hb2 := heap_alloc2 w (.cells #[.int .i64 t1, .int .i64 s1, .int .i64 q1] 36) (.cells #[.int .i64 t2, .int .i64 s2, .int .i64 q2] 36)
  generalize ((w.alloc (.cells #[.int .i64 t1, .int .i64 s1, .int .i64 q1] 36)).alloc (.cells #[.int .i64 t2, .int .i64 s2, .int .i64 q2] 36)) = wq at *
  have a0 := cell_block hb1 0
  have a1 := cell_block hb1 1
  have b0 := cell_block hb2 0
  have b1 := cell_block hb2 1
  simp only [List.getElem?_toArray, List.getElem?_cons_zero, List.getElem?_cons_succ] at a0 a1 b0 b1
  have H4 : Hid (∀ x y : Int, Calls Tryz.prog 76 #[.slice (some ⟨wq.heap.size, 0, none⟩) 2 2] (wq.alloc (.cells #[.int .i64 x, .int .i64 y] 3)).drew fun e w' => e = .returned (.int .i64 (lx x y)) ∧ (wq.alloc (.cells #[.int .i64 x, .int .i64 y] 3)).drew = w') := fun x y => H3.out wq.heap.size x y _ (heap_alloc1 wq _)
  have HG := Lib.hid hg
  clear hg hb1 hb2
  go_region_held3 (fun wz => wz.cell? ⟨w.heap.size, 0, none⟩ = some (.int .i64 t1) ∧ wz.cell? ⟨w.heap.size, 1, none⟩ = some (.int .i64 s1) ∧ wz.cell? ⟨w.heap.size + 1, 0, none⟩ = some (.int .i64 t2) ∧ wz.cell? ⟨w.heap.size + 1, 1, none⟩ = some (.int .i64 s2)) (first | exact ⟨a0, a1, b0, b1⟩ | exact ⟨((Upd.refl [] wq).alloc _).drew.cell a0 (by simp), ((Upd.refl [] wq).alloc _).drew.cell a1 (by simp), ((Upd.refl [] wq).alloc _).drew.cell b0 (by simp), ((Upd.refl [] wq).alloc _).drew.cell b1 (by simp)⟩) (first | (go_at_call 77; refine (H1.out _ _ _).mono ?_; rintro e w' ⟨rfl, rfl⟩) | (go_at_call 76; refine (H4.out _ _).mono ?_; rintro e w' ⟨rfl, rfl⟩))
  all_goals go_wp2_with fail
  all_goals go_ret
  all_goals exact ⟨rfl, (HG.out.alloc _).drew⟩
end Go.Proofs.YtmfnfinbkdemkaaGreat
namespace Go.Proofs.YtmfnfinbkdemkaaGreat
open Go.RowKit Go.Lib

def InsPost (s : SlR It) (it : It) (i b0 : Nat) (w : World) (e : Ending) (w' : World) : Prop := ∃ s' : SlR It, e = .returned (.slice s'.ad s'.l.length s'.cap) ∧ s'.l = s.l.take i ++ it :: s.l.drop i ∧ HasS LI w' s' ∧ (∀ b, b < b0 → AvS s' b) ∧ Upd s.v.ownBlock.toList w w'
set_option maxRecDepth 100000 in
set_option maxHeartbeats 4000000 in
theorem SInsert_end (s : SlR It) (it : It) (vb b0 : Nat) (w : World) (ho : w.ownsRow b0 36 3 s.v s.l.length (LI.flat s.l)) (hl : s.l.length ≤ 100000)
    (hvb : w.heap[vb]? = some (.cells #[.int .i64 it.t, .int .i64 it.q, .int .i64 it.s] 36 (0, 0))) (hb : b0 ≤ w.heap.size) :
    Calls Tryz.prog 81 #[.slice s.ad s.l.length s.cap, .int .i64 s.l.length, .slice (some ⟨vb, 0, none⟩) 1 1] w (InsPost s it s.l.length b0 w) := by
  have hle := (has_own ho).le
  have HRO := Lib.hid (row_one hvb)
  have HFN : Hid (∀ va vc W, W.ownsRow b0 36 3 (.slice va (s.l.length + 1) vc) (s.l.length + 1) (LI.flat (s.l ++ [it])) → w.grownBy W s.v.ownBlock → InsPost s it s.l.length b0 w (.returned (.slice va (s.l.length + 1) vc)) W) := fun va vc W h1 h2 => by
    have e : (s.l ++ [it]).length = s.l.length + 1 := by simp
    have h3 : W.ownsRow b0 36 3 (SlR.v ⟨s.l ++ [it], va, vc⟩) (s.l ++ [it]).length (LI.flat (s.l ++ [it])) := by simp only [SlR.v]; rw [e]; exact h1
    exact ⟨⟨s.l ++ [it], va, vc⟩, by simp only [e], by simp, has_own h3, fun b hb => av_own h3 hb, upd_grown h2⟩
  obtain ⟨l, sa, sc⟩ := s
  simp only [SlR.v] at ho hl hle HFN ⊢
  have HO := Lib.hid ho
  generalize hn : l.length = n at *
  clear ho hvb
  have hz : ((n : Int) == (n : Int)) = true := by simp
  by_cases hsc : sc = n
  · have hsc2 : n = sc := hsc.symm
    subst hsc2
    clear hsc
    go_enter Tryz.func81, Tryz.ntmps81
    go_wp2_with (at_builtin; refine app_row tyI rfl _ _ rfl b0 (.slice sa n _) n l rfl HO.out (some ⟨vb, 0, none⟩) 1 1 [it] rfl rfl HRO.out (fun e => by simp at e) (by omega) hb ?_; intro v' w1 hown hgrow)
    obtain ⟨va, vc, rfl⟩ := row_shape hown
    have HG := Lib.hid (HFN.out va vc w1 hown hgrow)
    clear hown hgrow
    go_wp2_with fail
    go_ret
    exact HG.out
  · have hsc2 : ¬ n = sc := fun e => hsc e.symm
    go_enter Tryz.func81, Tryz.ntmps81
    go_wp2_with (at_builtin; refine app_row tyI rfl _ _ rfl b0 (.slice sa n _) n l rfl HO.out (some ⟨vb, 0, none⟩) 1 1 [it] rfl rfl HRO.out (fun e => by simp at e) (by omega) hb ?_; intro v' w1 hown hgrow)
    obtain ⟨va, vc, rfl⟩ := row_shape hown
    have HG := Lib.hid (HFN.out va vc w1 hown hgrow)
    clear hown hgrow
    go_wp2_with fail
    go_ret
    exact HG.out
end Go.Proofs.YtmfnfinbkdemkaaGreat
namespace Go.Proofs.YtmfnfinbkdemkaaGreat
open Go.RowKit Go.Lib

theorem setCells_stores (g : Nat) : ∀ (vs : List Value) (o : Nat) (w : World), w.setCells g o vs = stores w g o vs
  | [], _, _ => rfl
  | v :: vs, o, w => by rw [World.setCells, stores, setCells_stores g vs]
theorem Lay.flat_take {α : Type} (L : Lay α) (l : List α) (i : Nat) (hi : i ≤ l.length) : (L.flat l).take (i * L.k) = L.flat (l.take i) := by
  have h : L.flat l = L.flat (l.take i) ++ L.flat (l.drop i) := by rw [← L.flat_append, List.take_append_drop]
  have hl : (L.flat (l.take i)).length = i * L.k := by rw [L.flat_length, List.length_take, Nat.min_eq_left hi]
  rw [h, ← hl, List.take_left]
theorem Lay.flat_drop {α : Type} (L : Lay α) (l : List α) (i : Nat) (hi : i ≤ l.length) : (L.flat l).drop (i * L.k) = L.flat (l.drop i) := by
  have h : L.flat l = L.flat (l.take i) ++ L.flat (l.drop i) := by rw [← L.flat_append, List.take_append_drop]
  have hl : (L.flat (l.take i)).length = i * L.k := by rw [L.flat_length, List.length_take, Nat.min_eq_left hi]
  rw [h, ← hl, List.drop_left]
theorem flat_ins (l : List It) (it : It) (i : Nat) : LI.flat (l.take i ++ it :: l.drop i) = LI.flat (l.take i) ++ LI.enc it ++ LI.flat (l.drop i) := by
  rw [LI.flat_append, LI.flat_cons, List.append_assoc]
theorem ins_length (l : List It) (it : It) (i : Nat) (hi : i ≤ l.length) : (l.take i ++ it :: l.drop i).length = l.length + 1 := by simp; omega
theorem held_of {w : World} {g cap : Nat} {l : List It} {it : It} {i : Nat} {c : Array Value} {rest : List Value} (hb : w.heap[g]? = some (.cells c 36 (0, 0))) (hs : c.size = cap * 3) (hi : i ≤ l.length) (hc : l.length + 1 ≤ cap) (ht : c.toList = LI.flat (l.take i) ++ LI.enc it ++ LI.flat (l.drop i) ++ rest) : Held LI 36 w g cap (l.take i ++ it :: l.drop i) := by
  refine ⟨⟨c, hb, hs, ?_⟩, by rw [ins_length l it i hi]; exact hc⟩
  rw [← LI.flat_length, flat_ins, ht, List.take_left]
theorem ins_shift {w : World} {g cap : Nat} {l : List It} {i : Nat} (it : It) (h : Held LI 36 w g cap l) (hi : i ≤ l.length) (hc : l.length + 1 ≤ cap) :
    Held LI 36 ((w.setCells g ((i + 1) * 3) (LI.flat (l.drop i))).setCells g (i * 3) (LI.enc it)) g cap (l.take i ++ it :: l.drop i) := by
  obtain ⟨cur, h1, h2, h3⟩ := h.ex
  have hk : LI.k = 3 := rfl
  rw [hk] at h2 h3
  have hd : (LI.flat (l.drop i)).length = (l.length - i) * 3 := by rw [LI.flat_length, List.length_drop]; rfl
  have hsz : cur.toList.length = cap * 3 := by simp [h2]
  rw [setCells_stores, setCells_stores]
  obtain ⟨c1, q1, q2⟩ := stores_block (LI.flat (l.drop i)) (o := (i + 1) * 3) h1 (by rw [hd, h2]; omega)
  have l1 : c1.toList.length = cap * 3 := by
    rw [q2]; simp only [List.length_append, List.length_take, List.length_drop, hsz, hd]; omega
  obtain ⟨c2, p1, p2⟩ := stores_block (LI.enc it) (o := i * 3) q1 (by rw [LI.len, hk]; simp at l1; omega)
  have l2 : c2.toList.length = cap * 3 := by
    rw [p2]; simp only [List.length_append, List.length_take, List.length_drop, l1, LI.len, hk]; omega
  refine held_of (rest := cur.toList.drop ((i + 1) * 3 + (LI.flat (l.drop i)).length)) p1 (by simpa using l2) hi hc ?_
  have hta : (cur.toList.take ((i + 1) * 3)).length = (i + 1) * 3 := by rw [List.length_take, hsz]; omega
  have e1 : c1.toList.take (i * 3) = LI.flat (l.take i) := by
    rw [q2, List.append_assoc, List.take_append_of_le_length (by rw [hta]; omega), List.take_take, Nat.min_eq_left (by omega)]
    have : cur.toList.take (i * 3) = (cur.toList.take (l.length * 3)).take (i * 3) := by rw [List.take_take, Nat.min_eq_left (by omega)]
    rw [this, h3]
    exact LI.flat_take l i hi
  have e2 : c1.toList.drop (i * 3 + (LI.enc it).length) = LI.flat (l.drop i) ++ cur.toList.drop ((i + 1) * 3 + (LI.flat (l.drop i)).length) := by
    rw [LI.len, hk, show i * 3 + 3 = (cur.toList.take ((i + 1) * 3)).length by rw [hta]; omega, q2, List.append_assoc, List.drop_left]
  rw [p2, e1, e2]
  simp [List.append_assoc]
theorem ins_grow {W : World} {g G : Nat} {l : List It} {i : Nat} {ROW : Array Value} (it : It) (hb : W.heap[g]? = some (.cells ROW 36 (0, 0))) (hs : ROW.size = G * 3) (ht : ROW.toList.take (i * 3) = LI.flat (l.take i)) (hi : i ≤ l.length) (hc : l.length + 1 ≤ G) :
    Held LI 36 ((W.setCells g (i * 3) (LI.enc it)).setCells g ((i + 1) * 3) (LI.flat (l.drop i))) g G (l.take i ++ it :: l.drop i) := by
  have hk : LI.k = 3 := rfl
  have hd : (LI.flat (l.drop i)).length = (l.length - i) * 3 := by rw [LI.flat_length, List.length_drop]; rfl
  have hsz : ROW.toList.length = G * 3 := by simp [hs]
  rw [setCells_stores, setCells_stores]
  obtain ⟨c1, q1, q2⟩ := stores_block (LI.enc it) (o := i * 3) hb (by rw [LI.len, hk, hs]; omega)
  have l1 : c1.toList.length = G * 3 := by
    rw [q2]; simp only [List.length_append, List.length_take, List.length_drop, hsz, LI.len, hk]; omega
  obtain ⟨c2, p1, p2⟩ := stores_block (LI.flat (l.drop i)) (o := (i + 1) * 3) q1 (by rw [hd]; simp at l1; omega)
  have l2 : c2.toList.length = G * 3 := by
    rw [p2]; simp only [List.length_append, List.length_take, List.length_drop, l1, hd]; omega
  refine held_of (rest := c1.toList.drop ((i + 1) * 3 + (LI.flat (l.drop i)).length)) p1 (by simpa using l2) hi hc ?_
  have hta : (ROW.toList.take (i * 3) ++ LI.enc it).length = (i + 1) * 3 := by rw [List.length_append, List.length_take, hsz, LI.len, hk]; omega
  have e1 : c1.toList.take ((i + 1) * 3) = LI.flat (l.take i) ++ LI.enc it := by
    rw [q2, ← hta, List.take_left, ht]
  rw [p2, e1]
theorem run_copy_items (w : World) (ty : TypeId) (b o dLen dCap : Nat) (a : Addr) (sLen sCap m : Nat) (cs : List Value) (hm : Nat.min sLen dLen = m) (hn : cs.length = m * 3)
    (hsrc : ∀ j v, cs[j]? = some v → w.cell? (a.add j) = some v) (hc : ∀ j, j < cs.length → (w.cell? ⟨b, o + j, none⟩).isSome = true) (hf : ∀ j, j < cs.length → w.frozen? ⟨b, o + j, none⟩ = false) (h1 : ∀ v ∈ cs, v.oneCell' = true) :
    (Builtin.copy_ #[47, 47] ty #[.slice (some ⟨b, o, none⟩) dLen dCap, .slice (some a) sLen sCap]).run Tryz.prog w = .ok (goInt m) (w.setCells b o cs) := by
  have hl := run_loadCells_list (P := Tryz.prog) w a cs hsrc
  have hst := run_storeCells_cells (P := Tryz.prog) b o cs 0 w (by simpa using hc) (by simpa using hf) h1
  obtain ⟨i, h2, h3, h4, h5⟩ := info_parts infoItem
  simp [Builtin.copy_, run_underlying Tryz.underlying47, Builtin.lenOf, Builtin.firstCells, sizeOf, typeInfo, h2, h4, hm, ← hn, hl, hst]
end Go.Proofs.YtmfnfinbkdemkaaGreat
