/- Contract: the reference's with. -/
import Derived.Test.YthpofcomlidoiaaCC
namespace Go.Proofs.Ythpofcomlidoiaa
open Go.RowKit Go.Lib

/-- append of slots to a row of the call's own. -/
theorem app_slots {w : World} {ops : Array Oper} {rest : List Oper} {o : Oper} {a : Act} {Q : Exit → Act → World → Prop} (hgd : o.guard = none) (s x : Operand)
    (ho : o.op = .call { callee := .builtin .append, args := #[s, x], argTypes := #[22, 22] })
    (base : Nat) (v : Value) (n : Nat) (xs : List Sl) (hs : a.eval s = v) (hown : w.ownsRow base 44 4 v n (flatS xs))
    (ad : Addr) (m c : Nat) (ys : List Sl) (hx : a.eval x = .slice (some ad) m c) (hm : ys.length = m) (hc : ∀ t u, (flatS ys)[t]? = some u → w.cell? (ad.add t) = some u) (hn : n + m ≤ 1000000) (hbase : base ≤ w.heap.size)
    (h : ∀ v' w', w'.ownsRow base 44 4 v' (n + m) (flatS (xs ++ ys)) → w.grownBy w' v.ownBlock → wpList Try.prog ops Q rest (a.put o.dst v') w') :
    wpList Try.prog ops Q (o :: rest) a w := by
  obtain ⟨i0, hi0, hz0, hz1, hz2⟩ := info_parts infoSlot
  refine wpList_append_own _ hgd s x 22 ho base 44 i0 _ 4 32 Try.underlying22 hi0 hz0 hz1 hz2 rfl (by decide) v n _ hs hown ad m c (flatS ys) hx (by rw [flatS_length, hm]) hc (flatS_one ys) (by simp [maxLen]; omega) (by omega) hbase ?_
  intro v' w' h1 h2 _
  exact h v' w' (by rw [flatS_append]; exact h1) h2

theorem grownBy_refl (w : World) (row : Option Nat) : w.grownBy w row := ⟨rfl, rfl, rfl, Nat.le_refl _, fun _ _ _ => rfl⟩
/-- append of a whole slice of ints to an empty row of the call's own. -/
theorem app_copy {w : World} {ops : Array Oper} {rest : List Oper} {o : Oper} {a : Act} {Q : Exit → Act → World → Prop} (hgd : o.guard = none) (s x : Operand)
    (ho : o.op = .call { callee := .builtin .append, args := #[s, x], argTypes := #[23, 23] })
    (base : Nat) (v : Value) (hs : a.eval s = v) (hown : w.ownsRow base 3 1 v 0 [])
    (ia : Option Addr) (m c : Nat) (ys : List Int) (hx : a.eval x = .slice ia m c) (hm : ys.length = m) (hc : Ints w ia ys) (hnil : ia = none → c = 0) (hn : m ≤ 1000000) (hbase : base ≤ w.heap.size)
    (h : ∀ v' w', w'.ownsRow base 3 1 v' m (ys.map (Value.int .i64)) → w.grownBy w' v.ownBlock → wpList Try.prog ops Q rest (a.put o.dst v') w') :
    wpList Try.prog ops Q (o :: rest) a w := by
  obtain ⟨i0, hi0, hz0, hz1, hz2⟩ := info_parts infoInt
  cases ia with
  | none =>
    have e := ints_none hc
    subst e
    obtain rfl := hnil rfl
    obtain rfl : m = 0 := by simpa using hm.symm
    exact wpList_append_own_none hgd s x 23 ho base 3 i0 1 Try.underlying23 hi0 v 0 _ hs hown hx (h v w hown (grownBy_refl _ _))
  | some ad =>
    refine wpList_append_own _ hgd s x 23 ho base 3 i0 _ 1 8 Try.underlying23 hi0 hz0 hz1 hz2 rfl (by decide) v 0 _ hs hown ad m c (ys.map (Value.int .i64)) hx (by simp [hm]) (ints_cells hc) (by simp [Value.oneCell']) (by simp [maxLen]; omega) (by omega) hbase ?_
    intro v' w' h1 h2 _
    rw [Nat.zero_add, List.nil_append] at h1
    exact h v' w' h1 h2
/-- The block g holds the slots l in its first cells. -/
structure HeldS (w : World) (g cap : Nat) (l : List Sl) : Prop where
  ex : ∃ cur, w.heap[g]? = some (.cells cur 44 (0, 0)) ∧ cur.size = cap * 4 ∧ cur.toList.take (l.length * 4) = flatS l
  le : l.length ≤ cap
theorem heldS_row {w : World} {base n : Nat} {v : Value} {l : List Sl} (h : w.ownsRow base 44 4 v n (flatS l)) (hn : n = l.length) (h0 : 0 < n) : ∃ g cap, v = .slice (some ⟨g, 0, none⟩) n cap ∧ base ≤ g ∧ HeldS w g cap l := by
  rcases h.2 with ⟨_, h1⟩ | ⟨g, cap, cur, rfl, hb, hg, hc, _, hs, ht⟩
  · omega
  · exact ⟨g, cap, rfl, hb, ⟨cur, hg, hs, by rw [← hn]; exact ht⟩, by omega⟩
theorem HeldS.lt {w : World} {g cap : Nat} {l : List Sl} (h : HeldS w g cap l) : g < w.heap.size := by
  obtain ⟨cur, h, _⟩ := h.ex
  exact lt_block h
theorem HeldS.cell {w : World} {g cap : Nat} {l : List Sl} (h : HeldS w g cap l) (t : Nat) (u : Value) (hu : (flatS l)[t]? = some u) : w.cell? ⟨g, t, none⟩ = some u ∧ w.frozen? ⟨g, t, none⟩ = false := by
  obtain ⟨cur, hg, hs, ht⟩ := h.ex
  refine ⟨?_, free_block hg t⟩
  rw [cell_block hg]
  rw [← ht, List.getElem?_take] at hu
  split at hu
  · rw [← Array.getElem?_toList]; exact hu
  · simp at hu
theorem HeldS.keep {S : List Nat} {w w' : World} {g cap : Nat} {l : List Sl} (h : HeldS w g cap l) (hu : Upd S w w') (hg : g ∉ S) : HeldS w' g cap l := by
  obtain ⟨cur, h1, h2, h3⟩ := h.ex
  exact ⟨⟨cur, hu.at h1 hg, h2, h3⟩, h.le⟩
theorem HeldS.slots {w : World} {g cap : Nat} {l : List Sl} (h : HeldS w g cap l) : Slots w (some ⟨g, 0, none⟩) l := by
  intro j hj
  obtain ⟨f0, f1, f2, f3⟩ := flatS_at l j hj
  refine ⟨g, 0, rfl, ?_, ?_, ?_, ?_⟩
  · rw [Nat.zero_add]; exact (h.cell _ _ f0).1
  · rw [Nat.zero_add]; exact (h.cell _ _ f1).1
  · rw [Nat.zero_add]; exact (h.cell _ _ f2).1
  · rw [Nat.zero_add]; exact (h.cell _ _ f3).1
theorem HeldS.set {w : World} {g cap : Nat} {l : List Sl} (h : HeldS w g cap l) (i : Nat) (hi : i < l.length) (s : Sl) :
    HeldS ((((w.setCell ⟨g, i * 4, none⟩ (.int .i64 s.g)).setCell ⟨g, i * 4 + 1, none⟩ (.int .i64 s.s)).setCell ⟨g, i * 4 + 2, none⟩ (.int .i64 s.t)).setCell ⟨g, i * 4 + 3, none⟩ (.int .i64 s.q)) g cap (l.set i s) := by
  obtain ⟨cur, h1, h2, h3⟩ := h.ex
  refine ⟨⟨_, setCell_block (setCell_block (setCell_block (setCell_block h1 _) _) _) _, by simpa using h2, ?_⟩, by simpa using h.le⟩
  rw [flatS_set l i hi, ← h3, List.length_set]
  simp only [Array.toList_setIfInBounds, List.take_set]
theorem upd_set4 {S : List Nat} {a w : World} (h : Upd S a w) {g o : Nat} (hg : g < a.heap.size → g ∈ S) (v0 v1 v2 v3 : Value) : Upd S a ((((w.setCell ⟨g, o, none⟩ v0).setCell ⟨g, o + 1, none⟩ v1).setCell ⟨g, o + 2, none⟩ v2).setCell ⟨g, o + 3, none⟩ v3) :=
  (((h.setCell hg _).setCell hg _).setCell hg _).setCell hg _

theorem stored3 {w : World} {b : Nat} {x y z : Value} {t : TypeId} {f : Nat × Nat} (h : w.heap[b]? = some (.cells #[x, y, z] t f)) (u v s : Value) :
    (((w.setCell ⟨b, 0, none⟩ u).setCell ⟨b, 1, none⟩ v).setCell ⟨b, 2, none⟩ s).heap[b]? = some (.cells #[u, v, s] t f) := setCell_block (setCell_block (setCell_block h _) _) _
theorem upd_set3 (w : World) (b : Nat) (u v s : Value) : Upd [b] w (((w.setCell ⟨b, 0, none⟩ u).setCell ⟨b, 1, none⟩ v).setCell ⟨b, 2, none⟩ s) :=
  (((Upd.refl [b] w).setCell (p := ⟨b, 0, none⟩) (fun _ => by simp) _).setCell (p := ⟨b, 1, none⟩) (fun _ => by simp) _).setCell (p := ⟨b, 2, none⟩) (fun _ => by simp) _
theorem cells3 {w : World} {b : Nat} {x y z : Value} {t : TypeId} {f : Nat × Nat} (h : w.heap[b]? = some (.cells #[x, y, z] t f)) : w.cell? ⟨b, 0, none⟩ = some x ∧ w.cell? ⟨b, 1, none⟩ = some y ∧ w.cell? ⟨b, 2, none⟩ = some z := ⟨cell_block h 0, cell_block h 1, cell_block h 2⟩
theorem free3 {w : World} {b : Nat} {c : Array Value} {t : TypeId} (h : w.heap[b]? = some (.cells c t (0, 0))) : w.frozen? ⟨b, 0, none⟩ = false ∧ w.frozen? ⟨b, 1, none⟩ = false ∧ w.frozen? ⟨b, 2, none⟩ = false := ⟨free_block h 0, free_block h 1, free_block h 2⟩
theorem two_boxes (w : World) (A B : Obj) : Upd [] w ((w.alloc A).alloc B) ∧ ((w.alloc A).alloc B).heap[w.heap.size]? = some A ∧ ((w.alloc A).alloc B).heap[w.heap.size + 1]? = some B ∧ ((w.alloc A).alloc B).heap.size = w.heap.size + 2 :=
  ⟨((Upd.refl _ _).alloc _).alloc _, ((Upd.refl [] (w.alloc A)).alloc B).at (heap_alloc1 w A) (by simp), heap_alloc2 w A B, by simp⟩
theorem three_boxes (w : World) (A B C : Obj) : Upd [] w (((w.alloc A).alloc B).alloc C) ∧ (((w.alloc A).alloc B).alloc C).heap[w.heap.size]? = some A ∧ (((w.alloc A).alloc B).alloc C).heap[w.heap.size + 1]? = some B ∧ (((w.alloc A).alloc B).alloc C).heap[w.heap.size + 1 + 1]? = some C ∧ (((w.alloc A).alloc B).alloc C).heap.size = w.heap.size + 3 :=
  ⟨(((Upd.refl _ _).alloc _).alloc _).alloc _, (((Upd.refl [] (w.alloc A)).alloc B).alloc C).at (heap_alloc1 w A) (by simp), ((Upd.refl [] ((w.alloc A).alloc B)).alloc C).at (heap_alloc2 w A B) (by simp), heap_alloc3 w A B C, by simp⟩
set_option maxHeartbeats 4000000 in
theorem with_has (r : ArR) (i : Nat) (s : Sl) (w : World) (ha : HasA w r) (hi : i < r.ar.sl.length) (hl : r.ar.sl.length ≤ 100000) :
    Calls Try.prog 38 #[encA r, .int .i64 i, aggS s] w fun e w' => ∃ sa sc, e = .returned (encA ⟨setS r.ar i s, sa, sc, r.ia, r.ic⟩) ∧ HasA w' ⟨setS r.ar i s, sa, sc, r.ia, r.ic⟩ ∧ (∀ a, sa = some a → w.heap.size ≤ a.block) ∧ Upd [] w w' := by
  obtain ⟨a, sa, sc, ia, ic⟩ := r
  simp only at hi hl ⊢
  obtain ⟨b, off, rfl, _⟩ := ha.sl i hi
  have HA := Lib.hid ha
  have HI := Lib.hid hi
  unfold encA aggS
  simp only
  clear ha
  obtain ⟨n, hn⟩ : ∃ n, n = a.sl.length := ⟨_, rfl⟩
  have hls : (setS a i s).sl.length = n := by rw [hn]; simp [setS]
  have hli : (setS a i s).id = a.id := rfl
  have hlx : (setS a i s).nx = a.nx := rfl
  simp only [hls, hli, hlx]
  rw [← hn] at hi hl ⊢
  have HN := Lib.hid hn
  clear hn hls hli hlx
  generalize hni : a.id.length = ni
  generalize hnx : a.nx = nx
  have hiz : (i : Int) < (n : Int) := by omega
  go_enter Try.func38, Try.ntmps38
  go_upto_region 1 with (fail)
  generalize hA : (Obj.cells #[.slice (some ⟨b, off, none⟩) n sc, .slice ia ni ic, .int .i64 nx] 25 : Obj) = A
  generalize hB : (Obj.cells #[.int .i64 s.g, .int .i64 s.s, .int .i64 s.t, .int .i64 s.q] 44 : Obj) = B
  generalize hC : (Obj.cells #[.slice none 0 0, .slice none 0 0, .int .i64 0] 25 : Obj) = C
  obtain ⟨hu, b0, b1, b2, hsz⟩ := three_boxes w A B C
  generalize ((w.alloc A).alloc B).alloc C = W at *
  generalize hH : w.heap.size = H at *
  rw [← hA] at b0
  rw [← hB] at b1
  rw [← hC] at b2
  have HU := Lib.hid hu; have HB0 := Lib.hid b0; have HB1 := Lib.hid b1; have HB2 := Lib.hid b2; have HH := Lib.hid hH; have HSZ := Lib.hid hsz
  have c0 := cell_block b0 0
  simp only [List.getElem?_toArray, List.getElem?_cons_zero] at c0
  have c0 := Lib.cell?_alloc_some (.cells #[] 44) c0
  have HSL := Lib.hid (slots_cells (HA.out.stay hu).sl)
  clear hu hA hB hC b0 b1 b2 hH hsz
  go_upto_region 2 with (at_builtin; refine app_slots rfl _ _ rfl W.heap.size (.slice (some ⟨W.heap.size, 0, none⟩) 0 0) 0 [] rfl (World.ownsRow_made W #[] 0 (Nat.le_refl _) (Nat.zero_le _) (by simp)) ⟨b, off, none⟩ n sc a.sl rfl HN.out.symm (fun j u hj => Lib.cell?_alloc_some _ (HSL.out j u hj)) (by omega) (by simp) ?_; intro v' w1 hown hgrow; have HO := Lib.hid hown; have HG := Lib.hid hgrow; clear hown hgrow)
  have HU2 : Hid (Upd [] W w1) := ((Upd.refl [] W).alloc _).grown HG.out (fun k hk hl => by simp [Value.ownBlock] at hk; omega)
  have hrow := HO.out
  rw [Nat.zero_add, List.nil_append] at hrow
  obtain ⟨g, cap, rfl, hge, hheld⟩ := heldS_row hrow HN.out (by omega)
  have HHD := Lib.hid hheld
  obtain ⟨f0, f1, f2, f3⟩ := flatS_at a.sl i HI.out
  obtain ⟨k0, z0⟩ := hheld.cell _ _ f0
  obtain ⟨k1, z1⟩ := hheld.cell _ _ f1
  obtain ⟨k2, z2⟩ := hheld.cell _ _ f2
  obtain ⟨k3, z3⟩ := hheld.cell _ _ f3
  have q1 := HU2.out.at HB1.out (by simp)
  have m0 := cell_block q1 0
  have m1 := cell_block q1 1
  have m2 := cell_block q1 2
  have m3 := cell_block q1 3
  simp only [List.getElem?_toArray, List.getElem?_cons_zero, List.getElem?_cons_succ] at m0 m1 m2 m3
  clear hrow hheld f0 f1 f2 f3 c0 HSL q1
  go_upto_region 3 with (fail)
  have hHD := HHD.out.set i HI.out s
  have hU3 := upd_set4 (S := [g]) (Upd.refl [g] w1) (g := g) (o := i * 4) (fun _ => by simp) (.int .i64 s.g) (.int .i64 s.s) (.int .i64 s.t) (.int .i64 s.q)
  generalize (((w1.setCell ⟨g, i * 4, none⟩ (.int .i64 s.g)).setCell ⟨g, i * 4 + 1, none⟩ (.int .i64 s.s)).setCell ⟨g, i * 4 + 2, none⟩ (.int .i64 s.t)).setCell ⟨g, i * 4 + 3, none⟩ (.int .i64 s.q) = w2 at hHD hU3 ⊢
  have q0 := hU3.at (HU2.out.at HB0.out (by simp)) (by have := HSZ.out; simp; omega)
  have q2 := hU3.at (HU2.out.at HB2.out (by simp)) (by have := HSZ.out; simp; omega)
  have HHD2 := Lib.hid hHD; have HU3 := Lib.hid hU3; have HQ0 := Lib.hid q0; have HQ2 := Lib.hid q2
  have c0 := cell_block q0 0
  have d0 := free_block q0 0
  simp only [List.getElem?_toArray, List.getElem?_cons_zero] at c0
  clear hHD hU3 q0 q2 k0 k1 k2 k3 z0 z1 z2 z3 m0 m1 m2 m3 HO HG
  go_upto_region 4 with (fail)
  have q0 : (w2.setCell ⟨H, 0, none⟩ (.slice (some ⟨g, 0, none⟩) n cap)).heap[H]? = some (.cells #[.slice (some ⟨g, 0, none⟩) n cap, .slice ia ni ic, .int .i64 nx] 25 (0, 0)) := setCell_block HQ0.out _
  have hU4 := (Upd.refl [H] w2).setCell (p := ⟨H, 0, none⟩) (fun _ => by simp) (.slice (some ⟨g, 0, none⟩) n cap)
  have q2 := hU4.at HQ2.out (by simp; omega)
  generalize w2.setCell ⟨H, 0, none⟩ (.slice (some ⟨g, 0, none⟩) n cap) = w3 at q0 hU4 q2 ⊢
  have HU4 := Lib.hid hU4; have HQ2 := Lib.hid q2
  clear c0 d0 hU4
  have c0 := cell_block q0 0
  have c1 := cell_block q0 1
  have c2 := cell_block q0 2
  have e0 := cell_block q2 0
  have e1 := cell_block q2 1
  have e2 := cell_block q2 2
  have z0 := free_block q2 0
  have z1 := free_block q2 1
  have z2 := free_block q2 2
  simp only [List.getElem?_toArray, List.getElem?_cons_zero, List.getElem?_cons_succ] at c0 c1 c2 e0 e1 e2
  clear q0 q2
  go_wp2_with fail
  have p2 := stored3 HQ2.out (.slice (some ⟨g, 0, none⟩) n cap) (.slice ia ni ic) (.int .i64 nx)
  have hU5 := upd_set3 w3 (H + 1 + 1) (.slice (some ⟨g, 0, none⟩) n cap) (.slice ia ni ic) (.int .i64 nx)
  generalize (((w3.setCell ⟨H + 1 + 1, 0, none⟩ (.slice (some ⟨g, 0, none⟩) n cap)).setCell ⟨H + 1 + 1, 1, none⟩ (.slice ia ni ic)).setCell ⟨H + 1 + 1, 2, none⟩ (.int .i64 nx)) = w4 at p2 hU5 ⊢
  obtain ⟨r0, r1, r2⟩ := cells3 p2
  have hsz := HSZ.out
  have hh := HH.out
  have hUW : Upd [] w w4 := (((HU.out.trans HU2.out (by simp)).trans HU3.out (fun x hx hl => by simp at hx; omega)).trans HU4.out (fun x hx hl => by simp at hx; omega)).trans hU5 (fun x hx hl => by simp at hx; omega)
  have hfin := (HHD2.out.keep HU4.out (by simp; omega)).keep hU5 (by simp; omega)
  exact bodyPost_ret (v := .agg #[.slice (some ⟨g, 0, none⟩) n cap, .slice ia ni ic, .int .i64 nx]) (by simp [results, Try.results38, go_sem, r0, r1, r2]) rfl ⟨some ⟨g, 0, none⟩, cap, rfl, ⟨hfin.slots, (HA.out.stay hUW).id, hfin.le, HA.out.ic, fun e => by simp at e, HA.out.nn⟩, fun a e => by rw [← Option.some.inj e]; simp only; omega, hUW⟩
end Go.Proofs.Ythpofcomlidoiaa
