
/- Contract: the store's Arena. -/
import Derived.Test.YtmfnfinbkdemkaaGreatIK
import Derived.Test.YtmfnfinbkdemkaaGreatCI
import Derived.Test.YtmfnfinbkdemkaaGreatPJ
import Derived.Test.YtmfnfinbkdemkaaGreatRS
import Derived.Lib.Walk
import Derived.Lib.SliceRun
namespace Go.Proofs.YtmfnfinbkdemkaaGreat
open Go.RowKit Go.Lib
open A5

section
variable {P : Program} {ops : Array Oper} {Q : Exit → Act → World → Prop} {md : Region.Mode} {S : World → Prop} {k : Nat}
theorem anyK_two {i j fuel : Nat} {listed : Array Bool} {a : Act} {w : World} (hr : Region.ready md ops listed = [i, j])
    (h1 : wpOp P ops Q i (fun a' w' => (i = k ∨ S w') ∧ wpAnyK P md ops Q S k fuel (listed.setIfInBounds i true) a' w') a w)
    (h2 : wpOp P ops Q j (fun a' w' => (j = k ∨ S w') ∧ wpAnyK P md ops Q S k fuel (listed.setIfInBounds j true) a' w') a w) : wpAnyK P md ops Q S k (fuel + 1) listed a w := by
  refine ⟨fun e => by rw [hr] at e; simp at e, fun x hx => ?_⟩
  rw [hr] at hx
  rcases (by simpa using hx : x = i ∨ x = j) with rfl | rfl
  · exact h1
  · exact h2
theorem opd_value {i : Nat} {o : Oper} {d : Option Tmp} {a : Act} {w w' : World} {v : Value} {K : Act → World → Prop} (ho : ops[i]? = some o) (hd : o.dst = d) (hw : Region.wanted o (yielded ops a.tmps) = true) (hr : (execOp a.eval o).run P w = .ok (.value v) w') (h : K (a.put d v) w') : wpOp P ops Q i K a w := by
  subst hd; exact op_value ho hw hr h
theorem opd_call {i : Nat} {o : Oper} {d : Option Tmp} {a : Act} {w : World} {f : FuncId} {args : Array Value} {R : Value → World → Prop} {K : Act → World → Prop} (ho : ops[i]? = some o) (hd : o.dst = d) (hw : Region.wanted o (yielded ops a.tmps) = true) (hr : (execOp a.eval o).run P w = .ok (.enter f args) w)
    (hc : Calls P f args w fun e w' => ∃ v, e = .returned v ∧ R v w') (h : ∀ v w', R v w' → K (a.put d v) w') : wpOp P ops Q i K a w := by
  subst hd; exact op_call ho hw hr hc h
end
set_option maxHeartbeats 2000000 in
theorem cloneInts_any (a : Option Addr) (c : Nat) (xs : List Int) (w : World) (ha : Ints w a xs) (hx : xs.length ≤ 1000000) :
    Calls Tryz.prog 45 #[.slice a xs.length c] w fun e w' => ∃ va vc, e = .returned (.slice va xs.length vc) ∧ w'.ownsRow w.heap.size 3 1 (.slice va xs.length vc) xs.length (xs.map (Value.int .i64)) ∧ Upd [] w w' := by
  obtain ⟨i0, hi0, hz0, hz1, hz2⟩ := info_parts infoInt
  have q22 : ∀ (w : World) (a : Option Addr) (n c n' c' : Nat), (binOp .eql 43 (.slice a n c) (.slice none n' c')).run Tryz.prog w = .ok (.bool a.isNone) w := fun w a n c n' c' => Lib.run_eql_slice_nil w _ _ a n c n' c' Tryz.underlying43
  have HA := Lib.hid ha
  clear ha
  cases a with
  | none =>
    have hn : xs = [] := ints_none HA.out
    subst hn
    clear HA
    go_enter Tryz.func45, Tryz.ntmps45
    go_wp2_with fail
    go_ret
    exact ⟨_, _, rfl, World.ownsRow_nil _ _ _ _, Upd.refl _ _⟩
  | some ad =>
    have HN := Lib.hid (ints_cells HA.out)
    clear HA
    go_enter Tryz.func45, Tryz.ntmps45
    go_wp2_with (at_builtin; refine wpList_append_own _ rfl _ _ 43 rfl w.heap.size 3 i0 _ 1 8 Tryz.underlying43 hi0 hz0 hz1 hz2 rfl (by decide) _ _ _ rfl (World.ownsRow_made w #[] 0 (Nat.le_refl _) (Nat.zero_le _) (by simp)) ad xs.length c (xs.map (Value.int .i64)) rfl ?qc1 ?qc2 ?qc3 ?qc4 ?qc5 ?qc6 ?_)
    case qc1 => simp
    case qc2 => exact fun j u hj => Lib.cell?_alloc_some _ (HN.out j u hj)
    case qc3 => simp [Value.oneCell']
    case qc4 => simp [maxLen]; omega
    case qc5 => omega
    case qc6 => simp
    intro v' w1 hown hgrow hnil
    have HU : Hid (Upd [] w w1) := ((Upd.refl [] w).alloc _).grown hgrow (fun k hk hl => by simp [Value.ownBlock] at hk; omega)
    obtain ⟨va, vc, rfl⟩ := row_shape hown
    have HO := Lib.hid hown
    clear hown hgrow hnil
    go_wp2_with fail
    go_ret
    exact ⟨va, vc, rfl, HO.out, HU.out⟩

set_option maxHeartbeats 2000000 in
theorem cloneSlots_any (a : Option Addr) (c : Nat) (xs : List Sl) (w : World) (ha : Slots w a xs) (hx : xs.length ≤ 1000000) :
    Calls Tryz.prog 44 #[.slice a xs.length c] w fun e w' => ∃ va vc, e = .returned (.slice va xs.length vc) ∧ w'.ownsRow w.heap.size 52 4 (.slice va xs.length vc) xs.length (flatS xs) ∧ Upd [] w w' := by
  obtain ⟨i0, hi0, hz0, hz1, hz2⟩ := info_parts infoSlot
  have q22 : ∀ (w : World) (a : Option Addr) (n c n' c' : Nat), (binOp .eql 42 (.slice a n c) (.slice none n' c')).run Tryz.prog w = .ok (.bool a.isNone) w := fun w a n c n' c' => Lib.run_eql_slice_nil w _ _ a n c n' c' Tryz.underlying42
  have HA := Lib.hid ha
  clear ha
  cases a with
  | none =>
    have hn : xs = [] := slots_none HA.out
    subst hn
    clear HA
    go_enter Tryz.func44, Tryz.ntmps44
    go_wp2_with fail
    go_ret
    exact ⟨_, _, rfl, World.ownsRow_nil _ _ _ _, Upd.refl _ _⟩
  | some ad =>
    have HN := Lib.hid (slots_cells HA.out)
    have H4 := Lib.hid (flatS_length xs)
    have H1 := Lib.hid (flatS_one xs)
    clear HA
    generalize flatS xs = fl at *
    go_enter Tryz.func44, Tryz.ntmps44
    go_wp2_with (at_builtin; refine wpList_append_own _ rfl _ _ 42 rfl w.heap.size 52 i0 _ 4 32 Tryz.underlying42 hi0 hz0 hz1 hz2 rfl (by decide) _ _ _ rfl (World.ownsRow_made w #[] 0 (Nat.le_refl _) (Nat.zero_le _) (by simp)) ad xs.length c fl rfl ?qc1 ?qc2 ?qc3 ?qc4 ?qc5 ?qc6 ?_)
    case qc1 => exact H4.out
    case qc2 => exact fun j u hj => Lib.cell?_alloc_some _ (HN.out j u hj)
    case qc3 => exact H1.out
    case qc4 => simp [maxLen]; omega
    case qc5 => omega
    case qc6 => simp
    intro v' w1 hown hgrow hnil
    have HU : Hid (Upd [] w w1) := ((Upd.refl [] w).alloc _).grown hgrow (fun k hk hl => by simp [Value.ownBlock] at hk; omega)
    obtain ⟨va, vc, rfl⟩ := row_shape hown
    have HO := Lib.hid hown
    clear hown hgrow hnil
    go_wp2_with fail
    go_ret
    exact ⟨va, vc, rfl, HO.out, HU.out⟩


/-- A copy of the bare arena in a box. -/
structure ABox (W : World) (nx : Int) (sl : List Sl) (id : List Int) (n m : Nat) (Q : Nat) (wx : World) (va vb : Option Addr) (vc vd : Nat) : Prop where
  blk : wx.heap[Q]? = some (.cells #[.slice va n vc, .slice vb m vd, .int .i64 nx] 45 (0, 0))
  ge : W.heap.size ≤ Q
  sl : wx.ownsRow W.heap.size 52 4 (.slice va n vc) n (flatS sl)
  id : wx.ownsRow W.heap.size 3 1 (.slice vb m vd) m (id.map (Value.int .i64))
  upd : Upd [] W wx
theorem abox_last {W w3 : World} {nx : Int} {sl : List Sl} {id : List Int} {n m vc vd : Nat} {va vb : Option Addr} (hu : Upd [] W w3) (hs : w3.ownsRow W.heap.size 52 4 (.slice va n vc) n (flatS sl)) (hi : w3.ownsRow W.heap.size 3 1 (.slice vb m vd) m (id.map (Value.int .i64))) :
    ABox W nx sl id n m w3.heap.size (w3.alloc (.cells #[.slice va n vc, .slice vb m vd, .int .i64 nx] 45)) va vb vc vd :=
  ⟨heap_alloc1 _ _, hu.size, ((Upd.refl [] w3).alloc _).row hs (by simp), ((Upd.refl [] w3).alloc _).row hi (by simp), hu.alloc _⟩
theorem abox_at {W w3 : World} {nx : Int} {sl : List Sl} {id : List Int} {n m vc vd Q : Nat} {va vb : Option Addr} {x y z : Value} (hu : Upd [] W w3) (hs : w3.ownsRow W.heap.size 52 4 (.slice va n vc) n (flatS sl)) (hi : w3.ownsRow W.heap.size 3 1 (.slice vb m vd) m (id.map (Value.int .i64))) (hq : w3.heap[Q]? = some (.cells #[x, y, z] 45 (0, 0))) (hge : W.heap.size ≤ Q) :
    ABox W nx sl id n m Q (((w3.setCell ⟨Q, 0, none⟩ (.slice va n vc)).setCell ⟨Q, 1, none⟩ (.slice vb m vd)).setCell ⟨Q, 2, none⟩ (.int .i64 nx)) va vb vc vd := by
  have hb := stored3 hq (.slice va n vc) (.slice vb m vd) (.int .i64 nx)
  have h3 := upd_set3 w3 Q (.slice va n vc) (.slice vb m vd) (.int .i64 nx)
  exact ⟨hb, hge, own_box hq hs (by decide) h3, own_box hq hi (by decide) h3, hu.new h3 hge⟩
/-- Two cells of a slot are written. -/
theorem HeldS.two {w : World} {g cap : Nat} {l : List Sl} (h : HeldS w g cap l) (i : Nat) (hi : i < l.length) (x y : Int) {s : Sl} (hs : s = ⟨x, y, l[i].t, l[i].q⟩) :
    HeldS ((w.setCell ⟨g, i * 4, none⟩ (.int .i64 x)).setCell ⟨g, i * 4 + 1, none⟩ (.int .i64 y)) g cap (l.set i s) := by
  subst hs
  obtain ⟨cur, h1, h2, h3⟩ := h.ex
  refine ⟨⟨_, setCell_block (setCell_block h1 _) _, by simpa using h2, ?_⟩, by simpa using h.le⟩
  obtain ⟨e0, e1, e2, e3⟩ := flatS_at l i hi
  have hl2 : i * 4 + 2 < (flatS l).length := (List.getElem?_eq_some_iff.1 e2).1
  have hl3 : i * 4 + 3 < (flatS l).length := (List.getElem?_eq_some_iff.1 e3).1
  have e2' : ∀ (p q : Value), (((flatS l).set (i * 4) p).set (i * 4 + 1) q)[i * 4 + 2]? = some (.int .i64 l[i].t) := fun p q => by
    rw [List.getElem?_set_ne (by omega), List.getElem?_set_ne (by omega)]; exact e2
  have e3' : ∀ (p q : Value), (((flatS l).set (i * 4) p).set (i * 4 + 1) q)[i * 4 + 3]? = some (.int .i64 l[i].q) := fun p q => by
    rw [List.getElem?_set_ne (by omega), List.getElem?_set_ne (by omega)]; exact e3
  have same : ∀ (L : List Value) (k : Nat) (v : Value), L[k]? = some v → L.set k v = L := fun L k v hk => by
    obtain ⟨hk2, rfl⟩ := List.getElem?_eq_some_iff.1 hk
    exact List.set_getElem_self hk2
  rw [flatS_set l i hi, same _ _ _ (e2' _ _), same _ _ _ (e3' _ _), ← h3, List.length_set]
  simp only [Array.toList_setIfInBounds, List.take_set]
def wordS (s : Sl) : Int := 4 * s.g + s.s
def bare (s : Sl) : Sl := ⟨0, 0, s.t, s.q⟩
/-- The slots with their generations and states, the first k; the others bare. -/
def partS (vs : List Sl) (k : Nat) : List Sl := vs.take k ++ (vs.drop k).map bare
theorem partS_len (vs : List Sl) (k : Nat) : (partS vs k).length = vs.length := by simp [partS]; omega
theorem partS_at {vs : List Sl} {k : Nat} (h : k < vs.length) : (partS vs k)[k]'(by rw [partS_len]; exact h) = bare vs[k] := by
  unfold partS
  rw [List.getElem_append_right (by simp; omega)]
  simp [Nat.min_eq_left (Nat.le_of_lt h)]
theorem partS_set {vs : List Sl} {k : Nat} (h : k < vs.length) : (partS vs k).set k vs[k] = partS vs (k + 1) := by
  unfold partS
  have hl : (vs.take k).length = k := by simp; omega
  rw [List.set_append_right _ _ (by omega), hl, Nat.sub_self, List.take_succ_eq_append_getElem h, List.drop_eq_getElem_cons h, List.map_cons, List.set_cons_zero, List.append_assoc]
  rfl
theorem partS_zero (vs : List Sl) : partS vs 0 = vs.map bare := by simp [partS]
theorem partS_all (vs : List Sl) : partS vs vs.length = vs := by simp [partS]
/-- The words and the bare slots of a list of slots. -/
structure Rep (r : Rw) (a : Ar) : Prop where
  ws : ∀ (i : Nat) (h : i < a.sl.length), r.ws[i + 1]? = some (wordS a.sl[i])
  sl : r.ar.sl = a.sl.map bare
  id : r.ar.id = a.id
  nx : r.ar.nx = a.nx
  ok : ∀ s ∈ a.sl, 0 ≤ s.g ∧ s.g ≤ 1099511627776 ∧ 0 ≤ s.s ∧ s.s < 4
set_option maxRecDepth 100000 in
set_option maxHeartbeats 8000000 in
theorem SArena_has {F : List Nat} {d : At} {r : Rw} {w : World} (h : InR F d r w) (hs : Sm r.mem) (a : Ar) (hr : Rep r a) (hn1 : 1 ≤ a.sl.length) (hn : a.sl.length ≤ 64) (hm : a.id.length ≤ 1000) :
    Calls Tryz.prog 15 #[.pointer (some ⟨d.p, 0, none⟩)] w fun e w' => ∃ g : ArR, e = .returned (encA g) ∧ g.ar = a ∧ HasA w' g ∧ (∀ b, b < w.heap.size → Avoids g b) ∧ Upd [] w w' := by
  have HC := Lib.hid (orNone_in d.p)
  have HR := Lib.hid hr; have HS := Lib.hid hs; have HIN := Lib.hid h
  go_enter Tryz.func15, Tryz.ntmps15
  go_upto_region 1 with (fail)
  have HZ : Hid ((w.alloc (.cells #[.slice none 0 0, .slice none 0 0, .int .i64 0] 45)).heap[w.heap.size]? = some (.cells #[.slice none 0 0, .slice none 0 0, .int .i64 0] 45 (0, 0))) := heap_alloc1 _ _
  have HU0 : Hid (Upd [] w (w.alloc (.cells #[.slice none 0 0, .slice none 0 0, .int .i64 0] 45))) := (Upd.refl [] w).alloc _
  generalize w.alloc (.cells #[.slice none 0 0, .slice none 0 0, .int .i64 0] 45) = W at *
  generalize hH : w.heap.size = H at *
  have HH := Lib.hid hH
  clear hH
  obtain ⟨FM, iv, l, hFF, h1⟩ := h.stay HU0.out
  have hrow := h1.id
  rw [hr.id] at hrow
  obtain ⟨ia, ic, rfl, hints, -, -, -⟩ := row_ints hrow
  have hsl := h1.sl.slots
  rw [hr.sl] at hsl
  have hb := h1.box
  unfold cellsT at hb
  rw [hr.sl, hr.nx, List.length_map] at hb
  obtain ⟨-, c1, c2, c3, -⟩ := cells10 hb
  have hbl : (a.sl.map bare).length = a.sl.length := List.length_map _
  have HCS : Hid (∀ V, Upd [] W V → Calls Tryz.prog 44 #[.slice (some ⟨d.sg, 0, none⟩) a.sl.length d.sc] V fun e w' => ∃ va vc, e = .returned (.slice va a.sl.length vc) ∧ w'.ownsRow V.heap.size 52 4 (.slice va a.sl.length vc) a.sl.length (flatS (a.sl.map bare)) ∧ Upd [] V w') := fun V hv => by
    have := cloneSlots_any (some ⟨d.sg, 0, none⟩) d.sc (a.sl.map bare) V (hsl.stay hv) (by omega)
    rw [hbl] at this; exact this
  have HCI := Lib.hid (fun V (hv : Upd [] W V) => cloneInts_any ia ic a.id V (hints.stay hv) (by omega))
  obtain ⟨n, hnn⟩ : ∃ n, n = a.sl.length := ⟨_, rfl⟩
  obtain ⟨m, hmm⟩ : ∃ m, m = a.id.length := ⟨_, rfl⟩
  have HNN := Lib.hid hnn; have HMM := Lib.hid hmm
  rw [← hnn] at HCS c1 hn hn1
  rw [← hmm] at HCI c2 hm
  generalize hbare : a.sl.map bare = sb at *
  have HSB := Lib.hid hbare
  clear h hs hr hFF h1 hrow hints hsl hb hbl hnn hmm hbare
  go_wp2_with fail
  (with_reducible refine (HC.out _).mono ?_)
  rintro e w' ⟨rfl, rfl⟩
  go_upto_region 2 with (fail)
  go_cut [3] (fun v3 wx => ∃ Q va vb vc vd, v3 = .pointer (some ⟨Q, 0, none⟩) ∧ Hid (ABox W a.nx sb a.id n m Q wx va vb vc vd))
  case first =>
    have HKP : Hid (∀ V, Upd [] W V → (V.cell? ⟨d.p, 1, none⟩ = some (.slice (some ⟨d.sg, 0, none⟩) n d.sc) ∧ V.cell? ⟨d.p, 2, none⟩ = some (.slice ia m ic) ∧ V.cell? ⟨d.p, 3, none⟩ = some (.int .i64 a.nx))) := fun V hv => ⟨hv.cell c1 (by simp), hv.cell c2 (by simp), hv.cell c3 (by simp)⟩
    have hS := HKP.out W.drew (Upd.refl [] W).drew
    refine wp_region_K (fun V => (V.cell? ⟨d.p, 1, none⟩ = some (.slice (some ⟨d.sg, 0, none⟩) n d.sc) ∧ V.cell? ⟨d.p, 2, none⟩ = some (.slice ia m ic) ∧ V.cell? ⟨d.p, 3, none⟩ = some (.int .i64 a.nx))) 19 mixed ?_
    refine wpAnyK_take (i := 0) (d := some 8) (v := .pointer (some ⟨d.p, 0, none⟩)) rfl rfl (by kernel_rfl) (fun _ _ _ h => h) (.inl ⟨rfl, fun wz hz => rfl⟩) hS ?_
    simp only [Act.put, List.setIfInBounds_toArray, List.set_cons_succ, List.set_cons_zero]
    refine wpAnyK_take (i := 1) (d := some 9) (v := .pointer (some ⟨d.p, 0, none⟩)) rfl rfl (by kernel_rfl) (fun _ _ _ h => h) (.inl ⟨rfl, fun wz hz => by simp [execOp, Act.eval, go_sem]⟩) hS ?_
    simp only [Act.put, List.setIfInBounds_toArray, List.set_cons_succ, List.set_cons_zero]
    refine wpAnyK_take (i := 2) (d := some 10) (v := .pointer (some ⟨d.p, 1, none⟩)) rfl rfl (by kernel_rfl) (fun _ _ _ h => h) (.inl ⟨rfl, fun wz hz => by simp [execOp, Act.eval, go_sem]⟩) hS ?_
    simp only [Act.put, List.setIfInBounds_toArray, List.set_cons_succ, List.set_cons_zero]
    refine wpAnyK_take (i := 3) (d := some 11) (v := .pointer (some ⟨d.p, 1, none⟩)) rfl rfl (by kernel_rfl) (fun _ _ _ h => h) (.inl ⟨rfl, fun wz hz => by simp [execOp, Act.eval, go_sem]⟩) hS ?_
    simp only [Act.put, List.setIfInBounds_toArray, List.set_cons_succ, List.set_cons_zero]
    refine wpAnyK_take (i := 4) (d := some 12) (v := .slice (some ⟨d.sg, 0, none⟩) n d.sc) rfl rfl (by kernel_rfl) (fun _ _ _ h => h) (.inl ⟨rfl, fun wz hz => by simp [execOp, Act.eval, go_sem, hz.1]⟩) hS ?_
    simp only [Act.put, List.setIfInBounds_toArray, List.set_cons_succ, List.set_cons_zero]
    refine wpAnyK_take (i := 6) (d := some 14) (v := .pointer (some ⟨d.p, 0, none⟩)) rfl rfl (by kernel_rfl) (fun _ _ _ h => h) (.inl ⟨rfl, fun wz hz => rfl⟩) hS ?_
    simp only [Act.put, List.setIfInBounds_toArray, List.set_cons_succ, List.set_cons_zero]
    refine wpAnyK_take (i := 7) (d := some 15) (v := .pointer (some ⟨d.p, 0, none⟩)) rfl rfl (by kernel_rfl) (fun _ _ _ h => h) (.inl ⟨rfl, fun wz hz => by simp [execOp, Act.eval, go_sem]⟩) hS ?_
    simp only [Act.put, List.setIfInBounds_toArray, List.set_cons_succ, List.set_cons_zero]
    refine wpAnyK_take (i := 8) (d := some 16) (v := .pointer (some ⟨d.p, 1, none⟩)) rfl rfl (by kernel_rfl) (fun _ _ _ h => h) (.inl ⟨rfl, fun wz hz => by simp [execOp, Act.eval, go_sem]⟩) hS ?_
    simp only [Act.put, List.setIfInBounds_toArray, List.set_cons_succ, List.set_cons_zero]
    refine wpAnyK_take (i := 9) (d := some 17) (v := .pointer (some ⟨d.p, 2, none⟩)) rfl rfl (by kernel_rfl) (fun _ _ _ h => h) (.inl ⟨rfl, fun wz hz => by simp [execOp, Act.eval, go_sem]⟩) hS ?_
    simp only [Act.put, List.setIfInBounds_toArray, List.set_cons_succ, List.set_cons_zero]
    refine wpAnyK_take (i := 10) (d := some 18) (v := .slice ia m ic) rfl rfl (by kernel_rfl) (fun _ _ _ h => h) (.inl ⟨rfl, fun wz hz => by simp [execOp, Act.eval, go_sem, hz.2.1]⟩) hS ?_
    simp only [Act.put, List.setIfInBounds_toArray, List.set_cons_succ, List.set_cons_zero]
    refine wpAnyK_take (i := 12) (d := some 20) (v := .pointer (some ⟨d.p, 0, none⟩)) rfl rfl (by kernel_rfl) (fun _ _ _ h => h) (.inl ⟨rfl, fun wz hz => rfl⟩) hS ?_
    simp only [Act.put, List.setIfInBounds_toArray, List.set_cons_succ, List.set_cons_zero]
    refine wpAnyK_take (i := 13) (d := some 21) (v := .pointer (some ⟨d.p, 0, none⟩)) rfl rfl (by kernel_rfl) (fun _ _ _ h => h) (.inl ⟨rfl, fun wz hz => by simp [execOp, Act.eval, go_sem]⟩) hS ?_
    simp only [Act.put, List.setIfInBounds_toArray, List.set_cons_succ, List.set_cons_zero]
    refine wpAnyK_take (i := 14) (d := some 22) (v := .pointer (some ⟨d.p, 1, none⟩)) rfl rfl (by kernel_rfl) (fun _ _ _ h => h) (.inl ⟨rfl, fun wz hz => by simp [execOp, Act.eval, go_sem]⟩) hS ?_
    simp only [Act.put, List.setIfInBounds_toArray, List.set_cons_succ, List.set_cons_zero]
    refine wpAnyK_take (i := 15) (d := some 23) (v := .pointer (some ⟨d.p, 3, none⟩)) rfl rfl (by kernel_rfl) (fun _ _ _ h => h) (.inl ⟨rfl, fun wz hz => by simp [execOp, Act.eval, go_sem]⟩) hS ?_
    simp only [Act.put, List.setIfInBounds_toArray, List.set_cons_succ, List.set_cons_zero]
    refine wpAnyK_take (i := 16) (d := some 24) (v := .int .i64 a.nx) rfl rfl (by kernel_rfl) (fun _ _ _ h => h) (.inl ⟨rfl, fun wz hz => by simp [execOp, Act.eval, go_sem, hz.2.2]⟩) hS ?_
    simp only [Act.put, List.setIfInBounds_toArray, List.set_cons_succ, List.set_cons_zero]
    refine anyK_two (i := 5) (j := 18) (by kernel_rfl) ?_ ?_
    · refine opd_call (d := some 13) (R := fun v W2 => ∃ va vc, v = .slice va n vc ∧ W2.ownsRow (W.drew).heap.size 52 4 (.slice va n vc) n (flatS sb) ∧ Upd [] (W.drew) W2) rfl rfl (by kernel_rfl) (by simp [execOp, Act.eval, go_sem]) ((HCS.out (W.drew) ((Upd.refl [] W).drew)).mono fun e W2 h => by obtain ⟨va, vc, h1, h2⟩ := h; exact ⟨_, h1, va, vc, rfl, h2⟩) ?_
      rintro _ W2 ⟨va, vc, rfl, hos, hu2⟩
      have hU2 : Upd [] W W2 := ((Upd.refl [] W).drew).thn hu2
      have hS := HKP.out W2 hU2
      refine ⟨.inr hS, ?_⟩
      simp only [Act.put, List.setIfInBounds_toArray, List.set_cons_succ, List.set_cons_zero]
      refine anyK_two (i := 11) (j := 18) (by kernel_rfl) ?_ ?_
      · refine opd_call (d := some 19) (R := fun v W3 => ∃ vb vd, v = .slice vb m vd ∧ W3.ownsRow (W2).heap.size 3 1 (.slice vb m vd) m (a.id.map (Value.int .i64)) ∧ Upd [] (W2) W3) rfl rfl (by kernel_rfl) (by simp [execOp, Act.eval, go_sem]) ((HCI.out (W2) (hU2)).mono fun e W3 h => by obtain ⟨vb, vd, h1, h2⟩ := h; exact ⟨_, h1, vb, vd, rfl, h2⟩) ?_
        rintro _ W3 ⟨vb, vd, rfl, hoi, hu3⟩
        have hU3 : Upd [] W W3 := (hU2).thn hu3
        have hS := HKP.out W3 hU3
        refine ⟨.inr hS, ?_⟩
        simp only [Act.put, List.setIfInBounds_toArray, List.set_cons_succ, List.set_cons_zero]
        refine wpAnyK_take (i := 17) (d := some 25) (v := .agg #[.slice va n vc, .slice vb m vd, .int .i64 a.nx]) rfl rfl (by kernel_rfl) (fun _ _ _ h => h) (.inl ⟨rfl, fun wz hz => by simp [execOp, Act.eval, go_sem]⟩) hS ?_
        simp only [Act.put, List.setIfInBounds_toArray, List.set_cons_succ, List.set_cons_zero]
        refine wpAnyK_one (i := 18) (by kernel_rfl) ?_
        refine opd_value (d := some 3) (v := .pointer (some ⟨(W3).heap.size, 0, none⟩)) (w' := (W3).alloc (.cells #[.slice none 0 0, .slice none 0 0, .int .i64 0] 45)) rfl rfl (by kernel_rfl) (by simp [execOp, go_sem]) ?_
        have hS := HKP.out ((W3).alloc (.cells #[.slice none 0 0, .slice none 0 0, .int .i64 0] 45)) ((hU3).alloc _)
        refine ⟨.inr hS, ?_⟩
        simp only [Act.put, List.setIfInBounds_toArray, List.set_cons_succ, List.set_cons_zero]
        refine wpAnyK_skip (i := 19) (d := none) (w' := W3.alloc (.cells #[.slice va n vc, .slice vb m vd, .int .i64 a.nx] 45)) rfl rfl (by kernel_rfl) rfl (by simp [execOp, Act.eval, go_sem]) (.inl rfl) ?_
        have hbs : W.heap.size ≤ W.drew.heap.size := Nat.le_refl _
        have hbi : W.heap.size ≤ W2.heap.size := hU2.size
        have hos3 := row_base (hu3.row hos (by simp)) (show W.heap.size ≤ _ from hbs)
        have hoi3 := row_base hoi (show W.heap.size ≤ _ from hbi)
        refine wpAnyK_done (by kernel_rfl) ?_ _
        simp only [Act.put]
        go_wp2_with fail
        go_meet
        case rel => exact ⟨_, va, vb, vc, vd, rfl, abox_last hU3 hos3 hoi3⟩
      · refine opd_value (d := some 3) (v := .pointer (some ⟨(W2).heap.size, 0, none⟩)) (w' := (W2).alloc (.cells #[.slice none 0 0, .slice none 0 0, .int .i64 0] 45)) rfl rfl (by kernel_rfl) (by simp [execOp, go_sem]) ?_
        have hS := HKP.out ((W2).alloc (.cells #[.slice none 0 0, .slice none 0 0, .int .i64 0] 45)) ((hU2).alloc _)
        refine ⟨.inr hS, ?_⟩
        simp only [Act.put, List.setIfInBounds_toArray, List.set_cons_succ, List.set_cons_zero]
        refine wpAnyK_one (i := 11) (by kernel_rfl) ?_
        refine opd_call (d := some 19) (R := fun v W3 => ∃ vb vd, v = .slice vb m vd ∧ W3.ownsRow (W2.alloc (.cells #[.slice none 0 0, .slice none 0 0, .int .i64 0] 45)).heap.size 3 1 (.slice vb m vd) m (a.id.map (Value.int .i64)) ∧ Upd [] (W2.alloc (.cells #[.slice none 0 0, .slice none 0 0, .int .i64 0] 45)) W3) rfl rfl (by kernel_rfl) (by simp [execOp, Act.eval, go_sem]) ((HCI.out (W2.alloc (.cells #[.slice none 0 0, .slice none 0 0, .int .i64 0] 45)) (hU2.alloc _)).mono fun e W3 h => by obtain ⟨vb, vd, h1, h2⟩ := h; exact ⟨_, h1, vb, vd, rfl, h2⟩) ?_
        rintro _ W3 ⟨vb, vd, rfl, hoi, hu3⟩
        have hU3 : Upd [] W W3 := (hU2.alloc _).thn hu3
        have hS := HKP.out W3 hU3
        refine ⟨.inr hS, ?_⟩
        simp only [Act.put, List.setIfInBounds_toArray, List.set_cons_succ, List.set_cons_zero]
        refine wpAnyK_take (i := 17) (d := some 25) (v := .agg #[.slice va n vc, .slice vb m vd, .int .i64 a.nx]) rfl rfl (by kernel_rfl) (fun _ _ _ h => h) (.inl ⟨rfl, fun wz hz => by simp [execOp, Act.eval, go_sem]⟩) hS ?_
        simp only [Act.put, List.setIfInBounds_toArray, List.set_cons_succ, List.set_cons_zero]
        have hq := hu3.at (heap_alloc1 W2 (.cells #[.slice none 0 0, .slice none 0 0, .int .i64 0] 45)) (by simp)
        obtain ⟨z0, z1, z2⟩ := free3 hq
        obtain ⟨y0, y1, y2⟩ := cells3 hq
        refine wpAnyK_skip (i := 19) (d := none) (w' := ((W3.setCell ⟨W2.heap.size, 0, none⟩ (.slice va n vc)).setCell ⟨W2.heap.size, 1, none⟩ (.slice vb m vd)).setCell ⟨W2.heap.size, 2, none⟩ (.int .i64 a.nx)) rfl rfl (by kernel_rfl) rfl (by simp [execOp, Act.eval, go_sem, y0, y1, y2, z0, z1, z2]) (.inl rfl) ?_
        have hbs : W.heap.size ≤ W.drew.heap.size := Nat.le_refl _
        have hbi : W.heap.size ≤ (W2.alloc (.cells #[.slice none 0 0, .slice none 0 0, .int .i64 0] 45)).heap.size := (hU2.alloc _).size
        have hos3 := row_base (hu3.row (((Upd.refl [] W2).alloc _).row hos (by simp)) (by simp)) (show W.heap.size ≤ _ from hbs)
        have hoi3 := row_base hoi (show W.heap.size ≤ _ from hbi)
        refine wpAnyK_done (by kernel_rfl) ?_ _
        have hfin := abox_at (nx := a.nx) hU3 hos3 hoi3 hq (hU2.size)
        with_reducible generalize ((W3.setCell ⟨W2.heap.size, 0, none⟩ (.slice va n vc)).setCell ⟨W2.heap.size, 1, none⟩ (.slice vb m vd)).setCell ⟨W2.heap.size, 2, none⟩ (.int .i64 a.nx) = W4 at hfin ⊢
        simp only [Act.put]
        go_wp2_with fail
        go_meet
        case rel => exact ⟨_, va, vb, vc, vd, rfl, hfin⟩
    · refine opd_value (d := some 3) (v := .pointer (some ⟨W.heap.size, 0, none⟩)) (w' := (W.drew).alloc (.cells #[.slice none 0 0, .slice none 0 0, .int .i64 0] 45)) rfl rfl (by kernel_rfl) (by simp [execOp, go_sem]) ?_
      have hS := HKP.out ((W.drew).alloc (.cells #[.slice none 0 0, .slice none 0 0, .int .i64 0] 45)) (((Upd.refl [] W).drew).alloc _)
      refine ⟨.inr hS, ?_⟩
      simp only [Act.put, List.setIfInBounds_toArray, List.set_cons_succ, List.set_cons_zero]
      refine wpAnyK_one (i := 5) (by kernel_rfl) ?_
      refine opd_call (d := some 13) (R := fun v W2 => ∃ va vc, v = .slice va n vc ∧ W2.ownsRow (W.drew.alloc (.cells #[.slice none 0 0, .slice none 0 0, .int .i64 0] 45)).heap.size 52 4 (.slice va n vc) n (flatS sb) ∧ Upd [] (W.drew.alloc (.cells #[.slice none 0 0, .slice none 0 0, .int .i64 0] 45)) W2) rfl rfl (by kernel_rfl) (by simp [execOp, Act.eval, go_sem]) ((HCS.out (W.drew.alloc (.cells #[.slice none 0 0, .slice none 0 0, .int .i64 0] 45)) ((Upd.refl [] W).drew.alloc _)).mono fun e W2 h => by obtain ⟨va, vc, h1, h2⟩ := h; exact ⟨_, h1, va, vc, rfl, h2⟩) ?_
      rintro _ W2 ⟨va, vc, rfl, hos, hu2⟩
      have hU2 : Upd [] W W2 := ((Upd.refl [] W).drew.alloc _).thn hu2
      have hS := HKP.out W2 hU2
      refine ⟨.inr hS, ?_⟩
      simp only [Act.put, List.setIfInBounds_toArray, List.set_cons_succ, List.set_cons_zero]
      refine wpAnyK_one (i := 11) (by kernel_rfl) ?_
      refine opd_call (d := some 19) (R := fun v W3 => ∃ vb vd, v = .slice vb m vd ∧ W3.ownsRow (W2).heap.size 3 1 (.slice vb m vd) m (a.id.map (Value.int .i64)) ∧ Upd [] (W2) W3) rfl rfl (by kernel_rfl) (by simp [execOp, Act.eval, go_sem]) ((HCI.out (W2) (hU2)).mono fun e W3 h => by obtain ⟨vb, vd, h1, h2⟩ := h; exact ⟨_, h1, vb, vd, rfl, h2⟩) ?_
      rintro _ W3 ⟨vb, vd, rfl, hoi, hu3⟩
      have hU3 : Upd [] W W3 := (hU2).thn hu3
      have hS := HKP.out W3 hU3
      refine ⟨.inr hS, ?_⟩
      simp only [Act.put, List.setIfInBounds_toArray, List.set_cons_succ, List.set_cons_zero]
      refine wpAnyK_take (i := 17) (d := some 25) (v := .agg #[.slice va n vc, .slice vb m vd, .int .i64 a.nx]) rfl rfl (by kernel_rfl) (fun _ _ _ h => h) (.inl ⟨rfl, fun wz hz => by simp [execOp, Act.eval, go_sem]⟩) hS ?_
      simp only [Act.put, List.setIfInBounds_toArray, List.set_cons_succ, List.set_cons_zero]
      have hq : W3.heap[W.heap.size]? = some (.cells #[.slice none 0 0, .slice none 0 0, .int .i64 0] 45) := hu3.at (hu2.at (heap_alloc1 W.drew (.cells #[.slice none 0 0, .slice none 0 0, .int .i64 0] 45)) (by simp)) (by simp)
      obtain ⟨z0, z1, z2⟩ := free3 hq
      obtain ⟨y0, y1, y2⟩ := cells3 hq
      refine wpAnyK_skip (i := 19) (d := none) (w' := ((W3.setCell ⟨W.heap.size, 0, none⟩ (.slice va n vc)).setCell ⟨W.heap.size, 1, none⟩ (.slice vb m vd)).setCell ⟨W.heap.size, 2, none⟩ (.int .i64 a.nx)) rfl rfl (by kernel_rfl) rfl (by simp [execOp, Act.eval, go_sem, y0, y1, y2, z0, z1, z2]) (.inl rfl) ?_
      have hbs : W.heap.size ≤ (W.drew.alloc (.cells #[.slice none 0 0, .slice none 0 0, .int .i64 0] 45)).heap.size := ((Upd.refl [] W).drew.alloc _).size
      have hbi : W.heap.size ≤ W2.heap.size := hU2.size
      have hos3 := row_base (hu3.row hos (by simp)) (show W.heap.size ≤ _ from hbs)
      have hoi3 := row_base hoi (show W.heap.size ≤ _ from hbi)
      refine wpAnyK_done (by kernel_rfl) ?_ _
      have hfin := abox_at (nx := a.nx) hU3 hos3 hoi3 hq (Nat.le_refl _)
      with_reducible generalize ((W3.setCell ⟨W.heap.size, 0, none⟩ (.slice va n vc)).setCell ⟨W.heap.size, 1, none⟩ (.slice vb m vd)).setCell ⟨W.heap.size, 2, none⟩ (.int .i64 a.nx) = W4 at hfin ⊢
      simp only [Act.put]
      go_wp2_with fail
      go_meet
      case rel => exact ⟨_, va, vb, vc, vd, rfl, hfin⟩
  case rest =>
    obtain ⟨Q, va, vb, vc, vd, rfl, HAB⟩ := hcut
    have hsr := HAB.out.sl
    obtain ⟨G, cap, ev, hGge, hheld⟩ := heldS_row hsr (by rw [← HSB.out, List.length_map]; exact HNN.out) (by omega)
    simp only [Value.slice.injEq] at ev
    obtain ⟨rfl, -, rfl⟩ := ev
    rw [← HSB.out, ← partS_zero] at hheld
    have HH0 := Lib.hid hheld
    have hGlt := hheld.lt
    have hQG : Q ≠ G := by
      obtain ⟨cur, hg, -⟩ := hheld.ex
      exact ne_block HAB.out.blk hg (by decide)
    have HQG := Lib.hid hQG; have HGE := Lib.hid hGge
    obtain ⟨x0, -, -⟩ := cells3 HAB.out.blk
    clear c1 c2 c3 HCS HCI hsr hheld hGge hQG
    go_upto_region 4 with (fail)
    clear x0
    go_loopg [29] n (fun gk vi wr => ∃ k : Nat, vi = .int .i64 k ∧ k + gk = n ∧ Hid (HeldS wr G vc (partS a.sl k)) ∧ Hid (Upd [G] wc wr))
    case atStart => exact ⟨0, rfl, by omega, HH0, Upd.refl _ _⟩
    case round =>
    obtain ⟨k, rfl, hkg, HPK, HUR⟩ := hrel
    have HUW : Hid (Upd [] w wr) := (HU0.out.thn HAB.out.upd).new HUR.out (by have := HGE.out; have := HU0.out.size; omega)
    have hq := HUR.out.at HAB.out.blk (by simpa using HQG.out)
    obtain ⟨x0, x1, x2⟩ := cells3 hq
    by_cases hlt : k < n
    · have hltz : (k : Int) < (n : Int) := by omega
      have hk1 : k < a.sl.length := by have := HNN.out; omega
      have hok := HR.out.ok _ (List.getElem_mem hk1)
      have HWD := Lib.hid (word_at (HIN.out.stay HUW.out) HS.out k _ (HR.out.ws k hk1))
      have HGEN := Lib.hid (hGen_in (wordS a.sl[k]) (by unfold wordS; omega))
      have HST := Lib.hid (hState_in (wordS a.sl[k]) (by unfold wordS; omega))
      rw [show wordS a.sl[k] / 4 = a.sl[k].g by unfold wordS; omega] at HGEN
      rw [show wordS a.sl[k] % 4 = a.sl[k].s by unfold wordS; omega] at HST
      generalize wordS a.sl[k] = wd at *
      have HTWO := Lib.hid (fun V (hv : HeldS V G vc (partS a.sl k)) => HeldS.two hv k (by rw [partS_len]; exact hk1) a.sl[k].g a.sl[k].s (s := a.sl[k]) (by rw [partS_at hk1]; rfl))
      rw [partS_set hk1] at HTWO
      obtain ⟨f0, f1, -, -⟩ := flatS_at (partS a.sl k) k (by rw [partS_len]; exact hk1)
      obtain ⟨y0, z0⟩ := HPK.out.cell _ _ f0
      obtain ⟨y1, z1⟩ := HPK.out.cell _ _ f1
      generalize a.sl[k].g = gg at *
      generalize a.sl[k].s = ss at *
      clear f0 f1 hok
      go_upto_region 7 with (go_at_call 40; go_loud ((with_reducible refine HWD.out.mono ?_); rintro e w' ⟨rfl, rfl⟩))
      have HKQ : Hid (∀ V, Upd [G] wr V → V.cell? ⟨Q, 0, none⟩ = some (.slice (some ⟨G, 0, none⟩) n vc)) := fun V hv => hv.cell x0 (by simpa using HQG.out)
      clear x1 x2 hq
      go_region_held3 (fun wz => wz.cell? ⟨Q, 0, none⟩ = some (.slice (some ⟨G, 0, none⟩) n vc)) (first | exact x0 | (refine HKQ.out _ ?_; (repeat (first | exact Upd.refl _ _ | refine Upd.drew ?_ | refine Upd.setCell ?_ (by simp) _)))) (first | (go_at_call 39; (with_reducible refine (HGEN.out _).mono ?_); rintro e w' ⟨rfl, rfl⟩) | (go_at_call 46; (with_reducible refine (HST.out _).mono ?_); rintro e w' ⟨rfl, rfl⟩))
      all_goals go_wp2_with fail
      have hp2 := HTWO.out wr HPK.out
      have hu2 := ((Upd.refl [G] wr).setCell (p := ⟨G, k * 4, none⟩) (fun _ => by simp) (.int .i64 gg)).setCell (p := ⟨G, k * 4 + 1, none⟩) (fun _ => by simp) (.int .i64 ss)
      with_reducible generalize (wr.setCell ⟨G, k * 4, none⟩ (.int .i64 gg)).setCell ⟨G, k * 4 + 1, none⟩ (.int .i64 ss) = w2 at hp2 hu2 ⊢
      go_roundg (gk - 1)
      case measure => omega
      case rel => exact ⟨k + 1, by go_num, by omega, hp2.keep (Upd.refl [] w2).drew (by simp), (HUR.out.trans hu2 (fun x hx _ => hx)).drew⟩
    · have hltz : ¬ (k : Int) < (n : Int) := by omega
      obtain rfl : k = n := by omega
      have hz := HUR.out.at (HAB.out.upd.at HZ.out (by simp)) (by have h1 := lt_block HZ.out; have h2 := HGE.out; simp; omega)
      have HZ2 := Lib.hid hz
      obtain ⟨e0, e1, e2⟩ := cells3 hz
      obtain ⟨f0, f1, f2⟩ := free3 hz
      clear hz hq
      go_wp2_with fail
      have p2 := stored3 HZ2.out (.slice (some ⟨G, 0, none⟩) k vc) (.slice vb m vd) (.int .i64 a.nx)
      have hU5 := upd_set3 wr H (.slice (some ⟨G, 0, none⟩) k vc) (.slice vb m vd) (.int .i64 a.nx)
      with_reducible generalize ((wr.setCell ⟨H, 0, none⟩ (.slice (some ⟨G, 0, none⟩) k vc)).setCell ⟨H, 1, none⟩ (.slice vb m vd)).setCell ⟨H, 2, none⟩ (.int .i64 a.nx) = w5 at p2 hU5 ⊢
      obtain ⟨r0, r1, r2⟩ := cells3 p2
      have hGH : G ≠ H := by have h1 := lt_block HZ.out; have h2 := HGE.out; omega
      have hrow := HAB.out.id
      have hrow2 := HUR.out.row hrow (fun x hx hm => by
        obtain ⟨cur, hg, -⟩ := HH0.out.ex
        exact ne_own hg hrow (by decide) (by rw [← List.mem_singleton.1 hm]; exact hx))
      have hrow3 := hU5.row hrow2 (fun x hx hm => ne_own HZ2.out hrow2 (by decide) (by rw [← List.mem_singleton.1 hm]; exact hx))
      obtain ⟨vb2, vd2, ev, hi5, hl5, hn5, hb5⟩ := row_ints hrow3
      simp only [Value.slice.injEq, true_and] at ev
      obtain ⟨rfl, rfl⟩ := ev
      have hp5 := HPK.out.keep hU5 (by simpa using hGH)
      rw [HNN.out, partS_all] at hp5
      have hhh := HH.out
      exact bodyPost_ret (v := .agg #[.slice (some ⟨G, 0, none⟩) k vc, .slice vb m vd, .int .i64 a.nx]) (by simp [results, Tryz.results15, go_sem, r0, r1, r2]) rfl ⟨⟨a, some ⟨G, 0, none⟩, vc, vb, vd⟩, by simp only [encA]; rw [← HNN.out, ← HMM.out], rfl, ⟨hp5.slots, hi5, hp5.le, by rw [← HMM.out]; exact hl5, fun e => by simp at e, hn5⟩, fun b hbw => ⟨fun _ ad e => by rw [← Option.some.inj e]; have h2 := HGE.out; have h3 := HU0.out.size; simp only; omega, fun _ ad e => by have h2 := hb5 ad e; have h3 := HU0.out.size; omega⟩, HUW.out.new hU5 (by omega)⟩
end Go.Proofs.YtmfnfinbkdemkaaGreat
