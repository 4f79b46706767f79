
/- Contract: the program's ladderRun of layer 9: measure. -/
import Derived.Test.YtpabapjodcafkaaGreatYM
import Derived.Test.YtpabapjodcafkaaGreatGE
import Derived.Test.YtpabapjodcafkaaGreatK
namespace Go.Proofs.YtpabapjodcafkaaGreat
open Go.RowKit Go.Lib

/-- The cells of a ladderRun. -/
def cellsP (i p m c : Int) (d x : Nat) (l : LdR) (res : Value) : Array Value := #[.int .i64 i, .int .i64 p, .int .i64 m, .int .i64 c, .int .i64 (d : Nat), .int .i64 (x : Nat), .int .i64 l.ts, .slice l.top.ad l.top.l.length l.top.cap, .slice l.rs.ad l.rs.l.length l.rs.cap, .slice l.bot.ad l.bot.l.length l.bot.cap, .int .i64 l.mv, .int .i64 l.cp, res]
section
variable {P : Program} {ops : Array Oper} {Q : Exit → Act → World → Prop} {md : Region.Mode} {S : World → Prop} {k : Nat}
/-- A call that alone may come up. -/
theorem anyK_fn {i : Nat} {o : Oper} {d : Option Tmp} {fuel : Nat} {listed : Array Bool} {a : Act} {w : World} {f : FuncId} {args : Array Value} {R : Value → World → Prop} (hi : ops[i]? = some o) (hd : o.dst = d) (hr : Region.ready md ops listed = [i]) (hw : Region.wanted o (yielded ops a.tmps) = true)
    (hrun : (execOp a.eval o).run P w = .ok (.enter f args) w) (hc : Calls P f args w fun e w' => ∃ v, e = .returned v ∧ R v w')
    (hR : ∀ v w', R v w' → (i = k ∨ S w') ∧ wpAnyK P md ops Q S k fuel (listed.setIfInBounds i true) (a.put d v) w') : wpAnyK P md ops Q S k (fuel + 1) listed a w := by
  subst hd
  refine wpAnyK_one hr (wpOp_wp hi hw ?_)
  unfold Oper.wp
  rw [hrun]
  show Calls P f args w _
  refine hc.mono ?_
  rintro e w' ⟨v, rfl, h⟩
  exact hR v w' h
end
theorem cells13 {w : World} {b : Nat} {a0 a1 a2 a3 a4 a5 a6 a7 a8 a9 a10 a11 a12 : Value} {t : TypeId} {f : Nat × Nat} (h : w.heap[b]? = some (.cells #[a0, a1, a2, a3, a4, a5, a6, a7, a8, a9, a10, a11, a12] t f)) :
    w.cell? ⟨b, 0, none⟩ = some a0 ∧ w.cell? ⟨b, 1, none⟩ = some a1 ∧ w.cell? ⟨b, 2, none⟩ = some a2 ∧ w.cell? ⟨b, 3, none⟩ = some a3 ∧ w.cell? ⟨b, 4, none⟩ = some a4 ∧ w.cell? ⟨b, 5, none⟩ = some a5 ∧ w.cell? ⟨b, 6, none⟩ = some a6 ∧ w.cell? ⟨b, 7, none⟩ = some a7 ∧ w.cell? ⟨b, 8, none⟩ = some a8 ∧ w.cell? ⟨b, 9, none⟩ = some a9 ∧ w.cell? ⟨b, 10, none⟩ = some a10 ∧ w.cell? ⟨b, 11, none⟩ = some a11 ∧ w.cell? ⟨b, 12, none⟩ = some a12 :=
  ⟨cell_block h 0, cell_block h 1, cell_block h 2, cell_block h 3, cell_block h 4, cell_block h 5, cell_block h 6, cell_block h 7, cell_block h 8, cell_block h 9, cell_block h 10, cell_block h 11, cell_block h 12⟩
theorem free13 {w : World} {b : Nat} {c : Array Value} {t : TypeId} (h : w.heap[b]? = some (.cells c t (0, 0))) :
    w.frozen? ⟨b, 0, none⟩ = false ∧ w.frozen? ⟨b, 1, none⟩ = false ∧ w.frozen? ⟨b, 2, none⟩ = false ∧ w.frozen? ⟨b, 3, none⟩ = false ∧ w.frozen? ⟨b, 4, none⟩ = false ∧ w.frozen? ⟨b, 5, none⟩ = false ∧ w.frozen? ⟨b, 6, none⟩ = false ∧ w.frozen? ⟨b, 7, none⟩ = false ∧ w.frozen? ⟨b, 8, none⟩ = false ∧ w.frozen? ⟨b, 9, none⟩ = false ∧ w.frozen? ⟨b, 10, none⟩ = false ∧ w.frozen? ⟨b, 11, none⟩ = false ∧ w.frozen? ⟨b, 12, none⟩ = false :=
  ⟨free_block h 0, free_block h 1, free_block h 2, free_block h 3, free_block h 4, free_block h 5, free_block h 6, free_block h 7, free_block h 8, free_block h 9, free_block h 10, free_block h 11, free_block h 12⟩
set_option maxRecDepth 100000 in
set_option maxHeartbeats 8000000 in
theorem measure_has (P : Nat) (i p m c : Int) (d x : Nat) (l : LdR) (res : Value) (w : World) (hb : w.heap[P]? = some (.cells (cellsP i p m c d x l res) 45 (0, 0))) (hD : HasD w l) (hA : AvD l P)
    (hlen : ∀ W, HasD W l → Calls Tryz.prog 40 #[encD l] W fun e w' => e = .returned (.int .i64 (lenD l.ld : Nat)) ∧ Upd [] W w') :
    Calls Tryz.prog 26 #[.pointer (some ⟨P, 0, none⟩)] w fun e w' => e = .returned (.tuple #[]) ∧ w'.heap[P]? = some (.cells (cellsP i p l.mv l.cp (max d l.rs.l.length) (max x (lenD l.ld)) l res) 45 (0, 0)) ∧ Upd [P] w w' := by
  have HD := Lib.hid hD; have HA := Lib.hid hA; have HL := Lib.hid hlen
  unfold cellsP at hb ⊢
  unfold encD cellsD at HL
  have HM1 : Hid (((max d l.rs.l.length : Nat) : Int) = max (d : Int) (l.rs.l.length : Int)) := Lib.hid (by omega)
  have HM2 : Hid (((max x (lenD l.ld) : Nat) : Int) = max (x : Int) (lenD l.ld : Nat)) := Lib.hid (by omega)
  rw [HM1.out, HM2.out]
  generalize lenD l.ld = N at *
  have HB := Lib.hid hb
  clear hD hA hlen hb
  go_enter Tryz.func26, Tryz.ntmps26
  obtain ⟨c0, c1, c2, c3, c4, c5, c6, c7, c8, c9, c10, c11, c12⟩ := cells13 HB.out
  obtain ⟨f0, f1, f2, f3, f4, f5, f6, f7, f8, f9, f10, f11, f12⟩ := free13 HB.out
  clear c0 c1 c4 c5 c6 c7 c8 c9 c12 f0 f1 f4 f5 f6 f7 f8 f9 f10 f11 f12
  go_upto_region 1 with (fail)
  go_region
  have p1 : (((w.setCell ⟨P, 2, none⟩ (.int .i64 l.mv)).setCell ⟨P, 3, none⟩ (.int .i64 l.cp)).drew).heap[P]? = some (.cells #[.int .i64 i, .int .i64 p, .int .i64 l.mv, .int .i64 l.cp, .int .i64 (d : Nat), .int .i64 (x : Nat), .int .i64 l.ts, .slice l.top.ad l.top.l.length l.top.cap, .slice l.rs.ad l.rs.l.length l.rs.cap, .slice l.bot.ad l.bot.l.length l.bot.cap, .int .i64 l.mv, .int .i64 l.cp, res] 45 (0, 0)) := setCell_block (setCell_block HB.out _) _
  have u1 : Upd [P] w (((w.setCell ⟨P, 2, none⟩ (.int .i64 l.mv)).setCell ⟨P, 3, none⟩ (.int .i64 l.cp)).drew) := ((upd_set1 w P 2 _).trans (upd_set1 _ P 3 _) (fun x hx _ => hx)).drew
  with_reducible generalize ((w.setCell ⟨P, 2, none⟩ (.int .i64 l.mv)).setCell ⟨P, 3, none⟩ (.int .i64 l.cp)).drew = W1 at p1 u1 ⊢
  have HB1 := Lib.hid p1; have HU1 := Lib.hid u1
  clear p1 u1 c2 c3 c10 c11 f2 f3
  obtain ⟨c0, c1, c2, c3, c4, c5, c6, c7, c8, c9, c10, c11, c12⟩ := cells13 HB1.out
  obtain ⟨f0, f1, f2, f3, f4, f5, f6, f7, f8, f9, f10, f11, f12⟩ := free13 HB1.out
  clear c0 c1 c2 c3 c5 c6 c7 c9 c10 c11 c12 f0 f1 f2 f3 f5 f6 f7 f8 f9 f10 f11 f12
  go_upto_region 1 with (fail)
  go_region
  have p1 : ((W1.setCell ⟨P, 4, none⟩ (.int .i64 (max (d : Int) (l.rs.l.length : Nat)))).drew).heap[P]? = some (.cells #[.int .i64 i, .int .i64 p, .int .i64 l.mv, .int .i64 l.cp, .int .i64 (max (d : Int) (l.rs.l.length : Nat)), .int .i64 (x : Nat), .int .i64 l.ts, .slice l.top.ad l.top.l.length l.top.cap, .slice l.rs.ad l.rs.l.length l.rs.cap, .slice l.bot.ad l.bot.l.length l.bot.cap, .int .i64 l.mv, .int .i64 l.cp, res] 45 (0, 0)) := setCell_block HB1.out _
  have u1 : Upd [P] w ((W1.setCell ⟨P, 4, none⟩ (.int .i64 (max (d : Int) (l.rs.l.length : Nat)))).drew) := (HU1.out.trans (upd_set1 W1 P 4 _) (fun x hx _ => hx)).drew
  with_reducible generalize (W1.setCell ⟨P, 4, none⟩ (.int .i64 (max (d : Int) (l.rs.l.length : Nat)))).drew = W2 at p1 u1 ⊢
  have HB2 := Lib.hid p1; have HU2 := Lib.hid u1
  clear p1 u1 c4 c8 f4
  obtain ⟨c0, c1, c2, c3, c4, c5, c6, c7, c8, c9, c10, c11, c12⟩ := cells13 HB2.out
  obtain ⟨f0, f1, f2, f3, f4, f5, f6, f7, f8, f9, f10, f11, f12⟩ := free13 HB2.out
  clear c0 c1 c2 c3 c4 c12 f0 f1 f2 f3 f4 f6 f7 f8 f9 f10 f11 f12
  go_upto_region 2 with (fail)
  have HKP : Hid (∀ V, Upd [] W2 V → (V.cell? ⟨P, 6, none⟩ = some (.int .i64 l.ts) ∧ V.cell? ⟨P, 7, none⟩ = some (.slice l.top.ad l.top.l.length l.top.cap) ∧ V.cell? ⟨P, 8, none⟩ = some (.slice l.rs.ad l.rs.l.length l.rs.cap) ∧ V.cell? ⟨P, 9, none⟩ = some (.slice l.bot.ad l.bot.l.length l.bot.cap) ∧ V.cell? ⟨P, 10, none⟩ = some (.int .i64 l.mv) ∧ V.cell? ⟨P, 11, none⟩ = some (.int .i64 l.cp) ∧ V.cell? ⟨P, 5, none⟩ = some (.int .i64 (x : Nat)))) := fun V hu => ⟨hu.cell c6 (by simp), hu.cell c7 (by simp), hu.cell c8 (by simp), hu.cell c9 (by simp), hu.cell c10 (by simp), hu.cell c11 (by simp), hu.cell c5 (by simp)⟩
  have hS := HKP.out W2.drew (Upd.refl [] W2).drew
  refine wp_region_K (fun V => (V.cell? ⟨P, 6, none⟩ = some (.int .i64 l.ts) ∧ V.cell? ⟨P, 7, none⟩ = some (.slice l.top.ad l.top.l.length l.top.cap) ∧ V.cell? ⟨P, 8, none⟩ = some (.slice l.rs.ad l.rs.l.length l.rs.cap) ∧ V.cell? ⟨P, 9, none⟩ = some (.slice l.bot.ad l.bot.l.length l.bot.cap) ∧ V.cell? ⟨P, 10, none⟩ = some (.int .i64 l.mv) ∧ V.cell? ⟨P, 11, none⟩ = some (.int .i64 l.cp) ∧ V.cell? ⟨P, 5, none⟩ = some (.int .i64 (x : Nat)))) 15 mixed ?_
  refine wpAnyK_take (i := 0) (d := some 36) (v := .pointer (some ⟨P, 0, none⟩)) rfl rfl (by kernel_rfl) (fun _ _ _ h => h) (.inl ⟨rfl, fun wz hz => rfl⟩) hS ?_
  simp only [Act.put, List.setIfInBounds_toArray, List.set_cons_succ, List.set_cons_zero]
  refine wpAnyK_take (i := 1) (d := some 37) (v := .pointer (some ⟨P, 0, none⟩)) rfl rfl (by kernel_rfl) (fun _ _ _ h => h) (.inl ⟨rfl, fun wz hz => rfl⟩) hS ?_
  simp only [Act.put, List.setIfInBounds_toArray, List.set_cons_succ, List.set_cons_zero]
  refine wpAnyK_take (i := 2) (d := some 38) (v := .pointer (some ⟨P, 0, none⟩)) rfl rfl (by kernel_rfl) (fun _ _ _ h => h) (.inl ⟨rfl, fun wz hz => by simp [execOp, Act.eval, go_sem]⟩) hS ?_
  simp only [Act.put, List.setIfInBounds_toArray, List.set_cons_succ, List.set_cons_zero]
  refine wpAnyK_take (i := 3) (d := some 39) (v := .pointer (some ⟨P, 0, none⟩)) rfl rfl (by kernel_rfl) (fun _ _ _ h => h) (.inl ⟨rfl, fun wz hz => by simp [execOp, Act.eval, go_sem]⟩) hS ?_
  simp only [Act.put, List.setIfInBounds_toArray, List.set_cons_succ, List.set_cons_zero]
  refine wpAnyK_take (i := 4) (d := some 40) (v := .pointer (some ⟨P, 5, none⟩)) rfl rfl (by kernel_rfl) (fun _ _ _ h => h) (.inl ⟨rfl, fun wz hz => by simp [execOp, Act.eval, go_sem]⟩) hS ?_
  simp only [Act.put, List.setIfInBounds_toArray, List.set_cons_succ, List.set_cons_zero]
  refine wpAnyK_take (i := 5) (d := some 41) (v := .int .i64 (x : Nat)) rfl rfl (by kernel_rfl) (fun _ _ _ h => h) (.inl ⟨rfl, fun wz hz => by simp [execOp, Act.eval, go_sem, hz.2.2.2.2.2.2]⟩) hS ?_
  simp only [Act.put, List.setIfInBounds_toArray, List.set_cons_succ, List.set_cons_zero]
  refine wpAnyK_take (i := 6) (d := some 42) (v := .pointer (some ⟨P, 0, none⟩)) rfl rfl (by kernel_rfl) (fun _ _ _ h => h) (.inl ⟨rfl, fun wz hz => rfl⟩) hS ?_
  simp only [Act.put, List.setIfInBounds_toArray, List.set_cons_succ, List.set_cons_zero]
  refine wpAnyK_take (i := 7) (d := some 43) (v := .pointer (some ⟨P, 0, none⟩)) rfl rfl (by kernel_rfl) (fun _ _ _ h => h) (.inl ⟨rfl, fun wz hz => by simp [execOp, Act.eval, go_sem]⟩) hS ?_
  simp only [Act.put, List.setIfInBounds_toArray, List.set_cons_succ, List.set_cons_zero]
  refine wpAnyK_take (i := 8) (d := some 44) (v := .pointer (some ⟨P, 6, none⟩)) rfl rfl (by kernel_rfl) (fun _ _ _ h => h) (.inl ⟨rfl, fun wz hz => by simp [execOp, Act.eval, go_sem]⟩) hS ?_
  simp only [Act.put, List.setIfInBounds_toArray, List.set_cons_succ, List.set_cons_zero]
  refine wpAnyK_take (i := 9) (d := some 45) (v := .agg #[.int .i64 l.ts, .slice l.top.ad l.top.l.length l.top.cap, .slice l.rs.ad l.rs.l.length l.rs.cap, .slice l.bot.ad l.bot.l.length l.bot.cap, .int .i64 l.mv, .int .i64 l.cp]) rfl rfl (by kernel_rfl) (fun _ _ _ h => h) (.inl ⟨rfl, fun wz hz => by simp [execOp, Act.eval, go_sem, hz.1, hz.2.1, hz.2.2.1, hz.2.2.2.1, hz.2.2.2.2.1, hz.2.2.2.2.2.1]⟩) hS ?_
  simp only [Act.put, List.setIfInBounds_toArray, List.set_cons_succ, List.set_cons_zero]
  refine anyK_fn (i := 10) (d := some 46) (R := fun v W3 => v = .int .i64 (N : Nat) ∧ Upd [] W2.drew W3) rfl rfl (by kernel_rfl) rfl (by simp [execOp, Act.eval, go_sem]) ((HL.out W2.drew (HD.out.keep1 HU2.out.drew HA.out)).mono fun e W3 h => ⟨_, h.1, rfl, h.2⟩) ?_
  rintro _ W8 ⟨rfl, hu8⟩
  have hU8 : Upd [] W2 W8 := (Upd.refl [] W2).drew.thn hu8
  have hS8 := HKP.out W8 hU8
  refine ⟨.inr hS8, ?_⟩
  simp only [Act.put, List.setIfInBounds_toArray, List.set_cons_succ, List.set_cons_zero]
  refine wpAnyK_value (i := 11) (d := some 47) (v := .int .i64 (max (x : Int) (N : Nat))) (w' := W8) rfl rfl (by kernel_rfl) rfl (by simp [execOp, Act.eval, go_sem]) (.inr hS8) ?_
  simp only [Act.put, List.setIfInBounds_toArray, List.set_cons_succ, List.set_cons_zero]
  refine wpAnyK_value (i := 12) (d := some 48) (v := .pointer (some ⟨P, 0, none⟩)) (w' := W8) rfl rfl (by kernel_rfl) rfl (by simp [execOp, Act.eval, go_sem]) (.inr hS8) ?_
  simp only [Act.put, List.setIfInBounds_toArray, List.set_cons_succ, List.set_cons_zero]
  refine wpAnyK_value (i := 13) (d := some 49) (v := .pointer (some ⟨P, 0, none⟩)) (w' := W8) rfl rfl (by kernel_rfl) rfl (by simp [execOp, Act.eval, go_sem]) (.inr hS8) ?_
  simp only [Act.put, List.setIfInBounds_toArray, List.set_cons_succ, List.set_cons_zero]
  refine wpAnyK_value (i := 14) (d := some 50) (v := .pointer (some ⟨P, 5, none⟩)) (w' := W8) rfl rfl (by kernel_rfl) rfl (by simp [execOp, Act.eval, go_sem]) (.inr hS8) ?_
  simp only [Act.put, List.setIfInBounds_toArray, List.set_cons_succ, List.set_cons_zero]
  have y5 := hU8.cell c5 (by simp)
  have z5 := (free13 (hU8.at HB2.out (by simp))).2.2.2.2.2.1
  refine wpAnyK_skip (i := 15) (d := none) (w' := W8.setCell ⟨P, 5, none⟩ (.int .i64 (max (x : Int) (N : Nat)))) rfl rfl (by kernel_rfl) rfl (by simp [execOp, Act.eval, go_sem, y5, z5]) (.inl rfl) ?_
  refine wpAnyK_done (by kernel_rfl) ?_ _
  have p3 : (W8.setCell ⟨P, 5, none⟩ (.int .i64 (max (x : Int) (N : Nat)))).heap[P]? = some (.cells #[.int .i64 i, .int .i64 p, .int .i64 l.mv, .int .i64 l.cp, .int .i64 (max (d : Int) (l.rs.l.length : Nat)), .int .i64 (max (x : Int) (N : Nat)), .int .i64 l.ts, .slice l.top.ad l.top.l.length l.top.cap, .slice l.rs.ad l.rs.l.length l.rs.cap, .slice l.bot.ad l.bot.l.length l.bot.cap, .int .i64 l.mv, .int .i64 l.cp, res] 45 (0, 0)) := setCell_block (hU8.at HB2.out (by simp)) _
  have hU9 : Upd [P] w (W8.setCell ⟨P, 5, none⟩ (.int .i64 (max (x : Int) (N : Nat)))) := (HU2.out.trans hU8 (by simp)).trans (upd_set1 W8 P 5 _) (fun x hx _ => hx)
  with_reducible generalize W8.setCell ⟨P, 5, none⟩ (.int .i64 (max (x : Int) (N : Nat))) = W9 at p3 hU9 ⊢
  have HFIN := Lib.hid (And.intro p3 hU9)
  clear hS hS8 hu8 hU8 y5 z5 c5 c6 c7 c8 c9 c10 c11 f5 p3 hU9 HKP HL
  simp only [Act.put]
  go_wp2_with fail
  go_end0
  exact ⟨rfl, HFIN.out⟩
end Go.Proofs.YtpabapjodcafkaaGreat
