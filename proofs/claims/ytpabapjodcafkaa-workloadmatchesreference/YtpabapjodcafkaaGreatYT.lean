/- Contract: the program's listRun of layer 9: insert, remove. -/
/- Contract: the program's Sorted of layer 9. -/
import Derived.Test.YtpabapjodcafkaaGreatYR
import Derived.Test.YtpabapjodcafkaaGreatPY
namespace Go.Proofs.YtpabapjodcafkaaGreat
open Go.RowKit Go.Lib

/-- A listRun in the block P: what is pending, what is out. -/
structure LisP (b0 P : Nat) (q out : List It) (wr : World) (pa : Option Addr) (pc : Nat) (oa : Option Addr) (oc : Nat) : Prop where
  box : wr.heap[P]? = some (.cells #[.slice pa q.length pc, .slice oa out.length oc] 54 (0, 0))
  q : PendR b0 wr q pa pc
  o : PendR b0 wr out oa oc
  ne : ∀ x ∈ blkA pa pc, x ∉ blkA oa oc
theorem LisP.stay {b0 P : Nat} {q out : List It} {wr w2 : World} {pa oa : Option Addr} {pc oc : Nat} (h : LisP b0 P q out wr pa pc oa oc) (hu : Upd [] wr w2) : LisP b0 P q out w2 pa pc oa oc :=
  ⟨hu.at h.box (by simp), h.q.keep hu (by simp), h.o.keep hu (by simp), h.ne⟩
def LisI (b0 P : Nat) (q out : List It) (S : List Nat) (w w' : World) : Prop := ∃ pa pc oa oc, LisP b0 P q out w' pa pc oa oc ∧ Upd S w w'
theorem blk_new {w : World} {ad ad' : Option Addr} {cap cap' : Nat} (h : ad' = ad ∧ cap' = cap ∨ ∃ g, ad' = some ⟨g, 0, none⟩ ∧ w.heap.size ≤ g) : ∀ x ∈ blkA ad' cap', x ∈ blkA ad cap ∨ w.heap.size ≤ x := fun x hx => by
  rcases h with ⟨rfl, rfl⟩ | ⟨g, rfl, hg⟩
  · exact .inl hx
  · unfold blkA at hx
    simp only at hx
    split at hx
    · simp at hx
    · obtain rfl : x = g := by simpa using hx
      exact .inr hg
set_option maxRecDepth 100000 in
set_option maxHeartbeats 8000000 in
theorem llInsert_has (b0 P : Nat) (q out : List It) (pa oa : Option Addr) (pc oc : Nat) (it : It) (w : World) (hR : LisP b0 P q out w pa pc oa oc) (hs : SortedI q) (hd : ∀ x ∈ q, ¬ eqK it x) (hl : q.length ≤ 100000) (hbs : b0 ≤ w.heap.size) :
    Calls Tryz.prog 23 #[.pointer (some ⟨P, 0, none⟩), aggI it] w fun e w' => e = .returned (.tuple #[]) ∧ LisI b0 P (plI q it) out (P :: blkA pa pc) w w' := by
  have HSE := Lib.hid (fun W (hu : Upd [] w W) => (Search_has pa pc q it W ((hR.q.has.row).stay hu) (by omega) hs).mono (R' := fun e w' => ∃ (p : Nat) (b : Bool), e = .returned (.tuple #[.int .i64 p, .bool b]) ∧ p ≤ q.length ∧ q.take p ++ it :: q.drop p = plI q it ∧ Upd [] W w') (fun e w' h => by
    obtain ⟨p, b, h1, h2, h3, h4, h5⟩ := h
    exact ⟨p, b, h1, h2, found_pl h2 h3 h4 hd, h5⟩))
  have HIN := Lib.hid (fun (p vb : Nat) W (hu : Upd [] w W) hp hv hn => PInsert_has b0 vb p q it pa pc W hp (hR.q.keep hu (by simp)) hl hv hn (Nat.le_trans hbs hu.size))
  have HFIN : Hid (∀ (p : Nat) pa' pc' W W2, Upd [] w W → PendR b0 W2 (q.take p ++ it :: q.drop p) pa' pc' → Upd (blkA pa pc) W W2 → (pa' = pa ∧ pc' = pc ∨ ∃ g, pa' = some ⟨g, 0, none⟩ ∧ W.heap.size ≤ g) → q.take p ++ it :: q.drop p = plI q it → LisI b0 P (plI q it) out (P :: blkA pa pc) w (W2.setCell ⟨P, 0, none⟩ (.slice pa' (q.length + 1) pc'))) := fun p pa' pc' W W2 hu hp hi hw he => by
    have hnP : P ∉ blkA pa pc := fun h => hR.q.ne2 hR.box (by decide) P h rfl
    have hb2 := hi.at (hu.at hR.box (by simp)) hnP
    have hU := upd_set1 W2 P 0 (.slice pa' (q.length + 1) pc')
    have ho2 := (hR.o.keep hu (by simp)).keep hi (fun x hx hm => hR.ne x hm hx)
    refine ⟨pa', pc', oa, oc, ⟨?_, ?_, ?_, fun x hx hm => ?_⟩, ?_⟩
    · have h4 : (W2.setCell ⟨P, 0, none⟩ (.slice pa' (q.length + 1) pc')).heap[P]? = some (.cells #[.slice pa' (q.length + 1) pc', .slice oa out.length oc] 54 (0, 0)) := setCell_block hb2 _
      rw [plI_length]; exact h4
    · rw [← he]; exact hp.keep hU (fun x hx hm => hp.ne2 hb2 (by decide) x hx (by simpa using hm))
    · exact ho2.keep hU (fun x hx hm => ho2.ne2 hb2 (by decide) x hx (by simpa using hm))
    · rcases blk_new hw x hx with h | h
      · exact hR.ne x h hm
      · have := (hR.o.lt x hm).2.1; have := hu.size; omega
    · exact ((hu.mono (by simp)).trans hi (fun x hx _ => List.mem_cons_of_mem _ hx)).trans hU (fun x hx _ => by simp only [List.mem_singleton] at hx; simp [hx])
  have hb := hR.box
  have HBL : Hid (∀ x ∈ blkA pa pc, x < w.heap.size) := fun x hx => (hR.q.lt x hx).2.1
  have HNP : Hid (P ∉ blkA pa pc) := fun h => hR.q.ne2 hR.box (by decide) P h rfl
  obtain ⟨t, q1, s⟩ := it
  unfold aggI at HSE
  unfold PInsPost at HIN
  unfold aggI
  simp only at HSE HIN ⊢
  have HB := Lib.hid hb
  clear hR hs hd hb hbs
  obtain ⟨n, hn⟩ : ∃ n, n = q.length := ⟨_, rfl⟩
  have HN := Lib.hid hn
  rw [← hn] at HSE HIN HFIN HB hl
  clear hn
  go_enter Tryz.func23, Tryz.ntmps23
  go_upto_region 1 with (fail)
  have hu1 := (Upd.refl [] w).alloc (.cells #[.int .i64 t, .int .i64 q1, .int .i64 s] 38)
  have k1 := heap_alloc1 w (.cells #[.int .i64 t, .int .i64 q1, .int .i64 s] 38)
  generalize w.alloc (.cells #[.int .i64 t, .int .i64 q1, .int .i64 s] 38) = W1 at *
  generalize hB : w.heap.size = B at *
  have HU1 := Lib.hid hu1; have HK1 := Lib.hid k1; have HHB := Lib.hid hB
  have HB1 := Lib.hid (hu1.at HB.out (by simp))
  clear hu1 hB
  obtain ⟨x0, x1, x2⟩ := cells3 k1
  obtain ⟨c0, c1⟩ := cells2 HB1.out
  clear k1 c1
  have HKP : Hid (∀ V, Upd [] W1 V → (V.cell? ⟨P, 0, none⟩ = some (.slice pa n pc) ∧ V.cell? ⟨B, 0, none⟩ = some (.int .i64 t) ∧ V.cell? ⟨B, 1, none⟩ = some (.int .i64 q1) ∧ V.cell? ⟨B, 2, none⟩ = some (.int .i64 s))) := fun V hu => ⟨hu.cell c0 (by simp), hu.cell x0 (by simp), hu.cell x1 (by simp), hu.cell x2 (by simp)⟩
  go_region_held3 (fun wz => wz.cell? ⟨P, 0, none⟩ = some (.slice pa n pc) ∧ wz.cell? ⟨B, 0, none⟩ = some (.int .i64 t) ∧ wz.cell? ⟨B, 1, none⟩ = some (.int .i64 q1) ∧ wz.cell? ⟨B, 2, none⟩ = some (.int .i64 s)) (first | exact ⟨c0, x0, x1, x2⟩ | (refine HKP.out _ ?_; (repeat (first | exact Upd.refl [] _ | refine Upd.drew ?_ | refine Upd.alloc ?_ _ | refine Upd.trans (T := []) ?_ (by assumption) (by simp))))) (first
    | (go_at_call 34; (with_reducible refine (HSE.out W1.drew HU1.out.drew).mono ?_); rintro e W3 ⟨p, bb, rfl, hp, hpl, hua⟩; have HFP := Lib.hid (And.intro hp hpl); clear hp hpl))
  go_upto_region 2 with (fail)
  have HU3 : Hid (Upd [] W1 W3) := (Upd.refl [] W1).drew.thn hua
  clear hua x0 x1 x2 c0
  have HKQ : Hid (∀ V S2, Upd S2 W1 V → P ∉ S2 → B ∉ S2 → (V.cell? ⟨P, 0, none⟩ = some (.slice pa n pc) ∧ V.cell? ⟨B, 0, none⟩ = some (.int .i64 t) ∧ V.cell? ⟨B, 1, none⟩ = some (.int .i64 q1) ∧ V.cell? ⟨B, 2, none⟩ = some (.int .i64 s))) := fun V S2 hu h1 h2 => ⟨hu.cell (HKP.out W1 (Upd.refl [] W1)).1 h1, hu.cell (HKP.out W1 (Upd.refl [] W1)).2.1 h2, hu.cell (HKP.out W1 (Upd.refl [] W1)).2.2.1 h2, hu.cell (HKP.out W1 (Upd.refl [] W1)).2.2.2 h2⟩
  have hS := HKQ.out W3.drew [] HU3.out.drew (by simp) (by simp)
  refine wp_region_K (fun V => (V.cell? ⟨P, 0, none⟩ = some (.slice pa n pc) ∧ V.cell? ⟨B, 0, none⟩ = some (.int .i64 t) ∧ V.cell? ⟨B, 1, none⟩ = some (.int .i64 q1) ∧ V.cell? ⟨B, 2, none⟩ = some (.int .i64 s))) 11 mixed ?_
  refine wpAnyK_take (i := 0) (d := some 15) (v := .pointer (some ⟨P, 0, none⟩)) rfl rfl (by kernel_rfl) (fun _ _ _ h => h) (.inl ⟨rfl, fun wz hz => rfl⟩) hS ?_
  simp only [Act.put, List.setIfInBounds_toArray, List.set_cons_succ, List.set_cons_zero]
  refine wpAnyK_take (i := 1) (d := some 16) (v := .pointer (some ⟨P, 0, none⟩)) rfl rfl (by kernel_rfl) (fun _ _ _ h => h) (.inl ⟨rfl, fun wz hz => rfl⟩) hS ?_
  simp only [Act.put, List.setIfInBounds_toArray, List.set_cons_succ, List.set_cons_zero]
  refine wpAnyK_take (i := 2) (d := some 17) (v := .pointer (some ⟨P, 0, none⟩)) rfl rfl (by kernel_rfl) (fun _ _ _ h => h) (.inl ⟨rfl, fun wz hz => by simp [execOp, Act.eval, go_sem]⟩) hS ?_
  simp only [Act.put, List.setIfInBounds_toArray, List.set_cons_succ, List.set_cons_zero]
  refine wpAnyK_take (i := 3) (d := some 18) (v := .pointer (some ⟨P, 0, none⟩)) rfl rfl (by kernel_rfl) (fun _ _ _ h => h) (.inl ⟨rfl, fun wz hz => by simp [execOp, Act.eval, go_sem]⟩) hS ?_
  simp only [Act.put, List.setIfInBounds_toArray, List.set_cons_succ, List.set_cons_zero]
  refine wpAnyK_take (i := 4) (d := some 19) (v := .slice pa n pc) rfl rfl (by kernel_rfl) (fun _ _ _ h => h) (.inl ⟨rfl, fun wz hz => by simp [execOp, Act.eval, go_sem, hz.1]⟩) hS ?_
  simp only [Act.put, List.setIfInBounds_toArray, List.set_cons_succ, List.set_cons_zero]
  refine wpAnyK_take (i := 5) (d := some 20) (v := .int .i64 (p : Nat)) rfl rfl (by kernel_rfl) (fun _ _ _ h => h) (.inl ⟨rfl, fun wz hz => rfl⟩) hS ?_
  simp only [Act.put, List.setIfInBounds_toArray, List.set_cons_succ, List.set_cons_zero]
  refine wpAnyK_take (i := 6) (d := some 21) (v := .agg #[.int .i64 t, .int .i64 q1, .int .i64 s]) rfl rfl (by kernel_rfl) (fun _ _ _ h => h) (.inl ⟨rfl, fun wz hz => by simp [execOp, Act.eval, go_sem, hz.2.1, hz.2.2.1, hz.2.2.2]⟩) hS ?_
  simp only [Act.put, List.setIfInBounds_toArray, List.set_cons_succ, List.set_cons_zero]
  have hu5 := HU3.out.drew.alloc (.cells #[.int .i64 t, .int .i64 q1, .int .i64 s] 38)
  have q5 : (W3.drew.alloc (.cells #[.int .i64 t, .int .i64 q1, .int .i64 s] 38)).heap[W3.heap.size]? = _ := heap_alloc1 W3.drew _
  have hS5 := HKQ.out _ [] hu5 (by simp) (by simp)
  refine wpAnyK_value (i := 7) (d := some 22) (v := .slice (some ⟨W3.heap.size, 0, none⟩) 1 1) (w' := W3.drew.alloc (.cells #[.int .i64 t, .int .i64 q1, .int .i64 s] 38)) rfl rfl (by kernel_rfl) rfl (by simp [execOp, Act.eval, go_sem]) (.inr hS5) ?_
  simp only [Act.put, List.setIfInBounds_toArray, List.set_cons_succ, List.set_cons_zero]
  generalize W3.drew.alloc (.cells #[.int .i64 t, .int .i64 q1, .int .i64 s] 38) = W5 at *
  have hu05 : Upd [] w W5 := HU1.out.thn hu5
  have hnew : W3.heap.size ∉ blkA pa pc := fun h => by have h1 := HBL.out _ h; have h2 := HU1.out.size; have h3 := HU3.out.size; have h4 := HHB.out; omega
  have hnB : B ∉ blkA pa pc := fun h => by have h1 := HBL.out _ h; have h4 := HHB.out; omega
  refine anyK_fn (i := 8) (d := some 23) (R := fun v W6 => ∃ ad' cap', v = .slice ad' (n + 1) cap' ∧ PendR b0 W6 (q.take p ++ ⟨t, q1, s⟩ :: q.drop p) ad' cap' ∧ Upd (blkA pa pc) W5 W6 ∧ (ad' = pa ∧ cap' = pc ∨ ∃ g, ad' = some ⟨g, 0, none⟩ ∧ W5.heap.size ≤ g)) rfl rfl (by kernel_rfl) rfl (by simp [execOp, Act.eval, go_sem]) ((HIN.out p _ W5 hu05 HFP.out.1 q5 hnew).mono fun e W6 h => by obtain ⟨ad', cap', h1, h2⟩ := h; exact ⟨_, h1, ad', cap', rfl, h2⟩) ?_
  rintro _ W6 ⟨ad', cap', rfl, hp6, hu6, hw6⟩
  have hu16 : Upd (blkA pa pc) W1 W6 := (hu5.mono (by simp)).trans hu6 (fun x hx _ => hx)
  have hS6 := HKQ.out W6 _ hu16 HNP.out hnB
  refine ⟨.inr hS6, ?_⟩
  simp only [Act.put, List.setIfInBounds_toArray, List.set_cons_succ, List.set_cons_zero]
  refine wpAnyK_value (i := 9) (d := some 24) (v := .pointer (some ⟨P, 0, none⟩)) (w' := W6) rfl rfl (by kernel_rfl) rfl (by simp [execOp, Act.eval, go_sem]) (.inr hS6) ?_
  simp only [Act.put, List.setIfInBounds_toArray, List.set_cons_succ, List.set_cons_zero]
  refine wpAnyK_value (i := 10) (d := some 25) (v := .pointer (some ⟨P, 0, none⟩)) (w' := W6) rfl rfl (by kernel_rfl) rfl (by simp [execOp, Act.eval, go_sem]) (.inr hS6) ?_
  simp only [Act.put, List.setIfInBounds_toArray, List.set_cons_succ, List.set_cons_zero]
  have y0 := hS6.1
  have z0 := free_block (hu16.at HB1.out HNP.out) 0
  refine wpAnyK_skip (i := 11) (d := none) (w' := W6.setCell ⟨P, 0, none⟩ (.slice ad' (n + 1) cap')) rfl rfl (by kernel_rfl) rfl (by simp [execOp, Act.eval, go_sem, y0, z0]) (.inl rfl) ?_
  refine wpAnyK_done (by kernel_rfl) ?_ _
  have HL := Lib.hid (HFIN.out p ad' cap' W5 W6 hu05 hp6 hu6 hw6 HFP.out.2)
  clear hS hS5 hS6 hu5 q5 hu05 hnew hnB hp6 hu6 hw6 hu16 y0 z0 HKP HKQ HIN HFIN HSE
  simp only [Act.put]
  go_wp2_with fail
  go_end0
  exact ⟨rfl, HL.out⟩
set_option maxRecDepth 100000 in
set_option maxHeartbeats 8000000 in
theorem llRemove_no (b0 P : Nat) (out : List It) (pa oa : Option Addr) (pc oc : Nat) (it : It) (w : World) (hR : LisP b0 P [] out w pa pc oa oc) :
    Calls Tryz.prog 24 #[.pointer (some ⟨P, 0, none⟩), aggI it] w fun e w' => e = .returned (.tuple #[]) ∧ LisI b0 P [] out (P :: blkA oa oc) w w' := by
  have HR := Lib.hid hR
  have hb := hR.box
  obtain ⟨t, q1, s⟩ := it
  unfold aggI
  simp only [List.length_nil] at hb ⊢
  clear hR
  go_enter Tryz.func24, Tryz.ntmps24
  go_upto_region 1 with (fail)
  have hu1 := (Upd.refl [] w).alloc (.cells #[.int .i64 t, .int .i64 q1, .int .i64 s] 38)
  generalize w.alloc (.cells #[.int .i64 t, .int .i64 q1, .int .i64 s] 38) = W1 at *
  have HU1 := Lib.hid hu1
  obtain ⟨c0, c1⟩ := cells2 (hu1.at hb (by simp))
  clear hu1 hb
  go_wp2_with fail
  go_end0
  exact ⟨rfl, pa, pc, oa, oc, HR.out.stay HU1.out, HU1.out.mono (by simp)⟩
set_option maxRecDepth 100000 in
set_option maxHeartbeats 8000000 in
theorem llRemove_yes (b0 P : Nat) (x : It) (q out : List It) (pa oa : Option Addr) (pc oc : Nat) (it : It) (w : World) (hR : LisP b0 P (x :: q) out w pa pc oa oc) (hl : q.length ≤ 100000) (ho : out.length ≤ 100000) (hbs : b0 ≤ w.heap.size) :
    Calls Tryz.prog 24 #[.pointer (some ⟨P, 0, none⟩), aggI it] w fun e w' => e = .returned (.tuple #[]) ∧ LisI b0 P q (out ++ [x]) (P :: blkA oa oc) w w' := by
  have HAP := Lib.hid (fun vb W (hu : Upd [] w W) hv => run_app_pend (vb := vb) (it := x) 26 (hR.o.keep hu (by simp)) hv ho (Nat.le_trans hbs hu.size))
  obtain ⟨gq, oq, hpa, hpc, htl⟩ := hR.q.tail
  have hrow := hR.q.has.row.item 0 (by simp)
  subst hpa
  have HNP : Hid (P ∉ blkA oa oc) := fun h => hR.o.ne2 hR.box (by decide) P h rfl
  have HNQ : Hid (gq ≠ P) := fun e => hR.q.ne2 hR.box (by decide) gq (by unfold blkA; simp only; rw [if_neg (by omega)]; simp) e
  have HNO : Hid (gq ∉ blkA oa oc) := hR.ne gq (by unfold blkA; simp only; rw [if_neg (by omega)]; simp)
  have HFIN : Hid (∀ oa2 oc2 W W2 pa2 pc2, (pa2 = some ⟨gq, if 1 < pc then oq + 3 else oq, none⟩ ∧ pc2 = pc - 1) → Upd [] w W → PendR b0 W2 (out ++ [x]) oa2 oc2 → Upd (blkA oa oc) W W2 → (oa2 = oa ∧ oc2 = oc ∨ ∃ g, oa2 = some ⟨g, 0, none⟩ ∧ W.heap.size ≤ g) → LisI b0 P q (out ++ [x]) (P :: blkA oa oc) w ((W2.setCell ⟨P, 1, none⟩ (.slice oa2 (out.length + 1) oc2)).setCell ⟨P, 0, none⟩ (.slice pa2 q.length pc2))) := fun oa2 oc2 W W2 pa2 pc2 hpp hu hp hi hw => by
    obtain ⟨rfl, rfl⟩ := hpp
    have hnP : P ∉ blkA oa oc := HNP.out
    have hb2 := hi.at (hu.at hR.box (by simp)) hnP
    have hU : Upd [P] W2 ((W2.setCell ⟨P, 1, none⟩ (.slice oa2 (out.length + 1) oc2)).setCell ⟨P, 0, none⟩ (.slice (some ⟨gq, if 1 < pc then oq + 3 else oq, none⟩) q.length (pc - 1))) := ((upd_set1 W2 P 1 _).trans (upd_set1 _ P 0 _) (fun x hx _ => hx))
    have hbk : ∀ y ∈ blkA (some ⟨gq, if 1 < pc then oq + 3 else oq, none⟩) (pc - 1), y = gq := fun y hy => by
      unfold blkA at hy
      simp only at hy
      split at hy
      · simp at hy
      · simpa using hy
    have hq2 := (htl.keep hu (by simp)).keep hi (fun y hy hm => by rw [hbk y hy] at hm; exact HNO.out hm)
    refine ⟨some ⟨gq, if 1 < pc then oq + 3 else oq, none⟩, pc - 1, oa2, oc2, ⟨?_, ?_, ?_, fun y hy hm => ?_⟩, ?_⟩
    · have h4 : ((W2.setCell ⟨P, 1, none⟩ (.slice oa2 (out.length + 1) oc2)).setCell ⟨P, 0, none⟩ (.slice (some ⟨gq, if 1 < pc then oq + 3 else oq, none⟩) q.length (pc - 1))).heap[P]? = some (.cells #[.slice (some ⟨gq, if 1 < pc then oq + 3 else oq, none⟩) q.length (pc - 1), .slice oa2 (out.length + 1) oc2] 54 (0, 0)) := setCell_block (setCell_block hb2 _) _
      rw [List.length_append, List.length_singleton]; exact h4
    · exact hq2.keep hU (fun y hy hm => by rw [hbk y hy] at hm; exact HNQ.out (by simpa using hm))
    · exact hp.keep hU (fun y hy hm => hp.ne2 hb2 (by decide) y hy (by simpa using hm))
    · rw [hbk y hy] at hm
      rcases blk_new hw gq hm with h | h
      · exact HNO.out h
      · have h1 := (hR.q.lt gq (by unfold blkA; simp only; rw [if_neg (by omega)]; simp)).2.1; have := hu.size; omega
    · exact ((hu.mono (by simp)).trans hi (fun y hy _ => List.mem_cons_of_mem _ hy)).trans hU (fun y hy _ => by simp only [List.mem_singleton] at hy; simp [hy])
  have hb := hR.box
  simp only [List.length_cons] at hb
  obtain ⟨bq, ooq, e0, z0, z1, z2⟩ := hrow
  simp only at e0
  obtain ⟨rfl, rfl⟩ : gq = bq ∧ oq = ooq := by
    injection e0 with e0
    injection e0 with e1 e2 _
    exact ⟨e1, e2⟩
  obtain ⟨t, q1, s⟩ := it
  obtain ⟨x0, x1, x2⟩ := x
  simp only [List.getElem_cons_zero, Nat.zero_mul, Nat.add_zero] at z0 z1 z2
  unfold aggI
  simp only at HAP hb HFIN ⊢
  have HB := Lib.hid hb
  have HTL : Hid (q.length + 1 ≤ pc) := Lib.hid (by have := hR.q.has.le; simpa using this)
  clear hR htl e0 hb hbs
  generalize q.length = n at *
  go_enter Tryz.func24, Tryz.ntmps24
  go_upto_region 1 with (fail)
  have hu1 := (Upd.refl [] w).alloc (.cells #[.int .i64 t, .int .i64 q1, .int .i64 s] 38)
  generalize w.alloc (.cells #[.int .i64 t, .int .i64 q1, .int .i64 s] 38) = W1 at *
  have HU1 := Lib.hid hu1
  have HB1 := Lib.hid (hu1.at HB.out (by simp))
  have z0 := hu1.cell z0 (by simp); have z1 := hu1.cell z1 (by simp); have z2 := hu1.cell z2 (by simp)
  clear hu1
  obtain ⟨c0, c1⟩ := cells2 HB1.out
  have hgz : decide ((0 : Int) < (n : Int) + 1) = true := decide_eq_true (by omega)
  go_upto_region 2 with (fail)
  have HKP : Hid (∀ V S2, Upd S2 W1 V → P ∉ S2 → gq ∉ S2 → (V.cell? ⟨P, 0, none⟩ = some (.slice (some ⟨gq, oq, none⟩) (n + 1) pc) ∧ V.cell? ⟨P, 1, none⟩ = some (.slice oa out.length oc) ∧ V.cell? ⟨gq, oq, none⟩ = some (.int .i64 x0) ∧ V.cell? ⟨gq, oq + 1, none⟩ = some (.int .i64 x1) ∧ V.cell? ⟨gq, oq + 2, none⟩ = some (.int .i64 x2))) := fun V S2 hu h1 h2 => ⟨hu.cell c0 h1, hu.cell c1 h1, hu.cell z0 h2, hu.cell z1 h2, hu.cell z2 h2⟩
  have hS := HKP.out W1.drew [] (Upd.refl [] W1).drew (by simp) (by simp)
  clear c0 c1 z0 z1 z2
  refine wp_region_K (fun V => (V.cell? ⟨P, 0, none⟩ = some (.slice (some ⟨gq, oq, none⟩) (n + 1) pc) ∧ V.cell? ⟨P, 1, none⟩ = some (.slice oa out.length oc) ∧ V.cell? ⟨gq, oq, none⟩ = some (.int .i64 x0) ∧ V.cell? ⟨gq, oq + 1, none⟩ = some (.int .i64 x1) ∧ V.cell? ⟨gq, oq + 2, none⟩ = some (.int .i64 x2))) 15 mixed ?_
  refine wpAnyK_take (i := 0) (d := some 10) (v := .pointer (some ⟨P, 0, none⟩)) rfl rfl (by kernel_rfl) (fun _ _ _ h => h) (.inl ⟨rfl, fun wz hz => rfl⟩) hS ?_
  simp only [Act.put, List.setIfInBounds_toArray, List.set_cons_succ, List.set_cons_zero]
  refine wpAnyK_take (i := 1) (d := some 11) (v := .pointer (some ⟨P, 0, none⟩)) rfl rfl (by kernel_rfl) (fun _ _ _ h => h) (.inl ⟨rfl, fun wz hz => rfl⟩) hS ?_
  simp only [Act.put, List.setIfInBounds_toArray, List.set_cons_succ, List.set_cons_zero]
  refine wpAnyK_take (i := 2) (d := some 12) (v := .pointer (some ⟨P, 0, none⟩)) rfl rfl (by kernel_rfl) (fun _ _ _ h => h) (.inl ⟨rfl, fun wz hz => by simp [execOp, Act.eval, go_sem]⟩) hS ?_
  simp only [Act.put, List.setIfInBounds_toArray, List.set_cons_succ, List.set_cons_zero]
  refine wpAnyK_take (i := 3) (d := some 13) (v := .pointer (some ⟨P, 1, none⟩)) rfl rfl (by kernel_rfl) (fun _ _ _ h => h) (.inl ⟨rfl, fun wz hz => by simp [execOp, Act.eval, go_sem]⟩) hS ?_
  simp only [Act.put, List.setIfInBounds_toArray, List.set_cons_succ, List.set_cons_zero]
  refine wpAnyK_take (i := 4) (d := some 14) (v := .slice oa out.length oc) rfl rfl (by kernel_rfl) (fun _ _ _ h => h) (.inl ⟨rfl, fun wz hz => by simp [execOp, Act.eval, go_sem, hz.2.1]⟩) hS ?_
  simp only [Act.put, List.setIfInBounds_toArray, List.set_cons_succ, List.set_cons_zero]
  refine wpAnyK_take (i := 5) (d := some 15) (v := .pointer (some ⟨P, 0, none⟩)) rfl rfl (by kernel_rfl) (fun _ _ _ h => h) (.inl ⟨rfl, fun wz hz => rfl⟩) hS ?_
  simp only [Act.put, List.setIfInBounds_toArray, List.set_cons_succ, List.set_cons_zero]
  refine wpAnyK_take (i := 6) (d := some 16) (v := .pointer (some ⟨P, 0, none⟩)) rfl rfl (by kernel_rfl) (fun _ _ _ h => h) (.inl ⟨rfl, fun wz hz => by simp [execOp, Act.eval, go_sem]⟩) hS ?_
  simp only [Act.put, List.setIfInBounds_toArray, List.set_cons_succ, List.set_cons_zero]
  refine wpAnyK_take (i := 7) (d := some 17) (v := .pointer (some ⟨P, 0, none⟩)) rfl rfl (by kernel_rfl) (fun _ _ _ h => h) (.inl ⟨rfl, fun wz hz => by simp [execOp, Act.eval, go_sem]⟩) hS ?_
  simp only [Act.put, List.setIfInBounds_toArray, List.set_cons_succ, List.set_cons_zero]
  refine wpAnyK_take (i := 8) (d := some 18) (v := .slice (some ⟨gq, oq, none⟩) (n + 1) pc) rfl rfl (by kernel_rfl) (fun _ _ _ h => h) (.inl ⟨rfl, fun wz hz => by simp [execOp, Act.eval, go_sem, hz.1]⟩) hS ?_
  simp only [Act.put, List.setIfInBounds_toArray, List.set_cons_succ, List.set_cons_zero]
  refine wpAnyK_take (i := 9) (d := some 19) (v := .pointer (some ⟨gq, oq, none⟩)) rfl rfl (by kernel_rfl) (fun _ _ _ h => h) (.inl ⟨rfl, fun wz hz => by simp [execOp, Act.eval, go_sem]⟩) hS ?_
  simp only [Act.put, List.setIfInBounds_toArray, List.set_cons_succ, List.set_cons_zero]
  refine wpAnyK_take (i := 10) (d := some 20) (v := .agg #[.int .i64 x0, .int .i64 x1, .int .i64 x2]) rfl rfl (by kernel_rfl) (fun _ _ _ h => h) (.inl ⟨rfl, fun wz hz => by simp [execOp, Act.eval, go_sem, hz.2.2.1, hz.2.2.2.1, hz.2.2.2.2]⟩) hS ?_
  simp only [Act.put, List.setIfInBounds_toArray, List.set_cons_succ, List.set_cons_zero]
  have hu5 := (Upd.refl [] W1).drew.alloc (.cells #[.int .i64 x0, .int .i64 x1, .int .i64 x2] 38)
  have q5 : (W1.drew.alloc (.cells #[.int .i64 x0, .int .i64 x1, .int .i64 x2] 38)).heap[W1.heap.size]? = _ := heap_alloc1 W1.drew _
  have hS5 := HKP.out _ [] hu5 (by simp) (by simp)
  refine wpAnyK_value (i := 11) (d := some 21) (v := .slice (some ⟨W1.heap.size, 0, none⟩) 1 1) (w' := W1.drew.alloc (.cells #[.int .i64 x0, .int .i64 x1, .int .i64 x2] 38)) rfl rfl (by kernel_rfl) rfl (by simp [execOp, Act.eval, go_sem]) (.inr hS5) ?_
  simp only [Act.put, List.setIfInBounds_toArray, List.set_cons_succ, List.set_cons_zero]
  generalize W1.drew.alloc (.cells #[.int .i64 x0, .int .i64 x1, .int .i64 x2] 38) = W5 at *
  have hu05 : Upd [] w W5 := HU1.out.thn hu5
  obtain ⟨oa2, oc2, W6, hr6, hp6, hu6, hw6⟩ := HAP.out _ W5 hu05 q5
  have hu16 : Upd (blkA oa oc) W1 W6 := (hu5.mono (by simp)).trans hu6 (fun x hx _ => hx)
  have hS6 := HKP.out W6 _ hu16 HNP.out HNO.out
  refine anyK_app (i := 12) (d := some 22) (.tmp 14) (.tmp 21) rfl rfl (by kernel_rfl) rfl rfl rfl rfl hr6 (.inr hS6) ?_
  simp only [Act.put, List.setIfInBounds_toArray, List.set_cons_succ, List.set_cons_zero]
  refine wpAnyK_value (i := 13) (d := some 23) (v := .pointer (some ⟨P, 0, none⟩)) (w' := W6) rfl rfl (by kernel_rfl) rfl (by simp [execOp, Act.eval, go_sem]) (.inr hS6) ?_
  simp only [Act.put, List.setIfInBounds_toArray, List.set_cons_succ, List.set_cons_zero]
  refine wpAnyK_value (i := 14) (d := some 24) (v := .pointer (some ⟨P, 1, none⟩)) (w' := W6) rfl rfl (by kernel_rfl) rfl (by simp [execOp, Act.eval, go_sem]) (.inr hS6) ?_
  simp only [Act.put, List.setIfInBounds_toArray, List.set_cons_succ, List.set_cons_zero]
  have hB6 := hu16.at HB1.out HNP.out
  have y1 := hS6.2.1
  have f1 := free_block hB6 1
  refine wpAnyK_skip (i := 15) (d := none) (w' := W6.setCell ⟨P, 1, none⟩ (.slice oa2 (out.length + 1) oc2)) rfl rfl (by kernel_rfl) rfl (by simp [execOp, Act.eval, go_sem, y1, f1]) (.inl rfl) ?_
  refine wpAnyK_done (by kernel_rfl) ?_ _
  have HL := Lib.hid (fun pa2 pc2 hpp => HFIN.out oa2 oc2 W5 W6 pa2 pc2 hpp hu05 hp6 hu6 (hw6.imp id (fun h => ⟨_, h, Nat.le_refl _⟩)))
  have p7 : (W6.setCell ⟨P, 1, none⟩ (.slice oa2 (out.length + 1) oc2)).heap[P]? = some (.cells #[.slice (some ⟨gq, oq, none⟩) (n + 1) pc, .slice oa2 (out.length + 1) oc2] 54 (0, 0)) := setCell_block hB6 _
  generalize W6.setCell ⟨P, 1, none⟩ (.slice oa2 (out.length + 1) oc2) = W7 at *
  obtain ⟨c0, c1⟩ := cells2 p7
  have f0 := free_block p7 0
  clear hS hS5 hS6 hu5 q5 hu05 hr6 hp6 hu6 hw6 hu16 hB6 y1 f1 p7 HKP HFIN HAP HU1 HB1 HB c1
  simp only [Act.put]
  have htl := HTL.out
  have h1n : 1 ≤ n + 1 := by omega
  have hnc : n + 1 ≤ pc := htl
  by_cases hc : 1 < pc
  · have hc1 : ¬ pc = 1 := by omega
    have HL2 := Lib.hid (HL.out (some ⟨gq, oq + 3, none⟩) (pc - 1) ⟨by rw [if_pos hc], rfl⟩)
    have hpn : 0 < pc := by omega
    go_wp2_with fail
    go_end0
    exact ⟨rfl, HL2.out⟩
  · obtain rfl : pc = 1 := by omega
    obtain rfl : n = 0 := by omega
    have HL2 := Lib.hid (HL.out (some ⟨gq, oq, none⟩) 0 ⟨rfl, rfl⟩)
    go_wp2_with fail
    go_end0
    exact ⟨rfl, HL2.out⟩
end Go.Proofs.YtpabapjodcafkaaGreat
namespace Go.Proofs.YtpabapjodcafkaaGreat
open Go.RowKit Go.Lib

theorem sort_ins {l : Ld} {it : It} (hg : GoodL l) (h0 : 0 ≤ it.t) (h1 : it.t ≤ MaxT) (hd : ∀ x ∈ itemsL l, ¬ eqK it x) : sortI (itemsL (insertL l it)) = plI (sortI (itemsL l)) it := by
  have hp := insert_its hg h0 h1
  have hg2 := (insert_good hg h0 h1 hd).dist
  have hq : (plI (sortI (itemsL l)) it).Perm (itemsL (insertL l it)) := ((plI_perm _ it).trans ((sortI_perm _).cons it)).trans hp.symm
  exact sortI_unique (strict_of (plI_sorted (sortI_sorted _) it) (hg2.perm hq.symm)) hq
/-- What Sorted keeps while execute runs. -/
structure SorI (w : World) (P : Nat) (s : Sw) (wr : World) : Prop where
  run : ∃ pa pc oa oc, LisP w.heap.size P (sortI (itemsL s.l)) s.out wr pa pc oa oc
  upd : Upd [] w wr
  ord : w.heap.size ≤ P
theorem SorI.stay {w : World} {P : Nat} {s : Sw} {a b : World} (h : SorI w P s a) (hu : Upd [] a b) : SorI w P s b := by
  obtain ⟨pa, pc, oa, oc, h1⟩ := h.run
  exact ⟨⟨pa, pc, oa, oc, h1.stay hu⟩, h.upd.thn hu, h.ord⟩
theorem kept_blk {b0 P : Nat} {w w' : World} {l : List It} {ad : Option Addr} {cap : Nat} {c : Array Value} {t : TypeId} {f : Nat × Nat} (h : PendR b0 w l ad cap) (hb : w.heap[P]? = some (.cells c t f)) (hu : Upd (P :: blkA ad cap) w w') : MapsKept w w' :=
  mapsKept_of hu (fun x hx => by
    rcases List.mem_cons.1 hx with rfl | hx
    · exact ⟨_, _, _, hb⟩
    · obtain ⟨_, _, cs, hc⟩ := h.lt x hx
      exact ⟨_, _, _, hc⟩)
theorem new_blk {b0 P : Nat} {w0 w w' : World} {l : List It} {ad : Option Addr} {cap : Nat} (h : PendR b0 w l ad cap) (hb : w0.heap.size ≤ b0) (hP : w0.heap.size ≤ P) (h0 : Upd [] w0 w) (hu : Upd (P :: blkA ad cap) w w') : Upd [] w0 w' :=
  h0.trans hu (fun x hx hlt => by
    rcases List.mem_cons.1 hx with e | hx
    · omega
    · have := (h.lt x hx).1; omega)
theorem sorI_ins {w : World} {P k : Nat} {s : Sw} {W : World} {t : Int} (h : SorI w P s W) (hok : OkW k s) (hb : 0 ≤ t ∧ t ≤ MaxT) (hk : k ≤ 2000) :
    Calls Tryz.prog 23 #[.pointer (some ⟨P, 0, none⟩), .agg #[.int .i64 t, .int .i64 (k : Nat), .int .i64 0]] W fun e b => e = .returned (.tuple #[]) ∧ SorI w P (stepW s k ⟨false, t⟩) b ∧ MapsKept W b := by
  obtain ⟨pa, pc, oa, oc, h1⟩ := h.run
  have hfr := hok.reach.fresh ⟨t, (k : Nat), 0⟩ rfl
  have hlen := hok.reach.len
  have hik := hok.ik
  refine (llInsert_has w.heap.size P _ s.out pa oa pc oc ⟨t, (k : Nat), 0⟩ W h1 (sortI_sorted _) (fun x hx => hfr x ((sortI_perm _).subset hx)) (by rw [sortI_length, ← lenD_its]; omega) h.upd.size).mono ?_
  rintro e b ⟨rfl, pa2, pc2, oa2, oc2, h2, hu⟩
  refine ⟨rfl, ⟨⟨pa2, pc2, oa2, oc2, ?_⟩, new_blk h1.q (Nat.le_refl _) h.ord h.upd hu, h.ord⟩, kept_blk h1.q h1.box hu⟩
  rw [← sort_ins hok.reach.good hb.1 hb.2 hfr] at h2
  exact h2
theorem sorI_del {w : World} {P k : Nat} {s : Sw} {W : World} {t : Int} (h : SorI w P s W) (hok : OkW k s) (hk : k ≤ 2000) :
    Calls Tryz.prog 24 #[.pointer (some ⟨P, 0, none⟩), .agg #[.int .i64 t, .int .i64 (k : Nat), .int .i64 0]] W fun e b => e = .returned (.tuple #[]) ∧ SorI w P (stepW s k ⟨true, t⟩) b ∧ MapsKept W b := by
  obtain ⟨pa, pc, oa, oc, h1⟩ := h.run
  have hlen := hok.reach.len
  have hik := hok.ik
  have hcnt := hok.cnt
  cases hok.reach.pop with
  | no e p2 its2 reach len len0 =>
    have e1 : sortI (itemsL s.l) = [] := by rw [e]; rfl
    have e2 : sortI (itemsL (stepW s k ⟨true, t⟩).l) = [] := by simp only [stepW, nxtW, if_true]; rw [its2]; rfl
    have e3 : (stepW s k ⟨true, t⟩).out = s.out := by simp only [stepW, if_true]; rw [p2]; rfl
    rw [e1] at h1
    refine (llRemove_no w.heap.size P s.out pa oa pc oc ⟨t, (k : Nat), 0⟩ W h1).mono ?_
    rintro e b ⟨rfl, pa2, pc2, oa2, oc2, h2, hu⟩
    exact ⟨rfl, ⟨⟨pa2, pc2, oa2, oc2, by rw [e2, e3]; exact h2⟩, new_blk h1.o (Nat.le_refl _) h.ord h.upd hu, h.ord⟩, kept_blk h1.o h1.box hu⟩
  | yes x p2 its least reach len =>
    have e1 : sortI (itemsL s.l) = x :: sortI (itemsL (stepW s k ⟨true, t⟩).l) := by simp only [stepW, nxtW, if_true]; exact Popped.sort hok.reach.good its least
    have e3 : (stepW s k ⟨true, t⟩).out = s.out ++ [x] := by simp only [stepW, if_true]; rw [p2]; rfl
    have e4 : (sortI (itemsL (stepW s k ⟨true, t⟩).l)).length + 1 = lenD s.l := by
      have h5 := congrArg List.length e1
      rw [List.length_cons, sortI_length, ← lenD_its] at h5
      omega
    rw [e1] at h1
    refine (llRemove_yes w.heap.size P x _ s.out pa oa pc oc ⟨t, (k : Nat), 0⟩ W h1 (by omega) (by omega) h.upd.size).mono ?_
    rintro e b ⟨rfl, pa2, pc2, oa2, oc2, h2, hu⟩
    exact ⟨rfl, ⟨⟨pa2, pc2, oa2, oc2, by rw [e3]; exact h2⟩, new_blk h1.o (Nat.le_refl _) h.ord h.upd hu, h.ord⟩, kept_blk h1.o h1.box hu⟩
theorem sorI_doer {w : World} {P : Nat} {la : Option Addr} {os : List Wo} (ho : Row LW w la os) (hl : os.length ≤ 1000) (hb : ∀ o ∈ os, 0 ≤ o.t ∧ o.t ≤ MaxT) :
    Doer os la 23 24 P (fun k wr => SorI w P (runW os k) wr) where
  stay := fun h hu => h.stay hu
  row := fun h => ho.stay h.upd
  e1 := enters_of Tryz.func23 (by kernel_rfl) rfl
  e2 := enters_of Tryz.func24 (by kernel_rfl) rfl
  ins := fun k h a hi hp => by
    have h1 := okW os hb k
    have h2 := hb _ (List.getElem_mem h)
    rw [runW_succ h]
    generalize runW os k = s at *
    obtain ⟨⟨p, t⟩, hx⟩ : ∃ x, x = os[k] := ⟨_, rfl⟩
    rw [← hx] at hp h2 ⊢
    simp only at hp
    subst hp
    exact sorI_ins hi h1 h2 (by omega)
  del := fun k h a hi hp => by
    have h1 := okW os hb k
    rw [runW_succ h]
    generalize runW os k = s at *
    obtain ⟨⟨p, t⟩, hx⟩ : ∃ x, x = os[k] := ⟨_, rfl⟩
    rw [← hx] at hp ⊢
    simp only at hp
    subst hp
    exact sorI_del hi h1 (by omega)
def SortedP (w : World) (l : List It) (e : Ending) (w' : World) : Prop := ∃ oa oc, e = .returned (.slice oa l.length oc) ∧ HasS LI w' ⟨l, oa, oc⟩ ∧ (∀ a, oa = some a → w.heap.size ≤ a.block) ∧ Upd [] w w'
set_option maxRecDepth 100000 in
set_option maxHeartbeats 8000000 in
theorem PSorted_has (la : Option Addr) (lc : Nat) (os : List Wo) (w : World) (ho : Row LW w la os) (hl : os.length ≤ 1000) (hb : ∀ o ∈ os, 0 ≤ o.t ∧ o.t ≤ MaxT) :
    Calls Tryz.prog 9 #[.slice la os.length lc] w (SortedP w (runW os os.length).out) := by
  have HEX : Hid (∀ P W, SorI w P (runW os 0) W → Calls Tryz.prog 16 #[.slice la os.length lc, .func (.func 23) #[.pointer (some ⟨P, 0, none⟩)] #[], .func (.func 24) #[.pointer (some ⟨P, 0, none⟩)] #[]] W fun e w' => e = .returned (.tuple #[]) ∧ SorI w P (runW os os.length) w') := fun P W h0 =>
    execute_has la lc os _ _ P (fun k wr => SorI w P (runW os k) wr) (sorI_doer ho hl hb) W h0 (by omega)
  have HZ : Hid (runW os 0 = ⟨newL, [], 0, 0, 0⟩) := rfl
  generalize runW os os.length = s at *
  generalize runW os 0 = s0 at *
  generalize os.length = n at *
  clear ho hl hb
  go_enter Tryz.func9, Tryz.ntmps9
  go_upto_region 2 with (fail)
  have b0 := heap_alloc1 w (.cells #[.slice none 0 0, .slice none 0 0] 54)
  have hu0 := (Upd.refl [] w).alloc (.cells #[.slice none 0 0, .slice none 0 0] 54)
  have HM0 : Hid (SorI w w.heap.size s0 (w.alloc (.cells #[.slice none 0 0, .slice none 0 0] 54))) := by
    rw [HZ.out]
    exact ⟨⟨none, 0, none, 0, b0, pend_nil _ _, pend_nil _ _, fun x hx => by simp [blkA] at hx⟩, hu0, Nat.le_refl _⟩
  have HEX2 := Lib.hid (HEX.out _ _ HM0.out)
  generalize w.alloc (.cells #[.slice none 0 0, .slice none 0 0] 54) = W1 at *
  generalize w.heap.size = P at *
  clear b0 hu0 HM0 HEX
  go_upto_region 3 with (go_at_call 16; (with_reducible refine HEX2.out.mono ?_); rintro e W3 ⟨rfl, hI⟩)
  obtain ⟨pa, pc, oa, oc, hR⟩ := hI.run
  have HL := Lib.hid (And.intro hR.o.has (And.intro hR.o.ge hI.upd))
  obtain ⟨c0, c1⟩ := cells2 hR.box
  clear hR hI c0 HEX2 HZ
  go_wp2_with fail
  go_ret
  exact ⟨oa, oc, rfl, HL.out⟩
end Go.Proofs.YtpabapjodcafkaaGreat
