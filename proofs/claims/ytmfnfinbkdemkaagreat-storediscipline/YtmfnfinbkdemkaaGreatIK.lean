/- Contracts: the store's Accepts and Put. -/
/- Contracts: the store's Peek and Drop. -/
import Derived.Test.YtmfnfinbkdemkaaGreatPD
import Derived.Test.YtmfnfinbkdemkaaGreatPZ
import Derived.Test.YtmfnfinbkdemkaaGreatK
import Derived.Test.YtmfnfinbkdemkaaGreatPF
namespace Go.Proofs.YtmfnfinbkdemkaaGreat
open Go.RowKit Go.Lib
open A5

section
variable {P : Program} {ops : Array Oper} {Q : Exit → Act → World → Prop} {md : Region.Mode} {S : World → Prop} {k : Nat}
/-- A call that alone may come up. -/
theorem anyK_fn {i : Nat} {o : Oper} {d : Option Tmp} {fuel : Nat} {listed : Array Bool} {a : Act} {w : World} {f : FuncId} {args : Array Value} {R : Value → World → Prop} (hi : ops[i]? = some o) (hd : o.dst = d) (hr : Region.ready md ops listed = [i]) (hw : Region.wanted o (yielded ops a.tmps) = true)
    (hrun : (execOp a.eval o).run P w = .ok (.enter f args) w) (hc : Calls P f args w fun e w' => ∃ v, e = .returned v ∧ R v w')
    (hR : ∀ v w', R v w' → (i = k ∨ S w') ∧ wpAnyK P md ops Q S k fuel (listed.setIfInBounds i true) (a.put d v) w') : wpAnyK P md ops Q S k (fuel + 1) listed a w := by
  subst hd
  refine wpAnyK_one hr (wpOp_wp hi hw ?_)
  unfold Oper.wp
  rw [hrun]
  show Calls P f args w _
  refine hc.mono ?_
  rintro e w' ⟨v, rfl, h⟩
  exact hR v w' h
end
set_option maxRecDepth 100000 in
set_option maxHeartbeats 2000000 in
theorem SAccepts_has {F : List Nat} {d : At} {r : Rw} {w : World} (h : InR F d r w) (hs : Sm r.mem) (hg : GoodL r.q) (th t : Int) :
    Calls Tryz.prog 12 #[.pointer (some ⟨d.p, 0, none⟩), .int .i64 th, .int .i64 t] w fun e w' => e = .returned (.bool (r.q.rs.any (fun x => decide (curT x ≤ t)))) ∧ InR F d (r.add (missK r.ms th [1])) w' ∧ Goes F F w w' := by
  have HC := Lib.hid (orNone_in d.p)
  have c0 := h.cell0
  have HD := Lib.hid (declare_new h hs th [1] (by decide) (by decide) (O := .cells #[.int .i64 1] 3) rfl (n := 1) rfl)
  have HR := Lib.hid (fun W (hi : InR F d (r.add (missK r.ms th [1])) W) => rungAccepts_has hi hg t)
  simp only [Rw.add] at HR
  generalize r.q.rs.any (fun x => decide (curT x ≤ t)) = b at *
  clear h hs hg
  go_enter Tryz.func12, Tryz.ntmps12
  go_wp2_with fail
  (with_reducible refine (HC.out _).mono ?_)
  rintro e w' ⟨rfl, rfl⟩
  go_wp2_with fail
  (with_reducible refine HD.out.mono ?_)
  rintro e w1 ⟨rfl, hi, hg⟩
  have HI := Lib.hid hi; have HG := Lib.hid hg
  clear hi hg c0
  have HR1 := Lib.hid (HR.out _ HI.out)
  go_wp2_with fail
  (with_reducible refine HR1.out.mono ?_)
  rintro e w2 ⟨rfl, hu⟩
  have HU := Lib.hid hu
  clear hu
  go_wp2_with fail
  go_ret
  exact ⟨rfl, HI.out.stay HU.out, HG.out.upd HU.out⟩
set_option maxRecDepth 100000 in
set_option maxHeartbeats 4000000 in
theorem SPut_new {F : List Nat} {d : At} {r : Rw} {w : World} (h : InR F d r w) (hs : Sm r.mem) (th : Int) (hh : ∀ k, k < 4 → r.ms[k]? = some (true, th)) (i : Nat) (s : Sl) (hi : r.ar.sl[i]? = some s) (hf : GoodL r.q) (hlen : lenD r.q ≤ 100000) (hmv : r.q.mv ≤ 100000000000) (hcp : r.q.cp ≤ 100000000000) (hd : ∀ x ∈ itemsL r.q, ¬ eqK ⟨s.t, s.q, (i : Int)⟩ x) :
    Calls Tryz.prog 22 #[.pointer (some ⟨d.p, 0, none⟩), .int .i64 th, .int .i64 i] w fun e w' => e = .returned (.tuple #[]) ∧ (∃ l, InL F d l { r with q := insertL r.q ⟨s.t, s.q, (i : Int)⟩ } w' ∧ ∀ b, b < w.heap.size → AvD l b) ∧ Goes F F w w' := by
  obtain ⟨hil, his⟩ := List.getElem?_eq_some_iff.1 hi
  have HC := Lib.hid (orNone_in d.p)
  have HIS := Lib.hid (isSlot_in h i hil)
  obtain ⟨FM, iv, l, rfl, h⟩ := h
  have HT := Lib.hid h
  obtain ⟨c0, c1, -⟩ := cells10 h.box
  obtain ⟨e0, e1, e2, e3⟩ := flatS_at r.ar.sl i hil
  rw [his] at e0 e1 e2 e3
  obtain ⟨y0, -⟩ := h.sl.cell _ _ e0
  obtain ⟨y1, -⟩ := h.sl.cell _ _ e1
  obtain ⟨y2, -⟩ := h.sl.cell _ _ e2
  obtain ⟨y3, -⟩ := h.sl.cell _ _ e3
  have hiz : (i : Int) < (r.ar.sl.length : Int) := by omega
  clear h e0 e1 e2 e3 his hi
  go_enter Tryz.func22, Tryz.ntmps22
  go_wp2_with fail
  (with_reducible refine (HC.out _).mono ?_)
  rintro e w' ⟨rfl, rfl⟩
  go_wp2_with fail
  (with_reducible refine HIS.out.mono ?_)
  rintro e w' ⟨rfl, rfl⟩
  go_upto_region 3 with (fail)
  have hu := (Upd.refl [] w).alloc (.cells #[.int .i64 s.g, .int .i64 s.s, .int .i64 s.t, .int .i64 s.q] 52)
  have b0 := heap_alloc1 w (.cells #[.int .i64 s.g, .int .i64 s.s, .int .i64 s.t, .int .i64 s.q] 52)
  have hne : w.heap.size ∉ foot d FM iv := fun hm => by have := HT.out.lt _ hm; omega
  have HT1 := Lib.hid (HT.out.stay hu)
  have HU := Lib.hid hu
  generalize w.alloc (.cells #[.int .i64 s.g, .int .i64 s.s, .int .i64 s.t, .int .i64 s.q] 52) = W at *
  generalize w.heap.size = E at *
  obtain ⟨x0, x1, x2, x3⟩ := cells4 b0
  have k0 := cell_block HT1.out.box 0
  simp only [cellsT, List.getElem?_toArray, List.getElem?_cons_zero] at k0
  have HG := Lib.hid (fun V (hv : Upd [] W V) => guardsOf_has ⟨FM, iv, l, rfl, HT1.out.stay hv⟩ hf s.t)
  have HKP : Hid (∀ V, Upd [] W V → (V.cell? ⟨d.p, 0, none⟩ = some (.pointer (some ⟨d.m, 0, none⟩)) ∧ V.cell? ⟨E, 2, none⟩ = some (.int .i64 s.t))) := fun V hv => ⟨hv.cell k0 (by simp), hv.cell x2 (by simp)⟩
  have HDE : Hid (∀ V b (xs : List Nat), Upd [] W V → V.heap[b]? = some (.cells (xs.map (fun k : Nat => Value.int .i64 k)).toArray 3 (0, 0)) → W.heap.size ≤ b → (∀ k ∈ xs, k < 4) → xs.length ≤ 4 →
      Calls Tryz.prog 35 #[.agg #[.pointer (some ⟨d.m, 0, none⟩)], .int .i64 th, .slice (some ⟨b, 0, none⟩) xs.length xs.length] V fun e w' => e = .returned (.tuple #[]) ∧ (w'.cell? ⟨d.p, 0, none⟩ = some (.pointer (some ⟨d.m, 0, none⟩)) ∧ w'.cell? ⟨E, 2, none⟩ = some (.int .i64 s.t)) ∧ w'.heap[E]? = some (.cells #[.int .i64 s.g, .int .i64 s.s, .int .i64 s.t, .int .i64 s.q] 52 (0, 0)) ∧ InR (foot d FM iv) d r w' ∧ Goes (foot d FM iv) (foot d FM iv) W w') := fun V b xs hv hx hb hk hl => by
    refine (declare_in ⟨FM, iv, l, rfl, HT1.out.stay hv⟩ hs th b xs hx rfl (fun hm => by have := HT1.out.lt _ hm; omega) hk hl rfl).mono ?_
    rintro e w' ⟨rfl, hi, hg⟩
    rw [missK_held (fun k hkm => hh k (hk k hkm)), show r.add 0 = r by simp [Rw.add]] at hi
    have hE := hg.1.at (hv.at b0 (by simp)) hne
    exact ⟨rfl, ⟨hi.cell0, cell_block hE 2⟩, hE, hi, Goes.after hv hg⟩
  have HGD := Lib.hid hf
  clear hu b0 HC HIS c0 c1 x0 x1 x3 y0 y1 y2 y3 hs hh hf
  go_region_held3 (fun wz => wz.cell? ⟨d.p, 0, none⟩ = some (.pointer (some ⟨d.m, 0, none⟩)) ∧ wz.cell? ⟨E, 2, none⟩ = some (.int .i64 s.t)) (first | exact ⟨k0, x2⟩ | exact HKP.out _ HU2.out | exact HS3.out) (first | (go_at_call 54; (with_reducible refine (HG.out _ (Upd.refl [] W).drew).mono ?_); rintro e w2 ⟨b, xs, rfl, hx, hb, hk, hl, hu2⟩; have HU2 := Lib.hid ((Upd.refl [] W).drew.thn hu2); have HD2 := Lib.hid (HDE.out w2 b xs HU2.out hx hb hk hl); clear hx hb hk hl hu2) | (go_at_call 35; (with_reducible refine HD2.out.mono ?_); rintro e w3 ⟨rfl, hs3, he3, hi3, hg3⟩; have HS3 := Lib.hid hs3; have HE3 := Lib.hid he3; have HI3 := Lib.hid hi3; have HG3 := Lib.hid hg3; clear hs3 he3 hi3 hg3))
  all_goals go_upto_region 4 with (fail)
  obtain ⟨FM', iv', l1, hF', h3⟩ := HI3.out
  have HF' := Lib.hid hF'
  have HT3 := Lib.hid h3
  have HLD : Hid (l1.ld = r.q) := h3.eq
  have hfit : Fit l1 := ⟨by rw [HLD.out]; exact HGD.out, by rw [HLD.out]; exact hlen, by rw [show l1.mv = l1.ld.mv from rfl, HLD.out]; exact hmv⟩
  have HIN := Lib.hid (fun V (hv : Upd [] w3 V) => Insert_has l1 ⟨s.t, s.q, (i : Int)⟩ V (h3.stay hv).has hfit (by rw [show l1.cp = l1.ld.cp from rfl, HLD.out]; exact hcp) (by rw [HLD.out]; exact hd))
  have hb1 := h3.box
  unfold cellsT at hb1
  obtain ⟨-, -, -, -, k4, k5, k6, k7, k8, k9⟩ := cells10 hb1
  obtain ⟨-, -, x2, x3⟩ := cells4 HE3.out
  have HKP3 : Hid (∀ V, Upd [] w3 V → (V.cell? ⟨d.p, 4, none⟩ = some (.int .i64 l1.ts) ∧ V.cell? ⟨d.p, 5, none⟩ = some (.slice l1.top.ad l1.top.l.length l1.top.cap) ∧ V.cell? ⟨d.p, 6, none⟩ = some (.slice l1.rs.ad l1.rs.l.length l1.rs.cap) ∧ V.cell? ⟨d.p, 7, none⟩ = some (.slice l1.bot.ad l1.bot.l.length l1.bot.cap) ∧ V.cell? ⟨d.p, 8, none⟩ = some (.int .i64 l1.mv) ∧ V.cell? ⟨d.p, 9, none⟩ = some (.int .i64 l1.cp) ∧ V.cell? ⟨E, 2, none⟩ = some (.int .i64 s.t) ∧ V.cell? ⟨E, 3, none⟩ = some (.int .i64 s.q))) := fun V hu => ⟨hu.cell k4 (by simp), hu.cell k5 (by simp), hu.cell k6 (by simp), hu.cell k7 (by simp), hu.cell k8 (by simp), hu.cell k9 (by simp), hu.cell x2 (by simp), hu.cell x3 (by simp)⟩
  have HBX := Lib.hid hb1
  clear hF' h3 hb1 k4 k5 k6 k7 k8 k9 x2 x3 hfit hlen hmv hcp hd
  unfold GaveD encD cellsD aggI at HIN
  simp only at HIN
  rw [HLD.out] at HIN
  obtain ⟨g2, hg2⟩ : ∃ g, g = insertL r.q ⟨s.t, s.q, (i : Int)⟩ := ⟨_, rfl⟩
  rw [← hg2] at HIN
  have HQ2 := Lib.hid hg2
  clear hg2
  have hS := HKP3.out w3.drew (Upd.refl [] w3).drew
  refine wp_region_K (fun V => (V.cell? ⟨d.p, 4, none⟩ = some (.int .i64 l1.ts) ∧ V.cell? ⟨d.p, 5, none⟩ = some (.slice l1.top.ad l1.top.l.length l1.top.cap) ∧ V.cell? ⟨d.p, 6, none⟩ = some (.slice l1.rs.ad l1.rs.l.length l1.rs.cap) ∧ V.cell? ⟨d.p, 7, none⟩ = some (.slice l1.bot.ad l1.bot.l.length l1.bot.cap) ∧ V.cell? ⟨d.p, 8, none⟩ = some (.int .i64 l1.mv) ∧ V.cell? ⟨d.p, 9, none⟩ = some (.int .i64 l1.cp) ∧ V.cell? ⟨E, 2, none⟩ = some (.int .i64 s.t) ∧ V.cell? ⟨E, 3, none⟩ = some (.int .i64 s.q))) 14 mixed ?_
  refine wpAnyK_take (i := 0) (d := some 31) (v := .pointer (some ⟨d.p, 0, none⟩)) rfl rfl (by kernel_rfl) (fun _ _ _ h => h) (.inl ⟨rfl, fun wz hz => rfl⟩) hS ?_
  simp only [Act.put, List.setIfInBounds_toArray, List.set_cons_succ, List.set_cons_zero]
  refine wpAnyK_take (i := 1) (d := some 32) (v := .pointer (some ⟨d.p, 0, none⟩)) rfl rfl (by kernel_rfl) (fun _ _ _ h => h) (.inl ⟨rfl, fun wz hz => rfl⟩) hS ?_
  simp only [Act.put, List.setIfInBounds_toArray, List.set_cons_succ, List.set_cons_zero]
  refine wpAnyK_take (i := 2) (d := some 33) (v := .pointer (some ⟨d.p, 0, none⟩)) rfl rfl (by kernel_rfl) (fun _ _ _ h => h) (.inl ⟨rfl, fun wz hz => by simp [execOp, Act.eval, go_sem]⟩) hS ?_
  simp only [Act.put, List.setIfInBounds_toArray, List.set_cons_succ, List.set_cons_zero]
  refine wpAnyK_take (i := 3) (d := some 34) (v := .pointer (some ⟨d.p, 4, none⟩)) rfl rfl (by kernel_rfl) (fun _ _ _ h => h) (.inl ⟨rfl, fun wz hz => by simp [execOp, Act.eval, go_sem]⟩) hS ?_
  simp only [Act.put, List.setIfInBounds_toArray, List.set_cons_succ, List.set_cons_zero]
  refine wpAnyK_take (i := 4) (d := some 35) (v := .agg #[.int .i64 l1.ts, .slice l1.top.ad l1.top.l.length l1.top.cap, .slice l1.rs.ad l1.rs.l.length l1.rs.cap, .slice l1.bot.ad l1.bot.l.length l1.bot.cap, .int .i64 l1.mv, .int .i64 l1.cp]) rfl rfl (by kernel_rfl) (fun _ _ _ h => h) (.inl ⟨rfl, fun wz hz => by simp [execOp, Act.eval, go_sem, hz.1, hz.2.1, hz.2.2.1, hz.2.2.2.1, hz.2.2.2.2.1, hz.2.2.2.2.2.1]⟩) hS ?_
  simp only [Act.put, List.setIfInBounds_toArray, List.set_cons_succ, List.set_cons_zero]
  refine wpAnyK_take (i := 5) (d := some 36) (v := .pointer (some ⟨E, 2, none⟩)) rfl rfl (by kernel_rfl) (fun _ _ _ h => h) (.inl ⟨rfl, fun wz hz => by simp [execOp, Act.eval, go_sem]⟩) hS ?_
  simp only [Act.put, List.setIfInBounds_toArray, List.set_cons_succ, List.set_cons_zero]
  refine wpAnyK_take (i := 6) (d := some 37) (v := .int .i64 s.t) rfl rfl (by kernel_rfl) (fun _ _ _ h => h) (.inl ⟨rfl, fun wz hz => by simp [execOp, Act.eval, go_sem, hz.2.2.2.2.2.2.1]⟩) hS ?_
  simp only [Act.put, List.setIfInBounds_toArray, List.set_cons_succ, List.set_cons_zero]
  refine wpAnyK_take (i := 7) (d := some 38) (v := .pointer (some ⟨E, 3, none⟩)) rfl rfl (by kernel_rfl) (fun _ _ _ h => h) (.inl ⟨rfl, fun wz hz => by simp [execOp, Act.eval, go_sem]⟩) hS ?_
  simp only [Act.put, List.setIfInBounds_toArray, List.set_cons_succ, List.set_cons_zero]
  refine wpAnyK_take (i := 8) (d := some 39) (v := .int .i64 s.q) rfl rfl (by kernel_rfl) (fun _ _ _ h => h) (.inl ⟨rfl, fun wz hz => by simp [execOp, Act.eval, go_sem, hz.2.2.2.2.2.2.2]⟩) hS ?_
  simp only [Act.put, List.setIfInBounds_toArray, List.set_cons_succ, List.set_cons_zero]
  refine wpAnyK_take (i := 9) (d := some 40) (v := .int .i64 (i : Int)) rfl rfl (by kernel_rfl) (fun _ _ _ h => h) (.inl ⟨rfl, fun wz hz => rfl⟩) hS ?_
  simp only [Act.put, List.setIfInBounds_toArray, List.set_cons_succ, List.set_cons_zero]
  refine wpAnyK_take (i := 10) (d := some 41) (v := .agg #[.int .i64 s.t, .int .i64 s.q, .int .i64 (i : Int)]) rfl rfl (by kernel_rfl) (fun _ _ _ h => h) (.inl ⟨rfl, fun wz hz => by simp [execOp, Act.eval, go_sem]⟩) hS ?_
  simp only [Act.put, List.setIfInBounds_toArray, List.set_cons_succ, List.set_cons_zero]
  refine anyK_fn (i := 11) (d := some 42) (R := fun v W3 => ∃ l2 : LdR, v = .agg #[.int .i64 l2.ts, .slice l2.top.ad l2.top.l.length l2.top.cap, .slice l2.rs.ad l2.rs.l.length l2.rs.cap, .slice l2.bot.ad l2.bot.l.length l2.bot.cap, .int .i64 l2.mv, .int .i64 l2.cp] ∧ BornD w3.drew g2 W3 l2) rfl rfl (by kernel_rfl) rfl (by simp [execOp, Act.eval, go_sem]) ((HIN.out w3.drew (Upd.refl [] w3).drew).mono fun e W3 h => by obtain ⟨l2, h1, h2⟩ := h; exact ⟨_, h1, l2, rfl, h2⟩) ?_
  rintro _ W3 ⟨l2, rfl, hbn⟩
  have hU3 : Upd [] w3 W3 := (Upd.refl [] w3).drew.thn hbn.upd
  have hS3 := HKP3.out W3 hU3
  refine ⟨.inr hS3, ?_⟩
  simp only [Act.put, List.setIfInBounds_toArray, List.set_cons_succ, List.set_cons_zero]
  refine wpAnyK_value (i := 12) (d := some 43) (v := .pointer (some ⟨d.p, 0, none⟩)) (w' := W3) rfl rfl (by kernel_rfl) rfl (by simp [execOp, Act.eval, go_sem]) (.inr hS3) ?_
  simp only [Act.put, List.setIfInBounds_toArray, List.set_cons_succ, List.set_cons_zero]
  refine wpAnyK_value (i := 13) (d := some 44) (v := .pointer (some ⟨d.p, 4, none⟩)) (w' := W3) rfl rfl (by kernel_rfl) rfl (by simp [execOp, Act.eval, go_sem]) (.inr hS3) ?_
  simp only [Act.put, List.setIfInBounds_toArray, List.set_cons_succ, List.set_cons_zero]
  have hB3 := hU3.at HBX.out (by simp)
  obtain ⟨-, -, -, -, y4, y5, y6, y7, y8, y9⟩ := cells10 hB3
  obtain ⟨f2, f3, f4, f5, f6, f7, f8, f9⟩ := free10 hB3
  refine wpAnyK_skip (i := 14) (d := none) (w' := ((((((W3.setCell ⟨d.p, 4, none⟩ (.int .i64 l2.ts)).setCell ⟨d.p, 5, none⟩ (.slice l2.top.ad l2.top.l.length l2.top.cap)).setCell ⟨d.p, 6, none⟩ (.slice l2.rs.ad l2.rs.l.length l2.rs.cap)).setCell ⟨d.p, 7, none⟩ (.slice l2.bot.ad l2.bot.l.length l2.bot.cap)).setCell ⟨d.p, 8, none⟩ (.int .i64 l2.mv)).setCell ⟨d.p, 9, none⟩ (.int .i64 l2.cp))) rfl rfl (by kernel_rfl) rfl (by simp [execOp, Act.eval, go_sem, y4, y5, y6, y7, y8, y9, f4, f5, f6, f7, f8, f9]) (.inl rfl) ?_
  refine wpAnyK_done (by kernel_rfl) ?_ _
  obtain ⟨h4, g4⟩ := (HT3.out.stay hU3).queue (l2 := l2) hbn.has (fun b hb => hbn.av b (by have := HT3.out.lt b hb; simpa using this)) rfl
  with_reducible generalize (((((W3.setCell ⟨d.p, 4, none⟩ (.int .i64 l2.ts)).setCell ⟨d.p, 5, none⟩ (.slice l2.top.ad l2.top.l.length l2.top.cap)).setCell ⟨d.p, 6, none⟩ (.slice l2.rs.ad l2.rs.l.length l2.rs.cap)).setCell ⟨d.p, 7, none⟩ (.slice l2.bot.ad l2.bot.l.length l2.bot.cap)).setCell ⟨d.p, 8, none⟩ (.int .i64 l2.mv)).setCell ⟨d.p, 9, none⟩ (.int .i64 l2.cp) = W4 at h4 g4 ⊢
  have HI4 := Lib.hid h4; have HAV := Lib.hid hbn.av; have HG4 := Lib.hid g4; have HU3 := Lib.hid hU3; have HEQ := Lib.hid hbn.eq
  clear hS hS3 y4 y5 y6 y7 y8 y9 f2 f3 f4 f5 f6 f7 f8 f9 hbn hU3 hB3 h4 g4 HKP3 HIN
  simp only [Act.put]
  go_wp2_with fail
  go_end0
  refine ⟨rfl, ?_, ?_⟩
  · refine ⟨l2, (by have := HI4.out; rw [HEQ.out, ← HF'.out] at this; rw [← HQ2.out]; exact this), fun b hb => HAV.out b ?_⟩
    have h1 := HU.out.size; have h2 := HG3.out.1.size
    show b < w3.heap.size
    omega
  · have := HI4.out; exact (Goes.after HU.out HG3.out).trans (by rw [HF'.out]; exact Goes.after HU3.out HG4.out)
theorem SPut_has {F : List Nat} {d : At} {r : Rw} {w : World} (h : InR F d r w) (hs : Sm r.mem) (th : Int) (hh : ∀ k, k < 4 → r.ms[k]? = some (true, th)) (i : Nat) (s : Sl) (hi : r.ar.sl[i]? = some s) (hf : GoodL r.q) (hlen : lenD r.q ≤ 100000) (hmv : r.q.mv ≤ 100000000000) (hcp : r.q.cp ≤ 100000000000) (hd : ∀ x ∈ itemsL r.q, ¬ eqK ⟨s.t, s.q, (i : Int)⟩ x) :
    Calls Tryz.prog 22 #[.pointer (some ⟨d.p, 0, none⟩), .int .i64 th, .int .i64 i] w fun e w' => e = .returned (.tuple #[]) ∧ InR F d { r with q := insertL r.q ⟨s.t, s.q, (i : Int)⟩ } w' ∧ Goes F F w w' := by
  refine (SPut_new h hs th hh i s hi hf hlen hmv hcp hd).mono ?_
  rintro e w' ⟨rfl, ⟨l, h1, -⟩, h2⟩
  exact ⟨rfl, h1.r, h2⟩
end Go.Proofs.YtmfnfinbkdemkaaGreat
namespace Go.Proofs.YtmfnfinbkdemkaaGreat
open Go.RowKit Go.Lib
open A5

/-- The queue replaced by one that a call made. -/
def Rw.turned (r : Rw) (q : Ld) (lg : List Acc) : Rw := ⟨r.ws.set 0 q.ts, r.ar, q, r.ms, lg, r.v⟩
/-- What Peek and Drop ask of the queue. -/
structure FitQ (q : Ld) : Prop where
  good : GoodL q
  len : lenD q ≤ 100000
  mv : q.mv ≤ 100000000000
theorem FitQ.fit {q : Ld} (h : FitQ q) {l : LdR} (e : l.ld = q) : Fit l := ⟨by rw [e]; exact h.good, by rw [e]; exact h.len, by rw [show l.mv = l.ld.mv from rfl, e]; exact h.mv⟩
set_option maxRecDepth 100000 in
set_option maxHeartbeats 4000000 in
theorem SDrop_has {F : List Nat} {d : At} {r : Rw} {w : World} (h : InR F d r w) (hs : Sm r.mem) (hv : r.v ≤ 40000) (h0 : r.ws[0]? = some r.q.ts) (th : Int) (hf : FitQ r.q) :
    Calls Tryz.prog 24 #[.pointer (some ⟨d.p, 0, none⟩), .int .i64 th] w fun e w' => e = .returned (.tuple #[]) ∧ ∃ F' lg, lg.length ≤ r.log.length + 1 ∧ InR F' d ((r.add (missK r.ms th [0, 1, 2])).turned (popL r.q).1 lg) w' ∧ Goes F F' w w' := by
  have c0 := h.cell0
  have HD := Lib.hid (declare_new h hs th [0, 1, 2] (by decide) (by decide) (O := .cells #[.int .i64 0, .int .i64 1, .int .i64 2] 3) rfl (n := 3) rfl)
  have HC := Lib.hid (orNone_in d.p)
  have hmk : missK r.ms th [0, 1, 2] ≤ 3 := missK_le _ _ _
  have hsm := add_sm hs (missK r.ms th [0, 1, 2]) (by omega)
  generalize missK r.ms th [0, 1, 2] = mk at *
  have HSM := Lib.hid hsm; have HF := Lib.hid hf; have H0 := Lib.hid h0
  clear h hs hsm hmk hv hf h0
  go_enter Tryz.func24, Tryz.ntmps24
  go_wp2_with fail
  (with_reducible refine (HC.out _).mono ?_)
  rintro e w' ⟨rfl, rfl⟩
  go_wp2_with fail
  (with_reducible refine HD.out.mono ?_)
  rintro e w1 ⟨rfl, hi, hg⟩
  have HI := Lib.hid hi; have HG := Lib.hid hg
  obtain ⟨FM, iv, l, hFF, h1⟩ := hi
  have hld : l.ld = r.q := h1.eq
  have HP := Lib.hid (Pop_has l w1 h1.has (HF.out.fit hld))
  rw [hld] at HP
  have HLT := Lib.hid HI.out.lt
  have hb := h1.box
  unfold cellsT at hb
  obtain ⟨-, -, -, -, k4, k5, k6, k7, k8, k9⟩ := cells10 hb
  unfold encD cellsD at HP
  obtain ⟨pp, hpp⟩ : ∃ p, p = popL r.q := ⟨_, rfl⟩
  rw [← hpp] at HP
  have HPP := Lib.hid hpp
  clear hpp
  obtain ⟨g2, ⟨i0, i1, i2⟩, ok⟩ := pp
  unfold Peeked encD cellsD aggI at HP
  simp only at HP ⊢
  clear hg hFF h1 hb hld c0
  go_upto_region 3 with (go_at_call 57; go_loud ((with_reducible refine HP.out.mono ?_); rintro e w2 ⟨l2, rfl, hbn⟩))
  obtain ⟨hu, b0, b1, hsz⟩ := two_boxes w2 (.cells #[.int .i64 l2.ts, .slice l2.top.ad l2.top.l.length l2.top.cap, .slice l2.rs.ad l2.rs.l.length l2.rs.cap, .slice l2.bot.ad l2.bot.l.length l2.bot.cap, .int .i64 l2.mv, .int .i64 l2.cp] 68) (.cells #[.int .i64 i0, .int .i64 i1, .int .i64 i2] 36)
  generalize (w2.alloc (.cells #[.int .i64 l2.ts, .slice l2.top.ad l2.top.l.length l2.top.cap, .slice l2.rs.ad l2.rs.l.length l2.rs.cap, .slice l2.bot.ad l2.bot.l.length l2.bot.cap, .int .i64 l2.mv, .int .i64 l2.cp] 68)).alloc (.cells #[.int .i64 i0, .int .i64 i1, .int .i64 i2] 36) = W3 at *
  have hu3 := hbn.upd.thn hu
  have HSQ := Lib.hid (setQueue_has (HI.out.stay hu3) HSM.out H0.out th l2 (hbn.has.stay hu) (fun b hb => hbn.av b (HLT.out b hb)))
  have HEQ := Lib.hid hbn.eq
  have HAV := Lib.hid hbn.av
  have HU3 := Lib.hid hu3
  have hnf : w2.heap.size + 1 ∉ F := fun hm => by have h1 := HLT.out _ hm; have h2 := hbn.upd.size; omega
  have HNF3 := Lib.hid hnf
  generalize w2.heap.size = P at *
  have HB1 := Lib.hid b1
  obtain ⟨c0, c1, c2, c3, c4, c5⟩ := cells6 b0
  unfold encD cellsD at HSQ
  clear hu b0 b1 hsz hbn hu3 k4 k5 k6 k7 k8 k9 HP hnf
  go_wp2_with (go_at_call 38; go_loud ((with_reducible refine HSQ.out.mono ?_); rintro e w4 ⟨rfl, F', lg, hlg, hi4, hg4⟩; have HLG := Lib.hid hlg; have HI4 := Lib.hid hi4; have HG4 := Lib.hid hg4; clear hlg hi4 hg4))
  go_end0
  exact ⟨rfl, F', lg, HLG.out, (by have := HI4.out.r; rw [HEQ.out, show l2.ts = l2.ld.ts from rfl, HEQ.out] at this; rw [← HPP.out]; exact this), (HG.out.upd HU3.out).trans HG4.out⟩
set_option maxRecDepth 100000 in
set_option maxHeartbeats 4000000 in
theorem SPeek_has {F : List Nat} {d : At} {r : Rw} {w : World} (h : InR F d r w) (hs : Sm r.mem) (hv : r.v ≤ 40000) (h0 : r.ws[0]? = some r.q.ts) (th : Int) (hf : FitQ r.q) :
    Calls Tryz.prog 13 #[.pointer (some ⟨d.p, 0, none⟩), .int .i64 th] w fun e w' => e = .returned (.tuple #[aggI (peekL r.q).2.1, .bool (peekL r.q).2.2]) ∧ ∃ F' lg, lg.length ≤ r.log.length + 1 ∧ InR F' d ((r.add (missK r.ms th [0, 1, 2])).turned (peekL r.q).1 lg) w' ∧ Goes F F' w w' := by
  have HLT0 := Lib.hid h.lt
  have HD := Lib.hid (fun W (hi : InR F d r W) => declare_new hi hs th [0, 1, 2] (by decide) (by decide) (O := .cells #[.int .i64 0, .int .i64 1, .int .i64 2] 3) rfl (n := 3) rfl)
  have HI0 := Lib.hid h
  have HC := Lib.hid (orNone_in d.p)
  have hmk : missK r.ms th [0, 1, 2] ≤ 3 := missK_le _ _ _
  have hsm := add_sm hs (missK r.ms th [0, 1, 2]) (by omega)
  generalize missK r.ms th [0, 1, 2] = mk at *
  have HSM := Lib.hid hsm; have HF := Lib.hid hf; have H0 := Lib.hid h0
  clear h hs hsm hmk hv hf h0
  go_enter Tryz.func13, Tryz.ntmps13
  go_upto_region 1 with (fail)
  have HZ : Hid ((w.alloc (.cells #[.int .i64 0, .int .i64 0, .int .i64 0] 36)).heap[w.heap.size]? = some (.cells #[.int .i64 0, .int .i64 0, .int .i64 0] 36 (0, 0))) := heap_alloc1 _ _
  have HU0 : Hid (Upd [] w (w.alloc (.cells #[.int .i64 0, .int .i64 0, .int .i64 0] 36))) := (Upd.refl [] w).alloc _
  have HNF : Hid (w.heap.size ∉ F) := fun hm => by have := HLT0.out _ hm; omega
  generalize w.alloc (.cells #[.int .i64 0, .int .i64 0, .int .i64 0] 36) = W0 at *
  generalize hH : w.heap.size = H at *
  have HH := Lib.hid hH
  clear hH
  have HD := Lib.hid (HD.out W0 (HI0.out.stay HU0.out))
  have c0 := (HI0.out.stay HU0.out).cell0
  go_wp2_with fail
  (with_reducible refine (HC.out _).mono ?_)
  rintro e w' ⟨rfl, rfl⟩
  go_wp2_with fail
  (with_reducible refine HD.out.mono ?_)
  rintro e w1 ⟨rfl, hi, hg⟩
  have HZ1 := Lib.hid (hg.1.at HZ.out HNF.out)
  have hg := Goes.after HU0.out hg
  have HI := Lib.hid hi; have HG := Lib.hid hg
  obtain ⟨FM, iv, l, hFF, h1⟩ := hi
  have hld : l.ld = r.q := h1.eq
  have HP := Lib.hid (Peek_has l w1 h1.has (HF.out.fit hld))
  rw [hld] at HP
  have HLT := Lib.hid HI.out.lt
  have hb := h1.box
  unfold cellsT at hb
  obtain ⟨-, -, -, -, k4, k5, k6, k7, k8, k9⟩ := cells10 hb
  unfold encD cellsD at HP
  obtain ⟨pp, hpp⟩ : ∃ p, p = peekL r.q := ⟨_, rfl⟩
  rw [← hpp] at HP
  have HPP := Lib.hid hpp
  clear hpp
  obtain ⟨g2, ⟨i0, i1, i2⟩, ok⟩ := pp
  unfold Peeked encD cellsD aggI at HP
  simp only at HP ⊢
  clear hg hFF h1 hb hld c0
  go_upto_region 4 with (go_at_call 37; go_loud ((with_reducible refine HP.out.mono ?_); rintro e w2 ⟨l2, rfl, hbn⟩))
  obtain ⟨hu, b0, b1, hsz⟩ := two_boxes w2 (.cells #[.int .i64 l2.ts, .slice l2.top.ad l2.top.l.length l2.top.cap, .slice l2.rs.ad l2.rs.l.length l2.rs.cap, .slice l2.bot.ad l2.bot.l.length l2.bot.cap, .int .i64 l2.mv, .int .i64 l2.cp] 68) (.cells #[.int .i64 i0, .int .i64 i1, .int .i64 i2] 36)
  generalize (w2.alloc (.cells #[.int .i64 l2.ts, .slice l2.top.ad l2.top.l.length l2.top.cap, .slice l2.rs.ad l2.rs.l.length l2.rs.cap, .slice l2.bot.ad l2.bot.l.length l2.bot.cap, .int .i64 l2.mv, .int .i64 l2.cp] 68)).alloc (.cells #[.int .i64 i0, .int .i64 i1, .int .i64 i2] 36) = W3 at *
  have hu3 := hbn.upd.thn hu
  have HSQ := Lib.hid (setQueue_has (HI.out.stay hu3) HSM.out H0.out th l2 (hbn.has.stay hu) (fun b hb => hbn.av b (HLT.out b hb)))
  have HEQ := Lib.hid hbn.eq
  have HAV := Lib.hid hbn.av
  have HU3 := Lib.hid hu3
  have hnf : w2.heap.size + 1 ∉ F := fun hm => by have h1 := HLT.out _ hm; have h2 := hbn.upd.size; omega
  have HNF3 := Lib.hid hnf
  generalize w2.heap.size = P at *
  have HB1 := Lib.hid b1
  obtain ⟨c0, c1, c2, c3, c4, c5⟩ := cells6 b0
  unfold encD cellsD at HSQ
  clear hu b0 b1 hsz hbn hu3 k4 k5 k6 k7 k8 k9 HP hnf
  go_wp2_with (go_at_call 38; go_loud ((with_reducible refine HSQ.out.mono ?_); rintro e w4 ⟨rfl, F', lg, hlg, hi4, hg4⟩; have HLG := Lib.hid hlg; have HI4 := Lib.hid hi4; have HG4 := Lib.hid hg4; have hz := hg4.1.at (HU3.out.at HZ1.out (by simp)) HNF.out; have HZ4 := Lib.hid hz; obtain ⟨d0, d1, d2⟩ := cells3 hz; obtain ⟨e0, e1, e2⟩ := free3 hz; obtain ⟨q0, q1, q2⟩ := cells3 (hg4.1.at HB1.out HNF3.out); clear hz; clear hlg hi4 hg4))
  have p2 := stored3 HZ4.out (.int .i64 i0) (.int .i64 i1) (.int .i64 i2)
  have hU5 := upd_set3 w4 H (.int .i64 i0) (.int .i64 i1) (.int .i64 i2)
  with_reducible generalize ((w4.setCell ⟨H, 0, none⟩ (.int .i64 i0)).setCell ⟨H, 1, none⟩ (.int .i64 i1)).setCell ⟨H, 2, none⟩ (.int .i64 i2) = w5 at p2 hU5 ⊢
  obtain ⟨r0, r1, r2⟩ := cells3 p2
  have hgo := (HG.out.upd HU3.out).trans HG4.out
  have hi5 := HI4.out.cell hU5 (fun hm => (HG4.out.2 _ hm).elim HNF.out (fun k => by have h1 := lt_block HZ1.out; have h2 := HU3.out.size; omega)) (HAV.out H (lt_block HZ1.out))
  exact bodyPost_ret (v := .tuple #[.agg #[.int .i64 i0, .int .i64 i1, .int .i64 i2], .bool ok]) (by simp [results, Tryz.results13, go_sem, r0, r1, r2]) rfl ⟨(by rw [← HPP.out]; rfl), F', lg, HLG.out, (by have := hi5.r; rw [HEQ.out, show l2.ts = l2.ld.ts from rfl, HEQ.out] at this; rw [← HPP.out]; exact this), ⟨hgo.1.trans hU5 (fun x hx hl => by simp only [List.mem_singleton] at hx; have := HH.out; omega), hgo.2⟩⟩
end Go.Proofs.YtmfnfinbkdemkaaGreat
