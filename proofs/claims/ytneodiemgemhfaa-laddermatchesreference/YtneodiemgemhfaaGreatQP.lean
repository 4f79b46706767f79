/- Contract: Made of the laws of layer 8. -/
import Derived.Test.YtneodiemgemhfaaGreatPX
import Derived.Test.YtneodiemgemhfaaGreatQA
import Derived.Test.YtneodiemgemhfaaGreatK
namespace Go.Proofs.YtneodiemgemhfaaGreat
open Go.RowKit Go.Lib

section
variable {P : Program} {ops : Array Oper} {Q : Exit → Act → World → Prop} {md : Region.Mode} {S : World → Prop} {k : Nat}
/-- A call that alone may come up. -/
theorem wpAnyK_callee {i : Nat} {o : Oper} {d : Option Tmp} {fuel : Nat} {listed : Array Bool} {a : Act} {w : World} {f : FuncId} {args : Array Value} {R : Value → World → Prop} (hi : ops[i]? = some o) (hd : o.dst = d) (hr : Region.ready md ops listed = [i]) (hw : Region.wanted o (yielded ops a.tmps) = true)
    (hrun : (execOp a.eval o).run P w = .ok (.enter f args) w) (hc : Calls P f args w fun e w' => ∃ v, e = .returned v ∧ R v w')
    (hR : ∀ v w', R v w' → (i = k ∨ S w') ∧ wpAnyK P md ops Q S k fuel (listed.setIfInBounds i true) (a.put d v) w') : wpAnyK P md ops Q S k (fuel + 1) listed a w := by
  subst hd
  refine wpAnyK_one hr (wpOp_wp hi hw ?_)
  unfold Oper.wp
  rw [hrun]
  show Calls P f args w _
  refine hc.mono ?_
  rintro e w' ⟨v, rfl, h⟩
  exact hR v w' h
end
/-- The state of a script: the queue, the time of the last item popped, the next number. -/
structure St where
  l : Ld
  last : Int
  seq : Nat
noncomputable def stepM (s : St) (k : Nat) (o : Ox) : St := if o.p = true then ⟨(popL s.l).1, if (popL s.l).2.2 = true then (popL s.l).2.1.t else s.last, s.seq⟩ else ⟨insertL s.l ⟨timeX o s.last, (s.seq : Nat), (k : Int) % 64⟩, s.last, s.seq + 1⟩
noncomputable def runM (os : List Ox) : Nat → St
  | 0 => ⟨newL, 0, 0⟩
  | k + 1 => if h : k < os.length then stepM (runM os k) k os[k] else runM os k
theorem runM_succ {os : List Ox} {k : Nat} (h : k < os.length) : runM os (k + 1) = stepM (runM os k) k os[k] := by simp only [runM]; rw [dif_pos h]
/-- What Made gives. -/
noncomputable def madeM (os : List Ox) : St := runM os (min os.length 150)
structure ReachS (k : Nat) (s : St) : Prop where
  reach : ReachL s.seq s.l
  last : 0 ≤ s.last ∧ s.last ≤ MaxT
  seq : s.seq ≤ k
theorem pop_time {l : Ld} (h : GoodL l) : 0 ≤ (popL l).2.1.t ∧ (popL l).2.1.t ≤ MaxT := by
  cases pop_ok h with
  | no e p _ => rw [p]; exact ⟨Int.le_refl (0 : Int), (by decide : (0 : Int) ≤ MaxT)⟩
  | yes x l' p _ good its least hpot mv cp bot => rw [p]; exact h.times (its.subset List.mem_cons_self)
theorem ReachS.step {k : Nat} {s : St} (h : ReachS k s) (o : Ox) : ReachS (k + 1) (stepM s k o) := by
  unfold stepM
  split
  · refine ⟨h.reach.pop, ?_, Nat.le_succ_of_le h.seq⟩
    split
    · exact pop_time h.reach.good
    · exact h.last
  · have ht := timeX_bd (o := o) h.last
    exact ⟨h.reach.insert ht.1 ht.2 (Int.le_refl _) (by simp only; omega) (Nat.le_refl _), h.last, Nat.succ_le_succ h.seq⟩
theorem reach_runM (os : List Ox) : ∀ k, ReachS k (runM os k)
  | 0 => ⟨reachL_new, ⟨Int.le_refl (0 : Int), (by decide : (0 : Int) ≤ MaxT)⟩, Nat.le_refl _⟩
  | k + 1 => by
    have h := reach_runM os k
    simp only [runM]
    split
    · exact h.step _
    · exact ⟨h.reach, h.last, Nat.le_succ_of_le h.seq⟩
theorem made_reach (os : List Ox) : ReachS 150 (madeM os) := by
  have h := reach_runM os (min os.length 150)
  exact ⟨h.reach, h.last, Nat.le_trans h.seq (Nat.min_le_right _ _)⟩
theorem ReachL.fitR {k : Nat} {g : Ld} (h : ReachL k g) (hk : k ≤ 10000) {l : LdR} (hl : l.ld = g) : FitR l := by
  have h1 := h.fit hk hl
  exact ⟨h1.1.good, h1.1.len, h1.1.mv, h1.2⟩
/-- The law's own queue in the box P, beside the result's box H. -/
structure LMade (w : World) (H P : Nat) (g : Ld) (wr : World) (l : LdR) : Prop where
  eq : l.ld = g
  res : wr.heap[H]? = some (.cells #[.int .i64 0, .slice none 0 0, .slice none 0 0, .slice none 0 0, .int .i64 0, .int .i64 0] 25 (0, 0))
  box : wr.heap[P]? = some (.cells (cellsD l) 25 (0, 0))
  has : HasD wr l
  avH : AvD l H
  avP : AvD l P
  av : ∀ b, b < w.heap.size → AvD l b
  upd : Upd [] w wr
  ord : w.heap.size ≤ H ∧ H < P
theorem LMade.cells {w : World} {H P : Nat} {g : Ld} {wr : World} {l : LdR} (h : LMade w H P g wr l) : wr.heap[P]? = some (.cells #[.int .i64 l.ts, .slice l.top.ad l.top.l.length l.top.cap, .slice l.rs.ad l.rs.l.length l.rs.cap, .slice l.bot.ad l.bot.l.length l.bot.cap, .int .i64 l.mv, .int .i64 l.cp] 25 (0, 0)) := h.box
theorem LMade.step {w wr wc w5 : World} {H P : Nat} {g q : Ld} {l l2 : LdR} (h : LMade w H P g wr l) {wb : World} (hu : Upd [] wr wb) (hn : NxtD wb l q wc l2) {wd : World} (hd : Upd [] wc wd) (h5 : Upd [P] wd w5) (hb : w5.heap[P]? = some (.cells (cellsD l2) 25 (0, 0))) : LMade w H P q w5 l2 := by
  have h1 := lt_block h.res
  have h2 := lt_block h.box
  have h3 := h.ord
  have h4 := hu.size
  have hP := hn.av P (by omega) h.avP
  have hH := hn.av H (by omega) h.avH
  have hU := ((hu.thn hn.upd).thn hd)
  have h6 := h.upd.size
  exact ⟨hn.eq, h5.at (hU.at h.res (by simp)) (by simp; omega), hb, (hn.has.stay hd).keep1 h5 hP, hH, hP, fun x hx => hn.av x (by omega) (h.av x hx), (h.upd.thn hU).new h5 (by omega), h3⟩
def MadePost (s : St) (w : World) (e : Ending) (w' : World) : Prop := ∃ l', e = .returned (.tuple #[encD l', .int .i64 (s.seq : Nat), .int .i64 s.last]) ∧ BornD w s.l w' l'
set_option maxRecDepth 100000 in
set_option maxHeartbeats 8000000 in
theorem LMade_has (la : Option Addr) (lc : Nat) (os : List Ox) (w : World) (ho : Row LX w la os) (hoa : ∀ o ∈ os, U64 o.a) :
    Calls Tryz.prog 10 #[.slice la os.length lc] w (MadePost (madeM os) w) := by
  obtain ⟨L, hL⟩ : ∃ L, L = os.length := ⟨_, rfl⟩
  obtain ⟨N, hN⟩ : ∃ N, N = min L 150 := ⟨_, rfl⟩
  have hme : madeM os = runM os N := by rw [hN, hL]; rfl
  rw [hme]
  have HRE := Lib.hid (reach_runM os)
  have HSU : Hid (∀ k (h : k < os.length), runM os (k + 1) = stepM (runM os k) k os[k]) := fun k h => runM_succ h
  have HZ : Hid ((runM os 0).l = newL ∧ (runM os 0).last = 0 ∧ (runM os 0).seq = 0) := ⟨rfl, rfl, rfl⟩
  generalize runM os = R at *
  have HO := Lib.hid ho; have HOA := Lib.hid hoa; have HL := Lib.hid hL; have HN := Lib.hid hN
  rw [← hL]
  clear ho hoa hL hN hme
  go_enter Tryz.func10, Tryz.ntmps10
  go_upto_region 1 with (fail)
  have b0 := heap_alloc1 w (.cells #[.int .i64 0, .slice none 0 0, .slice none 0 0, .slice none 0 0, .int .i64 0, .int .i64 0] 25)
  have hu0 := (Upd.refl [] w).alloc (.cells #[.int .i64 0, .slice none 0 0, .slice none 0 0, .slice none 0 0, .int .i64 0, .int .i64 0] 25)
  have hs0 : (w.alloc (.cells #[.int .i64 0, .slice none 0 0, .slice none 0 0, .slice none 0 0, .int .i64 0, .int .i64 0] 25)).heap.size = w.heap.size + 1 := by simp
  generalize w.alloc (.cells #[.int .i64 0, .slice none 0 0, .slice none 0 0, .slice none 0 0, .int .i64 0, .int .i64 0] 25) = W at *
  generalize hH : w.heap.size = H at *
  have HU0 := Lib.hid hu0; have HB0 := Lib.hid b0; have HH := Lib.hid hH; have HS0 := Lib.hid hs0
  clear hu0 b0 hH hs0
  go_upto_region 2 with (go_at_call 24; (with_reducible refine (RNewL_has _).mono ?_); rintro e w1 ⟨l1, rfl, hE, hD, hA, hU⟩; unfold encD cellsD)
  have hal := (Upd.refl [] w1).alloc (.cells #[.int .i64 l1.ts, .slice l1.top.ad l1.top.l.length l1.top.cap, .slice l1.rs.ad l1.rs.l.length l1.rs.cap, .slice l1.bot.ad l1.bot.l.length l1.bot.cap, .int .i64 l1.mv, .int .i64 l1.cp] 25)
  have HM0 : Hid (LMade w H w1.heap.size (R 0).l (w1.alloc (.cells #[.int .i64 l1.ts, .slice l1.top.ad l1.top.l.length l1.top.cap, .slice l1.rs.ad l1.rs.l.length l1.rs.cap, .slice l1.bot.ad l1.bot.l.length l1.bot.cap, .int .i64 l1.mv, .int .i64 l1.cp] 25)) l1) := by
    have hs0 := HS0.out
    have hh := HH.out
    have hsz := hU.size
    exact ⟨by rw [HZ.out.1]; exact hE, hal.at (hU.at HB0.out (by simp)) (by simp), heap_alloc1 _ _, hD.stay hal, hA _, hA _, fun b _ => hA b, (HU0.out.thn hU).thn hal, ⟨by omega, by omega⟩⟩
  generalize w1.alloc (.cells #[.int .i64 l1.ts, .slice l1.top.ad l1.top.l.length l1.top.cap, .slice l1.rs.ad l1.rs.l.length l1.rs.cap, .slice l1.bot.ad l1.bot.l.length l1.bot.cap, .int .i64 l1.mv, .int .i64 l1.cp] 25) = W2 at *
  generalize w1.heap.size = P at *
  clear hal hE hD hA hU HU0 HB0 HS0
  go_wp2_with fail
  go_loopg [6, 7, 8, 9, 10, 11] N (fun gk v6 v7 v8 v9 v10 v11 wr => ∃ (k : Nat) (l : LdR), v6 = .int .i64 (R k).last ∧ v7 = .int .i64 ((R k).seq : Nat) ∧ v8 = .int .i64 k ∧ k + gk = N ∧ Hid (LMade w H P (R k).l wr l))
  case atStart => exact ⟨0, l1, by rw [HZ.out.2.1], by rw [HZ.out.2.2]; rfl, rfl, by omega, HM0⟩
  case round =>
    obtain ⟨k, l, rfl, rfl, rfl, hkg, HM⟩ := hrel
    by_cases hlt : k < N
    · have hltz : (k : Int) < (L : Int) := by have := HN.out; omega
      have hlt5 : (k : Int) < 150 := by have := HN.out; omega
      have hko : k < os.length := by have := HL.out; have := HN.out; omega
      obtain ⟨ob, oo, rfl, x0, x1, x2⟩ := (HO.out.stay HM.out.upd).op8 k hko
      have HUO := Lib.hid (HOA.out _ (List.getElem_mem hko))
      have HSK := Lib.hid (HSU.out k hko)
      have hre := HRE.out k
      have HLA := Lib.hid hre.last
      have HNX := Lib.hid (hre.step os[k])
      have hsq := hre.seq
      obtain ⟨o, hov⟩ : ∃ o, o = os[k]'hko := ⟨_, rfl⟩
      rw [← hov] at x0 x1 x2 HUO HSK HNX
      clear hov hko
      have hfit := hre.reach.fitR (by have := HN.out; omega) HM.out.eq
      cases hp : o.p with
      | false =>
        rw [hp] at x0
        have HST : Hid (R (k + 1) = ⟨insertL (R k).l ⟨timeX o (R k).last, ((R k).seq : Nat), (k : Int) % 64⟩, (R k).last, (R k).seq + 1⟩) := by show _ = _; rw [HSK.out, stepM, if_neg (by rw [hp]; decide)]
        have HMR := Lib.hid (show LMade w H P (R k).l wr l from HM.out)
        generalize hlast : (R k).last = last at *
        generalize hseq : (R k).seq = seq at *
        obtain ⟨tx, htx⟩ : ∃ tx, tx = timeX o last := ⟨_, rfl⟩
        have HTM := Lib.hid (fun V => time_has o last V HUO.out HLA.out)
        rw [← htx, hp] at HTM
        rw [← htx] at HST
        obtain ⟨sl, hsl⟩ : ∃ sl, sl = (k : Int) % 64 := ⟨_, rfl⟩
        rw [← hsl] at HST
        have hrm : (k : Int).tmod 64 = sl := by rw [hsl]; exact Int.tmod_eq_emod_of_nonneg (by omega)
        have HIN : Hid (∀ V, Upd [] wr V → Calls Tryz.prog 20 #[encD l, aggI ⟨tx, (seq : Nat), sl⟩] V (GivesRD l (insertL l.ld ⟨tx, (seq : Nat), sl⟩) V)) := fun V hv => RInsert_has l ⟨tx, (seq : Nat), sl⟩ V (HMR.out.has.stay hv) hfit
        rw [HMR.out.eq] at HIN
        generalize insertL (R k).l ⟨tx, (seq : Nat), sl⟩ = g2 at *
        unfold encD cellsD aggI at HIN
        simp only at HIN
        obtain ⟨oa, hoa⟩ : ∃ oa, oa = o.a := ⟨_, rfl⟩
        obtain ⟨on, hon⟩ : ∃ on, on = o.n := ⟨_, rfl⟩
        rw [← hoa] at x1 HTM
        rw [← hon] at x2 HTM
        have hlk : ¬ L ≤ k := by omega
        clear htx hfit hoa hon hp hre hsl hlast hseq
        go_upto_region 12 with (fail)
        obtain ⟨b0, b1, b2, b3, b4, b5⟩ := cells6 HMR.out.cells
        have HKP : Hid (∀ V, Upd [] wr V → ((V.cell? ⟨P, 0, none⟩ = some (.int .i64 l.ts) ∧ V.cell? ⟨P, 1, none⟩ = some (.slice l.top.ad l.top.l.length l.top.cap) ∧ V.cell? ⟨P, 2, none⟩ = some (.slice l.rs.ad l.rs.l.length l.rs.cap) ∧ V.cell? ⟨P, 3, none⟩ = some (.slice l.bot.ad l.bot.l.length l.bot.cap) ∧ V.cell? ⟨P, 4, none⟩ = some (.int .i64 l.mv) ∧ V.cell? ⟨P, 5, none⟩ = some (.int .i64 l.cp)) ∧ V.cell? ⟨ob, oo + k * 3, none⟩ = some (.bool false) ∧ V.cell? ⟨ob, oo + k * 3 + 1, none⟩ = some (.int .u64 oa) ∧ V.cell? ⟨ob, oo + k * 3 + 2, none⟩ = some (.bool on))) := fun V hu => ⟨⟨hu.cell b0 (by simp), hu.cell b1 (by simp), hu.cell b2 (by simp), hu.cell b3 (by simp), hu.cell b4 (by simp), hu.cell b5 (by simp)⟩, hu.cell x0 (by simp), hu.cell x1 (by simp), hu.cell x2 (by simp)⟩
        have hS := HKP.out wr.drew (Upd.refl [] wr).drew
        refine wp_region_K (fun V => ((V.cell? ⟨P, 0, none⟩ = some (.int .i64 l.ts) ∧ V.cell? ⟨P, 1, none⟩ = some (.slice l.top.ad l.top.l.length l.top.cap) ∧ V.cell? ⟨P, 2, none⟩ = some (.slice l.rs.ad l.rs.l.length l.rs.cap) ∧ V.cell? ⟨P, 3, none⟩ = some (.slice l.bot.ad l.bot.l.length l.bot.cap) ∧ V.cell? ⟨P, 4, none⟩ = some (.int .i64 l.mv) ∧ V.cell? ⟨P, 5, none⟩ = some (.int .i64 l.cp)) ∧ V.cell? ⟨ob, oo + k * 3, none⟩ = some (.bool false) ∧ V.cell? ⟨ob, oo + k * 3 + 1, none⟩ = some (.int .u64 oa) ∧ V.cell? ⟨ob, oo + k * 3 + 2, none⟩ = some (.bool on))) 12 mixed ?_
        refine wpAnyK_take (i := 0) (d := some 38) (v := .agg #[.int .i64 l.ts, .slice l.top.ad l.top.l.length l.top.cap, .slice l.rs.ad l.rs.l.length l.rs.cap, .slice l.bot.ad l.bot.l.length l.bot.cap, .int .i64 l.mv, .int .i64 l.cp]) rfl rfl (by kernel_rfl) (fun _ _ _ h => h) (.inl ⟨rfl, fun wz hz => by simp [execOp, Act.eval, go_sem, hz.1.1, hz.1.2.1, hz.1.2.2.1, hz.1.2.2.2.1, hz.1.2.2.2.2.1, hz.1.2.2.2.2.2]⟩) hS ?_
        simp only [Act.put, List.setIfInBounds_toArray, List.set_cons_succ, List.set_cons_zero]
        refine wpAnyK_take (i := 1) (d := some 39) (v := .slice (some ⟨ob, oo, none⟩) L lc) rfl rfl (by kernel_rfl) (fun _ _ _ h => h) (.inl ⟨rfl, fun wz hz => rfl⟩) hS ?_
        simp only [Act.put, List.setIfInBounds_toArray, List.set_cons_succ, List.set_cons_zero]
        refine wpAnyK_take (i := 2) (d := some 40) (v := .int .i64 k) rfl rfl (by kernel_rfl) (fun _ _ _ h => h) (.inl ⟨rfl, fun wz hz => rfl⟩) hS ?_
        simp only [Act.put, List.setIfInBounds_toArray, List.set_cons_succ, List.set_cons_zero]
        refine wpAnyK_take (i := 3) (d := some 41) (v := .pointer (some ⟨ob, oo + k * 3, none⟩)) rfl rfl (by kernel_rfl) (fun _ _ _ h => h) (.inl ⟨rfl, fun wz hz => by simp [execOp, Act.eval, go_sem, hlk]⟩) hS ?_
        simp only [Act.put, List.setIfInBounds_toArray, List.set_cons_succ, List.set_cons_zero]
        refine wpAnyK_take (i := 4) (d := some 42) (v := .agg #[.bool false, .int .u64 oa, .bool on]) rfl rfl (by kernel_rfl) (fun _ _ _ h => h) (.inl ⟨rfl, fun wz hz => by simp [execOp, Act.eval, go_sem, hz.2.1, hz.2.2.1, hz.2.2.2]⟩) hS ?_
        simp only [Act.put, List.setIfInBounds_toArray, List.set_cons_succ, List.set_cons_zero]
        refine wpAnyK_take (i := 5) (d := some 43) (v := .int .i64 last) rfl rfl (by kernel_rfl) (fun _ _ _ h => h) (.inl ⟨rfl, fun wz hz => rfl⟩) hS ?_
        simp only [Act.put, List.setIfInBounds_toArray, List.set_cons_succ, List.set_cons_zero]
        refine wpAnyK_take (i := 7) (d := some 45) (v := .int .i64 (seq : Nat)) rfl rfl (by kernel_rfl) (fun _ _ _ h => h) (.inl ⟨rfl, fun wz hz => rfl⟩) hS ?_
        simp only [Act.put, List.setIfInBounds_toArray, List.set_cons_succ, List.set_cons_zero]
        refine wpAnyK_take (i := 8) (d := some 46) (v := .int .i64 k) rfl rfl (by kernel_rfl) (fun _ _ _ h => h) (.inl ⟨rfl, fun wz hz => rfl⟩) hS ?_
        simp only [Act.put, List.setIfInBounds_toArray, List.set_cons_succ, List.set_cons_zero]
        refine wpAnyK_take (i := 9) (d := some 47) (v := .int .i64 sl) rfl rfl (by kernel_rfl) (fun _ _ _ h => h) (.inl ⟨rfl, fun wz hz => by simp [execOp, Act.eval, go_sem, hrm]⟩) hS ?_
        simp only [Act.put, List.setIfInBounds_toArray, List.set_cons_succ, List.set_cons_zero]
        refine wpAnyK_callee (i := 6) (d := some 44) (R := fun v W2 => v = .int .i64 tx ∧ Upd [] wr.drew W2) rfl rfl (by kernel_rfl) rfl (by simp [execOp, Act.eval, go_sem]) ((HTM.out wr.drew).mono fun e W2 h => ⟨_, h.1, rfl, h.2⟩) ?_
        rintro _ W2 ⟨rfl, hu2⟩
        have hU2 : Upd [] wr W2 := (Upd.refl [] wr).drew.thn hu2
        have hS2 := HKP.out W2 hU2
        refine ⟨.inr hS2, ?_⟩
        simp only [Act.put, List.setIfInBounds_toArray, List.set_cons_succ, List.set_cons_zero]
        refine wpAnyK_value (i := 10) (d := some 48) (v := .agg #[.int .i64 tx, .int .i64 (seq : Nat), .int .i64 sl]) (w' := W2) rfl rfl (by kernel_rfl) rfl (by simp [execOp, Act.eval, go_sem]) (.inr hS2) ?_
        simp only [Act.put, List.setIfInBounds_toArray, List.set_cons_succ, List.set_cons_zero]
        refine wpAnyK_callee (i := 11) (d := some 49) (R := fun v W3 => ∃ l2, v = encD l2 ∧ NxtD W2 l g2 W3 l2) rfl rfl (by kernel_rfl) rfl (by simp [execOp, Act.eval, go_sem]) ((HIN.out W2 hU2).mono fun e W3 ⟨l2, h⟩ => ⟨_, h.1, l2, rfl, h.2⟩) ?_
        rintro _ W3 ⟨l2, rfl, hB2⟩
        have hS3 := HKP.out W3 (hU2.thn hB2.upd)
        refine ⟨.inr hS3, ?_⟩
        simp only [Act.put, List.setIfInBounds_toArray, List.set_cons_succ, List.set_cons_zero]
        have hq := (hU2.thn hB2.upd).at HMR.out.cells (by simp)
        obtain ⟨z0, z1, z2, z3, z4, z5⟩ := free6 hq
        obtain ⟨⟨y0, y1, y2, y3, y4, y5⟩, -⟩ := hS3
        unfold encD cellsD
        refine wpAnyK_skip (i := 12) (d := none) (w' := (((((W3.setCell ⟨P, 0, none⟩ (.int .i64 l2.ts)).setCell ⟨P, 1, none⟩ (.slice l2.top.ad l2.top.l.length l2.top.cap)).setCell ⟨P, 2, none⟩ (.slice l2.rs.ad l2.rs.l.length l2.rs.cap)).setCell ⟨P, 3, none⟩ (.slice l2.bot.ad l2.bot.l.length l2.bot.cap)).setCell ⟨P, 4, none⟩ (.int .i64 l2.mv)).setCell ⟨P, 5, none⟩ (.int .i64 l2.cp)) rfl rfl (by kernel_rfl) rfl (by simp [execOp, Act.eval, go_sem, y0, y1, y2, y3, y4, y5, z0, z1, z2, z3, z4, z5]) (.inl rfl) ?_
        refine wpAnyK_done (by kernel_rfl) ?_ _
        have p2 := stored6 hq (.int .i64 l2.ts) (.slice l2.top.ad l2.top.l.length l2.top.cap) (.slice l2.rs.ad l2.rs.l.length l2.rs.cap) (.slice l2.bot.ad l2.bot.l.length l2.bot.cap) (.int .i64 l2.mv) (.int .i64 l2.cp)
        have hU5 := upd_set6 W3 P (.int .i64 l2.ts) (.slice l2.top.ad l2.top.l.length l2.top.cap) (.slice l2.rs.ad l2.rs.l.length l2.rs.cap) (.slice l2.bot.ad l2.bot.l.length l2.bot.cap) (.int .i64 l2.mv) (.int .i64 l2.cp)
        with_reducible generalize (((((W3.setCell ⟨P, 0, none⟩ (.int .i64 l2.ts)).setCell ⟨P, 1, none⟩ (.slice l2.top.ad l2.top.l.length l2.top.cap)).setCell ⟨P, 2, none⟩ (.slice l2.rs.ad l2.rs.l.length l2.rs.cap)).setCell ⟨P, 3, none⟩ (.slice l2.bot.ad l2.bot.l.length l2.bot.cap)).setCell ⟨P, 4, none⟩ (.int .i64 l2.mv)).setCell ⟨P, 5, none⟩ (.int .i64 l2.cp) = W4 at p2 hU5 ⊢
        have HM3 : Hid (LMade w H P g2 W4 l2) := HMR.out.step hU2 hB2 (Upd.refl _ _) hU5 p2
        clear hS hS2 p2 hU5 hq hB2 hU2 hu2 b0 b1 b2 b3 b4 b5 x0 x1 x2 y0 y1 y2 y3 y4 y5 z0 z1 z2 z3 z4 z5 HM HMR HIN HTM HKP hlk hrm
        have hwn : IntKind.i64.wrap ((seq : Int) + 1) = (seq : Int) + 1 := by rw [IntKind.wrap_i64]; omega
        have hwk : IntKind.i64.wrap ((k : Int) + 1) = (k : Int) + 1 := by rw [IntKind.wrap_i64]; omega
        simp only [Act.put]
        go_wp2_with fail
        go_roundg (gk - 1)
        case measure => omega
        case rel => exact ⟨k + 1, l2, by rw [HST.out], by rw [HST.out]; go_num, by go_num, by omega, by rw [HST.out]; exact HM3⟩
      | true =>
        rw [hp] at x0
        have HST : Hid (R (k + 1) = ⟨(popL (R k).l).1, if (popL (R k).l).2.2 = true then (popL (R k).l).2.1.t else (R k).last, (R k).seq⟩) := by show _ = _; rw [HSK.out, stepM, if_pos (by rw [hp])]
        have hpo := RPop_has l wr HM.out.has hfit.good hfit.len hfit.mv
        rw [HM.out.eq] at hpo
        have HMR := Lib.hid (show LMade w H P (R k).l wr l from HM.out)
        generalize hlast : (R k).last = last at *
        generalize hseq : (R k).seq = seq at *
        generalize popL (R k).l = pp at *
        obtain ⟨g2, ⟨i0, i1, i2⟩, ok⟩ := pp
        have HPO : Hid (Calls Tryz.prog 15 #[encD l] wr (GivesRP l (g2, ⟨i0, i1, i2⟩, ok) wr)) := hpo
        simp only at HST
        unfold encD cellsD at HPO
        have hlk : ¬ L ≤ k := by omega
        clear hfit hp hre hlast hseq hpo x1 x2
        obtain ⟨b0, b1, b2, b3, b4, b5⟩ := cells6 HMR.out.cells
        go_upto_region 9 with (go_at_call 15; (with_reducible refine HPO.out.mono ?_); rintro e w2 ⟨l2, rfl, hB⟩; unfold encD cellsD aggI; simp only)
        obtain ⟨ha, qm, qt, hsm⟩ := two_boxes w2 (.cells #[.int .i64 l2.ts, .slice l2.top.ad l2.top.l.length l2.top.cap, .slice l2.rs.ad l2.rs.l.length l2.rs.cap, .slice l2.bot.ad l2.bot.l.length l2.bot.cap, .int .i64 l2.mv, .int .i64 l2.cp] 25) (.cells #[.int .i64 i0, .int .i64 i1, .int .i64 i2] 36)
        have HBN := Lib.hid hB; have HA := Lib.hid ha; have HQM := Lib.hid qm; have HQT := Lib.hid qt
        have q0 := ha.at (hB.upd.at HMR.out.cells (by simp)) (by simp)
        have hne : P < w2.heap.size := Nat.lt_of_lt_of_le (lt_block HMR.out.box) hB.upd.size
        have HQ0 := Lib.hid q0; have HNE := Lib.hid hne
        clear b0 b1 b2 b3 b4 b5 x0 ha hB hsm
        generalize (w2.alloc (.cells #[.int .i64 l2.ts, .slice l2.top.ad l2.top.l.length l2.top.cap, .slice l2.rs.ad l2.rs.l.length l2.rs.cap, .slice l2.bot.ad l2.bot.l.length l2.bot.cap, .int .i64 l2.mv, .int .i64 l2.cp] 25)).alloc (.cells #[.int .i64 i0, .int .i64 i1, .int .i64 i2] 36) = W3 at *
        generalize w2.heap.size = M at *
        obtain ⟨b0, b1, b2, b3, b4, b5⟩ := cells6 q0
        obtain ⟨z0, z1, z2, z3, z4, z5⟩ := free6 q0
        obtain ⟨y0, y1, y2, y3, y4, y5⟩ := cells6 qm
        clear q0 qm qt hne
        go_upto_region 10 with (fail)
        have p2 := stored6 HQ0.out (.int .i64 l2.ts) (.slice l2.top.ad l2.top.l.length l2.top.cap) (.slice l2.rs.ad l2.rs.l.length l2.rs.cap) (.slice l2.bot.ad l2.bot.l.length l2.bot.cap) (.int .i64 l2.mv) (.int .i64 l2.cp)
        have hU5 := upd_set6 W3 P (.int .i64 l2.ts) (.slice l2.top.ad l2.top.l.length l2.top.cap) (.slice l2.rs.ad l2.rs.l.length l2.rs.cap) (.slice l2.bot.ad l2.bot.l.length l2.bot.cap) (.int .i64 l2.mv) (.int .i64 l2.cp)
        with_reducible generalize (((((W3.setCell ⟨P, 0, none⟩ (.int .i64 l2.ts)).setCell ⟨P, 1, none⟩ (.slice l2.top.ad l2.top.l.length l2.top.cap)).setCell ⟨P, 2, none⟩ (.slice l2.rs.ad l2.rs.l.length l2.rs.cap)).setCell ⟨P, 3, none⟩ (.slice l2.bot.ad l2.bot.l.length l2.bot.cap)).setCell ⟨P, 4, none⟩ (.int .i64 l2.mv)).setCell ⟨P, 5, none⟩ (.int .i64 l2.cp) = W4 at p2 hU5 ⊢
        have HM3 : Hid (LMade w H P g2 W4 l2) := HMR.out.step (Upd.refl _ _) HBN.out HA.out hU5 p2
        obtain ⟨k0, k1, k2⟩ := cells3 (hU5.at HQT.out (by have := HNE.out; simp only [List.mem_singleton]; omega))
        clear b0 b1 b2 b3 b4 b5 z0 z1 z2 z3 z4 z5 y0 y1 y2 y3 y4 y5 p2 hU5 HM HMR HBN HA HQM HQT HQ0
        have hwk : IntKind.i64.wrap ((k : Int) + 1) = (k : Int) + 1 := by rw [IntKind.wrap_i64]; omega
        cases ok with
        | true =>
          go_wp2_with fail
          go_roundg (gk - 1)
          case measure => omega
          case rel => exact ⟨k + 1, l2, by rw [HST.out]; rfl, by rw [HST.out], by go_num, by omega, by rw [HST.out]; exact HM3⟩
        | false =>
          go_wp2_with fail
          go_roundg (gk - 1)
          case measure => omega
          case rel => exact ⟨k + 1, l2, by rw [HST.out]; rfl, by rw [HST.out], by go_num, by omega, by rw [HST.out]; exact HM3⟩
    · obtain rfl : N = k := by omega
      have hre := HRE.out N
      have hsq := hre.seq
      obtain ⟨b0, b1, b2, b3, b4, b5⟩ := cells6 HM.out.cells
      have q2 := HM.out.res
      have HQ2 := Lib.hid q2
      obtain ⟨y0, y1, y2, y3, y4, y5⟩ := cells6 q2
      obtain ⟨z0, z1, z2, z3, z4, z5⟩ := free6 q2
      have HMR := Lib.hid (show LMade w H P (R N).l wr l from HM.out)
      have HPST : Hid (∀ e w', MadePost ⟨(R N).l, (R N).last, (R N).seq⟩ w e w' → MadePost (R N) w e w') := fun e w' h => h
      generalize hlast : (R N).last = last at *
      generalize hseq : (R N).seq = seq at *
      clear q2 hre hsq hlast hseq
      have hcond : (¬ (N : Int) < 150 ∧ (N : Int) < (L : Int)) ∨ ¬ (N : Int) < (L : Int) := by
        have := HN.out
        by_cases h : N < L
        · exact .inl ⟨by omega, by omega⟩
        · exact .inr (by omega)
      rcases hcond with ⟨hc1, hc2⟩ | hc2
      · go_wp2_with fail
        have p2 := stored6 HQ2.out (.int .i64 l.ts) (.slice l.top.ad l.top.l.length l.top.cap) (.slice l.rs.ad l.rs.l.length l.rs.cap) (.slice l.bot.ad l.bot.l.length l.bot.cap) (.int .i64 l.mv) (.int .i64 l.cp)
        have hU5 := upd_set6 wr H (.int .i64 l.ts) (.slice l.top.ad l.top.l.length l.top.cap) (.slice l.rs.ad l.rs.l.length l.rs.cap) (.slice l.bot.ad l.bot.l.length l.bot.cap) (.int .i64 l.mv) (.int .i64 l.cp)
        with_reducible generalize (((((wr.setCell ⟨H, 0, none⟩ (.int .i64 l.ts)).setCell ⟨H, 1, none⟩ (.slice l.top.ad l.top.l.length l.top.cap)).setCell ⟨H, 2, none⟩ (.slice l.rs.ad l.rs.l.length l.rs.cap)).setCell ⟨H, 3, none⟩ (.slice l.bot.ad l.bot.l.length l.bot.cap)).setCell ⟨H, 4, none⟩ (.int .i64 l.mv)).setCell ⟨H, 5, none⟩ (.int .i64 l.cp) = wf at p2 hU5 ⊢
        obtain ⟨r0, r1, r2, r3, r4, r5⟩ := cells6 p2
        have hfin : MadePost (R N) w (.returned (.tuple #[.agg #[.int .i64 l.ts, .slice l.top.ad l.top.l.length l.top.cap, .slice l.rs.ad l.rs.l.length l.rs.cap, .slice l.bot.ad l.bot.l.length l.bot.cap, .int .i64 l.mv, .int .i64 l.cp], .int .i64 (seq : Nat), .int .i64 last])) wf := HPST.out _ _ ⟨l, rfl, HMR.out.eq, HMR.out.has.keep1 hU5 HMR.out.avH, HMR.out.av, HMR.out.upd.new hU5 HMR.out.ord.1⟩
        exact bodyPost_ret (v := .tuple #[.agg #[.int .i64 l.ts, .slice l.top.ad l.top.l.length l.top.cap, .slice l.rs.ad l.rs.l.length l.rs.cap, .slice l.bot.ad l.bot.l.length l.bot.cap, .int .i64 l.mv, .int .i64 l.cp], .int .i64 (seq : Nat), .int .i64 last]) (by simp [results, Tryz.results10, go_sem, r0, r1, r2, r3, r4, r5]) rfl hfin
      · go_wp2_with fail
        have p2 := stored6 HQ2.out (.int .i64 l.ts) (.slice l.top.ad l.top.l.length l.top.cap) (.slice l.rs.ad l.rs.l.length l.rs.cap) (.slice l.bot.ad l.bot.l.length l.bot.cap) (.int .i64 l.mv) (.int .i64 l.cp)
        have hU5 := upd_set6 wr H (.int .i64 l.ts) (.slice l.top.ad l.top.l.length l.top.cap) (.slice l.rs.ad l.rs.l.length l.rs.cap) (.slice l.bot.ad l.bot.l.length l.bot.cap) (.int .i64 l.mv) (.int .i64 l.cp)
        with_reducible generalize (((((wr.setCell ⟨H, 0, none⟩ (.int .i64 l.ts)).setCell ⟨H, 1, none⟩ (.slice l.top.ad l.top.l.length l.top.cap)).setCell ⟨H, 2, none⟩ (.slice l.rs.ad l.rs.l.length l.rs.cap)).setCell ⟨H, 3, none⟩ (.slice l.bot.ad l.bot.l.length l.bot.cap)).setCell ⟨H, 4, none⟩ (.int .i64 l.mv)).setCell ⟨H, 5, none⟩ (.int .i64 l.cp) = wf at p2 hU5 ⊢
        obtain ⟨r0, r1, r2, r3, r4, r5⟩ := cells6 p2
        have hfin : MadePost (R N) w (.returned (.tuple #[.agg #[.int .i64 l.ts, .slice l.top.ad l.top.l.length l.top.cap, .slice l.rs.ad l.rs.l.length l.rs.cap, .slice l.bot.ad l.bot.l.length l.bot.cap, .int .i64 l.mv, .int .i64 l.cp], .int .i64 (seq : Nat), .int .i64 last])) wf := HPST.out _ _ ⟨l, rfl, HMR.out.eq, HMR.out.has.keep1 hU5 HMR.out.avH, HMR.out.av, HMR.out.upd.new hU5 HMR.out.ord.1⟩
        exact bodyPost_ret (v := .tuple #[.agg #[.int .i64 l.ts, .slice l.top.ad l.top.l.length l.top.cap, .slice l.rs.ad l.rs.l.length l.rs.cap, .slice l.bot.ad l.bot.l.length l.bot.cap, .int .i64 l.mv, .int .i64 l.cp], .int .i64 (seq : Nat), .int .i64 last]) (by simp [results, Tryz.results10, go_sem, r0, r1, r2, r3, r4, r5]) rfl hfin
end Go.Proofs.YtneodiemgemhfaaGreat
