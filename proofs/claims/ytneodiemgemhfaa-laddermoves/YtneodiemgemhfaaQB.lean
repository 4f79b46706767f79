/- LadderMoves: the law's walk. -/
import Derived.Test.YtneodiemgemhfaaQA
import Derived.Test.YtneodiemgemhfaaK
namespace Go.Proofs.Ytneodiemgemhfaa
open Go.RowKit Go.Lib

section
variable {P : Program} {ops : Array Oper} {Q : Exit → Act → World → Prop} {md : Region.Mode} {S : World → Prop} {k : Nat}
/-- A call that alone may come up. -/
theorem wpAnyK_call {i : Nat} {o : Oper} {d : Option Tmp} {fuel : Nat} {listed : Array Bool} {a : Act} {w : World} {f : FuncId} {args : Array Value} {R : Value → World → Prop} (hi : ops[i]? = some o) (hd : o.dst = d) (hr : Region.ready md ops listed = [i]) (hw : Region.wanted o (yielded ops a.tmps) = true)
    (hrun : (execOp a.eval o).run P w = .ok (.enter f args) w) (hc : Calls P f args w fun e w' => ∃ v, e = .returned v ∧ R v w')
    (hR : ∀ v w', R v w' → (i = k ∨ S w') ∧ wpAnyK P md ops Q S k fuel (listed.setIfInBounds i true) (a.put d v) w') : wpAnyK P md ops Q S k (fuel + 1) listed a w := by
  subst hd
  refine wpAnyK_one hr (wpOp_wp hi hw ?_)
  unfold Oper.wp
  rw [hrun]
  show Calls P f args w _
  refine hc.mono ?_
  rintro e w' ⟨v, rfl, h⟩
  exact hR v w' h
end
set_option maxRecDepth 100000 in
set_option maxHeartbeats 8000000 in
theorem Moves_any (la : Option Addr) (lc : Nat) (os : List Ox) (w : World) (ho : Row LX w la os) (hoa : ∀ o ∈ os, U64 o.a) :
    Calls Try.prog 4 #[.slice la os.length lc] w fun e w' => e = .returned (.bool true) ∧ Upd [] w w' := by
  have HHD := Lib.hid head_true
  have HRO := Lib.hid ho
  have HOA := Lib.hid hoa
  obtain ⟨L, hL⟩ : ∃ L, L = os.length := ⟨_, rfl⟩
  rw [← hL]
  have HL := Lib.hid hL
  clear ho hoa hL
  go_enter Try.func4, Try.ntmps4
  go_upto_region 2 with (go_at_call 5; (with_reducible refine (HHD.out _).mono ?_); rintro e w0 ⟨rfl, hu0⟩)
  have HUW := Lib.hid hu0
  clear hu0 HHD
  by_cases hbig : L ≤ 150
  · have hd1 : decide (150 < (L : Int)) = false := decide_eq_false (by omega)
    go_upto_region 5 with (go_at_call 6; (with_reducible refine (LNew_has _).mono ?_); rintro e w1 ⟨l1, rfl, hB⟩; have HN1 := Lib.hid hB; clear hB; unfold encD cellsD)
    have hal := (Upd.refl [] w1).alloc (.cells #[.int .i64 l1.ts, .slice l1.top.ad l1.top.l.length l1.top.cap, .slice l1.rs.ad l1.rs.l.length l1.rs.cap, .slice l1.bot.ad l1.bot.l.length l1.bot.cap, .int .i64 l1.mv, .int .i64 l1.cp] 27)
    have hb : InBoxD w1.heap.size l1 (w1.alloc (.cells #[.int .i64 l1.ts, .slice l1.top.ad l1.top.l.length l1.top.cap, .slice l1.rs.ad l1.rs.l.length l1.rs.cap, .slice l1.bot.ad l1.bot.l.length l1.bot.cap, .int .i64 l1.mv, .int .i64 l1.cp] 27)) := ⟨heap_alloc1 _ _, HN1.out.has.stay hal⟩
    have hge : w.heap.size ≤ w1.heap.size := Nat.le_trans HUW.out.size HN1.out.upd.size
    replace HUW := Lib.hid (HUW.out.thn (HN1.out.upd.thn hal))
    have HE1 : Hid (ReachM 0 0 l1.ld) := by rw [HN1.out.eq]; exact reachM_new
    generalize w1.alloc (.cells #[.int .i64 l1.ts, .slice l1.top.ad l1.top.l.length l1.top.cap, .slice l1.rs.ad l1.rs.l.length l1.rs.cap, .slice l1.bot.ad l1.bot.l.length l1.bot.cap, .int .i64 l1.mv, .int .i64 l1.cp] 27) = W at *
    generalize w1.heap.size = P at *
    have HB1 := Lib.hid hb
    have HGE := Lib.hid hge
    clear hal hb hge HN1 hd1
    go_wp2_with fail
    go_loopg [5, 6, 7] L (fun gk vn vl vi wr => ∃ (n k : Nat) (last : Int) (l : LdR), vn = .int .i64 n ∧ vl = .int .i64 last ∧ vi = .int .i64 k ∧ k + gk = L ∧ Hid (n ≤ k) ∧ Hid (0 ≤ last ∧ last ≤ MaxT) ∧ Hid (InBoxD P l wr) ∧ Hid (ReachM n k l.ld) ∧ Hid (Upd [] w wr))
    case atStart => exact ⟨0, 0, 0, l1, rfl, rfl, rfl, by omega, Nat.le_refl 0, ⟨Int.le_refl 0, by decide⟩, HB1, HE1, HUW⟩
    case round =>
      obtain ⟨n, k, last, l, rfl, rfl, rfl, hkg, HNK, HLA, HB, HE, HU⟩ := hrel
      clear HB1 HE1 HUW
      by_cases hlt : k < L
      · have hltz : (k : Int) < (L : Int) := by omega
        have hko : k < os.length := by have := HL.out; omega
        obtain ⟨ob, oo, rfl, x0, x1, x2⟩ := (HRO.out.stay HU.out).op8 k hko
        have HUO := Lib.hid (HOA.out _ (List.getElem_mem hko))
        obtain ⟨o, hov⟩ : ∃ o, o = os[k]'hko := ⟨_, rfl⟩
        rw [← hov] at x0 x1 x2 HUO
        clear hov
        have hnk := HNK.out
        cases hp : o.p with
        | false =>
          rw [hp] at x0
          obtain ⟨tx, htx⟩ : ∃ tx, tx = timeX o last := ⟨_, rfl⟩
          have HTX : Hid (0 ≤ tx ∧ tx ≤ MaxT) := by rw [htx]; exact timeX_bd HLA.out
          have HTM := Lib.hid (fun V => time_has o last V HUO.out HLA.out)
          rw [← htx, hp] at HTM
          have hfit := HE.out.fit (by omega)
          have HIN : Hid (∀ V, Upd [] wr V → Calls Try.prog 8 #[encD l, aggI ⟨tx, k, 0⟩] V (GaveD V (insertL l.ld ⟨tx, k, 0⟩))) := fun V hv => Insert_has l ⟨tx, k, 0⟩ V (HB.out.2.stay hv) hfit.1 hfit.2 (HE.out.fresh _ rfl)
          have HE2 : Hid (ReachM (n + 1) (k + 1) (insertL l.ld ⟨tx, k, 0⟩)) := HE.out.insert ⟨tx, k, 0⟩ HTX.out rfl
          generalize insertL l.ld ⟨tx, k, 0⟩ = g2 at *
          unfold encD cellsD aggI at HIN
          simp only at HIN
          obtain ⟨oa, hoa⟩ : ∃ oa, oa = o.a := ⟨_, rfl⟩
          obtain ⟨on, hon⟩ : ∃ on, on = o.n := ⟨_, rfl⟩
          rw [← hoa] at x1 HTM
          rw [← hon] at x2 HTM
          have hlk : ¬ L ≤ k := by omega
          clear htx hfit hoa hon hp hko
          go_upto_region 11 with (fail)
          obtain ⟨b0, b1, b2, b3, b4, b5⟩ := cells6 (show wr.heap[P]? = some (.cells #[.int .i64 l.ts, .slice l.top.ad l.top.l.length l.top.cap, .slice l.rs.ad l.rs.l.length l.rs.cap, .slice l.bot.ad l.bot.l.length l.bot.cap, .int .i64 l.mv, .int .i64 l.cp] 27 (0, 0)) from HB.out.1)
          have HKP : Hid (∀ V, Upd [] wr V → ((V.cell? ⟨P, 0, none⟩ = some (.int .i64 l.ts) ∧ V.cell? ⟨P, 1, none⟩ = some (.slice l.top.ad l.top.l.length l.top.cap) ∧ V.cell? ⟨P, 2, none⟩ = some (.slice l.rs.ad l.rs.l.length l.rs.cap) ∧ V.cell? ⟨P, 3, none⟩ = some (.slice l.bot.ad l.bot.l.length l.bot.cap) ∧ V.cell? ⟨P, 4, none⟩ = some (.int .i64 l.mv) ∧ V.cell? ⟨P, 5, none⟩ = some (.int .i64 l.cp)) ∧ V.cell? ⟨ob, oo + k * 3, none⟩ = some (.bool false) ∧ V.cell? ⟨ob, oo + k * 3 + 1, none⟩ = some (.int .u64 oa) ∧ V.cell? ⟨ob, oo + k * 3 + 2, none⟩ = some (.bool on))) := fun V hu => ⟨⟨hu.cell b0 (by simp), hu.cell b1 (by simp), hu.cell b2 (by simp), hu.cell b3 (by simp), hu.cell b4 (by simp), hu.cell b5 (by simp)⟩, hu.cell x0 (by simp), hu.cell x1 (by simp), hu.cell x2 (by simp)⟩
          have hS := HKP.out wr.drew (Upd.refl [] wr).drew
          refine wp_region_K (fun V => ((V.cell? ⟨P, 0, none⟩ = some (.int .i64 l.ts) ∧ V.cell? ⟨P, 1, none⟩ = some (.slice l.top.ad l.top.l.length l.top.cap) ∧ V.cell? ⟨P, 2, none⟩ = some (.slice l.rs.ad l.rs.l.length l.rs.cap) ∧ V.cell? ⟨P, 3, none⟩ = some (.slice l.bot.ad l.bot.l.length l.bot.cap) ∧ V.cell? ⟨P, 4, none⟩ = some (.int .i64 l.mv) ∧ V.cell? ⟨P, 5, none⟩ = some (.int .i64 l.cp)) ∧ V.cell? ⟨ob, oo + k * 3, none⟩ = some (.bool false) ∧ V.cell? ⟨ob, oo + k * 3 + 1, none⟩ = some (.int .u64 oa) ∧ V.cell? ⟨ob, oo + k * 3 + 2, none⟩ = some (.bool on))) 10 mixed ?_
          refine wpAnyK_take (i := 0) (d := some 29) (v := .agg #[.int .i64 l.ts, .slice l.top.ad l.top.l.length l.top.cap, .slice l.rs.ad l.rs.l.length l.rs.cap, .slice l.bot.ad l.bot.l.length l.bot.cap, .int .i64 l.mv, .int .i64 l.cp]) rfl rfl (by kernel_rfl) (fun _ _ _ h => h) (.inl ⟨rfl, fun wz hz => by simp [execOp, Act.eval, go_sem, hz.1.1, hz.1.2.1, hz.1.2.2.1, hz.1.2.2.2.1, hz.1.2.2.2.2.1, hz.1.2.2.2.2.2]⟩) hS ?_
          refine wpAnyK_take (i := 1) (d := some 30) (v := .slice (some ⟨ob, oo, none⟩) L lc) rfl rfl (by kernel_rfl) (fun _ _ _ h => h) (.inl ⟨rfl, fun wz hz => rfl⟩) hS ?_
          refine wpAnyK_take (i := 2) (d := some 31) (v := .int .i64 k) rfl rfl (by kernel_rfl) (fun _ _ _ h => h) (.inl ⟨rfl, fun wz hz => rfl⟩) hS ?_
          refine wpAnyK_take (i := 3) (d := some 32) (v := .pointer (some ⟨ob, oo + k * 3, none⟩)) rfl rfl (by kernel_rfl) (fun _ _ _ h => h) (.inl ⟨rfl, fun wz hz => by simp [execOp, Act.eval, Act.put, go_sem, hlk]⟩) hS ?_
          refine wpAnyK_take (i := 4) (d := some 33) (v := .agg #[.bool false, .int .u64 oa, .bool on]) rfl rfl (by kernel_rfl) (fun _ _ _ h => h) (.inl ⟨rfl, fun wz hz => by simp [execOp, Act.eval, Act.put, go_sem, hz.2.1, hz.2.2.1, hz.2.2.2]⟩) hS ?_
          refine wpAnyK_take (i := 5) (d := some 34) (v := .int .i64 last) rfl rfl (by kernel_rfl) (fun _ _ _ h => h) (.inl ⟨rfl, fun wz hz => rfl⟩) hS ?_
          refine wpAnyK_take (i := 7) (d := some 36) (v := .int .i64 k) rfl rfl (by kernel_rfl) (fun _ _ _ h => h) (.inl ⟨rfl, fun wz hz => rfl⟩) hS ?_
          refine wpAnyK_call (i := 6) (d := some 35) (R := fun v W2 => v = .int .i64 tx ∧ Upd [] wr.drew W2) rfl rfl (by kernel_rfl) rfl (by simp [execOp, Act.eval, Act.put, go_sem]) ((HTM.out wr.drew).mono fun e W2 h => ⟨_, h.1, rfl, h.2⟩) ?_
          rintro _ W2 ⟨rfl, hu2⟩
          have hU2 : Upd [] wr W2 := (Upd.refl [] wr).drew.thn hu2
          have hS2 := HKP.out W2 hU2
          refine ⟨.inr hS2, ?_⟩
          refine wpAnyK_value (i := 8) (d := some 37) (v := .agg #[.int .i64 tx, .int .i64 k, .int .i64 0]) (w' := W2) rfl rfl (by kernel_rfl) rfl (by simp [execOp, Act.eval, Act.put, go_sem]) (.inr hS2) ?_
          refine wpAnyK_call (i := 9) (d := some 38) (R := fun v W3 => ∃ l2, v = encD l2 ∧ BornD W2 g2 W3 l2) rfl rfl (by kernel_rfl) rfl (by simp [execOp, Act.eval, Act.put, go_sem]) ((HIN.out W2 hU2).mono fun e W3 ⟨l2, h⟩ => ⟨_, h.1, l2, rfl, h.2⟩) ?_
          rintro _ W3 ⟨l2, rfl, hB2⟩
          have hS3 := HKP.out W3 (hU2.thn hB2.upd)
          refine ⟨.inr hS3, ?_⟩
          have hq := (hU2.thn hB2.upd).at HB.out.1 (by simp)
          unfold cellsD at hq
          obtain ⟨z0, z1, z2, z3, z4, z5⟩ := free6 hq
          obtain ⟨⟨y0, y1, y2, y3, y4, y5⟩, -⟩ := hS3
          unfold encD cellsD
          refine wpAnyK_skip (i := 10) (d := none) (w' := (((((W3.setCell ⟨P, 0, none⟩ (.int .i64 l2.ts)).setCell ⟨P, 1, none⟩ (.slice l2.top.ad l2.top.l.length l2.top.cap)).setCell ⟨P, 2, none⟩ (.slice l2.rs.ad l2.rs.l.length l2.rs.cap)).setCell ⟨P, 3, none⟩ (.slice l2.bot.ad l2.bot.l.length l2.bot.cap)).setCell ⟨P, 4, none⟩ (.int .i64 l2.mv)).setCell ⟨P, 5, none⟩ (.int .i64 l2.cp)) rfl rfl (by kernel_rfl) rfl (by simp [execOp, Act.eval, Act.put, go_sem, y0, y1, y2, y3, y4, y5, z0, z1, z2, z3, z4, z5]) (.inl rfl) ?_
          refine wpAnyK_done (by kernel_rfl) ?_ _
          have p2 := stored6 hq (.int .i64 l2.ts) (.slice l2.top.ad l2.top.l.length l2.top.cap) (.slice l2.rs.ad l2.rs.l.length l2.rs.cap) (.slice l2.bot.ad l2.bot.l.length l2.bot.cap) (.int .i64 l2.mv) (.int .i64 l2.cp)
          have hU5 := upd_set6 W3 P (.int .i64 l2.ts) (.slice l2.top.ad l2.top.l.length l2.top.cap) (.slice l2.rs.ad l2.rs.l.length l2.rs.cap) (.slice l2.bot.ad l2.bot.l.length l2.bot.cap) (.int .i64 l2.mv) (.int .i64 l2.cp)
          with_reducible generalize (((((W3.setCell ⟨P, 0, none⟩ (.int .i64 l2.ts)).setCell ⟨P, 1, none⟩ (.slice l2.top.ad l2.top.l.length l2.top.cap)).setCell ⟨P, 2, none⟩ (.slice l2.rs.ad l2.rs.l.length l2.rs.cap)).setCell ⟨P, 3, none⟩ (.slice l2.bot.ad l2.bot.l.length l2.bot.cap)).setCell ⟨P, 4, none⟩ (.int .i64 l2.mv)).setCell ⟨P, 5, none⟩ (.int .i64 l2.cp) = W4 at p2 hU5 ⊢
          have HB3 : Hid (InBoxD P l2 W4) := (HB.out.stay hU2).put hB2 hU5 p2
          have HU3 : Hid (Upd [] w W4) := ((HU.out.thn hU2).thn hB2.upd).new hU5 HGE.out
          have HE3 : Hid (ReachM (n + 1) (k + 1) l2.ld) := by rw [hB2.eq]; exact HE2.out
          clear hS hS2 p2 hU5 hq hB2 hU2 hu2 b0 b1 b2 b3 b4 b5 x0 x1 x2 y0 y1 y2 y3 y4 y5 z0 z1 z2 z3 z4 z5 HB HE HU HE2 HIN HTM HKP HTX hlk
          have hwn : IntKind.i64.wrap ((n : Int) + 1) = (n : Int) + 1 := by rw [IntKind.wrap_i64]; omega
          have hwk : IntKind.i64.wrap ((k : Int) + 1) = (k : Int) + 1 := by rw [IntKind.wrap_i64]; omega
          simp only [Act.put, List.setIfInBounds_toArray, List.set_cons_succ, List.set_cons_zero]
          go_wp2_with fail
          go_roundg (gk - 1)
          case measure => omega
          case rel => exact ⟨n + 1, k + 1, last, l2, by go_num, rfl, by go_num, by omega, Nat.succ_le_succ HNK.out, HLA, HB3, HE3, HU3⟩
        | true =>
          rw [hp] at x0
          have hfit := HE.out.fit (by omega)
          obtain ⟨pp, hpp⟩ : ∃ pp, pp = popL l.ld := ⟨_, rfl⟩
          have hpm := HE.out.pop
          have hpo := Pop_has l wr HB.out.2 hfit.1
          rw [← hpp] at hpm hpo
          obtain ⟨g2, ⟨i0, i1, i2⟩, ok⟩ := pp
          have HPM := Lib.hid hpm
          have HPO : Hid (Calls Try.prog 10 #[encD l] wr (Peeked wr (g2, ⟨i0, i1, i2⟩, ok))) := hpo
          have HLN : Hid (∀ V, Upd [] wr V → Calls Try.prog 11 #[encD l] V fun e w' => e = .returned (.int .i64 (lenD l.ld : Nat)) ∧ Upd [] V w') := fun V hv => by
            have h1 := hfit.1.sizes
            exact PLen_has l V (HB.out.2.stay hv) (by omega) hfit.1.len (fun r hr => by rw [hfit.1.h8 r hr]; decide) (fun r hr s hs => by have := hfit.1.its r hr s hs; omega)
          have hl1 := HE.out.len
          have hm2 := hpm.mv2
          obtain ⟨ln, hln⟩ : ∃ ln, ln = lenD l.ld := ⟨_, rfl⟩
          rw [← hln] at HLN hl1 hm2
          have hm1 := hpm.mv1
          have hcc := hpm.cp
          have hr1 := hpm.reach.mv0; have hr2 := mv_pot g2; have hr3 := hpm.reach.pot
          have hs1 := HE.out.mv0
          simp only at hm1 hm2 hcc hr1 hr3
          simp only [LdR.ld] at hm1 hm2 hcc hs1
          have HMV : Hid (0 ≤ l.mv ∧ l.mv ≤ g2.mv ∧ g2.mv - l.mv ≤ 5 * (ln : Int) ∧ ln ≤ 150 ∧ g2.mv ≤ 900 ∧ g2.cp = l.cp) := ⟨by omega, hm1, hm2, by omega, by omega, hcc⟩
          unfold encD cellsD at HPO HLN
          clear hpp hpm hpo hfit hln hl1 hm1 hm2 hcc hr1 hr2 hr3 hs1 hp hko
          obtain ⟨b0, b1, b2, b3, b4, b5⟩ := cells6 (show wr.heap[P]? = some (.cells #[.int .i64 l.ts, .slice l.top.ad l.top.l.length l.top.cap, .slice l.rs.ad l.rs.l.length l.rs.cap, .slice l.bot.ad l.bot.l.length l.bot.cap, .int .i64 l.mv, .int .i64 l.cp] 27 (0, 0)) from HB.out.1)
          go_upto_region 14 with (go_at_call 10; (with_reducible refine HPO.out.mono ?_); rintro e w2 ⟨l2, rfl, hB⟩; have HBN := Lib.hid hB; clear hB; unfold encD cellsD aggI; simp only)
          clear b0 b1 b2 b3 b4 b5 x0 x1 x2
          have hal := ((Upd.refl [] w2).alloc (.cells #[.int .i64 l2.ts, .slice l2.top.ad l2.top.l.length l2.top.cap, .slice l2.rs.ad l2.rs.l.length l2.rs.cap, .slice l2.bot.ad l2.bot.l.length l2.bot.cap, .int .i64 l2.mv, .int .i64 l2.cp] 27)).alloc (.cells #[.int .i64 i0, .int .i64 i1, .int .i64 i2] 34)
          obtain ⟨hb3, hi3⟩ := two_boxed w2 (.cells #[.int .i64 l2.ts, .slice l2.top.ad l2.top.l.length l2.top.cap, .slice l2.rs.ad l2.rs.l.length l2.rs.cap, .slice l2.bot.ad l2.bot.l.length l2.bot.cap, .int .i64 l2.mv, .int .i64 l2.cp] 27) (.cells #[.int .i64 i0, .int .i64 i1, .int .i64 i2] 34)
          have hIB : InBoxD w2.heap.size l2 ((w2.alloc (.cells #[.int .i64 l2.ts, .slice l2.top.ad l2.top.l.length l2.top.cap, .slice l2.rs.ad l2.rs.l.length l2.rs.cap, .slice l2.bot.ad l2.bot.l.length l2.bot.cap, .int .i64 l2.mv, .int .i64 l2.cp] 27)).alloc (.cells #[.int .i64 i0, .int .i64 i1, .int .i64 i2] 34)) := ⟨hb3, HBN.out.has.stay hal⟩
          have hu3 := HBN.out.upd.thn hal
          have hne : P < w2.heap.size := Nat.lt_of_lt_of_le (lt_block HB.out.1) HBN.out.upd.size
          have hav := HBN.out.av P (lt_block HB.out.1)
          have hld := HBN.out.eq
          have HB3 := Lib.hid hIB
          have HI3 := Lib.hid hi3
          generalize (w2.alloc (.cells #[.int .i64 l2.ts, .slice l2.top.ad l2.top.l.length l2.top.cap, .slice l2.rs.ad l2.rs.l.length l2.rs.cap, .slice l2.bot.ad l2.bot.l.length l2.bot.cap, .int .i64 l2.mv, .int .i64 l2.cp] 27)).alloc (.cells #[.int .i64 i0, .int .i64 i1, .int .i64 i2] 34) = W3 at *
          generalize w2.heap.size = P3 at *
          replace HB := Lib.hid (HB.out.stay hu3)
          replace HU := Lib.hid (HU.out.thn hu3)
          have HLN3 : Hid (∀ V, Upd [] W3 V → Calls Try.prog 11 #[.agg #[.int .i64 l.ts, .slice l.top.ad l.top.l.length l.top.cap, .slice l.rs.ad l.rs.l.length l.rs.cap, .slice l.bot.ad l.bot.l.length l.bot.cap, .int .i64 l.mv, .int .i64 l.cp]] V fun e w' => e = .returned (.int .i64 (ln : Nat)) ∧ Upd [] V w') := fun V hv => HLN.out V (hu3.thn hv)
          have HNE := Lib.hid hne; have HAV := Lib.hid hav
          have HR2 : Hid (ReachM n (k + 1) l2.ld) := by rw [hld]; exact HPM.out.reach
          have HTI : Hid (0 ≤ i0 ∧ i0 ≤ MaxT) := HPM.out.time
          have hmv2 : l2.mv = g2.mv := congrArg Ld.mv hld
          have hcp2 : l2.cp = g2.cp := congrArg Ld.cp hld
          obtain ⟨q0, q1, q2, q3, q4, q5⟩ := HMV.out
          rw [← hmv2] at q1 q2 q4
          rw [← hcp2] at q5
          clear hal hb3 hi3 hIB hu3 hne hav hld HBN HPO HLN HPM HMV HE hmv2 hcp2
          have hws : IntKind.i64.wrap (l2.mv - l.mv) = l2.mv - l.mv := by rw [IntKind.wrap_i64]; omega
          have hwl : IntKind.i64.wrap (5 * (ln : Int)) = 5 * (ln : Int) := by rw [IntKind.wrap_i64]; omega
          have e1 : decide (l2.mv < l.mv) = false := decide_eq_false (by omega)
          have e2 : decide (5 * (ln : Int) < l2.mv - l.mv) = false := decide_eq_false (by omega)
          have e3 : (l2.cp != l.cp) = false := by rw [q5]; simp
          clear q0 q1 q2 q3 q4 q5
          obtain ⟨b0, b1, b2, b3, b4, b5⟩ := cells6 (show W3.heap[P]? = some (.cells #[.int .i64 l.ts, .slice l.top.ad l.top.l.length l.top.cap, .slice l.rs.ad l.rs.l.length l.rs.cap, .slice l.bot.ad l.bot.l.length l.bot.cap, .int .i64 l.mv, .int .i64 l.cp] 27 (0, 0)) from HB.out.1)
          obtain ⟨d0, d1, d2, d3, d4, d5⟩ := cells6 (show W3.heap[P3]? = some (.cells #[.int .i64 l2.ts, .slice l2.top.ad l2.top.l.length l2.top.cap, .slice l2.rs.ad l2.rs.l.length l2.rs.cap, .slice l2.bot.ad l2.bot.l.length l2.bot.cap, .int .i64 l2.mv, .int .i64 l2.cp] 27 (0, 0)) from HB3.out.1)
          have k0 := kept_at b0; have k1 := kept_at b1; have k2 := kept_at b2; have k3 := kept_at b3; have k4 := kept_at b4; have k5 := kept_at b5
          have j4 := kept_at d4; have j5 := kept_at d5
          clear b0 b1 b2 b3 b4 b5 d0 d1 d2 d3 d4 d5
          refine wp_region_quiet_kept mixed (by kernel_rfl) ?_
          repeat (go_big_quiet_step (first | (go_at_call 11; exact calls_kept (HLN3.out _ (Kept.up _)))))
          refine wpQuiet_nil ?_
          intro W4 hw'
          obtain ⟨⟨Wx, hu⟩, hw''⟩ := hw'
          simp only at hw''
          subst hw''
          clear k0 k1 k2 k3 k4 k5 j4 j5
          replace HB := Lib.hid (HB.out.stay hu)
          replace HB3 := Lib.hid (HB3.out.stay hu)
          replace HI3 := Lib.hid (hu.at HI3.out (by simp))
          replace HU := Lib.hid (HU.out.thn hu)
          clear hu HLN3 hws hwl e1 e2 e3
          obtain ⟨d0, d1, d2, d3, d4, d5⟩ := cells6 (show W4.heap[P3]? = some (.cells #[.int .i64 l2.ts, .slice l2.top.ad l2.top.l.length l2.top.cap, .slice l2.rs.ad l2.rs.l.length l2.rs.cap, .slice l2.bot.ad l2.bot.l.length l2.bot.cap, .int .i64 l2.mv, .int .i64 l2.cp] 27 (0, 0)) from HB3.out.1)
          have hq : W4.heap[P]? = some (.cells #[.int .i64 l.ts, .slice l.top.ad l.top.l.length l.top.cap, .slice l.rs.ad l.rs.l.length l.rs.cap, .slice l.bot.ad l.bot.l.length l.bot.cap, .int .i64 l.mv, .int .i64 l.cp] 27 (0, 0)) := HB.out.1
          obtain ⟨y0, y1, y2, y3, y4, y5⟩ := cells6 hq
          obtain ⟨z0, z1, z2, z3, z4, z5⟩ := free6 hq
          have HQF := Lib.hid hq
          clear hq
          go_upto_region 17 with (fail)
          have p2 := stored6 HQF.out (.int .i64 l2.ts) (.slice l2.top.ad l2.top.l.length l2.top.cap) (.slice l2.rs.ad l2.rs.l.length l2.rs.cap) (.slice l2.bot.ad l2.bot.l.length l2.bot.cap) (.int .i64 l2.mv) (.int .i64 l2.cp)
          have hU5 := upd_set6 W4 P (.int .i64 l2.ts) (.slice l2.top.ad l2.top.l.length l2.top.cap) (.slice l2.rs.ad l2.rs.l.length l2.rs.cap) (.slice l2.bot.ad l2.bot.l.length l2.bot.cap) (.int .i64 l2.mv) (.int .i64 l2.cp)
          with_reducible generalize (((((W4.setCell ⟨P, 0, none⟩ (.int .i64 l2.ts)).setCell ⟨P, 1, none⟩ (.slice l2.top.ad l2.top.l.length l2.top.cap)).setCell ⟨P, 2, none⟩ (.slice l2.rs.ad l2.rs.l.length l2.rs.cap)).setCell ⟨P, 3, none⟩ (.slice l2.bot.ad l2.bot.l.length l2.bot.cap)).setCell ⟨P, 4, none⟩ (.int .i64 l2.mv)).setCell ⟨P, 5, none⟩ (.int .i64 l2.cp) = W5 at p2 hU5 ⊢
          have HB5 : Hid (InBoxD P l2 W5) := ⟨p2, HB3.out.2.keep1 hU5 HAV.out⟩
          have HI5 := Lib.hid (hU5.at HI3.out (by have := HNE.out; simp only [List.mem_singleton]; omega))
          have HU5 : Hid (Upd [] w W5) := HU.out.new hU5 HGE.out
          clear p2 hU5 d0 d1 d2 d3 d4 d5 y0 y1 y2 y3 y4 y5 z0 z1 z2 z3 z4 z5 HB HB3 HI3 HU HQF HAV HNE
          obtain ⟨i0c, i1c, i2c⟩ := cells3 HI5.out
          have hwk : IntKind.i64.wrap ((k : Int) + 1) = (k : Int) + 1 := by rw [IntKind.wrap_i64]; omega
          cases ok with
          | true =>
            go_wp2_with fail
            go_roundg (gk - 1)
            case measure => omega
            case rel => exact ⟨n, k + 1, i0, l2, rfl, rfl, by go_num, by omega, Nat.le_succ_of_le HNK.out, HTI, HB5, HR2, HU5⟩
          | false =>
            go_wp2_with fail
            go_roundg (gk - 1)
            case measure => omega
            case rel => exact ⟨n, k + 1, last, l2, rfl, rfl, by go_num, by omega, Nat.le_succ_of_le HNK.out, HLA, HB5, HR2, HU5⟩
      · have hltz : ¬ (k : Int) < (L : Int) := by omega
        obtain rfl : k = L := by omega
        clear hkg
        obtain ⟨b0, b1, b2, b3, b4, b5⟩ := cells6 (show wr.heap[P]? = some (.cells #[.int .i64 l.ts, .slice l.top.ad l.top.l.length l.top.cap, .slice l.rs.ad l.rs.l.length l.rs.cap, .slice l.bot.ad l.bot.l.length l.bot.cap, .int .i64 l.mv, .int .i64 l.cp] 27 (0, 0)) from HB.out.1)
        have hnk := HNK.out
        have hmv : (n : Int) ≤ l.mv ∧ l.mv ≤ 6 * n := ⟨HE.out.mv0, by have h1 := mv_pot l.ld; have h2 := HE.out.pot; simp only [LdR.ld] at h1 h2 ⊢; omega⟩
        have hcp : (n : Int) ≤ l.cp ∧ l.cp ≤ 5 * n := ⟨HE.out.cp0, HE.out.cp⟩
        obtain ⟨hm1, hm2⟩ := hmv
        obtain ⟨hc1, hc2⟩ := hcp
        have hw5 : IntKind.i64.wrap (5 * (n : Int)) = 5 * (n : Int) := by rw [IntKind.wrap_i64]; omega
        have hw6 : IntKind.i64.wrap (6 * (n : Int)) = 6 * (n : Int) := by rw [IntKind.wrap_i64]; omega
        have e1 : decide ((n : Int) ≤ l.mv) = true := decide_eq_true hm1
        have e2 : decide (l.mv ≤ 6 * (n : Int)) = true := decide_eq_true hm2
        have e3 : decide ((n : Int) ≤ l.cp) = true := decide_eq_true hc1
        have e4 : decide (l.cp ≤ 5 * (n : Int)) = true := decide_eq_true hc2
        go_wp2_with fail
        go_ret
        exact ⟨by first | rfl | simp, HU.out⟩
  · have hd1 : decide (150 < (L : Int)) = true := decide_eq_true (by omega)
    go_wp2_with fail
    go_ret
    exact ⟨by first | rfl | simp, HUW.out⟩
end Go.Proofs.Ytneodiemgemhfaa
