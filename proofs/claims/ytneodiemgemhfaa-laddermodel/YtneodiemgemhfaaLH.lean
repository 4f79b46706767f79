/- Contracts: the program's validTop, validBottom. -/
import Derived.Test.YtneodiemgemhfaaLC
namespace Go.Proofs.Ytneodiemgemhfaa
open Go.RowKit Go.Lib

def topB (l : Ld) : Bool := decide (0 ≤ l.ts) && decide (l.ts ≤ 1152921504606846977) && withinB l.top l.ts 1152921504606846977
set_option maxRecDepth 100000 in
set_option maxHeartbeats 4000000 in
theorem validTop_has (l : LdR) (w : World) (h : HasD w l) (hl : l.top.l.length ≤ 1000000) :
    Calls Try.prog 22 #[encD l] w fun e w' => e = .returned (.bool (topB l.ld)) ∧ Upd [] w w' := by
  have HWI := Lib.hid (fun W (hu : Upd [] w W) => within_has l.top.ad l.top.cap l.top.l l.ts 1152921504606846977 W (h.stay hu).top.row hl)
  have HTB : Hid (topB l.ld = (decide (0 ≤ l.ts) && decide (l.ts ≤ 1152921504606846977) && withinB l.top.l l.ts 1152921504606846977)) := rfl
  rw [HTB.out]
  unfold encD cellsD
  generalize withinB l.top.l l.ts 1152921504606846977 = r at *
  clear h hl HTB
  go_enter Try.func22, Try.ntmps22
  go_upto_region 1 with (fail)
  have hu := (Upd.refl [] w).alloc (.cells #[.int .i64 l.ts, .slice l.top.ad l.top.l.length l.top.cap, .slice l.rs.ad l.rs.l.length l.rs.cap, .slice l.bot.ad l.bot.l.length l.bot.cap, .int .i64 l.mv, .int .i64 l.cp] 27)
  have b0 := heap_alloc1 w (.cells #[.int .i64 l.ts, .slice l.top.ad l.top.l.length l.top.cap, .slice l.rs.ad l.rs.l.length l.rs.cap, .slice l.bot.ad l.bot.l.length l.bot.cap, .int .i64 l.mv, .int .i64 l.cp] 27)
  generalize w.alloc (.cells #[.int .i64 l.ts, .slice l.top.ad l.top.l.length l.top.cap, .slice l.rs.ad l.rs.l.length l.rs.cap, .slice l.bot.ad l.bot.l.length l.bot.cap, .int .i64 l.mv, .int .i64 l.cp] 27) = W at *
  generalize w.heap.size = P at *
  obtain ⟨c0, c1, c2, c3, c4, c5⟩ := cells6 b0
  have HU := Lib.hid hu
  clear hu b0
  by_cases h1 : 0 ≤ l.ts
  · have d1 : decide (0 ≤ l.ts) = true := decide_eq_true h1
    by_cases h2 : l.ts ≤ 1152921504606846977
    · have d2 : decide (l.ts ≤ 1152921504606846977) = true := decide_eq_true h2
      go_wp2_with (go_at_call 41; (with_reducible refine (HWI.out _ HU.out).mono ?_); rintro e w1 ⟨rfl, hu1⟩; have HU1 := Lib.hid (HU.out.thn hu1); clear hu1)
      go_ret
      exact ⟨ret_bool (by first | rfl | (rw [d1, d2]; simp)), HU1.out⟩
    · have d2 : decide (l.ts ≤ 1152921504606846977) = false := decide_eq_false h2
      go_wp2_with fail
      go_ret
      exact ⟨ret_bool (by first | rfl | (rw [d1, d2]; simp)), HU.out⟩
  · have d1 : decide (0 ≤ l.ts) = false := decide_eq_false h1
    go_wp2_with fail
    go_ret
    exact ⟨ret_bool (by first | rfl | (rw [d1]; simp)), HU.out⟩
open Classical in
noncomputable def strictB (l : List It) : Bool := decide (StrictI l)
theorem strictB_yes {l : List It} : strictB l = true ↔ StrictI l := by simp [strictB]
theorem strictB_no {l : List It} : strictB l = false ↔ ¬ StrictI l := by simp [strictB]
noncomputable def botB (l : Ld) : Bool := strictB l.bot && withinB l.bot 0 (boundR l.ts l.rs)
theorem strict_next {l : List It} : StrictI l ↔ ∀ i (h : i + 1 < l.length), ltI (l[i]'(by omega)) l[i + 1] := by
  constructor
  · intro h i hi
    exact pairwise_at.1 h i (i + 1) (by omega) hi (by omega)
  · intro h
    refine pairwise_at.2 fun i j hi hj hij => ?_
    obtain ⟨d, rfl⟩ : ∃ d, j = i + 1 + d := ⟨j - (i + 1), by omega⟩
    clear hij
    induction d with
    | zero => exact h i hj
    | succ d ih => exact ltI_trans (ih (by omega)) (h (i + 1 + d) hj)
set_option maxRecDepth 100000 in
set_option maxHeartbeats 4000000 in
theorem validBottom_has (l : LdR) (w : World) (h : HasD w l) (hl : l.bot.l.length ≤ 1000000) (hr : l.rs.l.length ≤ 1000000) (hg : ∀ r ∈ l.rs.l, GoodR r.rg) :
    Calls Try.prog 24 #[encD l] w fun e w' => e = .returned (.bool (botB l.ld)) ∧ Upd [] w w' := by
  have HD := Lib.hid h
  have HBO : Hid (∀ W, Upd [] w W → Calls Try.prog 42 #[encD l, .int .i64 l.rs.l.length] W fun e w' => e = .returned (.int .i64 (boundR l.ts (l.rs.l.map RgR.rg))) ∧ Upd [] W w') := fun W hu => by
    have := bound_has l l.rs.l.length W (h.stay hu) (Nat.le_refl _) hr (fun j hj _ => hg _ (List.getElem_mem hj))
    rw [List.take_of_length_le (by simp)] at this
    exact this
  have HWI := Lib.hid (fun b W (hu : Upd [] w W) => within_has l.bot.ad l.bot.cap l.bot.l 0 b W (h.stay hu).bot.row hl)
  have HCI := Lib.hid (fun (x y : It) W => (CompareItems_any x y W).mono (R' := fun e w' => e = .returned (.int .i64 (cmpI x y)) ∧ Upd [] W w') (fun e w' h => ⟨h.1, h.2.upd⟩))
  have H1 : Hid ((∀ i (h : i + 1 < l.bot.l.length), ltI (l.bot.l[i]'(by omega)) l.bot.l[i + 1]) → botB l.ld = withinB l.bot.l 0 (boundR l.ts (l.rs.l.map RgR.rg))) := fun hs => by
    have h2 : StrictI l.ld.bot := strict_next.2 hs
    unfold botB
    rw [strictB_yes.2 h2, Bool.true_and]
    rfl
  have H2 : Hid (∀ i (h : i + 1 < l.bot.l.length), ¬ ltI (l.bot.l[i]'(by omega)) l.bot.l[i + 1] → botB l.ld = false) := fun i hi hn => by
    have h2 : ¬ StrictI l.ld.bot := fun hs => hn (strict_next.1 hs i hi)
    unfold botB
    rw [strictB_no.2 h2, Bool.false_and]
  generalize botB l.ld = r at *
  generalize boundR l.ts (l.rs.l.map RgR.rg) = bd at *
  generalize hwr : withinB l.bot.l 0 bd = wr0 at *
  have HLL : Hid (encD l = .agg #[.int .i64 l.ts, .slice l.top.ad l.top.l.length l.top.cap, .slice l.rs.ad l.rs.l.length l.rs.cap, .slice l.bot.ad l.bot.l.length l.bot.cap, .int .i64 l.mv, .int .i64 l.cp]) := rfl
  rw [HLL.out] at HBO ⊢
  have HWI2 : Hid (∀ W, Upd [] w W → Calls Try.prog 41 #[.slice l.bot.ad l.bot.l.length l.bot.cap, .int .i64 0, .int .i64 bd] W fun e w' => e = .returned (.bool wr0) ∧ Upd [] W w') := fun W hu => by rw [← hwr]; exact HWI.out bd W hu
  obtain ⟨n, hn⟩ : ∃ n, n = l.bot.l.length := ⟨_, rfl⟩
  have HN := Lib.hid hn
  rw [← hn] at hl HWI2 HBO ⊢
  clear h hr hg hwr hn HWI HLL
  go_enter Try.func24, Try.ntmps24
  go_upto_region 1 with (fail)
  have hu := (Upd.refl [] w).alloc (.cells #[.int .i64 l.ts, .slice l.top.ad l.top.l.length l.top.cap, .slice l.rs.ad l.rs.l.length l.rs.cap, .slice l.bot.ad n l.bot.cap, .int .i64 l.mv, .int .i64 l.cp] 27)
  have b0 := heap_alloc1 w (.cells #[.int .i64 l.ts, .slice l.top.ad l.top.l.length l.top.cap, .slice l.rs.ad l.rs.l.length l.rs.cap, .slice l.bot.ad n l.bot.cap, .int .i64 l.mv, .int .i64 l.cp] 27)
  generalize w.alloc (.cells #[.int .i64 l.ts, .slice l.top.ad l.top.l.length l.top.cap, .slice l.rs.ad l.rs.l.length l.rs.cap, .slice l.bot.ad n l.bot.cap, .int .i64 l.mv, .int .i64 l.cp] 27) = W at *
  generalize w.heap.size = P at *
  have HU := Lib.hid hu; have HB0 := Lib.hid b0
  clear hu b0
  go_wp2_with fail
  go_loopg [3] (n + 1) (fun gk vi wr => ∃ k : Nat, vi = .int .i64 ((k : Int) + 1) ∧ k + gk = n + 1 ∧ Hid (Upd [] W wr) ∧ Hid (∀ i (h : i + 1 < l.bot.l.length), i < k → ltI (l.bot.l[i]'(by omega)) l.bot.l[i + 1]))
  case atStart => exact ⟨0, rfl, by omega, Upd.refl _ _, fun i h hi => by omega⟩
  case round =>
    obtain ⟨k, rfl, hkg, HUR, HF⟩ := hrel
    obtain ⟨c0, c1, c2, c3, c4, c5⟩ := cells6 (HUR.out.at HB0.out (by simp))
    by_cases hlt : k + 1 < n
    · have hltz : (k : Int) + 1 < (n : Int) := by omega
      have hk1 : k + 1 < l.bot.l.length := by have := HN.out; omega
      have hw1 : IntKind.i64.wrap ((k : Int) + 1 - 1) = (k : Int) := by rw [IntKind.wrap_i64]; omega
      have hw2 : (k : Int) + 1 - 1 = (k : Int) := by omega
      have hrow := (HD.out.stay (HU.out.thn HUR.out)).bot.row
      obtain ⟨b, off, hbo, x0, x1, x2⟩ := hrow.item k (by omega)
      obtain ⟨b', off', hbo', y0, y1, y2⟩ := hrow.item (k + 1) hk1
      rw [hbo] at hbo'
      simp only [Option.some.injEq, Addr.mk.injEq, and_true] at hbo'
      obtain ⟨rfl, rfl⟩ := hbo'
      rw [hbo] at c3
      have HBO2 := Lib.hid hbo
      have HCK := Lib.hid (HCI.out (l.bot.l[k]'(by omega)) l.bot.l[k + 1])
      have HLT : Hid (cmpI (l.bot.l[k]'(by omega)) l.bot.l[k + 1] < 0 → ∀ i (h : i + 1 < l.bot.l.length), i < k + 1 → ltI (l.bot.l[i]'(by omega)) l.bot.l[i + 1]) := fun hc i h hi => by
        by_cases e : i = k
        · subst e; exact cmpI_lt.1 hc
        · exact HF.out i h (by omega)
      have HNL : Hid (¬ cmpI (l.bot.l[k]'(by omega)) l.bot.l[k + 1] < 0 → r = false) := fun hc => H2.out k hk1 (fun hl => hc (cmpI_lt.2 hl))
      have HIT1 : Hid (aggI (l.bot.l[k]'(by omega)) = .agg #[.int .i64 (l.bot.l[k]'(by omega)).t, .int .i64 (l.bot.l[k]'(by omega)).q, .int .i64 (l.bot.l[k]'(by omega)).s]) := rfl
      have HIT2 : Hid (aggI l.bot.l[k + 1] = .agg #[.int .i64 l.bot.l[k + 1].t, .int .i64 l.bot.l[k + 1].q, .int .i64 l.bot.l[k + 1].s]) := rfl
      rw [HIT1.out, HIT2.out] at HCK
      generalize cmpI (l.bot.l[k]'(by omega)) l.bot.l[k + 1] = cc at *
      generalize (l.bot.l[k]'(by omega)).t = a0 at *
      generalize (l.bot.l[k]'(by omega)).q = a1 at *
      generalize (l.bot.l[k]'(by omega)).s = a2 at *
      generalize l.bot.l[k + 1].t = e0 at *
      generalize l.bot.l[k + 1].q = e1 at *
      generalize l.bot.l[k + 1].s = e2 at *
      clear HIT1 HIT2 hrow hbo
      have k3 := kept_at c3
      have j0 := kept_at x0; have j1 := kept_at x1; have j2 := kept_at x2; have j3 := kept_at y0; have j4 := kept_at y1; have j5 := kept_at y2
      clear c0 c1 c2 c4 c5 x0 x1 x2 y0 y1 y2
      go_upto_region 4 with (fail)
      clear c3
      refine wp_region_quiet_kept mixed (by kernel_rfl) ?_
      repeat (go_big_quiet_step (first | (go_at_call 17; exact calls_kept (HCK.out _))))
      refine wpQuiet_nil ?_
      intro Wx hw'
      obtain ⟨⟨Wy, hu⟩, hw''⟩ := hw'
      simp only at hw''
      subst hw''
      clear k3 j0 j1 j2 j3 j4 j5
      have HUX := Lib.hid (HUR.out.thn hu)
      clear hu
      by_cases hc : cc < 0
      · have hd : decide (0 ≤ cc) = false := decide_eq_false (by omega)
        go_wp2_with fail
        go_roundg (gk - 1)
        case measure => omega
        case rel => exact ⟨k + 1, by go_num, by omega, HUX, HLT.out hc⟩
      · have hd : decide (0 ≤ cc) = true := decide_eq_true (by omega)
        go_wp2_with fail
        go_ret
        exact ⟨ret_bool (HNL.out hc).symm, HU.out.thn HUX.out⟩
    · have hltz : ¬ (k : Int) + 1 < (n : Int) := by omega
      have HE := Lib.hid (H1.out (fun i h => HF.out i h (by have := HN.out; omega)))
      go_upto_region 6 with (fail)
      have k0 := kept_at c0; have k1 := kept_at c1; have k2 := kept_at c2; have k3 := kept_at c3; have k4 := kept_at c4; have k5 := kept_at c5
      clear c0 c1 c2 c3 c4 c5
      refine wp_region_quiet_kept mixed (by kernel_rfl) ?_
      have HK1 := Lib.hid (fun (p : Kept wr) => HBO.out p.x ((HU.out.thn HUR.out).thn p.up))
      have HK2 := Lib.hid (fun (p : Kept wr) => HWI2.out p.x ((HU.out.thn HUR.out).thn p.up))
      repeat (go_big_quiet_step (first | (go_at_call 42; exact calls_kept (HK1.out _)) | (go_at_call 41; exact calls_kept (HK2.out _))))
      refine wpQuiet_nil ?_
      intro Wx hw'
      obtain ⟨⟨Wy, hu⟩, hw''⟩ := hw'
      simp only at hw''
      subst hw''
      clear k0 k1 k2 k3 k4 k5
      have HUX := Lib.hid ((HU.out.thn HUR.out).thn hu)
      clear hu
      go_wp2_with fail
      go_ret
      exact ⟨ret_bool HE.out.symm, HUX.out⟩
end Go.Proofs.Ytneodiemgemhfaa
