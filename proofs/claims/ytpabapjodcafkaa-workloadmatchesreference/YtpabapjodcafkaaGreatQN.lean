/- Contract: the reference's refill. -/
/- Contract: the reference's Peek. -/
import Derived.Test.YtpabapjodcafkaaGreatQL
import Derived.Test.YtpabapjodcafkaaGreatPT
namespace Go.Proofs.YtpabapjodcafkaaGreat
open Go.RowKit Go.Lib

/-- A round of refilling, from g0 to g. -/
structure RG (g0 g : Ld) : Prop where
  good : GoodL g
  eq : refillL g = refillL g0
  its : (itemsL g).Perm (itemsL g0)
  pot : pot g ≤ pot g0
theorem RG.start {g : Ld} (h : GoodL g) : RG g g := ⟨h, rfl, List.Perm.refl _, Int.le_refl _⟩
theorem RG.step {g0 g : Ld} (h : RG g0 g) (hm : More g) : RG g0 (stepL g) ∧ mes (stepL g) < mes g := by
  have hs := step_ok h.good hm.1 hm.2
  refine ⟨⟨hs.good, by rw [← refill_step h.good hm]; exact h.eq, hs.its.trans h.its, by have := hs.pot; have := h.pot; omega⟩, hs.mes⟩
theorem RG.bounds {g0 g : Ld} (h : RG g0 g) (hlen : lenD g0 ≤ 100000) (hmv : g0.mv ≤ 100000000000) : lenD g ≤ 100000 ∧ 0 ≤ g.mv ∧ g.mv ≤ 1000000000000 := by
  have h1 := h.its.length_eq
  rw [← lenD_its, ← lenD_its] at h1
  have h2 := pot_len g0
  have h3 := mv_pot g
  have h4 := h.pot
  have h5 := h.good.mv0
  refine ⟨by omega, h5, ?_⟩
  have h6 : ((lenD g0 : Nat) : Int) ≤ 100000 := by omega
  omega
theorem step_top {l' : LdR} {g0 : Ld} {wr : World} (h : RG g0 l'.ld) (hd : HasD wr l') (hlen : lenD g0 ≤ 100000) (hmv : g0.mv ≤ 100000000000) (hrs : l'.rs.l = []) (ht : 0 < l'.top.l.length) :
    Calls Tryz.prog 61 #[encD l'] wr (GivesRD l' (stepL l'.ld) wr) := by
  obtain ⟨b1, b2⟩ := h.bounds hlen hmv
  have hst : stepL l'.ld = fromTop l'.ld := stepL_top (by simp [LdR.ld, hrs])
  rw [hst]
  exact RFromTop_has l' wr hd h.good b1 b2 ht
theorem step_rung {l' : LdR} {g0 : Ld} {wr : World} (h : RG g0 l'.ld) (hd : HasD wr l') (hlen : lenD g0 ≤ 100000) (hmv : g0.mv ≤ 100000000000) (hrs : 0 < l'.rs.l.length) :
    Calls Tryz.prog 62 #[encD l'] wr (GivesRD l' (stepL l'.ld) wr) := by
  obtain ⟨b1, b2⟩ := h.bounds hlen hmv
  obtain ⟨rs0, r, hl⟩ : ∃ rs0 r, l'.rs.l = rs0 ++ [r] := ⟨l'.rs.l.dropLast, l'.rs.l.getLast (List.length_pos_iff.1 hrs), (List.dropLast_concat_getLast (List.length_pos_iff.1 hrs)).symm⟩
  have hst : stepL l'.ld = fromRung l'.ld (rs0.map RgR.rg) r.rg := stepL_rung (by simp [LdR.ld, hl])
  rw [hst]
  exact RFromRung_has l' rs0 r wr hd hl h.good b1 b2
set_option maxRecDepth 100000 in
set_option maxHeartbeats 8000000 in
theorem RRefill_has (l : LdR) (w : World) (h : HasD w l) (hg : GoodL l.ld) (hlen : lenD l.ld ≤ 100000) (hmv : l.mv ≤ 100000000000) :
    Calls Tryz.prog 42 #[encD l] w (GivesRD l (refillL l.ld) w) := by
  have HTOP := Lib.hid (fun (wr : World) (l' : LdR) (hd : HasD wr l') (h : RG l.ld l'.ld) => step_top h hd hlen hmv)
  have HBUC := Lib.hid (fun (wr : World) (l' : LdR) (hd : HasD wr l') (h : RG l.ld l'.ld) => step_rung h hd hlen hmv)
  have HEND : Hid (∀ l' : LdR, RG l.ld l'.ld → ¬ More l'.ld → l'.ld = refillL l.ld) := fun l' h hno => by rw [← h.eq, refill_stop hno]
  have HSTP : Hid (∀ l' : LdR, RG l.ld l'.ld → More l'.ld → RG l.ld (stepL l'.ld) ∧ mes (stepL l'.ld) < mes l'.ld) := fun l' h hm => h.step hm
  have HLE : Hid (∀ l' : LdR, RG l.ld l'.ld → l'.rs.l.length + l'.top.l.length ≤ 1000000) := fun l' h => by
    have h1 := (h.bounds hlen hmv).1
    have h2 := h.good.len
    simp only [lenD, LdR.ld, List.length_map] at h1 h2
    omega
  have HG0 := Lib.hid (RG.start hg)
  have HST : Hid (∀ (H : Nat) (W : World), w.heap.size = H → Upd [] w W → W.heap[H]? = some (.cells (cellsD l) 42 (0, 0)) → InD w W H l W l) := fun H W hH hu hb => InD.start h hu (by omega) hb
  generalize refillL l.ld = gl at *
  obtain ⟨n, hn⟩ : ∃ n, n = mes l.ld := ⟨_, rfl⟩
  have HN := Lib.hid hn
  clear h hg hlen hmv hn
  unfold encD cellsD
  go_enter Tryz.func42, Tryz.ntmps42
  go_upto_region 1 with (fail)
  generalize hA : (Obj.cells #[.int .i64 l.ts, .slice l.top.ad l.top.l.length l.top.cap, .slice l.rs.ad l.rs.l.length l.rs.cap, .slice l.bot.ad l.bot.l.length l.bot.cap, .int .i64 l.mv, .int .i64 l.cp] 42 : Obj) = A
  generalize hC : (Obj.cells #[.int .i64 0, .slice none 0 0, .slice none 0 0, .slice none 0 0, .int .i64 0, .int .i64 0] 42 : Obj) = C
  obtain ⟨hu, b0, b2, hsz⟩ := two_boxes w A C
  generalize (w.alloc A).alloc C = W at *
  generalize hH : w.heap.size = H at *
  rw [← hA] at b0
  rw [← hC] at b2
  have HI0 := Lib.hid (HST.out H W rfl hu b0)
  have HB2 := Lib.hid b2; have HH := Lib.hid hH; have HWS := Lib.hid hsz
  clear hu hA hC b0 b2 hH hsz HST
  go_wp2_with fail
  go_loopg [] n (fun gk wr => ∃ (l' : LdR), Hid (InD w W H l wr l') ∧ Hid (RG l.ld l'.ld) ∧ Hid (mes l'.ld ≤ gk))
  case atStart => exact ⟨l, HI0, HG0, by show mes l.ld ≤ n; rw [HN.out]; exact Nat.le_refl _⟩
  case round =>
    obtain ⟨l', HI, HR, HM⟩ := hrel
    obtain ⟨c0, c1, c2, c3, c4, c5⟩ := cells6 HI.out.cells
    by_cases hb : l'.bot.l.length = 0
    · have d1 : ((l'.bot.l.length : Int) == 0) = true := by simp [hb]
      have HBE : Hid (l'.bot.l = []) := List.eq_nil_of_length_eq_zero hb
      have hle := HLE.out l' HR.out
      have hw : IntKind.i64.wrap ((l'.rs.l.length : Int) + (l'.top.l.length : Int)) = (l'.rs.l.length : Int) + (l'.top.l.length : Int) := by rw [IntKind.wrap_i64]; omega
      by_cases hr : 0 < l'.rs.l.length
      · have d2 : decide ((0 : Int) < (l'.rs.l.length : Int) + (l'.top.l.length : Int)) = true := decide_eq_true (by omega)
        have d3 : ((l'.rs.l.length : Int) == 0) = false := by simp; intro e; rw [e] at hr; simp at hr
        have HCT := Lib.hid (HBUC.out wr l' HI.out.has HR.out hr)
        have HMO : Hid (More l'.ld) := ⟨HBE.out, .inl (by intro e; have e2 : l'.rs.l.map RgR.rg = [] := e; simp at e2; rw [e2] at hr; simp at hr)⟩
        unfold encD cellsD at HCT
        clear hb hr hle
        generalize l'.bot.l.length = bn at *
        generalize hrn : l'.rs.l.length = rn at *
        generalize htn : l'.top.l.length = tn at *
        go_wp2_with (go_at_call 62; (with_reducible refine HCT.out.mono ?_); rintro e w5 ⟨l2, rfl, hR⟩; have hq := hR.upd.at HI.out.box (by simp); obtain ⟨z0, z1, z2, z3, z4, z5⟩ := free6 hq; unfold cellsD at hq; obtain ⟨y0, y1, y2, y3, y4, y5⟩ := cells6 hq; have HRR := Lib.hid hR; have HQF := Lib.hid hq; clear hR hq; unfold encD cellsD)
        have p2 := stored6 HQF.out (.int .i64 l2.ts) (.slice l2.top.ad l2.top.l.length l2.top.cap) (.slice l2.rs.ad l2.rs.l.length l2.rs.cap) (.slice l2.bot.ad l2.bot.l.length l2.bot.cap) (.int .i64 l2.mv) (.int .i64 l2.cp)
        have hU5 := upd_set6 w5 H (.int .i64 l2.ts) (.slice l2.top.ad l2.top.l.length l2.top.cap) (.slice l2.rs.ad l2.rs.l.length l2.rs.cap) (.slice l2.bot.ad l2.bot.l.length l2.bot.cap) (.int .i64 l2.mv) (.int .i64 l2.cp)
        with_reducible generalize (((((w5.setCell ⟨H, 0, none⟩ (.int .i64 l2.ts)).setCell ⟨H, 1, none⟩ (.slice l2.top.ad l2.top.l.length l2.top.cap)).setCell ⟨H, 2, none⟩ (.slice l2.rs.ad l2.rs.l.length l2.rs.cap)).setCell ⟨H, 3, none⟩ (.slice l2.bot.ad l2.bot.l.length l2.bot.cap)).setCell ⟨H, 4, none⟩ (.int .i64 l2.mv)).setCell ⟨H, 5, none⟩ (.int .i64 l2.cp) = w6 at p2 hU5 ⊢
        have hI2 := HI.out.put HRR.out.upd HRR.out.has (fun b hb ha => HRR.out.av b (Nat.lt_of_lt_of_le hb HI.out.upd.size) ha) p2 hU5
        have hst := HSTP.out l' HR.out HMO.out
        rw [← HRR.out.eq] at hst
        go_roundg (mes l2.ld)
        case measure => exact Nat.lt_of_lt_of_le hst.2 HM.out
        case rel => exact ⟨l2, hI2, hst.1, Nat.le_refl _⟩
      · have HRE : Hid (l'.rs.l = []) := List.eq_nil_of_length_eq_zero (by omega)
        have hr0 : l'.rs.l.length = 0 := by omega
        by_cases ht : 0 < l'.top.l.length
        · have d2 : decide ((0 : Int) < (l'.rs.l.length : Int) + (l'.top.l.length : Int)) = true := decide_eq_true (by omega)
          have d3 : ((l'.rs.l.length : Int) == 0) = true := by simp [hr0]
          have HCT := Lib.hid (HTOP.out wr l' HI.out.has HR.out HRE.out ht)
          have HMO : Hid (More l'.ld) := ⟨HBE.out, .inr (by intro e; have e2 : l'.top.l = [] := e; rw [e2] at ht; simp at ht)⟩
          unfold encD cellsD at HCT
          clear hb hr hle hr0 ht
          generalize l'.bot.l.length = bn at *
          generalize hrn : l'.rs.l.length = rn at *
          generalize htn : l'.top.l.length = tn at *
          go_wp2_with (go_at_call 61; (with_reducible refine HCT.out.mono ?_); rintro e w5 ⟨l2, rfl, hR⟩; have hq := hR.upd.at HI.out.box (by simp); obtain ⟨z0, z1, z2, z3, z4, z5⟩ := free6 hq; unfold cellsD at hq; obtain ⟨y0, y1, y2, y3, y4, y5⟩ := cells6 hq; have HRR := Lib.hid hR; have HQF := Lib.hid hq; clear hR hq; unfold encD cellsD)
          have p2 := stored6 HQF.out (.int .i64 l2.ts) (.slice l2.top.ad l2.top.l.length l2.top.cap) (.slice l2.rs.ad l2.rs.l.length l2.rs.cap) (.slice l2.bot.ad l2.bot.l.length l2.bot.cap) (.int .i64 l2.mv) (.int .i64 l2.cp)
          have hU5 := upd_set6 w5 H (.int .i64 l2.ts) (.slice l2.top.ad l2.top.l.length l2.top.cap) (.slice l2.rs.ad l2.rs.l.length l2.rs.cap) (.slice l2.bot.ad l2.bot.l.length l2.bot.cap) (.int .i64 l2.mv) (.int .i64 l2.cp)
          with_reducible generalize (((((w5.setCell ⟨H, 0, none⟩ (.int .i64 l2.ts)).setCell ⟨H, 1, none⟩ (.slice l2.top.ad l2.top.l.length l2.top.cap)).setCell ⟨H, 2, none⟩ (.slice l2.rs.ad l2.rs.l.length l2.rs.cap)).setCell ⟨H, 3, none⟩ (.slice l2.bot.ad l2.bot.l.length l2.bot.cap)).setCell ⟨H, 4, none⟩ (.int .i64 l2.mv)).setCell ⟨H, 5, none⟩ (.int .i64 l2.cp) = w6 at p2 hU5 ⊢
          have hI2 := HI.out.put HRR.out.upd HRR.out.has (fun b hb ha => HRR.out.av b (Nat.lt_of_lt_of_le hb HI.out.upd.size) ha) p2 hU5
          have hst := HSTP.out l' HR.out HMO.out
          rw [← HRR.out.eq] at hst
          go_roundg (mes l2.ld)
          case measure => exact Nat.lt_of_lt_of_le hst.2 HM.out
          case rel => exact ⟨l2, hI2, hst.1, Nat.le_refl _⟩
        · have d2 : decide ((0 : Int) < (l'.rs.l.length : Int) + (l'.top.l.length : Int)) = false := decide_eq_false (by omega)
          have HTE : Hid (l'.top.l = []) := List.eq_nil_of_length_eq_zero (by omega)
          have HNO : Hid (¬ More l'.ld) := fun hm => by
            rcases hm.2 with h1 | h1
            · exact h1 (by simp [LdR.ld, HRE.out])
            · exact h1 (by simp [LdR.ld, HTE.out])
          clear hb hr hle hr0 ht
          have q2 := HI.out.other (R := H + 1) (by omega) HB2.out
          have HQ2 := Lib.hid q2
          obtain ⟨c0, c1, c2, c3, c4, c5⟩ := cells6 HI.out.cells
          obtain ⟨y0, y1, y2, y3, y4, y5⟩ := cells6 q2
          obtain ⟨z0, z1, z2, z3, z4, z5⟩ := free6 q2
          clear q2
          go_wp2_with fail
          have p2 := stored6 HQ2.out (.int .i64 l'.ts) (.slice l'.top.ad l'.top.l.length l'.top.cap) (.slice l'.rs.ad l'.rs.l.length l'.rs.cap) (.slice l'.bot.ad l'.bot.l.length l'.bot.cap) (.int .i64 l'.mv) (.int .i64 l'.cp)
          have hU5 := upd_set6 wr (H + 1) (.int .i64 l'.ts) (.slice l'.top.ad l'.top.l.length l'.top.cap) (.slice l'.rs.ad l'.rs.l.length l'.rs.cap) (.slice l'.bot.ad l'.bot.l.length l'.bot.cap) (.int .i64 l'.mv) (.int .i64 l'.cp)
          with_reducible generalize (((((wr.setCell ⟨H + 1, 0, none⟩ (.int .i64 l'.ts)).setCell ⟨H + 1, 1, none⟩ (.slice l'.top.ad l'.top.l.length l'.top.cap)).setCell ⟨H + 1, 2, none⟩ (.slice l'.rs.ad l'.rs.l.length l'.rs.cap)).setCell ⟨H + 1, 3, none⟩ (.slice l'.bot.ad l'.bot.l.length l'.bot.cap)).setCell ⟨H + 1, 4, none⟩ (.int .i64 l'.mv)).setCell ⟨H + 1, 5, none⟩ (.int .i64 l'.cp) = wf at p2 hU5 ⊢
          obtain ⟨r0, r1, r2, r3, r4, r5⟩ := cells6 p2
          have hfin : GivesRD l gl w (.returned (.agg #[.int .i64 l'.ts, .slice l'.top.ad l'.top.l.length l'.top.cap, .slice l'.rs.ad l'.rs.l.length l'.rs.cap, .slice l'.bot.ad l'.bot.l.length l'.bot.cap, .int .i64 l'.mv, .int .i64 l'.cp])) wf := ⟨l', rfl, HI.out.fin (by have := HH.out; omega) (by have := HWS.out; omega) hU5 (HEND.out l' HR.out HNO.out)⟩
          exact bodyPost_ret (v := .agg #[.int .i64 l'.ts, .slice l'.top.ad l'.top.l.length l'.top.cap, .slice l'.rs.ad l'.rs.l.length l'.rs.cap, .slice l'.bot.ad l'.bot.l.length l'.bot.cap, .int .i64 l'.mv, .int .i64 l'.cp]) (by simp [results, Tryz.results42, go_sem, r0, r1, r2, r3, r4, r5]) rfl hfin
    · have d1 : ((l'.bot.l.length : Int) == 0) = false := by simp; intro e; rw [e] at hb; simp at hb
      have HNO : Hid (¬ More l'.ld) := fun hm => hb (by have h1 : l'.bot.l = [] := hm.1; rw [h1]; rfl)
      clear hb
      have q2 := HI.out.other (R := H + 1) (by omega) HB2.out
      have HQ2 := Lib.hid q2
      obtain ⟨c0, c1, c2, c3, c4, c5⟩ := cells6 HI.out.cells
      obtain ⟨y0, y1, y2, y3, y4, y5⟩ := cells6 q2
      obtain ⟨z0, z1, z2, z3, z4, z5⟩ := free6 q2
      clear q2
      go_wp2_with fail
      have p2 := stored6 HQ2.out (.int .i64 l'.ts) (.slice l'.top.ad l'.top.l.length l'.top.cap) (.slice l'.rs.ad l'.rs.l.length l'.rs.cap) (.slice l'.bot.ad l'.bot.l.length l'.bot.cap) (.int .i64 l'.mv) (.int .i64 l'.cp)
      have hU5 := upd_set6 wr (H + 1) (.int .i64 l'.ts) (.slice l'.top.ad l'.top.l.length l'.top.cap) (.slice l'.rs.ad l'.rs.l.length l'.rs.cap) (.slice l'.bot.ad l'.bot.l.length l'.bot.cap) (.int .i64 l'.mv) (.int .i64 l'.cp)
      with_reducible generalize (((((wr.setCell ⟨H + 1, 0, none⟩ (.int .i64 l'.ts)).setCell ⟨H + 1, 1, none⟩ (.slice l'.top.ad l'.top.l.length l'.top.cap)).setCell ⟨H + 1, 2, none⟩ (.slice l'.rs.ad l'.rs.l.length l'.rs.cap)).setCell ⟨H + 1, 3, none⟩ (.slice l'.bot.ad l'.bot.l.length l'.bot.cap)).setCell ⟨H + 1, 4, none⟩ (.int .i64 l'.mv)).setCell ⟨H + 1, 5, none⟩ (.int .i64 l'.cp) = wf at p2 hU5 ⊢
      obtain ⟨r0, r1, r2, r3, r4, r5⟩ := cells6 p2
      have hfin : GivesRD l gl w (.returned (.agg #[.int .i64 l'.ts, .slice l'.top.ad l'.top.l.length l'.top.cap, .slice l'.rs.ad l'.rs.l.length l'.rs.cap, .slice l'.bot.ad l'.bot.l.length l'.bot.cap, .int .i64 l'.mv, .int .i64 l'.cp])) wf := ⟨l', rfl, HI.out.fin (by have := HH.out; omega) (by have := HWS.out; omega) hU5 (HEND.out l' HR.out HNO.out)⟩
      exact bodyPost_ret (v := .agg #[.int .i64 l'.ts, .slice l'.top.ad l'.top.l.length l'.top.cap, .slice l'.rs.ad l'.rs.l.length l'.rs.cap, .slice l'.bot.ad l'.bot.l.length l'.bot.cap, .int .i64 l'.mv, .int .i64 l'.cp]) (by simp [results, Tryz.results42, go_sem, r0, r1, r2, r3, r4, r5]) rfl hfin
end Go.Proofs.YtpabapjodcafkaaGreat
namespace Go.Proofs.YtpabapjodcafkaaGreat
open Go.RowKit Go.Lib

def GivesRP (l : LdR) (p : Ld × It × Bool) (w : World) (e : Ending) (w' : World) : Prop := ∃ l', e = .returned (.tuple #[encD l', aggI p.2.1, .bool p.2.2]) ∧ NxtD w l p.1 w' l'
/-- Two boxes of results are written, and the call ends. -/
theorem InD.fin2 {w0 W : World} {P R R2 : Nat} {l0 : LdR} {wr wf wg : World} {l : LdR} (h : InD w0 W P l0 wr l) (hR : w0.heap.size ≤ R) (hRW : R < W.heap.size) (hR2 : w0.heap.size ≤ R2) (hRW2 : R2 < W.heap.size) (hu : Upd [R] wr wf) (hu2 : Upd [R2] wf wg) {g : Ld} (he : l.ld = g) : NxtD w0 l0 g wg l :=
  ⟨he, (h.has.keep1 hu (h.avW hR hRW)).keep1 hu2 (h.avW hR2 hRW2), fun b hb ha => h.av b (Nat.lt_of_lt_of_le hb h.up0.size) ha, (h.up.new hu hR).new hu2 hR2⟩
set_option maxRecDepth 100000 in
set_option maxHeartbeats 8000000 in
theorem RPeek_has (l : LdR) (w : World) (h : HasD w l) (hg : GoodL l.ld) (hlen : lenD l.ld ≤ 100000) (hmv : l.mv ≤ 100000000000) : Calls Tryz.prog 28 #[encD l] w (GivesRP l (peekL l.ld) w) := by
  have HRF := Lib.hid (fun W (hu : Upd [] w W) => RRefill_has l W (h.stay hu) hg hlen hmv)
  have HNO : Hid ((refillL l.ld).bot = [] → peekL l.ld = (refillL l.ld, zeroI, false)) := fun hb => (peek_no hb).1
  have HYE : Hid (∀ x xs, (refillL l.ld).bot = x :: xs → peekL l.ld = (refillL l.ld, x, true)) := fun x xs hb => (peek_yes hb).1
  have HST : Hid (∀ (H : Nat) (W : World), w.heap.size = H → Upd [] w W → W.heap[H]? = some (.cells (cellsD l) 42 (0, 0)) → InD w W H l W l) := fun H W hH hu hb => InD.start h hu (by omega) hb
  have HLL : Hid (encD l = .agg #[.int .i64 l.ts, .slice l.top.ad l.top.l.length l.top.cap, .slice l.rs.ad l.rs.l.length l.rs.cap, .slice l.bot.ad l.bot.l.length l.bot.cap, .int .i64 l.mv, .int .i64 l.cp]) := rfl
  rw [HLL.out] at HRF ⊢
  generalize refillL l.ld = gl at *
  generalize peekL l.ld = pk at *
  clear h hg hlen hmv HLL
  go_enter Tryz.func28, Tryz.ntmps28
  go_upto_region 1 with (fail)
  generalize hA : (Obj.cells #[.int .i64 l.ts, .slice l.top.ad l.top.l.length l.top.cap, .slice l.rs.ad l.rs.l.length l.rs.cap, .slice l.bot.ad l.bot.l.length l.bot.cap, .int .i64 l.mv, .int .i64 l.cp] 42 : Obj) = A
  generalize hB : (Obj.cells #[.int .i64 0, .slice none 0 0, .slice none 0 0, .slice none 0 0, .int .i64 0, .int .i64 0] 42 : Obj) = B
  generalize hC : (Obj.cells #[.int .i64 0, .int .i64 0, .int .i64 0] 38 : Obj) = C
  obtain ⟨hu, b0', b1', b2', hsz⟩ := three_boxes w A B C
  generalize ((w.alloc A).alloc B).alloc C = W at *
  generalize hH : w.heap.size = H at *
  rw [← hA] at b0'
  rw [← hB] at b1'
  rw [← hC] at b2'
  have b2' : W.heap[H + 1 + 1]? = _ := b2'
  have HI0 := Lib.hid (HST.out H W rfl hu b0')
  have HU := Lib.hid hu; have HB1 := Lib.hid b1'; have HB2 := Lib.hid b2'; have HH := Lib.hid hH; have HSZ := Lib.hid hsz
  obtain ⟨c0, c1, c2, c3, c4, c5⟩ := cells6 b0'
  clear hu hA hB hC b0' b1' b2' hH hsz HST
  go_upto_region 2 with (go_at_call 42; (with_reducible refine (HRF.out _ HU.out).mono ?_); rintro e w2 ⟨l', rfl, hN⟩; have hq := hN.upd.at HI0.out.cells (by simp); obtain ⟨z0, z1, z2, z3, z4, z5⟩ := free6 hq; obtain ⟨y0, y1, y2, y3, y4, y5⟩ := cells6 hq; have HNX := Lib.hid hN; have HQF := Lib.hid hq; clear hN hq; unfold encD cellsD)
  have p2 := stored6 HQF.out (.int .i64 l'.ts) (.slice l'.top.ad l'.top.l.length l'.top.cap) (.slice l'.rs.ad l'.rs.l.length l'.rs.cap) (.slice l'.bot.ad l'.bot.l.length l'.bot.cap) (.int .i64 l'.mv) (.int .i64 l'.cp)
  have hU5 := upd_set6 w2 H (.int .i64 l'.ts) (.slice l'.top.ad l'.top.l.length l'.top.cap) (.slice l'.rs.ad l'.rs.l.length l'.rs.cap) (.slice l'.bot.ad l'.bot.l.length l'.bot.cap) (.int .i64 l'.mv) (.int .i64 l'.cp)
  with_reducible generalize (((((w2.setCell ⟨H, 0, none⟩ (.int .i64 l'.ts)).setCell ⟨H, 1, none⟩ (.slice l'.top.ad l'.top.l.length l'.top.cap)).setCell ⟨H, 2, none⟩ (.slice l'.rs.ad l'.rs.l.length l'.rs.cap)).setCell ⟨H, 3, none⟩ (.slice l'.bot.ad l'.bot.l.length l'.bot.cap)).setCell ⟨H, 4, none⟩ (.int .i64 l'.mv)).setCell ⟨H, 5, none⟩ (.int .i64 l'.cp) = w3 at p2 hU5 ⊢
  have hI3 := HI0.out.put HNX.out.upd HNX.out.has (fun b hb ha => HNX.out.av b (Nat.lt_of_lt_of_le hb HI0.out.upd.size) ha) p2 hU5
  have HI3 := Lib.hid hI3
  have HE := Lib.hid HNX.out.eq
  clear c0 c1 c2 c3 c4 c5 z0 z1 z2 z3 z4 z5 y0 y1 y2 y3 y4 y5 hU5 p2 hI3 HQF HNX HI0
  have q1 := HI3.out.other (R := H + 1) (by omega) HB1.out
  have q2 := HI3.out.other (R := H + 1 + 1) (by omega) HB2.out
  have HQ1 := Lib.hid q1; have HQ2 := Lib.hid q2
  obtain ⟨c0, c1, c2, c3, c4, c5⟩ := cells6 HI3.out.cells
  obtain ⟨y0, y1, y2, y3, y4, y5⟩ := cells6 q1
  obtain ⟨z0, z1, z2, z3, z4, z5⟩ := free6 q1
  obtain ⟨x0, x1, x2⟩ := cells3 q2
  obtain ⟨v0, v1, v2⟩ := free3 q2
  clear q1 q2
  have HBE : Hid (l'.bot.l = gl.bot) := by have := HE.out; rw [← this]; rfl
  have HFIN : Hid (∀ wf, Upd [H + 1] w3 wf → ∀ wg, Upd [H + 1 + 1] wf wg → NxtD w l gl wg l') := fun wf h1 wg h2 => by
    have e1 := HH.out; have e2 := HSZ.out
    exact HI3.out.fin2 (by omega) (by omega) (by omega) (by omega) h1 h2 HE.out
  by_cases hb : l'.bot.l.length = 0
  · have d1 : ((l'.bot.l.length : Int) == 0) = true := by simp [hb]
    have hpk := HNO.out (by rw [← HBE.out]; exact List.eq_nil_of_length_eq_zero hb)
    have HPK := Lib.hid hpk
    have HB := Lib.hid hb
    clear hpk hb
    go_wp2_with fail
    have g1 := stored6 HQ1.out (.int .i64 l'.ts) (.slice l'.top.ad l'.top.l.length l'.top.cap) (.slice l'.rs.ad l'.rs.l.length l'.rs.cap) (.slice l'.bot.ad l'.bot.l.length l'.bot.cap) (.int .i64 l'.mv) (.int .i64 l'.cp)
    have u1 := upd_set6 w3 (H + 1) (.int .i64 l'.ts) (.slice l'.top.ad l'.top.l.length l'.top.cap) (.slice l'.rs.ad l'.rs.l.length l'.rs.cap) (.slice l'.bot.ad l'.bot.l.length l'.bot.cap) (.int .i64 l'.mv) (.int .i64 l'.cp)
    have q2 := u1.at HQ2.out (by simp only [List.mem_singleton]; omega)
    with_reducible generalize (((((w3.setCell ⟨H + 1, 0, none⟩ (.int .i64 l'.ts)).setCell ⟨H + 1, 1, none⟩ (.slice l'.top.ad l'.top.l.length l'.top.cap)).setCell ⟨H + 1, 2, none⟩ (.slice l'.rs.ad l'.rs.l.length l'.rs.cap)).setCell ⟨H + 1, 3, none⟩ (.slice l'.bot.ad l'.bot.l.length l'.bot.cap)).setCell ⟨H + 1, 4, none⟩ (.int .i64 l'.mv)).setCell ⟨H + 1, 5, none⟩ (.int .i64 l'.cp) = w4 at g1 u1 q2 ⊢
    have g2 := stored3 q2 (.int .i64 0) (.int .i64 0) (.int .i64 0)
    have u2 := upd_set3 w4 (H + 1 + 1) (.int .i64 0) (.int .i64 0) (.int .i64 0)
    have g1 := u2.at g1 (by simp only [List.mem_singleton]; omega)
    generalize ((w4.setCell ⟨H + 1 + 1, 0, none⟩ (.int .i64 0)).setCell ⟨H + 1 + 1, 1, none⟩ (.int .i64 0)).setCell ⟨H + 1 + 1, 2, none⟩ (.int .i64 0) = w5 at g1 g2 u2 ⊢
    obtain ⟨r0, r1, r2, r3, r4, r5⟩ := cells6 g1
    obtain ⟨s0, s1, s2⟩ := cells3 g2
    rw [HPK.out]
    exact bodyPost_ret (v := .tuple #[encD l', .agg #[(.int .i64 0), (.int .i64 0), (.int .i64 0)], .bool false]) (by simp [encD, cellsD, results, Tryz.results28, go_sem, r0, r1, r2, r3, r4, r5, s0, s1, s2]) rfl ⟨l', rfl, HFIN.out w4 u1 w5 u2⟩
  · have hb0 : 0 < l'.bot.l.length := by omega
    have d1 : ((l'.bot.l.length : Int) == 0) = false := by simp; intro e; exact hb (by rw [e]; rfl)
    obtain ⟨b, off, e, k0, k1, k2⟩ := HI3.out.has.bot.row.item 0 hb0
    have hpk := HYE.out (l'.bot.l[0]) (l'.bot.l.drop 1) (by rw [← HBE.out, ← List.drop_eq_getElem_cons hb0]; rfl)
    have HPK := Lib.hid hpk
    rw [Nat.zero_mul, Nat.add_zero] at k0 k1 k2
    have HIT : Hid (aggI l'.bot.l[0] = .agg #[.int .i64 l'.bot.l[0].t, .int .i64 l'.bot.l[0].q, .int .i64 l'.bot.l[0].s]) := rfl
    generalize l'.bot.l[0] = it at *
    generalize hi0 : it.t = i0 at *
    generalize hi1 : it.q = i1 at *
    generalize hi2 : it.s = i2 at *
    have hz : (0 : Int) < (l'.bot.l.length : Int) := by omega
    have HE := Lib.hid e
    clear hpk hi0 hi1 hi2
    have hb1 : b ≠ H + 1 := (HI3.out.avW (b := H + 1) (by have := HH.out; omega) (by have := HSZ.out; omega)).bot (List.length_pos_iff.1 hb0) _ HE.out
    have hb2 : b ≠ H + 1 + 1 := (HI3.out.avW (b := H + 1 + 1) (by have := HH.out; omega) (by have := HSZ.out; omega)).bot (List.length_pos_iff.1 hb0) _ HE.out
    clear e
    rw [HE.out] at c3
    have HKP := Lib.hid (fun W (hu : Upd [H + 1, H + 1 + 1] w3 W) => (⟨hu.cell c0 (by simp; omega), hu.cell c1 (by simp; omega), hu.cell c2 (by simp; omega), hu.cell c3 (by simp; omega), hu.cell c4 (by simp; omega), hu.cell c5 (by simp; omega), hu.cell k0 (by simp; omega), hu.cell k1 (by simp; omega), hu.cell k2 (by simp; omega)⟩ : W.cell? ⟨H, 0, none⟩ = some (.int .i64 l'.ts) ∧ W.cell? ⟨H, 1, none⟩ = some (.slice l'.top.ad l'.top.l.length l'.top.cap) ∧ W.cell? ⟨H, 2, none⟩ = some (.slice l'.rs.ad l'.rs.l.length l'.rs.cap) ∧ W.cell? ⟨H, 3, none⟩ = some (.slice (some ⟨b, off, none⟩) l'.bot.l.length l'.bot.cap) ∧ W.cell? ⟨H, 4, none⟩ = some (.int .i64 l'.mv) ∧ W.cell? ⟨H, 5, none⟩ = some (.int .i64 l'.cp) ∧ W.cell? ⟨b, off, none⟩ = some (.int .i64 i0) ∧ W.cell? ⟨b, off + 1, none⟩ = some (.int .i64 i1) ∧ W.cell? ⟨b, off + 2, none⟩ = some (.int .i64 i2)))
    have HB1 := Lib.hid hb1; have HB2 := Lib.hid hb2
    clear hb1 hb2
    go_upto_region 4 with (fail)
    go_region_held3 (fun W => W.cell? ⟨H, 0, none⟩ = some (.int .i64 l'.ts) ∧ W.cell? ⟨H, 1, none⟩ = some (.slice l'.top.ad l'.top.l.length l'.top.cap) ∧ W.cell? ⟨H, 2, none⟩ = some (.slice l'.rs.ad l'.rs.l.length l'.rs.cap) ∧ W.cell? ⟨H, 3, none⟩ = some (.slice (some ⟨b, off, none⟩) l'.bot.l.length l'.bot.cap) ∧ W.cell? ⟨H, 4, none⟩ = some (.int .i64 l'.mv) ∧ W.cell? ⟨H, 5, none⟩ = some (.int .i64 l'.cp) ∧ W.cell? ⟨b, off, none⟩ = some (.int .i64 i0) ∧ W.cell? ⟨b, off + 1, none⟩ = some (.int .i64 i1) ∧ W.cell? ⟨b, off + 2, none⟩ = some (.int .i64 i2)) (first | (with_reducible exact ⟨c0, c1, c2, c3, c4, c5, k0, k1, k2⟩) | (refine HKP.out _ ?_; (repeat (first | (with_reducible exact Upd.refl [H + 1, H + 1 + 1] _) | (with_reducible refine Upd.drew ?_) | refine Upd.setCell ?_ (by simp) _)); done)) (first | fail)
    have g1 := stored6 HQ1.out (.int .i64 l'.ts) (.slice l'.top.ad l'.top.l.length l'.top.cap) (.slice l'.rs.ad l'.rs.l.length l'.rs.cap) (.slice (some ⟨b, off, none⟩) l'.bot.l.length l'.bot.cap) (.int .i64 l'.mv) (.int .i64 l'.cp)
    have u1 := upd_set6 w3 (H + 1) (.int .i64 l'.ts) (.slice l'.top.ad l'.top.l.length l'.top.cap) (.slice l'.rs.ad l'.rs.l.length l'.rs.cap) (.slice (some ⟨b, off, none⟩) l'.bot.l.length l'.bot.cap) (.int .i64 l'.mv) (.int .i64 l'.cp)
    have q2 := u1.at HQ2.out (by simp only [List.mem_singleton]; omega)
    with_reducible generalize (((((w3.setCell ⟨H + 1, 0, none⟩ (.int .i64 l'.ts)).setCell ⟨H + 1, 1, none⟩ (.slice l'.top.ad l'.top.l.length l'.top.cap)).setCell ⟨H + 1, 2, none⟩ (.slice l'.rs.ad l'.rs.l.length l'.rs.cap)).setCell ⟨H + 1, 3, none⟩ (.slice (some ⟨b, off, none⟩) l'.bot.l.length l'.bot.cap)).setCell ⟨H + 1, 4, none⟩ (.int .i64 l'.mv)).setCell ⟨H + 1, 5, none⟩ (.int .i64 l'.cp) = w4 at g1 u1 q2 ⊢
    have g2 := stored3 q2 (.int .i64 i0) (.int .i64 i1) (.int .i64 i2)
    have u2 := upd_set3 w4 (H + 1 + 1) (.int .i64 i0) (.int .i64 i1) (.int .i64 i2)
    have g1 := u2.at g1 (by simp only [List.mem_singleton]; omega)
    generalize ((w4.setCell ⟨H + 1 + 1, 0, none⟩ (.int .i64 i0)).setCell ⟨H + 1 + 1, 1, none⟩ (.int .i64 i1)).setCell ⟨H + 1 + 1, 2, none⟩ (.int .i64 i2) = w5 at g1 g2 u2 ⊢
    have g1 : w5.drew.heap[H + 1]? = _ := g1
    have g2 : w5.drew.heap[H + 1 + 1]? = _ := g2
    have u2 := u2.drew
    generalize w5.drew = w6 at g1 g2 u2 ⊢
    clear c0 c1 c2 c3 c4 c5 k0 k1 k2 x0 x1 x2 y0 y1 y2 y3 y4 y5 z0 z1 z2 z3 z4 z5 v0 v1 v2
    go_wp2_with fail
    obtain ⟨r0, r1, r2, r3, r4, r5⟩ := cells6 g1
    obtain ⟨s0, s1, s2⟩ := cells3 g2
    rw [HPK.out]
    exact bodyPost_ret (v := .tuple #[encD l', .agg #[(.int .i64 i0), (.int .i64 i1), (.int .i64 i2)], .bool true]) (by simp [encD, cellsD, HE.out, results, Tryz.results28, go_sem, r0, r1, r2, r3, r4, r5, s0, s1, s2]) rfl ⟨l', by rw [HIT.out], HFIN.out w4 u1 w6 u2⟩
end Go.Proofs.YtpabapjodcafkaaGreat
