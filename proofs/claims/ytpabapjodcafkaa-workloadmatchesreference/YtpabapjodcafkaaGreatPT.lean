
/- Contract: the program's refill. -/
import Derived.Test.YtpabapjodcafkaaGreatPR
import Derived.WalkMore
namespace Go.Proofs.YtpabapjodcafkaaGreat
open Go.RowKit Go.Lib

/-- A round of refilling: the queue in the box H. -/
structure RF (b0 : Nat) (w : World) (l : LdR) (H : Nat) (C : Obj) (wr : World) (l' : LdR) : Prop where
  good : GoodL l'.ld
  eq : refillL l'.ld = refillL l.ld
  its : (itemsL l'.ld).Perm (itemsL l.ld)
  pot : pot l'.ld ≤ pot l.ld
  ran : Ran b0 w l l'.ld wr l'
  av : ∀ r ∈ l'.rs.l, AvR r H ∧ AvR r (H + 1)
  box : wr.heap[H]? = some (.cells (cellsD l') 42 (0, 0))
  c : wr.heap[H + 1]? = some C
theorem RF.step {b0 : Nat} {w : World} {l : LdR} {H : Nat} {c0 : Array Value} {f0 : Nat × Nat} {wr w5 w6 : World} {l' l2 : LdR} (h : RF b0 w l H (.cells c0 42 f0) wr l') (hH : w.heap.size = H) (hm : More l'.ld) (hR : Ran b0 wr l' (stepL l'.ld) w5 l2) (hu : Upd [H] w5 w6) (hb : w6.heap[H]? = some (.cells (cellsD l2) 42 (0, 0))) :
    RF b0 w l H (.cells c0 42 f0) w6 l2 ∧ mes l2.ld < mes l'.ld := by
  have hs := step_ok h.good hm.1 hm.2
  have hHl : H < wr.heap.size := lt_block h.box
  have hHl2 : H + 1 < wr.heap.size := lt_block h.c
  have hav : ∀ r ∈ l2.rs.l, AvR r H ∧ AvR r (H + 1) := fun r hr => ⟨hR.av H hHl (fun x hx => (h.av x hx).1) r hr, hR.av (H + 1) hHl2 (fun x hx => (h.av x hx).2) r hr⟩
  have hq := hR.fr.box h.box
  refine ⟨⟨by rw [hR.eq]; exact hs.good, ?_, ?_, ?_, ?_, hav, hb, ?_⟩, by rw [hR.eq]; exact hs.mes⟩
  · rw [hR.eq, ← refill_step h.good hm]; exact h.eq
  · rw [hR.eq]; exact hs.its.trans h.its
  · rw [hR.eq]; have := hs.pot; have := h.pot; omega
  · have h1 := (h.ran.trans hR).box hq (by omega) (fun r hr => (hav r hr).1) hu
    rw [hR.eq]
    exact h1
  · exact hu.at (hR.fr.box h.c) (by simp)
theorem RF.bounds {b0 : Nat} {w : World} {l : LdR} {H : Nat} {C : Obj} {wr : World} {l' : LdR} (h : RF b0 w l H C wr l') (hlen : lenD l.ld ≤ 100000) (hmv : l.mv ≤ 100000000000) : lenD l'.ld ≤ 100000 ∧ 0 ≤ l'.mv ∧ l'.mv ≤ 1000000000000 := by
  have h1 := h.its.length_eq
  rw [← lenD_its, ← lenD_its] at h1
  have h2 := pot_len l.ld
  have h3 := mv_pot l'.ld
  have h4 := h.pot
  have h5 := h.good.mv0
  simp only [LdR.ld] at h2 h3 h5
  refine ⟨by omega, h5, ?_⟩
  have h6 : ((lenD l.ld : Nat) : Int) ≤ 100000 := by omega
  simp only [LdR.ld] at h4 h6 h2 h3
  omega
theorem RF.top {b0 : Nat} {w : World} {l : LdR} {H : Nat} {C : Obj} {wr : World} {l' : LdR} (h : RF b0 w l H C wr l') (hb0 : b0 ≤ w.heap.size) (hlen : lenD l.ld ≤ 100000) (hmv : l.mv ≤ 100000000000) (hbt : l'.bot.l = []) (hrs : l'.rs.l = []) (ht : 0 < l'.top.l.length) :
    Calls Tryz.prog 71 #[encD l'] wr (Gran b0 wr l' (stepL l'.ld)) := by
  obtain ⟨b1, b2, b3⟩ := h.bounds hlen hmv
  have hst : stepL l'.ld = fromTop l'.ld := stepL_top (by simp [LdR.ld, hrs])
  rw [hst]
  have hld : lenD l'.ld = l'.top.l.length := by simp [lenD, LdR.ld, hbt, hrs]
  refine takeTop_has l' b0 wr h.ran.own (Nat.le_trans hb0 h.ran.fr.size) hrs ht (by omega) (dist_top h.good.dist) (fun it hit => h.good.times (List.mem_append_left _ (List.mem_append_left _ hit))) ⟨b2, b3⟩
theorem its_sub {rs : List Rg} {r : Rg} (h : r ∈ rs) : (itsR r).Sublist (itsRs rs) := by
  unfold itsRs
  exact List.sublist_flatten_of_mem (List.mem_map_of_mem h)
theorem len_rs {l : Ld} {r : Rg} (h : r ∈ l.rs) : lenL r.bs ≤ lenD l := by
  rw [lenD_its, ← itsR_length]
  have := (its_sub h).length_le
  unfold itemsL
  simp only [List.length_append]
  omega
theorem RF.bucket {b0 : Nat} {w : World} {l : LdR} {H : Nat} {C : Obj} {wr : World} {l' : LdR} (h : RF b0 w l H C wr l') (hb0 : b0 ≤ w.heap.size) (hlen : lenD l.ld ≤ 100000) (hmv : l.mv ≤ 100000000000) (hrs : 0 < l'.rs.l.length) :
    Calls Tryz.prog 70 #[encD l'] wr (Gran b0 wr l' (stepL l'.ld)) := by
  obtain ⟨b1, b2, b3⟩ := h.bounds hlen hmv
  obtain ⟨rs0, r, hl⟩ : ∃ rs0 r, l'.rs.l = rs0 ++ [r] := ⟨l'.rs.l.dropLast, l'.rs.l.getLast (List.length_pos_iff.1 hrs), (List.dropLast_concat_getLast (List.length_pos_iff.1 hrs)).symm⟩
  have hst : stepL l'.ld = fromRung l'.ld (rs0.map RgR.rg) r.rg := stepL_rung (by simp [LdR.ld, hl])
  rw [hst]
  have hmem : r.rg ∈ l'.ld.rs := by simp [LdR.ld, hl]
  have hok := okRs_mem h.good.rs hmem
  have h4 := h.good.len
  simp only [LdR.ld, hl, List.length_map, List.length_append, List.length_singleton] at h4
  refine takeBucket_has l' rs0 r b0 wr h.ran.own (Nat.le_trans hb0 h.ran.fr.size) hl (by omega) hok.1 (fun it hit => (hok.2 it hit).2) ?_ (Nat.le_trans (len_rs hmem) b1) ⟨b2, b3⟩
  have hd := h.good.dist
  unfold itemsL at hd
  exact List.Pairwise.sublist (its_sub hmem) (List.pairwise_append.1 hd).2.1
set_option maxRecDepth 100000 in
set_option maxHeartbeats 8000000 in
theorem refill_has (l : LdR) (b0 : Nat) (w : World) (hO : Own b0 w l) (hb0 : b0 ≤ w.heap.size) (hg : GoodL l.ld) (hlen : lenD l.ld ≤ 100000) (hmv : l.mv ≤ 100000000000) :
    Calls Tryz.prog 60 #[encD l] w (Gran b0 w l (refillL l.ld)) := by
  have HTOP := Lib.hid (fun (H : Nat) (C : Obj) (wr : World) (l' : LdR) (h : RF b0 w l H C wr l') => h.top hb0 hlen hmv)
  have HBUC := Lib.hid (fun (H : Nat) (C : Obj) (wr : World) (l' : LdR) (h : RF b0 w l H C wr l') => h.bucket hb0 hlen hmv)
  have HST := Lib.hid (fun (H : Nat) (c0 : Array Value) (f0 : Nat × Nat) (wr w5 w6 : World) (l' l2 : LdR) (h : RF b0 w l H (.cells c0 42 f0) wr l') (hH : w.heap.size = H) => h.step (w5 := w5) (w6 := w6) (l2 := l2) hH)
  have HZ : Hid (∀ (H : Nat) (C : Obj) (W : World), w.heap.size = H → Upd [] w W → W.heap[H]? = some (.cells (cellsD l) 42 (0, 0)) → W.heap[H + 1]? = some C → RF b0 w l H C W l) := fun H C W hH hu h0 h1 =>
    ⟨hg, rfl, List.Perm.refl _, Int.le_refl _, (Ran.refl hO).stay hu, fun r hr => ⟨(hO.rg r hr).1.avoids (by omega), (hO.rg r hr).1.avoids (by omega)⟩, h0, h1⟩
  have HEND : Hid (∀ (H : Nat) (c0 : Array Value) (f0 : Nat × Nat) (wr wf : World) (l' : LdR), RF b0 w l H (.cells c0 42 f0) wr l' → w.heap.size = H → ¬ More l'.ld → Upd [H + 1] wr wf → Gran b0 w l (refillL l.ld) (.returned (encD l')) wf) := fun H c0 f0 wr wf l' h hH hno hu => by
    have e : l'.ld = refillL l.ld := by rw [← h.eq, refill_stop hno]
    have hR := h.ran
    rw [e] at hR
    exact ⟨l', rfl, hR.box h.c (by omega) (fun r hr => (h.av r hr).2) hu⟩
  generalize refillL l.ld = gl at *
  obtain ⟨n, hn⟩ : ∃ n, n = mes l.ld := ⟨_, rfl⟩
  have HN := Lib.hid hn
  clear hO hb0 hg hlen hmv hn
  unfold encD cellsD
  go_enter Tryz.func60, Tryz.ntmps60
  go_upto_region 1 with (fail)
  generalize hA : (Obj.cells #[.int .i64 l.ts, .slice l.top.ad l.top.l.length l.top.cap, .slice l.rs.ad l.rs.l.length l.rs.cap, .slice l.bot.ad l.bot.l.length l.bot.cap, .int .i64 l.mv, .int .i64 l.cp] 42 : Obj) = A
  generalize hC : (Obj.cells #[.int .i64 0, .slice none 0 0, .slice none 0 0, .slice none 0 0, .int .i64 0, .int .i64 0] 42 : Obj) = C
  obtain ⟨hu, b0', b2, hsz⟩ := two_boxes w A C
  generalize (w.alloc A).alloc C = W at *
  generalize hH : w.heap.size = H at *
  have HR0 := Lib.hid (HZ.out H C W rfl hu (by rw [b0', ← hA]; rfl) b2)
  have HC := Lib.hid hC; have HH := Lib.hid hH
  clear hu hA hC b0' b2 hH hsz
  go_step3
  go_wp2_with fail
  go_step3
  go_wp2_with fail
  go_loopg [] n (fun gk wr => ∃ (l' : LdR), Hid (RF b0 w l H C wr l') ∧ Hid (mes l'.ld ≤ gk))
  case atStart => exact ⟨l, HR0, by show mes l.ld ≤ n; rw [HN.out]; exact Nat.le_refl _⟩
  case round =>
    obtain ⟨l', HR, HM⟩ := hrel
    have q0 := HR.out.box
    unfold cellsD at q0
    obtain ⟨c0, c1, c2, c3, c4, c5⟩ := cells6 q0
    clear q0
    by_cases hb : 0 < l'.bot.l.length
    · have d1 : decide (0 < l'.bot.l.length) = true := by simpa using hb
      have q2 := HR.out.c
      rw [← HC.out] at q2
      have HQ2 := Lib.hid q2
      obtain ⟨y0, y1, y2, y3, y4, y5⟩ := cells6 q2
      obtain ⟨z0, z1, z2, z3, z4, z5⟩ := free6 q2
      clear q2
      go_wp2_with fail
      have p2 := stored6 HQ2.out (.int .i64 l'.ts) (.slice l'.top.ad l'.top.l.length l'.top.cap) (.slice l'.rs.ad l'.rs.l.length l'.rs.cap) (.slice l'.bot.ad l'.bot.l.length l'.bot.cap) (.int .i64 l'.mv) (.int .i64 l'.cp)
      have hU5 := upd_set6 wr (H + 1) (.int .i64 l'.ts) (.slice l'.top.ad l'.top.l.length l'.top.cap) (.slice l'.rs.ad l'.rs.l.length l'.rs.cap) (.slice l'.bot.ad l'.bot.l.length l'.bot.cap) (.int .i64 l'.mv) (.int .i64 l'.cp)
      generalize (((((wr.setCell ⟨H + 1, 0, none⟩ (.int .i64 l'.ts)).setCell ⟨H + 1, 1, none⟩ (.slice l'.top.ad l'.top.l.length l'.top.cap)).setCell ⟨H + 1, 2, none⟩ (.slice l'.rs.ad l'.rs.l.length l'.rs.cap)).setCell ⟨H + 1, 3, none⟩ (.slice l'.bot.ad l'.bot.l.length l'.bot.cap)).setCell ⟨H + 1, 4, none⟩ (.int .i64 l'.mv)).setCell ⟨H + 1, 5, none⟩ (.int .i64 l'.cp) = wf at p2 hU5 ⊢
      obtain ⟨r0, r1, r2, r3, r4, r5⟩ := cells6 p2
      have hrf := HR.out
      rw [← HC.out] at hrf
      first | rw [Exit.noGoto_ret] | skip
      exact bodyPost_ret (v := encD l') (by simp [encD, cellsD, results, Tryz.results60, go_sem, r0, r1, r2, r3, r4, r5]) rfl (HEND.out H _ _ wr wf l' hrf rfl (fun hm => by have h1 : l'.bot.l = [] := hm.1; rw [h1] at hb; simp at hb) hU5)
    · have d1 : decide (0 < l'.bot.l.length) = false := by simpa using hb
      have HBE : Hid (l'.bot.l = []) := List.eq_nil_of_length_eq_zero (by omega)
      by_cases hr : 0 < l'.rs.l.length
      · have d2 : decide (0 < l'.rs.l.length) = true := by simpa using hr
        have HCT := Lib.hid (HBUC.out H C wr l' HR.out hr)
        unfold encD cellsD at HCT
        go_wp2_with (go_at_call 70; (with_reducible refine HCT.out.mono ?_); rintro e w5 ⟨l2, rfl, hR⟩; have hq := hR.fr.box HR.out.box; obtain ⟨z0, z1, z2, z3, z4, z5⟩ := free6 hq; unfold cellsD at hq; obtain ⟨y0, y1, y2, y3, y4, y5⟩ := cells6 hq; have HRR := Lib.hid hR; have HQF := Lib.hid hq; clear hR hq; unfold encD cellsD)
        have p2 := stored6 HQF.out (.int .i64 l2.ts) (.slice l2.top.ad l2.top.l.length l2.top.cap) (.slice l2.rs.ad l2.rs.l.length l2.rs.cap) (.slice l2.bot.ad l2.bot.l.length l2.bot.cap) (.int .i64 l2.mv) (.int .i64 l2.cp)
        have hU5 := upd_set6 w5 H (.int .i64 l2.ts) (.slice l2.top.ad l2.top.l.length l2.top.cap) (.slice l2.rs.ad l2.rs.l.length l2.rs.cap) (.slice l2.bot.ad l2.bot.l.length l2.bot.cap) (.int .i64 l2.mv) (.int .i64 l2.cp)
        generalize (((((w5.setCell ⟨H, 0, none⟩ (.int .i64 l2.ts)).setCell ⟨H, 1, none⟩ (.slice l2.top.ad l2.top.l.length l2.top.cap)).setCell ⟨H, 2, none⟩ (.slice l2.rs.ad l2.rs.l.length l2.rs.cap)).setCell ⟨H, 3, none⟩ (.slice l2.bot.ad l2.bot.l.length l2.bot.cap)).setCell ⟨H, 4, none⟩ (.int .i64 l2.mv)).setCell ⟨H, 5, none⟩ (.int .i64 l2.cp) = w6 at p2 hU5 ⊢
        have hrf := HR.out
        rw [← HC.out] at hrf
        obtain ⟨hrf2, hmes⟩ := HST.out H _ _ wr w5 w6 l' l2 hrf rfl ⟨HBE.out, .inl (by intro e; have e2 : l'.rs.l.map RgR.rg = [] := e; simp at e2; rw [e2] at hr; simp at hr)⟩ HRR.out hU5 p2
        rw [HC.out] at hrf2
        go_roundg (mes l2.ld)
        case measure => exact Nat.lt_of_lt_of_le hmes HM.out
        case rel => exact ⟨l2, hrf2, Nat.le_refl _⟩
      · have d2 : decide (0 < l'.rs.l.length) = false := by simpa using hr
        have HRE : Hid (l'.rs.l = []) := List.eq_nil_of_length_eq_zero (by omega)
        by_cases ht : 0 < l'.top.l.length
        · have d3 : decide (0 < l'.top.l.length) = true := by simpa using ht
          have HCT := Lib.hid (HTOP.out H C wr l' HR.out HBE.out HRE.out ht)
          unfold encD cellsD at HCT
          go_wp2_with (go_at_call 71; (with_reducible refine HCT.out.mono ?_); rintro e w5 ⟨l2, rfl, hR⟩; have hq := hR.fr.box HR.out.box; obtain ⟨z0, z1, z2, z3, z4, z5⟩ := free6 hq; unfold cellsD at hq; obtain ⟨y0, y1, y2, y3, y4, y5⟩ := cells6 hq; have HRR := Lib.hid hR; have HQF := Lib.hid hq; clear hR hq; unfold encD cellsD)
          have p2 := stored6 HQF.out (.int .i64 l2.ts) (.slice l2.top.ad l2.top.l.length l2.top.cap) (.slice l2.rs.ad l2.rs.l.length l2.rs.cap) (.slice l2.bot.ad l2.bot.l.length l2.bot.cap) (.int .i64 l2.mv) (.int .i64 l2.cp)
          have hU5 := upd_set6 w5 H (.int .i64 l2.ts) (.slice l2.top.ad l2.top.l.length l2.top.cap) (.slice l2.rs.ad l2.rs.l.length l2.rs.cap) (.slice l2.bot.ad l2.bot.l.length l2.bot.cap) (.int .i64 l2.mv) (.int .i64 l2.cp)
          generalize (((((w5.setCell ⟨H, 0, none⟩ (.int .i64 l2.ts)).setCell ⟨H, 1, none⟩ (.slice l2.top.ad l2.top.l.length l2.top.cap)).setCell ⟨H, 2, none⟩ (.slice l2.rs.ad l2.rs.l.length l2.rs.cap)).setCell ⟨H, 3, none⟩ (.slice l2.bot.ad l2.bot.l.length l2.bot.cap)).setCell ⟨H, 4, none⟩ (.int .i64 l2.mv)).setCell ⟨H, 5, none⟩ (.int .i64 l2.cp) = w6 at p2 hU5 ⊢
          have hrf := HR.out
          rw [← HC.out] at hrf
          obtain ⟨hrf2, hmes⟩ := HST.out H _ _ wr w5 w6 l' l2 hrf rfl ⟨HBE.out, .inr (by intro e; have e2 : l'.top.l = [] := e; rw [e2] at ht; simp at ht)⟩ HRR.out hU5 p2
          rw [HC.out] at hrf2
          go_roundg (mes l2.ld)
          case measure => exact Nat.lt_of_lt_of_le hmes HM.out
          case rel => exact ⟨l2, hrf2, Nat.le_refl _⟩
        · have d3 : decide (0 < l'.top.l.length) = false := by simpa using ht
          have HTE : Hid (l'.top.l = []) := List.eq_nil_of_length_eq_zero (by omega)
          have q2 := HR.out.c
          rw [← HC.out] at q2
          have HQ2 := Lib.hid q2
          obtain ⟨y0, y1, y2, y3, y4, y5⟩ := cells6 q2
          obtain ⟨z0, z1, z2, z3, z4, z5⟩ := free6 q2
          clear q2
          go_wp2_with fail
          have p2 := stored6 HQ2.out (.int .i64 l'.ts) (.slice l'.top.ad l'.top.l.length l'.top.cap) (.slice l'.rs.ad l'.rs.l.length l'.rs.cap) (.slice l'.bot.ad l'.bot.l.length l'.bot.cap) (.int .i64 l'.mv) (.int .i64 l'.cp)
          have hU5 := upd_set6 wr (H + 1) (.int .i64 l'.ts) (.slice l'.top.ad l'.top.l.length l'.top.cap) (.slice l'.rs.ad l'.rs.l.length l'.rs.cap) (.slice l'.bot.ad l'.bot.l.length l'.bot.cap) (.int .i64 l'.mv) (.int .i64 l'.cp)
          generalize (((((wr.setCell ⟨H + 1, 0, none⟩ (.int .i64 l'.ts)).setCell ⟨H + 1, 1, none⟩ (.slice l'.top.ad l'.top.l.length l'.top.cap)).setCell ⟨H + 1, 2, none⟩ (.slice l'.rs.ad l'.rs.l.length l'.rs.cap)).setCell ⟨H + 1, 3, none⟩ (.slice l'.bot.ad l'.bot.l.length l'.bot.cap)).setCell ⟨H + 1, 4, none⟩ (.int .i64 l'.mv)).setCell ⟨H + 1, 5, none⟩ (.int .i64 l'.cp) = wf at p2 hU5 ⊢
          obtain ⟨r0, r1, r2, r3, r4, r5⟩ := cells6 p2
          have hrf := HR.out
          rw [← HC.out] at hrf
          first | rw [Exit.noGoto_ret] | skip
          exact bodyPost_ret (v := encD l') (by simp [encD, cellsD, results, Tryz.results60, go_sem, r0, r1, r2, r3, r4, r5]) rfl (HEND.out H _ _ wr wf l' hrf rfl (fun hm => by rcases hm.2 with h1 | h1; exact h1 (by simp [LdR.ld, HRE.out]); exact h1 (by simp [LdR.ld, HTE.out])) hU5)
end Go.Proofs.YtpabapjodcafkaaGreat
