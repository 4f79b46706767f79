/- Contract: the program's refill. -/
/- Contract: the program's Peek. -/
import Derived.Test.YtmfnfinbkdemkaaGreatPR
import Derived.WalkMore
namespace Go.Proofs.YtmfnfinbkdemkaaGreat
open Go.RowKit Go.Lib

/-- A round of refilling: the queue in the box H. -/
structure RF (b0 : Nat) (w : World) (l : LdR) (H : Nat) (C : Obj) (wr : World) (l' : LdR) : Prop where
  good : GoodL l'.ld
  eq : refillL l'.ld = refillL l.ld
  its : (itemsL l'.ld).Perm (itemsL l.ld)
  pot : pot l'.ld ≤ pot l.ld
  ran : Ran b0 w l l'.ld wr l'
  av : ∀ r ∈ l'.rs.l, AvR r H ∧ AvR r (H + 1)
  box : wr.heap[H]? = some (.cells (cellsD l') 68 (0, 0))
  c : wr.heap[H + 1]? = some C
theorem RF.step {b0 : Nat} {w : World} {l : LdR} {H : Nat} {c0 : Array Value} {f0 : Nat × Nat} {wr w5 w6 : World} {l' l2 : LdR} (h : RF b0 w l H (.cells c0 68 f0) wr l') (hH : w.heap.size = H) (hm : More l'.ld) (hR : Ran b0 wr l' (stepL l'.ld) w5 l2) (hu : Upd [H] w5 w6) (hb : w6.heap[H]? = some (.cells (cellsD l2) 68 (0, 0))) :
    RF b0 w l H (.cells c0 68 f0) w6 l2 ∧ mes l2.ld < mes l'.ld := by
  have hs := step_ok h.good hm.1 hm.2
  have hHl : H < wr.heap.size := lt_block h.box
  have hHl2 : H + 1 < wr.heap.size := lt_block h.c
  have hav : ∀ r ∈ l2.rs.l, AvR r H ∧ AvR r (H + 1) := fun r hr => ⟨hR.av H hHl (fun x hx => (h.av x hx).1) r hr, hR.av (H + 1) hHl2 (fun x hx => (h.av x hx).2) r hr⟩
  have hq := hR.fr.box h.box
  refine ⟨⟨by rw [hR.eq]; exact hs.good, ?_, ?_, ?_, ?_, hav, hb, ?_⟩, by rw [hR.eq]; exact hs.mes⟩
  · rw [hR.eq, ← refill_step h.good hm]; exact h.eq
  · rw [hR.eq]; exact hs.its.trans h.its
  · rw [hR.eq]; have := hs.pot; have := h.pot; omega
  · have h1 := (h.ran.trans hR).box hq (by omega) (fun r hr => (hav r hr).1) hu
    rw [hR.eq]
    exact h1
  · exact hu.at (hR.fr.box h.c) (by simp)
theorem RF.bounds {b0 : Nat} {w : World} {l : LdR} {H : Nat} {C : Obj} {wr : World} {l' : LdR} (h : RF b0 w l H C wr l') (hlen : lenD l.ld ≤ 100000) (hmv : l.mv ≤ 100000000000) : lenD l'.ld ≤ 100000 ∧ 0 ≤ l'.mv ∧ l'.mv ≤ 1000000000000 := by
  have h1 := h.its.length_eq
  rw [← lenD_its, ← lenD_its] at h1
  have h2 := pot_len l.ld
  have h3 := mv_pot l'.ld
  have h4 := h.pot
  have h5 := h.good.mv0
  simp only [LdR.ld] at h2 h3 h5
  refine ⟨by omega, h5, ?_⟩
  have h6 : ((lenD l.ld : Nat) : Int) ≤ 100000 := by omega
  simp only [LdR.ld] at h4 h6 h2 h3
  omega
theorem RF.top {b0 : Nat} {w : World} {l : LdR} {H : Nat} {C : Obj} {wr : World} {l' : LdR} (h : RF b0 w l H C wr l') (hb0 : b0 ≤ w.heap.size) (hlen : lenD l.ld ≤ 100000) (hmv : l.mv ≤ 100000000000) (hbt : l'.bot.l = []) (hrs : l'.rs.l = []) (ht : 0 < l'.top.l.length) :
    Calls Tryz.prog 95 #[encD l'] wr (Gran b0 wr l' (stepL l'.ld)) := by
  obtain ⟨b1, b2, b3⟩ := h.bounds hlen hmv
  have hst : stepL l'.ld = fromTop l'.ld := stepL_top (by simp [LdR.ld, hrs])
  rw [hst]
  have hld : lenD l'.ld = l'.top.l.length := by simp [lenD, LdR.ld, hbt, hrs]
  refine takeTop_has l' b0 wr h.ran.own (Nat.le_trans hb0 h.ran.fr.size) hrs ht (by omega) (dist_top h.good.dist) (fun it hit => h.good.times (List.mem_append_left _ (List.mem_append_left _ hit))) ⟨b2, b3⟩
theorem its_sub {rs : List Rg} {r : Rg} (h : r ∈ rs) : (itsR r).Sublist (itsRs rs) := by
  unfold itsRs
  exact List.sublist_flatten_of_mem (List.mem_map_of_mem h)
theorem len_rs {l : Ld} {r : Rg} (h : r ∈ l.rs) : lenL r.bs ≤ lenD l := by
  rw [lenD_its, ← itsR_length]
  have := (its_sub h).length_le
  unfold itemsL
  simp only [List.length_append]
  omega
theorem RF.bucket {b0 : Nat} {w : World} {l : LdR} {H : Nat} {C : Obj} {wr : World} {l' : LdR} (h : RF b0 w l H C wr l') (hb0 : b0 ≤ w.heap.size) (hlen : lenD l.ld ≤ 100000) (hmv : l.mv ≤ 100000000000) (hrs : 0 < l'.rs.l.length) :
    Calls Tryz.prog 94 #[encD l'] wr (Gran b0 wr l' (stepL l'.ld)) := by
  obtain ⟨b1, b2, b3⟩ := h.bounds hlen hmv
  obtain ⟨rs0, r, hl⟩ : ∃ rs0 r, l'.rs.l = rs0 ++ [r] := ⟨l'.rs.l.dropLast, l'.rs.l.getLast (List.length_pos_iff.1 hrs), (List.dropLast_concat_getLast (List.length_pos_iff.1 hrs)).symm⟩
  have hst : stepL l'.ld = fromRung l'.ld (rs0.map RgR.rg) r.rg := stepL_rung (by simp [LdR.ld, hl])
  rw [hst]
  have hmem : r.rg ∈ l'.ld.rs := by simp [LdR.ld, hl]
  have hok := okRs_mem h.good.rs hmem
  have h4 := h.good.len
  simp only [LdR.ld, hl, List.length_map, List.length_append, List.length_singleton] at h4
  refine takeBucket_has l' rs0 r b0 wr h.ran.own (Nat.le_trans hb0 h.ran.fr.size) hl (by omega) hok.1 (fun it hit => (hok.2 it hit).2) ?_ (Nat.le_trans (len_rs hmem) b1) ⟨b2, b3⟩
  have hd := h.good.dist
  unfold itemsL at hd
  exact List.Pairwise.sublist (its_sub hmem) (List.pairwise_append.1 hd).2.1
set_option maxRecDepth 100000 in
set_option maxHeartbeats 8000000 in
theorem refill_has (l : LdR) (b0 : Nat) (w : World) (hO : Own b0 w l) (hb0 : b0 ≤ w.heap.size) (hg : GoodL l.ld) (hlen : lenD l.ld ≤ 100000) (hmv : l.mv ≤ 100000000000) :
    Calls Tryz.prog 68 #[encD l] w (Gran b0 w l (refillL l.ld)) := by
  have HTOP := Lib.hid (fun (H : Nat) (C : Obj) (wr : World) (l' : LdR) (h : RF b0 w l H C wr l') => h.top hb0 hlen hmv)
  have HBUC := Lib.hid (fun (H : Nat) (C : Obj) (wr : World) (l' : LdR) (h : RF b0 w l H C wr l') => h.bucket hb0 hlen hmv)
  have HST := Lib.hid (fun (H : Nat) (c0 : Array Value) (f0 : Nat × Nat) (wr w5 w6 : World) (l' l2 : LdR) (h : RF b0 w l H (.cells c0 68 f0) wr l') (hH : w.heap.size = H) => h.step (w5 := w5) (w6 := w6) (l2 := l2) hH)
  have HZ : Hid (∀ (H : Nat) (C : Obj) (W : World), w.heap.size = H → Upd [] w W → W.heap[H]? = some (.cells (cellsD l) 68 (0, 0)) → W.heap[H + 1]? = some C → RF b0 w l H C W l) := fun H C W hH hu h0 h1 =>
    ⟨hg, rfl, List.Perm.refl _, Int.le_refl _, (Ran.refl hO).stay hu, fun r hr => ⟨(hO.rg r hr).1.avoids (by omega), (hO.rg r hr).1.avoids (by omega)⟩, h0, h1⟩
  have HEND : Hid (∀ (H : Nat) (c0 : Array Value) (f0 : Nat × Nat) (wr wf : World) (l' : LdR), RF b0 w l H (.cells c0 68 f0) wr l' → w.heap.size = H → ¬ More l'.ld → Upd [H + 1] wr wf → Gran b0 w l (refillL l.ld) (.returned (encD l')) wf) := fun H c0 f0 wr wf l' h hH hno hu => by
    have e : l'.ld = refillL l.ld := by rw [← h.eq, refill_stop hno]
    have hR := h.ran
    rw [e] at hR
    exact ⟨l', rfl, hR.box h.c (by omega) (fun r hr => (h.av r hr).2) hu⟩
  generalize refillL l.ld = gl at *
  obtain ⟨n, hn⟩ : ∃ n, n = mes l.ld := ⟨_, rfl⟩
  have HN := Lib.hid hn
  clear hO hb0 hg hlen hmv hn
  unfold encD cellsD
  go_enter Tryz.func68, Tryz.ntmps68
  go_upto_region 1 with (fail)
  generalize hA : (Obj.cells #[.int .i64 l.ts, .slice l.top.ad l.top.l.length l.top.cap, .slice l.rs.ad l.rs.l.length l.rs.cap, .slice l.bot.ad l.bot.l.length l.bot.cap, .int .i64 l.mv, .int .i64 l.cp] 68 : Obj) = A
  generalize hC : (Obj.cells #[.int .i64 0, .slice none 0 0, .slice none 0 0, .slice none 0 0, .int .i64 0, .int .i64 0] 68 : Obj) = C
  obtain ⟨hu, b0', b2, hsz⟩ := two_boxes w A C
  generalize (w.alloc A).alloc C = W at *
  generalize hH : w.heap.size = H at *
  have HR0 := Lib.hid (HZ.out H C W rfl hu (by rw [b0', ← hA]; rfl) b2)
  have HC := Lib.hid hC; have HH := Lib.hid hH
  clear hu hA hC b0' b2 hH hsz
  go_step3
  go_wp2_with fail
  go_step3
  go_wp2_with fail
  go_loopg [] n (fun gk wr => ∃ (l' : LdR), Hid (RF b0 w l H C wr l') ∧ Hid (mes l'.ld ≤ gk))
  case atStart => exact ⟨l, HR0, by show mes l.ld ≤ n; rw [HN.out]; exact Nat.le_refl _⟩
  case round =>
    obtain ⟨l', HR, HM⟩ := hrel
    have q0 := HR.out.box
    unfold cellsD at q0
    obtain ⟨c0, c1, c2, c3, c4, c5⟩ := cells6 q0
    clear q0
    by_cases hb : 0 < l'.bot.l.length
    · have d1 : decide (0 < l'.bot.l.length) = true := by simpa using hb
      have q2 := HR.out.c
      rw [← HC.out] at q2
      have HQ2 := Lib.hid q2
      obtain ⟨y0, y1, y2, y3, y4, y5⟩ := cells6 q2
      obtain ⟨z0, z1, z2, z3, z4, z5⟩ := free6 q2
      clear q2
      go_wp2_with fail
      have p2 := stored6 HQ2.out (.int .i64 l'.ts) (.slice l'.top.ad l'.top.l.length l'.top.cap) (.slice l'.rs.ad l'.rs.l.length l'.rs.cap) (.slice l'.bot.ad l'.bot.l.length l'.bot.cap) (.int .i64 l'.mv) (.int .i64 l'.cp)
      have hU5 := upd_set6 wr (H + 1) (.int .i64 l'.ts) (.slice l'.top.ad l'.top.l.length l'.top.cap) (.slice l'.rs.ad l'.rs.l.length l'.rs.cap) (.slice l'.bot.ad l'.bot.l.length l'.bot.cap) (.int .i64 l'.mv) (.int .i64 l'.cp)
      generalize (((((wr.setCell ⟨H + 1, 0, none⟩ (.int .i64 l'.ts)).setCell ⟨H + 1, 1, none⟩ (.slice l'.top.ad l'.top.l.length l'.top.cap)).setCell ⟨H + 1, 2, none⟩ (.slice l'.rs.ad l'.rs.l.length l'.rs.cap)).setCell ⟨H + 1, 3, none⟩ (.slice l'.bot.ad l'.bot.l.length l'.bot.cap)).setCell ⟨H + 1, 4, none⟩ (.int .i64 l'.mv)).setCell ⟨H + 1, 5, none⟩ (.int .i64 l'.cp) = wf at p2 hU5 ⊢
      obtain ⟨r0, r1, r2, r3, r4, r5⟩ := cells6 p2
      have hrf := HR.out
      rw [← HC.out] at hrf
      first | rw [Exit.noGoto_ret] | skip
      exact bodyPost_ret (v := encD l') (by simp [encD, cellsD, results, Tryz.results68, go_sem, r0, r1, r2, r3, r4, r5]) rfl (HEND.out H _ _ wr wf l' hrf rfl (fun hm => by have h1 : l'.bot.l = [] := hm.1; rw [h1] at hb; simp at hb) hU5)
    · have d1 : decide (0 < l'.bot.l.length) = false := by simpa using hb
      have HBE : Hid (l'.bot.l = []) := List.eq_nil_of_length_eq_zero (by omega)
      by_cases hr : 0 < l'.rs.l.length
      · have d2 : decide (0 < l'.rs.l.length) = true := by simpa using hr
        have HCT := Lib.hid (HBUC.out H C wr l' HR.out hr)
        unfold encD cellsD at HCT
        go_wp2_with (go_at_call 94; (with_reducible refine HCT.out.mono ?_); rintro e w5 ⟨l2, rfl, hR⟩; have hq := hR.fr.box HR.out.box; obtain ⟨z0, z1, z2, z3, z4, z5⟩ := free6 hq; unfold cellsD at hq; obtain ⟨y0, y1, y2, y3, y4, y5⟩ := cells6 hq; have HRR := Lib.hid hR; have HQF := Lib.hid hq; clear hR hq; unfold encD cellsD)
        have p2 := stored6 HQF.out (.int .i64 l2.ts) (.slice l2.top.ad l2.top.l.length l2.top.cap) (.slice l2.rs.ad l2.rs.l.length l2.rs.cap) (.slice l2.bot.ad l2.bot.l.length l2.bot.cap) (.int .i64 l2.mv) (.int .i64 l2.cp)
        have hU5 := upd_set6 w5 H (.int .i64 l2.ts) (.slice l2.top.ad l2.top.l.length l2.top.cap) (.slice l2.rs.ad l2.rs.l.length l2.rs.cap) (.slice l2.bot.ad l2.bot.l.length l2.bot.cap) (.int .i64 l2.mv) (.int .i64 l2.cp)
        generalize (((((w5.setCell ⟨H, 0, none⟩ (.int .i64 l2.ts)).setCell ⟨H, 1, none⟩ (.slice l2.top.ad l2.top.l.length l2.top.cap)).setCell ⟨H, 2, none⟩ (.slice l2.rs.ad l2.rs.l.length l2.rs.cap)).setCell ⟨H, 3, none⟩ (.slice l2.bot.ad l2.bot.l.length l2.bot.cap)).setCell ⟨H, 4, none⟩ (.int .i64 l2.mv)).setCell ⟨H, 5, none⟩ (.int .i64 l2.cp) = w6 at p2 hU5 ⊢
        have hrf := HR.out
        rw [← HC.out] at hrf
        obtain ⟨hrf2, hmes⟩ := HST.out H _ _ wr w5 w6 l' l2 hrf rfl ⟨HBE.out, .inl (by intro e; have e2 : l'.rs.l.map RgR.rg = [] := e; simp at e2; rw [e2] at hr; simp at hr)⟩ HRR.out hU5 p2
        rw [HC.out] at hrf2
        go_roundg (mes l2.ld)
        case measure => exact Nat.lt_of_lt_of_le hmes HM.out
        case rel => exact ⟨l2, hrf2, Nat.le_refl _⟩
      · have d2 : decide (0 < l'.rs.l.length) = false := by simpa using hr
        have HRE : Hid (l'.rs.l = []) := List.eq_nil_of_length_eq_zero (by omega)
        by_cases ht : 0 < l'.top.l.length
        · have d3 : decide (0 < l'.top.l.length) = true := by simpa using ht
          have HCT := Lib.hid (HTOP.out H C wr l' HR.out HBE.out HRE.out ht)
          unfold encD cellsD at HCT
          go_wp2_with (go_at_call 95; (with_reducible refine HCT.out.mono ?_); rintro e w5 ⟨l2, rfl, hR⟩; have hq := hR.fr.box HR.out.box; obtain ⟨z0, z1, z2, z3, z4, z5⟩ := free6 hq; unfold cellsD at hq; obtain ⟨y0, y1, y2, y3, y4, y5⟩ := cells6 hq; have HRR := Lib.hid hR; have HQF := Lib.hid hq; clear hR hq; unfold encD cellsD)
          have p2 := stored6 HQF.out (.int .i64 l2.ts) (.slice l2.top.ad l2.top.l.length l2.top.cap) (.slice l2.rs.ad l2.rs.l.length l2.rs.cap) (.slice l2.bot.ad l2.bot.l.length l2.bot.cap) (.int .i64 l2.mv) (.int .i64 l2.cp)
          have hU5 := upd_set6 w5 H (.int .i64 l2.ts) (.slice l2.top.ad l2.top.l.length l2.top.cap) (.slice l2.rs.ad l2.rs.l.length l2.rs.cap) (.slice l2.bot.ad l2.bot.l.length l2.bot.cap) (.int .i64 l2.mv) (.int .i64 l2.cp)
          generalize (((((w5.setCell ⟨H, 0, none⟩ (.int .i64 l2.ts)).setCell ⟨H, 1, none⟩ (.slice l2.top.ad l2.top.l.length l2.top.cap)).setCell ⟨H, 2, none⟩ (.slice l2.rs.ad l2.rs.l.length l2.rs.cap)).setCell ⟨H, 3, none⟩ (.slice l2.bot.ad l2.bot.l.length l2.bot.cap)).setCell ⟨H, 4, none⟩ (.int .i64 l2.mv)).setCell ⟨H, 5, none⟩ (.int .i64 l2.cp) = w6 at p2 hU5 ⊢
          have hrf := HR.out
          rw [← HC.out] at hrf
          obtain ⟨hrf2, hmes⟩ := HST.out H _ _ wr w5 w6 l' l2 hrf rfl ⟨HBE.out, .inr (by intro e; have e2 : l'.top.l = [] := e; rw [e2] at ht; simp at ht)⟩ HRR.out hU5 p2
          rw [HC.out] at hrf2
          go_roundg (mes l2.ld)
          case measure => exact Nat.lt_of_lt_of_le hmes HM.out
          case rel => exact ⟨l2, hrf2, Nat.le_refl _⟩
        · have d3 : decide (0 < l'.top.l.length) = false := by simpa using ht
          have HTE : Hid (l'.top.l = []) := List.eq_nil_of_length_eq_zero (by omega)
          have q2 := HR.out.c
          rw [← HC.out] at q2
          have HQ2 := Lib.hid q2
          obtain ⟨y0, y1, y2, y3, y4, y5⟩ := cells6 q2
          obtain ⟨z0, z1, z2, z3, z4, z5⟩ := free6 q2
          clear q2
          go_wp2_with fail
          have p2 := stored6 HQ2.out (.int .i64 l'.ts) (.slice l'.top.ad l'.top.l.length l'.top.cap) (.slice l'.rs.ad l'.rs.l.length l'.rs.cap) (.slice l'.bot.ad l'.bot.l.length l'.bot.cap) (.int .i64 l'.mv) (.int .i64 l'.cp)
          have hU5 := upd_set6 wr (H + 1) (.int .i64 l'.ts) (.slice l'.top.ad l'.top.l.length l'.top.cap) (.slice l'.rs.ad l'.rs.l.length l'.rs.cap) (.slice l'.bot.ad l'.bot.l.length l'.bot.cap) (.int .i64 l'.mv) (.int .i64 l'.cp)
          generalize (((((wr.setCell ⟨H + 1, 0, none⟩ (.int .i64 l'.ts)).setCell ⟨H + 1, 1, none⟩ (.slice l'.top.ad l'.top.l.length l'.top.cap)).setCell ⟨H + 1, 2, none⟩ (.slice l'.rs.ad l'.rs.l.length l'.rs.cap)).setCell ⟨H + 1, 3, none⟩ (.slice l'.bot.ad l'.bot.l.length l'.bot.cap)).setCell ⟨H + 1, 4, none⟩ (.int .i64 l'.mv)).setCell ⟨H + 1, 5, none⟩ (.int .i64 l'.cp) = wf at p2 hU5 ⊢
          obtain ⟨r0, r1, r2, r3, r4, r5⟩ := cells6 p2
          have hrf := HR.out
          rw [← HC.out] at hrf
          first | rw [Exit.noGoto_ret] | skip
          exact bodyPost_ret (v := encD l') (by simp [encD, cellsD, results, Tryz.results68, go_sem, r0, r1, r2, r3, r4, r5]) rfl (HEND.out H _ _ wr wf l' hrf rfl (fun hm => by rcases hm.2 with h1 | h1; exact h1 (by simp [LdR.ld, HRE.out]); exact h1 (by simp [LdR.ld, HTE.out])) hU5)
end Go.Proofs.YtmfnfinbkdemkaaGreat
namespace Go.Proofs.YtmfnfinbkdemkaaGreat
open Go.RowKit Go.Lib

/-- A queue made anew: nothing of it is older than w. -/
structure BornD (w : World) (g : Ld) (w' : World) (l' : LdR) : Prop where
  eq : l'.ld = g
  has : HasD w' l'
  av : ∀ b, b < w.heap.size → AvD l' b
  upd : Upd [] w w'
theorem BornD.up {w w' w2 : World} {g : Ld} {l' : LdR} (h : BornD w g w' l') (hu : Upd [] w' w2) : BornD w g w2 l' := ⟨h.eq, h.has.stay hu, h.av, h.upd.thn hu⟩
theorem BornD.enter {w0 w w' : World} {g : Ld} {l' : LdR} (hu : Upd [] w0 w) (h : BornD w g w' l') : BornD w0 g w' l' := ⟨h.eq, h.has, fun b hb => h.av b (Nat.lt_of_lt_of_le hb hu.size), hu.thn h.upd⟩
/-- A box that is new to w0 and older than the queue is written. -/
theorem BornD.box {w0 w w' w2 : World} {g : Ld} {l' : LdR} {b : Nat} (h : BornD w g w' l') (hu : Upd [] w0 w) (hb0 : w0.heap.size ≤ b) (hb : b < w.heap.size) (h2 : Upd [b] w' w2) : HasD w2 l' ∧ Upd [] w0 w2 :=
  ⟨h.has.keep1 h2 (h.av b hb), (hu.thn h.upd).new h2 hb0⟩
/-- What a queue must be to be worked on. -/
structure Fit (l : LdR) : Prop where
  good : GoodL l.ld
  len : lenD l.ld ≤ 100000
  mv : l.mv ≤ 100000000000
theorem Fit.h8 {l : LdR} (h : Fit l) : ∀ r ∈ l.rs.l, r.bk.l.length = 8 := fun r hr => by
  have hm : r.rg ∈ l.ld.rs := List.mem_map_of_mem hr
  have := (okRs_mem h.good.rs hm).1.len
  simpa [RgR.rg, rowsOf_length] using this
theorem Fit.its {l : LdR} (h : Fit l) : ∀ r ∈ l.rs.l, ∀ s ∈ r.bk.l, s.l.length ≤ 100000 := fun r hr s hs => by
  have hm : r.rg ∈ l.ld.rs := List.mem_map_of_mem hr
  have h1 := len_rs hm
  obtain ⟨i, hi, rfl⟩ := List.mem_iff_getElem.1 hs
  have h2 := len_le (bs := rowsOf r.bk.l) (k := i) (by rw [rowsOf_length]; exact hi)
  rw [rowsOf_get hi] at h2
  have h3 := h.len
  simp only [RgR.rg] at h1
  omega
theorem Fit.sizes {l : LdR} (h : Fit l) : l.top.l.length ≤ 100000 ∧ l.rs.l.length ≤ 4 ∧ l.bot.l.length ≤ 100000 := by
  have h1 := h.len
  have h2 := h.good.len
  simp only [lenD, LdR.ld, List.length_map] at h1 h2
  omega
theorem clone_fit (l : LdR) (w : World) (h : HasD w l) (hf : Fit l) :
    Calls Tryz.prog 69 #[encD l] w fun e w' => ∃ l', e = .returned (encD l') ∧ l'.ld = l.ld ∧ Own w.heap.size w' l' ∧ Upd [] w w' :=
  lclone_has l w h hf.h8 (by have := hf.sizes; omega) (by have := hf.sizes; omega) (by have := hf.sizes; omega) (fun r hr s hs => by have := hf.its r hr s hs; omega)
/-- The copy refilled. -/
theorem refill_fit (l lc : LdR) (W w1 : World) (hf : Fit l) (he : lc.ld = l.ld) (hO : Own W.heap.size w1 lc) (hu : Upd [] W w1) :
    Calls Tryz.prog 68 #[encD lc] w1 fun e w' => ∃ l', e = .returned (encD l') ∧ BornD W (refillL l.ld) w' l' := by
  have hmv : lc.mv = l.mv := by have := congrArg Ld.mv he; simpa [LdR.ld] using this
  refine (refill_has lc W.heap.size w1 hO hu.size (by rw [he]; exact hf.good) (by rw [he]; exact hf.len) (by rw [hmv]; exact hf.mv)).mono ?_
  rintro e w' ⟨l', rfl, hR⟩
  exact ⟨l', rfl, by rw [hR.eq, he], hR.own.has, fun b hb => hR.own.av hb, hR.fr.upd hu (Nat.le_refl _)⟩
def Peeked (w : World) (p : Ld × It × Bool) (e : Ending) (w' : World) : Prop := ∃ l', e = .returned (.tuple #[encD l', aggI p.2.1, .bool p.2.2]) ∧ BornD w p.1 w' l'
set_option maxRecDepth 100000 in
set_option maxHeartbeats 8000000 in
theorem Peek_has (l : LdR) (w : World) (h : HasD w l) (hf : Fit l) : Calls Tryz.prog 37 #[encD l] w (Peeked w (peekL l.ld)) := by
  have HCL := Lib.hid (fun W (hu : Upd [] w W) => clone_fit l W (h.stay hu) hf)
  have HRF := Lib.hid (fun lc W w1 => refill_fit l lc W w1 hf)
  have HNO : Hid ((refillL l.ld).bot = [] → peekL l.ld = (refillL l.ld, zeroI, false)) := fun hb => (peek_no hb).1
  have HYE : Hid (∀ x xs, (refillL l.ld).bot = x :: xs → peekL l.ld = (refillL l.ld, x, true)) := fun x xs hb => (peek_yes hb).1
  have HLL : Hid (encD l = .agg #[.int .i64 l.ts, .slice l.top.ad l.top.l.length l.top.cap, .slice l.rs.ad l.rs.l.length l.rs.cap, .slice l.bot.ad l.bot.l.length l.bot.cap, .int .i64 l.mv, .int .i64 l.cp]) := rfl
  rw [HLL.out] at HCL ⊢
  generalize refillL l.ld = gl at *
  generalize peekL l.ld = pk at *
  clear h hf
  go_enter Tryz.func37, Tryz.ntmps37
  go_upto_region 1 with (fail)
  generalize hA : (Obj.cells #[.int .i64 l.ts, .slice l.top.ad l.top.l.length l.top.cap, .slice l.rs.ad l.rs.l.length l.rs.cap, .slice l.bot.ad l.bot.l.length l.bot.cap, .int .i64 l.mv, .int .i64 l.cp] 68 : Obj) = A
  generalize hB : (Obj.cells #[.int .i64 0, .slice none 0 0, .slice none 0 0, .slice none 0 0, .int .i64 0, .int .i64 0] 68 : Obj) = B
  generalize hC : (Obj.cells #[.int .i64 0, .int .i64 0, .int .i64 0] 36 : Obj) = C
  obtain ⟨hu, b0', b1', b2', hsz⟩ := three_boxes w A B C
  generalize ((w.alloc A).alloc B).alloc C = W at *
  generalize hH : w.heap.size = H at *
  rw [← hA] at b0'
  rw [← hB] at b1'
  rw [← hC] at b2'
  have b2' : W.heap[H + 1 + 1]? = _ := b2'
  have HU := Lib.hid hu; have HB0 := Lib.hid b0'; have HB1 := Lib.hid b1'; have HB2 := Lib.hid b2'; have HH := Lib.hid hH; have HSZ := Lib.hid hsz
  obtain ⟨c0, c1, c2, c3, c4, c5⟩ := cells6 b0'
  clear hu hA hB hC b0' b1' b2' hH hsz
  go_upto_region 2 with (first
    | (go_at_call 69; (with_reducible refine (HCL.out _ HU.out).mono ?_); rintro e w1 ⟨lc, rfl, he, hO, hu⟩; have HR2 := Lib.hid (HRF.out lc W w1 he hO hu); unfold encD cellsD at HR2; clear he hO hu; unfold encD cellsD)
    | (go_at_call 68; (with_reducible refine HR2.out.mono ?_); rintro e w2 ⟨l', rfl, hBn⟩; have hq := hBn.upd.at HB0.out (by simp); obtain ⟨z0, z1, z2, z3, z4, z5⟩ := free6 hq; obtain ⟨y0, y1, y2, y3, y4, y5⟩ := cells6 hq; have HBN := Lib.hid hBn; have HQF := Lib.hid hq; clear hBn hq))
  have p2 := stored6 HQF.out (.int .i64 l'.ts) (.slice l'.top.ad l'.top.l.length l'.top.cap) (.slice l'.rs.ad l'.rs.l.length l'.rs.cap) (.slice l'.bot.ad l'.bot.l.length l'.bot.cap) (.int .i64 l'.mv) (.int .i64 l'.cp)
  have hU5 := upd_set6 w2 H (.int .i64 l'.ts) (.slice l'.top.ad l'.top.l.length l'.top.cap) (.slice l'.rs.ad l'.rs.l.length l'.rs.cap) (.slice l'.bot.ad l'.bot.l.length l'.bot.cap) (.int .i64 l'.mv) (.int .i64 l'.cp)
  generalize (((((w2.setCell ⟨H, 0, none⟩ (.int .i64 l'.ts)).setCell ⟨H, 1, none⟩ (.slice l'.top.ad l'.top.l.length l'.top.cap)).setCell ⟨H, 2, none⟩ (.slice l'.rs.ad l'.rs.l.length l'.rs.cap)).setCell ⟨H, 3, none⟩ (.slice l'.bot.ad l'.bot.l.length l'.bot.cap)).setCell ⟨H, 4, none⟩ (.int .i64 l'.mv)).setCell ⟨H, 5, none⟩ (.int .i64 l'.cp) = w3 at p2 hU5 ⊢
  have HP2 := Lib.hid p2; have HU5 := Lib.hid hU5
  have q1 := hU5.at (HBN.out.upd.at HB1.out (by simp)) (by simp)
  have q2 := hU5.at (HBN.out.upd.at HB2.out (by simp)) (by simp only [List.mem_singleton]; omega)
  obtain ⟨hasd, hup⟩ := HBN.out.box HU.out (by have := HH.out; omega) (by have := HSZ.out; omega) hU5
  have HQ1 := Lib.hid q1; have HQ2 := Lib.hid q2; have HHS := Lib.hid hasd; have HUP := Lib.hid hup
  clear c0 c1 c2 c3 c4 c5 z0 z1 z2 z3 z4 z5 y0 y1 y2 y3 y4 y5 hU5 hasd hup
  obtain ⟨c0, c1, c2, c3, c4, c5⟩ := cells6 p2
  obtain ⟨y0, y1, y2, y3, y4, y5⟩ := cells6 q1
  obtain ⟨z0, z1, z2, z3, z4, z5⟩ := free6 q1
  obtain ⟨x0, x1, x2⟩ := cells3 q2
  obtain ⟨v0, v1, v2⟩ := free3 q2
  clear p2 q1 q2
  have HBE : Hid (l'.bot.l = gl.bot) := by have := HBN.out.eq; rw [← this]; rfl
  have HFIN : Hid (∀ wf, Upd [H + 1] w3 wf → ∀ wg, Upd [H + 1 + 1] wf wg → BornD w gl wg l') := fun wf h1 wg h2 => by
    have e1 := HH.out; have e2 := HSZ.out
    have a1 := HBN.out.av (H + 1) (by omega)
    have a2 := HBN.out.av (H + 1 + 1) (by omega)
    exact ⟨HBN.out.eq, (HHS.out.keep1 h1 a1).keep1 h2 a2, fun b hb => HBN.out.av b (by omega), (HUP.out.new h1 (by omega)).new h2 (by omega)⟩
  by_cases hb : l'.bot.l.length = 0
  · have d1 : ((l'.bot.l.length : Int) == 0) = true := by simp [hb]
    have hpk := HNO.out (by rw [← HBE.out]; exact List.eq_nil_of_length_eq_zero hb)
    have HPK := Lib.hid hpk
    have HB := Lib.hid hb
    clear hpk hb
    go_wp2_with fail
    have g1 := stored6 HQ1.out (.int .i64 l'.ts) (.slice l'.top.ad l'.top.l.length l'.top.cap) (.slice l'.rs.ad l'.rs.l.length l'.rs.cap) (.slice l'.bot.ad l'.bot.l.length l'.bot.cap) (.int .i64 l'.mv) (.int .i64 l'.cp)
    have u1 := upd_set6 w3 (H + 1) (.int .i64 l'.ts) (.slice l'.top.ad l'.top.l.length l'.top.cap) (.slice l'.rs.ad l'.rs.l.length l'.rs.cap) (.slice l'.bot.ad l'.bot.l.length l'.bot.cap) (.int .i64 l'.mv) (.int .i64 l'.cp)
    have q2 := u1.at HQ2.out (by simp only [List.mem_singleton]; omega)
    generalize (((((w3.setCell ⟨H + 1, 0, none⟩ (.int .i64 l'.ts)).setCell ⟨H + 1, 1, none⟩ (.slice l'.top.ad l'.top.l.length l'.top.cap)).setCell ⟨H + 1, 2, none⟩ (.slice l'.rs.ad l'.rs.l.length l'.rs.cap)).setCell ⟨H + 1, 3, none⟩ (.slice l'.bot.ad l'.bot.l.length l'.bot.cap)).setCell ⟨H + 1, 4, none⟩ (.int .i64 l'.mv)).setCell ⟨H + 1, 5, none⟩ (.int .i64 l'.cp) = w4 at g1 u1 q2 ⊢
    have g2 := stored3 q2 (.int .i64 0) (.int .i64 0) (.int .i64 0)
    have u2 := upd_set3 w4 (H + 1 + 1) (.int .i64 0) (.int .i64 0) (.int .i64 0)
    have g1 := u2.at g1 (by simp only [List.mem_singleton]; omega)
    generalize ((w4.setCell ⟨H + 1 + 1, 0, none⟩ (.int .i64 0)).setCell ⟨H + 1 + 1, 1, none⟩ (.int .i64 0)).setCell ⟨H + 1 + 1, 2, none⟩ (.int .i64 0) = w5 at g1 g2 u2 ⊢
    obtain ⟨r0, r1, r2, r3, r4, r5⟩ := cells6 g1
    obtain ⟨s0, s1, s2⟩ := cells3 g2
    rw [HPK.out]
    exact bodyPost_ret (v := .tuple #[encD l', .agg #[(.int .i64 0), (.int .i64 0), (.int .i64 0)], .bool false]) (by simp [encD, cellsD, results, Tryz.results37, go_sem, r0, r1, r2, r3, r4, r5, s0, s1, s2]) rfl ⟨l', rfl, HFIN.out w4 u1 w5 u2⟩
  · have hb0 : 0 < l'.bot.l.length := by omega
    have d1 : ((l'.bot.l.length : Int) == 0) = false := by simp; intro e; exact hb (by rw [e]; rfl)
    obtain ⟨b, off, e, k0, k1, k2⟩ := HHS.out.bot.row.item 0 hb0
    have hpk := HYE.out (l'.bot.l[0]) (l'.bot.l.drop 1) (by rw [← HBE.out, ← List.drop_eq_getElem_cons hb0]; rfl)
    have HPK := Lib.hid hpk
    rw [Nat.zero_mul, Nat.add_zero] at k0 k1 k2
    have HIT : Hid (aggI l'.bot.l[0] = .agg #[.int .i64 l'.bot.l[0].t, .int .i64 l'.bot.l[0].q, .int .i64 l'.bot.l[0].s]) := rfl
    generalize l'.bot.l[0] = it at *
    generalize hi0 : it.t = i0 at *
    generalize hi1 : it.q = i1 at *
    generalize hi2 : it.s = i2 at *
    have hz : (0 : Int) < (l'.bot.l.length : Int) := by omega
    have HE := Lib.hid e
    clear hpk hi0 hi1 hi2
    have hb1 : b ≠ H + 1 := (HBN.out.av (H + 1) (by have := HSZ.out; omega)).bot (List.length_pos_iff.1 hb0) _ HE.out
    have hb2 : b ≠ H + 1 + 1 := (HBN.out.av (H + 1 + 1) (by have := HSZ.out; omega)).bot (List.length_pos_iff.1 hb0) _ HE.out
    clear e
    rw [HE.out] at c3
    have HKP := Lib.hid (fun W (hu : Upd [H + 1, H + 1 + 1] w3 W) => (⟨hu.cell c0 (by simp; omega), hu.cell c1 (by simp; omega), hu.cell c2 (by simp; omega), hu.cell c3 (by simp; omega), hu.cell c4 (by simp; omega), hu.cell c5 (by simp; omega), hu.cell k0 (by simp; omega), hu.cell k1 (by simp; omega), hu.cell k2 (by simp; omega)⟩ : W.cell? ⟨H, 0, none⟩ = some (.int .i64 l'.ts) ∧ W.cell? ⟨H, 1, none⟩ = some (.slice l'.top.ad l'.top.l.length l'.top.cap) ∧ W.cell? ⟨H, 2, none⟩ = some (.slice l'.rs.ad l'.rs.l.length l'.rs.cap) ∧ W.cell? ⟨H, 3, none⟩ = some (.slice (some ⟨b, off, none⟩) l'.bot.l.length l'.bot.cap) ∧ W.cell? ⟨H, 4, none⟩ = some (.int .i64 l'.mv) ∧ W.cell? ⟨H, 5, none⟩ = some (.int .i64 l'.cp) ∧ W.cell? ⟨b, off, none⟩ = some (.int .i64 i0) ∧ W.cell? ⟨b, off + 1, none⟩ = some (.int .i64 i1) ∧ W.cell? ⟨b, off + 2, none⟩ = some (.int .i64 i2)))
    have HB1 := Lib.hid hb1; have HB2 := Lib.hid hb2
    clear hb1 hb2
    go_upto_region 4 with (fail)
    go_region_held3 (fun wz => wz.cell? ⟨H, 0, none⟩ = some (.int .i64 l'.ts) ∧ wz.cell? ⟨H, 1, none⟩ = some (.slice l'.top.ad l'.top.l.length l'.top.cap) ∧ wz.cell? ⟨H, 2, none⟩ = some (.slice l'.rs.ad l'.rs.l.length l'.rs.cap) ∧ wz.cell? ⟨H, 3, none⟩ = some (.slice (some ⟨b, off, none⟩) l'.bot.l.length l'.bot.cap) ∧ wz.cell? ⟨H, 4, none⟩ = some (.int .i64 l'.mv) ∧ wz.cell? ⟨H, 5, none⟩ = some (.int .i64 l'.cp) ∧ wz.cell? ⟨b, off, none⟩ = some (.int .i64 i0) ∧ wz.cell? ⟨b, off + 1, none⟩ = some (.int .i64 i1) ∧ wz.cell? ⟨b, off + 2, none⟩ = some (.int .i64 i2)) (first | (with_reducible exact ⟨c0, c1, c2, c3, c4, c5, k0, k1, k2⟩) | (refine HKP.out _ ?_; (repeat (first | (with_reducible exact Upd.refl [H + 1, H + 1 + 1] _) | (with_reducible refine Upd.drew ?_) | refine Upd.setCell ?_ (by simp) _)); done)) (first | fail)
    have g1 := stored6 HQ1.out (.int .i64 l'.ts) (.slice l'.top.ad l'.top.l.length l'.top.cap) (.slice l'.rs.ad l'.rs.l.length l'.rs.cap) (.slice (some ⟨b, off, none⟩) l'.bot.l.length l'.bot.cap) (.int .i64 l'.mv) (.int .i64 l'.cp)
    have u1 := upd_set6 w3 (H + 1) (.int .i64 l'.ts) (.slice l'.top.ad l'.top.l.length l'.top.cap) (.slice l'.rs.ad l'.rs.l.length l'.rs.cap) (.slice (some ⟨b, off, none⟩) l'.bot.l.length l'.bot.cap) (.int .i64 l'.mv) (.int .i64 l'.cp)
    have q2 := u1.at HQ2.out (by simp only [List.mem_singleton]; omega)
    generalize (((((w3.setCell ⟨H + 1, 0, none⟩ (.int .i64 l'.ts)).setCell ⟨H + 1, 1, none⟩ (.slice l'.top.ad l'.top.l.length l'.top.cap)).setCell ⟨H + 1, 2, none⟩ (.slice l'.rs.ad l'.rs.l.length l'.rs.cap)).setCell ⟨H + 1, 3, none⟩ (.slice (some ⟨b, off, none⟩) l'.bot.l.length l'.bot.cap)).setCell ⟨H + 1, 4, none⟩ (.int .i64 l'.mv)).setCell ⟨H + 1, 5, none⟩ (.int .i64 l'.cp) = w4 at g1 u1 q2 ⊢
    have g2 := stored3 q2 (.int .i64 i0) (.int .i64 i1) (.int .i64 i2)
    have u2 := upd_set3 w4 (H + 1 + 1) (.int .i64 i0) (.int .i64 i1) (.int .i64 i2)
    have g1 := u2.at g1 (by simp only [List.mem_singleton]; omega)
    generalize ((w4.setCell ⟨H + 1 + 1, 0, none⟩ (.int .i64 i0)).setCell ⟨H + 1 + 1, 1, none⟩ (.int .i64 i1)).setCell ⟨H + 1 + 1, 2, none⟩ (.int .i64 i2) = w5 at g1 g2 u2 ⊢
    have g1 : w5.drew.heap[H + 1]? = _ := g1
    have g2 : w5.drew.heap[H + 1 + 1]? = _ := g2
    have u2 := u2.drew
    generalize w5.drew = w6 at g1 g2 u2 ⊢
    clear c0 c1 c2 c3 c4 c5 k0 k1 k2 x0 x1 x2 y0 y1 y2 y3 y4 y5 z0 z1 z2 z3 z4 z5 v0 v1 v2
    go_wp2_with fail
    obtain ⟨r0, r1, r2, r3, r4, r5⟩ := cells6 g1
    obtain ⟨s0, s1, s2⟩ := cells3 g2
    rw [HPK.out]
    exact bodyPost_ret (v := .tuple #[encD l', .agg #[(.int .i64 i0), (.int .i64 i1), (.int .i64 i2)], .bool true]) (by simp [encD, cellsD, HE.out, results, Tryz.results37, go_sem, r0, r1, r2, r3, r4, r5, s0, s1, s2]) rfl ⟨l', by rw [HIT.out], HFIN.out w4 u1 w6 u2⟩
end Go.Proofs.YtmfnfinbkdemkaaGreat
