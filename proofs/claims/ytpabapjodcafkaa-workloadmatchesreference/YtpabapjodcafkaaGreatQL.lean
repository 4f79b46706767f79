
/- Contract: the reference's fromRung. -/
import Derived.Test.YtpabapjodcafkaaGreatQK
import Derived.Test.YtpabapjodcafkaaGreatPR
namespace Go.Proofs.YtpabapjodcafkaaGreat
open Go.RowKit Go.Lib

set_option maxRecDepth 100000 in
set_option maxHeartbeats 8000000 in
theorem RFromRung_has (l : LdR) (rs0 : List RgR) (r : RgR) (w : World) (h : HasD w l) (hl : l.rs.l = rs0 ++ [r]) (hg : GoodL l.ld) (hlen : lenD l.ld ≤ 100000) (hmv : 0 ≤ l.mv ∧ l.mv ≤ 1000000000000) :
    Calls Tryz.prog 62 #[encD l] w (GivesRD l (fromRung l.ld (rs0.map RgR.rg) r.rg) w) := by
  have hmem : r ∈ l.rs.l := by rw [hl]; simp
  have hrl : l.rs.l.length ≤ 4 := by have := hg.len; simpa [LdR.ld] using this
  have hok := okRs_mem hg.rs (List.mem_map_of_mem hmem : r.rg ∈ l.ld.rs)
  have hrn := Nat.le_trans (rlen_its hmem) hlen
  obtain ⟨p, hp⟩ : ∃ p, p = nextR r.rg := ⟨_, rfl⟩
  have HNX := Lib.hid (fun W (hu : Upd [] w W) => RNext_has r W ((h.stay hu).rg _ hmem) hok.1 hrn)
  have HFA := Lib.hid (fun (hk : p.2.2.2 = true) => next_facts hok.1 (fun it hit => (hok.2 it hit).2) hp.symm hk)
  rw [← hp] at HNX
  have hgw := hok.1.wd0; have hgw1 := hok.1.wd1
  have HGW : Hid (1 ≤ r.wd ∧ r.wd ≤ 144115188075855873) := ⟨hgw, hgw1⟩
  have HE1 : Hid (∀ l' : LdR, p.2.2.2 = false → l'.ld = { l.ld with rs := rs0.map RgR.rg } → l'.ld = fromRung l.ld (rs0.map RgR.rg) r.rg) := fun l' hk e => by rw [e, fromRung_no hp.symm hk]
  have HE2 : Hid (∀ l' : LdR, p.2.2.2 = true → (4 < p.2.1.length ∧ l.rs.l.length < 4 ∧ 1 < r.wd) → l'.ld = { l.ld with rs := rs0.map RgR.rg ++ [p.1] ++ [spreadR p.2.2.1 ((r.wd + 7) / 8) p.2.1], mv := l.mv + p.2.1.length } → l'.ld = fromRung l.ld (rs0.map RgR.rg) r.rg) := fun l' hk hc e => by
    rw [e, fromRung_add hp.symm hk (by rw [hl] at hc; simp only [List.length_append, List.length_singleton] at hc; simp only [List.length_map]; exact hc)]; rfl
  have HE3 : Hid (∀ l' : LdR, p.2.2.2 = true → ¬ (4 < p.2.1.length ∧ l.rs.l.length < 4 ∧ 1 < r.wd) → l'.ld = { l.ld with rs := rs0.map RgR.rg ++ [p.1], bot := sortI p.2.1, mv := l.mv + p.2.1.length } → l'.ld = fromRung l.ld (rs0.map RgR.rg) r.rg) := fun l' hk hc e => by
    rw [e, fromRung_sort hp.symm hk (by rw [hl] at hc; simp only [List.length_append, List.length_singleton] at hc; simp only [List.length_map]; exact hc)]; rfl
  generalize fromRung l.ld (rs0.map RgR.rg) r.rg = gl at *
  obtain ⟨pr, pi, pf, pk⟩ := p
  simp only at HNX HFA HE1 HE2 HE3
  have HTK : Hid (l.rs.l.take rs0.length = rs0) := by show _ = _; rw [hl]; exact List.take_left
  have HSE : Hid (∀ r' : RgR, l.rs.l.set rs0.length r' = rs0 ++ [r']) := fun r' => by rw [hl]; simp
  have HLA : Hid (∀ hk : rs0.length < l.rs.l.length, l.rs.l[rs0.length] = r) := fun hk => by simp [hl]
  have hnl : l.rs.l.length = rs0.length + 1 := by rw [hl]; simp
  have HRU := Lib.hid (fun (r' : RgR) W (hs : HasS LR W l.rs) => rungs_has l.rs rs0.length r' W hs (by omega) (by omega))
  have HSO := Lib.hid (fun (s : SlR It) W (hs : HasS LI W s) (hn : s.l.length ≤ 100000) => Sort_has s W hs hn)
  have HST : Hid (∀ (H : Nat) (W : World), w.heap.size = H → Upd [] w W → W.heap[H]? = some (.cells (cellsD l) 42 (0, 0)) → InD w W H l W l) := fun H W hH hu hb => InD.start h hu (by omega) hb
  have HMEM := Lib.hid hmem
  have HSUB : Hid (∀ x ∈ rs0, x ∈ l.rs.l) := fun x hx => by rw [hl]; exact List.mem_append_left _ hx
  have HRN := Lib.hid hrn
  have HLL : Hid (encD l = .agg #[.int .i64 l.ts, .slice l.top.ad l.top.l.length l.top.cap, .slice l.rs.ad l.rs.l.length l.rs.cap, .slice l.bot.ad l.bot.l.length l.bot.cap, .int .i64 l.mv, .int .i64 l.cp]) := rfl
  rw [HLL.out]
  have HRG := Lib.hid (fun W (hu : Upd [] w W) => (h.stay hu).rs)
  obtain ⟨n, hn⟩ : ∃ n, n = l.rs.l.length := ⟨_, rfl⟩
  obtain ⟨n1, hn1⟩ : ∃ n1, n1 = rs0.length := ⟨_, rfl⟩
  have HN := Lib.hid hn
  have HN1 := Lib.hid hn1
  rw [← hn, ← hn1] at hnl
  rw [← hn1] at HTK HSE HLA HRU
  rw [← hn] at hrl HE2 HE3 HRU ⊢
  have HNL := Lib.hid hnl
  clear h hl hg hlen hmem hok hp hgw hgw1 HLL hn hn1 hrn hnl
  go_enter Tryz.func62, Tryz.ntmps62
  go_upto_region 1 with (fail)
  generalize hA : (Obj.cells #[.int .i64 l.ts, .slice l.top.ad l.top.l.length l.top.cap, .slice l.rs.ad n l.rs.cap, .slice l.bot.ad l.bot.l.length l.bot.cap, .int .i64 l.mv, .int .i64 l.cp] 42 : Obj) = A
  generalize hC : (Obj.cells #[.int .i64 0, .slice none 0 0, .slice none 0 0, .slice none 0 0, .int .i64 0, .int .i64 0] 42 : Obj) = C
  obtain ⟨hu, b0, b2, hsz⟩ := two_boxes w A C
  generalize (w.alloc A).alloc C = W at *
  generalize hH : w.heap.size = H at *
  rw [← hA, HN.out] at b0
  rw [← hC] at b2
  have HI0 := Lib.hid (HST.out H W rfl hu b0)
  have HB2 := Lib.hid b2; have HH := Lib.hid hH; have HWS := Lib.hid hsz; have HUW := Lib.hid hu
  rw [← HN.out] at b0
  have hk1 : n1 < l.rs.l.length := by have := HN.out; have := HNL.out; omega
  obtain ⟨b, off, hbo, x0, x1, x2, x3⟩ := (HRG.out W hu).row.rung n1 hk1
  rw [HLA.out hk1] at x0 x1 x2 x3
  clear hu hA hC b2 hH hsz HST hk1
  obtain ⟨c0, c1, c2, c3, c4, c5⟩ := cells6 b0
  rw [hbo] at c2
  have HBO := Lib.hid hbo
  have hw0 : IntKind.i64.wrap ((n : Int) - 1) = (n1 : Int) := by have := HNL.out; rw [IntKind.wrap_i64]; omega
  have hltz : (n1 : Int) < (n : Int) := by have := HNL.out; omega
  have hn0 : (0 : Int) ≤ (n1 : Int) := by omega
  have hnx := HNX.out W HUW.out
  have HHR := Lib.hid (HI0.out.has.rg _ HMEM.out)
  have HAVR : Hid (∀ b, AvD l b → AvR r b) := fun b h => h.rg _ HMEM.out
  obtain ⟨fr, wd, cu, bk⟩ := r
  unfold encR at hnx
  simp only at x0 x1 x2 x3 hnx
  have HNXK := Lib.hid hnx
  clear b0 hbo hnx
  go_upto_region 3 with (go_at_call 75; (with_reducible refine HNXK.out.mono ?_); rintro e w1 ⟨r', s, rfl, hN, hG⟩; unfold encR)
  have hal := (Upd.refl [] w1).alloc (.cells #[.int .i64 r'.fr, .int .i64 r'.wd, .int .i64 r'.cu, .slice r'.bk.ad r'.bk.l.length r'.bk.cap] 59)
  have HU2 := Lib.hid (hN.upd.thn hal)
  have HI2 := Lib.hid (HI0.out.stay HU2.out)
  have hqb := heap_alloc1 w1 (.cells #[.int .i64 r'.fr, .int .i64 r'.wd, .int .i64 r'.cu, .slice r'.bk.ad r'.bk.l.length r'.bk.cap] 59)
  have HR2 := Lib.hid (hN.has.stay hal)
  have HS2 := Lib.hid (hG.has.stay hal)
  have HQG : Hid (W.heap.size ≤ w1.heap.size) := hN.upd.size
  have HRAV : Hid (∀ b, b < W.heap.size → AvD l b → AvR r' b) := fun b hb ha => hN.av b hb (HAVR.out b ha)
  have HRE : Hid (r'.rg = pr) := hN.eq
  have HSAV : Hid (∀ b, b < W.heap.size → AvD l b → AvS s b) := fun b hb ha => hG.av b hb (HAVR.out b ha)
  have HSEQ : Hid (s.l = pi) := hG.eq
  clear c0 c1 c2 c3 c4 c5 x0 x1 x2 x3 hal hN hG hw0
  generalize w1.alloc (.cells #[.int .i64 r'.fr, .int .i64 r'.wd, .int .i64 r'.cu, .slice r'.bk.ad r'.bk.l.length r'.bk.cap] 59) = w2 at *
  generalize w1.heap.size = Q at *
  have HQB := Lib.hid hqb
  clear hqb
  obtain ⟨c0, c1, c2, c3, c4, c5⟩ := cells6 HI2.out.cells
  rw [← HN.out, HBO.out] at c2
  cases pk with
  | false =>
    have HE1K := Lib.hid (fun l' => HE1.out l' rfl)
    have hcap := HI2.out.has.rs.le

    rw [← HN.out] at hcap
    have hkc : (n1 : Int) ≤ (l.rs.cap : Int) := by have := HNL.out; omega
    have hkn2 : (n1 : Int) ≤ (n : Int) := by have := HNL.out; omega
    have hu4 := (Upd.refl [] w2).alloc (.cells #[] 59)
    have HR1 : Hid (Row LR (w2.alloc (.cells #[] 59)) (some ⟨b, off, none⟩) rs0) := by
      have := (HI2.out.has.rs.stay hu4).row.part n1
      rw [HTK.out, HBO.out] at this
      exact this
    have hlt0 : H < w2.heap.size := lt_block HI2.out.box
    have hne0 : ¬ H = w2.heap.size := by omega
    have HU4 := Lib.hid hu4
    clear hu4
    go_upto_region 4 with (fail)
    have hq := HU4.out.at HI2.out.cells (by simp)
    rw [← HN.out, HBO.out] at hq
    obtain ⟨z0, z1, z2, z3, z4, z5⟩ := free6 hq
    clear hq
    go_upto_region 5 with (at_builtin; refine app_row tyR rfl _ _ rfl w2.heap.size (.slice (some ⟨w2.heap.size, 0, none⟩) 0 0) 0 [] rfl (World.ownsRow_made w2 #[] 0 (Nat.le_refl _) (Nat.zero_le _) (by simp)) (some ⟨b, off, none⟩) n1 l.rs.cap rs0 (by first | rfl | simp) HN1.out HR1.out (fun e => by simp at e) (by omega) (by simp) ?_; intro v1 w3 hown hgrow; have HU3 : Hid (Upd [] w2 w3) := HU4.out.grown hgrow (fun k hk hl => by simp [Value.ownBlock] at hk; omega); have hq3 := HU3.out.at HI2.out.cells (by simp); obtain ⟨z0, z1, z2, z3, z4, z5⟩ := free6 hq3; obtain ⟨y0, y1, y2, y3, y4, y5⟩ := cells6 hq3; obtain ⟨hnn, ad2, cap2, rfl, hS2, hge2⟩ := hasS_row hown; clear hq3 hown hgrow hnn)
    rw [List.nil_append] at hS2
    have hI3 := HI2.out.rs HU3.out hS2 (fun x hx => (HI2.out.has.rg x (HSUB.out x hx)).stay HU3.out) (fun b hb ha => ⟨avS_ge (n := w2.heap.size) hge2 (Nat.lt_of_lt_of_le hb HI2.out.upd.size), fun x hx => ha.rg x (HSUB.out x hx)⟩)
    simp only at hI3
    rw [← HN1.out] at hI3
    have HI3 := Lib.hid hI3
    clear c0 c1 c2 c3 c4 c5 y0 y1 y2 y3 y4 y5 z0 z1 z2 z3 z4 z5 hS2 hge2 hI3 hlt0 hne0 hkc hkn2 hcap
    with_reducible generalize w3.setCell ⟨H, 2, none⟩ (.slice ad2 n1 cap2) = w4 at HI3 ⊢
    have q2 := HI3.out.other (R := H + 1) (by omega) HB2.out
    have HQ2 := Lib.hid q2
    obtain ⟨c0, c1, c2, c3, c4, c5⟩ := cells6 HI3.out.cells
    obtain ⟨y0, y1, y2, y3, y4, y5⟩ := cells6 q2
    obtain ⟨z0, z1, z2, z3, z4, z5⟩ := free6 q2
    clear q2
    simp only at c0 c1 c2 c3 c4 c5
    rw [← HN1.out] at c2
    go_wp2_with fail
    have p2 := stored6 HQ2.out (.int .i64 l.ts) (.slice l.top.ad l.top.l.length l.top.cap) (.slice ad2 n1 cap2) (.slice l.bot.ad l.bot.l.length l.bot.cap) (.int .i64 l.mv) (.int .i64 l.cp)
    have hU5 := upd_set6 w4 (H + 1) (.int .i64 l.ts) (.slice l.top.ad l.top.l.length l.top.cap) (.slice ad2 n1 cap2) (.slice l.bot.ad l.bot.l.length l.bot.cap) (.int .i64 l.mv) (.int .i64 l.cp)
    with_reducible generalize (((((w4.setCell ⟨H + 1, 0, none⟩ (.int .i64 l.ts)).setCell ⟨H + 1, 1, none⟩ (.slice l.top.ad l.top.l.length l.top.cap)).setCell ⟨H + 1, 2, none⟩ (.slice ad2 n1 cap2)).setCell ⟨H + 1, 3, none⟩ (.slice l.bot.ad l.bot.l.length l.bot.cap)).setCell ⟨H + 1, 4, none⟩ (.int .i64 l.mv)).setCell ⟨H + 1, 5, none⟩ (.int .i64 l.cp) = wf at p2 hU5 ⊢
    obtain ⟨r0, r1, r2, r3, r4, r5⟩ := cells6 p2
    have hfin : GivesRD l gl w (.returned (.agg #[.int .i64 l.ts, .slice l.top.ad l.top.l.length l.top.cap, .slice ad2 n1 cap2, .slice l.bot.ad l.bot.l.length l.bot.cap, .int .i64 l.mv, .int .i64 l.cp])) wf := ⟨⟨l.ts, l.top, ⟨rs0, ad2, cap2⟩, l.bot, l.mv, l.cp⟩, by simp only [encD, cellsD, HN1.out], HI3.out.fin (by have := HH.out; omega) (by have := HWS.out; omega) hU5 (HE1K.out _ rfl)⟩
    exact bodyPost_ret (v := .agg #[.int .i64 l.ts, .slice l.top.ad l.top.l.length l.top.cap, .slice ad2 n1 cap2, .slice l.bot.ad l.bot.l.length l.bot.cap, .int .i64 l.mv, .int .i64 l.cp]) (by simp [results, Tryz.results62, go_sem, r0, r1, r2, r3, r4, r5]) rfl hfin
  | true =>
    obtain ⟨hf0, hf1, hf2, hf3, hf4, hf5⟩ := HFA.out rfl
    have HPI : Hid (s.l.length ≤ 100000) := by show s.l.length ≤ _; rw [HSEQ.out]; exact Nat.le_trans hf1 HRN.out
    have hwd : r'.wd = wd := by have e1 : r'.rg.wd = pr.wd := by rw [HRE.out]
                                have e2 : r'.wd = pr.wd := e1
                                rw [e2]; exact hf4
    have HWD := Lib.hid hwd
    have HPF : Hid (0 ≤ pf ∧ pf ≤ 1152921504606846976) := ⟨hf2, hf3⟩
    have hrr := HRU.out r' w2 HI2.out.has.rs
    rw [HBO.out] at hrr
    unfold encR at hrr
    have HRR := Lib.hid hrr
    obtain ⟨y0, y1, y2, y3⟩ := cells4 HQB.out
    clear hf0 hf1 hf2 hf3 hf4 hf5 hwd hrr
    go_upto_region 7 with (go_at_call 31; (with_reducible refine HRR.out.mono ?_); rintro e w6 ⟨g, cap, rfl, hs, hge, hu⟩; have hq := hu.at HI2.out.cells (by simp); obtain ⟨z0, z1, z2, z3, z4, z5⟩ := free6 hq; obtain ⟨k0, k1, k2, k3, k4, k5⟩ := cells6 hq; clear hq)
    rw [HSE.out] at hs
    have hI6 := HI2.out.rs hu hs (fun x hx => by
      rcases List.mem_append.1 hx with hx | hx
      · exact (HI2.out.has.rg x (HSUB.out x hx)).stay hu
      · rw [List.mem_singleton.1 hx]; exact HR2.out.stay hu) (fun b hb ha => ⟨avS_ge (n := w2.heap.size) (fun a ea => by obtain rfl := Option.some.inj ea; exact hge) (Nat.lt_of_lt_of_le hb HI2.out.upd.size), fun x hx => by
      rcases List.mem_append.1 hx with hx | hx
      · exact ha.rg x (HSUB.out x hx)
      · rw [List.mem_singleton.1 hx]; exact HRAV.out b hb ha⟩)
    have hln : (rs0 ++ [r']).length = n := by have := HN1.out; have := HNL.out; simp; omega
    simp only [hln] at hI6
    have HLN := Lib.hid hln
    have hQ1 := upd_set1 w6 H 2 (.slice (some ⟨g, 0, none⟩) n cap)
    have hne : Q ≠ H := by have h1 := HQG.out; have h2 := HI2.out.lt; omega
    have hq1 := hQ1.at (hu.at HQB.out (by simp)) (by simp [hne])
    have hsit := HS2.out.stay hu
    have hbH : ∀ b, w.heap.size ≤ b → b < W.heap.size → AvS s b := fun b h1 h2 a ea => by have := HSAV.out b h2 (HI0.out.all b h1); exact this a ea
    have hsit := hsit.keep1 hQ1 (hbH H HI0.out.ge HI0.out.lt)
    have HSI := Lib.hid hsit; have HQ1 := Lib.hid hq1
    have HI6 := Lib.hid hI6
    clear hI6 hs hge hu y0 y1 y2 y3 k0 k1 k2 k3 k4 k5 z0 z1 z2 z3 z4 z5 c0 c1 c2 c3 c4 c5 hln hQ1 hq1 hne hsit hbH
    with_reducible generalize w6.setCell ⟨H, 2, none⟩ (.slice (some ⟨g, 0, none⟩) n cap) = w7 at HI6 HSI HQ1 ⊢
    obtain ⟨c0, c1, c2, c3, c4, c5⟩ := cells6 HI6.out.cells
    obtain ⟨z0, z1, z2, z3, z4, z5⟩ := free6 HI6.out.cells
    simp only at c0 c1 c2 c3 c4 c5
    obtain ⟨m, hm⟩ : ∃ m, m = s.l.length := ⟨_, rfl⟩
    have HM := Lib.hid hm
    have hpi := HPI.out
    rw [← hm] at hpi ⊢
    have hw1 : IntKind.i64.wrap (l.mv + (m : Int)) = l.mv + (m : Int) := by rw [IntKind.wrap_i64]; omega
    clear hm
    go_upto_region 8 with (fail)
    have hne : Q ≠ H := by have h1 := HQG.out; have h2 := HI2.out.lt; omega
    have hU4 := upd_set1 w7 H 4 (.int .i64 (l.mv + (m : Int)))
    have HQ2 := Lib.hid (hU4.at HQ1.out (by simp [hne]))
    have HSJ := Lib.hid (HSI.out.keep1 hU4 (fun hn a ea => HSAV.out H HI0.out.lt (HI0.out.all H HI0.out.ge) hn a ea))
    have HI7 := Lib.hid (HI6.out.mv (l.mv + (m : Int)))
    clear c0 c1 c2 c3 c4 c5 z0 z1 z2 z3 z4 z5 hw1 hne hU4
    with_reducible generalize w7.setCell ⟨H, 4, none⟩ (.int .i64 (l.mv + (m : Int))) = w8 at HI7 HQ2 HSJ ⊢
    simp only at HI7
    obtain ⟨c0, c1, c2, c3, c4, c5⟩ := cells6 HI7.out.cells
    obtain ⟨y0, y1, y2, y3⟩ := cells4 HQ2.out
    rw [HWD.out] at y1
    simp only [HLN.out] at c0 c1 c2 c3 c4 c5
    have HSEL : Hid (pi.length = m) := by show pi.length = m; rw [← HSEQ.out, HM.out]
    rw [HSEL.out] at HE2 HE3
    obtain ⟨cnd, hcnd⟩ : ∃ c, c = decide (4 < m ∧ n < 4 ∧ 1 < wd) := ⟨_, rfl⟩
    have HCND := Lib.hid hcnd
    clear hcnd
    go_cut [58] (fun v wx => v = .bool cnd ∧ w8 = wx)
    case first =>
      by_cases q1 : 4 < m
      · have d1 : decide (4 < (m : Int)) = true := by simp; omega
        by_cases q2 : n < 4
        · have d2 : decide ((n : Int) < 4) = true := by simp; omega
          by_cases q3 : 1 < wd
          · have d3 : decide (1 < wd) = true := by simpa using q3
            have HX : Hid (true = cnd) := by show _ = _; rw [HCND.out]; simp [q1, q2, q3]
            go_wp2_with fail
            go_meet
            case rel => exact ⟨by rw [← HX.out], rfl⟩
          · have d3 : decide (1 < wd) = false := by simpa using q3
            have HX : Hid (false = cnd) := by show _ = _; rw [HCND.out]; simp [q3]
            go_wp2_with fail
            go_meet
            case rel => exact ⟨by rw [← HX.out], rfl⟩
        · have d2 : decide ((n : Int) < 4) = false := by simp; omega
          have HX : Hid (false = cnd) := by show _ = _; rw [HCND.out]; simp [q2]
          go_wp2_with fail
          go_meet
          case rel => exact ⟨by rw [← HX.out], rfl⟩
      · have d1 : decide (4 < (m : Int)) = false := by simp; omega
        have HX : Hid (false = cnd) := by show _ = _; rw [HCND.out]; simp [q1]
        go_wp2_with fail
        go_meet
        case rel => exact ⟨by rw [← HX.out], rfl⟩
    case rest =>
    obtain ⟨rfl, hww⟩ := hcut
    subst hww
    cases cnd with
    | true =>
      have HE2K := Lib.hid (fun l' => HE2.out l' (by first | rfl | trivial) (by have := HCND.out; simpa using this.symm))
      have hsp := fun V (hu : Upd [] w8 V) => RSpread_has ⟨l.ts, l.top, ⟨rs0 ++ [r'], some ⟨g, 0, none⟩, cap⟩, l.bot, l.mv + (m : Int), l.cp⟩ pf ((wd + 7) / 8) s V (HI7.out.has.stay hu) (HSJ.out.stay hu) HPI.out (by have := HLN.out; simp only; omega) HPF.out.1 HPF.out.2 (by have := HGW.out; omega) (by have := HGW.out; omega)
      have hgw := HGW.out
      have HNR := Lib.hid (fun W => RNarrow_in wd (by omega) W)
      unfold encD cellsD at hsp
      simp only [HLN.out] at hsp
      rw [← HM.out] at hsp
      have q2 := HI7.out.other (R := H + 1) (by omega) HB2.out
      have HQR := Lib.hid q2
      generalize (wd + 7) / 8 = wn at *
      have HSPK := Lib.hid hsp
      clear hsp q2 hgw
      have hne1 : Q ≠ H + 1 := by have h1 := HQG.out; have h2 := HWS.out; omega
      have HKP := Lib.hid (fun V (hu : Upd [H + 1] w8 V) => (⟨hu.cell c0 (by simp), hu.cell c1 (by simp), hu.cell c2 (by simp), hu.cell c3 (by simp), hu.cell c4 (by simp), hu.cell c5 (by simp), hu.cell y1 (by simp [hne1])⟩ : V.cell? ⟨H, 0, none⟩ = some (.int .i64 l.ts) ∧ V.cell? ⟨H, 1, none⟩ = some (.slice l.top.ad l.top.l.length l.top.cap) ∧ V.cell? ⟨H, 2, none⟩ = some (.slice (some ⟨g, 0, none⟩) n cap) ∧ V.cell? ⟨H, 3, none⟩ = some (.slice l.bot.ad l.bot.l.length l.bot.cap) ∧ V.cell? ⟨H, 4, none⟩ = some (.int .i64 (l.mv + (m : Int))) ∧ V.cell? ⟨H, 5, none⟩ = some (.int .i64 l.cp) ∧ V.cell? ⟨Q, 1, none⟩ = some (.int .i64 wd)))
      go_upto_region 9 with (fail)
      go_region_held3 (fun wz => wz.cell? ⟨H, 0, none⟩ = some (.int .i64 l.ts) ∧ wz.cell? ⟨H, 1, none⟩ = some (.slice l.top.ad l.top.l.length l.top.cap) ∧ wz.cell? ⟨H, 2, none⟩ = some (.slice (some ⟨g, 0, none⟩) n cap) ∧ wz.cell? ⟨H, 3, none⟩ = some (.slice l.bot.ad l.bot.l.length l.bot.cap) ∧ wz.cell? ⟨H, 4, none⟩ = some (.int .i64 (l.mv + (m : Int))) ∧ wz.cell? ⟨H, 5, none⟩ = some (.int .i64 l.cp) ∧ wz.cell? ⟨Q, 1, none⟩ = some (.int .i64 wd)) (first | (with_reducible exact ⟨c0, c1, c2, c3, c4, c5, y1⟩) | (refine HKP.out _ ?_; (repeat (first | (with_reducible exact Upd.refl [H + 1] _) | (with_reducible refine Upd.drew ?_) | refine Upd.setCell ?_ (by simp) _ | refine Upd.trans (T := []) ?_ (by assumption) (by simp))); done)) (first
        | (go_at_call 76; (with_reducible refine (HNR.out _).mono ?_); rintro e w' ⟨rfl, hu1⟩)
        | (go_at_call 73; (with_reducible refine (HSPK.out _ ?_).mono ?_); (repeat (first | exact Upd.refl [] _ | refine Upd.drew ?_ | refine Upd.alloc ?_ _ | refine Upd.trans (T := []) ?_ (by assumption) (by simp))); rintro e w9 ⟨l2, rfl, hN⟩; have hN3 := NxtD.enter (w0 := w8) (by repeat (first | exact Upd.refl [] _ | refine Upd.drew ?_ | refine Upd.trans (T := []) ?_ (by assumption) (by simp))) hN; have hu6 := hN3.upd; have hq := hu6.at HQR.out (by simp); obtain ⟨z0, z1, z2, z3, z4, z5⟩ := free6 hq; obtain ⟨k0, k1, k2, k3, k4, k5⟩ := cells6 hq; have HQF := Lib.hid hq; unfold encD cellsD))
      have hN4 : NxtD w8 ⟨l.ts, l.top, ⟨rs0 ++ [r'], some ⟨g, 0, none⟩, cap⟩, l.bot, l.mv + (m : Int), l.cp⟩ gl w9 l2 := ⟨HE2K.out l2 (by rw [hN3.eq]; simp only [LdR.ld, List.map_append, List.map_cons, List.map_nil, HRE.out, HSEQ.out]), hN3.has, hN3.av, hN3.upd⟩
      have HN4 := Lib.hid hN4
      clear hN hN3 hu6 hq hN4 z0 z1 z2 z3 z4 z5 y0 y1 y2 y3 k0 k1 k2 k3 k4 k5 c0 c1 c2 c3 c4 c5
      have p2 := stored6 HQF.out (.int .i64 l2.ts) (.slice l2.top.ad l2.top.l.length l2.top.cap) (.slice l2.rs.ad l2.rs.l.length l2.rs.cap) (.slice l2.bot.ad l2.bot.l.length l2.bot.cap) (.int .i64 l2.mv) (.int .i64 l2.cp)
      have hU5 := upd_set6 w9 (H + 1) (.int .i64 l2.ts) (.slice l2.top.ad l2.top.l.length l2.top.cap) (.slice l2.rs.ad l2.rs.l.length l2.rs.cap) (.slice l2.bot.ad l2.bot.l.length l2.bot.cap) (.int .i64 l2.mv) (.int .i64 l2.cp)
      with_reducible generalize (((((w9.setCell ⟨H + 1, 0, none⟩ (.int .i64 l2.ts)).setCell ⟨H + 1, 1, none⟩ (.slice l2.top.ad l2.top.l.length l2.top.cap)).setCell ⟨H + 1, 2, none⟩ (.slice l2.rs.ad l2.rs.l.length l2.rs.cap)).setCell ⟨H + 1, 3, none⟩ (.slice l2.bot.ad l2.bot.l.length l2.bot.cap)).setCell ⟨H + 1, 4, none⟩ (.int .i64 l2.mv)).setCell ⟨H + 1, 5, none⟩ (.int .i64 l2.cp) = wf at p2 hU5 ⊢
      go_wp2_with fail
      obtain ⟨r0, r1, r2, r3, r4, r5⟩ := cells6 p2
      have hfin : GivesRD l gl w (.returned (encD l2)) wf := ⟨l2, rfl, HI7.out.next HN4.out (by have := HH.out; omega) (by have := HWS.out; omega) hU5⟩
      exact bodyPost_ret (v := encD l2) (by simp [encD, cellsD, results, Tryz.results62, go_sem, r0, r1, r2, r3, r4, r5]) rfl hfin
    | false =>
      have HE3K := Lib.hid (fun l' => HE3.out l' (by first | rfl | trivial) (by have := HCND.out; simpa using this.symm))
      have hso := HSO.out s w8 HSJ.out HPI.out
      rw [← HM.out] at hso
      have HSOK := Lib.hid hso
      clear hso
      go_upto_region 11 with (go_at_call 72; (with_reducible refine HSOK.out.mono ?_); rintro e w6 ⟨s', rfl, hM⟩; have hq := hM.upd.at HI7.out.cells (by simp); obtain ⟨z0, z1, z2, z3, z4, z5⟩ := free6 hq; obtain ⟨k0, k1, k2, k3, k4, k5⟩ := cells6 hq; clear hq)
      have hI8 := HI7.out.bot hM.upd hM.has (fun b hb _ => avS_ge (n := w8.heap.size) hM.ge (Nat.lt_of_lt_of_le hb HI7.out.upd.size))
      have hme := hM.eq
      simp only at hI8 hme
      have HI8 := Lib.hid hI8
      have HME := Lib.hid hme
      clear hI8 hme hM k0 k1 k2 k3 k4 k5 z0 z1 z2 z3 z4 z5 y0 y1 y2 y3 c0 c1 c2 c3 c4 c5
      with_reducible generalize w6.setCell ⟨H, 3, none⟩ (.slice s'.ad s'.l.length s'.cap) = w9 at HI8 ⊢
      have q2 := HI8.out.other (R := H + 1) (by omega) HB2.out
      have HQR := Lib.hid q2
      obtain ⟨c0, c1, c2, c3, c4, c5⟩ := cells6 HI8.out.cells
      obtain ⟨y0, y1, y2, y3, y4, y5⟩ := cells6 q2
      obtain ⟨z0, z1, z2, z3, z4, z5⟩ := free6 q2
      clear q2
      simp only [HLN.out] at c0 c1 c2 c3 c4 c5
      go_wp2_with fail
      have p2 := stored6 HQR.out (.int .i64 l.ts) (.slice l.top.ad l.top.l.length l.top.cap) (.slice (some ⟨g, 0, none⟩) n cap) (.slice s'.ad s'.l.length s'.cap) (.int .i64 (l.mv + ((m : Nat) : Int))) (.int .i64 l.cp)
      have hU5 := upd_set6 w9 (H + 1) (.int .i64 l.ts) (.slice l.top.ad l.top.l.length l.top.cap) (.slice (some ⟨g, 0, none⟩) n cap) (.slice s'.ad s'.l.length s'.cap) (.int .i64 (l.mv + ((m : Nat) : Int))) (.int .i64 l.cp)
      with_reducible generalize (((((w9.setCell ⟨H + 1, 0, none⟩ (.int .i64 l.ts)).setCell ⟨H + 1, 1, none⟩ (.slice l.top.ad l.top.l.length l.top.cap)).setCell ⟨H + 1, 2, none⟩ (.slice (some ⟨g, 0, none⟩) n cap)).setCell ⟨H + 1, 3, none⟩ (.slice s'.ad s'.l.length s'.cap)).setCell ⟨H + 1, 4, none⟩ (.int .i64 (l.mv + ((m : Nat) : Int)))).setCell ⟨H + 1, 5, none⟩ (.int .i64 l.cp) = wf at p2 hU5 ⊢
      obtain ⟨r0, r1, r2, r3, r4, r5⟩ := cells6 p2
      have hfin : GivesRD l gl w (.returned (.agg #[.int .i64 l.ts, .slice l.top.ad l.top.l.length l.top.cap, .slice (some ⟨g, 0, none⟩) n cap, .slice s'.ad s'.l.length s'.cap, .int .i64 (l.mv + ((m : Nat) : Int)), .int .i64 l.cp])) wf := ⟨⟨l.ts, l.top, ⟨rs0 ++ [r'], some ⟨g, 0, none⟩, cap⟩, s', l.mv + ((m : Nat) : Int), l.cp⟩, by simp only [encD, cellsD, HLN.out], HI8.out.fin (by have := HH.out; omega) (by have := HWS.out; omega) hU5 (HE3K.out _ (by simp only [LdR.ld, List.map_append, List.map_cons, List.map_nil, HRE.out, HSEQ.out, HME.out]))⟩
      exact bodyPost_ret (v := .agg #[.int .i64 l.ts, .slice l.top.ad l.top.l.length l.top.cap, .slice (some ⟨g, 0, none⟩) n cap, .slice s'.ad s'.l.length s'.cap, .int .i64 (l.mv + ((m : Nat) : Int)), .int .i64 l.cp]) (by simp [results, Tryz.results62, go_sem, r0, r1, r2, r3, r4, r5]) rfl hfin
end Go.Proofs.YtpabapjodcafkaaGreat
