/- Contract: the reference's Pop. -/
/- Contract: slices.Insert over items: in place and into a new row. -/
import Derived.Test.YtneodiemgemhfaaGreatPV
import Derived.Test.YtneodiemgemhfaaGreatPW
import Derived.Test.YtneodiemgemhfaaGreatPH
namespace Go.Proofs.YtneodiemgemhfaaGreat
open Go.RowKit Go.Lib

set_option maxRecDepth 100000 in
set_option maxHeartbeats 8000000 in
theorem RPop_has (l : LdR) (w : World) (h : HasD w l) (hg : GoodL l.ld) (hlen : lenD l.ld ≤ 100000) (hmv : l.mv ≤ 100000000000) : Calls Tryz.prog 15 #[encD l] w (GivesRP l (popL l.ld) w) := by
  have HPE := Lib.hid (fun W (hu : Upd [] w W) => RPeek_has l W (h.stay hu) hg hlen hmv)
  have hcase : ((refillL l.ld).bot = [] ∧ peekL l.ld = (refillL l.ld, zeroI, false) ∧ popL l.ld = (refillL l.ld, zeroI, false)) ∨ ∃ x xs, (refillL l.ld).bot = x :: xs ∧ peekL l.ld = (refillL l.ld, x, true) ∧ popL l.ld = ({ refillL l.ld with bot := xs }, x, true) := by
    rcases hb : (refillL l.ld).bot with _ | ⟨x, xs⟩
    · exact .inl ⟨rfl, (peek_no hb).1, (peek_no hb).2⟩
    · exact .inr ⟨x, xs, rfl, (peek_yes hb).1, (peek_yes hb).2⟩
  obtain ⟨it, ok, gp, hpe, hpo, hbt⟩ : ∃ it ok gp, peekL l.ld = (refillL l.ld, it, ok) ∧ popL l.ld = (gp, it, ok) ∧ ((ok = false ∧ gp = refillL l.ld) ∨ ok = true ∧ ∃ xs, (refillL l.ld).bot = it :: xs ∧ gp = { refillL l.ld with bot := xs }) := by
    rcases hcase with ⟨h1, h2, h3⟩ | ⟨x, xs, h1, h2, h3⟩
    · exact ⟨_, _, _, h2, h3, .inl ⟨rfl, rfl⟩⟩
    · exact ⟨_, _, _, h2, h3, .inr ⟨rfl, xs, h1, rfl⟩⟩
  have hbl : (refillL l.ld).bot.length ≤ 100000 := by
    have hr := refill_ok hg
    have hl := hr.its.length_eq
    rw [← lenD_its, ← lenD_its] at hl
    have : (refillL l.ld).bot.length ≤ lenD (refillL l.ld) := by simp only [lenD]; omega
    omega
  have HBL := Lib.hid hbl
  rw [hpe] at HPE
  rw [hpo]
  have HAVL : Hid (∀ b, w.heap.size ≤ b → AvD l b) := fun b hb => h.avoids hb
  have HLL : Hid (encD l = .agg #[.int .i64 l.ts, .slice l.top.ad l.top.l.length l.top.cap, .slice l.rs.ad l.rs.l.length l.rs.cap, .slice l.bot.ad l.bot.l.length l.bot.cap, .int .i64 l.mv, .int .i64 l.cp]) := rfl
  rw [HLL.out] at HPE ⊢
  generalize refillL l.ld = gl at *
  obtain ⟨i0, i1, i2⟩ := it
  have HBT := Lib.hid hbt
  clear h hg hlen hmv hcase hpe hpo hbt hbl
  go_enter Tryz.func15, Tryz.ntmps15
  go_upto_region 1 with (fail)
  generalize hA : (Obj.cells #[.int .i64 l.ts, .slice l.top.ad l.top.l.length l.top.cap, .slice l.rs.ad l.rs.l.length l.rs.cap, .slice l.bot.ad l.bot.l.length l.bot.cap, .int .i64 l.mv, .int .i64 l.cp] 25 : Obj) = A
  generalize hB : (Obj.cells #[.int .i64 0, .slice none 0 0, .slice none 0 0, .slice none 0 0, .int .i64 0, .int .i64 0] 25 : Obj) = B
  generalize hC : (Obj.cells #[.int .i64 0, .int .i64 0, .int .i64 0] 36 : Obj) = C
  obtain ⟨hu, b0', b1', b2', hsz⟩ := three_boxes w A B C
  generalize ((w.alloc A).alloc B).alloc C = W at *
  generalize hH : w.heap.size = H at *
  rw [← hA] at b0'
  rw [← hB] at b1'
  rw [← hC] at b2'
  have b2' : W.heap[H + 1 + 1]? = _ := b2'
  have HU := Lib.hid hu; have HB1 := Lib.hid b1'; have HB2 := Lib.hid b2'; have HH := Lib.hid hH; have HSZ := Lib.hid hsz
  obtain ⟨c0, c1, c2, c3, c4, c5⟩ := cells6 b0'
  clear hu hA hB hC b0' b1' b2' hH hsz
  go_upto_region 2 with (go_at_call 13; (with_reducible refine (HPE.out _ HU.out).mono ?_); rintro e w1 ⟨l', rfl, hN⟩; unfold encD cellsD aggI; simp only)
  clear c0 c1 c2 c3 c4 c5
  obtain ⟨ha, qm, qt, hsm⟩ := two_boxes w1 (.cells #[.int .i64 l'.ts, .slice l'.top.ad l'.top.l.length l'.top.cap, .slice l'.rs.ad l'.rs.l.length l'.rs.cap, .slice l'.bot.ad l'.bot.l.length l'.bot.cap, .int .i64 l'.mv, .int .i64 l'.cp] 25) (.cells #[.int .i64 i0, .int .i64 i1, .int .i64 i2] 36)
  have HHS := Lib.hid (hN.has.stay ha)
  have HE : Hid (l'.ld = gl) := hN.eq
  have HAV : Hid (∀ b, w.heap.size ≤ b → b < W.heap.size → AvD l' b) := fun b h1 h2 => hN.av b h2 (HAVL.out b (by have := HH.out; omega))
  have HAB : Hid (∀ b, b < w.heap.size → AvD l b → AvD l' b) := fun b h1 h2 => hN.av b (Nat.lt_of_lt_of_le h1 HU.out.size) h2
  have HAM : Hid (AvD l' w1.heap.size) := hN.has.avoids (Nat.le_refl _)
  have hup := (HU.out.thn hN.upd).thn ha
  have hP : W.heap.size ≤ w1.heap.size := hN.upd.size
  have q1 := ha.at (hN.upd.at HB1.out (by simp)) (by simp)
  have q2 := ha.at (hN.upd.at HB2.out (by simp)) (by simp)
  have HUP := Lib.hid hup; have Q1 := Lib.hid q1; have Q2 := Lib.hid q2; have QM := Lib.hid qm; have QT := Lib.hid qt; have HSM := Lib.hid hsm
  clear ha qm qt hup q1 q2 hN hsm
  generalize (w1.alloc (.cells #[.int .i64 l'.ts, .slice l'.top.ad l'.top.l.length l'.top.cap, .slice l'.rs.ad l'.rs.l.length l'.rs.cap, .slice l'.bot.ad l'.bot.l.length l'.bot.cap, .int .i64 l'.mv, .int .i64 l'.cp] 25)).alloc (.cells #[.int .i64 i0, .int .i64 i1, .int .i64 i2] 36) = w3 at *
  generalize w1.heap.size = M at *
  have HPG : Hid (H + 1 + 1 < M) := by have := HSZ.out; show H + 1 + 1 < M; omega
  clear hP
  have HFIN : Hid (∀ (wz : World) (lf : LdR) (gf : Ld), lf.ld = gf → HasD wz lf → Upd [] w wz → (∀ b, w.heap.size ≤ b → b < W.heap.size → AvD lf b) → (∀ b, b < w.heap.size → AvD l b → AvD lf b) → ∀ wf, Upd [H + 1] wz wf → ∀ wg, Upd [H + 1 + 1] wf wg → NxtD w l gf wg lf) := fun wz lf gf he hh hu hav hab wf h1 wg h2 => by
    have e1 := HH.out; have e2 := HSZ.out
    exact ⟨he, (hh.keep1 h1 (hav (H + 1) (by omega) (by omega))).keep1 h2 (hav (H + 1 + 1) (by omega) (by omega)), hab, (hu.new h1 (by omega)).new h2 (by omega)⟩
  cases ok with
  | false =>
    have hgp : gp = gl := by
      rcases HBT.out with ⟨_, h⟩ | ⟨h, _⟩
      · exact h
      · simp at h
    subst hgp
    obtain ⟨c0, c1, c2, c3, c4, c5⟩ := cells6 QM.out
    obtain ⟨k0, k1, k2⟩ := cells3 QT.out
    obtain ⟨y0, y1, y2, y3, y4, y5⟩ := cells6 Q1.out
    obtain ⟨z0, z1, z2, z3, z4, z5⟩ := free6 Q1.out
    obtain ⟨x0, x1, x2⟩ := cells3 Q2.out
    obtain ⟨v0, v1, v2⟩ := free3 Q2.out
    have HKP := Lib.hid (fun V (hu : Upd [H + 1, H + 1 + 1] w3 V) => (⟨hu.cell c0 (by have := HPG.out; simp; omega), hu.cell c1 (by have := HPG.out; simp; omega), hu.cell c2 (by have := HPG.out; simp; omega), hu.cell c3 (by have := HPG.out; simp; omega), hu.cell c4 (by have := HPG.out; simp; omega), hu.cell c5 (by have := HPG.out; simp; omega), hu.cell k0 (by have := HPG.out; simp; omega), hu.cell k1 (by have := HPG.out; simp; omega), hu.cell k2 (by have := HPG.out; simp; omega)⟩ : V.cell? ⟨M, 0, none⟩ = some (.int .i64 l'.ts) ∧ V.cell? ⟨M, 1, none⟩ = some (.slice l'.top.ad l'.top.l.length l'.top.cap) ∧ V.cell? ⟨M, 2, none⟩ = some (.slice l'.rs.ad l'.rs.l.length l'.rs.cap) ∧ V.cell? ⟨M, 3, none⟩ = some (.slice l'.bot.ad l'.bot.l.length l'.bot.cap) ∧ V.cell? ⟨M, 4, none⟩ = some (.int .i64 l'.mv) ∧ V.cell? ⟨M, 5, none⟩ = some (.int .i64 l'.cp) ∧ V.cell? ⟨M + 1, 0, none⟩ = some (.int .i64 i0) ∧ V.cell? ⟨M + 1, 1, none⟩ = some (.int .i64 i1) ∧ V.cell? ⟨M + 1, 2, none⟩ = some (.int .i64 i2)))
    go_upto_region 4 with (fail)
    go_region_held3 (fun V => V.cell? ⟨M, 0, none⟩ = some (.int .i64 l'.ts) ∧ V.cell? ⟨M, 1, none⟩ = some (.slice l'.top.ad l'.top.l.length l'.top.cap) ∧ V.cell? ⟨M, 2, none⟩ = some (.slice l'.rs.ad l'.rs.l.length l'.rs.cap) ∧ V.cell? ⟨M, 3, none⟩ = some (.slice l'.bot.ad l'.bot.l.length l'.bot.cap) ∧ V.cell? ⟨M, 4, none⟩ = some (.int .i64 l'.mv) ∧ V.cell? ⟨M, 5, none⟩ = some (.int .i64 l'.cp) ∧ V.cell? ⟨M + 1, 0, none⟩ = some (.int .i64 i0) ∧ V.cell? ⟨M + 1, 1, none⟩ = some (.int .i64 i1) ∧ V.cell? ⟨M + 1, 2, none⟩ = some (.int .i64 i2)) (first | (with_reducible exact ⟨c0, c1, c2, c3, c4, c5, k0, k1, k2⟩) | (refine HKP.out _ ?_; (repeat (first | (with_reducible exact Upd.refl [H + 1, H + 1 + 1] _) | (with_reducible refine Upd.drew ?_) | refine Upd.setCell ?_ (by simp) _)); done)) (first | fail)
    have g1 := stored6 Q1.out (.int .i64 l'.ts) (.slice l'.top.ad l'.top.l.length l'.top.cap) (.slice l'.rs.ad l'.rs.l.length l'.rs.cap) (.slice l'.bot.ad l'.bot.l.length l'.bot.cap) (.int .i64 l'.mv) (.int .i64 l'.cp)
    have u1 := upd_set6 w3 (H + 1) (.int .i64 l'.ts) (.slice l'.top.ad l'.top.l.length l'.top.cap) (.slice l'.rs.ad l'.rs.l.length l'.rs.cap) (.slice l'.bot.ad l'.bot.l.length l'.bot.cap) (.int .i64 l'.mv) (.int .i64 l'.cp)
    have q2 := u1.at Q2.out (by simp only [List.mem_singleton]; omega)
    with_reducible generalize (((((w3.setCell ⟨H + 1, 0, none⟩ (.int .i64 l'.ts)).setCell ⟨H + 1, 1, none⟩ (.slice l'.top.ad l'.top.l.length l'.top.cap)).setCell ⟨H + 1, 2, none⟩ (.slice l'.rs.ad l'.rs.l.length l'.rs.cap)).setCell ⟨H + 1, 3, none⟩ (.slice l'.bot.ad l'.bot.l.length l'.bot.cap)).setCell ⟨H + 1, 4, none⟩ (.int .i64 l'.mv)).setCell ⟨H + 1, 5, none⟩ (.int .i64 l'.cp) = w7 at g1 u1 q2 ⊢
    have g2 := stored3 q2 (.int .i64 i0) (.int .i64 i1) (.int .i64 i2)
    have u2 := upd_set3 w7 (H + 1 + 1) (.int .i64 i0) (.int .i64 i1) (.int .i64 i2)
    have g1 := u2.at g1 (by simp only [List.mem_singleton]; omega)
    with_reducible generalize ((w7.setCell ⟨H + 1 + 1, 0, none⟩ (.int .i64 i0)).setCell ⟨H + 1 + 1, 1, none⟩ (.int .i64 i1)).setCell ⟨H + 1 + 1, 2, none⟩ (.int .i64 i2) = w8 at g1 g2 u2 ⊢
    have g1 : w8.drew.heap[H + 1]? = _ := g1
    have g2 : w8.drew.heap[H + 1 + 1]? = _ := g2
    have u2 := u2.drew
    generalize w8.drew = w9 at g1 g2 u2 ⊢
    clear c0 c1 c2 c3 c4 c5 k0 k1 k2 x0 x1 x2 y0 y1 y2 y3 y4 y5 z0 z1 z2 z3 z4 z5 v0 v1 v2
    go_wp2_with fail
    obtain ⟨r0, r1, r2, r3, r4, r5⟩ := cells6 g1
    obtain ⟨s0, s1, s2⟩ := cells3 g2
    have hfin : GivesRP l (gp, ⟨i0, i1, i2⟩, false) w (.returned (.tuple #[.agg #[.int .i64 l'.ts, .slice l'.top.ad l'.top.l.length l'.top.cap, .slice l'.rs.ad l'.rs.l.length l'.rs.cap, .slice l'.bot.ad l'.bot.l.length l'.bot.cap, .int .i64 l'.mv, .int .i64 l'.cp], .agg #[.int .i64 i0, .int .i64 i1, .int .i64 i2], .bool false])) w9 := ⟨l', rfl, HFIN.out w3 l' gp HE.out HHS.out HUP.out HAV.out HAB.out w7 u1 w9 u2⟩
    exact bodyPost_ret (v := .tuple #[.agg #[.int .i64 l'.ts, .slice l'.top.ad l'.top.l.length l'.top.cap, .slice l'.rs.ad l'.rs.l.length l'.rs.cap, .slice l'.bot.ad l'.bot.l.length l'.bot.cap, .int .i64 l'.mv, .int .i64 l'.cp], .agg #[.int .i64 i0, .int .i64 i1, .int .i64 i2], .bool false]) (by simp [results, Tryz.results15, go_sem, r0, r1, r2, r3, r4, r5, s0, s1, s2]) rfl hfin
  | true =>
    obtain ⟨xs, hb, hg⟩ : ∃ xs, gl.bot = ⟨i0, i1, i2⟩ :: xs ∧ gp = { gl with bot := xs } := by
      rcases HBT.out with ⟨h, _⟩ | ⟨_, h⟩
      · simp at h
      · exact h
    have hlb : l'.bot.l = ⟨i0, i1, i2⟩ :: xs := (congrArg Ld.bot HE.out : l'.ld.bot = gl.bot).trans hb
    obtain ⟨b, off, e, hrw⟩ := HHS.out.bot.row 0 (by rw [hlb]; simp)
    have hle := HHS.out.bot.le
    have hnb : 1 ≤ l'.bot.l.length := by rw [hlb]; simp
    have HXL : Hid (l'.bot.l.length - 1 = xs.length) := by rw [hlb]; rfl
    have hbot : HasS LI w3 ⟨⟨i0, i1, i2⟩ :: xs, some ⟨b, off, none⟩, l'.bot.cap⟩ := by
      have h1 : HasS LI w3 ⟨l'.bot.l, l'.bot.ad, l'.bot.cap⟩ := HHS.out.bot
      rw [hlb, e] at h1
      exact h1
    have HDR := Lib.hid (drop_has hbot)
    have HXN : Hid (xs.length ≤ 100000) := by have := HBL.out; rw [hb] at this; simp at this; show xs.length ≤ 100000; omega
    -- the queue with the new row
    have HLG : Hid (∀ (w4 wz : World) (s : SlR It), Upd [] w3 w4 → Upd [M] w4 wz → HasS LI w4 s → s.l = xs → (∀ a, s.ad = some a → w3.heap.size ≤ a.block) → (⟨l'.ts, l'.top, l'.rs, s, l'.mv, l'.cp⟩ : LdR).ld = gp ∧ HasD wz ⟨l'.ts, l'.top, l'.rs, s, l'.mv, l'.cp⟩ ∧ Upd [] w wz ∧ (∀ x, w.heap.size ≤ x → x < W.heap.size → AvD ⟨l'.ts, l'.top, l'.rs, s, l'.mv, l'.cp⟩ x) ∧ ∀ x, x < w.heap.size → AvD l x → AvD ⟨l'.ts, l'.top, l'.rs, s, l'.mv, l'.cp⟩ x) := fun w4 wz s hu hz hs hsl hge => by
      have e1 := HH.out; have e2 := HSZ.out; have e3 := HPG.out; have e4 := HSM.out
      have hMs : AvS s M := avS_ge (n := w3.heap.size) hge (by omega)
      have hsx : ∀ x, x < W.heap.size → AvS s x := fun x hx => avS_ge (n := w3.heap.size) hge (by omega)
      have hH4 := HHS.out.stay hu
      have hAM := HAM.out
      refine ⟨?_, HasD.keep1 ⟨hH4.top, hH4.rs, hH4.rg, hs⟩ hz ⟨hAM.top, hAM.rs, hAM.rg, hMs⟩, (HUP.out.thn hu).new hz (by omega), fun x h1 h2 => ?_, fun x h1 h2 => ?_⟩
      · have eg : l'.ld = gl := HE.out
        rw [hg, ← eg, ← hsl]
        rfl
      · have h0 := HAV.out x h1 h2
        exact ⟨h0.top, h0.rs, h0.rg, hsx x h2⟩
      · have h0 := HAB.out x h1 h2
        exact ⟨h0.top, h0.rs, h0.rg, hsx x (by have := HU.out.size; omega)⟩
    have HE' := Lib.hid e
    have hz1 : (1 : Int) ≤ (l'.bot.l.length : Int) := by omega
    clear hrw e hb hg hlb hbot HE
    have hu4 := (Upd.refl [] w3).alloc (.cells #[] 36)
    have HU4 := Lib.hid hu4
    have hltm : M < w3.heap.size := lt_block QM.out
    have hnem : ¬ M = w3.heap.size := by omega
    obtain ⟨c0, c1, c2, c3, c4, c5⟩ := cells6 QM.out
    rw [HE'.out] at c3
    clear hu4 c0 c1 c2 c4 c5
    go_upto_if 14 with (fail)
    go_cut [5] (fun v wx => v = .pointer (some ⟨M, 0, none⟩) ∧ ∃ (s : SlR It) (w4 : World), Hid (s.l = xs) ∧ Hid (HasS LI w4 s) ∧ Hid (Upd [] w3 w4) ∧ Hid (∀ a, s.ad = some a → w3.heap.size ≤ a.block) ∧ wx = w4.setCell ⟨M, 3, none⟩ (.slice s.ad s.l.length s.cap))
    case first =>
      by_cases hc : 1 < l'.bot.cap
      · have HR := HDR.out
        rw [if_pos hc] at HR
        have HRW := Lib.hid (HR.row.stay HU4.out)
        simp only at HRW
        go_wp2_with (at_builtin; refine app_row tyI rfl _ _ rfl w3.heap.size (.slice (some ⟨w3.heap.size, 0, none⟩) 0 0) 0 [] rfl (World.ownsRow_made w3 #[] 0 (Nat.le_refl _) (Nat.zero_le _) (by simp)) (some ⟨b, off + 3, none⟩) (l'.bot.l.length - 1) (l'.bot.cap - 1) xs (by first | rfl | simp) HXL.out HRW.out (fun e => by simp at e) (by have := HXN.out; have := HXL.out; omega) (by simp) ?_; intro v1 w4 hown hgrow; have HU3 : Hid (Upd [] w3 w4) := HU4.out.grown hgrow (fun k hk hl => by simp [Value.ownBlock] at hk; omega); have hq3 := HU3.out.at QM.out (by simp); obtain ⟨z0, z1, z2, z3, z4, z5⟩ := free6 hq3; obtain ⟨y0, y1, y2, y3, y4, y5⟩ := cells6 hq3; obtain ⟨hnn, ad2, cap2, rfl, hS2, hge2⟩ := hasS_row hown; clear hq3 hown hgrow hnn)
        rw [List.nil_append] at hS2
        go_meet
        case rel => exact ⟨rfl, ⟨xs, ad2, cap2⟩, w4, rfl, hS2, HU3, hge2, by simp [HXL.out]⟩
      · have HR := HDR.out
        rw [if_neg hc] at HR
        have hc1 : l'.bot.cap = 1 := by omega
        have hn1 : l'.bot.l.length = 1 := by omega
        have hx0 : xs = [] := List.eq_nil_of_length_eq_zero (by have := HXL.out; omega)
        subst hx0
        rw [hc1, hn1] at c3
        clear hc hc1 hn1 hle hnb hz1
        go_wp2_with (at_builtin; refine app_row tyI rfl _ _ rfl w3.heap.size (.slice (some ⟨w3.heap.size, 0, none⟩) 0 0) 0 [] rfl (World.ownsRow_made w3 #[] 0 (Nat.le_refl _) (Nat.zero_le _) (by simp)) (some ⟨b, off, none⟩) 0 0 ([] : List It) (by first | rfl | simp) rfl (row_nil _ _ _) (fun e => by simp at e) (by omega) (by simp) ?_; intro v1 w4 hown hgrow; have HU3 : Hid (Upd [] w3 w4) := HU4.out.grown hgrow (fun k hk hl => by simp [Value.ownBlock] at hk; omega); have hq3 := HU3.out.at QM.out (by simp); obtain ⟨z0, z1, z2, z3, z4, z5⟩ := free6 hq3; obtain ⟨y0, y1, y2, y3, y4, y5⟩ := cells6 hq3; obtain ⟨hnn, ad2, cap2, rfl, hS2, hge2⟩ := hasS_row hown; clear hq3 hown hgrow hnn)
        go_meet
        case rel => exact ⟨rfl, ⟨[], ad2, cap2⟩, w4, rfl, hS2, HU3, hge2, by simp⟩
    case rest =>
    obtain ⟨rfl, s, w4, HSL, HSS, HUS, HGE, hwc⟩ := hcut
    subst hwc
    have hu3 := upd_set1 w4 M 3 (.slice s.ad s.l.length s.cap)
    have p3 := setCell_block (o := 3) (HUS.out.at QM.out (by simp)) (.slice s.ad s.l.length s.cap)
    have hlf := HLG.out w4 _ s HUS.out hu3 HSS.out HSL.out HGE.out
    have q1 := hu3.at (HUS.out.at Q1.out (by simp)) (by have := HPG.out; simp only [List.mem_singleton]; omega)
    have q2 := hu3.at (HUS.out.at Q2.out (by simp)) (by have := HPG.out; simp only [List.mem_singleton]; omega)
    have qt := hu3.at (HUS.out.at QT.out (by simp)) (by simp only [List.mem_singleton]; omega)
    clear c3 hltm hnem hle hnb hz1 hu3
    replace QM := Lib.hid p3; replace Q1 := Lib.hid q1; replace Q2 := Lib.hid q2; replace QT := Lib.hid qt
    have HLF := Lib.hid hlf
    clear p3 q1 q2 qt hlf
    have QM : Hid ((w4.setCell ⟨M, 3, none⟩ (.slice s.ad s.l.length s.cap)).heap[M]? = some (.cells #[.int .i64 l'.ts, .slice l'.top.ad l'.top.l.length l'.top.cap, .slice l'.rs.ad l'.rs.l.length l'.rs.cap, .slice s.ad s.l.length s.cap, .int .i64 l'.mv, .int .i64 l'.cp] 25 (0, 0))) := QM
    with_reducible generalize w4.setCell ⟨M, 3, none⟩ (.slice s.ad s.l.length s.cap) = w5 at *
    obtain ⟨c0, c1, c2, c3, c4, c5⟩ := cells6 QM.out
    obtain ⟨k0, k1, k2⟩ := cells3 QT.out
    obtain ⟨y0, y1, y2, y3, y4, y5⟩ := cells6 Q1.out
    obtain ⟨z0, z1, z2, z3, z4, z5⟩ := free6 Q1.out
    obtain ⟨x0, x1, x2⟩ := cells3 Q2.out
    obtain ⟨v0, v1, v2⟩ := free3 Q2.out
    have HKP := Lib.hid (fun V (hu : Upd [H + 1, H + 1 + 1] w5 V) => (⟨hu.cell c0 (by have := HPG.out; simp; omega), hu.cell c1 (by have := HPG.out; simp; omega), hu.cell c2 (by have := HPG.out; simp; omega), hu.cell c3 (by have := HPG.out; simp; omega), hu.cell c4 (by have := HPG.out; simp; omega), hu.cell c5 (by have := HPG.out; simp; omega), hu.cell k0 (by have := HPG.out; simp; omega), hu.cell k1 (by have := HPG.out; simp; omega), hu.cell k2 (by have := HPG.out; simp; omega)⟩ : V.cell? ⟨M, 0, none⟩ = some (.int .i64 l'.ts) ∧ V.cell? ⟨M, 1, none⟩ = some (.slice l'.top.ad l'.top.l.length l'.top.cap) ∧ V.cell? ⟨M, 2, none⟩ = some (.slice l'.rs.ad l'.rs.l.length l'.rs.cap) ∧ V.cell? ⟨M, 3, none⟩ = some (.slice s.ad s.l.length s.cap) ∧ V.cell? ⟨M, 4, none⟩ = some (.int .i64 l'.mv) ∧ V.cell? ⟨M, 5, none⟩ = some (.int .i64 l'.cp) ∧ V.cell? ⟨M + 1, 0, none⟩ = some (.int .i64 i0) ∧ V.cell? ⟨M + 1, 1, none⟩ = some (.int .i64 i1) ∧ V.cell? ⟨M + 1, 2, none⟩ = some (.int .i64 i2)))
    go_upto_region 4 with (fail)
    go_region_held3 (fun V => V.cell? ⟨M, 0, none⟩ = some (.int .i64 l'.ts) ∧ V.cell? ⟨M, 1, none⟩ = some (.slice l'.top.ad l'.top.l.length l'.top.cap) ∧ V.cell? ⟨M, 2, none⟩ = some (.slice l'.rs.ad l'.rs.l.length l'.rs.cap) ∧ V.cell? ⟨M, 3, none⟩ = some (.slice s.ad s.l.length s.cap) ∧ V.cell? ⟨M, 4, none⟩ = some (.int .i64 l'.mv) ∧ V.cell? ⟨M, 5, none⟩ = some (.int .i64 l'.cp) ∧ V.cell? ⟨M + 1, 0, none⟩ = some (.int .i64 i0) ∧ V.cell? ⟨M + 1, 1, none⟩ = some (.int .i64 i1) ∧ V.cell? ⟨M + 1, 2, none⟩ = some (.int .i64 i2)) (first | (with_reducible exact ⟨c0, c1, c2, c3, c4, c5, k0, k1, k2⟩) | (refine HKP.out _ ?_; (repeat (first | (with_reducible exact Upd.refl [H + 1, H + 1 + 1] _) | (with_reducible refine Upd.drew ?_) | refine Upd.setCell ?_ (by simp) _)); done)) (first | fail)
    have g1 := stored6 Q1.out (.int .i64 l'.ts) (.slice l'.top.ad l'.top.l.length l'.top.cap) (.slice l'.rs.ad l'.rs.l.length l'.rs.cap) (.slice s.ad s.l.length s.cap) (.int .i64 l'.mv) (.int .i64 l'.cp)
    have u1 := upd_set6 w5 (H + 1) (.int .i64 l'.ts) (.slice l'.top.ad l'.top.l.length l'.top.cap) (.slice l'.rs.ad l'.rs.l.length l'.rs.cap) (.slice s.ad s.l.length s.cap) (.int .i64 l'.mv) (.int .i64 l'.cp)
    have q2 := u1.at Q2.out (by simp only [List.mem_singleton]; omega)
    with_reducible generalize (((((w5.setCell ⟨H + 1, 0, none⟩ (.int .i64 l'.ts)).setCell ⟨H + 1, 1, none⟩ (.slice l'.top.ad l'.top.l.length l'.top.cap)).setCell ⟨H + 1, 2, none⟩ (.slice l'.rs.ad l'.rs.l.length l'.rs.cap)).setCell ⟨H + 1, 3, none⟩ (.slice s.ad s.l.length s.cap)).setCell ⟨H + 1, 4, none⟩ (.int .i64 l'.mv)).setCell ⟨H + 1, 5, none⟩ (.int .i64 l'.cp) = w7 at g1 u1 q2 ⊢
    have g2 := stored3 q2 (.int .i64 i0) (.int .i64 i1) (.int .i64 i2)
    have u2 := upd_set3 w7 (H + 1 + 1) (.int .i64 i0) (.int .i64 i1) (.int .i64 i2)
    have g1 := u2.at g1 (by simp only [List.mem_singleton]; omega)
    with_reducible generalize ((w7.setCell ⟨H + 1 + 1, 0, none⟩ (.int .i64 i0)).setCell ⟨H + 1 + 1, 1, none⟩ (.int .i64 i1)).setCell ⟨H + 1 + 1, 2, none⟩ (.int .i64 i2) = w8 at g1 g2 u2 ⊢
    have g1 : w8.drew.heap[H + 1]? = _ := g1
    have g2 : w8.drew.heap[H + 1 + 1]? = _ := g2
    have u2 := u2.drew
    generalize w8.drew = w9 at g1 g2 u2 ⊢
    clear c0 c1 c2 c3 c4 c5 k0 k1 k2 x0 x1 x2 y0 y1 y2 y3 y4 y5 z0 z1 z2 z3 z4 z5 v0 v1 v2
    go_wp2_with fail
    obtain ⟨r0, r1, r2, r3, r4, r5⟩ := cells6 g1
    obtain ⟨s0, s1, s2⟩ := cells3 g2
    have hfin : GivesRP l (gp, ⟨i0, i1, i2⟩, true) w (.returned (.tuple #[.agg #[.int .i64 l'.ts, .slice l'.top.ad l'.top.l.length l'.top.cap, .slice l'.rs.ad l'.rs.l.length l'.rs.cap, .slice s.ad s.l.length s.cap, .int .i64 l'.mv, .int .i64 l'.cp], .agg #[.int .i64 i0, .int .i64 i1, .int .i64 i2], .bool true])) w9 := ⟨⟨l'.ts, l'.top, l'.rs, s, l'.mv, l'.cp⟩, rfl, HFIN.out w5 ⟨l'.ts, l'.top, l'.rs, s, l'.mv, l'.cp⟩ gp HLF.out.1 HLF.out.2.1 HLF.out.2.2.1 HLF.out.2.2.2.1 HLF.out.2.2.2.2 w7 u1 w9 u2⟩
    exact bodyPost_ret (v := .tuple #[.agg #[.int .i64 l'.ts, .slice l'.top.ad l'.top.l.length l'.top.cap, .slice l'.rs.ad l'.rs.l.length l'.rs.cap, .slice s.ad s.l.length s.cap, .int .i64 l'.mv, .int .i64 l'.cp], .agg #[.int .i64 i0, .int .i64 i1, .int .i64 i2], .bool true]) (by simp [results, Tryz.results15, go_sem, r0, r1, r2, r3, r4, r5, s0, s1, s2]) rfl hfin
end Go.Proofs.YtneodiemgemhfaaGreat
namespace Go.Proofs.YtneodiemgemhfaaGreat
open Go.RowKit Go.Lib

set_option maxRecDepth 100000 in
set_option maxHeartbeats 4000000 in
theorem SInsert_shift (g cap : Nat) (l : List It) (it : It) (i vb : Nat) (w : World) (hi : i < l.length) (hroom : l.length + 1 ≤ cap) (hcap : cap ≤ maxLen) (hl : l.length ≤ 100000) (hH : Held LI 36 w g cap l)
    (hvb : w.heap[vb]? = some (.cells #[.int .i64 it.t, .int .i64 it.q, .int .i64 it.s] 36 (0, 0))) (hne : vb ≠ g) :
    Calls Tryz.prog 48 #[.slice (some ⟨g, 0, none⟩) l.length cap, .int .i64 i, .slice (some ⟨vb, 0, none⟩) 1 1] w fun e w' => e = .returned (.slice (some ⟨g, 0, none⟩) (l.length + 1) cap) ∧ w' = (w.drew.setCells g ((i + 1) * 3) (LI.flat (l.drop i))).setCells g (i * 3) (LI.enc it) := by
  obtain ⟨cur, hg, hs, ht⟩ := hH.ex
  have hs3 : cur.size = cap * 3 := hs
  obtain ⟨n, hn⟩ : ∃ n, n = l.length := ⟨_, rfl⟩
  rw [← hn] at hi hroom hl ⊢
  obtain ⟨cs, hcs⟩ : ∃ cs, cs = LI.flat (l.drop i) := ⟨_, rfl⟩
  have hcl : cs.length = (n - i) * 3 := by rw [hcs, LI.flat_length, List.length_drop, hn]; rfl
  have hsrc : ∀ j v, cs[j]? = some v → w.cell? ⟨g, i * 3 + j, none⟩ = some v := fun j v hj => by
    rw [cell_block hg]
    have h1 : (LI.flat l)[i * 3 + j]? = some v := by
      rw [hcs, ← LI.flat_drop l i (by omega), List.getElem?_drop] at hj
      exact hj
    rw [← ht, List.getElem?_take] at h1
    split at h1
    · rw [← Array.getElem?_toList]; exact h1
    · simp at h1
  have hone : ∀ v ∈ cs, v.oneCell' = true := by rw [hcs]; exact LI.flat_one _
  have hsome : ∀ j, j < cap * 3 → (w.cell? ⟨g, j, none⟩).isSome = true := fun j hj => by
    rw [cell_block hg, Array.getElem?_eq_getElem (by omega)]; rfl
  have hfz : ∀ j, w.frozen? ⟨g, j, none⟩ = false := fun j => free_block hg j
  have hov : ∀ o lb cb, (callFunc 73 #[.slice (some ⟨vb, 0, none⟩) 1 1, .slice (some ⟨g, o, none⟩) lb cb]).run Tryz.prog w = .ok (.value (.bool false)) w := fun o lb cb => by
    rw [run_callFunc_extern Tryz.func73 (by kernel_rfl) (by kernel_rfl) (by kernel_rfl) (e := Extern.SlicesOverlaps.overlaps #[22, 22] #[4]) (by kernel_rfl),
      Lib.run_overlaps_apart w 22 4 36 Tryz.underlying22 3 Tryz.sizeOf36 ⟨vb, 0, none⟩ ⟨g, o, none⟩ 1 1 lb cb hne 36 36 3 (cap * 3) (by simp [World.shape?, hvb]) (by simp [World.shape?, hg, hs3]) (by omega) (free_block hvb _) (free_block hvb _)]
    rfl
  have hcp1 : ∀ ty dc sc, (Builtin.copy_ #[22, 22] ty #[.slice (some ⟨g, (i + 1) * 3, none⟩) (n - i) dc, .slice (some ⟨g, i * 3, none⟩) (n + 1 - i) sc]).run Tryz.prog w.drew = .ok (goInt ((n - i : Nat) : Int)) (w.drew.setCells g ((i + 1) * 3) cs) := fun ty dc sc =>
    run_copy_items w.drew ty g ((i + 1) * 3) _ dc ⟨g, i * 3, none⟩ _ sc (n - i) cs (by simp only [Nat.min_def]; split <;> omega) hcl (fun j v hj => by rw [Addr.add_lit]; exact hsrc j v hj) (fun j hj => hsome _ (by omega)) (fun j hj => hfz _) hone
  obtain ⟨W1, hW1⟩ : ∃ W1, W1 = w.drew.setCells g ((i + 1) * 3) cs := ⟨_, rfl⟩
  have hsp1 : ∀ k, k < cap * 3 → (W1.cell? ⟨g, k, none⟩).isSome = true := fun k hk => by
    rw [hW1]
    exact isSome_setCells g cs ((i + 1) * 3) w.drew (fun j hj => hsome ((i + 1) * 3 + j) (by omega)) k (hsome k hk)
  obtain ⟨b0, b1, b2⟩ := cells3 hvb
  have hcp2 : ∀ (W : World), (∀ x, W.cell? x = W1.cell? x) → (∀ x, W.frozen? x = W1.frozen? x) → ∀ ty dc, (Builtin.copy_ #[22, 22] ty #[.slice (some ⟨g, i * 3, none⟩) (n + 1 - i) dc, .slice (some ⟨vb, 0, none⟩) 1 1]).run Tryz.prog W = .ok (goInt ((1 : Nat) : Int)) (W.setCells g (i * 3) (LI.enc it)) := fun W hWc hWf ty dc =>
    run_copy_items W ty g (i * 3) _ dc ⟨vb, 0, none⟩ 1 1 1 (LI.enc it) (by simp only [Nat.min_def]; split <;> omega) rfl
      (fun j v hj => by
        rw [Addr.add_lit, hWc, hW1, World.cell?_setCells_out g _ _ _ _ (fun h _ => absurd h hne), Nat.zero_add]
        show w.cell? ⟨vb, j, none⟩ = _
        rw [cell_block hvb]
        simpa [LI] using hj)
      (fun j hj => by
        have hj3 : j < 3 := hj
        rw [hWc]; exact hsp1 _ (by omega))
      (fun j hj => by rw [hWf, hW1, World.frozen?_setCells]; exact hfz _) (LI.one it)
  rw [← hW1] at hcp1
  have HW1 := Lib.hid hW1
  have HCS := Lib.hid hcs
  clear hcs hsrc hs hs3 ht hg hH hW1 hsp1 hsome hfz hvb b0 b1 b2
  have hw1 : IntKind.i64.wrap ((n : Int) + 1) = (n : Int) + 1 := by rw [IntKind.wrap_i64]; omega
  have hw2 : IntKind.i64.wrap ((i : Int) + 1) = (i : Int) + 1 := by rw [IntKind.wrap_i64]; omega
  have hin : i ≤ n := by omega
  have hz2 : ((i : Int) == (n : Int)) = false := by simp; omega
  have hz3 : decide ((cap : Int) < (n : Int) + 1) = false := by simp; unfold maxLen at hcap; omega
  have hic : i ≤ cap := by omega
  have hic2 : i + 1 ≤ n + 1 := by omega
  have hmx := mixed
  have hb1 : (0 : Int) ≤ (i : Int) + 1 := by omega
  have hb3 : (i : Int) ≤ (n : Int) + 1 := by omega
  have hb2 : ¬ cap = i + 1 := by omega
  have hb4 : ¬ cap = i := by omega
  have hc63 : cap ≤ 9223372036854775807 := hcap
  have HNN := Lib.hid hn
  clear hn hcap
  go_enter Tryz.func48, Tryz.ntmps48
  go_upto_region 15 with (simp only [hov])
  go_region_law_o (refine step_copy_runI rfl _ _ 22 22 rfl _ _ (by simp [Act.eval, Act.put]) (by simp [Act.eval, Act.put]) (hcp1 _ _ _) ?_)
  go_wp2_with (at_builtin; refine wpList_copy_runI _ rfl _ _ 22 22 rfl _ _ rfl rfl (hcp2 _ (fun _ => rfl) (fun _ => rfl) _ _) ?_)
  go_ret
  first | exact ⟨rfl, by rw [HW1.out, HCS.out]⟩ | (rw [HW1.out, HCS.out]; exact ⟨rfl, rfl⟩)
theorem zeroCells_size (z : Array Value) (k : Nat) : (Builtin.zeroCells z k).size = k * z.size := by
  unfold Builtin.zeroCells
  simp
set_option maxRecDepth 100000 in
set_option maxHeartbeats 4000000 in
theorem SInsert_grow (g cap : Nat) (l : List It) (it : It) (i vb : Nat) (w : World) (hi : i < l.length) (hroom : cap < l.length + 1) (hl : l.length ≤ 100000) (hH : Held LI 36 w g cap l)
    (hvb : w.heap[vb]? = some (.cells #[.int .i64 it.t, .int .i64 it.q, .int .i64 it.s] 36 (0, 0))) :
    Calls Tryz.prog 48 #[.slice (some ⟨g, 0, none⟩) l.length cap, .int .i64 i, .slice (some ⟨vb, 0, none⟩) 1 1] w fun e w' => ∃ G, e = .returned (.slice (some ⟨w.heap.size, 0, none⟩) (l.length + 1) G) ∧ G ≤ maxLen ∧ Held LI 36 w' w.heap.size G (l.take i ++ it :: l.drop i) ∧ Upd [] w w' := by
  obtain ⟨cur, hg, hs, ht⟩ := hH.ex
  have hs3 : cur.size = cap * 3 := hs
  have hle := hH.le
  have hgw : g < w.heap.size := lt_block hg
  have hvw : vb < w.heap.size := lt_block hvb
  obtain ⟨n, hn⟩ : ∃ n, n = l.length := ⟨_, rfl⟩
  rw [← hn] at hi hroom hl hle ⊢
  obtain ⟨cs, hcs⟩ : ∃ cs, cs = LI.flat (l.drop i) := ⟨_, rfl⟩
  have hcl : cs.length = (n - i) * 3 := by rw [hcs, LI.flat_length, List.length_drop, hn]; rfl
  have hall : ∀ t u, (LI.flat l)[t]? = some u → w.cell? ⟨g, t, none⟩ = some u := fun t u h1 => by
    rw [cell_block hg]
    rw [← ht, List.getElem?_take] at h1
    split at h1
    · rw [← Array.getElem?_toList]; exact h1
    · simp at h1
  have hsrc : ∀ j v, cs[j]? = some v → w.cell? ⟨g, i * 3 + j, none⟩ = some v := fun j v hj => hall _ _ (by
    rw [hcs, ← LI.flat_drop l i (by omega), List.getElem?_drop] at hj
    exact hj)
  have hone : ∀ v ∈ cs, v.oneCell' = true := by rw [hcs]; exact LI.flat_one _
  obtain ⟨i0, z, b, hi0, hz0, hz1, hz2, hz3, hb⟩ := tyI.info
  have hz1' : i0.size = 3 := hz1
  have hold : (Builtin.firstCells i0.size i (.slice (some ⟨g, 0, none⟩) i cap)).run Tryz.prog w.drew = .ok (LI.flat (l.take i)).toArray w.drew := by
    rw [hz1']
    exact run_firstCells_some w.drew 3 i ⟨g, 0, none⟩ i cap (LI.flat (l.take i)) (by rw [LI.flat_length, List.length_take, Nat.min_eq_left (by omega)]; rfl) (fun j v hj => by
      rw [Addr.add_lit, Nat.zero_add]
      refine hall j v ?_
      rw [← LI.flat_take l i (by omega), List.getElem?_take] at hj
      split at hj
      · exact hj
      · simp at hj)
  have hik : i + (n + 1 - i) = n + 1 := by omega
  have hkk : (n : Int) + 1 - (i : Int) = ((n + 1 - i : Nat) : Int) := by omega
  obtain ⟨G, hG⟩ : ∃ G, G = grownCap w (n + 1) cap 36 := ⟨_, rfl⟩
  obtain ⟨ROW, hROW⟩ : ∃ ROW : Array Value, ROW = (LI.flat (l.take i)).toArray ++ Builtin.zeroCells z.cells (n + 1 - i) ++ Builtin.zeroCells z.cells (G - (n + 1)) := ⟨_, rfl⟩
  have hrz : ∀ ty, (Builtin.append_ #[22, 3] ty #[.slice (some ⟨g, 0, none⟩) i cap, .int .i64 ((n : Int) + 1 - (i : Int))]).run Tryz.prog w = .ok (.slice (some ⟨w.heap.size, 0, none⟩) (n + 1) G) (w.drew.alloc (.cells ROW 36)) := fun ty => by
    have h := Lib.run_append_grow_zeros (P := Tryz.prog) w 22 3 ty 36 i0 z .i64 .i64 Tryz.underlying22 Tryz.underlying3 hi0 hz0 (some ⟨g, 0, none⟩) i cap (LI.flat (l.take i)) hold (n + 1 - i) (by omega) (by omega) (by omega) (by omega) (by rw [hz2]; exact Nat.le_trans (Nat.mul_le_mul (show n + 1 - i ≤ 100001 by omega) hb) (by decide)) (by
      rw [hik]
      exact growslice_fits hroom (by rw [hz2]; exact Nat.le_trans (Nat.mul_le_mul (show n + 1 ≤ 100001 by omega) hb) (by decide)))
    rw [hik, ← hG, ← hROW] at h
    rw [hkk]
    exact h
  have hGn : n + 1 ≤ G := by rw [hG]; exact grownCap_ge w _ _ _
  have hGm : G ≤ maxLen := by
    rw [hG]; exact grownCap_le_maxLen w (n + 1) cap 36 (by unfold maxLen; omega)
  have hzs : z.cells.size = 3 := hz3
  have hRs : ROW.size = G * 3 := by
    rw [hROW]
    simp only [Array.size_append, zeroCells_size, hzs, List.size_toArray, LI.flat_length, List.length_take]
    rw [show LI.k = 3 from rfl, Nat.min_eq_left (by omega)]
    omega
  have hRt : ROW.toList.take (i * 3) = LI.flat (l.take i) := by
    have hfl : (LI.flat (l.take i)).length = i * 3 := by rw [LI.flat_length, List.length_take, Nat.min_eq_left (by omega)]; rfl
    rw [hROW, Array.toList_append, Array.toList_append, List.append_assoc, ← hfl]
    simp
  obtain ⟨W1, hW1⟩ : ∃ W1, W1 = w.drew.alloc (.cells ROW 36) := ⟨_, rfl⟩
  rw [← hW1] at hrz
  have hbR : W1.heap[w.heap.size]? = some (.cells ROW 36 (0, 0)) := by rw [hW1]; exact heap_alloc1 w.drew _
  have hU1 : Upd [] w W1 := by rw [hW1]; exact ((Upd.refl [] w).drew).alloc _
  have hN : ∀ j, j < G * 3 → (W1.cell? ⟨w.heap.size, j, none⟩).isSome = true := fun j hj => by
    rw [cell_block hbR, Array.getElem?_eq_getElem (by omega)]; rfl
  have hNf : ∀ j, W1.frozen? ⟨w.heap.size, j, none⟩ = false := fun j => free_block hbR j
  have hcpA : ∀ (W : World), (∀ x, W.cell? x = W1.cell? x) → (∀ x, W.frozen? x = W1.frozen? x) → ∀ ty dc, (Builtin.copy_ #[22, 22] ty #[.slice (some ⟨w.heap.size, i * 3, none⟩) (n + 1 - i) dc, .slice (some ⟨vb, 0, none⟩) 1 1]).run Tryz.prog W = .ok (goInt ((1 : Nat) : Int)) (W.setCells w.heap.size (i * 3) (LI.enc it)) := fun W hWc hWf ty dc =>
    run_copy_items W ty w.heap.size (i * 3) _ dc ⟨vb, 0, none⟩ 1 1 1 (LI.enc it) (by simp only [Nat.min_def]; split <;> omega) rfl
      (fun j v hj => by
        rw [Addr.add_lit, hWc, Nat.zero_add]
        refine hU1.cell ?_ (by simp)
        rw [cell_block hvb]
        simpa [LI] using hj)
      (fun j hj => by
        have hj3 : j < 3 := hj
        rw [hWc]; exact hN _ (by omega))
      (fun j hj => by rw [hWf]; exact hNf _) (LI.one it)
  have hcpB : ∀ (W : World), (∀ x, W.cell? x = (W1.setCells w.heap.size (i * 3) (LI.enc it)).cell? x) → (∀ x, W.frozen? x = (W1.setCells w.heap.size (i * 3) (LI.enc it)).frozen? x) → ∀ ty dc sc, (Builtin.copy_ #[22, 22] ty #[.slice (some ⟨w.heap.size, (i + 1) * 3, none⟩) (n - i) dc, .slice (some ⟨g, i * 3, none⟩) (n - i) sc]).run Tryz.prog W = .ok (goInt ((n - i : Nat) : Int)) (W.setCells w.heap.size ((i + 1) * 3) cs) := fun W hWc hWf ty dc sc =>
    run_copy_items W ty w.heap.size ((i + 1) * 3) _ dc ⟨g, i * 3, none⟩ _ sc (n - i) cs (by simp) hcl
      (fun j v hj => by
        rw [Addr.add_lit, hWc, World.cell?_setCells_out _ _ _ _ _ (fun h _ => absurd h (by simp only; omega))]
        exact hU1.cell (hsrc j v hj) (by simp))
      (fun j hj => by rw [hWc]; exact isSome_setCells _ _ _ _ (fun t ht => hN _ (by have h3 : t < 3 := ht; omega)) _ (hN _ (by omega)))
      (fun j hj => by rw [hWf, World.frozen?_setCells]; exact hNf _) hone
  have HFIN : Hid (∀ W', W' = (((w.alloc (.cells ROW 36)).drew.setCells w.heap.size (i * 3) (LI.enc it)).drew).setCells w.heap.size ((i + 1) * 3) cs → G ≤ maxLen ∧ Held LI 36 W' w.heap.size G (l.take i ++ it :: l.drop i) ∧ Upd [] w W') := fun W' hW' => by
    subst hW'
    rw [drew_setCells]
    have hbR2 : ((w.alloc (.cells ROW 36)).drew.drew).heap[w.heap.size]? = some (.cells ROW 36 (0, 0)) := heap_alloc1 w _
    have hU2 : Upd [] w ((w.alloc (.cells ROW 36)).drew.drew) := (((Upd.refl [] w).alloc _).drew).drew
    refine ⟨hGm, ?_, ?_⟩
    · rw [hcs]
      exact ins_grow it hbR2 hRs hRt (by omega) (by omega)
    · rw [setCells_stores, setCells_stores]
      exact (hU2.new (stores_upd _ _ _ _) (Nat.le_refl _)).new (stores_upd _ _ _ _) (Nat.le_refl _)
  have hG63 : G ≤ 9223372036854775807 := hGm
  have HNN := Lib.hid hn
  subst hW1
  clear hold hall hsrc hs hs3 ht hg hH hROW hG hRs hRt hcs hone hik hGm hbR hU1 hN hNf hn hcl hz1' hz1 hz2 hz3 hzs hi0 hz0 hb hvb hkk
  have hE1 : ∀ x, ((w.alloc (.cells ROW 36)).drew).cell? x = (w.drew.alloc (.cells ROW 36)).cell? x := fun x => rfl
  have hE2 : ∀ x, ((w.alloc (.cells ROW 36)).drew).frozen? x = (w.drew.alloc (.cells ROW 36)).frozen? x := fun x => rfl
  have hF1 : ∀ x, (((w.alloc (.cells ROW 36)).drew.setCells w.heap.size (i * 3) (LI.enc it)).drew).cell? x = ((w.drew.alloc (.cells ROW 36)).setCells w.heap.size (i * 3) (LI.enc it)).cell? x := fun x => rfl
  have hF2 : ∀ x, (((w.alloc (.cells ROW 36)).drew.setCells w.heap.size (i * 3) (LI.enc it)).drew).frozen? x = ((w.drew.alloc (.cells ROW 36)).setCells w.heap.size (i * 3) (LI.enc it)).frozen? x := fun x => rfl
  have hw1 : IntKind.i64.wrap ((n : Int) + 1) = (n : Int) + 1 := by rw [IntKind.wrap_i64]; omega
  have hw2 : IntKind.i64.wrap ((i : Int) + 1) = (i : Int) + 1 := by rw [IntKind.wrap_i64]; omega
  have hw3 : IntKind.i64.wrap ((n : Int) + 1 - (i : Int)) = (n : Int) + 1 - (i : Int) := by rw [IntKind.wrap_i64]; omega
  have hin : i ≤ n := by omega
  have hz2 : ((i : Int) == (n : Int)) = false := by simp; omega
  have hz3 : decide ((cap : Int) < (n : Int) + 1) = true := by simp; omega
  have hic : i ≤ cap := by omega
  have hmx := mixed
  have hb1 : (0 : Int) ≤ (i : Int) + 1 := by omega
  have hb3 : (i : Int) ≤ (n : Int) + 1 := by omega
  have hb5 : i ≤ n + 1 := by omega
  have hb4 : ¬ cap = i := by omega
  have hG1 : ¬ G = i := by omega
  have hG2 : ¬ G = i + 1 := by omega
  go_enter Tryz.func48, Tryz.ntmps48
  go_wp2_with (first
    | (at_builtin; refine Lib.wpList_append_run _ rfl _ _ _ _ rfl _ _ rfl rfl _ _ (hrz _) ?_)
    | (at_builtin; refine wpList_copy_runI _ rfl _ _ 22 22 rfl _ _ rfl rfl (hcpA _ hE1 hE2 _ _) ?_)
    | (at_builtin; refine wpList_copy_runI _ rfl _ _ 22 22 rfl _ _ rfl rfl (hcpA _ (fun _ => rfl) (fun _ => rfl) _ _) ?_))
  go_region_law_o (refine step_copy_runI rfl _ _ 22 22 rfl (.slice (some ⟨w.heap.size, (i + 1) * 3, none⟩) (n - i) (G - (i + 1))) (.slice (some ⟨g, i * 3, none⟩) (n - i) (cap - i)) (by simp [Act.eval, Act.put]) (by simp [Act.eval, Act.put]) (hcpB _ hF1 hF2 3 (G - (i + 1)) (cap - i)) ?_)
  go_wp2_with fail
  go_ret
  exact ⟨G, rfl, HFIN.out _ rfl⟩
theorem SInsert_has (s : SlR It) (it : It) (p vb b0 : Nat) (w : World) (hp : p ≤ s.l.length) (ho : w.ownsRow b0 36 3 s.v s.l.length (LI.flat s.l)) (hl : s.l.length ≤ 100000)
    (hvb : w.heap[vb]? = some (.cells #[.int .i64 it.t, .int .i64 it.q, .int .i64 it.s] 36 (0, 0))) (hne : s.v.ownBlock ≠ some vb) (hb : b0 ≤ w.heap.size) :
    Calls Tryz.prog 48 #[.slice s.ad s.l.length s.cap, .int .i64 p, .slice (some ⟨vb, 0, none⟩) 1 1] w (InsPost s it p b0 w) := by
  by_cases h : p = s.l.length
  · subst h
    exact SInsert_end s it vb b0 w ho hl hvb hb
  · obtain ⟨hnn, g, cap, ev, hbg, hheld⟩ := held_row (L := LI) ho (by omega)
    have hcm : cap ≤ maxLen := by rw [ev] at ho; exact own_cap ho
    rw [ev] at hne
    obtain ⟨sl, sa, sc⟩ := s
    simp only [SlR.v, Value.slice.injEq] at ev
    obtain ⟨rfl, _, rfl⟩ := ev
    simp only at hp hl hheld h hnn ⊢
    have hne2 : vb ≠ g := fun e => hne (by rw [e]; rfl)
    by_cases hroom : sl.length + 1 ≤ sc
    · refine (SInsert_shift g sc sl it p vb w (by omega) hroom hcm hl hheld hvb hne2).mono ?_
      rintro e w' ⟨rfl, rfl⟩
      have hH2 : Held LI 36 w.drew g sc sl := hheld.keep ((Upd.refl [] w).drew) (by simp)
      have h3 := ins_shift it hH2 (show p ≤ sl.length by omega) hroom
      refine ⟨⟨sl.take p ++ it :: sl.drop p, some ⟨g, 0, none⟩, sc⟩, ?_, rfl, h3.has, fun b hb2 => fun _ a ea => ?_, ?_⟩
      · simp only [ins_length sl it p hp]
      · obtain rfl := Option.some.inj ea
        simp only
        omega
      · rw [setCells_stores, setCells_stores]
        show Upd [g] w _
        exact (((Upd.refl [g] w).drew).trans (stores_upd _ _ _ _) (fun x hx _ => hx)).trans (stores_upd _ _ _ _) (fun x hx _ => hx)
    · refine (SInsert_grow g sc sl it p vb w (by omega) (by omega) hl hheld hvb).mono ?_
      rintro e w' ⟨G, rfl, _, h3, h4⟩
      refine ⟨⟨sl.take p ++ it :: sl.drop p, some ⟨w.heap.size, 0, none⟩, G⟩, ?_, rfl, h3.has, fun b hb2 => fun _ a ea => ?_, h4.mono (by simp)⟩
      · simp only [ins_length sl it p hp]
      · obtain rfl := Option.some.inj ea
        simp only
        omega
end Go.Proofs.YtneodiemgemhfaaGreat
