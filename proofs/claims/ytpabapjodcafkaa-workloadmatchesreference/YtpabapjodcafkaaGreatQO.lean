
/- Contract: the reference's Pop. -/
import Derived.Test.YtpabapjodcafkaaGreatQN
import Derived.Test.YtpabapjodcafkaaGreatPW
namespace Go.Proofs.YtpabapjodcafkaaGreat
open Go.RowKit Go.Lib

set_option maxRecDepth 100000 in
set_option maxHeartbeats 8000000 in
theorem RPop_has (l : LdR) (w : World) (h : HasD w l) (hg : GoodL l.ld) (hlen : lenD l.ld ≤ 100000) (hmv : l.mv ≤ 100000000000) : Calls Tryz.prog 20 #[encD l] w (GivesRP l (popL l.ld) w) := by
  have HPE := Lib.hid (fun W (hu : Upd [] w W) => RPeek_has l W (h.stay hu) hg hlen hmv)
  have hcase : ((refillL l.ld).bot = [] ∧ peekL l.ld = (refillL l.ld, zeroI, false) ∧ popL l.ld = (refillL l.ld, zeroI, false)) ∨ ∃ x xs, (refillL l.ld).bot = x :: xs ∧ peekL l.ld = (refillL l.ld, x, true) ∧ popL l.ld = ({ refillL l.ld with bot := xs }, x, true) := by
    rcases hb : (refillL l.ld).bot with _ | ⟨x, xs⟩
    · exact .inl ⟨rfl, (peek_no hb).1, (peek_no hb).2⟩
    · exact .inr ⟨x, xs, rfl, (peek_yes hb).1, (peek_yes hb).2⟩
  obtain ⟨it, ok, gp, hpe, hpo, hbt⟩ : ∃ it ok gp, peekL l.ld = (refillL l.ld, it, ok) ∧ popL l.ld = (gp, it, ok) ∧ ((ok = false ∧ gp = refillL l.ld) ∨ ok = true ∧ ∃ xs, (refillL l.ld).bot = it :: xs ∧ gp = { refillL l.ld with bot := xs }) := by
    rcases hcase with ⟨h1, h2, h3⟩ | ⟨x, xs, h1, h2, h3⟩
    · exact ⟨_, _, _, h2, h3, .inl ⟨rfl, rfl⟩⟩
    · exact ⟨_, _, _, h2, h3, .inr ⟨rfl, xs, h1, rfl⟩⟩
  have hbl : (refillL l.ld).bot.length ≤ 100000 := by
    have hr := refill_ok hg
    have hl := hr.its.length_eq
    rw [← lenD_its, ← lenD_its] at hl
    have : (refillL l.ld).bot.length ≤ lenD (refillL l.ld) := by simp only [lenD]; omega
    omega
  have HBL := Lib.hid hbl
  rw [hpe] at HPE
  rw [hpo]
  have HAVL : Hid (∀ b, w.heap.size ≤ b → AvD l b) := fun b hb => h.avoids hb
  have HLL : Hid (encD l = .agg #[.int .i64 l.ts, .slice l.top.ad l.top.l.length l.top.cap, .slice l.rs.ad l.rs.l.length l.rs.cap, .slice l.bot.ad l.bot.l.length l.bot.cap, .int .i64 l.mv, .int .i64 l.cp]) := rfl
  rw [HLL.out] at HPE ⊢
  generalize refillL l.ld = gl at *
  obtain ⟨i0, i1, i2⟩ := it
  have HBT := Lib.hid hbt
  clear h hg hlen hmv hcase hpe hpo hbt hbl
  go_enter Tryz.func20, Tryz.ntmps20
  go_upto_region 1 with (fail)
  generalize hA : (Obj.cells #[.int .i64 l.ts, .slice l.top.ad l.top.l.length l.top.cap, .slice l.rs.ad l.rs.l.length l.rs.cap, .slice l.bot.ad l.bot.l.length l.bot.cap, .int .i64 l.mv, .int .i64 l.cp] 42 : Obj) = A
  generalize hB : (Obj.cells #[.int .i64 0, .slice none 0 0, .slice none 0 0, .slice none 0 0, .int .i64 0, .int .i64 0] 42 : Obj) = B
  generalize hC : (Obj.cells #[.int .i64 0, .int .i64 0, .int .i64 0] 38 : Obj) = C
  obtain ⟨hu, b0', b1', b2', hsz⟩ := three_boxes w A B C
  generalize ((w.alloc A).alloc B).alloc C = W at *
  generalize hH : w.heap.size = H at *
  rw [← hA] at b0'
  rw [← hB] at b1'
  rw [← hC] at b2'
  have b2' : W.heap[H + 1 + 1]? = _ := b2'
  have HU := Lib.hid hu; have HB1 := Lib.hid b1'; have HB2 := Lib.hid b2'; have HH := Lib.hid hH; have HSZ := Lib.hid hsz
  obtain ⟨c0, c1, c2, c3, c4, c5⟩ := cells6 b0'
  clear hu hA hB hC b0' b1' b2' hH hsz
  go_upto_region 2 with (go_at_call 28; (with_reducible refine (HPE.out _ HU.out).mono ?_); rintro e w1 ⟨l', rfl, hN⟩; unfold encD cellsD aggI; simp only)
  clear c0 c1 c2 c3 c4 c5
  obtain ⟨ha, qm, qt, hsm⟩ := two_boxes w1 (.cells #[.int .i64 l'.ts, .slice l'.top.ad l'.top.l.length l'.top.cap, .slice l'.rs.ad l'.rs.l.length l'.rs.cap, .slice l'.bot.ad l'.bot.l.length l'.bot.cap, .int .i64 l'.mv, .int .i64 l'.cp] 42) (.cells #[.int .i64 i0, .int .i64 i1, .int .i64 i2] 38)
  have HHS := Lib.hid (hN.has.stay ha)
  have HE : Hid (l'.ld = gl) := hN.eq
  have HAV : Hid (∀ b, w.heap.size ≤ b → b < W.heap.size → AvD l' b) := fun b h1 h2 => hN.av b h2 (HAVL.out b (by have := HH.out; omega))
  have HAB : Hid (∀ b, b < w.heap.size → AvD l b → AvD l' b) := fun b h1 h2 => hN.av b (Nat.lt_of_lt_of_le h1 HU.out.size) h2
  have HAM : Hid (AvD l' w1.heap.size) := hN.has.avoids (Nat.le_refl _)
  have hup := (HU.out.thn hN.upd).thn ha
  have hP : W.heap.size ≤ w1.heap.size := hN.upd.size
  have q1 := ha.at (hN.upd.at HB1.out (by simp)) (by simp)
  have q2 := ha.at (hN.upd.at HB2.out (by simp)) (by simp)
  have HUP := Lib.hid hup; have Q1 := Lib.hid q1; have Q2 := Lib.hid q2; have QM := Lib.hid qm; have QT := Lib.hid qt; have HSM := Lib.hid hsm
  clear ha qm qt hup q1 q2 hN hsm
  generalize (w1.alloc (.cells #[.int .i64 l'.ts, .slice l'.top.ad l'.top.l.length l'.top.cap, .slice l'.rs.ad l'.rs.l.length l'.rs.cap, .slice l'.bot.ad l'.bot.l.length l'.bot.cap, .int .i64 l'.mv, .int .i64 l'.cp] 42)).alloc (.cells #[.int .i64 i0, .int .i64 i1, .int .i64 i2] 38) = w3 at *
  generalize w1.heap.size = M at *
  have HPG : Hid (H + 1 + 1 < M) := by have := HSZ.out; show H + 1 + 1 < M; omega
  clear hP
  have HFIN : Hid (∀ (wz : World) (lf : LdR) (gf : Ld), lf.ld = gf → HasD wz lf → Upd [] w wz → (∀ b, w.heap.size ≤ b → b < W.heap.size → AvD lf b) → (∀ b, b < w.heap.size → AvD l b → AvD lf b) → ∀ wf, Upd [H + 1] wz wf → ∀ wg, Upd [H + 1 + 1] wf wg → NxtD w l gf wg lf) := fun wz lf gf he hh hu hav hab wf h1 wg h2 => by
    have e1 := HH.out; have e2 := HSZ.out
    exact ⟨he, (hh.keep1 h1 (hav (H + 1) (by omega) (by omega))).keep1 h2 (hav (H + 1 + 1) (by omega) (by omega)), hab, (hu.new h1 (by omega)).new h2 (by omega)⟩
  cases ok with
  | false =>
    have hgp : gp = gl := by
      rcases HBT.out with ⟨_, h⟩ | ⟨h, _⟩
      · exact h
      · simp at h
    subst hgp
    obtain ⟨c0, c1, c2, c3, c4, c5⟩ := cells6 QM.out
    obtain ⟨k0, k1, k2⟩ := cells3 QT.out
    obtain ⟨y0, y1, y2, y3, y4, y5⟩ := cells6 Q1.out
    obtain ⟨z0, z1, z2, z3, z4, z5⟩ := free6 Q1.out
    obtain ⟨x0, x1, x2⟩ := cells3 Q2.out
    obtain ⟨v0, v1, v2⟩ := free3 Q2.out
    have HKP := Lib.hid (fun V (hu : Upd [H + 1, H + 1 + 1] w3 V) => (⟨hu.cell c0 (by have := HPG.out; simp; omega), hu.cell c1 (by have := HPG.out; simp; omega), hu.cell c2 (by have := HPG.out; simp; omega), hu.cell c3 (by have := HPG.out; simp; omega), hu.cell c4 (by have := HPG.out; simp; omega), hu.cell c5 (by have := HPG.out; simp; omega), hu.cell k0 (by have := HPG.out; simp; omega), hu.cell k1 (by have := HPG.out; simp; omega), hu.cell k2 (by have := HPG.out; simp; omega)⟩ : V.cell? ⟨M, 0, none⟩ = some (.int .i64 l'.ts) ∧ V.cell? ⟨M, 1, none⟩ = some (.slice l'.top.ad l'.top.l.length l'.top.cap) ∧ V.cell? ⟨M, 2, none⟩ = some (.slice l'.rs.ad l'.rs.l.length l'.rs.cap) ∧ V.cell? ⟨M, 3, none⟩ = some (.slice l'.bot.ad l'.bot.l.length l'.bot.cap) ∧ V.cell? ⟨M, 4, none⟩ = some (.int .i64 l'.mv) ∧ V.cell? ⟨M, 5, none⟩ = some (.int .i64 l'.cp) ∧ V.cell? ⟨M + 1, 0, none⟩ = some (.int .i64 i0) ∧ V.cell? ⟨M + 1, 1, none⟩ = some (.int .i64 i1) ∧ V.cell? ⟨M + 1, 2, none⟩ = some (.int .i64 i2)))
    go_upto_region 4 with (fail)
    go_region_held3 (fun V => V.cell? ⟨M, 0, none⟩ = some (.int .i64 l'.ts) ∧ V.cell? ⟨M, 1, none⟩ = some (.slice l'.top.ad l'.top.l.length l'.top.cap) ∧ V.cell? ⟨M, 2, none⟩ = some (.slice l'.rs.ad l'.rs.l.length l'.rs.cap) ∧ V.cell? ⟨M, 3, none⟩ = some (.slice l'.bot.ad l'.bot.l.length l'.bot.cap) ∧ V.cell? ⟨M, 4, none⟩ = some (.int .i64 l'.mv) ∧ V.cell? ⟨M, 5, none⟩ = some (.int .i64 l'.cp) ∧ V.cell? ⟨M + 1, 0, none⟩ = some (.int .i64 i0) ∧ V.cell? ⟨M + 1, 1, none⟩ = some (.int .i64 i1) ∧ V.cell? ⟨M + 1, 2, none⟩ = some (.int .i64 i2)) (first | (with_reducible exact ⟨c0, c1, c2, c3, c4, c5, k0, k1, k2⟩) | (refine HKP.out _ ?_; (repeat (first | (with_reducible exact Upd.refl [H + 1, H + 1 + 1] _) | (with_reducible refine Upd.drew ?_) | refine Upd.setCell ?_ (by simp) _)); done)) (first | fail)
    have g1 := stored6 Q1.out (.int .i64 l'.ts) (.slice l'.top.ad l'.top.l.length l'.top.cap) (.slice l'.rs.ad l'.rs.l.length l'.rs.cap) (.slice l'.bot.ad l'.bot.l.length l'.bot.cap) (.int .i64 l'.mv) (.int .i64 l'.cp)
    have u1 := upd_set6 w3 (H + 1) (.int .i64 l'.ts) (.slice l'.top.ad l'.top.l.length l'.top.cap) (.slice l'.rs.ad l'.rs.l.length l'.rs.cap) (.slice l'.bot.ad l'.bot.l.length l'.bot.cap) (.int .i64 l'.mv) (.int .i64 l'.cp)
    have q2 := u1.at Q2.out (by simp only [List.mem_singleton]; omega)
    with_reducible generalize (((((w3.setCell ⟨H + 1, 0, none⟩ (.int .i64 l'.ts)).setCell ⟨H + 1, 1, none⟩ (.slice l'.top.ad l'.top.l.length l'.top.cap)).setCell ⟨H + 1, 2, none⟩ (.slice l'.rs.ad l'.rs.l.length l'.rs.cap)).setCell ⟨H + 1, 3, none⟩ (.slice l'.bot.ad l'.bot.l.length l'.bot.cap)).setCell ⟨H + 1, 4, none⟩ (.int .i64 l'.mv)).setCell ⟨H + 1, 5, none⟩ (.int .i64 l'.cp) = w7 at g1 u1 q2 ⊢
    have g2 := stored3 q2 (.int .i64 i0) (.int .i64 i1) (.int .i64 i2)
    have u2 := upd_set3 w7 (H + 1 + 1) (.int .i64 i0) (.int .i64 i1) (.int .i64 i2)
    have g1 := u2.at g1 (by simp only [List.mem_singleton]; omega)
    with_reducible generalize ((w7.setCell ⟨H + 1 + 1, 0, none⟩ (.int .i64 i0)).setCell ⟨H + 1 + 1, 1, none⟩ (.int .i64 i1)).setCell ⟨H + 1 + 1, 2, none⟩ (.int .i64 i2) = w8 at g1 g2 u2 ⊢
    have g1 : w8.drew.heap[H + 1]? = _ := g1
    have g2 : w8.drew.heap[H + 1 + 1]? = _ := g2
    have u2 := u2.drew
    generalize w8.drew = w9 at g1 g2 u2 ⊢
    clear c0 c1 c2 c3 c4 c5 k0 k1 k2 x0 x1 x2 y0 y1 y2 y3 y4 y5 z0 z1 z2 z3 z4 z5 v0 v1 v2
    go_wp2_with fail
    obtain ⟨r0, r1, r2, r3, r4, r5⟩ := cells6 g1
    obtain ⟨s0, s1, s2⟩ := cells3 g2
    have hfin : GivesRP l (gp, ⟨i0, i1, i2⟩, false) w (.returned (.tuple #[.agg #[.int .i64 l'.ts, .slice l'.top.ad l'.top.l.length l'.top.cap, .slice l'.rs.ad l'.rs.l.length l'.rs.cap, .slice l'.bot.ad l'.bot.l.length l'.bot.cap, .int .i64 l'.mv, .int .i64 l'.cp], .agg #[.int .i64 i0, .int .i64 i1, .int .i64 i2], .bool false])) w9 := ⟨l', rfl, HFIN.out w3 l' gp HE.out HHS.out HUP.out HAV.out HAB.out w7 u1 w9 u2⟩
    exact bodyPost_ret (v := .tuple #[.agg #[.int .i64 l'.ts, .slice l'.top.ad l'.top.l.length l'.top.cap, .slice l'.rs.ad l'.rs.l.length l'.rs.cap, .slice l'.bot.ad l'.bot.l.length l'.bot.cap, .int .i64 l'.mv, .int .i64 l'.cp], .agg #[.int .i64 i0, .int .i64 i1, .int .i64 i2], .bool false]) (by simp [results, Tryz.results20, go_sem, r0, r1, r2, r3, r4, r5, s0, s1, s2]) rfl hfin
  | true =>
    obtain ⟨xs, hb, hg⟩ : ∃ xs, gl.bot = ⟨i0, i1, i2⟩ :: xs ∧ gp = { gl with bot := xs } := by
      rcases HBT.out with ⟨h, _⟩ | ⟨_, h⟩
      · simp at h
      · exact h
    have hlb : l'.bot.l = ⟨i0, i1, i2⟩ :: xs := (congrArg Ld.bot HE.out : l'.ld.bot = gl.bot).trans hb
    obtain ⟨b, off, e, hrw⟩ := HHS.out.bot.row 0 (by rw [hlb]; simp)
    have hle := HHS.out.bot.le
    have hnb : 1 ≤ l'.bot.l.length := by rw [hlb]; simp
    have HXL : Hid (l'.bot.l.length - 1 = xs.length) := by rw [hlb]; rfl
    have hbot : HasS LI w3 ⟨⟨i0, i1, i2⟩ :: xs, some ⟨b, off, none⟩, l'.bot.cap⟩ := by
      have h1 : HasS LI w3 ⟨l'.bot.l, l'.bot.ad, l'.bot.cap⟩ := HHS.out.bot
      rw [hlb, e] at h1
      exact h1
    have HDR := Lib.hid (drop_has hbot)
    have HXN : Hid (xs.length ≤ 100000) := by have := HBL.out; rw [hb] at this; simp at this; show xs.length ≤ 100000; omega
    -- the queue with the new row
    have HLG : Hid (∀ (w4 wz : World) (s : SlR It), Upd [] w3 w4 → Upd [M] w4 wz → HasS LI w4 s → s.l = xs → (∀ a, s.ad = some a → w3.heap.size ≤ a.block) → (⟨l'.ts, l'.top, l'.rs, s, l'.mv, l'.cp⟩ : LdR).ld = gp ∧ HasD wz ⟨l'.ts, l'.top, l'.rs, s, l'.mv, l'.cp⟩ ∧ Upd [] w wz ∧ (∀ x, w.heap.size ≤ x → x < W.heap.size → AvD ⟨l'.ts, l'.top, l'.rs, s, l'.mv, l'.cp⟩ x) ∧ ∀ x, x < w.heap.size → AvD l x → AvD ⟨l'.ts, l'.top, l'.rs, s, l'.mv, l'.cp⟩ x) := fun w4 wz s hu hz hs hsl hge => by
      have e1 := HH.out; have e2 := HSZ.out; have e3 := HPG.out; have e4 := HSM.out
      have hMs : AvS s M := avS_ge (n := w3.heap.size) hge (by omega)
      have hsx : ∀ x, x < W.heap.size → AvS s x := fun x hx => avS_ge (n := w3.heap.size) hge (by omega)
      have hH4 := HHS.out.stay hu
      have hAM := HAM.out
      refine ⟨?_, HasD.keep1 ⟨hH4.top, hH4.rs, hH4.rg, hs⟩ hz ⟨hAM.top, hAM.rs, hAM.rg, hMs⟩, (HUP.out.thn hu).new hz (by omega), fun x h1 h2 => ?_, fun x h1 h2 => ?_⟩
      · have eg : l'.ld = gl := HE.out
        rw [hg, ← eg, ← hsl]
        rfl
      · have h0 := HAV.out x h1 h2
        exact ⟨h0.top, h0.rs, h0.rg, hsx x h2⟩
      · have h0 := HAB.out x h1 h2
        exact ⟨h0.top, h0.rs, h0.rg, hsx x (by have := HU.out.size; omega)⟩
    have HE' := Lib.hid e
    have hz1 : (1 : Int) ≤ (l'.bot.l.length : Int) := by omega
    clear hrw e hb hg hlb hbot HE
    have hu4 := (Upd.refl [] w3).alloc (.cells #[] 38)
    have HU4 := Lib.hid hu4
    have hltm : M < w3.heap.size := lt_block QM.out
    have hnem : ¬ M = w3.heap.size := by omega
    obtain ⟨c0, c1, c2, c3, c4, c5⟩ := cells6 QM.out
    rw [HE'.out] at c3
    clear hu4 c0 c1 c2 c4 c5
    go_upto_if 14 with (fail)
    go_cut [5] (fun v wx => v = .pointer (some ⟨M, 0, none⟩) ∧ ∃ (s : SlR It) (w4 : World), Hid (s.l = xs) ∧ Hid (HasS LI w4 s) ∧ Hid (Upd [] w3 w4) ∧ Hid (∀ a, s.ad = some a → w3.heap.size ≤ a.block) ∧ wx = w4.setCell ⟨M, 3, none⟩ (.slice s.ad s.l.length s.cap))
    case first =>
      by_cases hc : 1 < l'.bot.cap
      · have HR := HDR.out
        rw [if_pos hc] at HR
        have HRW := Lib.hid (HR.row.stay HU4.out)
        simp only at HRW
        go_wp2_with (at_builtin; refine app_row tyI rfl _ _ rfl w3.heap.size (.slice (some ⟨w3.heap.size, 0, none⟩) 0 0) 0 [] rfl (World.ownsRow_made w3 #[] 0 (Nat.le_refl _) (Nat.zero_le _) (by simp)) (some ⟨b, off + 3, none⟩) (l'.bot.l.length - 1) (l'.bot.cap - 1) xs (by first | rfl | simp) HXL.out HRW.out (fun e => by simp at e) (by have := HXN.out; have := HXL.out; omega) (by simp) ?_; intro v1 w4 hown hgrow; have HU3 : Hid (Upd [] w3 w4) := HU4.out.grown hgrow (fun k hk hl => by simp [Value.ownBlock] at hk; omega); have hq3 := HU3.out.at QM.out (by simp); obtain ⟨z0, z1, z2, z3, z4, z5⟩ := free6 hq3; obtain ⟨y0, y1, y2, y3, y4, y5⟩ := cells6 hq3; obtain ⟨hnn, ad2, cap2, rfl, hS2, hge2⟩ := hasS_row hown; clear hq3 hown hgrow hnn)
        rw [List.nil_append] at hS2
        go_meet
        case rel => exact ⟨rfl, ⟨xs, ad2, cap2⟩, w4, rfl, hS2, HU3, hge2, by simp [HXL.out]⟩
      · have HR := HDR.out
        rw [if_neg hc] at HR
        have hc1 : l'.bot.cap = 1 := by omega
        have hn1 : l'.bot.l.length = 1 := by omega
        have hx0 : xs = [] := List.eq_nil_of_length_eq_zero (by have := HXL.out; omega)
        subst hx0
        rw [hc1, hn1] at c3
        clear hc hc1 hn1 hle hnb hz1
        go_wp2_with (at_builtin; refine app_row tyI rfl _ _ rfl w3.heap.size (.slice (some ⟨w3.heap.size, 0, none⟩) 0 0) 0 [] rfl (World.ownsRow_made w3 #[] 0 (Nat.le_refl _) (Nat.zero_le _) (by simp)) (some ⟨b, off, none⟩) 0 0 ([] : List It) (by first | rfl | simp) rfl (row_nil _ _ _) (fun e => by simp at e) (by omega) (by simp) ?_; intro v1 w4 hown hgrow; have HU3 : Hid (Upd [] w3 w4) := HU4.out.grown hgrow (fun k hk hl => by simp [Value.ownBlock] at hk; omega); have hq3 := HU3.out.at QM.out (by simp); obtain ⟨z0, z1, z2, z3, z4, z5⟩ := free6 hq3; obtain ⟨y0, y1, y2, y3, y4, y5⟩ := cells6 hq3; obtain ⟨hnn, ad2, cap2, rfl, hS2, hge2⟩ := hasS_row hown; clear hq3 hown hgrow hnn)
        go_meet
        case rel => exact ⟨rfl, ⟨[], ad2, cap2⟩, w4, rfl, hS2, HU3, hge2, by simp⟩
    case rest =>
    obtain ⟨rfl, s, w4, HSL, HSS, HUS, HGE, hwc⟩ := hcut
    subst hwc
    have hu3 := upd_set1 w4 M 3 (.slice s.ad s.l.length s.cap)
    have p3 := setCell_block (o := 3) (HUS.out.at QM.out (by simp)) (.slice s.ad s.l.length s.cap)
    have hlf := HLG.out w4 _ s HUS.out hu3 HSS.out HSL.out HGE.out
    have q1 := hu3.at (HUS.out.at Q1.out (by simp)) (by have := HPG.out; simp only [List.mem_singleton]; omega)
    have q2 := hu3.at (HUS.out.at Q2.out (by simp)) (by have := HPG.out; simp only [List.mem_singleton]; omega)
    have qt := hu3.at (HUS.out.at QT.out (by simp)) (by simp only [List.mem_singleton]; omega)
    clear c3 hltm hnem hle hnb hz1 hu3
    replace QM := Lib.hid p3; replace Q1 := Lib.hid q1; replace Q2 := Lib.hid q2; replace QT := Lib.hid qt
    have HLF := Lib.hid hlf
    clear p3 q1 q2 qt hlf
    have QM : Hid ((w4.setCell ⟨M, 3, none⟩ (.slice s.ad s.l.length s.cap)).heap[M]? = some (.cells #[.int .i64 l'.ts, .slice l'.top.ad l'.top.l.length l'.top.cap, .slice l'.rs.ad l'.rs.l.length l'.rs.cap, .slice s.ad s.l.length s.cap, .int .i64 l'.mv, .int .i64 l'.cp] 42 (0, 0))) := QM
    with_reducible generalize w4.setCell ⟨M, 3, none⟩ (.slice s.ad s.l.length s.cap) = w5 at *
    obtain ⟨c0, c1, c2, c3, c4, c5⟩ := cells6 QM.out
    obtain ⟨k0, k1, k2⟩ := cells3 QT.out
    obtain ⟨y0, y1, y2, y3, y4, y5⟩ := cells6 Q1.out
    obtain ⟨z0, z1, z2, z3, z4, z5⟩ := free6 Q1.out
    obtain ⟨x0, x1, x2⟩ := cells3 Q2.out
    obtain ⟨v0, v1, v2⟩ := free3 Q2.out
    have HKP := Lib.hid (fun V (hu : Upd [H + 1, H + 1 + 1] w5 V) => (⟨hu.cell c0 (by have := HPG.out; simp; omega), hu.cell c1 (by have := HPG.out; simp; omega), hu.cell c2 (by have := HPG.out; simp; omega), hu.cell c3 (by have := HPG.out; simp; omega), hu.cell c4 (by have := HPG.out; simp; omega), hu.cell c5 (by have := HPG.out; simp; omega), hu.cell k0 (by have := HPG.out; simp; omega), hu.cell k1 (by have := HPG.out; simp; omega), hu.cell k2 (by have := HPG.out; simp; omega)⟩ : V.cell? ⟨M, 0, none⟩ = some (.int .i64 l'.ts) ∧ V.cell? ⟨M, 1, none⟩ = some (.slice l'.top.ad l'.top.l.length l'.top.cap) ∧ V.cell? ⟨M, 2, none⟩ = some (.slice l'.rs.ad l'.rs.l.length l'.rs.cap) ∧ V.cell? ⟨M, 3, none⟩ = some (.slice s.ad s.l.length s.cap) ∧ V.cell? ⟨M, 4, none⟩ = some (.int .i64 l'.mv) ∧ V.cell? ⟨M, 5, none⟩ = some (.int .i64 l'.cp) ∧ V.cell? ⟨M + 1, 0, none⟩ = some (.int .i64 i0) ∧ V.cell? ⟨M + 1, 1, none⟩ = some (.int .i64 i1) ∧ V.cell? ⟨M + 1, 2, none⟩ = some (.int .i64 i2)))
    go_upto_region 4 with (fail)
    go_region_held3 (fun V => V.cell? ⟨M, 0, none⟩ = some (.int .i64 l'.ts) ∧ V.cell? ⟨M, 1, none⟩ = some (.slice l'.top.ad l'.top.l.length l'.top.cap) ∧ V.cell? ⟨M, 2, none⟩ = some (.slice l'.rs.ad l'.rs.l.length l'.rs.cap) ∧ V.cell? ⟨M, 3, none⟩ = some (.slice s.ad s.l.length s.cap) ∧ V.cell? ⟨M, 4, none⟩ = some (.int .i64 l'.mv) ∧ V.cell? ⟨M, 5, none⟩ = some (.int .i64 l'.cp) ∧ V.cell? ⟨M + 1, 0, none⟩ = some (.int .i64 i0) ∧ V.cell? ⟨M + 1, 1, none⟩ = some (.int .i64 i1) ∧ V.cell? ⟨M + 1, 2, none⟩ = some (.int .i64 i2)) (first | (with_reducible exact ⟨c0, c1, c2, c3, c4, c5, k0, k1, k2⟩) | (refine HKP.out _ ?_; (repeat (first | (with_reducible exact Upd.refl [H + 1, H + 1 + 1] _) | (with_reducible refine Upd.drew ?_) | refine Upd.setCell ?_ (by simp) _)); done)) (first | fail)
    have g1 := stored6 Q1.out (.int .i64 l'.ts) (.slice l'.top.ad l'.top.l.length l'.top.cap) (.slice l'.rs.ad l'.rs.l.length l'.rs.cap) (.slice s.ad s.l.length s.cap) (.int .i64 l'.mv) (.int .i64 l'.cp)
    have u1 := upd_set6 w5 (H + 1) (.int .i64 l'.ts) (.slice l'.top.ad l'.top.l.length l'.top.cap) (.slice l'.rs.ad l'.rs.l.length l'.rs.cap) (.slice s.ad s.l.length s.cap) (.int .i64 l'.mv) (.int .i64 l'.cp)
    have q2 := u1.at Q2.out (by simp only [List.mem_singleton]; omega)
    with_reducible generalize (((((w5.setCell ⟨H + 1, 0, none⟩ (.int .i64 l'.ts)).setCell ⟨H + 1, 1, none⟩ (.slice l'.top.ad l'.top.l.length l'.top.cap)).setCell ⟨H + 1, 2, none⟩ (.slice l'.rs.ad l'.rs.l.length l'.rs.cap)).setCell ⟨H + 1, 3, none⟩ (.slice s.ad s.l.length s.cap)).setCell ⟨H + 1, 4, none⟩ (.int .i64 l'.mv)).setCell ⟨H + 1, 5, none⟩ (.int .i64 l'.cp) = w7 at g1 u1 q2 ⊢
    have g2 := stored3 q2 (.int .i64 i0) (.int .i64 i1) (.int .i64 i2)
    have u2 := upd_set3 w7 (H + 1 + 1) (.int .i64 i0) (.int .i64 i1) (.int .i64 i2)
    have g1 := u2.at g1 (by simp only [List.mem_singleton]; omega)
    with_reducible generalize ((w7.setCell ⟨H + 1 + 1, 0, none⟩ (.int .i64 i0)).setCell ⟨H + 1 + 1, 1, none⟩ (.int .i64 i1)).setCell ⟨H + 1 + 1, 2, none⟩ (.int .i64 i2) = w8 at g1 g2 u2 ⊢
    have g1 : w8.drew.heap[H + 1]? = _ := g1
    have g2 : w8.drew.heap[H + 1 + 1]? = _ := g2
    have u2 := u2.drew
    generalize w8.drew = w9 at g1 g2 u2 ⊢
    clear c0 c1 c2 c3 c4 c5 k0 k1 k2 x0 x1 x2 y0 y1 y2 y3 y4 y5 z0 z1 z2 z3 z4 z5 v0 v1 v2
    go_wp2_with fail
    obtain ⟨r0, r1, r2, r3, r4, r5⟩ := cells6 g1
    obtain ⟨s0, s1, s2⟩ := cells3 g2
    have hfin : GivesRP l (gp, ⟨i0, i1, i2⟩, true) w (.returned (.tuple #[.agg #[.int .i64 l'.ts, .slice l'.top.ad l'.top.l.length l'.top.cap, .slice l'.rs.ad l'.rs.l.length l'.rs.cap, .slice s.ad s.l.length s.cap, .int .i64 l'.mv, .int .i64 l'.cp], .agg #[.int .i64 i0, .int .i64 i1, .int .i64 i2], .bool true])) w9 := ⟨⟨l'.ts, l'.top, l'.rs, s, l'.mv, l'.cp⟩, rfl, HFIN.out w5 ⟨l'.ts, l'.top, l'.rs, s, l'.mv, l'.cp⟩ gp HLF.out.1 HLF.out.2.1 HLF.out.2.2.1 HLF.out.2.2.2.1 HLF.out.2.2.2.2 w7 u1 w9 u2⟩
    exact bodyPost_ret (v := .tuple #[.agg #[.int .i64 l'.ts, .slice l'.top.ad l'.top.l.length l'.top.cap, .slice l'.rs.ad l'.rs.l.length l'.rs.cap, .slice s.ad s.l.length s.cap, .int .i64 l'.mv, .int .i64 l'.cp], .agg #[.int .i64 i0, .int .i64 i1, .int .i64 i2], .bool true]) (by simp [results, Tryz.results20, go_sem, r0, r1, r2, r3, r4, r5, s0, s1, s2]) rfl hfin
end Go.Proofs.YtpabapjodcafkaaGreat
