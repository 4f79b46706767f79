/- Contract: the program's Pop. -/
/- Contract: slices.BinarySearchFunc over items. -/
import Derived.Test.YtmfnfinbkdemkaaGreatPV
import Derived.Test.YtmfnfinbkdemkaaGreatPB
import Derived.Test.YtmfnfinbkdemkaaGreatPD
namespace Go.Proofs.YtmfnfinbkdemkaaGreat
open Go.RowKit Go.Lib

theorem drop_has {w : World} {x : It} {xs : List It} {b off c : Nat} (h : HasS LI w ⟨x :: xs, some ⟨b, off, none⟩, c⟩) : HasS LI w ⟨xs, some ⟨b, if 1 < c then off + 3 else off, none⟩, c - 1⟩ := by
  have hle := h.le
  simp only [List.length_cons] at hle
  refine ⟨?_, by simp only; omega, fun e => by simp at e⟩
  by_cases hc : 1 < c
  · simp only [if_pos hc]
    have := h.row.drop 1
    simpa [LI] using this
  · obtain rfl : xs = [] := List.eq_nil_of_length_eq_zero (by omega)
    exact row_nil _ _ _
set_option maxRecDepth 100000 in
set_option maxHeartbeats 8000000 in
theorem Pop_has (l : LdR) (w : World) (h : HasD w l) (hf : Fit l) : Calls Tryz.prog 57 #[encD l] w (Peeked w (popL l.ld)) := by
  have HPE := Lib.hid (fun W (hu : Upd [] w W) => Peek_has l W (h.stay hu) hf)
  have hcase : ((refillL l.ld).bot = [] ∧ peekL l.ld = (refillL l.ld, zeroI, false) ∧ popL l.ld = (refillL l.ld, zeroI, false)) ∨ ∃ x xs, (refillL l.ld).bot = x :: xs ∧ peekL l.ld = (refillL l.ld, x, true) ∧ popL l.ld = ({ refillL l.ld with bot := xs }, x, true) := by
    rcases hb : (refillL l.ld).bot with _ | ⟨x, xs⟩
    · exact .inl ⟨rfl, (peek_no hb).1, (peek_no hb).2⟩
    · exact .inr ⟨x, xs, rfl, (peek_yes hb).1, (peek_yes hb).2⟩
  obtain ⟨it, ok, gp, hpe, hpo, hbt⟩ : ∃ it ok gp, peekL l.ld = (refillL l.ld, it, ok) ∧ popL l.ld = (gp, it, ok) ∧ ((ok = false ∧ gp = refillL l.ld) ∨ ok = true ∧ ∃ xs, (refillL l.ld).bot = it :: xs ∧ gp = { refillL l.ld with bot := xs }) := by
    rcases hcase with ⟨h1, h2, h3⟩ | ⟨x, xs, h1, h2, h3⟩
    · exact ⟨_, _, _, h2, h3, .inl ⟨rfl, rfl⟩⟩
    · exact ⟨_, _, _, h2, h3, .inr ⟨rfl, xs, h1, rfl⟩⟩
  rw [hpe] at HPE
  rw [hpo]
  have HLL : Hid (encD l = .agg #[.int .i64 l.ts, .slice l.top.ad l.top.l.length l.top.cap, .slice l.rs.ad l.rs.l.length l.rs.cap, .slice l.bot.ad l.bot.l.length l.bot.cap, .int .i64 l.mv, .int .i64 l.cp]) := rfl
  rw [HLL.out] at HPE ⊢
  generalize refillL l.ld = gl at *
  obtain ⟨i0, i1, i2⟩ := it
  have HBT := Lib.hid hbt
  clear h hf hcase hpe hpo hbt
  go_enter Tryz.func57, Tryz.ntmps57
  go_upto_region 1 with (fail)
  generalize hA : (Obj.cells #[.int .i64 l.ts, .slice l.top.ad l.top.l.length l.top.cap, .slice l.rs.ad l.rs.l.length l.rs.cap, .slice l.bot.ad l.bot.l.length l.bot.cap, .int .i64 l.mv, .int .i64 l.cp] 68 : Obj) = A
  generalize hB : (Obj.cells #[.int .i64 0, .slice none 0 0, .slice none 0 0, .slice none 0 0, .int .i64 0, .int .i64 0] 68 : Obj) = B
  generalize hC : (Obj.cells #[.int .i64 0, .int .i64 0, .int .i64 0] 36 : Obj) = C
  obtain ⟨hu, b0', b1', b2', hsz⟩ := three_boxes w A B C
  generalize ((w.alloc A).alloc B).alloc C = W at *
  generalize hH : w.heap.size = H at *
  rw [← hA] at b0'
  rw [← hB] at b1'
  rw [← hC] at b2'
  have b2' : W.heap[H + 1 + 1]? = _ := b2'
  have HU := Lib.hid hu; have HB0 := Lib.hid b0'; have HB1 := Lib.hid b1'; have HB2 := Lib.hid b2'; have HH := Lib.hid hH; have HSZ := Lib.hid hsz
  obtain ⟨c0, c1, c2, c3, c4, c5⟩ := cells6 b0'
  clear hu hA hB hC b0' b1' b2' hH hsz
  go_upto_region 2 with (go_at_call 37; go_loud ((with_reducible refine (HPE.out _ HU.out).mono ?_); rintro e w1 ⟨l', rfl, hBn⟩; have hq := hBn.upd.at HB0.out (by simp); have hlt := lt_block hq; have hne : ¬ H = w1.heap.size := (by omega); obtain ⟨z0, z1, z2, z3, z4, z5⟩ := free6 hq; obtain ⟨y0, y1, y2, y3, y4, y5⟩ := cells6 hq; have HBN := Lib.hid hBn; have HQF := Lib.hid hq; clear hBn hq; unfold encD cellsD aggI; simp only))
  have p2 := stored6 HQF.out (.int .i64 l'.ts) (.slice l'.top.ad l'.top.l.length l'.top.cap) (.slice l'.rs.ad l'.rs.l.length l'.rs.cap) (.slice l'.bot.ad l'.bot.l.length l'.bot.cap) (.int .i64 l'.mv) (.int .i64 l'.cp)
  have hU5 := upd_set6 w1 H (.int .i64 l'.ts) (.slice l'.top.ad l'.top.l.length l'.top.cap) (.slice l'.rs.ad l'.rs.l.length l'.rs.cap) (.slice l'.bot.ad l'.bot.l.length l'.bot.cap) (.int .i64 l'.mv) (.int .i64 l'.cp)
  have hs2 : ((((((w1.setCell ⟨H, 0, none⟩ (.int .i64 l'.ts)).setCell ⟨H, 1, none⟩ (.slice l'.top.ad l'.top.l.length l'.top.cap)).setCell ⟨H, 2, none⟩ (.slice l'.rs.ad l'.rs.l.length l'.rs.cap)).setCell ⟨H, 3, none⟩ (.slice l'.bot.ad l'.bot.l.length l'.bot.cap)).setCell ⟨H, 4, none⟩ (.int .i64 l'.mv)).setCell ⟨H, 5, none⟩ (.int .i64 l'.cp)).heap.size = w1.heap.size := by simp [World.setCell]
  have hPG : H + 2 < w1.heap.size := by have h1 := HBN.out.upd.size; have h2 := HSZ.out; omega
  generalize (((((w1.setCell ⟨H, 0, none⟩ (.int .i64 l'.ts)).setCell ⟨H, 1, none⟩ (.slice l'.top.ad l'.top.l.length l'.top.cap)).setCell ⟨H, 2, none⟩ (.slice l'.rs.ad l'.rs.l.length l'.rs.cap)).setCell ⟨H, 3, none⟩ (.slice l'.bot.ad l'.bot.l.length l'.bot.cap)).setCell ⟨H, 4, none⟩ (.int .i64 l'.mv)).setCell ⟨H, 5, none⟩ (.int .i64 l'.cp) = w2 at p2 hU5 hs2 ⊢
  have q1 := hU5.at (HBN.out.upd.at HB1.out (by simp)) (by simp)
  have q2 := hU5.at (HBN.out.upd.at HB2.out (by simp)) (by simp only [List.mem_singleton]; omega)
  obtain ⟨hasd, hup⟩ := HBN.out.box HU.out (by have := HH.out; omega) (by have := HSZ.out; omega) hU5
  have ha := (Upd.refl [] w2).alloc (.cells #[.int .i64 i0, .int .i64 i1, .int .i64 i2] 36)
  have bp : (w2.alloc (.cells #[.int .i64 i0, .int .i64 i1, .int .i64 i2] 36)).heap[w1.heap.size]? = _ := heap_alloc_at _ hs2.symm
  have Q0 := Lib.hid (ha.at p2 (by simp)); have Q1 := Lib.hid (ha.at q1 (by simp)); have Q2 := Lib.hid (ha.at q2 (by simp)); have QP := Lib.hid bp
  have HHS := Lib.hid (hasd.stay ha); have HUP := Lib.hid (hup.thn ha)
  have HPG := Lib.hid hPG
  clear p2 hU5 hs2 hPG q1 q2 hasd hup ha bp z0 z1 z2 z3 z4 z5 y0 y1 y2 y3 y4 y5 c0 c1 c2 c3 c4 c5 hlt hne
  generalize w2.alloc (.cells #[.int .i64 i0, .int .i64 i1, .int .i64 i2] 36) = w3 at *
  generalize w1.heap.size = P at *
  have HFIN : Hid (∀ (wz : World) (lf : LdR) (gf : Ld), lf.ld = gf → HasD wz lf → Upd [] w wz → (∀ b, b < W.heap.size → AvD lf b) → ∀ wf, Upd [H + 1] wz wf → ∀ wg, Upd [H + 1 + 1] wf wg → BornD w gf wg lf) := fun wz lf gf he hh hu hav wf h1 wg h2 => by
    have e1 := HH.out; have e2 := HSZ.out
    exact ⟨he, (hh.keep1 h1 (hav (H + 1) (by omega))).keep1 h2 (hav (H + 1 + 1) (by omega)), fun b hb => hav b (by omega), (hu.new h1 (by omega)).new h2 (by omega)⟩
  cases ok with
  | false =>
    have hgp : gp = gl := by
      rcases HBT.out with ⟨_, h⟩ | ⟨h, _⟩
      · exact h
      · simp at h
    subst hgp
    obtain ⟨c0, c1, c2, c3, c4, c5⟩ := cells6 Q0.out
    obtain ⟨k0, k1, k2⟩ := cells3 QP.out
    obtain ⟨y0, y1, y2, y3, y4, y5⟩ := cells6 Q1.out
    obtain ⟨z0, z1, z2, z3, z4, z5⟩ := free6 Q1.out
    obtain ⟨x0, x1, x2⟩ := cells3 Q2.out
    obtain ⟨v0, v1, v2⟩ := free3 Q2.out
    have HKP := Lib.hid (fun W (hu : Upd [H + 1, H + 1 + 1] w3 W) => (⟨hu.cell c0 (by simp; omega), hu.cell c1 (by simp; omega), hu.cell c2 (by simp; omega), hu.cell c3 (by simp; omega), hu.cell c4 (by simp; omega), hu.cell c5 (by simp; omega), hu.cell k0 (by have := HPG.out; simp; omega), hu.cell k1 (by have := HPG.out; simp; omega), hu.cell k2 (by have := HPG.out; simp; omega)⟩ : W.cell? ⟨H, 0, none⟩ = some (.int .i64 l'.ts) ∧ W.cell? ⟨H, 1, none⟩ = some (.slice l'.top.ad l'.top.l.length l'.top.cap) ∧ W.cell? ⟨H, 2, none⟩ = some (.slice l'.rs.ad l'.rs.l.length l'.rs.cap) ∧ W.cell? ⟨H, 3, none⟩ = some (.slice l'.bot.ad l'.bot.l.length l'.bot.cap) ∧ W.cell? ⟨H, 4, none⟩ = some (.int .i64 l'.mv) ∧ W.cell? ⟨H, 5, none⟩ = some (.int .i64 l'.cp) ∧ W.cell? ⟨P, 0, none⟩ = some (.int .i64 i0) ∧ W.cell? ⟨P, 1, none⟩ = some (.int .i64 i1) ∧ W.cell? ⟨P, 2, none⟩ = some (.int .i64 i2)))
    go_upto_region 4 with (fail)
    go_region_held3 (fun wz => wz.cell? ⟨H, 0, none⟩ = some (.int .i64 l'.ts) ∧ wz.cell? ⟨H, 1, none⟩ = some (.slice l'.top.ad l'.top.l.length l'.top.cap) ∧ wz.cell? ⟨H, 2, none⟩ = some (.slice l'.rs.ad l'.rs.l.length l'.rs.cap) ∧ wz.cell? ⟨H, 3, none⟩ = some (.slice l'.bot.ad l'.bot.l.length l'.bot.cap) ∧ wz.cell? ⟨H, 4, none⟩ = some (.int .i64 l'.mv) ∧ wz.cell? ⟨H, 5, none⟩ = some (.int .i64 l'.cp) ∧ wz.cell? ⟨P, 0, none⟩ = some (.int .i64 i0) ∧ wz.cell? ⟨P, 1, none⟩ = some (.int .i64 i1) ∧ wz.cell? ⟨P, 2, none⟩ = some (.int .i64 i2)) (first | (with_reducible exact ⟨c0, c1, c2, c3, c4, c5, k0, k1, k2⟩) | (refine HKP.out _ ?_; (repeat (first | (with_reducible exact Upd.refl [H + 1, H + 1 + 1] _) | (with_reducible refine Upd.drew ?_) | refine Upd.setCell ?_ (by simp) _)); done)) (first | fail)
    have g1 := stored6 Q1.out (.int .i64 l'.ts) (.slice l'.top.ad l'.top.l.length l'.top.cap) (.slice l'.rs.ad l'.rs.l.length l'.rs.cap) (.slice l'.bot.ad l'.bot.l.length l'.bot.cap) (.int .i64 l'.mv) (.int .i64 l'.cp)
    have u1 := upd_set6 w3 (H + 1) (.int .i64 l'.ts) (.slice l'.top.ad l'.top.l.length l'.top.cap) (.slice l'.rs.ad l'.rs.l.length l'.rs.cap) (.slice l'.bot.ad l'.bot.l.length l'.bot.cap) (.int .i64 l'.mv) (.int .i64 l'.cp)
    have q2 := u1.at Q2.out (by simp only [List.mem_singleton]; omega)
    with_reducible generalize (((((w3.setCell ⟨H + 1, 0, none⟩ (.int .i64 l'.ts)).setCell ⟨H + 1, 1, none⟩ (.slice l'.top.ad l'.top.l.length l'.top.cap)).setCell ⟨H + 1, 2, none⟩ (.slice l'.rs.ad l'.rs.l.length l'.rs.cap)).setCell ⟨H + 1, 3, none⟩ (.slice l'.bot.ad l'.bot.l.length l'.bot.cap)).setCell ⟨H + 1, 4, none⟩ (.int .i64 l'.mv)).setCell ⟨H + 1, 5, none⟩ (.int .i64 l'.cp) = w7 at g1 u1 q2 ⊢
    have g2 := stored3 q2 (.int .i64 i0) (.int .i64 i1) (.int .i64 i2)
    have u2 := upd_set3 w7 (H + 1 + 1) (.int .i64 i0) (.int .i64 i1) (.int .i64 i2)
    have g1 := u2.at g1 (by simp only [List.mem_singleton]; omega)
    with_reducible generalize ((w7.setCell ⟨H + 1 + 1, 0, none⟩ (.int .i64 i0)).setCell ⟨H + 1 + 1, 1, none⟩ (.int .i64 i1)).setCell ⟨H + 1 + 1, 2, none⟩ (.int .i64 i2) = w8 at g1 g2 u2 ⊢
    have g1 : w8.drew.heap[H + 1]? = _ := g1
    have g2 : w8.drew.heap[H + 1 + 1]? = _ := g2
    have u2 := u2.drew
    generalize w8.drew = w9 at g1 g2 u2 ⊢
    clear c0 c1 c2 c3 c4 c5 k0 k1 k2 x0 x1 x2 y0 y1 y2 y3 y4 y5 z0 z1 z2 z3 z4 z5 v0 v1 v2
    go_wp2_with fail
    obtain ⟨r0, r1, r2, r3, r4, r5⟩ := cells6 g1
    obtain ⟨s0, s1, s2⟩ := cells3 g2
    exact bodyPost_ret (v := .tuple #[.agg #[.int .i64 l'.ts, .slice l'.top.ad l'.top.l.length l'.top.cap, .slice l'.rs.ad l'.rs.l.length l'.rs.cap, .slice l'.bot.ad l'.bot.l.length l'.bot.cap, .int .i64 l'.mv, .int .i64 l'.cp], .agg #[.int .i64 i0, .int .i64 i1, .int .i64 i2], .bool false]) (by simp [results, Tryz.results57, go_sem, r0, r1, r2, r3, r4, r5, s0, s1, s2]) rfl (⟨l', by simp only [encD, cellsD, aggI], HFIN.out w3 l' gp HBN.out.eq HHS.out HUP.out HBN.out.av w7 u1 w9 u2⟩)
  | true =>
    obtain ⟨xs, hb, hg⟩ : ∃ xs, gl.bot = ⟨i0, i1, i2⟩ :: xs ∧ gp = { gl with bot := xs } := by
      rcases HBT.out with ⟨h, _⟩ | ⟨_, h⟩
      · simp at h
      · exact h
    have hlb : l'.bot.l = ⟨i0, i1, i2⟩ :: xs := (congrArg Ld.bot HBN.out.eq : l'.ld.bot = gl.bot).trans hb
    obtain ⟨b, off, e, hrw⟩ := HHS.out.bot.row 0 (by rw [hlb]; simp)
    have hle := HHS.out.bot.le
    have hnb : 1 ≤ l'.bot.l.length := by rw [hlb]; simp
    have HXL : Hid (xs.length = l'.bot.l.length - 1) := by rw [hlb]; rfl
    have hbot : HasS LI w3 ⟨⟨i0, i1, i2⟩ :: xs, some ⟨b, off, none⟩, l'.bot.cap⟩ := by
      have h1 : HasS LI w3 ⟨l'.bot.l, l'.bot.ad, l'.bot.cap⟩ := HHS.out.bot
      rw [hlb, e] at h1
      exact h1
    have HLG : Hid (∀ wz, Upd [H] w3 wz → (⟨l'.ts, l'.top, l'.rs, ⟨xs, some ⟨b, if 1 < l'.bot.cap then off + 3 else off, none⟩, l'.bot.cap - 1⟩, l'.mv, l'.cp⟩ : LdR).ld = gp ∧ HasD wz ⟨l'.ts, l'.top, l'.rs, ⟨xs, some ⟨b, if 1 < l'.bot.cap then off + 3 else off, none⟩, l'.bot.cap - 1⟩, l'.mv, l'.cp⟩ ∧ Upd [] w wz ∧ ∀ x, x < W.heap.size → AvD ⟨l'.ts, l'.top, l'.rs, ⟨xs, some ⟨b, if 1 < l'.bot.cap then off + 3 else off, none⟩, l'.bot.cap - 1⟩, l'.mv, l'.cp⟩ x) := fun wz hu => by
      have hav : ∀ x, x < W.heap.size → AvD ⟨l'.ts, l'.top, l'.rs, ⟨xs, some ⟨b, if 1 < l'.bot.cap then off + 3 else off, none⟩, l'.bot.cap - 1⟩, l'.mv, l'.cp⟩ x := fun x hx => by
        have h0 := HBN.out.av x hx
        refine ⟨h0.top, h0.rs, h0.rg, fun _ a ea => ?_⟩
        obtain rfl := Option.some.inj ea
        exact (h0.bot (by rw [hlb]; simp) ⟨b, off, none⟩ e : b ≠ x)
      have e1 := HH.out; have e2 := HSZ.out
      refine ⟨?_, HasD.keep1 ⟨HHS.out.top, HHS.out.rs, HHS.out.rg, drop_has hbot⟩ hu (hav H (by omega)), HUP.out.new hu (by omega), hav⟩
      have eg : l'.ld = gl := HBN.out.eq
      rw [hg, ← eg]
      rfl
    have HE := Lib.hid e
    have hz1 : (1 : Int) ≤ (l'.bot.l.length : Int) := by omega
    clear hrw e hb hg hlb hbot
    by_cases hc : 1 < l'.bot.cap
    · have HOI : Hid ((if 1 < l'.bot.cap then off + 3 else off) = off + 3) := if_pos hc
      rw [HOI.out] at HLG
      have c3 := (cells6 Q0.out).2.2.2.1
      have z3 := (free6 Q0.out).2.2.2.1
      rw [HE.out] at c3
      go_upto_region 4 with (fail)
      have p3 : (w3.setCell ⟨H, 3, none⟩ (.slice (some ⟨b, off + 3, none⟩) (l'.bot.l.length - 1) (l'.bot.cap - 1))).heap[H]? = some (.cells #[.int .i64 l'.ts, .slice l'.top.ad l'.top.l.length l'.top.cap, .slice l'.rs.ad l'.rs.l.length l'.rs.cap, .slice (some ⟨b, off + 3, none⟩) (l'.bot.l.length - 1) (l'.bot.cap - 1), .int .i64 l'.mv, .int .i64 l'.cp] 68 (0, 0)) := setCell_block Q0.out _
      have hu3 := upd_set1 w3 H 3 (.slice (some ⟨b, off + 3, none⟩) (l'.bot.l.length - 1) (l'.bot.cap - 1))
      have q1 := hu3.at Q1.out (by simp)
      have q2 := hu3.at Q2.out (by simp only [List.mem_singleton]; omega)
      have qp := hu3.at QP.out (by have := HPG.out; simp only [List.mem_singleton]; omega)
      have HLF := Lib.hid (HLG.out _ hu3)
      with_reducible generalize w3.setCell ⟨H, 3, none⟩ (.slice (some ⟨b, off + 3, none⟩) (l'.bot.l.length - 1) (l'.bot.cap - 1)) = w4 at p3 hu3 q1 q2 qp HLF ⊢
      have Q0 := Lib.hid p3; have Q1 := Lib.hid q1; have Q2 := Lib.hid q2; have QP := Lib.hid qp
      clear c3 z3 p3 hu3 q1 q2 qp
      obtain ⟨c0, c1, c2, c3, c4, c5⟩ := cells6 Q0.out
      obtain ⟨k0, k1, k2⟩ := cells3 QP.out
      obtain ⟨y0, y1, y2, y3, y4, y5⟩ := cells6 Q1.out
      obtain ⟨z0, z1, z2, z3, z4, z5⟩ := free6 Q1.out
      obtain ⟨x0, x1, x2⟩ := cells3 Q2.out
      obtain ⟨v0, v1, v2⟩ := free3 Q2.out
      have HKP := Lib.hid (fun W (hu : Upd [H + 1, H + 1 + 1] w4 W) => (⟨hu.cell c0 (by simp; omega), hu.cell c1 (by simp; omega), hu.cell c2 (by simp; omega), hu.cell c3 (by simp; omega), hu.cell c4 (by simp; omega), hu.cell c5 (by simp; omega), hu.cell k0 (by have := HPG.out; simp; omega), hu.cell k1 (by have := HPG.out; simp; omega), hu.cell k2 (by have := HPG.out; simp; omega)⟩ : W.cell? ⟨H, 0, none⟩ = some (.int .i64 l'.ts) ∧ W.cell? ⟨H, 1, none⟩ = some (.slice l'.top.ad l'.top.l.length l'.top.cap) ∧ W.cell? ⟨H, 2, none⟩ = some (.slice l'.rs.ad l'.rs.l.length l'.rs.cap) ∧ W.cell? ⟨H, 3, none⟩ = some (.slice (some ⟨b, off + 3, none⟩) (l'.bot.l.length - 1) (l'.bot.cap - 1)) ∧ W.cell? ⟨H, 4, none⟩ = some (.int .i64 l'.mv) ∧ W.cell? ⟨H, 5, none⟩ = some (.int .i64 l'.cp) ∧ W.cell? ⟨P, 0, none⟩ = some (.int .i64 i0) ∧ W.cell? ⟨P, 1, none⟩ = some (.int .i64 i1) ∧ W.cell? ⟨P, 2, none⟩ = some (.int .i64 i2)))
      go_upto_region 4 with (fail)
      go_region_held3 (fun wz => wz.cell? ⟨H, 0, none⟩ = some (.int .i64 l'.ts) ∧ wz.cell? ⟨H, 1, none⟩ = some (.slice l'.top.ad l'.top.l.length l'.top.cap) ∧ wz.cell? ⟨H, 2, none⟩ = some (.slice l'.rs.ad l'.rs.l.length l'.rs.cap) ∧ wz.cell? ⟨H, 3, none⟩ = some (.slice (some ⟨b, off + 3, none⟩) (l'.bot.l.length - 1) (l'.bot.cap - 1)) ∧ wz.cell? ⟨H, 4, none⟩ = some (.int .i64 l'.mv) ∧ wz.cell? ⟨H, 5, none⟩ = some (.int .i64 l'.cp) ∧ wz.cell? ⟨P, 0, none⟩ = some (.int .i64 i0) ∧ wz.cell? ⟨P, 1, none⟩ = some (.int .i64 i1) ∧ wz.cell? ⟨P, 2, none⟩ = some (.int .i64 i2)) (first | (with_reducible exact ⟨c0, c1, c2, c3, c4, c5, k0, k1, k2⟩) | (refine HKP.out _ ?_; (repeat (first | (with_reducible exact Upd.refl [H + 1, H + 1 + 1] _) | (with_reducible refine Upd.drew ?_) | refine Upd.setCell ?_ (by simp) _)); done)) (first | fail)
      have g1 := stored6 Q1.out (.int .i64 l'.ts) (.slice l'.top.ad l'.top.l.length l'.top.cap) (.slice l'.rs.ad l'.rs.l.length l'.rs.cap) (.slice (some ⟨b, off + 3, none⟩) (l'.bot.l.length - 1) (l'.bot.cap - 1)) (.int .i64 l'.mv) (.int .i64 l'.cp)
      have u1 := upd_set6 w4 (H + 1) (.int .i64 l'.ts) (.slice l'.top.ad l'.top.l.length l'.top.cap) (.slice l'.rs.ad l'.rs.l.length l'.rs.cap) (.slice (some ⟨b, off + 3, none⟩) (l'.bot.l.length - 1) (l'.bot.cap - 1)) (.int .i64 l'.mv) (.int .i64 l'.cp)
      have q2 := u1.at Q2.out (by simp only [List.mem_singleton]; omega)
      with_reducible generalize (((((w4.setCell ⟨H + 1, 0, none⟩ (.int .i64 l'.ts)).setCell ⟨H + 1, 1, none⟩ (.slice l'.top.ad l'.top.l.length l'.top.cap)).setCell ⟨H + 1, 2, none⟩ (.slice l'.rs.ad l'.rs.l.length l'.rs.cap)).setCell ⟨H + 1, 3, none⟩ (.slice (some ⟨b, off + 3, none⟩) (l'.bot.l.length - 1) (l'.bot.cap - 1))).setCell ⟨H + 1, 4, none⟩ (.int .i64 l'.mv)).setCell ⟨H + 1, 5, none⟩ (.int .i64 l'.cp) = w7 at g1 u1 q2 ⊢
      have g2 := stored3 q2 (.int .i64 i0) (.int .i64 i1) (.int .i64 i2)
      have u2 := upd_set3 w7 (H + 1 + 1) (.int .i64 i0) (.int .i64 i1) (.int .i64 i2)
      have g1 := u2.at g1 (by simp only [List.mem_singleton]; omega)
      with_reducible generalize ((w7.setCell ⟨H + 1 + 1, 0, none⟩ (.int .i64 i0)).setCell ⟨H + 1 + 1, 1, none⟩ (.int .i64 i1)).setCell ⟨H + 1 + 1, 2, none⟩ (.int .i64 i2) = w8 at g1 g2 u2 ⊢
      have g1 : w8.drew.heap[H + 1]? = _ := g1
      have g2 : w8.drew.heap[H + 1 + 1]? = _ := g2
      have u2 := u2.drew
      generalize w8.drew = w9 at g1 g2 u2 ⊢
      clear c0 c1 c2 c3 c4 c5 k0 k1 k2 x0 x1 x2 y0 y1 y2 y3 y4 y5 z0 z1 z2 z3 z4 z5 v0 v1 v2
      go_wp2_with fail
      obtain ⟨r0, r1, r2, r3, r4, r5⟩ := cells6 g1
      obtain ⟨s0, s1, s2⟩ := cells3 g2
      exact bodyPost_ret (v := .tuple #[.agg #[.int .i64 l'.ts, .slice l'.top.ad l'.top.l.length l'.top.cap, .slice l'.rs.ad l'.rs.l.length l'.rs.cap, .slice (some ⟨b, off + 3, none⟩) (l'.bot.l.length - 1) (l'.bot.cap - 1), .int .i64 l'.mv, .int .i64 l'.cp], .agg #[.int .i64 i0, .int .i64 i1, .int .i64 i2], .bool true]) (by simp [results, Tryz.results57, go_sem, r0, r1, r2, r3, r4, r5, s0, s1, s2]) rfl (⟨_, by simp only [encD, cellsD, aggI, HXL.out], HFIN.out w4 _ gp HLF.out.1 HLF.out.2.1 HLF.out.2.2.1 HLF.out.2.2.2 w7 u1 w9 u2⟩)
    · have HOI : Hid ((if 1 < l'.bot.cap then off + 3 else off) = off) := if_neg hc
      rw [HOI.out] at HLG
      have hc1 : l'.bot.cap = 1 := by omega
      have hn1 : l'.bot.l.length = 1 := by omega
      have c3 := (cells6 Q0.out).2.2.2.1
      have z3 := (free6 Q0.out).2.2.2.1
      rw [HE.out] at c3
      go_upto_region 4 with (fail)
      have p3 : (w3.setCell ⟨H, 3, none⟩ (.slice (some ⟨b, off, none⟩) 0 0)).heap[H]? = some (.cells #[.int .i64 l'.ts, .slice l'.top.ad l'.top.l.length l'.top.cap, .slice l'.rs.ad l'.rs.l.length l'.rs.cap, .slice (some ⟨b, off, none⟩) 0 0, .int .i64 l'.mv, .int .i64 l'.cp] 68 (0, 0)) := setCell_block Q0.out _
      have hu3 := upd_set1 w3 H 3 (.slice (some ⟨b, off, none⟩) 0 0)
      have q1 := hu3.at Q1.out (by simp)
      have q2 := hu3.at Q2.out (by simp only [List.mem_singleton]; omega)
      have qp := hu3.at QP.out (by have := HPG.out; simp only [List.mem_singleton]; omega)
      have HLF := Lib.hid (HLG.out _ hu3)
      with_reducible generalize w3.setCell ⟨H, 3, none⟩ (.slice (some ⟨b, off, none⟩) 0 0) = w4 at p3 hu3 q1 q2 qp HLF ⊢
      have Q0 := Lib.hid p3; have Q1 := Lib.hid q1; have Q2 := Lib.hid q2; have QP := Lib.hid qp
      clear c3 z3 p3 hu3 q1 q2 qp
      obtain ⟨c0, c1, c2, c3, c4, c5⟩ := cells6 Q0.out
      obtain ⟨k0, k1, k2⟩ := cells3 QP.out
      obtain ⟨y0, y1, y2, y3, y4, y5⟩ := cells6 Q1.out
      obtain ⟨z0, z1, z2, z3, z4, z5⟩ := free6 Q1.out
      obtain ⟨x0, x1, x2⟩ := cells3 Q2.out
      obtain ⟨v0, v1, v2⟩ := free3 Q2.out
      have HKP := Lib.hid (fun W (hu : Upd [H + 1, H + 1 + 1] w4 W) => (⟨hu.cell c0 (by simp; omega), hu.cell c1 (by simp; omega), hu.cell c2 (by simp; omega), hu.cell c3 (by simp; omega), hu.cell c4 (by simp; omega), hu.cell c5 (by simp; omega), hu.cell k0 (by have := HPG.out; simp; omega), hu.cell k1 (by have := HPG.out; simp; omega), hu.cell k2 (by have := HPG.out; simp; omega)⟩ : W.cell? ⟨H, 0, none⟩ = some (.int .i64 l'.ts) ∧ W.cell? ⟨H, 1, none⟩ = some (.slice l'.top.ad l'.top.l.length l'.top.cap) ∧ W.cell? ⟨H, 2, none⟩ = some (.slice l'.rs.ad l'.rs.l.length l'.rs.cap) ∧ W.cell? ⟨H, 3, none⟩ = some (.slice (some ⟨b, off, none⟩) 0 0) ∧ W.cell? ⟨H, 4, none⟩ = some (.int .i64 l'.mv) ∧ W.cell? ⟨H, 5, none⟩ = some (.int .i64 l'.cp) ∧ W.cell? ⟨P, 0, none⟩ = some (.int .i64 i0) ∧ W.cell? ⟨P, 1, none⟩ = some (.int .i64 i1) ∧ W.cell? ⟨P, 2, none⟩ = some (.int .i64 i2)))
      go_upto_region 4 with (fail)
      go_region_held3 (fun wz => wz.cell? ⟨H, 0, none⟩ = some (.int .i64 l'.ts) ∧ wz.cell? ⟨H, 1, none⟩ = some (.slice l'.top.ad l'.top.l.length l'.top.cap) ∧ wz.cell? ⟨H, 2, none⟩ = some (.slice l'.rs.ad l'.rs.l.length l'.rs.cap) ∧ wz.cell? ⟨H, 3, none⟩ = some (.slice (some ⟨b, off, none⟩) 0 0) ∧ wz.cell? ⟨H, 4, none⟩ = some (.int .i64 l'.mv) ∧ wz.cell? ⟨H, 5, none⟩ = some (.int .i64 l'.cp) ∧ wz.cell? ⟨P, 0, none⟩ = some (.int .i64 i0) ∧ wz.cell? ⟨P, 1, none⟩ = some (.int .i64 i1) ∧ wz.cell? ⟨P, 2, none⟩ = some (.int .i64 i2)) (first | (with_reducible exact ⟨c0, c1, c2, c3, c4, c5, k0, k1, k2⟩) | (refine HKP.out _ ?_; (repeat (first | (with_reducible exact Upd.refl [H + 1, H + 1 + 1] _) | (with_reducible refine Upd.drew ?_) | refine Upd.setCell ?_ (by simp) _)); done)) (first | fail)
      have g1 := stored6 Q1.out (.int .i64 l'.ts) (.slice l'.top.ad l'.top.l.length l'.top.cap) (.slice l'.rs.ad l'.rs.l.length l'.rs.cap) (.slice (some ⟨b, off, none⟩) 0 0) (.int .i64 l'.mv) (.int .i64 l'.cp)
      have u1 := upd_set6 w4 (H + 1) (.int .i64 l'.ts) (.slice l'.top.ad l'.top.l.length l'.top.cap) (.slice l'.rs.ad l'.rs.l.length l'.rs.cap) (.slice (some ⟨b, off, none⟩) 0 0) (.int .i64 l'.mv) (.int .i64 l'.cp)
      have q2 := u1.at Q2.out (by simp only [List.mem_singleton]; omega)
      with_reducible generalize (((((w4.setCell ⟨H + 1, 0, none⟩ (.int .i64 l'.ts)).setCell ⟨H + 1, 1, none⟩ (.slice l'.top.ad l'.top.l.length l'.top.cap)).setCell ⟨H + 1, 2, none⟩ (.slice l'.rs.ad l'.rs.l.length l'.rs.cap)).setCell ⟨H + 1, 3, none⟩ (.slice (some ⟨b, off, none⟩) 0 0)).setCell ⟨H + 1, 4, none⟩ (.int .i64 l'.mv)).setCell ⟨H + 1, 5, none⟩ (.int .i64 l'.cp) = w7 at g1 u1 q2 ⊢
      have g2 := stored3 q2 (.int .i64 i0) (.int .i64 i1) (.int .i64 i2)
      have u2 := upd_set3 w7 (H + 1 + 1) (.int .i64 i0) (.int .i64 i1) (.int .i64 i2)
      have g1 := u2.at g1 (by simp only [List.mem_singleton]; omega)
      with_reducible generalize ((w7.setCell ⟨H + 1 + 1, 0, none⟩ (.int .i64 i0)).setCell ⟨H + 1 + 1, 1, none⟩ (.int .i64 i1)).setCell ⟨H + 1 + 1, 2, none⟩ (.int .i64 i2) = w8 at g1 g2 u2 ⊢
      have g1 : w8.drew.heap[H + 1]? = _ := g1
      have g2 : w8.drew.heap[H + 1 + 1]? = _ := g2
      have u2 := u2.drew
      generalize w8.drew = w9 at g1 g2 u2 ⊢
      clear c0 c1 c2 c3 c4 c5 k0 k1 k2 x0 x1 x2 y0 y1 y2 y3 y4 y5 z0 z1 z2 z3 z4 z5 v0 v1 v2
      go_wp2_with fail
      obtain ⟨r0, r1, r2, r3, r4, r5⟩ := cells6 g1
      obtain ⟨s0, s1, s2⟩ := cells3 g2
      exact bodyPost_ret (v := .tuple #[.agg #[.int .i64 l'.ts, .slice l'.top.ad l'.top.l.length l'.top.cap, .slice l'.rs.ad l'.rs.l.length l'.rs.cap, .slice (some ⟨b, off, none⟩) 0 0, .int .i64 l'.mv, .int .i64 l'.cp], .agg #[.int .i64 i0, .int .i64 i1, .int .i64 i2], .bool true]) (by simp [results, Tryz.results57, go_sem, r0, r1, r2, r3, r4, r5, s0, s1, s2]) rfl (⟨_, by simp only [encD, cellsD, aggI, HXL.out, hn1, hc1, Nat.sub_self], HFIN.out w4 _ gp HLF.out.1 HLF.out.2.1 HLF.out.2.2.1 HLF.out.2.2.2 w7 u1 w9 u2⟩)
end Go.Proofs.YtmfnfinbkdemkaaGreat
namespace Go.Proofs.YtmfnfinbkdemkaaGreat
open Go.RowKit Go.Lib

/-- What the search gives: the place before which all are less, from which on none is. -/
def FoundAt (l : List It) (it : It) (w : World) (e : Ending) (w' : World) : Prop := ∃ (p : Nat) (b : Bool), e = .returned (.tuple #[.int .i64 p, .bool b]) ∧ p ≤ l.length ∧ (∀ i (h : i < l.length), i < p → ltI l[i] it) ∧ (∀ i (h : i < l.length), p ≤ i → ¬ ltI l[i] it) ∧ Upd [] w w'
set_option maxRecDepth 100000 in
set_option maxHeartbeats 4000000 in
theorem Search_has (a : Option Addr) (c : Nat) (l : List It) (it : It) (w : World) (hr : Row LI w a l) (hl : l.length ≤ 1000000) (hs : SortedI l) :
    Calls Tryz.prog 80 #[.slice a l.length c, aggI it, .func (.func 49) #[] #[]] w (FoundAt l it w) := by
  have HCI := Lib.hid (fun (x : It) W => ((CompareItems_any x it W).mono (R' := fun e w' => e = .returned (.int .i64 (cmpI x it)) ∧ Upd [] W w') (fun e w' h => ⟨h.1, h.2.upd⟩)))
  have HR := Lib.hid hr
  have HS := Lib.hid hs
  have HMO : Hid (∀ i j (hi : i < l.length) (hj : j < l.length), i ≤ j → ltI l[j] it → ltI l[i] it) := fun i j hi hj hij h => by
    by_cases e : i = j
    · subst e; exact h
    · have := (pairwise_at.1 hs) i j hi hj (by omega)
      unfold ltI at *; omega
  have HFN : Hid (∀ (p : Nat) (b : Bool) W, p ≤ l.length → (∀ i (h : i < l.length), i < p → ltI l[i] it) → (∀ i (h : i < l.length), p ≤ i → ¬ ltI l[i] it) → Upd [] w W → FoundAt l it w (.returned (.tuple #[.int .i64 p, .bool b])) W) := fun p b W h1 h2 h3 h4 => ⟨p, b, rfl, h1, h2, h3, h4⟩
  obtain ⟨n, hn⟩ : ∃ n, n = l.length := ⟨_, rfl⟩
  have HN := Lib.hid hn
  rw [← hn] at hl ⊢
  obtain ⟨t1, q1, s1⟩ := it
  unfold aggI at HCI ⊢
  simp only at HCI ⊢
  clear hr hs hn
  have eg : ∀ args w, (callFunc 49 args).run Tryz.prog w = .ok (.enter 49 args) w := enters_of Tryz.func49 (by kernel_rfl) rfl
  go_enter Tryz.func80, Tryz.ntmps80
  go_upto_region 1 with (fail)
  have hu := (Upd.refl [] w).alloc (.cells #[.int .i64 t1, .int .i64 q1, .int .i64 s1] 36)
  have b0 := heap_alloc1 w (.cells #[.int .i64 t1, .int .i64 q1, .int .i64 s1] 36)
  generalize w.alloc (.cells #[.int .i64 t1, .int .i64 q1, .int .i64 s1] 36) = W at *
  generalize w.heap.size = P at *
  have HU := Lib.hid hu; have HB0 := Lib.hid b0
  clear hu b0
  go_wp2_with fail
  go_loopg [9, 10] n (fun gk v9 v10 wr => ∃ lo hi : Nat, v9 = .int .i64 lo ∧ v10 = .int .i64 hi ∧ lo ≤ hi ∧ hi ≤ n ∧ hi - lo ≤ gk ∧ Hid (Upd [] W wr) ∧ Hid ((∀ i (h : i < l.length), i < lo → ltI l[i] ⟨t1, q1, s1⟩) ∧ (∀ i (h : i < l.length), hi ≤ i → ¬ ltI l[i] ⟨t1, q1, s1⟩)))
  case atStart => exact ⟨0, n, rfl, rfl, by omega, by omega, by omega, Lib.hid (Upd.refl _ _), ⟨fun i _ h => by omega, fun i h1 h2 => by have := HN.out; omega⟩⟩
  case round =>
    obtain ⟨lo, hi, rfl, rfl, hlh, hin, hgk, HUR, HIV⟩ := hrel
    by_cases hlt : lo < hi
    · have hltz : (lo : Int) < (hi : Int) := by omega
      have hm1 : (lo + hi) / 2 < l.length := by have := HN.out; omega
      obtain ⟨b, off, hbo, x0, x1, x2⟩ := (HR.out.stay (HU.out.thn HUR.out)).item ((lo + hi) / 2) hm1
      subst hbo
      obtain ⟨c0, c1, c2⟩ := cells3 (HUR.out.at HB0.out (by simp))
      have HCK := Lib.hid (HCI.out l[(lo + hi) / 2])
      have HLO : Hid (cmpI l[(lo + hi) / 2] ⟨t1, q1, s1⟩ < 0 → ∀ i (h : i < l.length), i < (lo + hi) / 2 + 1 → ltI l[i] ⟨t1, q1, s1⟩) := fun h i hi2 hi3 => HMO.out i _ hi2 hm1 (by omega) (cmpI_lt.1 h)
      have HHI : Hid (¬ cmpI l[(lo + hi) / 2] ⟨t1, q1, s1⟩ < 0 → ∀ i (h : i < l.length), (lo + hi) / 2 ≤ i → ¬ ltI l[i] ⟨t1, q1, s1⟩) := fun h i hi2 hi3 hc => h (cmpI_lt.2 (HMO.out _ i hm1 hi2 hi3 hc))
      generalize cmpI l[(lo + hi) / 2] ⟨t1, q1, s1⟩ = r at *
      generalize l[(lo + hi) / 2].t = y0 at *
      generalize l[(lo + hi) / 2].q = y1 at *
      generalize l[(lo + hi) / 2].s = y2 at *
      obtain ⟨m, hm⟩ : ∃ m, m = (lo + hi) / 2 := ⟨_, rfl⟩
      have hmz : (((lo : Int) + (hi : Int)) / 2) = (m : Int) := by omega
      have hmn : (m : Int) < (n : Int) := by omega
      rw [← hm] at x0 x1 x2 HLO HHI
      have hmb : lo ≤ m ∧ m < hi := by omega
      clear hm1 hm
      go_upto_region 5 with (fail)
      have k0 := kept_at c0; have k1 := kept_at c1; have k2 := kept_at c2
      have j0 := kept_at x0; have j1 := kept_at x1; have j2 := kept_at x2
      clear c0 c1 c2 x0 x1 x2
      refine wp_region_quiet_kept mixed (by kernel_rfl) ?_
      repeat (go_big_quiet_step (first | (go_at_call 49; exact calls_kept (HCK.out _))))
      refine wpQuiet_nil ?_
      intro W3 hw'
      obtain ⟨⟨Wx, hu⟩, hw''⟩ := hw'
      simp only at hw''
      subst hw''
      clear k0 k1 k2 j0 j1 j2
      have HU3 := Lib.hid (HUR.out.thn hu)
      clear hu
      by_cases hneg : r < 0
      · have hd : decide (r < 0) = true := by simpa using hneg
        have HL2 := Lib.hid (HLO.out hneg)
        go_wp2_with fail
        go_roundg (hi - (m + 1))
        case measure => omega
        case rel => exact ⟨m + 1, hi, by go_num, rfl, by omega, by omega, by omega, HU3, ⟨HL2.out, HIV.out.2⟩⟩
      · have hd : decide (r < 0) = false := by simpa using hneg
        have HL2 := Lib.hid (HHI.out hneg)
        go_wp2_with fail
        go_roundg (m - lo)
        case measure => omega
        case rel => exact ⟨lo, m, rfl, rfl, by omega, by omega, by omega, HU3, ⟨HIV.out.1, HL2.out⟩⟩
    · have hltz : ¬ (lo : Int) < (hi : Int) := by omega
      obtain rfl : lo = hi := by omega
      go_upto_region 8 with (fail)
      by_cases hln : lo < n
      · have hg : decide ((lo : Int) < (n : Int)) = true := by simp; omega
        have hg2 : (lo : Int) < (n : Int) := by omega
        have hm1 : lo < l.length := by have := HN.out; omega
        obtain ⟨b, off, hbo, x0, x1, x2⟩ := (HR.out.stay (HU.out.thn HUR.out)).item lo hm1
        subst hbo
        obtain ⟨c0, c1, c2⟩ := cells3 (HUR.out.at HB0.out (by simp))
        have HCK := Lib.hid (HCI.out l[lo])
        generalize cmpI l[lo] ⟨t1, q1, s1⟩ = r at *
        generalize l[lo].t = y0 at *
        generalize l[lo].q = y1 at *
        generalize l[lo].s = y2 at *
        have k0 := kept_at c0; have k1 := kept_at c1; have k2 := kept_at c2
        have j0 := kept_at x0; have j1 := kept_at x1; have j2 := kept_at x2
        clear c0 c1 c2 x0 x1 x2 hm1
        refine wp_region_quiet_kept mixed (by kernel_rfl) ?_
        repeat (go_big_quiet_step (first | (go_at_call 49; exact calls_kept (HCK.out _))))
        refine wpQuiet_nil ?_
        intro W3 hw'
        obtain ⟨⟨Wx, hu⟩, hw''⟩ := hw'
        simp only at hw''
        subst hw''
        clear k0 k1 k2 j0 j1 j2
        have HU3 := Lib.hid (HUR.out.thn hu)
        clear hu
        go_wp2_with fail
        go_ret2
        exact HFN.out _ _ _ (by have := HN.out; omega) HIV.out.1 HIV.out.2 (HU.out.thn HU3.out)
      · have hg : decide ((lo : Int) < (n : Int)) = false := by simp; omega
        have hg2 : ¬ (lo : Int) < (n : Int) := by omega
        go_quiet (fail)
        have HU3 := Lib.hid (HUR.out.drewN nq)
        generalize wr.drewN nq = W3 at *
        go_wp2_with fail
        go_ret2
        exact HFN.out _ _ _ (by have := HN.out; omega) HIV.out.1 HIV.out.2 (HU.out.thn HU3.out)
end Go.Proofs.YtmfnfinbkdemkaaGreat
