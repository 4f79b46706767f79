/- Contract: the program's Peek. -/
/- Contract: the program's Pop. -/
import Derived.Test.YtpabapjodcafkaaGreatPT
namespace Go.Proofs.YtpabapjodcafkaaGreat
open Go.RowKit Go.Lib

/-- A queue made anew: nothing of it is older than w. -/
structure BornD (w : World) (g : Ld) (w' : World) (l' : LdR) : Prop where
  eq : l'.ld = g
  has : HasD w' l'
  av : ∀ b, b < w.heap.size → AvD l' b
  upd : Upd [] w w'
theorem BornD.up {w w' w2 : World} {g : Ld} {l' : LdR} (h : BornD w g w' l') (hu : Upd [] w' w2) : BornD w g w2 l' := ⟨h.eq, h.has.stay hu, h.av, h.upd.thn hu⟩
theorem BornD.enter {w0 w w' : World} {g : Ld} {l' : LdR} (hu : Upd [] w0 w) (h : BornD w g w' l') : BornD w0 g w' l' := ⟨h.eq, h.has, fun b hb => h.av b (Nat.lt_of_lt_of_le hb hu.size), hu.thn h.upd⟩
/-- A box that is new to w0 and older than the queue is written. -/
theorem BornD.box {w0 w w' w2 : World} {g : Ld} {l' : LdR} {b : Nat} (h : BornD w g w' l') (hu : Upd [] w0 w) (hb0 : w0.heap.size ≤ b) (hb : b < w.heap.size) (h2 : Upd [b] w' w2) : HasD w2 l' ∧ Upd [] w0 w2 :=
  ⟨h.has.keep1 h2 (h.av b hb), (hu.thn h.upd).new h2 hb0⟩
/-- What a queue must be to be worked on. -/
structure Fit (l : LdR) : Prop where
  good : GoodL l.ld
  len : lenD l.ld ≤ 100000
  mv : l.mv ≤ 100000000000
theorem Fit.h8 {l : LdR} (h : Fit l) : ∀ r ∈ l.rs.l, r.bk.l.length = 8 := fun r hr => by
  have hm : r.rg ∈ l.ld.rs := List.mem_map_of_mem hr
  have := (okRs_mem h.good.rs hm).1.len
  simpa [RgR.rg, rowsOf_length] using this
theorem Fit.its {l : LdR} (h : Fit l) : ∀ r ∈ l.rs.l, ∀ s ∈ r.bk.l, s.l.length ≤ 100000 := fun r hr s hs => by
  have hm : r.rg ∈ l.ld.rs := List.mem_map_of_mem hr
  have h1 := len_rs hm
  obtain ⟨i, hi, rfl⟩ := List.mem_iff_getElem.1 hs
  have h2 := len_le (bs := rowsOf r.bk.l) (k := i) (by rw [rowsOf_length]; exact hi)
  rw [rowsOf_get hi] at h2
  have h3 := h.len
  simp only [RgR.rg] at h1
  omega
theorem Fit.sizes {l : LdR} (h : Fit l) : l.top.l.length ≤ 100000 ∧ l.rs.l.length ≤ 4 ∧ l.bot.l.length ≤ 100000 := by
  have h1 := h.len
  have h2 := h.good.len
  simp only [lenD, LdR.ld, List.length_map] at h1 h2
  omega
theorem clone_fit (l : LdR) (w : World) (h : HasD w l) (hf : Fit l) :
    Calls Tryz.prog 37 #[encD l] w fun e w' => ∃ l', e = .returned (encD l') ∧ l'.ld = l.ld ∧ Own w.heap.size w' l' ∧ Upd [] w w' :=
  lclone_has l w h hf.h8 (by have := hf.sizes; omega) (by have := hf.sizes; omega) (by have := hf.sizes; omega) (fun r hr s hs => by have := hf.its r hr s hs; omega)
/-- The copy refilled. -/
theorem refill_fit (l lc : LdR) (W w1 : World) (hf : Fit l) (he : lc.ld = l.ld) (hO : Own W.heap.size w1 lc) (hu : Upd [] W w1) :
    Calls Tryz.prog 60 #[encD lc] w1 fun e w' => ∃ l', e = .returned (encD l') ∧ BornD W (refillL l.ld) w' l' := by
  have hmv : lc.mv = l.mv := by have := congrArg Ld.mv he; simpa [LdR.ld] using this
  refine (refill_has lc W.heap.size w1 hO hu.size (by rw [he]; exact hf.good) (by rw [he]; exact hf.len) (by rw [hmv]; exact hf.mv)).mono ?_
  rintro e w' ⟨l', rfl, hR⟩
  exact ⟨l', rfl, by rw [hR.eq, he], hR.own.has, fun b hb => hR.own.av hb, hR.fr.upd hu (Nat.le_refl _)⟩
def Peeked (w : World) (p : Ld × It × Bool) (e : Ending) (w' : World) : Prop := ∃ l', e = .returned (.tuple #[encD l', aggI p.2.1, .bool p.2.2]) ∧ BornD w p.1 w' l'
set_option maxRecDepth 100000 in
set_option maxHeartbeats 8000000 in
theorem Peek_has (l : LdR) (w : World) (h : HasD w l) (hf : Fit l) : Calls Tryz.prog 41 #[encD l] w (Peeked w (peekL l.ld)) := by
  have HCL := Lib.hid (fun W (hu : Upd [] w W) => clone_fit l W (h.stay hu) hf)
  have HRF := Lib.hid (fun lc W w1 => refill_fit l lc W w1 hf)
  have HNO : Hid ((refillL l.ld).bot = [] → peekL l.ld = (refillL l.ld, zeroI, false)) := fun hb => (peek_no hb).1
  have HYE : Hid (∀ x xs, (refillL l.ld).bot = x :: xs → peekL l.ld = (refillL l.ld, x, true)) := fun x xs hb => (peek_yes hb).1
  have HLL : Hid (encD l = .agg #[.int .i64 l.ts, .slice l.top.ad l.top.l.length l.top.cap, .slice l.rs.ad l.rs.l.length l.rs.cap, .slice l.bot.ad l.bot.l.length l.bot.cap, .int .i64 l.mv, .int .i64 l.cp]) := rfl
  rw [HLL.out] at HCL ⊢
  generalize refillL l.ld = gl at *
  generalize peekL l.ld = pk at *
  clear h hf
  go_enter Tryz.func41, Tryz.ntmps41
  go_upto_region 1 with (fail)
  generalize hA : (Obj.cells #[.int .i64 l.ts, .slice l.top.ad l.top.l.length l.top.cap, .slice l.rs.ad l.rs.l.length l.rs.cap, .slice l.bot.ad l.bot.l.length l.bot.cap, .int .i64 l.mv, .int .i64 l.cp] 42 : Obj) = A
  generalize hB : (Obj.cells #[.int .i64 0, .slice none 0 0, .slice none 0 0, .slice none 0 0, .int .i64 0, .int .i64 0] 42 : Obj) = B
  generalize hC : (Obj.cells #[.int .i64 0, .int .i64 0, .int .i64 0] 38 : Obj) = C
  obtain ⟨hu, b0', b1', b2', hsz⟩ := three_boxes w A B C
  generalize ((w.alloc A).alloc B).alloc C = W at *
  generalize hH : w.heap.size = H at *
  rw [← hA] at b0'
  rw [← hB] at b1'
  rw [← hC] at b2'
  have b2' : W.heap[H + 1 + 1]? = _ := b2'
  have HU := Lib.hid hu; have HB0 := Lib.hid b0'; have HB1 := Lib.hid b1'; have HB2 := Lib.hid b2'; have HH := Lib.hid hH; have HSZ := Lib.hid hsz
  obtain ⟨c0, c1, c2, c3, c4, c5⟩ := cells6 b0'
  clear hu hA hB hC b0' b1' b2' hH hsz
  go_upto_region 2 with (first
    | (go_at_call 37; (with_reducible refine (HCL.out _ HU.out).mono ?_); rintro e w1 ⟨lc, rfl, he, hO, hu⟩; have HR2 := Lib.hid (HRF.out lc W w1 he hO hu); unfold encD cellsD at HR2; clear he hO hu; unfold encD cellsD)
    | (go_at_call 60; (with_reducible refine HR2.out.mono ?_); rintro e w2 ⟨l', rfl, hBn⟩; have hq := hBn.upd.at HB0.out (by simp); obtain ⟨z0, z1, z2, z3, z4, z5⟩ := free6 hq; obtain ⟨y0, y1, y2, y3, y4, y5⟩ := cells6 hq; have HBN := Lib.hid hBn; have HQF := Lib.hid hq; clear hBn hq))
  have p2 := stored6 HQF.out (.int .i64 l'.ts) (.slice l'.top.ad l'.top.l.length l'.top.cap) (.slice l'.rs.ad l'.rs.l.length l'.rs.cap) (.slice l'.bot.ad l'.bot.l.length l'.bot.cap) (.int .i64 l'.mv) (.int .i64 l'.cp)
  have hU5 := upd_set6 w2 H (.int .i64 l'.ts) (.slice l'.top.ad l'.top.l.length l'.top.cap) (.slice l'.rs.ad l'.rs.l.length l'.rs.cap) (.slice l'.bot.ad l'.bot.l.length l'.bot.cap) (.int .i64 l'.mv) (.int .i64 l'.cp)
  generalize (((((w2.setCell ⟨H, 0, none⟩ (.int .i64 l'.ts)).setCell ⟨H, 1, none⟩ (.slice l'.top.ad l'.top.l.length l'.top.cap)).setCell ⟨H, 2, none⟩ (.slice l'.rs.ad l'.rs.l.length l'.rs.cap)).setCell ⟨H, 3, none⟩ (.slice l'.bot.ad l'.bot.l.length l'.bot.cap)).setCell ⟨H, 4, none⟩ (.int .i64 l'.mv)).setCell ⟨H, 5, none⟩ (.int .i64 l'.cp) = w3 at p2 hU5 ⊢
  have HP2 := Lib.hid p2; have HU5 := Lib.hid hU5
  have q1 := hU5.at (HBN.out.upd.at HB1.out (by simp)) (by simp)
  have q2 := hU5.at (HBN.out.upd.at HB2.out (by simp)) (by simp only [List.mem_singleton]; omega)
  obtain ⟨hasd, hup⟩ := HBN.out.box HU.out (by have := HH.out; omega) (by have := HSZ.out; omega) hU5
  have HQ1 := Lib.hid q1; have HQ2 := Lib.hid q2; have HHS := Lib.hid hasd; have HUP := Lib.hid hup
  clear c0 c1 c2 c3 c4 c5 z0 z1 z2 z3 z4 z5 y0 y1 y2 y3 y4 y5 hU5 hasd hup
  obtain ⟨c0, c1, c2, c3, c4, c5⟩ := cells6 p2
  obtain ⟨y0, y1, y2, y3, y4, y5⟩ := cells6 q1
  obtain ⟨z0, z1, z2, z3, z4, z5⟩ := free6 q1
  obtain ⟨x0, x1, x2⟩ := cells3 q2
  obtain ⟨v0, v1, v2⟩ := free3 q2
  clear p2 q1 q2
  have HBE : Hid (l'.bot.l = gl.bot) := by have := HBN.out.eq; rw [← this]; rfl
  have HFIN : Hid (∀ wf, Upd [H + 1] w3 wf → ∀ wg, Upd [H + 1 + 1] wf wg → BornD w gl wg l') := fun wf h1 wg h2 => by
    have e1 := HH.out; have e2 := HSZ.out
    have a1 := HBN.out.av (H + 1) (by omega)
    have a2 := HBN.out.av (H + 1 + 1) (by omega)
    exact ⟨HBN.out.eq, (HHS.out.keep1 h1 a1).keep1 h2 a2, fun b hb => HBN.out.av b (by omega), (HUP.out.new h1 (by omega)).new h2 (by omega)⟩
  by_cases hb : l'.bot.l.length = 0
  · have d1 : ((l'.bot.l.length : Int) == 0) = true := by simp [hb]
    have hpk := HNO.out (by rw [← HBE.out]; exact List.eq_nil_of_length_eq_zero hb)
    have HPK := Lib.hid hpk
    have HB := Lib.hid hb
    clear hpk hb
    go_wp2_with fail
    have g1 := stored6 HQ1.out (.int .i64 l'.ts) (.slice l'.top.ad l'.top.l.length l'.top.cap) (.slice l'.rs.ad l'.rs.l.length l'.rs.cap) (.slice l'.bot.ad l'.bot.l.length l'.bot.cap) (.int .i64 l'.mv) (.int .i64 l'.cp)
    have u1 := upd_set6 w3 (H + 1) (.int .i64 l'.ts) (.slice l'.top.ad l'.top.l.length l'.top.cap) (.slice l'.rs.ad l'.rs.l.length l'.rs.cap) (.slice l'.bot.ad l'.bot.l.length l'.bot.cap) (.int .i64 l'.mv) (.int .i64 l'.cp)
    have q2 := u1.at HQ2.out (by simp only [List.mem_singleton]; omega)
    generalize (((((w3.setCell ⟨H + 1, 0, none⟩ (.int .i64 l'.ts)).setCell ⟨H + 1, 1, none⟩ (.slice l'.top.ad l'.top.l.length l'.top.cap)).setCell ⟨H + 1, 2, none⟩ (.slice l'.rs.ad l'.rs.l.length l'.rs.cap)).setCell ⟨H + 1, 3, none⟩ (.slice l'.bot.ad l'.bot.l.length l'.bot.cap)).setCell ⟨H + 1, 4, none⟩ (.int .i64 l'.mv)).setCell ⟨H + 1, 5, none⟩ (.int .i64 l'.cp) = w4 at g1 u1 q2 ⊢
    have g2 := stored3 q2 (.int .i64 0) (.int .i64 0) (.int .i64 0)
    have u2 := upd_set3 w4 (H + 1 + 1) (.int .i64 0) (.int .i64 0) (.int .i64 0)
    have g1 := u2.at g1 (by simp only [List.mem_singleton]; omega)
    generalize ((w4.setCell ⟨H + 1 + 1, 0, none⟩ (.int .i64 0)).setCell ⟨H + 1 + 1, 1, none⟩ (.int .i64 0)).setCell ⟨H + 1 + 1, 2, none⟩ (.int .i64 0) = w5 at g1 g2 u2 ⊢
    obtain ⟨r0, r1, r2, r3, r4, r5⟩ := cells6 g1
    obtain ⟨s0, s1, s2⟩ := cells3 g2
    rw [HPK.out]
    exact bodyPost_ret (v := .tuple #[encD l', .agg #[(.int .i64 0), (.int .i64 0), (.int .i64 0)], .bool false]) (by simp [encD, cellsD, results, Tryz.results41, go_sem, r0, r1, r2, r3, r4, r5, s0, s1, s2]) rfl ⟨l', rfl, HFIN.out w4 u1 w5 u2⟩
  · have hb0 : 0 < l'.bot.l.length := by omega
    have d1 : ((l'.bot.l.length : Int) == 0) = false := by simp; intro e; exact hb (by rw [e]; rfl)
    obtain ⟨b, off, e, k0, k1, k2⟩ := HHS.out.bot.row.item 0 hb0
    have hpk := HYE.out (l'.bot.l[0]) (l'.bot.l.drop 1) (by rw [← HBE.out, ← List.drop_eq_getElem_cons hb0]; rfl)
    have HPK := Lib.hid hpk
    rw [Nat.zero_mul, Nat.add_zero] at k0 k1 k2
    have HIT : Hid (aggI l'.bot.l[0] = .agg #[.int .i64 l'.bot.l[0].t, .int .i64 l'.bot.l[0].q, .int .i64 l'.bot.l[0].s]) := rfl
    generalize l'.bot.l[0] = it at *
    generalize hi0 : it.t = i0 at *
    generalize hi1 : it.q = i1 at *
    generalize hi2 : it.s = i2 at *
    have hz : (0 : Int) < (l'.bot.l.length : Int) := by omega
    have HE := Lib.hid e
    clear hpk hi0 hi1 hi2
    have hb1 : b ≠ H + 1 := (HBN.out.av (H + 1) (by have := HSZ.out; omega)).bot (List.length_pos_iff.1 hb0) _ HE.out
    have hb2 : b ≠ H + 1 + 1 := (HBN.out.av (H + 1 + 1) (by have := HSZ.out; omega)).bot (List.length_pos_iff.1 hb0) _ HE.out
    clear e
    rw [HE.out] at c3
    have HKP := Lib.hid (fun W (hu : Upd [H + 1, H + 1 + 1] w3 W) => (⟨hu.cell c0 (by simp; omega), hu.cell c1 (by simp; omega), hu.cell c2 (by simp; omega), hu.cell c3 (by simp; omega), hu.cell c4 (by simp; omega), hu.cell c5 (by simp; omega), hu.cell k0 (by simp; omega), hu.cell k1 (by simp; omega), hu.cell k2 (by simp; omega)⟩ : W.cell? ⟨H, 0, none⟩ = some (.int .i64 l'.ts) ∧ W.cell? ⟨H, 1, none⟩ = some (.slice l'.top.ad l'.top.l.length l'.top.cap) ∧ W.cell? ⟨H, 2, none⟩ = some (.slice l'.rs.ad l'.rs.l.length l'.rs.cap) ∧ W.cell? ⟨H, 3, none⟩ = some (.slice (some ⟨b, off, none⟩) l'.bot.l.length l'.bot.cap) ∧ W.cell? ⟨H, 4, none⟩ = some (.int .i64 l'.mv) ∧ W.cell? ⟨H, 5, none⟩ = some (.int .i64 l'.cp) ∧ W.cell? ⟨b, off, none⟩ = some (.int .i64 i0) ∧ W.cell? ⟨b, off + 1, none⟩ = some (.int .i64 i1) ∧ W.cell? ⟨b, off + 2, none⟩ = some (.int .i64 i2)))
    have HB1 := Lib.hid hb1; have HB2 := Lib.hid hb2
    clear hb1 hb2
    go_upto_region 4 with (fail)
    go_region_held3 (fun wz => wz.cell? ⟨H, 0, none⟩ = some (.int .i64 l'.ts) ∧ wz.cell? ⟨H, 1, none⟩ = some (.slice l'.top.ad l'.top.l.length l'.top.cap) ∧ wz.cell? ⟨H, 2, none⟩ = some (.slice l'.rs.ad l'.rs.l.length l'.rs.cap) ∧ wz.cell? ⟨H, 3, none⟩ = some (.slice (some ⟨b, off, none⟩) l'.bot.l.length l'.bot.cap) ∧ wz.cell? ⟨H, 4, none⟩ = some (.int .i64 l'.mv) ∧ wz.cell? ⟨H, 5, none⟩ = some (.int .i64 l'.cp) ∧ wz.cell? ⟨b, off, none⟩ = some (.int .i64 i0) ∧ wz.cell? ⟨b, off + 1, none⟩ = some (.int .i64 i1) ∧ wz.cell? ⟨b, off + 2, none⟩ = some (.int .i64 i2)) (first | (with_reducible exact ⟨c0, c1, c2, c3, c4, c5, k0, k1, k2⟩) | (refine HKP.out _ ?_; (repeat (first | (with_reducible exact Upd.refl [H + 1, H + 1 + 1] _) | (with_reducible refine Upd.drew ?_) | refine Upd.setCell ?_ (by simp) _)); done)) (first | fail)
    have g1 := stored6 HQ1.out (.int .i64 l'.ts) (.slice l'.top.ad l'.top.l.length l'.top.cap) (.slice l'.rs.ad l'.rs.l.length l'.rs.cap) (.slice (some ⟨b, off, none⟩) l'.bot.l.length l'.bot.cap) (.int .i64 l'.mv) (.int .i64 l'.cp)
    have u1 := upd_set6 w3 (H + 1) (.int .i64 l'.ts) (.slice l'.top.ad l'.top.l.length l'.top.cap) (.slice l'.rs.ad l'.rs.l.length l'.rs.cap) (.slice (some ⟨b, off, none⟩) l'.bot.l.length l'.bot.cap) (.int .i64 l'.mv) (.int .i64 l'.cp)
    have q2 := u1.at HQ2.out (by simp only [List.mem_singleton]; omega)
    generalize (((((w3.setCell ⟨H + 1, 0, none⟩ (.int .i64 l'.ts)).setCell ⟨H + 1, 1, none⟩ (.slice l'.top.ad l'.top.l.length l'.top.cap)).setCell ⟨H + 1, 2, none⟩ (.slice l'.rs.ad l'.rs.l.length l'.rs.cap)).setCell ⟨H + 1, 3, none⟩ (.slice (some ⟨b, off, none⟩) l'.bot.l.length l'.bot.cap)).setCell ⟨H + 1, 4, none⟩ (.int .i64 l'.mv)).setCell ⟨H + 1, 5, none⟩ (.int .i64 l'.cp) = w4 at g1 u1 q2 ⊢
    have g2 := stored3 q2 (.int .i64 i0) (.int .i64 i1) (.int .i64 i2)
    have u2 := upd_set3 w4 (H + 1 + 1) (.int .i64 i0) (.int .i64 i1) (.int .i64 i2)
    have g1 := u2.at g1 (by simp only [List.mem_singleton]; omega)
    generalize ((w4.setCell ⟨H + 1 + 1, 0, none⟩ (.int .i64 i0)).setCell ⟨H + 1 + 1, 1, none⟩ (.int .i64 i1)).setCell ⟨H + 1 + 1, 2, none⟩ (.int .i64 i2) = w5 at g1 g2 u2 ⊢
    have g1 : w5.drew.heap[H + 1]? = _ := g1
    have g2 : w5.drew.heap[H + 1 + 1]? = _ := g2
    have u2 := u2.drew
    generalize w5.drew = w6 at g1 g2 u2 ⊢
    clear c0 c1 c2 c3 c4 c5 k0 k1 k2 x0 x1 x2 y0 y1 y2 y3 y4 y5 z0 z1 z2 z3 z4 z5 v0 v1 v2
    go_wp2_with fail
    obtain ⟨r0, r1, r2, r3, r4, r5⟩ := cells6 g1
    obtain ⟨s0, s1, s2⟩ := cells3 g2
    rw [HPK.out]
    exact bodyPost_ret (v := .tuple #[encD l', .agg #[(.int .i64 i0), (.int .i64 i1), (.int .i64 i2)], .bool true]) (by simp [encD, cellsD, HE.out, results, Tryz.results41, go_sem, r0, r1, r2, r3, r4, r5, s0, s1, s2]) rfl ⟨l', by rw [HIT.out], HFIN.out w4 u1 w6 u2⟩
end Go.Proofs.YtpabapjodcafkaaGreat
namespace Go.Proofs.YtpabapjodcafkaaGreat
open Go.RowKit Go.Lib

theorem drop_has {w : World} {x : It} {xs : List It} {b off c : Nat} (h : HasS LI w ⟨x :: xs, some ⟨b, off, none⟩, c⟩) : HasS LI w ⟨xs, some ⟨b, if 1 < c then off + 3 else off, none⟩, c - 1⟩ := by
  have hle := h.le
  simp only [List.length_cons] at hle
  refine ⟨?_, by simp only; omega, fun e => by simp at e⟩
  by_cases hc : 1 < c
  · simp only [if_pos hc]
    have := h.row.drop 1
    simpa [LI] using this
  · obtain rfl : xs = [] := List.eq_nil_of_length_eq_zero (by omega)
    exact row_nil _ _ _
set_option maxRecDepth 100000 in
set_option maxHeartbeats 8000000 in
theorem Pop_has (l : LdR) (w : World) (h : HasD w l) (hf : Fit l) : Calls Tryz.prog 27 #[encD l] w (Peeked w (popL l.ld)) := by
  have HPE := Lib.hid (fun W (hu : Upd [] w W) => Peek_has l W (h.stay hu) hf)
  have hcase : ((refillL l.ld).bot = [] ∧ peekL l.ld = (refillL l.ld, zeroI, false) ∧ popL l.ld = (refillL l.ld, zeroI, false)) ∨ ∃ x xs, (refillL l.ld).bot = x :: xs ∧ peekL l.ld = (refillL l.ld, x, true) ∧ popL l.ld = ({ refillL l.ld with bot := xs }, x, true) := by
    rcases hb : (refillL l.ld).bot with _ | ⟨x, xs⟩
    · exact .inl ⟨rfl, (peek_no hb).1, (peek_no hb).2⟩
    · exact .inr ⟨x, xs, rfl, (peek_yes hb).1, (peek_yes hb).2⟩
  obtain ⟨it, ok, gp, hpe, hpo, hbt⟩ : ∃ it ok gp, peekL l.ld = (refillL l.ld, it, ok) ∧ popL l.ld = (gp, it, ok) ∧ ((ok = false ∧ gp = refillL l.ld) ∨ ok = true ∧ ∃ xs, (refillL l.ld).bot = it :: xs ∧ gp = { refillL l.ld with bot := xs }) := by
    rcases hcase with ⟨h1, h2, h3⟩ | ⟨x, xs, h1, h2, h3⟩
    · exact ⟨_, _, _, h2, h3, .inl ⟨rfl, rfl⟩⟩
    · exact ⟨_, _, _, h2, h3, .inr ⟨rfl, xs, h1, rfl⟩⟩
  rw [hpe] at HPE
  rw [hpo]
  have HLL : Hid (encD l = .agg #[.int .i64 l.ts, .slice l.top.ad l.top.l.length l.top.cap, .slice l.rs.ad l.rs.l.length l.rs.cap, .slice l.bot.ad l.bot.l.length l.bot.cap, .int .i64 l.mv, .int .i64 l.cp]) := rfl
  rw [HLL.out] at HPE ⊢
  generalize refillL l.ld = gl at *
  obtain ⟨i0, i1, i2⟩ := it
  have HBT := Lib.hid hbt
  clear h hf hcase hpe hpo hbt
  go_enter Tryz.func27, Tryz.ntmps27
  go_upto_region 1 with (fail)
  generalize hA : (Obj.cells #[.int .i64 l.ts, .slice l.top.ad l.top.l.length l.top.cap, .slice l.rs.ad l.rs.l.length l.rs.cap, .slice l.bot.ad l.bot.l.length l.bot.cap, .int .i64 l.mv, .int .i64 l.cp] 42 : Obj) = A
  generalize hB : (Obj.cells #[.int .i64 0, .slice none 0 0, .slice none 0 0, .slice none 0 0, .int .i64 0, .int .i64 0] 42 : Obj) = B
  generalize hC : (Obj.cells #[.int .i64 0, .int .i64 0, .int .i64 0] 38 : Obj) = C
  obtain ⟨hu, b0', b1', b2', hsz⟩ := three_boxes w A B C
  generalize ((w.alloc A).alloc B).alloc C = W at *
  generalize hH : w.heap.size = H at *
  rw [← hA] at b0'
  rw [← hB] at b1'
  rw [← hC] at b2'
  have b2' : W.heap[H + 1 + 1]? = _ := b2'
  have HU := Lib.hid hu; have HB0 := Lib.hid b0'; have HB1 := Lib.hid b1'; have HB2 := Lib.hid b2'; have HH := Lib.hid hH; have HSZ := Lib.hid hsz
  obtain ⟨c0, c1, c2, c3, c4, c5⟩ := cells6 b0'
  clear hu hA hB hC b0' b1' b2' hH hsz
  go_upto_region 2 with (go_at_call 41; go_loud ((with_reducible refine (HPE.out _ HU.out).mono ?_); rintro e w1 ⟨l', rfl, hBn⟩; have hq := hBn.upd.at HB0.out (by simp); have hlt := lt_block hq; have hne : ¬ H = w1.heap.size := (by omega); obtain ⟨z0, z1, z2, z3, z4, z5⟩ := free6 hq; obtain ⟨y0, y1, y2, y3, y4, y5⟩ := cells6 hq; have HBN := Lib.hid hBn; have HQF := Lib.hid hq; clear hBn hq; unfold encD cellsD aggI; simp only))
  have p2 := stored6 HQF.out (.int .i64 l'.ts) (.slice l'.top.ad l'.top.l.length l'.top.cap) (.slice l'.rs.ad l'.rs.l.length l'.rs.cap) (.slice l'.bot.ad l'.bot.l.length l'.bot.cap) (.int .i64 l'.mv) (.int .i64 l'.cp)
  have hU5 := upd_set6 w1 H (.int .i64 l'.ts) (.slice l'.top.ad l'.top.l.length l'.top.cap) (.slice l'.rs.ad l'.rs.l.length l'.rs.cap) (.slice l'.bot.ad l'.bot.l.length l'.bot.cap) (.int .i64 l'.mv) (.int .i64 l'.cp)
  have hs2 : ((((((w1.setCell ⟨H, 0, none⟩ (.int .i64 l'.ts)).setCell ⟨H, 1, none⟩ (.slice l'.top.ad l'.top.l.length l'.top.cap)).setCell ⟨H, 2, none⟩ (.slice l'.rs.ad l'.rs.l.length l'.rs.cap)).setCell ⟨H, 3, none⟩ (.slice l'.bot.ad l'.bot.l.length l'.bot.cap)).setCell ⟨H, 4, none⟩ (.int .i64 l'.mv)).setCell ⟨H, 5, none⟩ (.int .i64 l'.cp)).heap.size = w1.heap.size := by simp [World.setCell]
  have hPG : H + 2 < w1.heap.size := by have h1 := HBN.out.upd.size; have h2 := HSZ.out; omega
  generalize (((((w1.setCell ⟨H, 0, none⟩ (.int .i64 l'.ts)).setCell ⟨H, 1, none⟩ (.slice l'.top.ad l'.top.l.length l'.top.cap)).setCell ⟨H, 2, none⟩ (.slice l'.rs.ad l'.rs.l.length l'.rs.cap)).setCell ⟨H, 3, none⟩ (.slice l'.bot.ad l'.bot.l.length l'.bot.cap)).setCell ⟨H, 4, none⟩ (.int .i64 l'.mv)).setCell ⟨H, 5, none⟩ (.int .i64 l'.cp) = w2 at p2 hU5 hs2 ⊢
  have q1 := hU5.at (HBN.out.upd.at HB1.out (by simp)) (by simp)
  have q2 := hU5.at (HBN.out.upd.at HB2.out (by simp)) (by simp only [List.mem_singleton]; omega)
  obtain ⟨hasd, hup⟩ := HBN.out.box HU.out (by have := HH.out; omega) (by have := HSZ.out; omega) hU5
  have ha := (Upd.refl [] w2).alloc (.cells #[.int .i64 i0, .int .i64 i1, .int .i64 i2] 38)
  have bp : (w2.alloc (.cells #[.int .i64 i0, .int .i64 i1, .int .i64 i2] 38)).heap[w1.heap.size]? = _ := heap_alloc_at _ hs2.symm
  have Q0 := Lib.hid (ha.at p2 (by simp)); have Q1 := Lib.hid (ha.at q1 (by simp)); have Q2 := Lib.hid (ha.at q2 (by simp)); have QP := Lib.hid bp
  have HHS := Lib.hid (hasd.stay ha); have HUP := Lib.hid (hup.thn ha)
  have HPG := Lib.hid hPG
  clear p2 hU5 hs2 hPG q1 q2 hasd hup ha bp z0 z1 z2 z3 z4 z5 y0 y1 y2 y3 y4 y5 c0 c1 c2 c3 c4 c5 hlt hne
  generalize w2.alloc (.cells #[.int .i64 i0, .int .i64 i1, .int .i64 i2] 38) = w3 at *
  generalize w1.heap.size = P at *
  have HFIN : Hid (∀ (wz : World) (lf : LdR) (gf : Ld), lf.ld = gf → HasD wz lf → Upd [] w wz → (∀ b, b < W.heap.size → AvD lf b) → ∀ wf, Upd [H + 1] wz wf → ∀ wg, Upd [H + 1 + 1] wf wg → BornD w gf wg lf) := fun wz lf gf he hh hu hav wf h1 wg h2 => by
    have e1 := HH.out; have e2 := HSZ.out
    exact ⟨he, (hh.keep1 h1 (hav (H + 1) (by omega))).keep1 h2 (hav (H + 1 + 1) (by omega)), fun b hb => hav b (by omega), (hu.new h1 (by omega)).new h2 (by omega)⟩
  cases ok with
  | false =>
    have hgp : gp = gl := by
      rcases HBT.out with ⟨_, h⟩ | ⟨h, _⟩
      · exact h
      · simp at h
    subst hgp
    obtain ⟨c0, c1, c2, c3, c4, c5⟩ := cells6 Q0.out
    obtain ⟨k0, k1, k2⟩ := cells3 QP.out
    obtain ⟨y0, y1, y2, y3, y4, y5⟩ := cells6 Q1.out
    obtain ⟨z0, z1, z2, z3, z4, z5⟩ := free6 Q1.out
    obtain ⟨x0, x1, x2⟩ := cells3 Q2.out
    obtain ⟨v0, v1, v2⟩ := free3 Q2.out
    have HKP := Lib.hid (fun W (hu : Upd [H + 1, H + 1 + 1] w3 W) => (⟨hu.cell c0 (by simp; omega), hu.cell c1 (by simp; omega), hu.cell c2 (by simp; omega), hu.cell c3 (by simp; omega), hu.cell c4 (by simp; omega), hu.cell c5 (by simp; omega), hu.cell k0 (by have := HPG.out; simp; omega), hu.cell k1 (by have := HPG.out; simp; omega), hu.cell k2 (by have := HPG.out; simp; omega)⟩ : W.cell? ⟨H, 0, none⟩ = some (.int .i64 l'.ts) ∧ W.cell? ⟨H, 1, none⟩ = some (.slice l'.top.ad l'.top.l.length l'.top.cap) ∧ W.cell? ⟨H, 2, none⟩ = some (.slice l'.rs.ad l'.rs.l.length l'.rs.cap) ∧ W.cell? ⟨H, 3, none⟩ = some (.slice l'.bot.ad l'.bot.l.length l'.bot.cap) ∧ W.cell? ⟨H, 4, none⟩ = some (.int .i64 l'.mv) ∧ W.cell? ⟨H, 5, none⟩ = some (.int .i64 l'.cp) ∧ W.cell? ⟨P, 0, none⟩ = some (.int .i64 i0) ∧ W.cell? ⟨P, 1, none⟩ = some (.int .i64 i1) ∧ W.cell? ⟨P, 2, none⟩ = some (.int .i64 i2)))
    go_upto_region 4 with (fail)
    go_region_held3 (fun wz => wz.cell? ⟨H, 0, none⟩ = some (.int .i64 l'.ts) ∧ wz.cell? ⟨H, 1, none⟩ = some (.slice l'.top.ad l'.top.l.length l'.top.cap) ∧ wz.cell? ⟨H, 2, none⟩ = some (.slice l'.rs.ad l'.rs.l.length l'.rs.cap) ∧ wz.cell? ⟨H, 3, none⟩ = some (.slice l'.bot.ad l'.bot.l.length l'.bot.cap) ∧ wz.cell? ⟨H, 4, none⟩ = some (.int .i64 l'.mv) ∧ wz.cell? ⟨H, 5, none⟩ = some (.int .i64 l'.cp) ∧ wz.cell? ⟨P, 0, none⟩ = some (.int .i64 i0) ∧ wz.cell? ⟨P, 1, none⟩ = some (.int .i64 i1) ∧ wz.cell? ⟨P, 2, none⟩ = some (.int .i64 i2)) (first | (with_reducible exact ⟨c0, c1, c2, c3, c4, c5, k0, k1, k2⟩) | (refine HKP.out _ ?_; (repeat (first | (with_reducible exact Upd.refl [H + 1, H + 1 + 1] _) | (with_reducible refine Upd.drew ?_) | refine Upd.setCell ?_ (by simp) _)); done)) (first | fail)
    have g1 := stored6 Q1.out (.int .i64 l'.ts) (.slice l'.top.ad l'.top.l.length l'.top.cap) (.slice l'.rs.ad l'.rs.l.length l'.rs.cap) (.slice l'.bot.ad l'.bot.l.length l'.bot.cap) (.int .i64 l'.mv) (.int .i64 l'.cp)
    have u1 := upd_set6 w3 (H + 1) (.int .i64 l'.ts) (.slice l'.top.ad l'.top.l.length l'.top.cap) (.slice l'.rs.ad l'.rs.l.length l'.rs.cap) (.slice l'.bot.ad l'.bot.l.length l'.bot.cap) (.int .i64 l'.mv) (.int .i64 l'.cp)
    have q2 := u1.at Q2.out (by simp only [List.mem_singleton]; omega)
    with_reducible generalize (((((w3.setCell ⟨H + 1, 0, none⟩ (.int .i64 l'.ts)).setCell ⟨H + 1, 1, none⟩ (.slice l'.top.ad l'.top.l.length l'.top.cap)).setCell ⟨H + 1, 2, none⟩ (.slice l'.rs.ad l'.rs.l.length l'.rs.cap)).setCell ⟨H + 1, 3, none⟩ (.slice l'.bot.ad l'.bot.l.length l'.bot.cap)).setCell ⟨H + 1, 4, none⟩ (.int .i64 l'.mv)).setCell ⟨H + 1, 5, none⟩ (.int .i64 l'.cp) = w7 at g1 u1 q2 ⊢
    have g2 := stored3 q2 (.int .i64 i0) (.int .i64 i1) (.int .i64 i2)
    have u2 := upd_set3 w7 (H + 1 + 1) (.int .i64 i0) (.int .i64 i1) (.int .i64 i2)
    have g1 := u2.at g1 (by simp only [List.mem_singleton]; omega)
    with_reducible generalize ((w7.setCell ⟨H + 1 + 1, 0, none⟩ (.int .i64 i0)).setCell ⟨H + 1 + 1, 1, none⟩ (.int .i64 i1)).setCell ⟨H + 1 + 1, 2, none⟩ (.int .i64 i2) = w8 at g1 g2 u2 ⊢
    have g1 : w8.drew.heap[H + 1]? = _ := g1
    have g2 : w8.drew.heap[H + 1 + 1]? = _ := g2
    have u2 := u2.drew
    generalize w8.drew = w9 at g1 g2 u2 ⊢
    clear c0 c1 c2 c3 c4 c5 k0 k1 k2 x0 x1 x2 y0 y1 y2 y3 y4 y5 z0 z1 z2 z3 z4 z5 v0 v1 v2
    go_wp2_with fail
    obtain ⟨r0, r1, r2, r3, r4, r5⟩ := cells6 g1
    obtain ⟨s0, s1, s2⟩ := cells3 g2
    exact bodyPost_ret (v := .tuple #[.agg #[.int .i64 l'.ts, .slice l'.top.ad l'.top.l.length l'.top.cap, .slice l'.rs.ad l'.rs.l.length l'.rs.cap, .slice l'.bot.ad l'.bot.l.length l'.bot.cap, .int .i64 l'.mv, .int .i64 l'.cp], .agg #[.int .i64 i0, .int .i64 i1, .int .i64 i2], .bool false]) (by simp [results, Tryz.results27, go_sem, r0, r1, r2, r3, r4, r5, s0, s1, s2]) rfl (⟨l', by simp only [encD, cellsD, aggI], HFIN.out w3 l' gp HBN.out.eq HHS.out HUP.out HBN.out.av w7 u1 w9 u2⟩)
  | true =>
    obtain ⟨xs, hb, hg⟩ : ∃ xs, gl.bot = ⟨i0, i1, i2⟩ :: xs ∧ gp = { gl with bot := xs } := by
      rcases HBT.out with ⟨h, _⟩ | ⟨_, h⟩
      · simp at h
      · exact h
    have hlb : l'.bot.l = ⟨i0, i1, i2⟩ :: xs := (congrArg Ld.bot HBN.out.eq : l'.ld.bot = gl.bot).trans hb
    obtain ⟨b, off, e, hrw⟩ := HHS.out.bot.row 0 (by rw [hlb]; simp)
    have hle := HHS.out.bot.le
    have hnb : 1 ≤ l'.bot.l.length := by rw [hlb]; simp
    have HXL : Hid (xs.length = l'.bot.l.length - 1) := by rw [hlb]; rfl
    have hbot : HasS LI w3 ⟨⟨i0, i1, i2⟩ :: xs, some ⟨b, off, none⟩, l'.bot.cap⟩ := by
      have h1 : HasS LI w3 ⟨l'.bot.l, l'.bot.ad, l'.bot.cap⟩ := HHS.out.bot
      rw [hlb, e] at h1
      exact h1
    have HLG : Hid (∀ wz, Upd [H] w3 wz → (⟨l'.ts, l'.top, l'.rs, ⟨xs, some ⟨b, if 1 < l'.bot.cap then off + 3 else off, none⟩, l'.bot.cap - 1⟩, l'.mv, l'.cp⟩ : LdR).ld = gp ∧ HasD wz ⟨l'.ts, l'.top, l'.rs, ⟨xs, some ⟨b, if 1 < l'.bot.cap then off + 3 else off, none⟩, l'.bot.cap - 1⟩, l'.mv, l'.cp⟩ ∧ Upd [] w wz ∧ ∀ x, x < W.heap.size → AvD ⟨l'.ts, l'.top, l'.rs, ⟨xs, some ⟨b, if 1 < l'.bot.cap then off + 3 else off, none⟩, l'.bot.cap - 1⟩, l'.mv, l'.cp⟩ x) := fun wz hu => by
      have hav : ∀ x, x < W.heap.size → AvD ⟨l'.ts, l'.top, l'.rs, ⟨xs, some ⟨b, if 1 < l'.bot.cap then off + 3 else off, none⟩, l'.bot.cap - 1⟩, l'.mv, l'.cp⟩ x := fun x hx => by
        have h0 := HBN.out.av x hx
        refine ⟨h0.top, h0.rs, h0.rg, fun _ a ea => ?_⟩
        obtain rfl := Option.some.inj ea
        exact (h0.bot (by rw [hlb]; simp) ⟨b, off, none⟩ e : b ≠ x)
      have e1 := HH.out; have e2 := HSZ.out
      refine ⟨?_, HasD.keep1 ⟨HHS.out.top, HHS.out.rs, HHS.out.rg, drop_has hbot⟩ hu (hav H (by omega)), HUP.out.new hu (by omega), hav⟩
      have eg : l'.ld = gl := HBN.out.eq
      rw [hg, ← eg]
      rfl
    have HE := Lib.hid e
    have hz1 : (1 : Int) ≤ (l'.bot.l.length : Int) := by omega
    clear hrw e hb hg hlb hbot
    by_cases hc : 1 < l'.bot.cap
    · have HOI : Hid ((if 1 < l'.bot.cap then off + 3 else off) = off + 3) := if_pos hc
      rw [HOI.out] at HLG
      have c3 := (cells6 Q0.out).2.2.2.1
      have z3 := (free6 Q0.out).2.2.2.1
      rw [HE.out] at c3
      go_upto_region 4 with (fail)
      have p3 : (w3.setCell ⟨H, 3, none⟩ (.slice (some ⟨b, off + 3, none⟩) (l'.bot.l.length - 1) (l'.bot.cap - 1))).heap[H]? = some (.cells #[.int .i64 l'.ts, .slice l'.top.ad l'.top.l.length l'.top.cap, .slice l'.rs.ad l'.rs.l.length l'.rs.cap, .slice (some ⟨b, off + 3, none⟩) (l'.bot.l.length - 1) (l'.bot.cap - 1), .int .i64 l'.mv, .int .i64 l'.cp] 42 (0, 0)) := setCell_block Q0.out _
      have hu3 := upd_set1 w3 H 3 (.slice (some ⟨b, off + 3, none⟩) (l'.bot.l.length - 1) (l'.bot.cap - 1))
      have q1 := hu3.at Q1.out (by simp)
      have q2 := hu3.at Q2.out (by simp only [List.mem_singleton]; omega)
      have qp := hu3.at QP.out (by have := HPG.out; simp only [List.mem_singleton]; omega)
      have HLF := Lib.hid (HLG.out _ hu3)
      with_reducible generalize w3.setCell ⟨H, 3, none⟩ (.slice (some ⟨b, off + 3, none⟩) (l'.bot.l.length - 1) (l'.bot.cap - 1)) = w4 at p3 hu3 q1 q2 qp HLF ⊢
      have Q0 := Lib.hid p3; have Q1 := Lib.hid q1; have Q2 := Lib.hid q2; have QP := Lib.hid qp
      clear c3 z3 p3 hu3 q1 q2 qp
      obtain ⟨c0, c1, c2, c3, c4, c5⟩ := cells6 Q0.out
      obtain ⟨k0, k1, k2⟩ := cells3 QP.out
      obtain ⟨y0, y1, y2, y3, y4, y5⟩ := cells6 Q1.out
      obtain ⟨z0, z1, z2, z3, z4, z5⟩ := free6 Q1.out
      obtain ⟨x0, x1, x2⟩ := cells3 Q2.out
      obtain ⟨v0, v1, v2⟩ := free3 Q2.out
      have HKP := Lib.hid (fun W (hu : Upd [H + 1, H + 1 + 1] w4 W) => (⟨hu.cell c0 (by simp; omega), hu.cell c1 (by simp; omega), hu.cell c2 (by simp; omega), hu.cell c3 (by simp; omega), hu.cell c4 (by simp; omega), hu.cell c5 (by simp; omega), hu.cell k0 (by have := HPG.out; simp; omega), hu.cell k1 (by have := HPG.out; simp; omega), hu.cell k2 (by have := HPG.out; simp; omega)⟩ : W.cell? ⟨H, 0, none⟩ = some (.int .i64 l'.ts) ∧ W.cell? ⟨H, 1, none⟩ = some (.slice l'.top.ad l'.top.l.length l'.top.cap) ∧ W.cell? ⟨H, 2, none⟩ = some (.slice l'.rs.ad l'.rs.l.length l'.rs.cap) ∧ W.cell? ⟨H, 3, none⟩ = some (.slice (some ⟨b, off + 3, none⟩) (l'.bot.l.length - 1) (l'.bot.cap - 1)) ∧ W.cell? ⟨H, 4, none⟩ = some (.int .i64 l'.mv) ∧ W.cell? ⟨H, 5, none⟩ = some (.int .i64 l'.cp) ∧ W.cell? ⟨P, 0, none⟩ = some (.int .i64 i0) ∧ W.cell? ⟨P, 1, none⟩ = some (.int .i64 i1) ∧ W.cell? ⟨P, 2, none⟩ = some (.int .i64 i2)))
      go_upto_region 4 with (fail)
      go_region_held3 (fun wz => wz.cell? ⟨H, 0, none⟩ = some (.int .i64 l'.ts) ∧ wz.cell? ⟨H, 1, none⟩ = some (.slice l'.top.ad l'.top.l.length l'.top.cap) ∧ wz.cell? ⟨H, 2, none⟩ = some (.slice l'.rs.ad l'.rs.l.length l'.rs.cap) ∧ wz.cell? ⟨H, 3, none⟩ = some (.slice (some ⟨b, off + 3, none⟩) (l'.bot.l.length - 1) (l'.bot.cap - 1)) ∧ wz.cell? ⟨H, 4, none⟩ = some (.int .i64 l'.mv) ∧ wz.cell? ⟨H, 5, none⟩ = some (.int .i64 l'.cp) ∧ wz.cell? ⟨P, 0, none⟩ = some (.int .i64 i0) ∧ wz.cell? ⟨P, 1, none⟩ = some (.int .i64 i1) ∧ wz.cell? ⟨P, 2, none⟩ = some (.int .i64 i2)) (first | (with_reducible exact ⟨c0, c1, c2, c3, c4, c5, k0, k1, k2⟩) | (refine HKP.out _ ?_; (repeat (first | (with_reducible exact Upd.refl [H + 1, H + 1 + 1] _) | (with_reducible refine Upd.drew ?_) | refine Upd.setCell ?_ (by simp) _)); done)) (first | fail)
      have g1 := stored6 Q1.out (.int .i64 l'.ts) (.slice l'.top.ad l'.top.l.length l'.top.cap) (.slice l'.rs.ad l'.rs.l.length l'.rs.cap) (.slice (some ⟨b, off + 3, none⟩) (l'.bot.l.length - 1) (l'.bot.cap - 1)) (.int .i64 l'.mv) (.int .i64 l'.cp)
      have u1 := upd_set6 w4 (H + 1) (.int .i64 l'.ts) (.slice l'.top.ad l'.top.l.length l'.top.cap) (.slice l'.rs.ad l'.rs.l.length l'.rs.cap) (.slice (some ⟨b, off + 3, none⟩) (l'.bot.l.length - 1) (l'.bot.cap - 1)) (.int .i64 l'.mv) (.int .i64 l'.cp)
      have q2 := u1.at Q2.out (by simp only [List.mem_singleton]; omega)
      with_reducible generalize (((((w4.setCell ⟨H + 1, 0, none⟩ (.int .i64 l'.ts)).setCell ⟨H + 1, 1, none⟩ (.slice l'.top.ad l'.top.l.length l'.top.cap)).setCell ⟨H + 1, 2, none⟩ (.slice l'.rs.ad l'.rs.l.length l'.rs.cap)).setCell ⟨H + 1, 3, none⟩ (.slice (some ⟨b, off + 3, none⟩) (l'.bot.l.length - 1) (l'.bot.cap - 1))).setCell ⟨H + 1, 4, none⟩ (.int .i64 l'.mv)).setCell ⟨H + 1, 5, none⟩ (.int .i64 l'.cp) = w7 at g1 u1 q2 ⊢
      have g2 := stored3 q2 (.int .i64 i0) (.int .i64 i1) (.int .i64 i2)
      have u2 := upd_set3 w7 (H + 1 + 1) (.int .i64 i0) (.int .i64 i1) (.int .i64 i2)
      have g1 := u2.at g1 (by simp only [List.mem_singleton]; omega)
      with_reducible generalize ((w7.setCell ⟨H + 1 + 1, 0, none⟩ (.int .i64 i0)).setCell ⟨H + 1 + 1, 1, none⟩ (.int .i64 i1)).setCell ⟨H + 1 + 1, 2, none⟩ (.int .i64 i2) = w8 at g1 g2 u2 ⊢
      have g1 : w8.drew.heap[H + 1]? = _ := g1
      have g2 : w8.drew.heap[H + 1 + 1]? = _ := g2
      have u2 := u2.drew
      generalize w8.drew = w9 at g1 g2 u2 ⊢
      clear c0 c1 c2 c3 c4 c5 k0 k1 k2 x0 x1 x2 y0 y1 y2 y3 y4 y5 z0 z1 z2 z3 z4 z5 v0 v1 v2
      go_wp2_with fail
      obtain ⟨r0, r1, r2, r3, r4, r5⟩ := cells6 g1
      obtain ⟨s0, s1, s2⟩ := cells3 g2
      exact bodyPost_ret (v := .tuple #[.agg #[.int .i64 l'.ts, .slice l'.top.ad l'.top.l.length l'.top.cap, .slice l'.rs.ad l'.rs.l.length l'.rs.cap, .slice (some ⟨b, off + 3, none⟩) (l'.bot.l.length - 1) (l'.bot.cap - 1), .int .i64 l'.mv, .int .i64 l'.cp], .agg #[.int .i64 i0, .int .i64 i1, .int .i64 i2], .bool true]) (by simp [results, Tryz.results27, go_sem, r0, r1, r2, r3, r4, r5, s0, s1, s2]) rfl (⟨_, by simp only [encD, cellsD, aggI, HXL.out], HFIN.out w4 _ gp HLF.out.1 HLF.out.2.1 HLF.out.2.2.1 HLF.out.2.2.2 w7 u1 w9 u2⟩)
    · have HOI : Hid ((if 1 < l'.bot.cap then off + 3 else off) = off) := if_neg hc
      rw [HOI.out] at HLG
      have hc1 : l'.bot.cap = 1 := by omega
      have hn1 : l'.bot.l.length = 1 := by omega
      have c3 := (cells6 Q0.out).2.2.2.1
      have z3 := (free6 Q0.out).2.2.2.1
      rw [HE.out] at c3
      go_upto_region 4 with (fail)
      have p3 : (w3.setCell ⟨H, 3, none⟩ (.slice (some ⟨b, off, none⟩) 0 0)).heap[H]? = some (.cells #[.int .i64 l'.ts, .slice l'.top.ad l'.top.l.length l'.top.cap, .slice l'.rs.ad l'.rs.l.length l'.rs.cap, .slice (some ⟨b, off, none⟩) 0 0, .int .i64 l'.mv, .int .i64 l'.cp] 42 (0, 0)) := setCell_block Q0.out _
      have hu3 := upd_set1 w3 H 3 (.slice (some ⟨b, off, none⟩) 0 0)
      have q1 := hu3.at Q1.out (by simp)
      have q2 := hu3.at Q2.out (by simp only [List.mem_singleton]; omega)
      have qp := hu3.at QP.out (by have := HPG.out; simp only [List.mem_singleton]; omega)
      have HLF := Lib.hid (HLG.out _ hu3)
      with_reducible generalize w3.setCell ⟨H, 3, none⟩ (.slice (some ⟨b, off, none⟩) 0 0) = w4 at p3 hu3 q1 q2 qp HLF ⊢
      have Q0 := Lib.hid p3; have Q1 := Lib.hid q1; have Q2 := Lib.hid q2; have QP := Lib.hid qp
      clear c3 z3 p3 hu3 q1 q2 qp
      obtain ⟨c0, c1, c2, c3, c4, c5⟩ := cells6 Q0.out
      obtain ⟨k0, k1, k2⟩ := cells3 QP.out
      obtain ⟨y0, y1, y2, y3, y4, y5⟩ := cells6 Q1.out
      obtain ⟨z0, z1, z2, z3, z4, z5⟩ := free6 Q1.out
      obtain ⟨x0, x1, x2⟩ := cells3 Q2.out
      obtain ⟨v0, v1, v2⟩ := free3 Q2.out
      have HKP := Lib.hid (fun W (hu : Upd [H + 1, H + 1 + 1] w4 W) => (⟨hu.cell c0 (by simp; omega), hu.cell c1 (by simp; omega), hu.cell c2 (by simp; omega), hu.cell c3 (by simp; omega), hu.cell c4 (by simp; omega), hu.cell c5 (by simp; omega), hu.cell k0 (by have := HPG.out; simp; omega), hu.cell k1 (by have := HPG.out; simp; omega), hu.cell k2 (by have := HPG.out; simp; omega)⟩ : W.cell? ⟨H, 0, none⟩ = some (.int .i64 l'.ts) ∧ W.cell? ⟨H, 1, none⟩ = some (.slice l'.top.ad l'.top.l.length l'.top.cap) ∧ W.cell? ⟨H, 2, none⟩ = some (.slice l'.rs.ad l'.rs.l.length l'.rs.cap) ∧ W.cell? ⟨H, 3, none⟩ = some (.slice (some ⟨b, off, none⟩) 0 0) ∧ W.cell? ⟨H, 4, none⟩ = some (.int .i64 l'.mv) ∧ W.cell? ⟨H, 5, none⟩ = some (.int .i64 l'.cp) ∧ W.cell? ⟨P, 0, none⟩ = some (.int .i64 i0) ∧ W.cell? ⟨P, 1, none⟩ = some (.int .i64 i1) ∧ W.cell? ⟨P, 2, none⟩ = some (.int .i64 i2)))
      go_upto_region 4 with (fail)
      go_region_held3 (fun wz => wz.cell? ⟨H, 0, none⟩ = some (.int .i64 l'.ts) ∧ wz.cell? ⟨H, 1, none⟩ = some (.slice l'.top.ad l'.top.l.length l'.top.cap) ∧ wz.cell? ⟨H, 2, none⟩ = some (.slice l'.rs.ad l'.rs.l.length l'.rs.cap) ∧ wz.cell? ⟨H, 3, none⟩ = some (.slice (some ⟨b, off, none⟩) 0 0) ∧ wz.cell? ⟨H, 4, none⟩ = some (.int .i64 l'.mv) ∧ wz.cell? ⟨H, 5, none⟩ = some (.int .i64 l'.cp) ∧ wz.cell? ⟨P, 0, none⟩ = some (.int .i64 i0) ∧ wz.cell? ⟨P, 1, none⟩ = some (.int .i64 i1) ∧ wz.cell? ⟨P, 2, none⟩ = some (.int .i64 i2)) (first | (with_reducible exact ⟨c0, c1, c2, c3, c4, c5, k0, k1, k2⟩) | (refine HKP.out _ ?_; (repeat (first | (with_reducible exact Upd.refl [H + 1, H + 1 + 1] _) | (with_reducible refine Upd.drew ?_) | refine Upd.setCell ?_ (by simp) _)); done)) (first | fail)
      have g1 := stored6 Q1.out (.int .i64 l'.ts) (.slice l'.top.ad l'.top.l.length l'.top.cap) (.slice l'.rs.ad l'.rs.l.length l'.rs.cap) (.slice (some ⟨b, off, none⟩) 0 0) (.int .i64 l'.mv) (.int .i64 l'.cp)
      have u1 := upd_set6 w4 (H + 1) (.int .i64 l'.ts) (.slice l'.top.ad l'.top.l.length l'.top.cap) (.slice l'.rs.ad l'.rs.l.length l'.rs.cap) (.slice (some ⟨b, off, none⟩) 0 0) (.int .i64 l'.mv) (.int .i64 l'.cp)
      have q2 := u1.at Q2.out (by simp only [List.mem_singleton]; omega)
      with_reducible generalize (((((w4.setCell ⟨H + 1, 0, none⟩ (.int .i64 l'.ts)).setCell ⟨H + 1, 1, none⟩ (.slice l'.top.ad l'.top.l.length l'.top.cap)).setCell ⟨H + 1, 2, none⟩ (.slice l'.rs.ad l'.rs.l.length l'.rs.cap)).setCell ⟨H + 1, 3, none⟩ (.slice (some ⟨b, off, none⟩) 0 0)).setCell ⟨H + 1, 4, none⟩ (.int .i64 l'.mv)).setCell ⟨H + 1, 5, none⟩ (.int .i64 l'.cp) = w7 at g1 u1 q2 ⊢
      have g2 := stored3 q2 (.int .i64 i0) (.int .i64 i1) (.int .i64 i2)
      have u2 := upd_set3 w7 (H + 1 + 1) (.int .i64 i0) (.int .i64 i1) (.int .i64 i2)
      have g1 := u2.at g1 (by simp only [List.mem_singleton]; omega)
      with_reducible generalize ((w7.setCell ⟨H + 1 + 1, 0, none⟩ (.int .i64 i0)).setCell ⟨H + 1 + 1, 1, none⟩ (.int .i64 i1)).setCell ⟨H + 1 + 1, 2, none⟩ (.int .i64 i2) = w8 at g1 g2 u2 ⊢
      have g1 : w8.drew.heap[H + 1]? = _ := g1
      have g2 : w8.drew.heap[H + 1 + 1]? = _ := g2
      have u2 := u2.drew
      generalize w8.drew = w9 at g1 g2 u2 ⊢
      clear c0 c1 c2 c3 c4 c5 k0 k1 k2 x0 x1 x2 y0 y1 y2 y3 y4 y5 z0 z1 z2 z3 z4 z5 v0 v1 v2
      go_wp2_with fail
      obtain ⟨r0, r1, r2, r3, r4, r5⟩ := cells6 g1
      obtain ⟨s0, s1, s2⟩ := cells3 g2
      exact bodyPost_ret (v := .tuple #[.agg #[.int .i64 l'.ts, .slice l'.top.ad l'.top.l.length l'.top.cap, .slice l'.rs.ad l'.rs.l.length l'.rs.cap, .slice (some ⟨b, off, none⟩) 0 0, .int .i64 l'.mv, .int .i64 l'.cp], .agg #[.int .i64 i0, .int .i64 i1, .int .i64 i2], .bool true]) (by simp [results, Tryz.results27, go_sem, r0, r1, r2, r3, r4, r5, s0, s1, s2]) rfl (⟨_, by simp only [encD, cellsD, aggI, HXL.out, hn1, hc1, Nat.sub_self], HFIN.out w4 _ gp HLF.out.1 HLF.out.2.1 HLF.out.2.2.1 HLF.out.2.2.2 w7 u1 w9 u2⟩)
end Go.Proofs.YtpabapjodcafkaaGreat
