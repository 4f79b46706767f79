/- Contract: the reference's fromTop. -/
/- Contract: slices.Insert over items, of one item into a row of the call's own. -/
/- Contract: slices.Insert over items, ahead of the end. -/
import Derived.Test.YtneodiemgemhfaaGreatQJ
import Derived.Test.YtneodiemgemhfaaGreatPP
import Derived.Test.YtneodiemgemhfaaGreatPE
import Derived.Test.YtneodiemgemhfaaGreatPB
import Derived.Shelf.Spec.SlicesInsert
import Derived.Lib.AppendZerosOnto
import Derived.Laws.NewBlocks
namespace Go.Proofs.YtneodiemgemhfaaGreat
open Go.RowKit Go.Lib

/-- A call made a queue out of the one in the box, and the result's box is written. -/
theorem InD.next {w0 W : World} {P R : Nat} {l0 : LdR} {wr w2 wf : World} {l l2 : LdR} {g : Ld} (h : InD w0 W P l0 wr l) (hn : NxtD wr l g w2 l2) (hR : w0.heap.size ≤ R) (hRW : R < W.heap.size) (hu : Upd [R] w2 wf) : NxtD w0 l0 g wf l2 := by
  have hsz := h.upd.size
  exact ⟨hn.eq, hn.has.keep1 hu (hn.av R (by omega) (h.avW hR hRW)), fun b hb ha => by
    have hbW : b < W.heap.size := Nat.lt_of_lt_of_le hb h.up0.size
    exact hn.av b (by omega) (h.av b hbW ha), (h.up.thn hn.upd).new hu hR⟩
set_option maxRecDepth 100000 in
set_option maxHeartbeats 8000000 in
theorem RFromTop_has (l : LdR) (w : World) (h : HasD w l) (hg : GoodL l.ld) (hlen : lenD l.ld ≤ 100000) (hmv : 0 ≤ l.mv ∧ l.mv ≤ 1000000000000) (ht0 : 0 < l.top.l.length) :
    Calls Tryz.prog 60 #[encD l] w (GivesRD l (fromTop l.ld) w) := by
  have htn : l.top.l.length ≤ 100000 := by
    simp only [lenD, LdR.ld] at hlen
    omega
  have hrl : l.rs.l.length ≤ 4 := by have := hg.len; simpa [LdR.ld] using this
  obtain ⟨x, hx⟩ : ∃ x, x = l.top.l[0].t := ⟨_, rfl⟩
  have hxd : (l.top.l.headD default).t = x := by
    rw [hx, headD_zero ht0]
  have hbd : 0 ≤ minT x l.top.l ∧ minT x l.top.l ≤ maxT x l.top.l ∧ maxT x l.top.l ≤ 1152921504606846976 := by
    have htt : ∀ it ∈ l.top.l, 0 ≤ it.t ∧ it.t ≤ 1152921504606846976 := fun it hit => by have := hg.top it hit; have := hg.ts0; unfold MaxT at *; omega
    obtain ⟨mn1, mn2, mn3⟩ := minT_le l.top.l x
    obtain ⟨mx1, mx2, mx3⟩ := maxT_le l.top.l x
    have hx0 := htt _ (List.getElem_mem ht0)
    rw [← hx] at hx0
    refine ⟨?_, by omega, ?_⟩
    · rcases mn3 with h | ⟨it, hit, h⟩
      · omega
      · have := htt it hit; omega
    · rcases mx3 with h | ⟨it, hit, h⟩
      · omega
      · have := htt it hit; omega
  have HS1 := Lib.hid (fun k (h : k < l.top.l.length) => minT_succ (x := x) h)
  have HS2 := Lib.hid (fun k (h : k < l.top.l.length) => maxT_succ (x := x) h)
  have hz1 : minT x (l.top.l.take 0) = x := rfl
  have hz2 : maxT x (l.top.l.take 0) = x := rfl
  have HZ := Lib.hid (And.intro hz1 hz2)
  have HEN : Hid (minT x (l.top.l.take l.top.l.length) = minT x l.top.l ∧ maxT x (l.top.l.take l.top.l.length) = maxT x l.top.l) := by rw [List.take_length]; exact ⟨rfl, rfl⟩
  have HE1 : Hid (∀ l' : LdR, l.top.l.length ≤ 4 → l'.ld = { l.ld with ts := maxT x l.top.l + 1, top := [], bot := sortI l.top.l, mv := l.mv + l.top.l.length } → l'.ld = fromTop l.ld) := fun l' h4 e => by
    rw [e]; exact (fromTop_small hxd h4).symm
  have HE2 : Hid (∀ l' : LdR, ¬ l.top.l.length ≤ 4 → l'.ld = { l.ld with ts := maxT x l.top.l + 1, top := [], rs := l.ld.rs ++ [spreadR (minT x l.top.l) ((maxT x l.top.l - minT x l.top.l) / 8 + 1) l.top.l], mv := l.mv + l.top.l.length } → l'.ld = fromTop l.ld) := fun l' h4 e => by
    rw [e]; exact (fromTop_big hxd h4).symm
  have HSO := Lib.hid (fun W (hs : HasS LI W l.top) => Sort_has l.top W hs htn)
  have HSP := Lib.hid (fun (l2 : LdR) W (h2 : HasD W l2) (hr2 : l2.rs.l.length ≤ 4) (hs : HasS LI W l.top) => RSpread_has l2 (minT x l.top.l) ((maxT x l.top.l - minT x l.top.l) / 8 + 1) l.top W h2 hs htn (by omega) hbd.1 (by omega) (by omega) (by omega))
  have HWD := Lib.hid (fun W => RWidth_in (minT x l.top.l) (maxT x l.top.l) hbd.1 hbd.2.1 hbd.2.2 W)
  have HST : Hid (∀ (H : Nat) (W : World), w.heap.size = H → Upd [] w W → W.heap[H]? = some (.cells (cellsD l) 25 (0, 0)) → InD w W H l W l) := fun H W hH hu hb => InD.start h hu (by omega) hb
  have HAVT : Hid (∀ b, AvD l b → AvS l.top b) := fun b h => h.top
  have HTOP : Hid (∀ W, Upd [] w W → HasS LI W l.top) := fun W hu => h.top.stay hu
  have HLL : Hid (encD l = .agg #[.int .i64 l.ts, .slice l.top.ad l.top.l.length l.top.cap, .slice l.rs.ad l.rs.l.length l.rs.cap, .slice l.bot.ad l.bot.l.length l.bot.cap, .int .i64 l.mv, .int .i64 l.cp]) := rfl
  rw [HLL.out]
  generalize fromTop l.ld = gl at *
  have hmx0 : 0 ≤ maxT x l.top.l ∧ maxT x l.top.l ≤ 1152921504606846976 := by omega
  have HMX := Lib.hid hmx0
  obtain ⟨n, hn⟩ : ∃ n, n = l.top.l.length := ⟨_, rfl⟩
  have HN := Lib.hid hn
  rw [← hn] at htn ht0
  rw [← hn] at HEN HE1 HE2 HSO ⊢
  have HRL := Lib.hid hrl
  clear h hg hlen hxd hbd hz1 hz2 HLL hmx0 hn hrl
  generalize hmx : maxT x l.top.l = mx at *
  generalize hmn : minT x l.top.l = mn at *
  generalize (mx - mn) / 8 + 1 = wd at *
  have HX := Lib.hid hx
  clear hmx hmn hx
  go_enter Tryz.func60, Tryz.ntmps60
  go_upto_region 1 with (fail)
  generalize hA : (Obj.cells #[.int .i64 l.ts, .slice l.top.ad n l.top.cap, .slice l.rs.ad l.rs.l.length l.rs.cap, .slice l.bot.ad l.bot.l.length l.bot.cap, .int .i64 l.mv, .int .i64 l.cp] 25 : Obj) = A
  generalize hC : (Obj.cells #[.int .i64 0, .slice none 0 0, .slice none 0 0, .slice none 0 0, .int .i64 0, .int .i64 0] 25 : Obj) = C
  obtain ⟨hu, b0, b2, hsz⟩ := two_boxes w A C
  generalize (w.alloc A).alloc C = W at *
  generalize hH : w.heap.size = H at *
  rw [← hA, HN.out] at b0
  rw [← hC] at b2
  have HI0 := Lib.hid (HST.out H W rfl hu b0)
  have HB2 := Lib.hid b2; have HH := Lib.hid hH; have HWS := Lib.hid hsz; have HUW := Lib.hid hu
  rw [← HN.out] at b0
  clear hu hA hC b2 hH hsz HST
  obtain ⟨c0, c1, c2, c3, c4, c5⟩ := cells6 b0
  obtain ⟨b, off, hbo, x0, x1, x2⟩ := (HTOP.out W HUW.out).row.item 0 (by rw [← HN.out]; exact ht0)
  rw [← HX.out] at x0
  simp only [Nat.zero_mul, Nat.add_zero] at x0
  rw [hbo] at c1
  have HBO := Lib.hid hbo
  have h0z : (0 : Int) < (n : Int) := by omega
  clear b0 hbo x1 x2
  go_upto_region 3 with (fail)
  clear x0 h0z
  go_wp2_with fail
  go_loopg [3, 4, 5] n (fun gk v4 v5 vi wr => ∃ k : Nat, v4 = .int .i64 (minT x (l.top.l.take k)) ∧ v5 = .int .i64 (maxT x (l.top.l.take k)) ∧ vi = .int .i64 k ∧ k + gk = n ∧ W = wr)
  case atStart => exact ⟨0, by rw [HZ.out.1], by rw [HZ.out.2], rfl, by omega, rfl⟩
  case round =>
    obtain ⟨k, rfl, rfl, rfl, hkg, rfl⟩ := hrel
    by_cases hlt : k < n
    · have hltz : (k : Int) < (n : Int) := by omega
      have hk1 : k < l.top.l.length := by have := HN.out; omega
      obtain ⟨b', off', hbo, y0, y1, y2⟩ := (HTOP.out W HUW.out).row.item k hk1
      rw [HBO.out] at hbo
      simp only [Option.some.injEq, Addr.mk.injEq, and_true] at hbo
      obtain ⟨rfl, rfl⟩ := hbo
      have HM1 := Lib.hid (HS1.out k hk1)
      have HM2 := Lib.hid (HS2.out k hk1)
      generalize hma : minT x (l.top.l.take k) = ma at *
      generalize hmb : maxT x (l.top.l.take k) = mb at *
      generalize l.top.l[k].t = y at *
      clear hma hmb y1 y2
      go_wp2_with fail
      go_roundg (n - (k + 1))
      case measure => omega
      case rel => exact ⟨k + 1, by rw [HM1.out], by rw [HM2.out], by go_num, by omega, rfl⟩
    · have hltz : ¬ (k : Int) < (n : Int) := by omega
      obtain rfl : n = k := by omega
      have HEK : Hid (minT x (l.top.l.take n) = mn ∧ maxT x (l.top.l.take n) = mx) := HEN.out
      obtain ⟨z0, z1, z2, z3, z4, z5⟩ := free6 HI0.out.cells
      rw [HEK.out.1, HEK.out.2]
      go_upto_region 10 with (fail)
      have hI1 := HI0.out.top (Upd.refl [] W) (s := ⟨[], none, 0⟩) (hasS_nil _ _) (fun b _ _ => avS_nil b _ _)
      simp only [List.length_nil] at hI1
      have HI1 := Lib.hid hI1
      clear c0 c1 c2 c3 c4 c5 z0 z1 z2 z3 z4 z5 hI1
      with_reducible generalize W.setCell ⟨H, 1, none⟩ (.slice none 0 0) = W1 at HI1 ⊢
      obtain ⟨z0, z1, z2, z3, z4, z5⟩ := free6 HI1.out.cells
      obtain ⟨c0, c1, c2, c3, c4, c5⟩ := cells6 HI1.out.cells
      have hw1 : IntKind.i64.wrap (mx + 1) = mx + 1 := by have := HMX.out; rw [IntKind.wrap_i64]; omega
      go_upto_region 11 with (fail)
      have HI2 := Lib.hid (HI1.out.ts (mx + 1))
      clear c0 c1 c2 c3 c4 c5 z0 z1 z2 z3 z4 z5 hw1
      with_reducible generalize W1.setCell ⟨H, 0, none⟩ (.int .i64 (mx + 1)) = W2 at HI2 ⊢
      obtain ⟨z0, z1, z2, z3, z4, z5⟩ := free6 HI2.out.cells
      obtain ⟨c0, c1, c2, c3, c4, c5⟩ := cells6 HI2.out.cells
      simp only at c0 c1 c2 c3 c4 c5
      have hw1 : IntKind.i64.wrap (l.mv + (n : Int)) = l.mv + (n : Int) := by rw [IntKind.wrap_i64]; omega
      go_upto_region 12 with (fail)
      have HI3 := Lib.hid (HI2.out.mv (l.mv + (n : Int)))
      clear c0 c1 c2 c3 c4 c5 z0 z1 z2 z3 z4 z5 hw1
      with_reducible generalize W2.setCell ⟨H, 4, none⟩ (.int .i64 (l.mv + (n : Int))) = W3 at HI3 ⊢
      simp only at HI3
      have HTP := Lib.hid (HTOP.out W3 HI3.out.up)
      by_cases h4 : n ≤ 4
      · have hd4 : decide ((n : Int) ≤ 4) = true := by simp; omega
        have hso := HSO.out W3 HTP.out
        rw [HBO.out] at hso
        have HSOK := Lib.hid hso
        have HE1K := Lib.hid (fun l' => HE1.out l' h4)
        clear hso
        go_upto_region 14 with (go_at_call 25; (with_reducible refine HSOK.out.mono ?_); rintro e w6 ⟨s', rfl, hM⟩; have hq := hM.upd.at HI3.out.cells (by simp); obtain ⟨z0, z1, z2, z3, z4, z5⟩ := free6 hq; obtain ⟨y0, y1, y2, y3, y4, y5⟩ := cells6 hq; clear hq)
        have hI6 := HI3.out.bot hM.upd hM.has (fun b hb _ => avS_ge (n := W3.heap.size) hM.ge (Nat.lt_of_lt_of_le hb HI3.out.upd.size))
        have hme := hM.eq
        simp only at hI6 hme
        have HI6 := Lib.hid hI6
        have HME := Lib.hid hme
        clear hI6 hme hM y0 y1 y2 y3 y4 y5 z0 z1 z2 z3 z4 z5
        with_reducible generalize w6.setCell ⟨H, 3, none⟩ (.slice s'.ad s'.l.length s'.cap) = w7 at HI6 ⊢
        have q2 := HI6.out.other (R := H + 1) (by omega) HB2.out
        have HQ2 := Lib.hid q2
        obtain ⟨c0, c1, c2, c3, c4, c5⟩ := cells6 HI6.out.cells
        obtain ⟨y0, y1, y2, y3, y4, y5⟩ := cells6 q2
        obtain ⟨z0, z1, z2, z3, z4, z5⟩ := free6 q2
        clear q2
        simp only [List.length_nil] at c0 c1 c2 c3 c4 c5
        go_wp2_with fail
        have p2 := stored6 HQ2.out (.int .i64 (mx + 1)) (.slice none 0 0) (.slice l.rs.ad l.rs.l.length l.rs.cap) (.slice s'.ad s'.l.length s'.cap) (.int .i64 (l.mv + ((n : Nat) : Int))) (.int .i64 l.cp)
        have hU5 := upd_set6 w7 (H + 1) (.int .i64 (mx + 1)) (.slice none 0 0) (.slice l.rs.ad l.rs.l.length l.rs.cap) (.slice s'.ad s'.l.length s'.cap) (.int .i64 (l.mv + ((n : Nat) : Int))) (.int .i64 l.cp)
        with_reducible generalize (((((w7.setCell ⟨H + 1, 0, none⟩ (.int .i64 (mx + 1))).setCell ⟨H + 1, 1, none⟩ (.slice none 0 0)).setCell ⟨H + 1, 2, none⟩ (.slice l.rs.ad l.rs.l.length l.rs.cap)).setCell ⟨H + 1, 3, none⟩ (.slice s'.ad s'.l.length s'.cap)).setCell ⟨H + 1, 4, none⟩ (.int .i64 (l.mv + ((n : Nat) : Int)))).setCell ⟨H + 1, 5, none⟩ (.int .i64 l.cp) = wf at p2 hU5 ⊢
        obtain ⟨r0, r1, r2, r3, r4, r5⟩ := cells6 p2
        have hfin : GivesRD l gl w (.returned (.agg #[.int .i64 (mx + 1), .slice none 0 0, .slice l.rs.ad l.rs.l.length l.rs.cap, .slice s'.ad s'.l.length s'.cap, .int .i64 (l.mv + ((n : Nat) : Int)), .int .i64 l.cp])) wf := ⟨⟨mx + 1, ⟨[], none, 0⟩, l.rs, s', l.mv + ((n : Nat) : Int), l.cp⟩, rfl, HI6.out.fin (by have := HH.out; omega) (by have := HWS.out; omega) hU5 (HE1K.out _ (by simp only [LdR.ld, HME.out]))⟩
        exact bodyPost_ret (v := .agg #[.int .i64 (mx + 1), .slice none 0 0, .slice l.rs.ad l.rs.l.length l.rs.cap, .slice s'.ad s'.l.length s'.cap, .int .i64 (l.mv + ((n : Nat) : Int)), .int .i64 l.cp]) (by simp [results, Tryz.results60, go_sem, r0, r1, r2, r3, r4, r5]) rfl hfin
      · have hd4 : decide ((n : Int) ≤ 4) = false := by simp; omega
        have HE2K := Lib.hid (fun l' => HE2.out l' h4)
        go_upto_region 15 with (fail)
        have hsp := fun V (hu : Upd [] W3 V) => HSP.out ⟨mx + 1, ⟨[], none, 0⟩, l.rs, l.bot, l.mv + (n : Int), l.cp⟩ V (HI3.out.has.stay hu) HRL.out (HTP.out.stay hu)
        rw [← HN.out, HBO.out] at hsp
        unfold encD cellsD at hsp
        simp only [List.length_nil] at hsp
        have HSPK := Lib.hid hsp
        have q2 := HI3.out.other (R := H + 1) (by omega) HB2.out
        have HQ2 := Lib.hid q2
        obtain ⟨c0, c1, c2, c3, c4, c5⟩ := cells6 HI3.out.cells
        simp only [List.length_nil] at c0 c1 c2 c3 c4 c5
        clear hsp q2 hd4 h4
        have HKP := Lib.hid (fun V (hu : Upd [H + 1] W3 V) => (⟨hu.cell c0 (by simp), hu.cell c1 (by simp), hu.cell c2 (by simp), hu.cell c3 (by simp), hu.cell c4 (by simp), hu.cell c5 (by simp)⟩ : V.cell? ⟨H, 0, none⟩ = some (.int .i64 (mx + 1)) ∧ V.cell? ⟨H, 1, none⟩ = some (.slice none 0 0) ∧ V.cell? ⟨H, 2, none⟩ = some (.slice l.rs.ad l.rs.l.length l.rs.cap) ∧ V.cell? ⟨H, 3, none⟩ = some (.slice l.bot.ad l.bot.l.length l.bot.cap) ∧ V.cell? ⟨H, 4, none⟩ = some (.int .i64 (l.mv + (n : Int))) ∧ V.cell? ⟨H, 5, none⟩ = some (.int .i64 l.cp)))
        go_region_held3 (fun wz => wz.cell? ⟨H, 0, none⟩ = some (.int .i64 (mx + 1)) ∧ wz.cell? ⟨H, 1, none⟩ = some (.slice none 0 0) ∧ wz.cell? ⟨H, 2, none⟩ = some (.slice l.rs.ad l.rs.l.length l.rs.cap) ∧ wz.cell? ⟨H, 3, none⟩ = some (.slice l.bot.ad l.bot.l.length l.bot.cap) ∧ wz.cell? ⟨H, 4, none⟩ = some (.int .i64 (l.mv + (n : Int))) ∧ wz.cell? ⟨H, 5, none⟩ = some (.int .i64 l.cp)) (first | (with_reducible exact ⟨c0, c1, c2, c3, c4, c5⟩) | (refine HKP.out _ ?_; (repeat (first | (with_reducible exact Upd.refl [H + 1] _) | (with_reducible refine Upd.drew ?_) | refine Upd.setCell ?_ (by simp) _ | refine Upd.trans (T := []) ?_ (by assumption) (by simp))); done)) (first
          | (go_at_call 86; (with_reducible refine (HWD.out _).mono ?_); rintro e w' ⟨rfl, hu1⟩)
          | (go_at_call 85; (with_reducible refine (HSPK.out _ ?_).mono ?_); (repeat (first | exact Upd.refl [] _ | refine Upd.drew ?_ | refine Upd.alloc ?_ _ | refine Upd.trans (T := []) ?_ (by assumption) (by simp))); rintro e w6 ⟨l2, rfl, hN⟩; have hN3 := NxtD.enter (w0 := W3) (by repeat (first | exact Upd.refl [] _ | refine Upd.drew ?_ | refine Upd.trans (T := []) ?_ (by assumption) (by simp))) hN; have hu6 := hN3.upd; have hq := hu6.at HQ2.out (by simp); obtain ⟨z0, z1, z2, z3, z4, z5⟩ := free6 hq; obtain ⟨y0, y1, y2, y3, y4, y5⟩ := cells6 hq; have HQF := Lib.hid hq; unfold encD cellsD))
        have hN4 : NxtD W3 ⟨mx + 1, ⟨[], none, 0⟩, l.rs, l.bot, l.mv + (n : Int), l.cp⟩ gl w6 l2 := ⟨HE2K.out l2 hN3.eq, hN3.has, hN3.av, hN3.upd⟩
        have HN4 := Lib.hid hN4
        clear hN hN3 hu6 hq hN4 z0 z1 z2 z3 z4 z5 y0 y1 y2 y3 y4 y5 c0 c1 c2 c3 c4 c5
        have p2 := stored6 HQF.out (.int .i64 l2.ts) (.slice l2.top.ad l2.top.l.length l2.top.cap) (.slice l2.rs.ad l2.rs.l.length l2.rs.cap) (.slice l2.bot.ad l2.bot.l.length l2.bot.cap) (.int .i64 l2.mv) (.int .i64 l2.cp)
        have hU5 := upd_set6 w6 (H + 1) (.int .i64 l2.ts) (.slice l2.top.ad l2.top.l.length l2.top.cap) (.slice l2.rs.ad l2.rs.l.length l2.rs.cap) (.slice l2.bot.ad l2.bot.l.length l2.bot.cap) (.int .i64 l2.mv) (.int .i64 l2.cp)
        with_reducible generalize (((((w6.setCell ⟨H + 1, 0, none⟩ (.int .i64 l2.ts)).setCell ⟨H + 1, 1, none⟩ (.slice l2.top.ad l2.top.l.length l2.top.cap)).setCell ⟨H + 1, 2, none⟩ (.slice l2.rs.ad l2.rs.l.length l2.rs.cap)).setCell ⟨H + 1, 3, none⟩ (.slice l2.bot.ad l2.bot.l.length l2.bot.cap)).setCell ⟨H + 1, 4, none⟩ (.int .i64 l2.mv)).setCell ⟨H + 1, 5, none⟩ (.int .i64 l2.cp) = wf at p2 hU5 ⊢
        go_wp2_with fail
        obtain ⟨r0, r1, r2, r3, r4, r5⟩ := cells6 p2
        have hfin : GivesRD l gl w (.returned (encD l2)) wf := ⟨l2, rfl, HI3.out.next HN4.out (by have := HH.out; omega) (by have := HWS.out; omega) hU5⟩
        exact bodyPost_ret (v := encD l2) (by simp [encD, cellsD, results, Tryz.results60, go_sem, r0, r1, r2, r3, r4, r5]) rfl hfin
end Go.Proofs.YtneodiemgemhfaaGreat
namespace Go.Proofs.YtneodiemgemhfaaGreat
open Go.RowKit Go.Lib

def InsPost (s : SlR It) (it : It) (i b0 : Nat) (w : World) (e : Ending) (w' : World) : Prop := ∃ s' : SlR It, e = .returned (.slice s'.ad s'.l.length s'.cap) ∧ s'.l = s.l.take i ++ it :: s.l.drop i ∧ HasS LI w' s' ∧ (∀ b, b < b0 → AvS s' b) ∧ Upd s.v.ownBlock.toList w w'
set_option maxRecDepth 100000 in
set_option maxHeartbeats 4000000 in
theorem SInsert_end (s : SlR It) (it : It) (vb b0 : Nat) (w : World) (ho : w.ownsRow b0 36 3 s.v s.l.length (LI.flat s.l)) (hl : s.l.length ≤ 100000)
    (hvb : w.heap[vb]? = some (.cells #[.int .i64 it.t, .int .i64 it.q, .int .i64 it.s] 36 (0, 0))) (hb : b0 ≤ w.heap.size) :
    Calls Tryz.prog 48 #[.slice s.ad s.l.length s.cap, .int .i64 s.l.length, .slice (some ⟨vb, 0, none⟩) 1 1] w (InsPost s it s.l.length b0 w) := by
  have hle := (has_own ho).le
  have HRO := Lib.hid (row_one hvb)
  have HFN : Hid (∀ va vc W, W.ownsRow b0 36 3 (.slice va (s.l.length + 1) vc) (s.l.length + 1) (LI.flat (s.l ++ [it])) → w.grownBy W s.v.ownBlock → InsPost s it s.l.length b0 w (.returned (.slice va (s.l.length + 1) vc)) W) := fun va vc W h1 h2 => by
    have e : (s.l ++ [it]).length = s.l.length + 1 := by simp
    have h3 : W.ownsRow b0 36 3 (SlR.v ⟨s.l ++ [it], va, vc⟩) (s.l ++ [it]).length (LI.flat (s.l ++ [it])) := by simp only [SlR.v]; rw [e]; exact h1
    exact ⟨⟨s.l ++ [it], va, vc⟩, by simp only [e], by simp, has_own h3, fun b hb => av_own h3 hb, upd_grown h2⟩
  obtain ⟨l, sa, sc⟩ := s
  simp only [SlR.v] at ho hl hle HFN ⊢
  have HO := Lib.hid ho
  generalize hn : l.length = n at *
  clear ho hvb
  have hz : ((n : Int) == (n : Int)) = true := by simp
  by_cases hsc : sc = n
  · have hsc2 : n = sc := hsc.symm
    subst hsc2
    clear hsc
    go_enter Tryz.func48, Tryz.ntmps48
    go_wp2_with (at_builtin; refine app_row tyI rfl _ _ rfl b0 (.slice sa n _) n l rfl HO.out (some ⟨vb, 0, none⟩) 1 1 [it] rfl rfl HRO.out (fun e => by simp at e) (by omega) hb ?_; intro v' w1 hown hgrow)
    obtain ⟨va, vc, rfl⟩ := row_shape hown
    have HG := Lib.hid (HFN.out va vc w1 hown hgrow)
    clear hown hgrow
    go_wp2_with fail
    go_ret
    exact HG.out
  · have hsc2 : ¬ n = sc := fun e => hsc e.symm
    go_enter Tryz.func48, Tryz.ntmps48
    go_wp2_with (at_builtin; refine app_row tyI rfl _ _ rfl b0 (.slice sa n _) n l rfl HO.out (some ⟨vb, 0, none⟩) 1 1 [it] rfl rfl HRO.out (fun e => by simp at e) (by omega) hb ?_; intro v' w1 hown hgrow)
    obtain ⟨va, vc, rfl⟩ := row_shape hown
    have HG := Lib.hid (HFN.out va vc w1 hown hgrow)
    clear hown hgrow
    go_wp2_with fail
    go_ret
    exact HG.out
end Go.Proofs.YtneodiemgemhfaaGreat
namespace Go.Proofs.YtneodiemgemhfaaGreat
open Go.RowKit Go.Lib

theorem setCells_stores (g : Nat) : ∀ (vs : List Value) (o : Nat) (w : World), w.setCells g o vs = stores w g o vs
  | [], _, _ => rfl
  | v :: vs, o, w => by rw [World.setCells, stores, setCells_stores g vs]
theorem Lay.flat_take {α : Type} (L : Lay α) (l : List α) (i : Nat) (hi : i ≤ l.length) : (L.flat l).take (i * L.k) = L.flat (l.take i) := by
  have h : L.flat l = L.flat (l.take i) ++ L.flat (l.drop i) := by rw [← L.flat_append, List.take_append_drop]
  have hl : (L.flat (l.take i)).length = i * L.k := by rw [L.flat_length, List.length_take, Nat.min_eq_left hi]
  rw [h, ← hl, List.take_left]
theorem Lay.flat_drop {α : Type} (L : Lay α) (l : List α) (i : Nat) (hi : i ≤ l.length) : (L.flat l).drop (i * L.k) = L.flat (l.drop i) := by
  have h : L.flat l = L.flat (l.take i) ++ L.flat (l.drop i) := by rw [← L.flat_append, List.take_append_drop]
  have hl : (L.flat (l.take i)).length = i * L.k := by rw [L.flat_length, List.length_take, Nat.min_eq_left hi]
  rw [h, ← hl, List.drop_left]
theorem flat_ins (l : List It) (it : It) (i : Nat) : LI.flat (l.take i ++ it :: l.drop i) = LI.flat (l.take i) ++ LI.enc it ++ LI.flat (l.drop i) := by
  rw [LI.flat_append, LI.flat_cons, List.append_assoc]
theorem ins_length (l : List It) (it : It) (i : Nat) (hi : i ≤ l.length) : (l.take i ++ it :: l.drop i).length = l.length + 1 := by simp; omega
theorem held_of {w : World} {g cap : Nat} {l : List It} {it : It} {i : Nat} {c : Array Value} {rest : List Value} (hb : w.heap[g]? = some (.cells c 36 (0, 0))) (hs : c.size = cap * 3) (hi : i ≤ l.length) (hc : l.length + 1 ≤ cap) (ht : c.toList = LI.flat (l.take i) ++ LI.enc it ++ LI.flat (l.drop i) ++ rest) : Held LI 36 w g cap (l.take i ++ it :: l.drop i) := by
  refine ⟨⟨c, hb, hs, ?_⟩, by rw [ins_length l it i hi]; exact hc⟩
  rw [← LI.flat_length, flat_ins, ht, List.take_left]
theorem ins_shift {w : World} {g cap : Nat} {l : List It} {i : Nat} (it : It) (h : Held LI 36 w g cap l) (hi : i ≤ l.length) (hc : l.length + 1 ≤ cap) :
    Held LI 36 ((w.setCells g ((i + 1) * 3) (LI.flat (l.drop i))).setCells g (i * 3) (LI.enc it)) g cap (l.take i ++ it :: l.drop i) := by
  obtain ⟨cur, h1, h2, h3⟩ := h.ex
  have hk : LI.k = 3 := rfl
  rw [hk] at h2 h3
  have hd : (LI.flat (l.drop i)).length = (l.length - i) * 3 := by rw [LI.flat_length, List.length_drop]; rfl
  have hsz : cur.toList.length = cap * 3 := by simp [h2]
  rw [setCells_stores, setCells_stores]
  obtain ⟨c1, q1, q2⟩ := stores_block (LI.flat (l.drop i)) (o := (i + 1) * 3) h1 (by rw [hd, h2]; omega)
  have l1 : c1.toList.length = cap * 3 := by
    rw [q2]; simp only [List.length_append, List.length_take, List.length_drop, hsz, hd]; omega
  obtain ⟨c2, p1, p2⟩ := stores_block (LI.enc it) (o := i * 3) q1 (by rw [LI.len, hk]; simp at l1; omega)
  have l2 : c2.toList.length = cap * 3 := by
    rw [p2]; simp only [List.length_append, List.length_take, List.length_drop, l1, LI.len, hk]; omega
  refine held_of (rest := cur.toList.drop ((i + 1) * 3 + (LI.flat (l.drop i)).length)) p1 (by simpa using l2) hi hc ?_
  have hta : (cur.toList.take ((i + 1) * 3)).length = (i + 1) * 3 := by rw [List.length_take, hsz]; omega
  have e1 : c1.toList.take (i * 3) = LI.flat (l.take i) := by
    rw [q2, List.append_assoc, List.take_append_of_le_length (by rw [hta]; omega), List.take_take, Nat.min_eq_left (by omega)]
    have : cur.toList.take (i * 3) = (cur.toList.take (l.length * 3)).take (i * 3) := by rw [List.take_take, Nat.min_eq_left (by omega)]
    rw [this, h3]
    exact LI.flat_take l i hi
  have e2 : c1.toList.drop (i * 3 + (LI.enc it).length) = LI.flat (l.drop i) ++ cur.toList.drop ((i + 1) * 3 + (LI.flat (l.drop i)).length) := by
    rw [LI.len, hk, show i * 3 + 3 = (cur.toList.take ((i + 1) * 3)).length by rw [hta]; omega, q2, List.append_assoc, List.drop_left]
  rw [p2, e1, e2]
  simp [List.append_assoc]
theorem ins_grow {W : World} {g G : Nat} {l : List It} {i : Nat} {ROW : Array Value} (it : It) (hb : W.heap[g]? = some (.cells ROW 36 (0, 0))) (hs : ROW.size = G * 3) (ht : ROW.toList.take (i * 3) = LI.flat (l.take i)) (hi : i ≤ l.length) (hc : l.length + 1 ≤ G) :
    Held LI 36 ((W.setCells g (i * 3) (LI.enc it)).setCells g ((i + 1) * 3) (LI.flat (l.drop i))) g G (l.take i ++ it :: l.drop i) := by
  have hk : LI.k = 3 := rfl
  have hd : (LI.flat (l.drop i)).length = (l.length - i) * 3 := by rw [LI.flat_length, List.length_drop]; rfl
  have hsz : ROW.toList.length = G * 3 := by simp [hs]
  rw [setCells_stores, setCells_stores]
  obtain ⟨c1, q1, q2⟩ := stores_block (LI.enc it) (o := i * 3) hb (by rw [LI.len, hk, hs]; omega)
  have l1 : c1.toList.length = G * 3 := by
    rw [q2]; simp only [List.length_append, List.length_take, List.length_drop, hsz, LI.len, hk]; omega
  obtain ⟨c2, p1, p2⟩ := stores_block (LI.flat (l.drop i)) (o := (i + 1) * 3) q1 (by rw [hd]; simp at l1; omega)
  have l2 : c2.toList.length = G * 3 := by
    rw [p2]; simp only [List.length_append, List.length_take, List.length_drop, l1, hd]; omega
  refine held_of (rest := c1.toList.drop ((i + 1) * 3 + (LI.flat (l.drop i)).length)) p1 (by simpa using l2) hi hc ?_
  have hta : (ROW.toList.take (i * 3) ++ LI.enc it).length = (i + 1) * 3 := by rw [List.length_append, List.length_take, hsz, LI.len, hk]; omega
  have e1 : c1.toList.take ((i + 1) * 3) = LI.flat (l.take i) ++ LI.enc it := by
    rw [q2, ← hta, List.take_left, ht]
  rw [p2, e1]
theorem run_copy_items (w : World) (ty : TypeId) (b o dLen dCap : Nat) (a : Addr) (sLen sCap m : Nat) (cs : List Value) (hm : Nat.min sLen dLen = m) (hn : cs.length = m * 3)
    (hsrc : ∀ j v, cs[j]? = some v → w.cell? (a.add j) = some v) (hc : ∀ j, j < cs.length → (w.cell? ⟨b, o + j, none⟩).isSome = true) (hf : ∀ j, j < cs.length → w.frozen? ⟨b, o + j, none⟩ = false) (h1 : ∀ v ∈ cs, v.oneCell' = true) :
    (Builtin.copy_ #[22, 22] ty #[.slice (some ⟨b, o, none⟩) dLen dCap, .slice (some a) sLen sCap]).run Tryz.prog w = .ok (goInt m) (w.setCells b o cs) := by
  have hl := run_loadCells_list (P := Tryz.prog) w a cs hsrc
  have hst := run_storeCells_cells (P := Tryz.prog) b o cs 0 w (by simpa using hc) (by simpa using hf) h1
  obtain ⟨i, h2, h3, h4, h5⟩ := info_parts infoItem
  simp [Builtin.copy_, run_underlying Tryz.underlying22, Builtin.lenOf, Builtin.firstCells, sizeOf, typeInfo, h2, h4, hm, ← hn, hl, hst]
end Go.Proofs.YtneodiemgemhfaaGreat
