/- Contract: Made of the laws. -/
import Derived.Test.YtmfijhophaeljaaUJ
namespace Go.Proofs.Ytmfijhophaeljaa
open Go.RowKit Go.Lib

theorem Row.op {w : World} {ad : Option Addr} {l : List Oz} (h : Row LO w ad l) (j : Nat) (hj : j < l.length) : ∃ b off, ad = some ⟨b, off, none⟩ ∧ w.cell? ⟨b, off + j * 3, none⟩ = some (.bool l[j].n) ∧ w.cell? ⟨b, off + j * 3 + 1, none⟩ = some (.int .u64 l[j].a) ∧ w.cell? ⟨b, off + j * 3 + 2, none⟩ = some (.int .i64 l[j].q) := by
  obtain ⟨b, off, e, c⟩ := h j hj
  exact ⟨b, off, e, c 0 _ rfl, c 1 _ rfl, c 2 _ rfl⟩
set_option maxRecDepth 100000 in
set_option maxHeartbeats 8000000 in
theorem Made_has (f d : Int) (la : Option Addr) (lc : Nat) (os : List Oz) (w : World) (hf : U64 f) (hd : U64 d) (ho : Row LO w la os) (hoa : ∀ o ∈ os, U64 o.a) (hlm : os.length ≤ 9223372036854775807) :
    Calls Try.prog 10 #[.int .u64 f, .int .u64 d, .slice la os.length lc] w fun e w' => ∃ r', e = .returned (encR r') ∧ Born w (madeR f d os) w' r' := by
  have HT := Lib.hid (Time_law f hf)
  have HS := Lib.hid (Span_law d hd)
  obtain ⟨x, hx⟩ : ∃ x, x = f % 1152921504606846977 := ⟨_, rfl⟩
  obtain ⟨y, hy⟩ : ∃ y, y = d % 144115188075855873 + 1 := ⟨_, rfl⟩
  obtain ⟨p, hp⟩ : ∃ p, p = madeR f d os := ⟨_, rfl⟩
  have hxb : 0 ≤ x ∧ x ≤ 1152921504606846976 := by omega
  have hyb : 1 ≤ y / 8 + 1 ∧ y / 8 + 1 ≤ 144115188075855873 := by omega
  have hy0 : 0 ≤ y := by omega
  have hq : y.tdiv 8 = y / 8 := Int.tdiv_eq_ediv_of_nonneg hy0
  have hw1 : IntKind.i64.wrap (y / 8) = y / 8 := by rw [IntKind.wrap_i64]; omega
  have hw2 : IntKind.i64.wrap (y / 8 + 1) = y / 8 + 1 := by rw [IntKind.wrap_i64]; omega
  rw [madeR, ← hx, ← hy] at hp
  rw [← hx] at HT
  rw [← hy] at HS
  rw [madeR, ← hx, ← hy, ← hp]
  have HNEW := Lib.hid (RNew_has x (y / 8 + 1))
  obtain ⟨N, hN⟩ : ∃ N, N = min os.length 100 := ⟨_, rfl⟩
  have HP : Hid (p = runR (newR x (y / 8 + 1)) (os.take N)) := by
    show p = _
    rw [hp]
    congr 1
    rw [hN, List.take_eq_take_iff]; omega
  have HR : Hid (∀ k, k ≤ N → Reach x (y / 8 + 1) k (runR (newR x (y / 8 + 1)) (os.take k))) := fun k hk => reach_run hxb.1 hxb.2 hyb.1 hyb.2 os k (by omega)
  have HO := Lib.hid ho
  have HOA := Lib.hid hoa
  obtain ⟨L, hL⟩ : ∃ L, L = os.length := ⟨_, rfl⟩
  rw [← hL] at hlm hN ⊢
  have HL := Lib.hid hL
  clear ho hp hL hoa hx hy hxb hyb hf hd
  obtain ⟨Rk, hRk⟩ : ∃ Rk : Nat → Rg, ∀ k, Rk k = runR (newR x (y / 8 + 1)) (os.take k) := ⟨_, fun _ => rfl⟩
  rw [← hRk] at HP
  have HR2 : Hid (∀ k, k ≤ N → Reach x (y / 8 + 1) k (Rk k)) := fun k hk => by rw [hRk]; exact HR.out k hk
  have HRZ : Hid (Rk 0 = newR x (y / 8 + 1)) := by show _ = _; rw [hRk]; simp [runR]
  have HSTP : Hid (∀ k (h : k < os.length), Rk (k + 1) = stepR (Rk k) os[k]) := fun k h => by rw [hRk, hRk]; exact runR_take_succ _ _ _ h
  clear hRk HR
  go_enter Try.func10, Try.ntmps10
  go_upto_region 1 with (fail)
  have b0 := heap_alloc1 w (.cells #[.int .i64 0, .int .i64 0, .int .i64 0, .slice none 0 0] 24)
  have hu0 := (Upd.refl [] w).alloc (.cells #[.int .i64 0, .int .i64 0, .int .i64 0, .slice none 0 0] 24)
  have hs0 : (w.alloc (.cells #[.int .i64 0, .int .i64 0, .int .i64 0, .slice none 0 0] 24)).heap.size = w.heap.size + 1 := by simp
  generalize w.alloc (.cells #[.int .i64 0, .int .i64 0, .int .i64 0, .slice none 0 0] 24) = W at *
  generalize hH : w.heap.size = H at *
  have HU0 := Lib.hid hu0; have HB0 := Lib.hid b0; have HH := Lib.hid hH; have HS0 := Lib.hid hs0
  clear hu0 b0 hH hs0
  go_upto_region 2 with (first | (go_at_call 17; (with_reducible refine (HT.out _).mono ?_); rintro e w' ⟨rfl, rfl⟩) | (go_at_call 18; (with_reducible refine (HS.out _).mono ?_); rintro e w' ⟨rfl, rfl⟩) | (go_at_call 22; (with_reducible refine (HNEW.out W).mono ?_); rintro e w1 ⟨r', rfl, hB⟩; obtain ⟨fr', wd', cu', bl', ba', bc'⟩ := r'; unfold encR))
  have HM0 : Hid (MadeAt w H w1.heap.size (Rk 0) ⟨fr', wd', cu', ⟨bl', ba', bc'⟩⟩ (w1.alloc (.cells (cellsR ⟨fr', wd', cu', ⟨bl', ba', bc'⟩⟩) 24))) := by
    have hsz := hB.upd.size
    have hs0 := HS0.out
    have hh := HH.out
    have hal := (Upd.refl [] w1).alloc (.cells (cellsR ⟨fr', wd', cu', ⟨bl', ba', bc'⟩⟩) 24)
    exact ⟨by rw [HRZ.out]; exact hB.eq, hal.at (hB.upd.at HB0.out (by simp)) (by simp), heap_alloc1 _ _, hB.has.stay hal, hB.av _ (by omega), hB.has.avoids (Nat.le_refl _), (HU0.out.thn hB.upd).thn hal, fun b hb => hB.av b (by omega), ⟨by omega, by omega⟩⟩
  simp only [cellsR] at HM0
  generalize w1.alloc (.cells #[.int .i64 fr', .int .i64 wd', .int .i64 cu', .slice ba' bl'.length bc'] 24) = W2 at HM0 ⊢
  generalize w1.heap.size = P at *
  clear hB hq hw1 hw2
  go_wp2_with fail
  go_loopg [8] N (fun gk vi wr => ∃ (k : Nat) (r : RgR), vi = .int .i64 k ∧ k + gk = N ∧ Hid (MadeAt w H P (Rk k) r wr))
  case atStart => exact ⟨0, _, rfl, by omega, HM0⟩
  case round =>
    obtain ⟨k, r, rfl, hkg, HM⟩ := hrel
    by_cases hlt : k < N
    · have hltz : (k : Int) < (L : Int) := by omega
      have hd1 : decide ((k : Int) < (L : Int)) = true := by simp; omega
      have hd2 : decide ((k : Int) < 100) = true := by simp; omega
      have hd3 : decide (k < L) = true := by simp; omega
      have hd4 : decide (k < 100) = true := by simp; omega
      have hk1 : k < os.length := by have := HL.out; omega
      have HSTK := Lib.hid (HSTP.out k hk1)
      have HRC := Lib.hid (HR2.out k (by omega))
      have hok := HOA.out _ (List.getElem_mem hk1)
      obtain ⟨bb, oo, hla, k0, k1, k2⟩ := (HO.out.stay HM.out.upd).op k hk1
      subst hla
      have hgood := HRC.out.good
      have hlen := HRC.out.len
      rw [← HM.out.eq] at hgood hlen HSTK
      have hCN := fun W' (hu : Upd [] wr W') => RNext_has r W' (HM.out.has.stay hu) hgood (by omega)
      have hCI := fun W' (_ : Upd [] wr W') => item_has r os[k] W' hgood hok
      have hCP := fun it W' (hu : Upd [] wr W') => RPut_has r it W' (HM.out.has.stay hu) hgood (by omega)
      generalize os[k] = o at *
      obtain ⟨on, oa, oq⟩ := o
      have bx := HM.out.bx
      obtain ⟨fr, wd, cu, bl, ba, bc⟩ := r
      simp only [cellsR] at bx
      have HBX := Lib.hid bx
      unfold encR at hCN hCI hCP
      unfold aggO at hCI
      simp only at hCN hCI hCP k0 k1 k2
      obtain ⟨it, hit⟩ : ∃ it, it = itemR (⟨fr, wd, cu, ⟨bl, ba, bc⟩⟩ : RgR).rg ⟨on, oa, oq⟩ := ⟨_, rfl⟩
      rw [← hit] at hCI
      have hCP := hCP it
      have HNY : Hid (on = true → stepR (⟨fr, wd, cu, ⟨bl, ba, bc⟩⟩ : RgR).rg ⟨on, oa, oq⟩ = (nextR (⟨fr, wd, cu, ⟨bl, ba, bc⟩⟩ : RgR).rg).1) := fun h => by simp [stepR, h]
      have HNN : Hid (on = false → stepR (⟨fr, wd, cu, ⟨bl, ba, bc⟩⟩ : RgR).rg ⟨on, oa, oq⟩ = (putR (⟨fr, wd, cu, ⟨bl, ba, bc⟩⟩ : RgR).rg it).1) := fun h => by rw [hit]; simp [stepR, h]
      obtain ⟨it, iq, is⟩ := it
      unfold aggI at hCI hCP
      simp only at hCI hCP
      have HCN := Lib.hid hCN; have HCI := Lib.hid hCI; have HCP := Lib.hid hCP
      clear hit hCN hCI hCP hok hgood hlen bx
      generalize hbn : bl.length = n at *
      clear hbn
      obtain ⟨c0, c1, c2, c3⟩ := cells4 HBX.out
      cases on with
      | true =>
      have HSTK : Hid (Rk (k + 1) = (nextR (⟨fr, wd, cu, ⟨bl, ba, bc⟩⟩ : RgR).rg).1) := by show _ = _; rw [HSTK.out]; exact HNY.out rfl
      go_upto_region 7 with (go_at_call 15; (with_reducible refine (HCN.out _ (Upd.refl [] _)).mono ?_); rintro e w' ⟨⟨fr', wd', cu', bl', ba', bc'⟩, ss, rfl, hN, hG⟩; unfold encR)
      have hBX2 := boxed_last hN (Upd.refl [] wr)
      simp only [cellsR] at hBX2
      have HBX2 := Lib.hid hBX2
      generalize w'.alloc (.cells #[.int .i64 fr', .int .i64 wd', .int .i64 cu', .slice ba' bl'.length bc'] 24) = wc at HBX2 ⊢
      generalize w'.heap.size = Q at HBX2 ⊢
      clear hBX2 hN hG c0 c1 c2 c3 k0 k1 k2
      have hblk := HBX2.out.blk
      simp only [cellsR] at hblk
      have hPP := HBX2.out.nxt.upd.at HBX.out (by simp)
      have HPP := Lib.hid hPP
      have HCA : Hid (cellsR ⟨fr', wd', cu', ⟨bl', ba', bc'⟩⟩ = #[.int .i64 fr', .int .i64 wd', .int .i64 cu', .slice ba' bl'.length bc']) := rfl
      generalize bl'.length = m1 at hblk HCA
      obtain ⟨g0, g1, g2, g3⟩ := cells4 hblk
      obtain ⟨f0, f1, f2, f3⟩ := cells4 hPP
      obtain ⟨z0, z1, z2, z3⟩ := free4 hPP
      clear hblk hPP
      go_upto_region 4 with (fail)
      have pf := stored4 HPP.out (.int .i64 fr') (.int .i64 wd') (.int .i64 cu') (.slice ba' m1 bc')
      have hU5 := upd_set4 wc P (.int .i64 fr') (.int .i64 wd') (.int .i64 cu') (.slice ba' m1 bc')
      generalize ((((wc.setCell ⟨P, 0, none⟩ (.int .i64 fr')).setCell ⟨P, 1, none⟩ (.int .i64 wd')).setCell ⟨P, 2, none⟩ (.int .i64 cu')).setCell ⟨P, 3, none⟩ (.slice ba' m1 bc')) = w5 at pf hU5 ⊢
      have HM2 : Hid (MadeAt w H P (Rk (k + 1)) ⟨fr', wd', cu', ⟨bl', ba', bc'⟩⟩ w5) := by
        have := HM.out.step HBX2.out hU5 (by rw [HCA.out]; exact pf)
        show MadeAt _ _ _ _ _ _
        rw [HSTK.out]
        exact this
      clear g0 g1 g2 g3 f0 f1 f2 f3 z0 z1 z2 z3 pf hU5
      go_wp2_with fail
      go_roundg (N - (k + 1))
      case measure => omega
      case rel => exact ⟨k + 1, ⟨fr', wd', cu', ⟨bl', ba', bc'⟩⟩, by go_num, by omega, HM2⟩
      | false =>
      have HSTK : Hid (Rk (k + 1) = (putR (⟨fr, wd, cu, ⟨bl, ba, bc⟩⟩ : RgR).rg ⟨it, iq, is⟩).1) := by show _ = _; rw [HSTK.out]; exact HNN.out rfl
      generalize putR (⟨fr, wd, cu, ⟨bl, ba, bc⟩⟩ : RgR).rg ⟨it, iq, is⟩ = pp at HCP HSTK
      clear HNY HNN HCN
      go_upto_region 8 with (fail)
      go_cut [13, 14] (fun v13 v14 wx => ∃ Q r' b', v13 = .pointer (some ⟨Q, 0, none⟩) ∧ v14 = .bool b' ∧ Hid (Boxed wr ⟨fr, wd, cu, ⟨bl, ba, bc⟩⟩ pp.1 Q wx r'))
      case first =>
        have HKP : Hid (∀ wz, Upd [] wr wz → wz.cell? ⟨P, 0, none⟩ = some (.int .i64 fr) ∧ wz.cell? ⟨P, 1, none⟩ = some (.int .i64 wd) ∧ wz.cell? ⟨P, 2, none⟩ = some (.int .i64 cu) ∧ wz.cell? ⟨P, 3, none⟩ = some (.slice ba n bc) ∧ wz.cell? ⟨bb, oo + k * 3, none⟩ = some (.bool false) ∧ wz.cell? ⟨bb, oo + k * 3 + 1, none⟩ = some (.int .u64 oa) ∧ wz.cell? ⟨bb, oo + k * 3 + 2, none⟩ = some (.int .i64 oq)) := fun W' hu => ⟨hu.cell c0 (by simp), hu.cell c1 (by simp), hu.cell c2 (by simp), hu.cell c3 (by simp), hu.cell k0 (by simp), hu.cell k1 (by simp), hu.cell k2 (by simp)⟩
        go_region_held3 (fun wz => wz.cell? ⟨P, 0, none⟩ = some (.int .i64 fr) ∧ wz.cell? ⟨P, 1, none⟩ = some (.int .i64 wd) ∧ wz.cell? ⟨P, 2, none⟩ = some (.int .i64 cu) ∧ wz.cell? ⟨P, 3, none⟩ = some (.slice ba n bc) ∧ wz.cell? ⟨bb, oo + k * 3, none⟩ = some (.bool false) ∧ wz.cell? ⟨bb, oo + k * 3 + 1, none⟩ = some (.int .u64 oa) ∧ wz.cell? ⟨bb, oo + k * 3 + 2, none⟩ = some (.int .i64 oq)) (first | exact ⟨c0, c1, c2, c3, k0, k1, k2⟩ | (refine HKP.out _ ?_; (repeat (first | exact Upd.refl [] _ | refine Upd.setCell ?_ (fun hl => absurd hl (Nat.not_lt.2 (by first | exact Nat.le_refl _ | exact hui.size | exact Nat.le_trans hui.size hN.upd.size))) _ | refine Upd.drew ?_ | refine Upd.alloc ?_ _ | refine Upd.trans (T := []) ?_ (by assumption) (by simp))))) (first
          | (go_at_call 11; (with_reducible refine (HCI.out _ ?_).mono ?_); (repeat (first | exact Upd.refl [] _ | refine Upd.drew ?_ | refine Upd.alloc ?_ _ | refine Upd.trans (T := []) ?_ (by assumption) (by simp))); rintro e wi ⟨rfl, hui⟩)
          | (go_at_call 13; (with_reducible refine (HCP.out _ ?_).mono ?_); (repeat (first | exact Upd.refl [] _ | refine Upd.drew ?_ | refine Upd.alloc ?_ _ | refine Upd.trans (T := []) ?_ (by assumption) (by simp))); rintro e w' ⟨⟨fr', wd', cu', bl', ba', bc'⟩, rfl, hN⟩; unfold encR; have hu := hN.upd; try (first | (have pb := hu.at (hui.at (heap_alloc1 wr (.cells #[.int .i64 0, .int .i64 0, .int .i64 0, .slice none 0 0] 24)) (by simp)) (by simp); obtain ⟨x0, x1, x2, x3⟩ := cells4 pb; obtain ⟨y0, y1, y2, y3⟩ := free4 pb; clear pb) | (have pb := hu.at (heap_alloc1 wi (.cells #[.int .i64 0, .int .i64 0, .int .i64 0, .slice none 0 0] 24)) (by simp); obtain ⟨x0, x1, x2, x3⟩ := cells4 pb; obtain ⟨y0, y1, y2, y3⟩ := free4 pb; clear pb))))
        all_goals go_wp2_with fail
        all_goals go_meet
        all_goals case rel =>
          first
            | (have hx0 := x0
               first
                 | (have hN2 : Nxt (wi.alloc (.cells #[.int .i64 0, .int .i64 0, .int .i64 0, .slice none 0 0] 24)) ⟨fr, wd, cu, ⟨bl, ba, bc⟩⟩ pp.1 w' ⟨fr', wd', cu', ⟨bl', ba', bc'⟩⟩ := hN
                    refine ⟨wi.heap.size, ⟨fr', wd', cu', ⟨bl', ba', bc'⟩⟩, _, rfl, rfl, ?_⟩
                    have hb := boxed_at (w := wr) (w1 := wi.alloc (.cells #[.int .i64 0, .int .i64 0, .int .i64 0, .slice none 0 0] 24)) HM.out.has (heap_alloc1 wi (.cells #[.int .i64 0, .int .i64 0, .int .i64 0, .slice none 0 0] 24)) hN2 (((Upd.refl [] wr).drew.thn hui).alloc (.cells #[.int .i64 0, .int .i64 0, .int .i64 0, .slice none 0 0] 24)) hui.size
                    simp only at hb
                    exact Lib.hid hb)
                 | (refine ⟨wr.heap.size, ⟨fr', wd', cu', ⟨bl', ba', bc'⟩⟩, _, rfl, rfl, ?_⟩
                    have hb := boxed_at (w := wr) (w1 := wi) HM.out.has (hui.at (heap_alloc1 wr (.cells #[.int .i64 0, .int .i64 0, .int .i64 0, .slice none 0 0] 24)) (by simp)) hN (((Upd.refl [] wr).alloc (.cells #[.int .i64 0, .int .i64 0, .int .i64 0, .slice none 0 0] 24)).drew.thn hui) (Nat.le_refl _)
                    simp only at hb
                    exact Lib.hid hb))
            | (refine ⟨w'.heap.size, ⟨fr', wd', cu', ⟨bl', ba', bc'⟩⟩, _, rfl, rfl, ?_⟩
               have hb := boxed_last (w := wr) (w1 := wi) hN ((Upd.refl [] wr).drew.thn hui)
               simp only [cellsR] at hb
               exact Lib.hid hb)
      case rest =>
      obtain ⟨Q, r', b', rfl, rfl, HBX2⟩ := hcut
      obtain ⟨fr', wd', cu', bl', ba', bc'⟩ := r'
      clear c0 c1 c2 c3 k0 k1 k2
      have hblk := HBX2.out.blk
      simp only [cellsR] at hblk
      have hPP := HBX2.out.nxt.upd.at HBX.out (by simp)
      have HPP := Lib.hid hPP
      have HCA : Hid (cellsR ⟨fr', wd', cu', ⟨bl', ba', bc'⟩⟩ = #[.int .i64 fr', .int .i64 wd', .int .i64 cu', .slice ba' bl'.length bc']) := rfl
      generalize bl'.length = m1 at hblk HCA
      obtain ⟨g0, g1, g2, g3⟩ := cells4 hblk
      obtain ⟨f0, f1, f2, f3⟩ := cells4 hPP
      obtain ⟨z0, z1, z2, z3⟩ := free4 hPP
      clear hblk hPP
      go_upto_region 4 with (fail)
      have pf := stored4 HPP.out (.int .i64 fr') (.int .i64 wd') (.int .i64 cu') (.slice ba' m1 bc')
      have hU5 := upd_set4 wc P (.int .i64 fr') (.int .i64 wd') (.int .i64 cu') (.slice ba' m1 bc')
      generalize ((((wc.setCell ⟨P, 0, none⟩ (.int .i64 fr')).setCell ⟨P, 1, none⟩ (.int .i64 wd')).setCell ⟨P, 2, none⟩ (.int .i64 cu')).setCell ⟨P, 3, none⟩ (.slice ba' m1 bc')) = w5 at pf hU5 ⊢
      have HM2 : Hid (MadeAt w H P (Rk (k + 1)) ⟨fr', wd', cu', ⟨bl', ba', bc'⟩⟩ w5) := by
        have := HM.out.step HBX2.out hU5 (by rw [HCA.out]; exact pf)
        show MadeAt _ _ _ _ _ _
        rw [HSTK.out]
        exact this
      clear g0 g1 g2 g3 f0 f1 f2 f3 z0 z1 z2 z3 pf hU5
      go_wp2_with fail
      go_roundg (N - (k + 1))
      case measure => omega
      case rel => exact ⟨k + 1, ⟨fr', wd', cu', ⟨bl', ba', bc'⟩⟩, by go_num, by omega, HM2⟩
    · have HKN : Hid (k = N) := by show k = N; omega
      obtain ⟨c0, c1, c2, c3⟩ := cells4 HM.out.bx
      obtain ⟨e0, e1, e2, e3⟩ := cells4 HM.out.b0
      obtain ⟨z0, z1, z2, z3⟩ := free4 HM.out.b0
      by_cases hkL : k < L
      · have hd1 : decide ((k : Int) < (L : Int)) = true := by simp; omega
        have hd2 : decide ((k : Int) < 100) = false := by simp; omega
        have hd3 : decide (k < L) = true := by simp; omega
        have hd4 : decide (k < 100) = false := by simp; omega
        clear hkg
        go_upto_region 10 with (fail)
        go_wp2_with fail
        have p2 := stored4 HM.out.b0 (.int .i64 r.fr) (.int .i64 r.wd) (.int .i64 r.cu) (.slice r.bk.ad r.bk.l.length r.bk.cap)
        have hU5 := upd_set4 wr H (.int .i64 r.fr) (.int .i64 r.wd) (.int .i64 r.cu) (.slice r.bk.ad r.bk.l.length r.bk.cap)
        generalize ((((wr.setCell ⟨H, 0, none⟩ (.int .i64 r.fr)).setCell ⟨H, 1, none⟩ (.int .i64 r.wd)).setCell ⟨H, 2, none⟩ (.int .i64 r.cu)).setCell ⟨H, 3, none⟩ (.slice r.bk.ad r.bk.l.length r.bk.cap)) = w5 at p2 hU5 ⊢
        obtain ⟨r0, r1, r2, r3⟩ := cells4 p2
        have hh := HM.out.ord
        exact bodyPost_ret (v := .agg #[.int .i64 r.fr, .int .i64 r.wd, .int .i64 r.cu, .slice r.bk.ad r.bk.l.length r.bk.cap]) (by simp [results, Try.results10, go_sem, r0, r1, r2, r3]) rfl ⟨r, rfl, ⟨by rw [HP.out, ← HKN.out]; exact HM.out.eq, HM.out.has.keep1 hU5 HM.out.avH, HM.out.av, HM.out.upd.new hU5 hh.1⟩⟩
      · have hd1 : decide ((k : Int) < (L : Int)) = false := by simp; omega
        have hd3 : decide (k < L) = false := by simp; omega
        clear hkg
        go_upto_region 10 with (fail)
        go_wp2_with fail
        have p2 := stored4 HM.out.b0 (.int .i64 r.fr) (.int .i64 r.wd) (.int .i64 r.cu) (.slice r.bk.ad r.bk.l.length r.bk.cap)
        have hU5 := upd_set4 wr H (.int .i64 r.fr) (.int .i64 r.wd) (.int .i64 r.cu) (.slice r.bk.ad r.bk.l.length r.bk.cap)
        generalize ((((wr.setCell ⟨H, 0, none⟩ (.int .i64 r.fr)).setCell ⟨H, 1, none⟩ (.int .i64 r.wd)).setCell ⟨H, 2, none⟩ (.int .i64 r.cu)).setCell ⟨H, 3, none⟩ (.slice r.bk.ad r.bk.l.length r.bk.cap)) = w5 at p2 hU5 ⊢
        obtain ⟨r0, r1, r2, r3⟩ := cells4 p2
        have hh := HM.out.ord
        exact bodyPost_ret (v := .agg #[.int .i64 r.fr, .int .i64 r.wd, .int .i64 r.cu, .slice r.bk.ad r.bk.l.length r.bk.cap]) (by simp [results, Try.results10, go_sem, r0, r1, r2, r3]) rfl ⟨r, rfl, ⟨by rw [HP.out, ← HKN.out]; exact HM.out.eq, HM.out.has.keep1 hU5 HM.out.avH, HM.out.av, HM.out.upd.new hU5 hh.1⟩⟩
end Go.Proofs.Ytmfijhophaeljaa
