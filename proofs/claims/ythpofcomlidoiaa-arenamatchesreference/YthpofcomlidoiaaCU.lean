/- Contract: Made of the laws. -/
import Derived.Test.YthpofcomlidoiaaCT
namespace Go.Proofs.Ythpofcomlidoiaa
open Go.RowKit Go.Lib

def madeL (c : Int) (os : List Oz) : Ar × List Int := runA (newA ((c % 64).toNat + 1), []) (os.take 200)

set_option maxRecDepth 100000 in
set_option maxHeartbeats 8000000 in
theorem Made_has (c : Int) (la : Option Addr) (lc : Nat) (os : List Oz) (w : World) (hc : 0 ≤ c ∧ c < 256) (ho : Ozs w la os) (hlm : os.length ≤ maxLen) :
    Calls Try.prog 15 #[.int .u8 c, .slice la os.length lc] w fun e w' => ∃ r' ad' cap', e = .returned (.tuple #[encA r', .slice ad' (madeL c os).2.length cap']) ∧ MadeOf w (madeL c os) w' r' ad' cap' := by
  have hdc : c.tmod 64 = c % 64 := Int.tmod_eq_emod_of_nonneg hc.1
  have hwc : IntKind.i64.wrap c = c := by rw [IntKind.wrap_i64]; omega
  obtain ⟨n, hn⟩ : ∃ n, n = (c % 64).toNat + 1 := ⟨_, rfl⟩
  have hcz : c % 64 = (n : Int) - 1 := by omega
  have hn1 : 1 ≤ n := by omega
  have hn2 : n ≤ 64 := by omega
  have hwn : IntKind.i64.wrap ((n : Int) - 1 + 1) = (n : Int) := by rw [IntKind.wrap_i64]; omega
  have HNEW := Lib.hid (RNew_yes n hn1 hn2)
  have HO := Lib.hid ho
  obtain ⟨p, hp⟩ : ∃ p, p = madeL c os := ⟨_, rfl⟩
  rw [← hp]
  obtain ⟨N, hN⟩ : ∃ N, N = min os.length 200 := ⟨_, rfl⟩
  have HP : Hid (p = runA (newA n, []) (os.take N)) := by
    show p = _
    rw [hp, madeL, ← hn]
    congr 1
    rw [hN, List.take_eq_take_iff]; omega
  have HR : Hid (∀ k, k ≤ N → Reach n k (runA (newA n, []) (os.take k)).1 (runA (newA n, []) (os.take k)).2) := fun k hk => reach_run hn1 hn2 os k (by omega)
  obtain ⟨L, hL⟩ : ∃ L, L = os.length := ⟨_, rfl⟩
  rw [← hL] at hlm hN ⊢
  have HL := Lib.hid hL
  have hlz : L ≤ 9223372036854775807 := by simp only [maxLen] at hlm; omega
  clear ho hp hL hn hlm
  rw [hcz] at hdc
  go_enter Try.func15, Try.ntmps15
  go_upto_region 1 with (fail)
  have b0 := heap_alloc1 w (.cells #[.slice none 0 0, .slice none 0 0, .int .i64 0] 25)
  have hu0 := (Upd.refl [] w).alloc (.cells #[.slice none 0 0, .slice none 0 0, .int .i64 0] 25)
  have hs0 : (w.alloc (.cells #[.slice none 0 0, .slice none 0 0, .int .i64 0] 25)).heap.size = w.heap.size + 1 := by simp
  generalize w.alloc (.cells #[.slice none 0 0, .slice none 0 0, .int .i64 0] 25) = W at *
  generalize hH : w.heap.size = H at *
  have HU0 := Lib.hid hu0; have HB0 := Lib.hid b0; have HH := Lib.hid hH; have HS0 := Lib.hid hs0
  clear hu0 b0 hH hs0
  go_upto_region 2 with (go_at_call 11; refine (HNEW.out W).mono ?_; rintro e w1 ⟨r', rfl, hB⟩; obtain ⟨a', sa', sc', ia', ic'⟩ := r'; unfold encA)
  have HM0 : Hid (MadeAt w H w1.heap.size (newA n, []) ⟨a', sa', sc', ia', ic'⟩ none 0 (w1.alloc (.cells (cellsA ⟨a', sa', sc', ia', ic'⟩) 25))) := by
    have hsz := hB.upd.size
    have hs0 := HS0.out
    have hh := HH.out
    have hal := (Upd.refl [] w1).alloc (.cells (cellsA ⟨a', sa', sc', ia', ic'⟩) 25)
    exact ⟨hB.eq, hal.at (hB.upd.at HB0.out (by simp)) (by simp), heap_alloc1 _ _, hB.has.stay hal, ⟨ints_nil _ _, by simp, fun _ => rfl⟩, ⟨hB.av _ (by omega), fun h => absurd rfl h⟩, ⟨hB.has.avoids (Nat.le_refl _), fun h => absurd rfl h⟩, (HU0.out.trans hB.upd (by simp)).trans hal (by simp), fun b hb => ⟨hB.av b (by omega), fun h => absurd rfl h⟩, ⟨by omega, by omega, by omega⟩⟩
  simp only [cellsA] at HM0
  generalize w1.alloc (.cells #[.slice sa' a'.sl.length sc', .slice ia' a'.id.length ic', .int .i64 a'.nx] 25) = W2 at HM0 ⊢
  generalize w1.heap.size = P at *
  clear hB
  go_wp2_with fail
  go_loopg [8, 9] N (fun gk v8 vi wr => ∃ (k : Nat) (r : ArR) (ad : Option Addr) (cap : Nat), v8 = .slice ad (runA (newA n, []) (os.take k)).2.length cap ∧ vi = .int .i64 k ∧ k + gk = N ∧ Hid (MadeAt w H P (runA (newA n, []) (os.take k)) r ad cap wr))
  case atStart => exact ⟨0, _, none, 0, rfl, rfl, by omega, HM0⟩
  case round =>
    obtain ⟨k, r, ad, cap, rfl, rfl, hkg, HM⟩ := hrel
    by_cases hlt : k < N
    · have hkL : k < L := by omega
      have hltz : (k : Int) < (L : Int) := by omega
      have hd1 : decide ((k : Int) < (L : Int)) = true := by simp; omega
      have hd2 : decide ((k : Int) < 200) = true := by simp; omega
      have hk1 : k < os.length := by have := HL.out; omega
      obtain ⟨hok, bb, oo, hla, k0, k1, k2, k3⟩ := (HO.out.stay HM.out.upd) k hk1
      subst hla
      have HRK := Lib.hid (HR.out k (by omega))
      have HST : Hid (runA (newA n, []) (os.take (k + 1)) = ((stepA (runA (newA n, []) (os.take k)).1 (runA (newA n, []) (os.take k)).2 os[k]).1, (stepA (runA (newA n, []) (os.take k)).1 (runA (newA n, []) (os.take k)).2 os[k]).2.1)) := runA_take_succ _ _ _ hk1
      generalize runA (newA n, []) (os.take k) = pk at *
      generalize os[k] = o at *
      obtain ⟨a, sa, sc, ia, ic⟩ := r
      have hea : a = pk.1 := HM.out.eq
      subst hea
      have hcall := fun W' (hu : Upd [] wr W') => step_has ⟨pk.1, sa, sc, ia, ic⟩ ad cap pk.2 o W' (HM.out.has.stay hu) HRK.out.good (HM.out.his.stay hu) (by have := HRK.out.isl; omega) hok
      obtain ⟨q1, q2, q3, hq⟩ : ∃ q1 q2 q3, stepA pk.1 pk.2 o = (q1, q2, q3) := ⟨_, _, _, rfl⟩
      have HC : Hid (∀ W', Upd [] wr W' → Calls Try.prog 27 #[.agg #[.slice sa pk.1.sl.length sc, .slice ia pk.1.id.length ic, .int .i64 pk.1.nx], .slice ad pk.2.length cap, .agg #[.int .u8 o.k, .int .i64 o.n, .int .u8 o.a, .int .u8 o.b]] W' fun e w' => ∃ a' sa' sc' ia' ic' ad' cap', e = .returned (.tuple #[.agg #[.slice sa' (Ar.sl a').length sc', .slice ia' (Ar.id a').length ic', .int .i64 (Ar.nx a')], .slice ad' q2.length cap', .bool q3]) ∧ Nxt W' ⟨pk.1, sa, sc, ia, ic⟩ q1 w' ⟨a', sa', sc', ia', ic'⟩ ∧ HasI w' ad' cap' q2 ∧ ∀ b, b < W'.heap.size → AvoidsI ad pk.2 b → AvoidsI ad' q2 b) := fun W' hu => by
        refine (hcall W' hu).mono ?_
        rintro e w' ⟨r', ad', cap', he, hN, hi, hav⟩
        obtain ⟨a', sa', sc', ia', ic'⟩ := r'
        rw [hq] at he hN hi hav
        exact ⟨a', sa', sc', ia', ic', ad', cap', he, hN, hi, hav⟩
      rw [hq] at HST
      have bx := HM.out.bx
      simp only [cellsA] at bx
      have HBX := Lib.hid bx
      generalize pk.1.sl.length = n1 at *
      generalize pk.1.id.length = n2 at *
      generalize pk.1.nx = nx at *
      generalize pk.2.length = m at *
      obtain ⟨c0, c1, c2⟩ := cells3 HBX.out
      clear hq hcall hok bx
      generalize o.k = ok at *
      generalize o.n = on at *
      generalize o.a = oa at *
      generalize o.b = ob at *
      go_upto_region 6 with (fail)
      go_cut [10, 11] (fun v10 v11 wx => ∃ Q r' ad' cap', v10 = .pointer (some ⟨Q, 0, none⟩) ∧ v11 = .slice ad' q2.length cap' ∧ Hid (Stepped wr ⟨pk.1, sa, sc, ia, ic⟩ ad pk.2 q1 q2 Q ad' cap' wx r'))
      case first =>
        have HKP : Hid (∀ W', Upd [] wr W' → W'.cell? ⟨P, 0, none⟩ = some (.slice sa n1 sc) ∧ W'.cell? ⟨P, 1, none⟩ = some (.slice ia n2 ic) ∧ W'.cell? ⟨P, 2, none⟩ = some (.int .i64 nx) ∧ W'.cell? ⟨bb, oo + k * 4, none⟩ = some (.int .u8 ok) ∧ W'.cell? ⟨bb, oo + k * 4 + 1, none⟩ = some (.int .i64 on) ∧ W'.cell? ⟨bb, oo + k * 4 + 2, none⟩ = some (.int .u8 oa) ∧ W'.cell? ⟨bb, oo + k * 4 + 3, none⟩ = some (.int .u8 ob)) := fun W' hu => ⟨hu.cell c0 (by simp), hu.cell c1 (by simp), hu.cell c2 (by simp), hu.cell k0 (by simp), hu.cell k1 (by simp), hu.cell k2 (by simp), hu.cell k3 (by simp)⟩
        go_region_held3 (fun wz => wz.cell? ⟨P, 0, none⟩ = some (.slice sa n1 sc) ∧ wz.cell? ⟨P, 1, none⟩ = some (.slice ia n2 ic) ∧ wz.cell? ⟨P, 2, none⟩ = some (.int .i64 nx) ∧ wz.cell? ⟨bb, oo + k * 4, none⟩ = some (.int .u8 ok) ∧ wz.cell? ⟨bb, oo + k * 4 + 1, none⟩ = some (.int .i64 on) ∧ wz.cell? ⟨bb, oo + k * 4 + 2, none⟩ = some (.int .u8 oa) ∧ wz.cell? ⟨bb, oo + k * 4 + 3, none⟩ = some (.int .u8 ob)) (first | exact ⟨c0, c1, c2, k0, k1, k2, k3⟩ | (refine HKP.out _ ?_; (repeat (first | exact Upd.refl [] _ | refine Upd.setCell ?_ (fun hl => absurd hl (Nat.lt_irrefl _)) _ | refine Upd.drew ?_ | refine Upd.alloc ?_ _ | refine Upd.trans (T := []) ?_ (by assumption) (by simp))))) (first
          | (go_at_call 27; (with_reducible refine (HC.out _ ?_).mono ?_); (repeat (first | exact Upd.refl [] _ | refine Upd.drew ?_ | refine Upd.alloc ?_ _ | refine Upd.trans (T := []) ?_ (by assumption) (by simp))); rintro e w' ⟨a', sa', sc', ia', ic', ad', cap', rfl, hN, hi, hav⟩; have hu := hN.upd; try (have pb := hu.at (heap_alloc1 wr (.cells #[.slice none 0 0, .slice none 0 0, .int .i64 0] 25)) (by simp); obtain ⟨x0, x1, x2⟩ := cells3 pb; obtain ⟨y0, y1, y2⟩ := free3 pb; clear pb)))
        all_goals go_wp2_with fail
        all_goals go_meet
        all_goals case rel =>
          first
            | (have hx0 := x0
               refine ⟨wr.heap.size, ⟨a', sa', sc', ia', ic'⟩, ad', cap', rfl, rfl, ?_⟩
               have hb := stepped_first HM.out.has HM.out.his (hN.of_upd (w := wr.alloc (.cells #[.slice none 0 0, .slice none 0 0, .int .i64 0] 25)) ((Upd.refl [] _).drew)) hi hav
               exact hb)
            | (refine ⟨w'.heap.size, ⟨a', sa', sc', ia', ic'⟩, ad', cap', rfl, rfl, ?_⟩
               have hb := stepped_last (hN.of_upd (w := wr) ((Upd.refl [] wr).drew)) hi hav
               simp only [cellsA] at hb
               exact hb)
      case rest =>
      obtain ⟨Q, r', ad', cap', rfl, rfl, HS⟩ := hcut
      obtain ⟨a', sa', sc', ia', ic'⟩ := r'
      have hblk := HS.out.bx.blk
      simp only [cellsA] at hblk
      have hPP := HS.out.bx.nxt.upd.at HBX.out (by simp)
      have HPP := Lib.hid hPP
      have HCA : Hid (cellsA ⟨a', sa', sc', ia', ic'⟩ = #[.slice sa' a'.sl.length sc', .slice ia' a'.id.length ic', .int .i64 a'.nx]) := rfl
      generalize a'.sl.length = m1 at hblk HCA
      generalize a'.id.length = m2 at hblk HCA
      generalize a'.nx = mx at hblk HCA
      obtain ⟨g0, g1, g2⟩ := cells3 hblk
      obtain ⟨f0, f1, f2⟩ := cells3 hPP
      obtain ⟨z0, z1, z2⟩ := free3 hPP
      clear hblk hPP c0 c1 c2 k0 k1 k2 k3
      go_upto_region 8 with (fail)
      have pf := stored3 HPP.out (.slice sa' m1 sc') (.slice ia' m2 ic') (.int .i64 mx)
      have hU5 := upd_set3 wc P (.slice sa' m1 sc') (.slice ia' m2 ic') (.int .i64 mx)
      generalize (((wc.setCell ⟨P, 0, none⟩ (.slice sa' m1 sc')).setCell ⟨P, 1, none⟩ (.slice ia' m2 ic')).setCell ⟨P, 2, none⟩ (.int .i64 mx)) = w5 at pf hU5 ⊢
      have HM2 : Hid (MadeAt w H P (q1, q2) ⟨a', sa', sc', ia', ic'⟩ ad' cap' w5) := HM.out.step HS.out hU5 (by rw [HCA.out]; exact pf)
      clear g0 g1 g2 f0 f1 f2 z0 z1 z2 pf hU5
      go_wp2_with fail
      go_roundg (N - (k + 1))
      case measure => omega
      case rel => exact ⟨k + 1, ⟨a', sa', sc', ia', ic'⟩, ad', cap', by rw [HST.out], by go_num, by omega, by rw [HST.out]; exact HM2⟩
    · obtain rfl : k = N := by omega
      rw [← HP.out] at HM ⊢
      obtain ⟨a, sa, sc, ia, ic⟩ := r
      have bx := HM.out.bx
      simp only [cellsA] at bx
      have HE : Hid (encA ⟨a, sa, sc, ia, ic⟩ = .agg #[.slice sa a.sl.length sc, .slice ia a.id.length ic, .int .i64 a.nx]) := rfl
      generalize a.sl.length = n1 at bx HE
      generalize a.id.length = n2 at bx HE
      generalize a.nx = nx at bx HE
      obtain ⟨c0, c1, c2⟩ := cells3 bx
      obtain ⟨e0, e1, e2⟩ := cells3 HM.out.rb
      obtain ⟨z0, z1, z2⟩ := free3 HM.out.rb
      have HRB := Lib.hid HM.out.rb
      clear bx
      by_cases hkL : k < L
      · have hd1 : decide ((k : Int) < (L : Int)) = true := by simp; omega
        have hd2 : decide ((k : Int) < 200) = false := by simp; omega
        go_wp2_with fail
        have pf := stored3 HRB.out (.slice sa n1 sc) (.slice ia n2 ic) (.int .i64 nx)
        have hU5 := upd_set3 wr H (.slice sa n1 sc) (.slice ia n2 ic) (.int .i64 nx)
        generalize (((wr.setCell ⟨H, 0, none⟩ (.slice sa n1 sc)).setCell ⟨H, 1, none⟩ (.slice ia n2 ic)).setCell ⟨H, 2, none⟩ (.int .i64 nx)) = w5 at pf hU5 ⊢
        obtain ⟨r0, r1, r2⟩ := cells3 pf
        exact bodyPost_ret (v := .tuple #[.agg #[.slice sa n1 sc, .slice ia n2 ic, .int .i64 nx], .slice ad p.2.length cap]) (by simp [results, Try.results15, go_sem, r0, r1, r2]) rfl ⟨_, ad, cap, by rw [HE.out], HM.out.done hU5⟩
      · have hd1 : decide ((k : Int) < (L : Int)) = false := by simp; omega
        go_wp2_with fail
        have pf := stored3 HRB.out (.slice sa n1 sc) (.slice ia n2 ic) (.int .i64 nx)
        have hU5 := upd_set3 wr H (.slice sa n1 sc) (.slice ia n2 ic) (.int .i64 nx)
        generalize (((wr.setCell ⟨H, 0, none⟩ (.slice sa n1 sc)).setCell ⟨H, 1, none⟩ (.slice ia n2 ic)).setCell ⟨H, 2, none⟩ (.int .i64 nx)) = w5 at pf hU5 ⊢
        obtain ⟨r0, r1, r2⟩ := cells3 pf
        exact bodyPost_ret (v := .tuple #[.agg #[.slice sa n1 sc, .slice ia n2 ic, .int .i64 nx], .slice ad p.2.length cap]) (by simp [results, Try.results15, go_sem, r0, r1, r2]) rfl ⟨_, ad, cap, by rw [HE.out], HM.out.done hU5⟩
end Go.Proofs.Ythpofcomlidoiaa
