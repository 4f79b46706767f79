
/- Contract of layer 10: the law's Made. -/
import Derived.Test.YtpneljhplbkdkaaAN
import Derived.Deep.QuietTactic
import Derived.BigQuiet
namespace Go.Proofs.Ytpneljhplbkdkaa
open Go.RowKit Go.Lib

set_option maxRecDepth 100000 in
set_option maxHeartbeats 8000000 in
theorem Made_has (c : Int) (la : Option Addr) (lc : Nat) (l : List St) (w : World) (hc : 0 ≤ c ∧ c < 256) (hr : Row LP w la l) (hlm : l.length ≤ maxLen) :
    Calls Try.prog 13 #[.int .u8 c, .slice la l.length lc] w fun e w' => ∃ x : MdR, e = .returned (encM x) ∧ MadeOf w (madeM c l) w' x := by
  have hdc : c.tmod 64 = c % 64 := Int.tmod_eq_emod_of_nonneg hc.1
  have hwc : IntKind.i64.wrap c = c := by rw [IntKind.wrap_i64]; omega
  have hwn : IntKind.i64.wrap (c % 64 + 1) = c % 64 + 1 := by rw [IntKind.wrap_i64]; omega
  have HR := Lib.hid hr
  obtain ⟨g, hg⟩ : ∃ g, g = madeM c l := ⟨_, rfl⟩
  rw [← hg]
  obtain ⟨N, hN⟩ : ∃ N, N = min l.length 100 := ⟨_, rfl⟩
  obtain ⟨m0, hm0⟩ : ∃ m0, m0 = (newM (c % 64 + 1)).1 := ⟨_, rfl⟩
  have HP : Hid (g = runM m0 (l.take N)) := by
    show g = _
    rw [hg, hm0, madeM]
    congr 1
    rw [hN, List.take_eq_take_iff]; omega
  have HOK : Hid (∀ k, k ≤ N → OkM (runM m0 (l.take k)) ∧ (runM m0 (l.take k)).is.length ≤ 100) := fun k hk => by
    have hok : OkM m0 := by rw [hm0]; exact newM_ok (by omega)
    have hz : m0.is.length = 0 := by rw [hm0]; unfold newM; split <;> rfl
    have h := runM_ok hok (l.take k)
    refine ⟨h.1, ?_⟩
    have h2 := h.2
    rw [hz, List.length_take] at h2
    omega
  have HNEW := Lib.hid (RNew_has (c % 64 + 1))
  unfold GivesN at HNEW
  rw [← hm0] at HNEW
  generalize (newM (c % 64 + 1)).2 = ne at HNEW
  obtain ⟨n, hn⟩ : ∃ n, n = l.length := ⟨_, rfl⟩
  rw [← hn] at hlm hN ⊢
  have HN := Lib.hid hn
  have hlz : n ≤ 9223372036854775807 := by simp only [maxLen] at hlm; omega
  have hM : ∀ x : MdR, x.md = m0 → x.md = runM m0 (l.take 0) := fun x h => h
  clear hr hg hn hlm hm0
  have hN1 : N ≤ 100 := by omega
  go_enter Try.func13, Try.ntmps13
  go_upto_region 1 with (fail)
  have b0 := heap_alloc1 w (.cells #[.int .i64 0, .slice none 0 0, .int .i64 0, .slice none 0 0] 25)
  have hu0 := (Upd.refl [] w).alloc (.cells #[.int .i64 0, .slice none 0 0, .int .i64 0, .slice none 0 0] 25)
  have hs0 : (w.alloc (.cells #[.int .i64 0, .slice none 0 0, .int .i64 0, .slice none 0 0] 25)).heap.size = w.heap.size + 1 := by simp
  generalize w.alloc (.cells #[.int .i64 0, .slice none 0 0, .int .i64 0, .slice none 0 0] 25) = W at *
  generalize hH : w.heap.size = H at *
  have HU0 := Lib.hid hu0; have HB0 := Lib.hid b0; have HH := Lib.hid hH; have HS0 := Lib.hid hs0
  clear hu0 b0 hH hs0
  go_upto_region 2 with (go_at_call 19; refine (HNEW.out W).mono ?_; rintro e w1 ⟨x, rfl, hmd, hhs, hav, hup⟩; unfold encM cellsM)
  have HM0 : Hid (MadeAt w H w1.heap.size (runM m0 (l.take 0)) (w1.alloc (.cells #[.int .i64 x.cap, .slice x.es.ad x.es.l.length x.es.cap, .int .i64 x.nx, .slice x.is.ad x.is.l.length x.is.cap] 25)) x) := by
    have hsz := hup.size
    have hs0 := HS0.out
    have hh := HH.out
    have hal := (Upd.refl [] w1).alloc (.cells #[.int .i64 x.cap, .slice x.es.ad x.es.l.length x.es.cap, .int .i64 x.nx, .slice x.is.ad x.is.l.length x.is.cap] 25)
    exact ⟨hal.at (hup.at HB0.out (by simp)) (by simp), heap_alloc1 _ _, hM x hmd, hhs.stay hal, hav _, hav _, (HU0.out.thn hup).thn hal, fun b _ => hav b, ⟨by omega, by omega, by omega⟩⟩
  generalize w1.alloc (.cells #[.int .i64 x.cap, .slice x.es.ad x.es.l.length x.es.cap, .int .i64 x.nx, .slice x.is.ad x.is.l.length x.is.cap] 25) = W2 at HM0 ⊢
  generalize w1.heap.size = P at *
  clear hmd hhs hav hup hM HNEW hdc hwc hwn hc
  go_wp2_with fail
  go_loopg [7] N (fun gk vi wr => ∃ (k : Nat) (x : MdR), vi = .int .i64 k ∧ k + gk = N ∧ Hid (MadeAt w H P (runM m0 (l.take k)) wr x))
  case atStart => exact ⟨0, _, rfl, by omega, HM0⟩
  case round =>
    obtain ⟨k, x, rfl, hkg, HM⟩ := hrel
    by_cases hlt : k < N
    · have hkn : k < n := by omega
      have hltz : (k : Int) < (n : Int) := by omega
      have hd1 : decide ((k : Int) < (n : Int)) = true := by simp; omega
      have hd2 : decide ((k : Int) < 100) = true := by simp; omega
      have hk1 : k < l.length := by have := HN.out; omega
      have HST := Lib.hid (runM_succ m0 l hk1)
      obtain ⟨bb, oo, hla, s0, s1, s2, s3, s4, s5⟩ := (HR.out.stay HM.out.upd).stp k hk1
      subst hla
      have hok := HOK.out k (by omega)
      have hdo : ∀ W, Upd [] wr W → Calls Try.prog 15 #[encM x, encC l[k].c, .int .i64 l[k].h] W (GivesM x (doM (runM m0 (l.take k)) l[k].c l[k].h) W) := fun W hu => by
        have hmd := HM.out.md
        have h1 : x.es.l.length ≤ 1000 := by have h2 := hok.1.len; have h3 := hok.1.cap.2; rw [← hmd] at h2 h3; simp only [MdR.md] at h2 h3; omega
        have h2 : x.is.l.length ≤ 100 := by have h2 := hok.2; rw [← hmd] at h2; exact h2
        have h3 : x.nx = (x.is.l.length : Int) := by have h2 := hok.1.nx; rw [← hmd] at h2; exact h2
        rw [← hmd]
        exact RDo_has x l[k].c l[k].h W (HM.out.has.stay hu) h1 (by omega) (by omega)
      generalize doM (runM m0 (l.take k)) l[k].c l[k].h = gk2 at *
      generalize l[k] = sk at *
      obtain ⟨⟨ck, ct, ch, cm, cb⟩, hh⟩ := sk
      unfold encM cellsM encC at hdo
      unfold GivesM encM encR cellsM cellsR at hdo
      simp only at hdo s0 s1 s2 s3 s4 s5
      have HDO := Lib.hid hdo
      clear hdo hok hk1
      have hbx := HM.out.bx
      unfold cellsM at hbx
      obtain ⟨x0, x1, x2, x3⟩ := cells4 hbx
      clear hbx
      have hwk : IntKind.i64.wrap ((k : Int) + 1) = (k : Int) + 1 := by rw [IntKind.wrap_i64]; omega
      have HHM := Lib.hid HM.out.has
      go_upto_region 5 with (fail)
      go_cut [8, 9] from 28 to 42 (fun v8 v9 wx => ∃ P2 Q2 x2 y2, v8 = .pointer (some ⟨P2, 0, none⟩) ∧ v9 = .pointer (some ⟨Q2, 0, none⟩) ∧ Hid (Box2 wr x gk2.1 gk2.2 P2 Q2 wx x2 y2))
      case first =>
        obtain ⟨xc, ⟨xel, xea, xec⟩, xn, ⟨xil, xia, xic⟩⟩ := x
        simp only at HDO x0 x1 x2 x3
        obtain ⟨xen, hxen⟩ : ∃ z, z = xel.length := ⟨_, rfl⟩
        obtain ⟨xin, hxin⟩ : ∃ z, z = xil.length := ⟨_, rfl⟩
        rw [← hxen, ← hxin] at HDO
        rw [← hxen] at x1
        rw [← hxin] at x3
        clear hxen hxin
        obtain ⟨g1, g2⟩ := gk2
        simp only at HDO ⊢
        have HKP : Hid (∀ wz, Upd [] wr wz → wz.cell? ⟨P, 0, none⟩ = some (.int .i64 xc) ∧ wz.cell? ⟨P, 1, none⟩ = some (.slice xea xen xec) ∧ wz.cell? ⟨P, 2, none⟩ = some (.int .i64 xn) ∧ wz.cell? ⟨P, 3, none⟩ = some (.slice xia xin xic) ∧ wz.cell? ⟨bb, oo + k * 6, none⟩ = some (.int .i64 ck) ∧ wz.cell? ⟨bb, oo + k * 6 + 1, none⟩ = some (.int .i64 ct) ∧ wz.cell? ⟨bb, oo + k * 6 + 2, none⟩ = some (.int .i64 ch) ∧ wz.cell? ⟨bb, oo + k * 6 + 3, none⟩ = some (.int .i64 cm) ∧ wz.cell? ⟨bb, oo + k * 6 + 4, none⟩ = some (.int .i64 cb) ∧ wz.cell? ⟨bb, oo + k * 6 + 5, none⟩ = some (.int .i64 hh)) := Lib.hid (fun wz hu => ⟨hu.cell x0 (by simp), hu.cell x1 (by simp), hu.cell x2 (by simp), hu.cell x3 (by simp), hu.cell s0 (by simp), hu.cell s1 (by simp), hu.cell s2 (by simp), hu.cell s3 (by simp), hu.cell s4 (by simp), hu.cell s5 (by simp)⟩)
        go_region_held3 (fun wz => wz.cell? ⟨P, 0, none⟩ = some (.int .i64 xc) ∧ wz.cell? ⟨P, 1, none⟩ = some (.slice xea xen xec) ∧ wz.cell? ⟨P, 2, none⟩ = some (.int .i64 xn) ∧ wz.cell? ⟨P, 3, none⟩ = some (.slice xia xin xic) ∧ wz.cell? ⟨bb, oo + k * 6, none⟩ = some (.int .i64 ck) ∧ wz.cell? ⟨bb, oo + k * 6 + 1, none⟩ = some (.int .i64 ct) ∧ wz.cell? ⟨bb, oo + k * 6 + 2, none⟩ = some (.int .i64 ch) ∧ wz.cell? ⟨bb, oo + k * 6 + 3, none⟩ = some (.int .i64 cm) ∧ wz.cell? ⟨bb, oo + k * 6 + 4, none⟩ = some (.int .i64 cb) ∧ wz.cell? ⟨bb, oo + k * 6 + 5, none⟩ = some (.int .i64 hh)) (first | (with_reducible exact ⟨x0, x1, x2, x3, s0, s1, s2, s3, s4, s5⟩) | ((with_reducible refine HKP.out _ ?_); (repeat (first | with_reducible exact Upd.refl [] _ | with_reducible refine Upd.setCell ?_ (fun hl => absurd hl (Nat.not_lt.2 (by first | (with_reducible exact Nat.le_refl _) | (dsimp only; omega)))) _ | with_reducible refine Upd.drew ?_ | with_reducible refine Upd.alloc ?_ _ | refine Upd.trans (T := []) ?_ (by assumption) (by simp))))) (first
          | (go_at_call 15; (with_reducible refine (HDO.out _ ?_).mono ?_); (repeat (first | with_reducible exact Upd.refl [] _ | with_reducible refine Upd.setCell ?_ (fun hl => absurd hl (Nat.not_lt.2 (by first | (with_reducible exact Nat.le_refl _) | (dsimp only; omega)))) _ | with_reducible refine Upd.drew ?_ | with_reducible refine Upd.alloc ?_ _ | refine Upd.trans (T := []) ?_ (by assumption) (by simp))); rintro e w' ⟨x2, y2, rfl, hD⟩; have hu := hD.upd; (first | have hu1 : Upd [] (wr.drew) w' := (by with_reducible exact hu) | (have hu1 : Upd [] ((wr.alloc (.cells #[.int .i64 0, .slice none 0 0, .int .i64 0, .slice none 0 0] 25)).drew) w' := (by with_reducible exact hu); have pb := hu1.at (Upd.at (Upd.drew (Upd.refl [] _)) (heap_alloc1 wr (.cells #[.int .i64 0, .slice none 0 0, .int .i64 0, .slice none 0 0] 25)) (by simp)) (by simp); obtain ⟨y0, y1, y2', y3⟩ := cells4 pb; obtain ⟨z0, z1, z2, z3⟩ := free4 pb; have hlt := lt_block pb; have hne : ¬ wr.heap.size = w'.heap.size := (by omega); have HPB := Lib.hid pb; clear pb) | (have hu1 : Upd [] ((wr.alloc (.cells #[.int .i64 0, .int .i64 0, .bool false, .slice none 0 0] 34)).drew) w' := (by with_reducible exact hu); have pb := hu1.at (Upd.at (Upd.drew (Upd.refl [] _)) (heap_alloc1 wr (.cells #[.int .i64 0, .int .i64 0, .bool false, .slice none 0 0] 34)) (by simp)) (by simp); obtain ⟨y0, y1, y2', y3⟩ := cells4 pb; obtain ⟨z0, z1, z2, z3⟩ := free4 pb; have hlt := lt_block pb; have hne : ¬ wr.heap.size = w'.heap.size := (by omega); have HPB := Lib.hid pb; clear pb) | (have hu1 : Upd [] (((wr.alloc (.cells #[.int .i64 0, .slice none 0 0, .int .i64 0, .slice none 0 0] 25)).alloc (.cells #[.int .i64 0, .int .i64 0, .bool false, .slice none 0 0] 34)).drew) w' := (by with_reducible exact hu); have pb := hu1.at (Upd.at (Upd.drew (Upd.refl [] _)) ((two_boxes wr (.cells #[.int .i64 0, .slice none 0 0, .int .i64 0, .slice none 0 0] 25) (.cells #[.int .i64 0, .int .i64 0, .bool false, .slice none 0 0] 34)).2.1) (by simp)) (by simp); have qb := hu1.at (Upd.at (Upd.drew (Upd.refl [] _)) ((two_boxes wr (.cells #[.int .i64 0, .slice none 0 0, .int .i64 0, .slice none 0 0] 25) (.cells #[.int .i64 0, .int .i64 0, .bool false, .slice none 0 0] 34)).2.2.1) (by simp)) (by simp); obtain ⟨y0, y1, y2', y3⟩ := cells4 pb; obtain ⟨z0, z1, z2, z3⟩ := free4 pb; obtain ⟨t0, t1, t2, t3⟩ := cells4 qb; obtain ⟨u0, u1, u2, u3⟩ := free4 qb; have HPB := Lib.hid pb; have HQB := Lib.hid qb; clear pb qb) | (have hu1 : Upd [] (((wr.alloc (.cells #[.int .i64 0, .int .i64 0, .bool false, .slice none 0 0] 34)).alloc (.cells #[.int .i64 0, .slice none 0 0, .int .i64 0, .slice none 0 0] 25)).drew) w' := (by with_reducible exact hu); have pb := hu1.at (Upd.at (Upd.drew (Upd.refl [] _)) ((two_boxes wr (.cells #[.int .i64 0, .int .i64 0, .bool false, .slice none 0 0] 34) (.cells #[.int .i64 0, .slice none 0 0, .int .i64 0, .slice none 0 0] 25)).2.1) (by simp)) (by simp); have qb := hu1.at (Upd.at (Upd.drew (Upd.refl [] _)) ((two_boxes wr (.cells #[.int .i64 0, .int .i64 0, .bool false, .slice none 0 0] 34) (.cells #[.int .i64 0, .slice none 0 0, .int .i64 0, .slice none 0 0] 25)).2.2.1) (by simp)) (by simp); obtain ⟨y0, y1, y2', y3⟩ := cells4 pb; obtain ⟨z0, z1, z2, z3⟩ := free4 pb; obtain ⟨t0, t1, t2, t3⟩ := cells4 qb; obtain ⟨u0, u1, u2, u3⟩ := free4 qb; have HPB := Lib.hid pb; have HQB := Lib.hid qb; clear pb qb) | (trace_state; fail))))
        all_goals go_wp2_with fail
        all_goals go_meet
        case rel =>
          refine ⟨_, _, x2, y2, rfl, rfl, ?_⟩
          have hb := b2_none HHM.out (by (repeat (first | with_reducible exact Upd.refl [] _ | with_reducible refine Upd.setCell ?_ (fun hl => absurd hl (Nat.not_lt.2 (by first | (with_reducible exact Nat.le_refl _) | (dsimp only; omega)))) _ | with_reducible refine Upd.drew ?_ | with_reducible refine Upd.alloc ?_ _ | refine Upd.trans (T := []) ?_ (by assumption) (by simp)))) hD
          exact Lib.hid hb
        case rel =>
          refine ⟨_, _, x2, y2, rfl, rfl, ?_⟩
          have hb := b2_enon HHM.out (by (repeat (first | with_reducible exact Upd.refl [] _ | with_reducible refine Upd.setCell ?_ (fun hl => absurd hl (Nat.not_lt.2 (by first | (with_reducible exact Nat.le_refl _) | (dsimp only; omega)))) _ | with_reducible refine Upd.drew ?_ | with_reducible refine Upd.alloc ?_ _ | refine Upd.trans (T := []) ?_ (by assumption) (by simp)))) hD
          exact Lib.hid hb
        case rel =>
          refine ⟨_, _, x2, y2, rfl, rfl, ?_⟩
          have hb := b2_mod HHM.out (by (repeat (first | with_reducible exact Upd.refl [] _ | with_reducible refine Upd.setCell ?_ (fun hl => absurd hl (Nat.not_lt.2 (by first | (with_reducible exact Nat.le_refl _) | (dsimp only; omega)))) _ | with_reducible refine Upd.drew ?_ | with_reducible refine Upd.alloc ?_ _ | refine Upd.trans (T := []) ?_ (by assumption) (by simp)))) hD (Nat.le_refl _) (by simp <;> omega) HPB.out
          exact Lib.hid hb
        case rel =>
          refine ⟨_, _, x2, y2, rfl, rfl, ?_⟩
          have hb := b2_two HHM.out (by (repeat (first | with_reducible exact Upd.refl [] _ | with_reducible refine Upd.setCell ?_ (fun hl => absurd hl (Nat.not_lt.2 (by first | (with_reducible exact Nat.le_refl _) | (dsimp only; omega)))) _ | with_reducible refine Upd.drew ?_ | with_reducible refine Upd.alloc ?_ _ | refine Upd.trans (T := []) ?_ (by assumption) (by simp)))) hD (by omega) (Nat.le_refl _) (by simp <;> omega) (by omega) (by simp <;> omega) HPB.out HQB.out
          exact Lib.hid hb
        case rel =>
          refine ⟨_, _, x2, y2, rfl, rfl, ?_⟩
          have hb := b2_res HHM.out (by (repeat (first | with_reducible exact Upd.refl [] _ | with_reducible refine Upd.setCell ?_ (fun hl => absurd hl (Nat.not_lt.2 (by first | (with_reducible exact Nat.le_refl _) | (dsimp only; omega)))) _ | with_reducible refine Upd.drew ?_ | with_reducible refine Upd.alloc ?_ _ | refine Upd.trans (T := []) ?_ (by assumption) (by simp)))) hD (Nat.le_refl _) (by simp <;> omega) HPB.out
          exact Lib.hid hb
        case rel =>
          refine ⟨_, _, x2, y2, rfl, rfl, ?_⟩
          have hb := b2_two HHM.out (by (repeat (first | with_reducible exact Upd.refl [] _ | with_reducible refine Upd.setCell ?_ (fun hl => absurd hl (Nat.not_lt.2 (by first | (with_reducible exact Nat.le_refl _) | (dsimp only; omega)))) _ | with_reducible refine Upd.drew ?_ | with_reducible refine Upd.alloc ?_ _ | refine Upd.trans (T := []) ?_ (by assumption) (by simp)))) hD (by omega) (by omega) (by simp <;> omega) (Nat.le_refl _) (by simp <;> omega) HQB.out HPB.out
          exact Lib.hid hb
      case rest =>
      obtain ⟨P2, Q2, x2, y2, rfl, rfl, HBX⟩ := hcut
      obtain ⟨w5, hw5⟩ : ∃ x, x = wc := ⟨_, rfl⟩
      subst hw5
      have hpb := HBX.out.bp
      have hq0 := HBX.out.did.upd.at HM.out.bx (by simp)
      unfold cellsM at hpb hq0
      clear s0 s1 s2 s3 s4 s5
      obtain ⟨y0, y1, y2', y3⟩ := cells4 hpb
      obtain ⟨t0, t1, t2, t3⟩ := cells4 hq0
      obtain ⟨z0, z1, z2, z3⟩ := free4 hq0
      have HQ0 := Lib.hid hq0
      clear hpb hq0
      go_upto_region 4 with (fail)
      have k8 := stored4 HQ0.out (.int .i64 x2.cap) (.slice x2.es.ad x2.es.l.length x2.es.cap) (.int .i64 x2.nx) (.slice x2.is.ad x2.is.l.length x2.is.cap)
      have u8 := upd_set4 w5 P (.int .i64 x2.cap) (.slice x2.es.ad x2.es.l.length x2.es.cap) (.int .i64 x2.nx) (.slice x2.is.ad x2.is.l.length x2.is.cap)
      with_reducible generalize (((w5.setCell ⟨P, 0, none⟩ (.int .i64 x2.cap)).setCell ⟨P, 1, none⟩ (.slice x2.es.ad x2.es.l.length x2.es.cap)).setCell ⟨P, 2, none⟩ (.int .i64 x2.nx)).setCell ⟨P, 3, none⟩ (.slice x2.is.ad x2.is.l.length x2.is.cap) = w6 at k8 u8 ⊢
      have HM2 : Hid (MadeAt w H P (runM m0 (l.take (k + 1))) w6 x2) := Lib.hid (by rw [HST.out]; exact HM.out.step HBX.out u8 k8)
      clear y0 y1 y2' y3 t0 t1 t2 t3 z0 z1 z2 z3 k8 u8
      go_wp2_with fail
      go_roundg (N - (k + 1))
      case measure => omega
      case rel => exact ⟨k + 1, x2, by go_num, by omega, HM2⟩
    · obtain rfl : N = k := by omega
      have hbx := HM.out.bx
      unfold cellsM at hbx
      obtain ⟨x0, x1, x2, x3⟩ := cells4 hbx
      clear hbx
      have HRB := Lib.hid HM.out.rb
      obtain ⟨d0, d1, d2, d3⟩ := cells4 HRB.out
      obtain ⟨e0, e1, e2, e3⟩ := free4 HRB.out
      by_cases hkn : N < n
      · have hltz : (N : Int) < (n : Int) := by omega
        have hd1 : decide ((N : Int) < (n : Int)) = true := by simp; omega
        have hd2 : decide ((N : Int) < 100) = false := decide_eq_false (by omega)
        go_wp2_with fail
        have k8 := stored4 HRB.out (.int .i64 x.cap) (.slice x.es.ad x.es.l.length x.es.cap) (.int .i64 x.nx) (.slice x.is.ad x.is.l.length x.is.cap)
        have u8 := upd_set4 wr H (.int .i64 x.cap) (.slice x.es.ad x.es.l.length x.es.cap) (.int .i64 x.nx) (.slice x.is.ad x.is.l.length x.is.cap)
        with_reducible generalize (((wr.setCell ⟨H, 0, none⟩ (.int .i64 x.cap)).setCell ⟨H, 1, none⟩ (.slice x.es.ad x.es.l.length x.es.cap)).setCell ⟨H, 2, none⟩ (.int .i64 x.nx)).setCell ⟨H, 3, none⟩ (.slice x.is.ad x.is.l.length x.is.cap) = w8 at k8 u8 ⊢
        have hdone := HM.out.done u8
        rw [← HP.out] at hdone
        obtain ⟨r0, r1, r2, r3⟩ := cells4 k8
        exact bodyPost_ret (v := .agg #[.int .i64 x.cap, .slice x.es.ad x.es.l.length x.es.cap, .int .i64 x.nx, .slice x.is.ad x.is.l.length x.is.cap]) (by simp [results, Try.results13, go_sem, r0, r1, r2, r3]) rfl ⟨x, rfl, hdone⟩
      · have hltz : ¬ (N : Int) < (n : Int) := by omega
        have hd1 : decide ((N : Int) < (n : Int)) = false := decide_eq_false hltz
        go_wp2_with fail
        have k8 := stored4 HRB.out (.int .i64 x.cap) (.slice x.es.ad x.es.l.length x.es.cap) (.int .i64 x.nx) (.slice x.is.ad x.is.l.length x.is.cap)
        have u8 := upd_set4 wr H (.int .i64 x.cap) (.slice x.es.ad x.es.l.length x.es.cap) (.int .i64 x.nx) (.slice x.is.ad x.is.l.length x.is.cap)
        with_reducible generalize (((wr.setCell ⟨H, 0, none⟩ (.int .i64 x.cap)).setCell ⟨H, 1, none⟩ (.slice x.es.ad x.es.l.length x.es.cap)).setCell ⟨H, 2, none⟩ (.int .i64 x.nx)).setCell ⟨H, 3, none⟩ (.slice x.is.ad x.is.l.length x.is.cap) = w8 at k8 u8 ⊢
        have hdone := HM.out.done u8
        rw [← HP.out] at hdone
        obtain ⟨r0, r1, r2, r3⟩ := cells4 k8
        exact bodyPost_ret (v := .agg #[.int .i64 x.cap, .slice x.es.ad x.es.l.length x.es.cap, .int .i64 x.nx, .slice x.is.ad x.is.l.length x.is.cap]) (by simp [results, Try.results13, go_sem, r0, r1, r2, r3]) rfl ⟨x, rfl, hdone⟩
end Go.Proofs.Ytpneljhplbkdkaa
