
/- StoreItems: the law's walk. -/
import Derived.Test.YtmfnfinbkdemkaaGreatIS
namespace Go.Proofs.YtmfnfinbkdemkaaGreat
open Go.RowKit Go.Lib
open A5

set_option maxRecDepth 100000 in
set_option maxHeartbeats 8000000 in
theorem Items_any (c : Int) (ad : Option Addr) (cap : Nat) (os : List Oq) (w : World) (hc : 0 ≤ c ∧ c < 256) (hO : Row LO w ad os) (hoo : ∀ o ∈ os, OkO o) :
    Calls Tryz.prog 4 #[.int .u8 c, .slice ad os.length cap] w fun e w' => e = .returned (.bool true) ∧ Upd [] w w' := by
  have HHD := Lib.hid (fun W => head_true W)
  obtain ⟨n, hn⟩ : ∃ n : Nat, (n : Int) = c % 12 + 1 := ⟨(c % 12 + 1).toNat, by omega⟩
  have hn1 : 1 ≤ n := by omega
  have hn2 : n ≤ 12 := by omega
  have HHE := Lib.hid (fun W => Held_has n hn1 (by omega) W)
  obtain ⟨x, hx⟩ : ∃ x, x = c % 12 := ⟨_, rfl⟩
  have hc1 : IntKind.i64.wrap c = c := by rw [IntKind.wrap_i64]; omega
  have hc2 : c.tmod 12 = x := by rw [Int.tmod_eq_emod_of_nonneg hc.1, hx]
  have hc3 : IntKind.i64.wrap (x + 1) = (n : Int) := by rw [IntKind.wrap_i64]; omega
  obtain ⟨m, hm⟩ : ∃ m, m = os.length := ⟨_, rfl⟩
  have HM := Lib.hid hm
  have HO := Lib.hid hO; have HOO := Lib.hid hoo
  rw [← hm]
  clear hO hoo hm hn hx hc
  by_cases hlong : 80 < m
  · have hlz : (80 : Int) < (m : Int) := by omega
    clear hlong
    go_enter Tryz.func4, Tryz.ntmps4
    go_wp2_with fail
    (with_reducible refine (HHD.out _).mono ?_)
    rintro e w1 ⟨rfl, hu1⟩
    have HU1 := Lib.hid hu1
    clear hu1
    go_wp2_with fail
    (with_reducible refine (HHE.out _).mono ?_)
    rintro e w2 ⟨d, rfl, F, hs, hge, hu2⟩
    have HU2 := Lib.hid (HU1.out.thn hu2)
    clear hs hge hu2
    go_wp2_with fail
    go_ret
    exact ⟨rfl, HU2.out⟩
  have hlz : ¬ (80 : Int) < (m : Int) := by omega
  have hm80 : m ≤ 80 := by omega
  clear hlong
  go_enter Tryz.func4, Tryz.ntmps4
  go_wp2_with fail
  (with_reducible refine (HHD.out _).mono ?_)
  rintro e w1 ⟨rfl, hu1⟩
  have HU1 := Lib.hid hu1
  clear hu1
  go_wp2_with fail
  (with_reducible refine (HHE.out _).mono ?_)
  rintro e w2 ⟨d, rfl, F, hs, hge, hu2⟩
  have HS0 : Hid (StaH F d (runS n (os.take 0)) (4 + 3 * 0) w2) := hs
  have HF0 : Hid (Fre w F w2) := ⟨HU1.out.thn hu2, fun x hx => Nat.le_trans HU1.out.size (hge x hx)⟩
  clear hs hge hu2
  go_wp2_with fail
  go_loopg [8] m (fun gk vi wr => ∃ k : Nat, vi = .int .i64 k ∧ k + gk = m ∧ ∃ F', Hid (StaH F' d (runS n (os.take k)) (4 + 3 * k) wr) ∧ Hid (Fre w F' wr))
  case atStart => exact ⟨0, rfl, by omega, F, HS0, HF0⟩
  case round =>
  obtain ⟨k, rfl, hkg, F', HS, HF⟩ := hrel
  by_cases hlt : k < m
  · have hltz : (k : Int) < (m : Int) := by omega
    have hk1 : k < os.length := by have := HM.out; omega
    obtain ⟨b, off, hbo, x0, x1, x2⟩ := (HO.out.stay HF.out.upd).op k hk1
    subst hbo
    have hst := Step_has HS.out (run_okS hn1 (by omega) os k (by omega) (by omega)) (by omega) (by omega) hn1 (by omega) os[k] (HOO.out _ (List.getElem_mem hk1))
    rw [← run_next hk1] at hst
    have HSTEP := Lib.hid hst
    unfold encO at HSTEP
    generalize (stepS n (runS n (os.take k)) os[k]).2 = rr at *
    generalize os[k].k = y0 at *
    generalize os[k].t = y1 at *
    generalize os[k].near = y2 at *
    clear hst
    go_wp2_with fail
    (with_reducible refine HSTEP.out.mono ?_)
    rintro e w3 ⟨rfl, F3, hs, hg⟩
    have HS3 : Hid (StaH F3 d (runS n (os.take (k + 1))) (4 + 3 * (k + 1)) w3) := Sta.more hs (by omega)
    have HF3 := Lib.hid (HF.out.go hg)
    clear hs hg
    go_wp2_with fail
    go_roundg (gk - 1)
    case measure => omega
    case rel => exact ⟨k + 1, by go_num, by omega, F3, HS3, HF3⟩
  have hltz : ¬ (k : Int) < (m : Int) := by omega
  obtain rfl : k = m := by omega
  have htk : os.take k = os := by rw [HM.out, List.take_length]
  have hok := run_okS hn1 (by omega : n ≤ 64) os k (by have := HM.out; omega) (by omega)
  have hss := HS.out
  rw [htk] at hok hss
  have HOK := Lib.hid hok; have HS := Lib.hid hss
  have hrd := hok.rdy (c := 4 + 3 * k) (by omega)
  obtain ⟨hfq, hcp, hl64⟩ := hok.fitQ (by omega)
  clear htk hok hss HS0 HF0
  obtain ⟨hil, hist, himem, hval⟩ := HOK.out.items
  have hlen := HOK.out.reach.len
  have HAR := Lib.hid (VArena HS.out hrd)
  have hidl : (runS n os).a.id.length ≤ 1000 := by have h1 := hrd.good.count; have h2 := hrd.good.len1; omega
  have hsl64 := hrd.good.len1
  have HIT := Lib.hid (fun W (h : StaH F' d (runS n os) (4 + 3 * k) W) => VItems h hfq)
  generalize runS n os = s at *
  obtain ⟨its, hits⟩ : ∃ its, its = sortI (itemsL s.q) := ⟨_, rfl⟩
  rw [← hits] at hil hist himem HIT
  have HIM := Lib.hid himem; have HIST := Lib.hid hist; have HLEN := Lib.hid hlen; have HILV := Lib.hid hil
  have hva : validA s.a = true := validA_yes.2 hval
  clear hits hist himem hval hfq hcp hl64 hrd hlen hil
  go_wp2_with fail
  (with_reducible refine HAR.out.mono ?_)
  rintro e w3 ⟨g, rfl, hga, hha, -, hu3⟩
  obtain ⟨ga, gsa, gsc, gia, gic⟩ := g
  simp only at hga
  subst hga
  have HHA := Lib.hid hha
  have HS3 := Lib.hid (Sta.stay HS.out hu3)
  have HF := Lib.hid (HF.out.up hu3)
  unfold encA
  simp only
  rw [HLEN.out]
  clear hha hu3
  go_upto_region 11 with (fail)
  have hb := heap_alloc1 w3 (.cells #[.slice gsa n gsc, .slice gia s.a.id.length gic, .int .i64 s.a.nx] 45)
  have hu := (Upd.refl [] w3).alloc (.cells #[.slice gsa n gsc, .slice gia s.a.id.length gic, .int .i64 s.a.nx] 45)
  have HS4 := Lib.hid (Sta.stay HS3.out hu); have HF := Lib.hid (HF.out.up hu); have HHA := Lib.hid (HHA.out.stay hu)
  generalize w3.alloc (.cells #[.slice gsa n gsc, .slice gia s.a.id.length gic, .int .i64 s.a.nx] 45) = w4 at *
  generalize w3.heap.size = P at *
  have HB := Lib.hid hb
  have HIT4 := Lib.hid (HIT.out _ HS4.out)
  clear hb hu
  go_wp2_with fail
  (with_reducible refine HIT4.out.mono ?_)
  rintro e w5 ⟨va, vc, rfl, hhs, -, hu⟩
  have HHS := Lib.hid hhs
  have HF := Lib.hid (HF.out.up hu); have HHA := Lib.hid (HHA.out.stay hu)
  have HB := Lib.hid (hu.at HB.out (by simp))
  obtain ⟨a0, a1, a2⟩ := cells3 HB.out
  have HVA := Lib.hid (Valid_has ⟨s.a, gsa, gsc, gia, gic⟩ w5 HHA.out (by simp only; omega) (by simp only; omega))
  unfold encA at HVA
  simp only at HVA
  rw [HLEN.out] at HVA
  rw [hva] at HVA
  clear hhs hu hva
  go_wp2_with fail
  (with_reducible refine HVA.out.mono ?_)
  rintro e w6 ⟨rfl, hu⟩
  have HF := Lib.hid (HF.out.up hu); have HHA := Lib.hid (HHA.out.stay hu); have HHS := Lib.hid (HHS.out.stay hu)
  have HB := Lib.hid (hu.at HB.out (by simp))
  clear a0 a1 a2 hu
  obtain ⟨a0, a1, a2⟩ := cells3 HB.out
  have HLV := Lib.hid (Live_has ⟨s.a, gsa, gsc, gia, gic⟩ w6 HHA.out (by simp only; omega))
  unfold encA at HLV
  simp only at HLV
  rw [HLEN.out] at HLV
  rw [← HILV.out] at HLV
  go_wp2_with fail
  (with_reducible refine HLV.out.mono ?_)
  rintro e w7 ⟨rfl, hgr⟩
  have hu := hgr.upd
  have HF := Lib.hid (HF.out.up hu); have HHA := Lib.hid (HHA.out.stay hu); have HHS := Lib.hid (HHS.out.stay hu)
  have HB := Lib.hid (hu.at HB.out (by simp))
  obtain ⟨il, hilv⟩ : ∃ il, il = its.length := ⟨_, rfl⟩
  rw [← hilv]
  have HIL := Lib.hid hilv
  have hil64 : il ≤ 64 := by have h1 := HILV.out; have h2 : liveL s.a.sl ≤ s.a.sl.length := liveTo_le _ _; omega
  clear a0 a1 a2 hu hgr hilv
  go_wp2_with fail
  generalize k = kk at *
  go_loopg [11] il (fun gj vj wr => ∃ j : Nat, vj = .int .i64 j ∧ j + gj = il ∧ Hid (Upd [] w7 wr))
  case atStart => exact ⟨0, rfl, by omega, Upd.refl _ _⟩
  case round =>
  obtain ⟨j, rfl, hjg, HUR⟩ := hrel
  by_cases hjl : j < il
  case neg =>
    have hjz : ¬ (j : Int) < (il : Int) := by omega
    obtain rfl : j = il := by omega
    go_wp2_with fail
    go_ret
    exact ⟨rfl, (HF.out.up HUR.out).upd⟩
  have hjz : (j : Int) < (il : Int) := by omega
  have hj1 : j < its.length := by have := HIL.out; omega
  obtain ⟨i, hxi, hin, hst⟩ := HIM.out _ (List.getElem_mem hj1)
  obtain ⟨bi, offi, hbo, x0, x1, x2⟩ := (HHS.out.stay HUR.out).row.item j hj1
  simp only at hbo
  subst hbo
  have hisl : i < s.a.sl.length := by have := HLEN.out; omega
  obtain ⟨bs, offs, hbs, y0, y1, y2, y3⟩ := (HHA.out.stay HUR.out).sl i hisl
  simp only at hbs
  subst hbs
  simp only at y0 y1 y2 y3
  obtain ⟨a0, a1, a2⟩ := cells3 (HUR.out.at HB.out (by simp))
  have hx : its[j].t = s.a.sl[i].t ∧ its[j].q = s.a.sl[i].q ∧ its[j].s = (i : Int) := by rw [hxi]; simp only [itA, slAt_get hisl]; exact ⟨trivial, trivial, trivial⟩
  rw [slAt_get hisl] at hst
  rw [hx.1] at x0
  rw [hx.2.1] at x1
  rw [hx.2.2] at x2
  have hst0 : (s.a.sl[i].s == 0) = false := by simpa using hst
  have hprev : ∀ p (hp : p < its.length), p + 1 = j → its[p].t < s.a.sl[i].t ∨ its[p].t = s.a.sl[i].t ∧ its[p].q < s.a.sl[i].q := fun p hp e => by
    have h1 := (List.pairwise_iff_getElem.1 HIST.out) p j hp hj1 (by omega)
    unfold ltI at h1
    rw [hx.1, hx.2.1] at h1
    exact h1
  have HPV := Lib.hid hprev
  have hi0 : decide ((i : Int) < 0) = false := decide_eq_false (by omega)
  have hi1 : decide ((n : Int) ≤ (i : Int)) = false := decide_eq_false (by omega)
  have hi2 : decide (n ≤ i) = false := decide_eq_false (by omega)
  have hiz : (i : Int) < (n : Int) := by omega
  generalize s.a.sl[i].g = sg at *
  generalize s.a.sl[i].s = ss at *
  generalize s.a.sl[i].t = st at *
  generalize s.a.sl[i].q = sq at *
  clear hxi hst hx hprev y0
  go_upto_region 18 with (fail)
  have k0 := kept_at a0; have k1 := kept_at x0; have k2 := kept_at x1; have k3 := kept_at x2; have k4 := kept_at y1; have k5 := kept_at y2; have k6 := kept_at y3
  clear a0 a1 a2 y1 y2 y3
  refine wp_region_quiet_kept mixed (by kernel_rfl) ?_
  repeat (go_big_quiet_step (fail))
  refine wpQuiet_nil ?_
  intro W3 hw'
  obtain ⟨⟨Wx, hu⟩, hw''⟩ := hw'
  simp only at hw''
  subst hw''
  have HU3 := Lib.hid hu
  have x0 := hu.cell x0 (by simp); have x1 := hu.cell x1 (by simp); have x2 := hu.cell x2 (by simp)
  clear k0 k1 k2 k3 k4 k5 k6 hu
  cases j with
  | zero =>
    go_upto_region 20 with (fail)
    have k1 := kept_at x0
    clear x0 x1 x2
    refine wp_region_quiet_kept mixed (by kernel_rfl) ?_
    repeat (go_big_quiet_step (fail))
    refine wpQuiet_nil ?_
    intro W4 hw'
    obtain ⟨⟨Wx, hu⟩, hw''⟩ := hw'
    simp only at hw''
    subst hw''
    clear k1
    have HU4 := Lib.hid ((HUR.out.thn HU3.out).thn hu)
    clear hu
    go_wp2_with fail
    go_roundg (il - 1)
    case measure => omega
    case rel => exact ⟨1, by go_num, by omega, HU4⟩
  | succ p =>
    have hp1 : p < its.length := by omega
    obtain ⟨bp, offp, hbp, z0, z1, z2⟩ := (HHS.out.stay (HUR.out.thn HU3.out)).row.item p hp1
    simp only [Option.some.injEq, Addr.mk.injEq, and_true] at hbp
    obtain ⟨rfl, rfl⟩ := hbp
    have hw : IntKind.i64.wrap (p : Int) = (p : Int) := by rw [IntKind.wrap_i64]; omega
    have hpz : (p : Int) < (il : Int) := by omega
    have hpz1 : (p : Int) + 1 < (il : Int) := by omega
    have hpos : decide (0 < (p : Int) + 1) = true := decide_eq_true (by omega)
    have hpos2 : decide (0 < p + 1) = true := decide_eq_true (by omega)
    have hpr := HPV.out p hp1 rfl
    generalize its[p].t = pt at *
    generalize its[p].q = pq at *
    have HPR := Lib.hid hpr
    clear hpr z2
    by_cases hpt : pt = st
    · have hpq : pq < sq := by have := HPR.out; omega
      subst hpt
      have g0 : decide (pt < pt) = false := decide_eq_false (by omega)
      have g1 : decide (sq ≤ pq) = false := decide_eq_false (by omega)
      clear hpq
      go_upto_region 20 with (fail)
      have k1 := kept_at x0; have k2 := kept_at x1; have k3 := kept_at z0; have k4 := kept_at z1
      clear x0 x1 x2 z0 z1
      refine wp_region_quiet_kept mixed (by kernel_rfl) ?_
      repeat (go_big_quiet_step (fail))
      refine wpQuiet_nil ?_
      intro W4 hw'
      obtain ⟨⟨Wx, hu⟩, hw''⟩ := hw'
      simp only at hw''
      subst hw''
      clear k1 k2 k3 k4
      have HU4 := Lib.hid ((HUR.out.thn HU3.out).thn hu)
      clear hu
      go_wp2_with fail
      go_roundg (il - (p + 1 + 1))
      case measure => omega
      case rel => exact ⟨p + 1 + 1, by go_num, by omega, HU4⟩
    · have g0 : decide (st < pt) = false := decide_eq_false (by have := HPR.out; omega)
      have g1 : (pt == st) = false := by simpa using hpt
      clear hpt
      go_upto_region 20 with (fail)
      have k1 := kept_at x0; have k2 := kept_at x1; have k3 := kept_at z0; have k4 := kept_at z1
      clear x0 x1 x2 z0 z1
      refine wp_region_quiet_kept mixed (by kernel_rfl) ?_
      repeat (go_big_quiet_step (fail))
      refine wpQuiet_nil ?_
      intro W4 hw'
      obtain ⟨⟨Wx, hu⟩, hw''⟩ := hw'
      simp only at hw''
      subst hw''
      clear k1 k2 k3 k4
      have HU4 := Lib.hid ((HUR.out.thn HU3.out).thn hu)
      clear hu
      go_wp2_with fail
      go_roundg (il - (p + 1 + 1))
      case measure => omega
      case rel => exact ⟨p + 1 + 1, by go_num, by omega, HU4⟩
end Go.Proofs.YtmfnfinbkdemkaaGreat
