
/- StoreDiscipline: the law's walk. -/
import Derived.Test.YtmfnfinbkdemkaaGreatIS
namespace Go.Proofs.YtmfnfinbkdemkaaGreat
open Go.RowKit Go.Lib
open A5

set_option maxRecDepth 100000 in
set_option maxHeartbeats 8000000 in
theorem Discipline_any (c : Int) (ad : Option Addr) (cap : Nat) (os : List Oq) (tm : Int) (w : World) (hc : 0 ≤ c ∧ c < 256) (hO : Row LO w ad os) (hoo : ∀ o ∈ os, OkO o) (htm : 0 ≤ tm ∧ tm < 4294967296) :
    Calls Tryz.prog 3 #[.int .u8 c, .slice ad os.length cap, .int .u32 tm] w fun e w' => e = .returned (.bool true) ∧ Upd [] w w' := by
  have HHD := Lib.hid (fun W => head_true W)
  obtain ⟨n, hn⟩ : ∃ n : Nat, (n : Int) = c % 12 + 1 := ⟨(c % 12 + 1).toNat, by omega⟩
  have hn1 : 1 ≤ n := by omega
  have hn2 : n ≤ 12 := by omega
  have HHE := Lib.hid (fun W => Held_has n hn1 (by omega) W)
  obtain ⟨x, hx⟩ : ∃ x, x = c % 12 := ⟨_, rfl⟩
  have hc1 : IntKind.i64.wrap c = c := by rw [IntKind.wrap_i64]; omega
  have hc2 : c.tmod 12 = x := by rw [Int.tmod_eq_emod_of_nonneg hc.1, hx]
  have hc3 : IntKind.i64.wrap (x + 1) = (n : Int) := by rw [IntKind.wrap_i64]; omega
  obtain ⟨m, hm⟩ : ∃ m, m = os.length := ⟨_, rfl⟩
  have HM := Lib.hid hm
  have HO := Lib.hid hO; have HOO := Lib.hid hoo
  rw [← hm]
  clear hO hoo hm hn hx hc
  by_cases hlong : 80 < m
  · have hlz : (80 : Int) < (m : Int) := by omega
    clear hlong
    go_enter Tryz.func3, Tryz.ntmps3
    go_wp2_with fail
    (with_reducible refine (HHD.out _).mono ?_)
    rintro e w1 ⟨rfl, hu1⟩
    have HU1 := Lib.hid hu1
    clear hu1
    go_wp2_with fail
    (with_reducible refine (HHE.out _).mono ?_)
    rintro e w2 ⟨d, rfl, F, hs, hge, hu2⟩
    have HU2 := Lib.hid (HU1.out.thn hu2)
    clear hs hge hu2
    go_wp2_with fail
    go_ret
    exact ⟨rfl, HU2.out⟩
  have hlz : ¬ (80 : Int) < (m : Int) := by omega
  have hm80 : m ≤ 80 := by omega
  clear hlong
  go_enter Tryz.func3, Tryz.ntmps3
  go_wp2_with fail
  (with_reducible refine (HHD.out _).mono ?_)
  rintro e w1 ⟨rfl, hu1⟩
  have HU1 := Lib.hid hu1
  clear hu1
  go_wp2_with fail
  (with_reducible refine (HHE.out _).mono ?_)
  rintro e w2 ⟨d, rfl, F, hs, hge, hu2⟩
  have HS0 : Hid (StaH F d (runS n (os.take 0)) (4 + 3 * 0) w2) := hs
  have HF0 : Hid (Fre w F w2) := ⟨HU1.out.thn hu2, fun x hx => Nat.le_trans HU1.out.size (hge x hx)⟩
  clear hs hge hu2
  go_wp2_with fail
  go_loopg [10] m (fun gk vi wr => ∃ k : Nat, vi = .int .i64 k ∧ k + gk = m ∧ ∃ F', Hid (StaH F' d (runS n (os.take k)) (4 + 3 * k) wr) ∧ Hid (Fre w F' wr))
  case atStart => exact ⟨0, rfl, by omega, F, HS0, HF0⟩
  case round =>
  obtain ⟨k, rfl, hkg, F', HS, HF⟩ := hrel
  by_cases hlt : k < m
  · have hltz : (k : Int) < (m : Int) := by omega
    have hk1 : k < os.length := by have := HM.out; omega
    obtain ⟨b, off, hbo, x0, x1, x2⟩ := (HO.out.stay HF.out.upd).op k hk1
    subst hbo
    have hst := Step_has HS.out (run_okS hn1 (by omega) os k (by omega) (by omega)) (by omega) (by omega) hn1 (by omega) os[k] (HOO.out _ (List.getElem_mem hk1))
    rw [← run_next hk1] at hst
    have HSTEP := Lib.hid hst
    unfold encO at HSTEP
    generalize (stepS n (runS n (os.take k)) os[k]).2 = rr at *
    generalize os[k].k = y0 at *
    generalize os[k].t = y1 at *
    generalize os[k].near = y2 at *
    clear hst
    go_wp2_with fail
    (with_reducible refine HSTEP.out.mono ?_)
    rintro e w3 ⟨rfl, F3, hs, hg⟩
    have HS3 : Hid (StaH F3 d (runS n (os.take (k + 1))) (4 + 3 * (k + 1)) w3) := Sta.more hs (by omega)
    have HF3 := Lib.hid (HF.out.go hg)
    clear hs hg
    go_wp2_with fail
    go_roundg (gk - 1)
    case measure => omega
    case rel => exact ⟨k + 1, by go_num, by omega, F3, HS3, HF3⟩
  have hltz : ¬ (k : Int) < (m : Int) := by omega
  obtain rfl : k = m := by omega
  have htk : os.take k = os := by rw [HM.out, List.take_length]
  have hok := run_okS hn1 (by omega : n ≤ 64) os k (by have := HM.out; omega) (by omega)
  have hss := HS.out
  rw [htk] at hok hss
  have HOK := Lib.hid hok; have HS := Lib.hid hss
  have hrd := hok.rdy (c := 4 + 3 * k) (by omega)
  obtain ⟨hfq, hcp, hl64⟩ := hok.fitQ (by omega)
  clear htk hok hss HS0 HF0
  have hnx : (runS n os).a.nx ≤ 1000000000000 := by have := HOK.out.reach.nx; omega
  have hwt : IntKind.i64.wrap tm = tm := by rw [IntKind.wrap_i64]; omega
  have HM1 := Lib.hid (VMemory HS.out)
  have HV1 := Lib.hid (VViol HS.out)
  have HAC := Lib.hid (D_accepts HS.out hrd HOK.out.good tm)
  have hr1 : Rdy (runS n os) hm 1 (4 + 3 * k) := ⟨hrd.good, hrd.ms, hrd.c, by omega, by omega⟩
  have hr4 : Rdy ⟨(runS n os).a, (peekL (runS n os).q).1⟩ hm 4 (4 + 3 * k + 1) := ⟨hrd.good, hrd.ms, by omega, by omega, by omega⟩
  have HPK := Lib.hid (fun F W (h : Sta F d (runS n os) hm 1 (4 + 3 * k) W) => D_peek h hr1 hfq)
  have HAL := Lib.hid (fun F W (h : Sta F d ⟨(runS n os).a, (peekL (runS n os).q).1⟩ hm 4 (4 + 3 * k + 1) W) => D_alloc h hr4 tm hnx)
  generalize runS n os = s at *
  generalize (⟨s.a, (peekL s.q).1⟩ : Sto) = s2 at *
  clear hrd hfq hcp hl64 hnx hr1 hr4 htm
  go_wp2_with fail
  (with_reducible refine HM1.out.mono ?_)
  rintro e w' ⟨rfl, rfl⟩
  go_wp2_with fail
  (with_reducible refine HV1.out.mono ?_)
  rintro e w' ⟨rfl, rfl⟩
  go_wp2_with fail
  (with_reducible refine HAC.out.mono ?_)
  rintro e w3 ⟨⟨b3, rfl⟩, hs, hg⟩
  have HF := Lib.hid (HF.out.go hg)
  have HM1 := Lib.hid (VMemory hs)
  have HV1 := Lib.hid (VViol hs)
  have HPK := Lib.hid (HPK.out _ _ hs)
  clear hs hg
  go_wp2_with fail
  (with_reducible refine HM1.out.mono ?_)
  rintro e w' ⟨rfl, rfl⟩
  go_wp2_with fail
  (with_reducible refine HV1.out.mono ?_)
  rintro e w' ⟨rfl, rfl⟩
  go_wp2_with fail
  (with_reducible refine HPK.out.mono ?_)
  rintro e w4 ⟨⟨px, py, pz, pb, rfl⟩, F4, hs, hg⟩
  have HF := Lib.hid (HF.out.go hg)
  have HM1 := Lib.hid (VMemory hs)
  have HV1 := Lib.hid (VViol hs)
  have HAL := Lib.hid (HAL.out _ _ hs)
  clear hs hg
  go_wp2_with fail
  (with_reducible refine HM1.out.mono ?_)
  rintro e w' ⟨rfl, rfl⟩
  go_wp2_with fail
  (with_reducible refine HV1.out.mono ?_)
  rintro e w' ⟨rfl, rfl⟩
  go_wp2_with fail
  (with_reducible refine HAL.out.mono ?_)
  rintro e w5 ⟨⟨qx, qb, rfl⟩, F5, s5, hs, hg⟩
  have HF := Lib.hid (HF.out.go hg)
  have HM1 := Lib.hid (VMemory hs)
  have HV1 := Lib.hid (VViol hs)
  clear hs hg
  go_wp2_with fail
  (with_reducible refine HM1.out.mono ?_)
  rintro e w' ⟨rfl, rfl⟩
  go_wp2_with fail
  (with_reducible refine HV1.out.mono ?_)
  rintro e w' ⟨rfl, rfl⟩
  go_wp2_with fail
  go_ret
  exact ⟨rfl, HF.out.upd⟩
end Go.Proofs.YtmfnfinbkdemkaaGreat
