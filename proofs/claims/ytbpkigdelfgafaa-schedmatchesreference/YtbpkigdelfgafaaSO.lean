/- SchedMatchesReference: the walk. -/
import Derived.Test.YtbpkigdelfgafaaSN
namespace Go.Proofs.Ytbpkigdelfgafaa
open Go.RowKit

set_option maxRecDepth 100000 in
set_option maxHeartbeats 8000000 in
theorem Matches_any (s : Int) (hs : 0 ≤ s ∧ s < 4294967296) (th c m : Nat) (ht : th < 256) (hc : c < 256) (hm : m < 256) (ad : Option Addr) (cp : Nat) (rs : List Int) (hlen : rs.length ≤ maxLen) (w : World) (hb : Bytes w ad rs) :
    Calls Try.prog 3 #[.int .u32 s, .int .u8 th, .int .u8 c, .slice ad rs.length cp, .int .u8 m] w fun e w' => e = .returned (.bool true) ∧ Upd [] w w' := by
  unfold maxLen at hlen
  have HB := Lib.hid hb; clear hb
  by_cases hl : 500 < rs.length
  · go_enter Try.func3, Try.ntmps3
    go_wp2_with fail
    refine (head_any _).mono ?_
    rintro e w0 ⟨rfl, hu0⟩
    go_wp2_with fail
    go_ret
    exact ⟨rfl, hu0⟩
  · have hl0 : decide (500 < (rs.length : Int)) = false := by simp; omega
    go_enter Try.func3, Try.ntmps3
    go_wp2_with fail
    refine (head_any _).mono ?_
    rintro e w0 ⟨rfl, hu0⟩
    have HU0 := Lib.hid hu0; clear hu0
    go_wp2_with fail
    refine (Threads_ex th (by omega) _).mono ?_
    rintro e w1 ⟨n, hn0, hn8, rfl, rfl⟩
    go_wp2_with fail
    refine (Picks_any ad cp rs n hn0 (by omega) (by omega) _ (HB.out.stay HU0.out)).mono ?_
    rintro e w2 ⟨a1, c1, rfl, hi1, hu1, hc1⟩
    have HI1 := Lib.hid hi1; have HU1 : Hid (Upd [] w w2) := HU0.out.trans hu1 (by simp)
    clear hi1 hu1 HU0
    have hpl := pickL_length n rs
    have hT := pickL_thr n rs (by omega)
    generalize pickL n rs = l at *
    have HT := Lib.hid hT
    have hll : l.length ≤ 500 := by omega
    clear hT hpl
    obtain ⟨v, hv⟩ : ∃ v : Nat, (m : Int) % 30 + 1 = (v : Nat) := ⟨((m : Int) % 30 + 1).toNat, by omega⟩
    have hv0 : 1 ≤ v := by omega
    have hv1 : v ≤ 30 := by omega
    have HV := Lib.hid hv; clear hv
    obtain ⟨hs0, hs1⟩ := hs
    have hmod0 : 0 ≤ s % (n : Int) := Int.emod_nonneg _ (by omega)
    have hmod1 : s % (n : Int) < n := Int.emod_lt_of_pos _ (by omega)
    go_wp2_with fail
    rw [HV.out]
    have hA := fun w => Random_any s ⟨hs0, hs1⟩ n c hn0 (by omega) (by omega) w
    have hB := fun w => RRnd_any s ⟨hs0, hs1⟩ n c hn0 (by omega) (by omega) w
    have lenA := rndL_length s n c
    generalize rndL s n c = lA at *
    have hD := fun w => RoundRobin_z (s % (n : Int)) n c hmod0 hmod1 (by omega) (by omega) w
    have hE := fun w => RRR_z (s % (n : Int)) n c hmod0 hmod1 (by omega) (by omega) w
    have lenD := rrL_length (s % (n : Int)).toNat n c
    generalize rrL (s % (n : Int)).toNat n c = lD at *
    have hF := fun w hi => Fair_any a1 c1 l n v hn0 (by omega) hv0 (by omega) (by omega) hc1 HT.out w hi
    have hG := fun w hi => RFair_any a1 c1 l n v (by omega) hv0 (by omega) (by omega) w hi
    generalize fairB n v l = fb at *
    have hH := fun w hi => Repair_z a1 c1 l n ((n : Int) + v - 1) hn0 (by omega) (by omega) (by omega) (by omega) HT.out w hi
    have hI := fun w hi => RRepair_z a1 c1 l n ((n : Int) + v - 1) hn0 (by omega) (by omega) (by omega) (by omega) HT.out w hi
    have lenH := repair_length n ((n : Int) + v - 1).toNat l
    generalize repair n ((n : Int) + v - 1).toNat l = lH at *
    have leA : lA.length ≤ 100000 := by omega
    have leD : lD.length ≤ 100000 := by omega
    have leH : lH.length ≤ 100000 := by omega
    have hSA := fun (w : World) (x y : Option Addr) (p q : Nat) (h1 : Ints w x lA) (h2 : Ints w y lA) => Same_any x y p q lA lA w h1 h2 leA leA
    have hSD := fun (w : World) (x y : Option Addr) (p q : Nat) (h1 : Ints w x lD) (h2 : Ints w y lD) => Same_any x y p q lD lD w h1 h2 leD leD
    have hSH := fun (w : World) (x y : Option Addr) (p q : Nat) (h1 : Ints w x lH) (h2 : Ints w y lH) => Same_any x y p q lH lH w h1 h2 leH leH
    rw [show eqL lA lA = true by simp [eqL]] at hSA
    rw [show eqL lD lD = true by simp [eqL]] at hSD
    rw [show eqL lH lH = true by simp [eqL]] at hSH
    have HA := Lib.hid hA; have HBB := Lib.hid hB; have HD := Lib.hid hD; have HE := Lib.hid hE; have HF := Lib.hid hF; have HG := Lib.hid hG; have HH := Lib.hid hH; have HII := Lib.hid hI
    have HSA := Lib.hid hSA; have HSD := Lib.hid hSD; have HSH := Lib.hid hSH
    clear hA hB hD hE hF hG hH hI hSA hSD hSH lenA lenD lenH
    have t1 : s.tmod (n : Int) = s % (n : Int) := Int.tmod_eq_emod_of_nonneg hs0
    have hw1 : IntKind.i64.wrap ((n : Int) + v) = (n : Int) + v := IntWalk.i64_in _ (by omega)
    have hw2 : IntKind.i64.wrap ((n : Int) + v - 1) = (n : Int) + v - 1 := IntWalk.i64_in _ (by omega)
    have hw3 : IntKind.i64.wrap s = s := IntWalk.i64_in _ (by omega)
    have hw4 : IntKind.i64.wrap (c : Int) = c := IntWalk.i64_in _ (by omega)
    have hw5 : IntKind.i64.wrap (s % (n : Int)) = s % (n : Int) := IntWalk.i64_in _ (by omega)
    have hz1 : ((n : Int) == 0) = false := by simp; omega
    have hz2 : ¬ (n = 0) := by omega
    have hz3 : (n == 0) = false := by simp; omega
    clear hl hl0 hll hn0 hn8 hv0 hv1 hmod0 hmod1 hlen ht hc hm leA leD leH hc1 hs0 hs1
    go_region_held3 (fun _ => True) (trivial) (first
      | (go_at_call 13; refine (HA.out _).mono ?_; rintro e wA ⟨aA, cA, rfl, hiA, huA, _⟩; have HIA := Lib.hid hiA; have HUA : Hid (Upd [] w2 wA) := ((Upd.refl [] w2).drew).trans huA (by simp); clear hiA huA)
      | (go_at_call 14; refine (HBB.out _).mono ?_; rintro e wB ⟨aB, cB, rfl, hiB, huB, _⟩; have HIB := Lib.hid hiB; have HIA2 := Lib.hid (HIA.out.stay huB); have HUB : Hid (Upd [] w2 wB) := HUA.out.trans huB (by simp); clear hiB huB)
      | (go_at_call 12; refine (HSH.out _ aH aI cH cI HIH2.out HIJ.out).mono ?_; rintro e wJ ⟨rfl, huJ⟩; have HUJ : Hid (Upd [] w2 wJ) := HUI.out.trans huJ (by simp); clear huJ)
      | (go_at_call 12; refine (HSD.out _ aD aE cD cE HID2.out HIE.out).mono ?_; rintro e wF ⟨rfl, huF⟩; have HUF : Hid (Upd [] w2 wF) := HUE.out.trans huF (by simp); clear huF)
      | (go_at_call 12; refine (HSA.out _ aA aB cA cB HIA2.out HIB.out).mono ?_; rintro e wC ⟨rfl, huC⟩; have HUC : Hid (Upd [] w2 wC) := HUB.out.trans huC (by simp); clear huC)
      | (go_at_call 15; refine (HD.out _).mono ?_; rintro e wD ⟨aD, cD, rfl, hiD, huD, _⟩; have HID := Lib.hid hiD; have HUD : Hid (Upd [] w2 wD) := HUC.out.trans huD (by simp); clear hiD huD)
      | (go_at_call 16; refine (HE.out _).mono ?_; rintro e wE ⟨aE, cE, rfl, hiE, huE, _⟩; have HIE := Lib.hid hiE; have HID2 := Lib.hid (HID.out.stay huE); have HUE : Hid (Upd [] w2 wE) := HUD.out.trans huE (by simp); clear hiE huE)
      | (go_at_call 17; refine (HF.out _ (HI1.out.stay HUF.out)).mono ?_; rintro e wG ⟨rfl, huG⟩; have HUG : Hid (Upd [] w2 wG) := HUF.out.trans huG (by simp); clear huG)
      | (go_at_call 18; refine (HG.out _ (HI1.out.stay HUG.out)).mono ?_; rintro e wG2 ⟨rfl, rfl⟩)
      | (go_at_call 19; refine (HH.out _ (HI1.out.stay HUG.out)).mono ?_; rintro e wH ⟨aH, cH, rfl, hiH, huH, _⟩; have HIH := Lib.hid hiH; have HUH : Hid (Upd [] w2 wH) := HUG.out.trans huH (by simp); clear hiH huH)
      | (go_at_call 20; refine (HII.out _ (HI1.out.stay HUH.out)).mono ?_; rintro e wI ⟨aI, cI, rfl, hiI, huI, _⟩; have HIJ := Lib.hid hiI; have HIH2 := Lib.hid (HIH.out.stay huI); have HUI : Hid (Upd [] w2 wI) := HUH.out.trans huI (by simp); clear hiI huI))
    go_wp2_with fail
    go_ret
    exact ⟨rfl, HU1.out.trans HUJ.out (by simp)⟩
theorem Matches_z (s th c m : Int) (hs : 0 ≤ s ∧ s < 4294967296) (ht : 0 ≤ th ∧ th < 256) (hc : 0 ≤ c ∧ c < 256) (hm : 0 ≤ m ∧ m < 256) (ad : Option Addr) (cp : Nat) (rs : List Int) (hlen : rs.length ≤ maxLen) (w : World) (hb : Bytes w ad rs) :
    Calls Try.prog 3 #[.int .u32 s, .int .u8 th, .int .u8 c, .slice ad rs.length cp, .int .u8 m] w fun e w' => e = .returned (.bool true) ∧ Upd [] w w' := by
  obtain ⟨th, rfl⟩ := Int.eq_ofNat_of_zero_le ht.1
  obtain ⟨c, rfl⟩ := Int.eq_ofNat_of_zero_le hc.1
  obtain ⟨m, rfl⟩ := Int.eq_ofNat_of_zero_le hm.1
  exact Matches_any s hs th c m (by omega) (by omega) (by omega) ad cp rs hlen w hb
end Go.Proofs.Ytbpkigdelfgafaa
