/- ArenaMatchesReference: the walk. -/
import Derived.Test.YthpofcomlidoiaaCW
import Derived.Test.YthpofcomlidoiaaDK
namespace Go.Proofs.Ythpofcomlidoiaa
open Go.RowKit Go.Lib

def newP (c : Int) : Ar × Int := if 1 ≤ c ∧ c ≤ 64 then (newA c.toNat, 0) else (hZ, 1)
theorem newP_small (c : Int) : (newP c).1.sl.length ≤ 64 ∧ (newP c).1.id.length ≤ 64 := by
  unfold newP
  split
  · simp only [newA, List.length_replicate, List.length_map, List.length_range]; omega
  · simp [hZ]
theorem new_both (A : ArenaOk) (c : Int) (w : World) : Calls Try.prog 10 #[.int .i64 c] w fun e w' => ∃ r', e = .returned (.tuple #[encA r', .int .i64 (newP c).2]) ∧ Born w (newP c).1 w' r' := by
  by_cases h : 1 ≤ c ∧ c ≤ 64
  · obtain ⟨n, rfl⟩ := Int.eq_ofNat_of_zero_le (show 0 ≤ c by omega)
    rw [newP, if_pos h, Int.toNat_natCast]
    exact A.newYes n (by omega) (by omega) w
  · rw [newP, if_neg h]
    exact A.newNo c h w
theorem rnew_both (c : Int) (w : World) : Calls Try.prog 11 #[.int .i64 c] w fun e w' => ∃ r', e = .returned (.tuple #[encA r', .int .i64 (newP c).2]) ∧ Born w (newP c).1 w' r' := by
  by_cases h : 1 ≤ c ∧ c ≤ 64
  · obtain ⟨n, rfl⟩ := Int.eq_ofNat_of_zero_le (show 0 ≤ c by omega)
    rw [newP, if_pos h, Int.toNat_natCast]
    exact RNew_yes n (by omega) (by omega) w
  · rw [newP, if_neg h]
    exact (RNew_no c h w).mono (fun e w' k => ⟨⟨hZ, none, 0, none, 0⟩, k.1, ⟨rfl, zero_has _, fun b _ => ⟨fun _ ad e => by simp at e, fun _ ad e => by simp at e⟩, k.2⟩⟩)
def smB (n m : Nat) : Bool := decide (n ≤ 80 ∧ m ≤ 80)
set_option maxHeartbeats 1000000 in
theorem small_any (sa ia : Option Addr) (n sc m ic : Nat) (nx : Int) (w : World) : Calls Try.prog 9 #[.agg #[.slice sa n sc, .slice ia m ic, .int .i64 nx]] w fun e w' => e = .returned (.bool (smB n m)) ∧ Upd [] w w' := by
  by_cases h1 : n ≤ 80
  · have d1 : decide ((n : Int) ≤ 80) = true := by rw [decide_eq_true_iff]; omega
    by_cases h2 : m ≤ 80
    · have d2 : decide ((m : Int) ≤ 80) = true := by rw [decide_eq_true_iff]; omega
      go_enter Try.func9, Try.ntmps9
      go_wp2_with fail
      go_ret
      exact ⟨ret_bool (by symm; unfold smB; rw [decide_eq_true_iff]; omega), (Upd.refl _ _).alloc _⟩
    · have d2 : decide ((m : Int) ≤ 80) = false := by rw [decide_eq_false_iff_not]; omega
      go_enter Try.func9, Try.ntmps9
      go_wp2_with fail
      go_ret
      exact ⟨ret_bool (by symm; unfold smB; rw [decide_eq_false_iff_not]; omega), (Upd.refl _ _).alloc _⟩
  · have d1 : decide ((n : Int) ≤ 80) = false := by rw [decide_eq_false_iff_not]; omega
    go_enter Try.func9, Try.ntmps9
    go_wp2_with fail
    go_ret
    exact ⟨ret_bool (by symm; unfold smB; rw [decide_eq_false_iff_not]; omega), (Upd.refl _ _).alloc _⟩

set_option maxRecDepth 100000 in
set_option maxHeartbeats 8000000 in
theorem Matches_any (A : ArenaOk) (z : Int) (r : ArR) (c : Int) (la : Option Addr) (lc : Nat) (os : List Oz) (o : Oz) (W : World) (hraw : HasA W r) (hc : 0 ≤ c ∧ c < 256) (hlm : os.length ≤ maxLen) (ho : OzOk o) (hos : Ozs W la os) :
    Calls Try.prog 3 #[.int .i64 z, encA r, .int .u8 c, .slice la os.length lc, encO o] W fun e w' => e = .returned (.bool true) ∧ Upd [] W w' := by
  have mixed : Try.prog.follows .mixedOrders = true := by kernel_rfl
  have HMD := Lib.hid (fun W' (hu : Upd [] W W') => Made_has c la lc os W' hc (hos.stay hu) hlm)
  have HHD := Lib.hid (head_any A)
  obtain ⟨n0, k0, hk0, hre⟩ := made_reach c os
  generalize madeL c os = p at *
  have hgd := hre.good
  have hisl := hre.isl
  have HGD := Lib.hid hgd
  have HAA := Lib.hid A
  have HNA := Lib.hid (new_both A z)
  have HNR := Lib.hid (rnew_both z)
  have HNS := Lib.hid (newP_small z)
  generalize newP z = np at *
  have hda : o.a.tmod 5 = o.a % 5 := Int.tmod_eq_emod_of_nonneg ho.a.1
  have hdb : o.b.tmod 5 = o.b % 5 := Int.tmod_eq_emod_of_nonneg ho.b.1
  have hwx : IntKind.i64.wrap o.a = o.a := by rw [IntKind.wrap_i64]; have := ho.a; omega
  have hwy : IntKind.i64.wrap o.b = o.b := by rw [IntKind.wrap_i64]; have := ho.b; omega
  obtain ⟨k, n, x, y⟩ := o
  simp only at hda hdb hwx hwy
  unfold encO
  simp only
  obtain ⟨aR, saR, scR, iaR, icR⟩ := r
  have HENR : Hid (encA ⟨aR, saR, scR, iaR, icR⟩ = .agg #[.slice saR aR.sl.length scR, .slice iaR aR.id.length icR, .int .i64 aR.nx]) := rfl
  rw [HENR.out]
  have HRAW := Lib.hid hraw
  have HSM := Lib.hid (small_any saR iaR aR.sl.length scR aR.id.length icR aR.nx)
  have HLR : Hid (smB aR.sl.length aR.id.length = true → aR.sl.length ≤ 80 ∧ aR.id.length ≤ 80) := fun h => by unfold smB at h; rwa [decide_eq_true_iff] at h
  generalize os.length = L at HMD ⊢
  generalize aR.sl.length = nR at HENR HSM HLR ⊢
  generalize aR.id.length = mR at HENR HSM HLR ⊢
  generalize aR.nx = xR at HENR HSM ⊢
  clear hre hgd ho hos hlm hc hraw
  go_enter Try.func3, Try.ntmps3
  go_upto_region 1 with (fail)
  obtain ⟨hu0, hbr, hb0, _⟩ := two_boxes W (.cells #[.slice saR nR scR, .slice iaR mR icR, .int .i64 xR] 25) (.cells #[.int .u8 k, .int .i64 n, .int .u8 x, .int .u8 y] 28)
  generalize (W.alloc (.cells #[.slice saR nR scR, .slice iaR mR icR, .int .i64 xR] 25)).alloc (.cells #[.int .u8 k, .int .i64 n, .int .u8 x, .int .u8 y] 28) = Wb at hu0 hbr hb0 ⊢
  generalize W.heap.size + 1 = P0 at hb0 ⊢
  generalize W.heap.size = PR at hbr ⊢
  have HB0 := Lib.hid hb0
  have HBR := Lib.hid hbr
  have HUa := Lib.hid hu0
  clear hb0 hu0 hbr
  go_upto_region 2 with (go_at_call 8; refine (HHD.out Wb).mono ?_; rintro e Wh ⟨rfl, hu⟩)
  have HB0 := Lib.hid (hu.at HB0.out (by simp))
  have HBR := Lib.hid (hu.at HBR.out (by simp))
  have HUh : Hid (Upd [] W Wh) := HUa.out.trans hu (by simp)
  clear hu
  obtain ⟨lR0, lR1, lR2⟩ := cells3 HBR.out
  rcases hsm : smB nR mR with _ | _
  · rw [hsm] at HSM
    clear hsm HLR
    go_wp2_with fail
    refine (HSM.out _).mono ?_
    rintro e w' ⟨rfl, hu⟩
    go_wp2_with fail
    go_ret
    exact ⟨rfl, HUh.out.trans hu (by simp)⟩
  rw [hsm] at HSM
  have HLR := Lib.hid (HLR.out hsm)
  clear hsm
  go_upto_region 4 with (go_at_call 9; refine (HSM.out _).mono ?_; rintro e W0 ⟨rfl, hu⟩)
  have HB0 := Lib.hid (hu.at HB0.out (by simp))
  have HBR := Lib.hid (hu.at HBR.out (by simp))
  have HUb : Hid (Upd [] W W0) := HUh.out.trans hu (by simp)
  have HHR : Hid (HasA W0 ⟨aR, saR, scR, iaR, icR⟩) := HRAW.out.stay HUb.out
  have HU0 : Hid (Upd [] W0 W0) := Upd.refl _ _
  have HLL : Hid (aR.sl.length = nR ∧ aR.id.length = mR) := by
    have h := HENR.out
    simp only [encA, Value.agg.injEq, Array.mk.injEq, List.cons.injEq, Value.slice.injEq] at h
    exact ⟨h.1.2.1, h.2.1.2.1⟩
  clear hu lR0 lR1 lR2 HSM
  have HK1 := Lib.hid (HNA.out W0)
  go_upto_region 5 with (go_at_call 10; refine (HK1.out).mono ?_; rintro e w1 ⟨r', rfl, hN⟩; obtain ⟨a1, sa1, sc1, ia1, ic1⟩ := r'; unfold encA)
  have HH1 := Lib.hid hN.has
  have HQ1 := Lib.hid hN.eq
  have HEN1 : Hid (encA ⟨a1, sa1, sc1, ia1, ic1⟩ = .agg #[.slice sa1 a1.sl.length sc1, .slice ia1 a1.id.length ic1, .int .i64 a1.nx]) := rfl
  have hu1a := hN.upd
  clear hN HK1
  simp only at HQ1 ⊢
  generalize a1.sl.length = n1 at HEN1 ⊢
  generalize a1.id.length = m1 at HEN1 ⊢
  generalize a1.nx = x1 at HEN1 ⊢
  have hb1 := heap_alloc1 w1 (.cells #[.slice sa1 n1 sc1, .slice ia1 m1 ic1, .int .i64 x1] 25)
  have hu1b := (Upd.refl [] w1).alloc (.cells #[.slice sa1 n1 sc1, .slice ia1 m1 ic1, .int .i64 x1] 25)
  have hu1 := hu1a.trans hu1b (by simp)
  have HH1 := Lib.hid (HH1.out.stay hu1b)
  generalize w1.alloc (.cells #[.slice sa1 n1 sc1, .slice ia1 m1 ic1, .int .i64 x1] 25) = W1 at hb1 hu1 hu1b HH1 ⊢
  generalize w1.heap.size = P1 at hb1 ⊢
  have HB1 := Lib.hid hb1
  have HB0 := Lib.hid (hu1.at HB0.out (by simp))
  have HBR := Lib.hid (hu1.at HBR.out (by simp))
  have HHR := Lib.hid (HHR.out.stay hu1)
  have HU1 : Hid (Upd [] W0 W1) := HU0.out.trans hu1 (by simp)
  clear hb1 hu1 hu1a 
  have HK2 := Lib.hid (HNR.out W1)
  go_upto_region 6 with (go_at_call 11; refine (HK2.out).mono ?_; rintro e w2 ⟨r', rfl, hN⟩; obtain ⟨a2, sa2, sc2, ia2, ic2⟩ := r'; unfold encA)
  have HH2 := Lib.hid hN.has
  have HQ2 := Lib.hid hN.eq
  have HEN2 : Hid (encA ⟨a2, sa2, sc2, ia2, ic2⟩ = .agg #[.slice sa2 a2.sl.length sc2, .slice ia2 a2.id.length ic2, .int .i64 a2.nx]) := rfl
  have hu2a := hN.upd
  clear hN HK2
  simp only at HQ2 ⊢
  generalize a2.sl.length = n2 at HEN2 ⊢
  generalize a2.id.length = m2 at HEN2 ⊢
  generalize a2.nx = x2 at HEN2 ⊢
  have hb2 := heap_alloc1 w2 (.cells #[.slice sa2 n2 sc2, .slice ia2 m2 ic2, .int .i64 x2] 25)
  have hu2b := (Upd.refl [] w2).alloc (.cells #[.slice sa2 n2 sc2, .slice ia2 m2 ic2, .int .i64 x2] 25)
  have hu2 := hu2a.trans hu2b (by simp)
  have HH2 := Lib.hid (HH2.out.stay hu2b)
  generalize w2.alloc (.cells #[.slice sa2 n2 sc2, .slice ia2 m2 ic2, .int .i64 x2] 25) = W2 at hb2 hu2 hu2b HH2 ⊢
  generalize w2.heap.size = P2 at hb2 ⊢
  have HB2 := Lib.hid hb2
  have HB0 := Lib.hid (hu2.at HB0.out (by simp))
  have HBR := Lib.hid (hu2.at HBR.out (by simp))
  have HHR := Lib.hid (HHR.out.stay hu2)
  have HB1 := Lib.hid (hu2.at HB1.out (by simp))
  have HH1 := Lib.hid (HH1.out.stay hu2)
  have HU2 : Hid (Upd [] W0 W2) := HU1.out.trans hu2 (by simp)
  clear hb2 hu2 hu2a 
  have HS1 : Hid (∀ W', Upd [] W2 W' → Calls Try.prog 12 #[.agg #[.slice sa1 n1 sc1, .slice ia1 m1 ic1, .int .i64 x1], .agg #[.slice sa2 n2 sc2, .slice ia2 m2 ic2, .int .i64 x2]] W' fun e w' => e = .returned (.bool true) ∧ Upd [] W' w') := fun W' hu => by
    have h1 := Same_has ⟨a1, sa1, sc1, ia1, ic1⟩ ⟨a2, sa2, sc2, ia2, ic2⟩ W' (HH1.out.stay hu) (HH2.out.stay hu) (by have := HNS.out.1; rw [← HQ1.out] at this; simp only; omega) (by have := HNS.out.2; rw [← HQ1.out] at this; simp only; omega)
    rw [HEN1.out, HEN2.out] at h1
    simp only [HQ1.out, HQ2.out, decide_true] at h1
    exact h1
  obtain ⟨v, hv⟩ : ∃ v, v = validA aR := ⟨_, rfl⟩
  have HVV := Lib.hid hv
  have HVA : Hid (∀ W', Upd [] W2 W' → Calls Try.prog 13 #[.agg #[.slice saR nR scR, .slice iaR mR icR, .int .i64 xR]] W' fun e w' => e = .returned (.bool v) ∧ Upd [] W' w') := fun W' hu => by
    have h1 := HAA.out.valid ⟨aR, saR, scR, iaR, icR⟩ W' (HHR.out.stay hu) (by simp only [HLL.out.1]; exact HLR.out.1) (by simp only [HLL.out.2]; exact HLR.out.2)
    rw [HENR.out] at h1
    simp only [← hv] at h1
    exact h1
  have HVR : Hid (∀ W', Upd [] W2 W' → Calls Try.prog 14 #[.agg #[.slice saR nR scR, .slice iaR mR icR, .int .i64 xR]] W' fun e w' => e = .returned (.bool v) ∧ Upd [] W' w') := fun W' hu => by
    have h1 := Valid_has ⟨aR, saR, scR, iaR, icR⟩ W' (HHR.out.stay hu) (by simp only [HLL.out.1]; have := HLR.out.1; omega) (by simp only [HLL.out.2]; have := HLR.out.2; omega)
    rw [HENR.out] at h1
    simp only [← hv] at h1
    exact h1
  clear hv
  obtain ⟨g10, g11, g12⟩ := kept3 HB1.out
  obtain ⟨g20, g21, g22⟩ := kept3 HB2.out
  obtain ⟨gR0, gR1, gR2⟩ := kept3 HBR.out
  have hne : (np.2 != np.2) = false := by simp
  have hnv : (v != v) = false := by simp
  go_upto_region 6 with (fail)
  refine wp_region_quiet_kept mixed (by kernel_rfl) ?_
  repeat (go_big_quiet_step (first | (go_at_call 12; exact calls_kept (HS1.out _ (Kept.up _))) | (go_at_call 13; exact calls_kept (HVA.out _ (Kept.up _))) | (go_at_call 14; exact calls_kept (HVR.out _ (Kept.up _)))))
  refine wpQuiet_nil ?_
  intro W3 hw'
  obtain ⟨⟨Wx, hu3⟩, hw''⟩ := hw'
  simp only at hw''
  subst hw''
  clear g10 g11 g12 g20 g21 g22 gR0 gR1 gR2 hne hnv HS1 HVA
  have HVR := Lib.hid (fun W' (hu : Upd [] W3 W') => HVR.out W' (hu3.trans hu (by simp)))
  have HB0 := Lib.hid (hu3.at HB0.out (by simp))
  have HBR := Lib.hid (hu3.at HBR.out (by simp))
  have HHR := Lib.hid (HHR.out.stay hu3)
  have HB1 := Lib.hid (hu3.at HB1.out (by simp))
  have HH1 := Lib.hid (HH1.out.stay hu3)
  have HB2 := Lib.hid (hu3.at HB2.out (by simp))
  have HH2 := Lib.hid (HH2.out.stay hu3)
  have HU3 : Hid (Upd [] W0 W3) := HU2.out.trans hu3 (by simp)
  have HP0 := Lib.hid (lt_block HB0.out)
  have HHR3 := HHR
  clear hu3
  have HK4 := Lib.hid (HMD.out W3 (HUb.out.trans HU3.out (by simp)))
  go_upto_region 9 with (go_at_call 15; refine (HK4.out).mono ?_; rintro e w4 ⟨r', ad, cap, rfl, hN⟩; obtain ⟨a4, sa4, sc4, ia4, ic4⟩ := r'; unfold encA)
  have HH4 := Lib.hid hN.has
  have HQ4 := Lib.hid hN.eq
  have hIS := hN.his
  have HAI := Lib.hid (hIS.avoids (Nat.le_refl _))
  have HGE : Hid (W3.heap.size ≤ w4.heap.size) := hN.upd.size
  have HEN4 : Hid (encA ⟨a4, sa4, sc4, ia4, ic4⟩ = .agg #[.slice sa4 a4.sl.length sc4, .slice ia4 a4.id.length ic4, .int .i64 a4.nx]) := rfl
  have hu4a := hN.upd
  clear hN HK4
  simp only at HQ4 ⊢
  generalize a4.sl.length = n4 at HEN4 ⊢
  generalize a4.id.length = m4 at HEN4 ⊢
  generalize a4.nx = x4 at HEN4 ⊢
  have hb4 := heap_alloc1 w4 (.cells #[.slice sa4 n4 sc4, .slice ia4 m4 ic4, .int .i64 x4] 25)
  have hu4b := (Upd.refl [] w4).alloc (.cells #[.slice sa4 n4 sc4, .slice ia4 m4 ic4, .int .i64 x4] 25)
  have hu4 := hu4a.trans hu4b (by simp)
  have HH4 := Lib.hid (HH4.out.stay hu4b)
  generalize w4.alloc (.cells #[.slice sa4 n4 sc4, .slice ia4 m4 ic4, .int .i64 x4] 25) = W4 at hb4 hu4 hu4b HH4 ⊢
  generalize w4.heap.size = P4 at hb4 HAI HGE ⊢
  have HB4 := Lib.hid hb4
  have HB0 := Lib.hid (hu4.at HB0.out (by simp))
  have HBR := Lib.hid (hu4.at HBR.out (by simp))
  have HHR := Lib.hid (HHR.out.stay hu4)
  have HU4s := Lib.hid hu4
  have HU4 : Hid (Upd [] W0 W4) := HU3.out.trans hu4 (by simp)
  clear hb4 hu4 hu4a 
  have HIS := Lib.hid (hIS.stay hu4b)
  have HVR := Lib.hid (HVR.out W4 (HU4s.out))
  clear hIS hu4b
  obtain ⟨lR0, lR1, lR2⟩ := cells3 HBR.out
  go_upto_if 75 with (go_at_call 14; refine HVR.out.mono ?_; rintro e W5 ⟨rfl, hu5⟩)
  clear lR0 lR1 lR2
  have HB0 := Lib.hid (hu5.at HB0.out (by simp))
  have HBR := Lib.hid (hu5.at HBR.out (by simp))
  have HHR := Lib.hid (HHR.out.stay hu5)
  have HB4 := Lib.hid (hu5.at HB4.out (by simp))
  have HH4 := Lib.hid (HH4.out.stay hu5)
  have HIS := Lib.hid (HIS.out.stay hu5)
  have HU5 : Hid (Upd [] W0 W5) := HU4.out.trans hu5 (by simp)
  have HAR : Hid (Avoids ⟨aR, saR, scR, iaR, icR⟩ P4) := HHR3.out.avoids HGE.out
  clear hu5
  have HX4 : Hid (.agg #[.slice sa4 a4.sl.length sc4, .slice ia4 a4.id.length ic4, .int .i64 a4.nx] = (.agg #[.slice sa4 n4 sc4, .slice ia4 m4 ic4, .int .i64 x4] : Value)) := HEN4.out
  have HXR : Hid (.agg #[.slice saR aR.sl.length scR, .slice iaR aR.id.length icR, .int .i64 aR.nx] = (.agg #[.slice saR nR scR, .slice iaR mR icR, .int .i64 xR] : Value)) := HENR.out
  go_cut [16] (fun v16 wx => ∃ a sa sc ia ic, v16 = .pointer (some ⟨P4, 0, none⟩) ∧ Hid (wx.heap[P4]? = some (.cells #[.slice sa a.sl.length sc, .slice ia a.id.length ic, .int .i64 a.nx] 25 (0, 0))) ∧ Hid (HasA wx ⟨a, sa, sc, ia, ic⟩) ∧ Hid (Good a) ∧ Hid (Upd [P4] W5 wx))
  case first =>
    obtain ⟨lR0, lR1, lR2⟩ := cells3 HBR.out
    obtain ⟨c0, c1, c2⟩ := cells3 HB4.out
    obtain ⟨z0, z1, z2⟩ := free3 HB4.out
    rcases hv : v with _ | _
    · clear hv
      go_wp2_with fail
      go_meet
      case rel =>
        have h := HB4.out
        have e := HX4.out
        simp only [Value.agg.injEq] at e
        rw [← e] at h
        exact ⟨a4, sa4, sc4, ia4, ic4, rfl, h, HH4.out, (by show Good a4; rw [HQ4.out]; exact HGD.out), Upd.refl _ _⟩
    · have HGR : Hid (Good aR) := (validA_yes.1 (by rw [← HVV.out]; exact hv)).good
      clear hv
      go_wp2_with fail
      go_meet
      case rel =>
        have h := stored3 HB4.out (.slice saR nR scR) (.slice iaR mR icR) (.int .i64 xR)
        have hu := upd_set3 W5 P4 (.slice saR nR scR) (.slice iaR mR icR) (.int .i64 xR)
        have e := HXR.out
        simp only [Value.agg.injEq] at e
        rw [← e] at h
        exact ⟨aR, saR, scR, iaR, icR, rfl, h, HHR.out.keep1 hu HAR.out, HGR, hu⟩
  case rest =>
    obtain ⟨a6, sa6, sc6, ia6, ic6, rfl, HB6, HH6, HGA, HU6c⟩ := hcut
    have hp0 := HP0.out
    have hge := HGE.out
    have HU3s := Lib.hid HU3.out.size
    have HB0 := Lib.hid (HU6c.out.at HB0.out (by simp; omega))
    have HIS := Lib.hid (HIS.out.keep1 HU6c.out HAI.out)
    have HU6 : Hid (Upd [] W0 wc) := HU5.out.trans HU6c.out (fun x hx hl => by have := HU3s.out; simp at hx; omega)
    have HEN6 : Hid (encA ⟨a6, sa6, sc6, ia6, ic6⟩ = .agg #[.slice sa6 a6.sl.length sc6, .slice ia6 a6.id.length ic6, .int .i64 a6.nx]) := rfl
    clear hp0 hge HU3s HU6c HX4 HXR HBR HHR HB4 HH4 HEN4 HQ4 HAR HHR3 HVV
    generalize a6.sl.length = n6 at HB6 HEN6 ⊢
    generalize a6.id.length = m6 at HB6 HEN6 ⊢
    generalize a6.nx = x6 at HB6 HEN6 ⊢
    generalize wc = W6 at *
    generalize P4 = P6 at *
    have HPK := Lib.hid (Pick_any ad cap p.2 n W6 HIS.out.ints (by omega))
    obtain ⟨l01, l02, l03, l04⟩ := cells4 HB0.out
    go_upto_region 12 with (go_at_call 16; refine HPK.out.mono ?_; rintro e w' ⟨rfl, rfl⟩)
    clear l01 l02 l03 l04 HPK
    generalize pickA p.2 n = h
    have HSL1 : Hid (a6.sl.length ≤ 80) := HGA.out.small.1
    have HSL2 : Hid (a6.id.length ≤ 80) := HGA.out.small.2
    obtain ⟨l60, l61, l62⟩ := cells3 HB6.out
    obtain ⟨l00, l01, l02, l03⟩ := cells4 HB0.out
    have HK7 := Lib.hid (HAA.out.alloc ⟨a6, sa6, sc6, ia6, ic6⟩ n W6 HH6.out HGA.out)
    rw [HEN6.out] at HK7
    go_upto_region 13 with (go_at_call 17; refine (HK7.out).mono ?_; rintro e w7 ⟨r', rfl, hN⟩; obtain ⟨a7, sa7, sc7, ia7, ic7⟩ := r'; unfold encA)
    have HH7 := Lib.hid hN.has
    have HQ7 := Lib.hid hN.eq
    have HEN7 : Hid (encA ⟨a7, sa7, sc7, ia7, ic7⟩ = .agg #[.slice sa7 a7.sl.length sc7, .slice ia7 a7.id.length ic7, .int .i64 a7.nx]) := rfl
    have hu7a := hN.upd
    clear hN HK7
    simp only at HQ7 ⊢
    obtain ⟨q7, hq7⟩ : ∃ q, q = allocA a6 n := ⟨_, rfl⟩
    rw [← hq7] at HQ7 ⊢
    have HR7 := Lib.hid hq7
    clear hq7
    generalize a7.sl.length = n7 at HEN7 ⊢
    generalize a7.id.length = m7 at HEN7 ⊢
    generalize a7.nx = x7 at HEN7 ⊢
    have hb7 := heap_alloc1 w7 (.cells #[.slice sa7 n7 sc7, .slice ia7 m7 ic7, .int .i64 x7] 25)
    have hu7b := (Upd.refl [] w7).alloc (.cells #[.slice sa7 n7 sc7, .slice ia7 m7 ic7, .int .i64 x7] 25)
    have hu7 := hu7a.trans hu7b (by simp)
    have HH7 := Lib.hid (HH7.out.stay hu7b)
    generalize w7.alloc (.cells #[.slice sa7 n7 sc7, .slice ia7 m7 ic7, .int .i64 x7] 25) = W7 at hb7 hu7 hu7b HH7 ⊢
    generalize w7.heap.size = P7 at hb7 ⊢
    have HB7 := Lib.hid hb7
    have HB0 := Lib.hid (hu7.at HB0.out (by simp))
    have HB6 := Lib.hid (hu7.at HB6.out (by simp))
    have HH6 := Lib.hid (HH6.out.stay hu7)
    have HU7 : Hid (Upd [] W0 W7) := HU6.out.trans hu7 (by simp)
    clear hb7 hu7 hu7a l60 l61 l62 l00 l01 l02 l03
    obtain ⟨l60, l61, l62⟩ := cells3 HB6.out
    obtain ⟨l00, l01, l02, l03⟩ := cells4 HB0.out
    have HK8 := Lib.hid (Alloc_has ⟨a6, sa6, sc6, ia6, ic6⟩ n W7 HH6.out HGA.out)
    rw [HEN6.out] at HK8
    go_upto_region 14 with (go_at_call 18; refine (HK8.out).mono ?_; rintro e w8 ⟨r', rfl, hN⟩; obtain ⟨a8, sa8, sc8, ia8, ic8⟩ := r'; unfold encA)
    have HH8 := Lib.hid hN.has
    have HQ8 := Lib.hid hN.eq
    have HEN8 : Hid (encA ⟨a8, sa8, sc8, ia8, ic8⟩ = .agg #[.slice sa8 a8.sl.length sc8, .slice ia8 a8.id.length ic8, .int .i64 a8.nx]) := rfl
    have hu8a := hN.upd
    clear hN HK8
    simp only at HQ8 ⊢
    rw [← HR7.out] at HQ8 ⊢
    generalize a8.sl.length = n8 at HEN8 ⊢
    generalize a8.id.length = m8 at HEN8 ⊢
    generalize a8.nx = x8 at HEN8 ⊢
    have hb8 := heap_alloc1 w8 (.cells #[.slice sa8 n8 sc8, .slice ia8 m8 ic8, .int .i64 x8] 25)
    have hu8b := (Upd.refl [] w8).alloc (.cells #[.slice sa8 n8 sc8, .slice ia8 m8 ic8, .int .i64 x8] 25)
    have hu8 := hu8a.trans hu8b (by simp)
    have HH8 := Lib.hid (HH8.out.stay hu8b)
    generalize w8.alloc (.cells #[.slice sa8 n8 sc8, .slice ia8 m8 ic8, .int .i64 x8] 25) = W8 at hb8 hu8 hu8b HH8 ⊢
    generalize w8.heap.size = P8 at hb8 ⊢
    have HB8 := Lib.hid hb8
    have HB0 := Lib.hid (hu8.at HB0.out (by simp))
    have HB6 := Lib.hid (hu8.at HB6.out (by simp))
    have HH6 := Lib.hid (HH6.out.stay hu8)
    have HB7 := Lib.hid (hu8.at HB7.out (by simp))
    have HH7 := Lib.hid (HH7.out.stay hu8)
    have HU8 : Hid (Upd [] W0 W8) := HU7.out.trans hu8 (by simp)
    clear hb8 hu8 hu8a l60 l61 l62 l00 l01 l02 l03
    obtain ⟨l60, l61, l62⟩ := cells3 HB6.out
    obtain ⟨l00, l01, l02, l03⟩ := cells4 HB0.out
    have HK9 := Lib.hid (HAA.out.trans ⟨a6, sa6, sc6, ia6, ic6⟩ h (x % 5) (y % 5) W8 HH6.out HGA.out)
    rw [HEN6.out] at HK9
    go_upto_region 15 with (go_at_call 19; refine (HK9.out).mono ?_; rintro e w9 ⟨r', rfl, hN⟩; obtain ⟨a9, sa9, sc9, ia9, ic9⟩ := r'; unfold encA)
    have HH9 := Lib.hid hN.has
    have HQ9 := Lib.hid hN.eq
    have HEN9 : Hid (encA ⟨a9, sa9, sc9, ia9, ic9⟩ = .agg #[.slice sa9 a9.sl.length sc9, .slice ia9 a9.id.length ic9, .int .i64 a9.nx]) := rfl
    have hu9a := hN.upd
    clear hN HK9
    simp only at HQ9 ⊢
    obtain ⟨q9, hq9⟩ : ∃ q, q = transA a6 h (x % 5) (y % 5) := ⟨_, rfl⟩
    rw [← hq9] at HQ9 ⊢
    have HR9 := Lib.hid hq9
    clear hq9
    generalize a9.sl.length = n9 at HEN9 ⊢
    generalize a9.id.length = m9 at HEN9 ⊢
    generalize a9.nx = x9 at HEN9 ⊢
    have hb9 := heap_alloc1 w9 (.cells #[.slice sa9 n9 sc9, .slice ia9 m9 ic9, .int .i64 x9] 25)
    have hu9b := (Upd.refl [] w9).alloc (.cells #[.slice sa9 n9 sc9, .slice ia9 m9 ic9, .int .i64 x9] 25)
    have hu9 := hu9a.trans hu9b (by simp)
    have HH9 := Lib.hid (HH9.out.stay hu9b)
    generalize w9.alloc (.cells #[.slice sa9 n9 sc9, .slice ia9 m9 ic9, .int .i64 x9] 25) = W9 at hb9 hu9 hu9b HH9 ⊢
    generalize w9.heap.size = P9 at hb9 ⊢
    have HB9 := Lib.hid hb9
    have HB0 := Lib.hid (hu9.at HB0.out (by simp))
    have HB6 := Lib.hid (hu9.at HB6.out (by simp))
    have HH6 := Lib.hid (HH6.out.stay hu9)
    have HB7 := Lib.hid (hu9.at HB7.out (by simp))
    have HH7 := Lib.hid (HH7.out.stay hu9)
    have HB8 := Lib.hid (hu9.at HB8.out (by simp))
    have HH8 := Lib.hid (HH8.out.stay hu9)
    have HU9 : Hid (Upd [] W0 W9) := HU8.out.trans hu9 (by simp)
    clear hb9 hu9 hu9a l60 l61 l62 l00 l01 l02 l03
    obtain ⟨l60, l61, l62⟩ := cells3 HB6.out
    obtain ⟨l00, l01, l02, l03⟩ := cells4 HB0.out
    have HK10 := Lib.hid (Transition_has ⟨a6, sa6, sc6, ia6, ic6⟩ h (x % 5) (y % 5) W9 HH6.out (by have := HSL1.out; simp only; omega))
    rw [HEN6.out] at HK10
    go_upto_region 16 with (go_at_call 20; refine (HK10.out).mono ?_; rintro e w10 ⟨r', rfl, hN⟩; obtain ⟨a10, sa10, sc10, ia10, ic10⟩ := r'; unfold encA)
    have HH10 := Lib.hid hN.has
    have HQ10 := Lib.hid hN.eq
    have HEN10 : Hid (encA ⟨a10, sa10, sc10, ia10, ic10⟩ = .agg #[.slice sa10 a10.sl.length sc10, .slice ia10 a10.id.length ic10, .int .i64 a10.nx]) := rfl
    have hu10a := hN.upd
    clear hN HK10
    simp only at HQ10 ⊢
    rw [← HR9.out] at HQ10 ⊢
    generalize a10.sl.length = n10 at HEN10 ⊢
    generalize a10.id.length = m10 at HEN10 ⊢
    generalize a10.nx = x10 at HEN10 ⊢
    have hb10 := heap_alloc1 w10 (.cells #[.slice sa10 n10 sc10, .slice ia10 m10 ic10, .int .i64 x10] 25)
    have hu10b := (Upd.refl [] w10).alloc (.cells #[.slice sa10 n10 sc10, .slice ia10 m10 ic10, .int .i64 x10] 25)
    have hu10 := hu10a.trans hu10b (by simp)
    have HH10 := Lib.hid (HH10.out.stay hu10b)
    generalize w10.alloc (.cells #[.slice sa10 n10 sc10, .slice ia10 m10 ic10, .int .i64 x10] 25) = W10 at hb10 hu10 hu10b HH10 ⊢
    generalize w10.heap.size = P10 at hb10 ⊢
    have HB10 := Lib.hid hb10
    have HB0 := Lib.hid (hu10.at HB0.out (by simp))
    have HB6 := Lib.hid (hu10.at HB6.out (by simp))
    have HH6 := Lib.hid (HH6.out.stay hu10)
    have HB7 := Lib.hid (hu10.at HB7.out (by simp))
    have HH7 := Lib.hid (HH7.out.stay hu10)
    have HB8 := Lib.hid (hu10.at HB8.out (by simp))
    have HH8 := Lib.hid (HH8.out.stay hu10)
    have HB9 := Lib.hid (hu10.at HB9.out (by simp))
    have HH9 := Lib.hid (HH9.out.stay hu10)
    have HU10 : Hid (Upd [] W0 W10) := HU9.out.trans hu10 (by simp)
    clear hb10 hu10 hu10a l60 l61 l62 l00 l01 l02 l03
    obtain ⟨l60, l61, l62⟩ := cells3 HB6.out
    have HK11 := Lib.hid (HAA.out.rel ⟨a6, sa6, sc6, ia6, ic6⟩ h W10 HH6.out HGA.out)
    rw [HEN6.out] at HK11
    go_upto_region 17 with (go_at_call 21; refine (HK11.out).mono ?_; rintro e w11 ⟨r', rfl, hN⟩; obtain ⟨a11, sa11, sc11, ia11, ic11⟩ := r'; unfold encA)
    have HH11 := Lib.hid hN.has
    have HQ11 := Lib.hid hN.eq
    have HEN11 : Hid (encA ⟨a11, sa11, sc11, ia11, ic11⟩ = .agg #[.slice sa11 a11.sl.length sc11, .slice ia11 a11.id.length ic11, .int .i64 a11.nx]) := rfl
    have hu11a := hN.upd
    clear hN HK11
    simp only at HQ11 ⊢
    obtain ⟨q11, hq11⟩ : ∃ q, q = relA a6 h := ⟨_, rfl⟩
    rw [← hq11] at HQ11 ⊢
    have HR11 := Lib.hid hq11
    clear hq11
    generalize a11.sl.length = n11 at HEN11 ⊢
    generalize a11.id.length = m11 at HEN11 ⊢
    generalize a11.nx = x11 at HEN11 ⊢
    have hb11 := heap_alloc1 w11 (.cells #[.slice sa11 n11 sc11, .slice ia11 m11 ic11, .int .i64 x11] 25)
    have hu11b := (Upd.refl [] w11).alloc (.cells #[.slice sa11 n11 sc11, .slice ia11 m11 ic11, .int .i64 x11] 25)
    have hu11 := hu11a.trans hu11b (by simp)
    have HH11 := Lib.hid (HH11.out.stay hu11b)
    generalize w11.alloc (.cells #[.slice sa11 n11 sc11, .slice ia11 m11 ic11, .int .i64 x11] 25) = W11 at hb11 hu11 hu11b HH11 ⊢
    generalize w11.heap.size = P11 at hb11 ⊢
    have HB11 := Lib.hid hb11
    have HB0 := Lib.hid (hu11.at HB0.out (by simp))
    have HB6 := Lib.hid (hu11.at HB6.out (by simp))
    have HH6 := Lib.hid (HH6.out.stay hu11)
    have HB7 := Lib.hid (hu11.at HB7.out (by simp))
    have HH7 := Lib.hid (HH7.out.stay hu11)
    have HB8 := Lib.hid (hu11.at HB8.out (by simp))
    have HH8 := Lib.hid (HH8.out.stay hu11)
    have HB9 := Lib.hid (hu11.at HB9.out (by simp))
    have HH9 := Lib.hid (HH9.out.stay hu11)
    have HB10 := Lib.hid (hu11.at HB10.out (by simp))
    have HH10 := Lib.hid (HH10.out.stay hu11)
    have HU11 : Hid (Upd [] W0 W11) := HU10.out.trans hu11 (by simp)
    clear hb11 hu11 hu11a l60 l61 l62
    obtain ⟨l60, l61, l62⟩ := cells3 HB6.out
    have HK12 := Lib.hid (Release_has ⟨a6, sa6, sc6, ia6, ic6⟩ h W11 HH6.out (by have := HSL1.out; simp only; omega) (by have := HSL2.out; simp only; omega))
    rw [HEN6.out] at HK12
    go_upto_region 18 with (go_at_call 22; refine (HK12.out).mono ?_; rintro e w12 ⟨r', rfl, hN⟩; obtain ⟨a12, sa12, sc12, ia12, ic12⟩ := r'; unfold encA)
    have HH12 := Lib.hid hN.has
    have HQ12 := Lib.hid hN.eq
    have HEN12 : Hid (encA ⟨a12, sa12, sc12, ia12, ic12⟩ = .agg #[.slice sa12 a12.sl.length sc12, .slice ia12 a12.id.length ic12, .int .i64 a12.nx]) := rfl
    have hu12a := hN.upd
    clear hN HK12
    simp only at HQ12 ⊢
    rw [← HR11.out] at HQ12 ⊢
    generalize a12.sl.length = n12 at HEN12 ⊢
    generalize a12.id.length = m12 at HEN12 ⊢
    generalize a12.nx = x12 at HEN12 ⊢
    have hb12 := heap_alloc1 w12 (.cells #[.slice sa12 n12 sc12, .slice ia12 m12 ic12, .int .i64 x12] 25)
    have hu12b := (Upd.refl [] w12).alloc (.cells #[.slice sa12 n12 sc12, .slice ia12 m12 ic12, .int .i64 x12] 25)
    have hu12 := hu12a.trans hu12b (by simp)
    have HH12 := Lib.hid (HH12.out.stay hu12b)
    generalize w12.alloc (.cells #[.slice sa12 n12 sc12, .slice ia12 m12 ic12, .int .i64 x12] 25) = W12 at hb12 hu12 hu12b HH12 ⊢
    generalize w12.heap.size = P12 at hb12 ⊢
    have HB12 := Lib.hid hb12
    have HB0 := Lib.hid (hu12.at HB0.out (by simp))
    have HB6 := Lib.hid (hu12.at HB6.out (by simp))
    have HH6 := Lib.hid (HH6.out.stay hu12)
    have HB7 := Lib.hid (hu12.at HB7.out (by simp))
    have HH7 := Lib.hid (HH7.out.stay hu12)
    have HB8 := Lib.hid (hu12.at HB8.out (by simp))
    have HH8 := Lib.hid (HH8.out.stay hu12)
    have HB9 := Lib.hid (hu12.at HB9.out (by simp))
    have HH9 := Lib.hid (HH9.out.stay hu12)
    have HB10 := Lib.hid (hu12.at HB10.out (by simp))
    have HH10 := Lib.hid (HH10.out.stay hu12)
    have HB11 := Lib.hid (hu12.at HB11.out (by simp))
    have HH11 := Lib.hid (HH11.out.stay hu12)
    have HU12 : Hid (Upd [] W0 W12) := HU11.out.trans hu12 (by simp)
    clear hb12 hu12 hu12a l60 l61 l62
    obtain ⟨lk, hlk⟩ : ∃ q, q = lookA a6 h := ⟨_, rfl⟩
    have HLK := Lib.hid hlk
    clear hlk
    obtain ⟨l60, l61, l62⟩ := cells3 HB6.out
    have HK13 := Lib.hid (HAA.out.look ⟨a6, sa6, sc6, ia6, ic6⟩ h W12 HH6.out HGA.out)
    rw [HEN6.out] at HK13
    go_upto_region 19 with (go_at_call 23; refine (HK13.out).mono ?_; rintro e w13 ⟨rfl, hu13a⟩; simp only [← HLK.out, aggS])
    have hb13 := heap_alloc1 w13 (.cells #[.int .i64 lk.1.g, .int .i64 lk.1.s, .int .i64 lk.1.t, .int .i64 lk.1.q] 44)
    have hu13 := hu13a.trans ((Upd.refl [] w13).alloc (.cells #[.int .i64 lk.1.g, .int .i64 lk.1.s, .int .i64 lk.1.t, .int .i64 lk.1.q] 44)) (by simp)
    generalize w13.alloc (.cells #[.int .i64 lk.1.g, .int .i64 lk.1.s, .int .i64 lk.1.t, .int .i64 lk.1.q] 44) = W13 at hb13 hu13 ⊢
    generalize w13.heap.size = P13 at hb13 ⊢
    have HB13 := Lib.hid hb13
    have HB0 := Lib.hid (hu13.at HB0.out (by simp))
    have HB6 := Lib.hid (hu13.at HB6.out (by simp))
    have HH6 := Lib.hid (HH6.out.stay hu13)
    have HB7 := Lib.hid (hu13.at HB7.out (by simp))
    have HH7 := Lib.hid (HH7.out.stay hu13)
    have HB8 := Lib.hid (hu13.at HB8.out (by simp))
    have HH8 := Lib.hid (HH8.out.stay hu13)
    have HB9 := Lib.hid (hu13.at HB9.out (by simp))
    have HH9 := Lib.hid (HH9.out.stay hu13)
    have HB10 := Lib.hid (hu13.at HB10.out (by simp))
    have HH10 := Lib.hid (HH10.out.stay hu13)
    have HB11 := Lib.hid (hu13.at HB11.out (by simp))
    have HH11 := Lib.hid (HH11.out.stay hu13)
    have HB12 := Lib.hid (hu13.at HB12.out (by simp))
    have HH12 := Lib.hid (HH12.out.stay hu13)
    have HU13 : Hid (Upd [] W0 W13) := HU12.out.trans hu13 (by simp)
    clear hb13 hu13 hu13a l60 l61 l62 HK13
    obtain ⟨l60, l61, l62⟩ := cells3 HB6.out
    have HK14 := Lib.hid (Lookup_has ⟨a6, sa6, sc6, ia6, ic6⟩ h W13 HH6.out)
    rw [HEN6.out] at HK14
    go_upto_region 20 with (go_at_call 24; refine (HK14.out).mono ?_; rintro e w14 ⟨rfl, hu14a⟩; simp only [← HLK.out, aggS])
    have hb14 := heap_alloc1 w14 (.cells #[.int .i64 lk.1.g, .int .i64 lk.1.s, .int .i64 lk.1.t, .int .i64 lk.1.q] 44)
    have hu14 := hu14a.trans ((Upd.refl [] w14).alloc (.cells #[.int .i64 lk.1.g, .int .i64 lk.1.s, .int .i64 lk.1.t, .int .i64 lk.1.q] 44)) (by simp)
    generalize w14.alloc (.cells #[.int .i64 lk.1.g, .int .i64 lk.1.s, .int .i64 lk.1.t, .int .i64 lk.1.q] 44) = W14 at hb14 hu14 ⊢
    generalize w14.heap.size = P14 at hb14 ⊢
    have HB14 := Lib.hid hb14
    have HB0 := Lib.hid (hu14.at HB0.out (by simp))
    have HB6 := Lib.hid (hu14.at HB6.out (by simp))
    have HH6 := Lib.hid (HH6.out.stay hu14)
    have HB7 := Lib.hid (hu14.at HB7.out (by simp))
    have HH7 := Lib.hid (HH7.out.stay hu14)
    have HB8 := Lib.hid (hu14.at HB8.out (by simp))
    have HH8 := Lib.hid (HH8.out.stay hu14)
    have HB9 := Lib.hid (hu14.at HB9.out (by simp))
    have HH9 := Lib.hid (HH9.out.stay hu14)
    have HB10 := Lib.hid (hu14.at HB10.out (by simp))
    have HH10 := Lib.hid (HH10.out.stay hu14)
    have HB11 := Lib.hid (hu14.at HB11.out (by simp))
    have HH11 := Lib.hid (HH11.out.stay hu14)
    have HB12 := Lib.hid (hu14.at HB12.out (by simp))
    have HH12 := Lib.hid (HH12.out.stay hu14)
    have HB13 := Lib.hid (hu14.at HB13.out (by simp))
    have HU14 : Hid (Upd [] W0 W14) := HU13.out.trans hu14 (by simp)
    clear hb14 hu14 hu14a l60 l61 l62 HK14
    have HG7 : Hid (Good a7) := by show Good a7; rw [HQ7.out, HR7.out]; exact alloc_good HGA.out n
    have HS7 : Hid (∀ W', Upd [] W14 W' → Calls Try.prog 12 #[.agg #[.slice sa7 n7 sc7, .slice ia7 m7 ic7, .int .i64 x7], .agg #[.slice sa8 n8 sc8, .slice ia8 m8 ic8, .int .i64 x8]] W' fun e w' => e = .returned (.bool true) ∧ Upd [] W' w') := fun W' hu => by
      have h1 := Same_has ⟨a7, sa7, sc7, ia7, ic7⟩ ⟨a8, sa8, sc8, ia8, ic8⟩ W' (HH7.out.stay hu) (HH8.out.stay hu) (by have := HG7.out.small.1; simp only; omega) (by have := HG7.out.small.2; simp only; omega)
      rw [HEN7.out, HEN8.out] at h1
      simp only [HQ7.out, HQ8.out, decide_true] at h1
      exact h1
    have HG9 : Hid (Good a9) := by show Good a9; rw [HQ9.out, HR9.out]; exact trans_good HGA.out _ _ _
    have HS9 : Hid (∀ W', Upd [] W14 W' → Calls Try.prog 12 #[.agg #[.slice sa9 n9 sc9, .slice ia9 m9 ic9, .int .i64 x9], .agg #[.slice sa10 n10 sc10, .slice ia10 m10 ic10, .int .i64 x10]] W' fun e w' => e = .returned (.bool true) ∧ Upd [] W' w') := fun W' hu => by
      have h1 := Same_has ⟨a9, sa9, sc9, ia9, ic9⟩ ⟨a10, sa10, sc10, ia10, ic10⟩ W' (HH9.out.stay hu) (HH10.out.stay hu) (by have := HG9.out.small.1; simp only; omega) (by have := HG9.out.small.2; simp only; omega)
      rw [HEN9.out, HEN10.out] at h1
      simp only [HQ9.out, HQ10.out, decide_true] at h1
      exact h1
    have HG11 : Hid (Good a11) := by show Good a11; rw [HQ11.out, HR11.out]; exact rel_good HGA.out _
    have HS11 : Hid (∀ W', Upd [] W14 W' → Calls Try.prog 12 #[.agg #[.slice sa11 n11 sc11, .slice ia11 m11 ic11, .int .i64 x11], .agg #[.slice sa12 n12 sc12, .slice ia12 m12 ic12, .int .i64 x12]] W' fun e w' => e = .returned (.bool true) ∧ Upd [] W' w') := fun W' hu => by
      have h1 := Same_has ⟨a11, sa11, sc11, ia11, ic11⟩ ⟨a12, sa12, sc12, ia12, ic12⟩ W' (HH11.out.stay hu) (HH12.out.stay hu) (by have := HG11.out.small.1; simp only; omega) (by have := HG11.out.small.2; simp only; omega)
      rw [HEN11.out, HEN12.out] at h1
      simp only [HQ11.out, HQ12.out, decide_true] at h1
      exact h1
    obtain ⟨lv, hlv⟩ : ∃ v, v = liveL a6.sl := ⟨_, rfl⟩
    have HLA : Hid (∀ W', Upd [] W14 W' → Calls Try.prog 25 #[.agg #[.slice sa6 n6 sc6, .slice ia6 m6 ic6, .int .i64 x6]] W' fun e w' => e = .returned (.int .i64 (lv : Nat)) ∧ Upd [] W' w') := fun W' hu => by
      have h1 := HAA.out.live ⟨a6, sa6, sc6, ia6, ic6⟩ W' (HH6.out.stay hu) HGA.out
      rw [HEN6.out] at h1
      simp only [← hlv] at h1
      exact h1
    have HLB : Hid (∀ W', Upd [] W14 W' → Calls Try.prog 26 #[.agg #[.slice sa6 n6 sc6, .slice ia6 m6 ic6, .int .i64 x6]] W' fun e w' => e = .returned (.int .i64 (lv : Nat)) ∧ Upd [] W' w') := fun W' hu => by
      have h1 := (Live_has ⟨a6, sa6, sc6, ia6, ic6⟩ W' (HH6.out.stay hu) (by have := HSL1.out; simp only; omega)).mono (fun e w' h => (⟨h.1, h.2.upd⟩ : _ ∧ Upd [] W' w'))
      rw [HEN6.out] at h1
      simp only [← hlv] at h1
      exact h1
    clear hlv
    have hgs := guardSlot
    have heq := eqlSlot lk.1 lk.1
    simp only [decide_true] at heq
    obtain ⟨g60, g61, g62⟩ := kept3 HB6.out
    obtain ⟨g70, g71, g72⟩ := kept3 HB7.out
    obtain ⟨g80, g81, g82⟩ := kept3 HB8.out
    obtain ⟨g90, g91, g92⟩ := kept3 HB9.out
    obtain ⟨g100, g101, g102⟩ := kept3 HB10.out
    obtain ⟨g110, g111, g112⟩ := kept3 HB11.out
    obtain ⟨g120, g121, g122⟩ := kept3 HB12.out
    obtain ⟨g130, g131, g132, g133⟩ := kept4 HB13.out
    obtain ⟨g140, g141, g142, g143⟩ := kept4 HB14.out
    refine wp_region_quiet_kept mixed (by kernel_rfl) ?_
    repeat (go_big_quiet_step (first | (go_at_call 12; (first | (with_reducible exact calls_kept (HS7.out _ (Kept.up _))) | (with_reducible exact calls_kept (HS9.out _ (Kept.up _))) | (with_reducible exact calls_kept (HS11.out _ (Kept.up _))))) | (go_at_call 25; exact calls_kept (HLA.out _ (Kept.up _))) | (go_at_call 26; exact calls_kept (HLB.out _ (Kept.up _)))))
    refine wpQuiet_nil ?_
    intro W15 hw'
    obtain ⟨⟨Wx, hu15⟩, hw''⟩ := hw'
    simp only at hw''
    subst hw''
    clear hgs heq
    go_wp2_with fail
    go_ret
    exact ⟨rfl, (HUb.out.trans HU14.out (by simp)).trans hu15 (by simp)⟩
end Go.Proofs.Ythpofcomlidoiaa
