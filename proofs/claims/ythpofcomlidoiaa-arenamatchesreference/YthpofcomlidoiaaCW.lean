/- ArenaInvariant: the walk. -/
import Derived.Test.YthpofcomlidoiaaCV
namespace Go.Proofs.Ythpofcomlidoiaa
open Go.RowKit Go.Lib

theorem alloc_good {a : Ar} (h : Good a) (t : Int) : Good (allocA a t).1 := by
  by_cases ht : TimeOk t
  · by_cases hr : Room a
    · rw [allocA_ok ht hr]; exact h.take ht hr
    · rw [allocA_full ht hr]; exact h
  · rw [allocA_bad ht]; exact h
theorem alloc_same {a : Ar} {t : Int} (h : (allocA a t).2.2 ≠ 0) : (allocA a t).1 = a := by
  by_cases ht : TimeOk t
  · by_cases hr : Room a
    · rw [allocA_ok ht hr] at h; exact absurd rfl h
    · rw [allocA_full ht hr]
  · rw [allocA_bad ht]
theorem trans_good {a : Ar} (h : Good a) (x f t : Int) : Good (transA a x f t).1 := by
  by_cases hm : Moves a x f t
  · rw [transA, if_pos hm]; exact h.move hm
  · rw [transA, if_neg hm]; exact h
theorem trans_same {a : Ar} {x f t : Int} (h : (transA a x f t).2 = false) : (transA a x f t).1 = a := by
  by_cases hm : Moves a x f t
  · rw [transA, if_pos hm] at h; simp at h
  · rw [transA, if_neg hm]
theorem rel_good {a : Ar} (h : Good a) (x : Int) : Good (relA a x).1 := by
  by_cases hf : Frees a x
  · rw [relA, if_pos hf]; exact h.put hf
  · rw [relA, if_neg hf]; exact h
theorem rel_same {a : Ar} {x : Int} (h : (relA a x).2 = false) : (relA a x).1 = a := by
  by_cases hf : Frees a x
  · rw [relA, if_pos hf] at h; simp at h
  · rw [relA, if_neg hf]
theorem made_reach (c : Int) (os : List Oz) : ∃ n k, k ≤ 200 ∧ Reach n k (madeL c os).1 (madeL c os).2 := by
  have h := reach_run (n := (c % 64).toNat + 1) (by omega) (by omega) os (min os.length 200) (by omega)
  refine ⟨(c % 64).toNat + 1, min os.length 200, Nat.min_le_right _ _, ?_⟩
  rw [madeL, show os.take 200 = os.take (min os.length 200) from by rw [List.take_eq_take_iff]; omega]
  exact h
theorem Good.small {a : Ar} (h : Good a) : a.sl.length ≤ 80 ∧ a.id.length ≤ 80 := by
  have := h.len1
  have := h.count
  omega

set_option maxRecDepth 100000 in
set_option maxHeartbeats 8000000 in
theorem Invariant_any (A : ArenaOk) (c : Int) (la : Option Addr) (lc : Nat) (os : List Oz) (o : Oz) (W : World) (hc : 0 ≤ c ∧ c < 256) (hlm : os.length ≤ maxLen) (ho : OzOk o) (hos : Ozs W la os) :
    Calls Try.prog 4 #[.int .u8 c, .slice la os.length lc, encO o] W fun e w' => e = .returned (.bool true) ∧ Upd [] W w' := by
  have HMD := Lib.hid (fun W' (hu : Upd [] W W') => Made_has c la lc os W' hc (hos.stay hu) hlm)
  have HHD := Lib.hid (head_any A)
  obtain ⟨n0, k0, hk0, hre⟩ := made_reach c os
  generalize madeL c os = p at *
  have hgd := hre.good
  have hisl := hre.isl
  have HGD := Lib.hid hgd
  have HAA := Lib.hid A
  have hda : o.a.tmod 5 = o.a % 5 := Int.tmod_eq_emod_of_nonneg ho.a.1
  have hdb : o.b.tmod 5 = o.b % 5 := Int.tmod_eq_emod_of_nonneg ho.b.1
  have hwx : IntKind.i64.wrap o.a = o.a := by rw [IntKind.wrap_i64]; have := ho.a; omega
  have hwy : IntKind.i64.wrap o.b = o.b := by rw [IntKind.wrap_i64]; have := ho.b; omega
  obtain ⟨k, n, x, y⟩ := o
  simp only at hda hdb hwx hwy
  unfold encO
  simp only
  generalize os.length = L at HMD ⊢
  clear hre hgd ho hos hlm hc
  go_enter Try.func4, Try.ntmps4
  go_upto_region 1 with (fail)
  have hb0 := heap_alloc1 W (.cells #[.int .u8 k, .int .i64 n, .int .u8 x, .int .u8 y] 28)
  have hu0 := (Upd.refl [] W).alloc (.cells #[.int .u8 k, .int .i64 n, .int .u8 x, .int .u8 y] 28)
  generalize W.alloc (.cells #[.int .u8 k, .int .i64 n, .int .u8 x, .int .u8 y] 28) = W1 at hb0 hu0 ⊢
  generalize W.heap.size = P0 at hb0 ⊢
  have HB0 := Lib.hid hb0
  have HUa := Lib.hid hu0
  clear hb0 hu0
  go_upto_region 2 with (go_at_call 8; refine (HHD.out W1).mono ?_; rintro e W0 ⟨rfl, hu⟩)
  have HB0 := Lib.hid (hu.at HB0.out (by simp))
  have HUb : Hid (Upd [] W W0) := HUa.out.trans hu (by simp)
  have HU0 : Hid (Upd [] W0 W0) := Upd.refl _ _
  clear hu
  have HK1 := Lib.hid (HMD.out W0 HUb.out)
  go_upto_region 3 with (go_at_call 15; refine (HK1.out).mono ?_; rintro e w1 ⟨r', ad, cap, rfl, hN⟩; obtain ⟨a1, sa1, sc1, ia1, ic1⟩ := r'; unfold encA)
  have HH1 := Lib.hid hN.has
  have HQ1 := Lib.hid hN.eq
  have hIS := hN.his
  have HEN1 : Hid (encA ⟨a1, sa1, sc1, ia1, ic1⟩ = .agg #[.slice sa1 a1.sl.length sc1, .slice ia1 a1.id.length ic1, .int .i64 a1.nx]) := rfl
  have hu1a := hN.upd
  clear hN HK1
  simp only at HQ1 ⊢
  generalize a1.sl.length = n1 at HEN1 ⊢
  generalize a1.id.length = m1 at HEN1 ⊢
  generalize a1.nx = x1 at HEN1 ⊢
  have hb1 := heap_alloc1 w1 (.cells #[.slice sa1 n1 sc1, .slice ia1 m1 ic1, .int .i64 x1] 25)
  have hu1b := (Upd.refl [] w1).alloc (.cells #[.slice sa1 n1 sc1, .slice ia1 m1 ic1, .int .i64 x1] 25)
  have hu1 := hu1a.trans hu1b (by simp)
  have HH1 := Lib.hid (HH1.out.stay hu1b)
  generalize w1.alloc (.cells #[.slice sa1 n1 sc1, .slice ia1 m1 ic1, .int .i64 x1] 25) = W1 at hb1 hu1 hu1b HH1 ⊢
  generalize w1.heap.size = P1 at hb1 ⊢
  have HB1 := Lib.hid hb1
  have HB0 := Lib.hid (hu1.at HB0.out (by simp))
  have HU1 : Hid (Upd [] W0 W1) := HU0.out.trans hu1 (by simp)
  clear hb1 hu1 hu1a 
  have HIS := Lib.hid (hIS.stay hu1b)
  clear hIS hu1b
  have HPK := Lib.hid (Pick_any ad cap p.2 n W1 HIS.out.ints (by omega))
  obtain ⟨l01, l02, l03, l04⟩ := cells4 HB0.out
  go_upto_region 4 with (go_at_call 16; refine HPK.out.mono ?_; rintro e w' ⟨rfl, rfl⟩)
  clear l01 l02 l03 l04 HPK
  generalize pickA p.2 n = h
  have hga : Good a1 := by rw [HQ1.out]; exact HGD.out
  have HGA := Lib.hid hga
  clear hga
  obtain ⟨l10, l11, l12⟩ := cells3 HB1.out
  obtain ⟨l00, l01, l02, l03⟩ := cells4 HB0.out
  have HK2 := Lib.hid (HAA.out.alloc ⟨a1, sa1, sc1, ia1, ic1⟩ n W1 HH1.out HGA.out)
  rw [HEN1.out] at HK2
  go_upto_region 5 with (go_at_call 17; refine (HK2.out).mono ?_; rintro e w2 ⟨r', rfl, hN⟩; obtain ⟨a2, sa2, sc2, ia2, ic2⟩ := r'; unfold encA)
  have HH2 := Lib.hid hN.has
  have HQ2 := Lib.hid hN.eq
  have HEN2 : Hid (encA ⟨a2, sa2, sc2, ia2, ic2⟩ = .agg #[.slice sa2 a2.sl.length sc2, .slice ia2 a2.id.length ic2, .int .i64 a2.nx]) := rfl
  have hu2a := hN.upd
  clear hN HK2
  simp only at HQ2 ⊢
  obtain ⟨q2, hq2⟩ : ∃ q, q = allocA a1 n := ⟨_, rfl⟩
  rw [← hq2] at HQ2 ⊢
  have HR2 := Lib.hid hq2
  clear hq2
  generalize a2.sl.length = n2 at HEN2 ⊢
  generalize a2.id.length = m2 at HEN2 ⊢
  generalize a2.nx = x2 at HEN2 ⊢
  have hb2 := heap_alloc1 w2 (.cells #[.slice sa2 n2 sc2, .slice ia2 m2 ic2, .int .i64 x2] 25)
  have hu2b := (Upd.refl [] w2).alloc (.cells #[.slice sa2 n2 sc2, .slice ia2 m2 ic2, .int .i64 x2] 25)
  have hu2 := hu2a.trans hu2b (by simp)
  have HH2 := Lib.hid (HH2.out.stay hu2b)
  generalize w2.alloc (.cells #[.slice sa2 n2 sc2, .slice ia2 m2 ic2, .int .i64 x2] 25) = W2 at hb2 hu2 hu2b HH2 ⊢
  generalize w2.heap.size = P2 at hb2 ⊢
  have HB2 := Lib.hid hb2
  have HB0 := Lib.hid (hu2.at HB0.out (by simp))
  have HB1 := Lib.hid (hu2.at HB1.out (by simp))
  have HH1 := Lib.hid (HH1.out.stay hu2)
  have HU2 : Hid (Upd [] W0 W2) := HU1.out.trans hu2 (by simp)
  clear hb2 hu2 hu2a l10 l11 l12 l00 l01 l02 l03
  obtain ⟨l10, l11, l12⟩ := cells3 HB1.out
  obtain ⟨l00, l01, l02, l03⟩ := cells4 HB0.out
  have HK3 := Lib.hid (HAA.out.trans ⟨a1, sa1, sc1, ia1, ic1⟩ h (x % 5) (y % 5) W2 HH1.out HGA.out)
  rw [HEN1.out] at HK3
  go_upto_region 6 with (go_at_call 19; refine (HK3.out).mono ?_; rintro e w3 ⟨r', rfl, hN⟩; obtain ⟨a3, sa3, sc3, ia3, ic3⟩ := r'; unfold encA)
  have HH3 := Lib.hid hN.has
  have HQ3 := Lib.hid hN.eq
  have HEN3 : Hid (encA ⟨a3, sa3, sc3, ia3, ic3⟩ = .agg #[.slice sa3 a3.sl.length sc3, .slice ia3 a3.id.length ic3, .int .i64 a3.nx]) := rfl
  have hu3a := hN.upd
  clear hN HK3
  simp only at HQ3 ⊢
  obtain ⟨q3, hq3⟩ : ∃ q, q = transA a1 h (x % 5) (y % 5) := ⟨_, rfl⟩
  rw [← hq3] at HQ3 ⊢
  have HR3 := Lib.hid hq3
  clear hq3
  generalize a3.sl.length = n3 at HEN3 ⊢
  generalize a3.id.length = m3 at HEN3 ⊢
  generalize a3.nx = x3 at HEN3 ⊢
  have hb3 := heap_alloc1 w3 (.cells #[.slice sa3 n3 sc3, .slice ia3 m3 ic3, .int .i64 x3] 25)
  have hu3b := (Upd.refl [] w3).alloc (.cells #[.slice sa3 n3 sc3, .slice ia3 m3 ic3, .int .i64 x3] 25)
  have hu3 := hu3a.trans hu3b (by simp)
  have HH3 := Lib.hid (HH3.out.stay hu3b)
  generalize w3.alloc (.cells #[.slice sa3 n3 sc3, .slice ia3 m3 ic3, .int .i64 x3] 25) = W3 at hb3 hu3 hu3b HH3 ⊢
  generalize w3.heap.size = P3 at hb3 ⊢
  have HB3 := Lib.hid hb3
  have HB0 := Lib.hid (hu3.at HB0.out (by simp))
  have HB1 := Lib.hid (hu3.at HB1.out (by simp))
  have HH1 := Lib.hid (HH1.out.stay hu3)
  have HB2 := Lib.hid (hu3.at HB2.out (by simp))
  have HH2 := Lib.hid (HH2.out.stay hu3)
  have HU3 : Hid (Upd [] W0 W3) := HU2.out.trans hu3 (by simp)
  clear hb3 hu3 hu3a l10 l11 l12 l00 l01 l02 l03
  obtain ⟨l10, l11, l12⟩ := cells3 HB1.out
  have HK4 := Lib.hid (HAA.out.rel ⟨a1, sa1, sc1, ia1, ic1⟩ h W3 HH1.out HGA.out)
  rw [HEN1.out] at HK4
  go_upto_region 7 with (go_at_call 21; refine (HK4.out).mono ?_; rintro e w4 ⟨r', rfl, hN⟩; obtain ⟨a4, sa4, sc4, ia4, ic4⟩ := r'; unfold encA)
  have HH4 := Lib.hid hN.has
  have HQ4 := Lib.hid hN.eq
  have HEN4 : Hid (encA ⟨a4, sa4, sc4, ia4, ic4⟩ = .agg #[.slice sa4 a4.sl.length sc4, .slice ia4 a4.id.length ic4, .int .i64 a4.nx]) := rfl
  have hu4a := hN.upd
  clear hN HK4
  simp only at HQ4 ⊢
  obtain ⟨q4, hq4⟩ : ∃ q, q = relA a1 h := ⟨_, rfl⟩
  rw [← hq4] at HQ4 ⊢
  have HR4 := Lib.hid hq4
  clear hq4
  generalize a4.sl.length = n4 at HEN4 ⊢
  generalize a4.id.length = m4 at HEN4 ⊢
  generalize a4.nx = x4 at HEN4 ⊢
  have hb4 := heap_alloc1 w4 (.cells #[.slice sa4 n4 sc4, .slice ia4 m4 ic4, .int .i64 x4] 25)
  have hu4b := (Upd.refl [] w4).alloc (.cells #[.slice sa4 n4 sc4, .slice ia4 m4 ic4, .int .i64 x4] 25)
  have hu4 := hu4a.trans hu4b (by simp)
  have HH4 := Lib.hid (HH4.out.stay hu4b)
  generalize w4.alloc (.cells #[.slice sa4 n4 sc4, .slice ia4 m4 ic4, .int .i64 x4] 25) = W4 at hb4 hu4 hu4b HH4 ⊢
  generalize w4.heap.size = P4 at hb4 ⊢
  have HB4 := Lib.hid hb4
  have HB0 := Lib.hid (hu4.at HB0.out (by simp))
  have HB1 := Lib.hid (hu4.at HB1.out (by simp))
  have HH1 := Lib.hid (HH1.out.stay hu4)
  have HB2 := Lib.hid (hu4.at HB2.out (by simp))
  have HH2 := Lib.hid (HH2.out.stay hu4)
  have HB3 := Lib.hid (hu4.at HB3.out (by simp))
  have HH3 := Lib.hid (HH3.out.stay hu4)
  have HU4 : Hid (Upd [] W0 W4) := HU3.out.trans hu4 (by simp)
  clear hb4 hu4 hu4a l10 l11 l12
  have HG2 : Hid (Good a2) := by show Good a2; rw [HQ2.out, HR2.out]; exact alloc_good HGA.out n
  have HG3 : Hid (Good a3) := by show Good a3; rw [HQ3.out, HR3.out]; exact trans_good HGA.out _ _ _
  have HG4 : Hid (Good a4) := by show Good a4; rw [HQ4.out, HR4.out]; exact rel_good HGA.out _
  have HV1 : Hid (∀ W', Upd [] W4 W' → Calls Try.prog 13 #[.agg #[.slice sa1 n1 sc1, .slice ia1 m1 ic1, .int .i64 x1]] W' fun e w' => e = .returned (.bool true) ∧ Upd [] W' w') := fun W' hu => by
    have h1 := HAA.out.valid ⟨a1, sa1, sc1, ia1, ic1⟩ W' (HH1.out.stay hu) HGA.out.small.1 HGA.out.small.2
    rw [HEN1.out] at h1
    simp only [validA_yes.2 HGA.out.valid] at h1
    exact h1
  have HV2 : Hid (∀ W', Upd [] W4 W' → Calls Try.prog 13 #[.agg #[.slice sa2 n2 sc2, .slice ia2 m2 ic2, .int .i64 x2]] W' fun e w' => e = .returned (.bool true) ∧ Upd [] W' w') := fun W' hu => by
    have h1 := HAA.out.valid ⟨a2, sa2, sc2, ia2, ic2⟩ W' (HH2.out.stay hu) HG2.out.small.1 HG2.out.small.2
    rw [HEN2.out] at h1
    simp only [validA_yes.2 HG2.out.valid] at h1
    exact h1
  have HV3 : Hid (∀ W', Upd [] W4 W' → Calls Try.prog 13 #[.agg #[.slice sa3 n3 sc3, .slice ia3 m3 ic3, .int .i64 x3]] W' fun e w' => e = .returned (.bool true) ∧ Upd [] W' w') := fun W' hu => by
    have h1 := HAA.out.valid ⟨a3, sa3, sc3, ia3, ic3⟩ W' (HH3.out.stay hu) HG3.out.small.1 HG3.out.small.2
    rw [HEN3.out] at h1
    simp only [validA_yes.2 HG3.out.valid] at h1
    exact h1
  have HV4 : Hid (∀ W', Upd [] W4 W' → Calls Try.prog 13 #[.agg #[.slice sa4 n4 sc4, .slice ia4 m4 ic4, .int .i64 x4]] W' fun e w' => e = .returned (.bool true) ∧ Upd [] W' w') := fun W' hu => by
    have h1 := HAA.out.valid ⟨a4, sa4, sc4, ia4, ic4⟩ W' (HH4.out.stay hu) HG4.out.small.1 HG4.out.small.2
    rw [HEN4.out] at h1
    simp only [validA_yes.2 HG4.out.valid] at h1
    exact h1
  have HS2 : Hid (q2.2.2 ≠ 0 → ∀ W', Upd [] W4 W' → Calls Try.prog 12 #[.agg #[.slice sa1 n1 sc1, .slice ia1 m1 ic1, .int .i64 x1], .agg #[.slice sa2 n2 sc2, .slice ia2 m2 ic2, .int .i64 x2]] W' fun e w' => e = .returned (.bool true) ∧ Upd [] W' w') := fun hf W' hu => by
    have h1 := Same_has ⟨a1, sa1, sc1, ia1, ic1⟩ ⟨a2, sa2, sc2, ia2, ic2⟩ W' (HH1.out.stay hu) (HH2.out.stay hu) (by have := HGA.out.small.1; simp only; omega) (by have := HGA.out.small.2; simp only; omega)
    have he : a1 = a2 := by
      have h2 := HQ2.out
      rw [HR2.out] at h2 hf
      rw [h2]; exact (alloc_same hf).symm
    rw [HEN1.out, HEN2.out] at h1
    simp only [he, decide_true] at h1
    exact h1
  have HS3 : Hid (q3.2 = false → ∀ W', Upd [] W4 W' → Calls Try.prog 12 #[.agg #[.slice sa1 n1 sc1, .slice ia1 m1 ic1, .int .i64 x1], .agg #[.slice sa3 n3 sc3, .slice ia3 m3 ic3, .int .i64 x3]] W' fun e w' => e = .returned (.bool true) ∧ Upd [] W' w') := fun hf W' hu => by
    have h1 := Same_has ⟨a1, sa1, sc1, ia1, ic1⟩ ⟨a3, sa3, sc3, ia3, ic3⟩ W' (HH1.out.stay hu) (HH3.out.stay hu) (by have := HGA.out.small.1; simp only; omega) (by have := HGA.out.small.2; simp only; omega)
    have he : a1 = a3 := by
      have h2 := HQ3.out
      rw [HR3.out] at h2 hf
      rw [h2]; exact (trans_same hf).symm
    rw [HEN1.out, HEN3.out] at h1
    simp only [he, decide_true] at h1
    exact h1
  have HS4 : Hid (q4.2 = false → ∀ W', Upd [] W4 W' → Calls Try.prog 12 #[.agg #[.slice sa1 n1 sc1, .slice ia1 m1 ic1, .int .i64 x1], .agg #[.slice sa4 n4 sc4, .slice ia4 m4 ic4, .int .i64 x4]] W' fun e w' => e = .returned (.bool true) ∧ Upd [] W' w') := fun hf W' hu => by
    have h1 := Same_has ⟨a1, sa1, sc1, ia1, ic1⟩ ⟨a4, sa4, sc4, ia4, ic4⟩ W' (HH1.out.stay hu) (HH4.out.stay hu) (by have := HGA.out.small.1; simp only; omega) (by have := HGA.out.small.2; simp only; omega)
    have he : a1 = a4 := by
      have h2 := HQ4.out
      rw [HR4.out] at h2 hf
      rw [h2]; exact (rel_same hf).symm
    rw [HEN1.out, HEN4.out] at h1
    simp only [he, decide_true] at h1
    exact h1
  obtain ⟨c10, c11, c12⟩ := cells3 HB1.out
  obtain ⟨c20, c21, c22⟩ := cells3 HB2.out
  obtain ⟨c30, c31, c32⟩ := cells3 HB3.out
  obtain ⟨c40, c41, c42⟩ := cells3 HB4.out
  have HCC : Hid (∀ W', Upd [] W4 W' → (W'.cell? ⟨P1, 0, none⟩ = some (.slice sa1 n1 sc1) ∧ W'.cell? ⟨P1, 1, none⟩ = some (.slice ia1 m1 ic1) ∧ W'.cell? ⟨P1, 2, none⟩ = some (.int .i64 x1)) ∧ (W'.cell? ⟨P2, 0, none⟩ = some (.slice sa2 n2 sc2) ∧ W'.cell? ⟨P2, 1, none⟩ = some (.slice ia2 m2 ic2) ∧ W'.cell? ⟨P2, 2, none⟩ = some (.int .i64 x2)) ∧ (W'.cell? ⟨P3, 0, none⟩ = some (.slice sa3 n3 sc3) ∧ W'.cell? ⟨P3, 1, none⟩ = some (.slice ia3 m3 ic3) ∧ W'.cell? ⟨P3, 2, none⟩ = some (.int .i64 x3)) ∧ (W'.cell? ⟨P4, 0, none⟩ = some (.slice sa4 n4 sc4) ∧ W'.cell? ⟨P4, 1, none⟩ = some (.slice ia4 m4 ic4) ∧ W'.cell? ⟨P4, 2, none⟩ = some (.int .i64 x4))) := fun W' hu => ⟨⟨hu.cell c10 (by simp), hu.cell c11 (by simp), hu.cell c12 (by simp)⟩, ⟨hu.cell c20 (by simp), hu.cell c21 (by simp), hu.cell c22 (by simp)⟩, ⟨hu.cell c30 (by simp), hu.cell c31 (by simp), hu.cell c32 (by simp)⟩, ⟨hu.cell c40 (by simp), hu.cell c41 (by simp), hu.cell c42 (by simp)⟩⟩
  obtain ⟨b2, b3, b4, hb2, hb3, hb4⟩ : ∃ b2 b3 b4, b2 = (q2.2.2 == 0) ∧ b3 = q3.2 ∧ b4 = q4.2 := ⟨_, _, _, rfl, rfl, rfl⟩
  obtain ⟨qe, hqe⟩ : ∃ q, q = q2.2.2 := ⟨_, rfl⟩
  rw [← hqe] at hb2 HS2 ⊢
  rw [← hb3, ← hb4]
  rw [← hb3] at HS3
  rw [← hb4] at HS4
  have HS2 := Lib.hid (fun (h : b2 = false) => HS2.out (by rw [hb2] at h; simpa using h))
  clear hqe hb3 hb4
  have hb2' := hb2.symm
  clear hb2 c10 c11 c12 c20 c21 c22 c30 c31 c32 c40 c41 c42
  have hw : Upd [] W4 W4 := Upd.refl _ _
  obtain ⟨⟨g10, g11, g12⟩, ⟨g20, g21, g22⟩, ⟨g30, g31, g32⟩, ⟨g40, g41, g42⟩⟩ := HCC.out _ hw
  go_upto_region 9 with (first
    | (go_at_call 13; (first | (with_reducible refine (HV1.out _ hw).mono ?_) | (with_reducible refine (HV2.out _ hw).mono ?_) | (with_reducible refine (HV3.out _ hw).mono ?_) | (with_reducible refine (HV4.out _ hw).mono ?_)); rintro e w' ⟨rfl, hu⟩; have hw := hw.trans hu (by simp); clear g10 g11 g12 g20 g21 g22 g30 g31 g32 g40 g41 g42 hu; obtain ⟨⟨g10, g11, g12⟩, ⟨g20, g21, g22⟩, ⟨g30, g31, g32⟩, ⟨g40, g41, g42⟩⟩ := HCC.out _ hw))
  cases b2 <;> cases b3 <;> cases b4
  all_goals
    go_wp2_with (first
      | (go_at_call 12; (first | (with_reducible refine (HS2.out (by first | exact rfl | exact trivial) _ hw).mono ?_) | (with_reducible refine (HS3.out (by first | exact rfl | exact trivial) _ hw).mono ?_) | (with_reducible refine (HS4.out (by first | exact rfl | exact trivial) _ hw).mono ?_)); rintro e w' ⟨rfl, hu⟩; have hw := hw.trans hu (by simp); clear g10 g11 g12 g20 g21 g22 g30 g31 g32 g40 g41 g42 hu; obtain ⟨⟨g10, g11, g12⟩, ⟨g20, g21, g22⟩, ⟨g30, g31, g32⟩, ⟨g40, g41, g42⟩⟩ := HCC.out _ hw))
    go_ret
    exact ⟨rfl, (HUb.out.trans HU4.out (by simp)).trans hw (by simp)⟩
end Go.Proofs.Ythpofcomlidoiaa
