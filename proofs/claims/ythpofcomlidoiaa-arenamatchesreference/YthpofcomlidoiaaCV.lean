/- What the laws ask of the program's arena, and the laws' head under it. -/
import Derived.Test.YthpofcomlidoiaaCU
namespace Go.Proofs.Ythpofcomlidoiaa
open Go.RowKit Go.Lib

def hZ : Ar := ⟨[], [], 0⟩
/-- Contracts of the program's arena. -/
structure ArenaOk : Prop where
  newYes : ∀ (n : Nat), 1 ≤ n → n ≤ 64 → ∀ w : World, Calls Try.prog 10 #[.int .i64 n] w fun e w' => ∃ r', e = .returned (.tuple #[encA r', .int .i64 0]) ∧ Born w (newA n) w' r'
  newNo : ∀ (c : Int), ¬ (1 ≤ c ∧ c ≤ 64) → ∀ w : World, Calls Try.prog 10 #[.int .i64 c] w fun e w' => ∃ r', e = .returned (.tuple #[encA r', .int .i64 1]) ∧ Born w hZ w' r'
  valid : ∀ (r : ArR) (w : World), HasA w r → r.ar.sl.length ≤ 80 → r.ar.id.length ≤ 80 → Calls Try.prog 13 #[encA r] w fun e w' => e = .returned (.bool (validA r.ar)) ∧ Upd [] w w'
  live : ∀ (r : ArR) (w : World), HasA w r → Good r.ar → Calls Try.prog 25 #[encA r] w fun e w' => e = .returned (.int .i64 (liveL r.ar.sl : Nat)) ∧ Upd [] w w'
  look : ∀ (r : ArR) (h : Int) (w : World), HasA w r → Good r.ar → Calls Try.prog 23 #[encA r, .int .i64 h] w (GivesL r.ar h w)
  alloc : ∀ (r : ArR) (t : Int) (w : World), HasA w r → Good r.ar → Calls Try.prog 17 #[encA r, .int .i64 t] w (GivesAHE r (allocA r.ar t) w)
  trans : ∀ (r : ArR) (h f t : Int) (w : World), HasA w r → Good r.ar → Calls Try.prog 19 #[encA r, .int .i64 h, .int .i64 f, .int .i64 t] w (GivesAB r (transA r.ar h f t) w)
  rel : ∀ (r : ArR) (h : Int) (w : World), HasA w r → Good r.ar → Calls Try.prog 21 #[encA r, .int .i64 h] w (GivesAB r (relA r.ar h) w)

def hA : Ar := ⟨[⟨0, 0, 0, 0⟩], [0], 0⟩
def hB : Ar := ⟨[⟨0, 1, 7, 0⟩], [], 1⟩
def hC : Ar := ⟨[⟨0, 2, 7, 0⟩], [], 1⟩
def hD : Ar := ⟨[⟨1, 0, 0, 0⟩], [0], 1⟩
def hE : Ar := ⟨[⟨1, 1, 9, 1⟩], [], 2⟩
theorem hA_eq : newA 1 = hA := by decide
theorem hA_al : allocA hA 7 = (hB, 0, 0) := by decide
theorem hB_al : allocA hB 8 = (hB, 0, 10) := by decide
theorem hB_lo : lookA hB 0 = (⟨0, 1, 7, 0⟩, true) := by decide
theorem hB_tr : transA hB 0 1 2 = (hC, true) := by decide
theorem hC_tr : transA hC 0 1 3 = (hC, false) := by decide
theorem hC_re : relA hC 0 = (hD, true) := by decide
theorem hD_lo : lookA hD 0 = (⟨0, 0, 0, 0⟩, false) := by decide
theorem hD_al : allocA hD 9 = (hE, 64, 0) := by decide
theorem hA_good : Good hA := hA_eq ▸ newA_good (by decide) (by decide)
theorem hB_good : Good hB := by
  have h : takeA hA 7 = hB := by decide
  exact h ▸ hA_good.take (by decide) (by decide)
theorem hC_good : Good hC := by
  have h : setS hB (hS 0) (moveS (slAt hB.sl (hS 0)) 2) = hC := by decide
  exact h ▸ hB_good.move (hd := 0) (f := 1) (by decide)
theorem hD_good : Good hD := by
  have h : putA hC 0 = hD := by decide
  exact h ▸ hC_good.put (by decide)
theorem hD_l1 : hD.sl.length ≤ 80 := by decide
theorem hD_l2 : hD.id.length ≤ 80 := by decide
theorem hB_live : liveL hB.sl = 1 := by decide
theorem hD_valid : validA hD = true := validA_yes.2 hD_good.valid
theorem hZ_valid : validA ⟨[], [], 0⟩ = false := validA_no.2 (fun h => by have := h.1.1; simp at this)
theorem zero_has (w : World) : HasA w ⟨⟨[], [], 0⟩, none, 0, none, 0⟩ := ⟨slots_nil _ _, ints_nil _ _, by simp, by simp, fun _ => rfl, fun _ => rfl⟩

set_option maxRecDepth 100000 in
set_option maxHeartbeats 8000000 in
theorem head_any (A : ArenaOk) (W0 : World) : Calls Try.prog 8 #[] W0 fun e w' => e = .returned (.bool true) ∧ Upd [] W0 w' := by
  have hgs := guardSlot
  have heq := eqlSlot ⟨0, 1, 7, 0⟩ ⟨0, 1, 7, 0⟩
  simp only [decide_true] at heq
  have HGS := Lib.hid hgs; have HEQ := Lib.hid heq
  have HZ := Lib.hid (fun W => A.valid ⟨⟨[], [], 0⟩, none, 0, none, 0⟩ W (zero_has W) (by simp) (by simp))
  have HN1 := Lib.hid (A.newYes 1 (by decide) (by decide))
  have HN2 := Lib.hid (A.newNo 65 (by decide))
  have HAL := Lib.hid A.alloc; have HTR := Lib.hid A.trans; have HRE := Lib.hid A.rel; have HLO := Lib.hid A.look; have HLI := Lib.hid A.live; have HVA := Lib.hid A.valid
  clear hgs heq
  have HU0 : Hid (Upd [] W0 W0) := Upd.refl _ _
  go_enter Try.func8, Try.ntmps8
  have HK1 := Lib.hid (HN1.out W0)
  go_upto_region 2 with (go_at_call 10; refine (HK1.out).mono ?_; rintro e w1 ⟨r', rfl, hN⟩; obtain ⟨a1, sa1, sc1, ia1, ic1⟩ := r'; have he1 := hN.eq; simp only [hA_eq] at he1 ⊢; subst he1; unfold encA)
  have HH1 := Lib.hid hN.has
  have HEN1 : Hid (encA ⟨hA, sa1, sc1, ia1, ic1⟩ = .agg #[.slice sa1 hA.sl.length sc1, .slice ia1 hA.id.length ic1, .int .i64 hA.nx]) := rfl
  have hu1a := hN.upd
  clear hN HK1
  generalize hA.sl.length = n1 at HEN1 ⊢
  generalize hA.id.length = m1 at HEN1 ⊢
  generalize hA.nx = x1 at HEN1 ⊢
  have hb1 := heap_alloc1 w1 (.cells #[.slice sa1 n1 sc1, .slice ia1 m1 ic1, .int .i64 x1] 25)
  have hu1b := (Upd.refl [] w1).alloc (.cells #[.slice sa1 n1 sc1, .slice ia1 m1 ic1, .int .i64 x1] 25)
  have hu1 := hu1a.trans hu1b (by simp)
  have HH1 := Lib.hid (HH1.out.stay hu1b)
  generalize w1.alloc (.cells #[.slice sa1 n1 sc1, .slice ia1 m1 ic1, .int .i64 x1] 25) = W1 at hb1 hu1 HH1 ⊢
  generalize w1.heap.size = P1 at hb1 ⊢
  have HB1 := Lib.hid hb1
  have HU1 : Hid (Upd [] W0 W1) := HU0.out.trans hu1 (by simp)
  clear hb1 hu1 hu1a hu1b
  obtain ⟨l0, l1, l2⟩ := cells3 HB1.out
  have HK2 := Lib.hid (HAL.out ⟨hA, sa1, sc1, ia1, ic1⟩ 7 W1 HH1.out hA_good)
  rw [HEN1.out] at HK2
  go_upto_region 3 with (go_at_call 17; refine (HK2.out).mono ?_; rintro e w2 ⟨r', rfl, hN⟩; obtain ⟨a2, sa2, sc2, ia2, ic2⟩ := r'; have he2 := hN.eq; simp only [hA_al] at he2 ⊢; subst he2; unfold encA)
  have HH2 := Lib.hid hN.has
  have HEN2 : Hid (encA ⟨hB, sa2, sc2, ia2, ic2⟩ = .agg #[.slice sa2 hB.sl.length sc2, .slice ia2 hB.id.length ic2, .int .i64 hB.nx]) := rfl
  have hu2a := hN.upd
  clear hN HK2
  generalize hB.sl.length = n2 at HEN2 ⊢
  generalize hB.id.length = m2 at HEN2 ⊢
  generalize hB.nx = x2 at HEN2 ⊢
  have hb2 := heap_alloc1 w2 (.cells #[.slice sa2 n2 sc2, .slice ia2 m2 ic2, .int .i64 x2] 25)
  have hu2b := (Upd.refl [] w2).alloc (.cells #[.slice sa2 n2 sc2, .slice ia2 m2 ic2, .int .i64 x2] 25)
  have hu2 := hu2a.trans hu2b (by simp)
  have HH2 := Lib.hid (HH2.out.stay hu2b)
  generalize w2.alloc (.cells #[.slice sa2 n2 sc2, .slice ia2 m2 ic2, .int .i64 x2] 25) = W2 at hb2 hu2 HH2 ⊢
  generalize w2.heap.size = P2 at hb2 ⊢
  have HB2 := Lib.hid hb2
  have HB1 := Lib.hid (hu2.at HB1.out (by simp))
  have HH1 := Lib.hid (HH1.out.stay hu2)
  clear l0 l1 l2
  have HU2 : Hid (Upd [] W0 W2) := HU1.out.trans hu2 (by simp)
  clear hb2 hu2 hu2a hu2b
  obtain ⟨l0, l1, l2⟩ := cells3 HB2.out
  have HK3 := Lib.hid (HAL.out ⟨hB, sa2, sc2, ia2, ic2⟩ 8 W2 HH2.out hB_good)
  rw [HEN2.out] at HK3
  go_upto_region 4 with (go_at_call 17; refine (HK3.out).mono ?_; rintro e w3 ⟨r', rfl, hN⟩; obtain ⟨a3, sa3, sc3, ia3, ic3⟩ := r'; have he3 := hN.eq; simp only [hB_al] at he3 ⊢; subst he3; unfold encA)
  have HH3 := Lib.hid hN.has
  have HEN3 : Hid (encA ⟨hB, sa3, sc3, ia3, ic3⟩ = .agg #[.slice sa3 hB.sl.length sc3, .slice ia3 hB.id.length ic3, .int .i64 hB.nx]) := rfl
  have hu3a := hN.upd
  clear hN HK3
  generalize hB.sl.length = n3 at HEN3 ⊢
  generalize hB.id.length = m3 at HEN3 ⊢
  generalize hB.nx = x3 at HEN3 ⊢
  have hb3 := heap_alloc1 w3 (.cells #[.slice sa3 n3 sc3, .slice ia3 m3 ic3, .int .i64 x3] 25)
  have hu3b := (Upd.refl [] w3).alloc (.cells #[.slice sa3 n3 sc3, .slice ia3 m3 ic3, .int .i64 x3] 25)
  have hu3 := hu3a.trans hu3b (by simp)
  have HH3 := Lib.hid (HH3.out.stay hu3b)
  generalize w3.alloc (.cells #[.slice sa3 n3 sc3, .slice ia3 m3 ic3, .int .i64 x3] 25) = W3 at hb3 hu3 HH3 ⊢
  generalize w3.heap.size = P3 at hb3 ⊢
  have HB3 := Lib.hid hb3
  have HB1 := Lib.hid (hu3.at HB1.out (by simp))
  have HH1 := Lib.hid (HH1.out.stay hu3)
  have HB2 := Lib.hid (hu3.at HB2.out (by simp))
  have HH2 := Lib.hid (HH2.out.stay hu3)
  clear l0 l1 l2
  have HU3 : Hid (Upd [] W0 W3) := HU2.out.trans hu3 (by simp)
  clear hb3 hu3 hu3a hu3b
  obtain ⟨l0, l1, l2⟩ := cells3 HB2.out
  have HK4 := Lib.hid (HLO.out ⟨hB, sa2, sc2, ia2, ic2⟩ 0 W3 HH2.out hB_good)
  rw [HEN2.out] at HK4
  go_upto_region 5 with (go_at_call 23; refine (HK4.out).mono ?_; rintro e w4 ⟨rfl, hu4a⟩; simp only [hB_lo, aggS])
  have hb4 := heap_alloc1 w4 (.cells #[.int .i64 0, .int .i64 1, .int .i64 7, .int .i64 0] 44)
  have hu4 := hu4a.trans ((Upd.refl [] w4).alloc (.cells #[.int .i64 0, .int .i64 1, .int .i64 7, .int .i64 0] 44)) (by simp)
  generalize w4.alloc (.cells #[.int .i64 0, .int .i64 1, .int .i64 7, .int .i64 0] 44) = W4 at hb4 hu4 ⊢
  generalize w4.heap.size = P4 at hb4 ⊢
  have HB4 := Lib.hid hb4
  have HB1 := Lib.hid (hu4.at HB1.out (by simp))
  have HH1 := Lib.hid (HH1.out.stay hu4)
  have HB2 := Lib.hid (hu4.at HB2.out (by simp))
  have HH2 := Lib.hid (HH2.out.stay hu4)
  have HB3 := Lib.hid (hu4.at HB3.out (by simp))
  have HH3 := Lib.hid (HH3.out.stay hu4)
  have HU4 : Hid (Upd [] W0 W4) := HU3.out.trans hu4 (by simp)
  clear hb4 hu4 hu4a l0 l1 l2 HK4
  obtain ⟨l0, l1, l2⟩ := cells3 HB2.out
  have HK5 := Lib.hid (HTR.out ⟨hB, sa2, sc2, ia2, ic2⟩ 0 1 2 W4 HH2.out hB_good)
  rw [HEN2.out] at HK5
  go_upto_region 6 with (go_at_call 19; refine (HK5.out).mono ?_; rintro e w5 ⟨r', rfl, hN⟩; obtain ⟨a5, sa5, sc5, ia5, ic5⟩ := r'; have he5 := hN.eq; simp only [hB_tr] at he5 ⊢; subst he5; unfold encA)
  have HH5 := Lib.hid hN.has
  have HEN5 : Hid (encA ⟨hC, sa5, sc5, ia5, ic5⟩ = .agg #[.slice sa5 hC.sl.length sc5, .slice ia5 hC.id.length ic5, .int .i64 hC.nx]) := rfl
  have hu5a := hN.upd
  clear hN HK5
  generalize hC.sl.length = n5 at HEN5 ⊢
  generalize hC.id.length = m5 at HEN5 ⊢
  generalize hC.nx = x5 at HEN5 ⊢
  have hb5 := heap_alloc1 w5 (.cells #[.slice sa5 n5 sc5, .slice ia5 m5 ic5, .int .i64 x5] 25)
  have hu5b := (Upd.refl [] w5).alloc (.cells #[.slice sa5 n5 sc5, .slice ia5 m5 ic5, .int .i64 x5] 25)
  have hu5 := hu5a.trans hu5b (by simp)
  have HH5 := Lib.hid (HH5.out.stay hu5b)
  generalize w5.alloc (.cells #[.slice sa5 n5 sc5, .slice ia5 m5 ic5, .int .i64 x5] 25) = W5 at hb5 hu5 HH5 ⊢
  generalize w5.heap.size = P5 at hb5 ⊢
  have HB5 := Lib.hid hb5
  have HB1 := Lib.hid (hu5.at HB1.out (by simp))
  have HH1 := Lib.hid (HH1.out.stay hu5)
  have HB2 := Lib.hid (hu5.at HB2.out (by simp))
  have HH2 := Lib.hid (HH2.out.stay hu5)
  have HB3 := Lib.hid (hu5.at HB3.out (by simp))
  have HH3 := Lib.hid (HH3.out.stay hu5)
  have HB4 := Lib.hid (hu5.at HB4.out (by simp))
  clear l0 l1 l2
  have HU5 : Hid (Upd [] W0 W5) := HU4.out.trans hu5 (by simp)
  clear hb5 hu5 hu5a hu5b
  obtain ⟨l0, l1, l2⟩ := cells3 HB5.out
  have HK6 := Lib.hid (HTR.out ⟨hC, sa5, sc5, ia5, ic5⟩ 0 1 3 W5 HH5.out hC_good)
  rw [HEN5.out] at HK6
  go_upto_region 7 with (go_at_call 19; refine (HK6.out).mono ?_; rintro e w6 ⟨r', rfl, hN⟩; obtain ⟨a6, sa6, sc6, ia6, ic6⟩ := r'; have he6 := hN.eq; simp only [hC_tr] at he6 ⊢; subst he6; unfold encA)
  have HH6 := Lib.hid hN.has
  have HEN6 : Hid (encA ⟨hC, sa6, sc6, ia6, ic6⟩ = .agg #[.slice sa6 hC.sl.length sc6, .slice ia6 hC.id.length ic6, .int .i64 hC.nx]) := rfl
  have hu6a := hN.upd
  clear hN HK6
  generalize hC.sl.length = n6 at HEN6 ⊢
  generalize hC.id.length = m6 at HEN6 ⊢
  generalize hC.nx = x6 at HEN6 ⊢
  have hb6 := heap_alloc1 w6 (.cells #[.slice sa6 n6 sc6, .slice ia6 m6 ic6, .int .i64 x6] 25)
  have hu6b := (Upd.refl [] w6).alloc (.cells #[.slice sa6 n6 sc6, .slice ia6 m6 ic6, .int .i64 x6] 25)
  have hu6 := hu6a.trans hu6b (by simp)
  have HH6 := Lib.hid (HH6.out.stay hu6b)
  generalize w6.alloc (.cells #[.slice sa6 n6 sc6, .slice ia6 m6 ic6, .int .i64 x6] 25) = W6 at hb6 hu6 HH6 ⊢
  generalize w6.heap.size = P6 at hb6 ⊢
  have HB6 := Lib.hid hb6
  have HB1 := Lib.hid (hu6.at HB1.out (by simp))
  have HH1 := Lib.hid (HH1.out.stay hu6)
  have HB2 := Lib.hid (hu6.at HB2.out (by simp))
  have HH2 := Lib.hid (HH2.out.stay hu6)
  have HB3 := Lib.hid (hu6.at HB3.out (by simp))
  have HH3 := Lib.hid (HH3.out.stay hu6)
  have HB4 := Lib.hid (hu6.at HB4.out (by simp))
  have HB5 := Lib.hid (hu6.at HB5.out (by simp))
  have HH5 := Lib.hid (HH5.out.stay hu6)
  clear l0 l1 l2
  have HU6 : Hid (Upd [] W0 W6) := HU5.out.trans hu6 (by simp)
  clear hb6 hu6 hu6a hu6b
  obtain ⟨l0, l1, l2⟩ := cells3 HB5.out
  have HK7 := Lib.hid (HRE.out ⟨hC, sa5, sc5, ia5, ic5⟩ 0 W6 HH5.out hC_good)
  rw [HEN5.out] at HK7
  go_upto_region 8 with (go_at_call 21; refine (HK7.out).mono ?_; rintro e w7 ⟨r', rfl, hN⟩; obtain ⟨a7, sa7, sc7, ia7, ic7⟩ := r'; have he7 := hN.eq; simp only [hC_re] at he7 ⊢; subst he7; unfold encA)
  have HH7 := Lib.hid hN.has
  have HEN7 : Hid (encA ⟨hD, sa7, sc7, ia7, ic7⟩ = .agg #[.slice sa7 hD.sl.length sc7, .slice ia7 hD.id.length ic7, .int .i64 hD.nx]) := rfl
  have hu7a := hN.upd
  clear hN HK7
  generalize hD.sl.length = n7 at HEN7 ⊢
  generalize hD.id.length = m7 at HEN7 ⊢
  generalize hD.nx = x7 at HEN7 ⊢
  have hb7 := heap_alloc1 w7 (.cells #[.slice sa7 n7 sc7, .slice ia7 m7 ic7, .int .i64 x7] 25)
  have hu7b := (Upd.refl [] w7).alloc (.cells #[.slice sa7 n7 sc7, .slice ia7 m7 ic7, .int .i64 x7] 25)
  have hu7 := hu7a.trans hu7b (by simp)
  have HH7 := Lib.hid (HH7.out.stay hu7b)
  generalize w7.alloc (.cells #[.slice sa7 n7 sc7, .slice ia7 m7 ic7, .int .i64 x7] 25) = W7 at hb7 hu7 HH7 ⊢
  generalize w7.heap.size = P7 at hb7 ⊢
  have HB7 := Lib.hid hb7
  have HB1 := Lib.hid (hu7.at HB1.out (by simp))
  have HH1 := Lib.hid (HH1.out.stay hu7)
  have HB2 := Lib.hid (hu7.at HB2.out (by simp))
  have HH2 := Lib.hid (HH2.out.stay hu7)
  have HB3 := Lib.hid (hu7.at HB3.out (by simp))
  have HH3 := Lib.hid (HH3.out.stay hu7)
  have HB4 := Lib.hid (hu7.at HB4.out (by simp))
  have HB5 := Lib.hid (hu7.at HB5.out (by simp))
  have HH5 := Lib.hid (HH5.out.stay hu7)
  have HB6 := Lib.hid (hu7.at HB6.out (by simp))
  have HH6 := Lib.hid (HH6.out.stay hu7)
  clear l0 l1 l2
  have HU7 : Hid (Upd [] W0 W7) := HU6.out.trans hu7 (by simp)
  clear hb7 hu7 hu7a hu7b
  obtain ⟨l0, l1, l2⟩ := cells3 HB7.out
  have HK8 := Lib.hid (HLO.out ⟨hD, sa7, sc7, ia7, ic7⟩ 0 W7 HH7.out hD_good)
  rw [HEN7.out] at HK8
  go_upto_region 9 with (go_at_call 23; refine (HK8.out).mono ?_; rintro e w8 ⟨rfl, hu8a⟩; simp only [hD_lo, aggS])
  have hb8 := heap_alloc1 w8 (.cells #[.int .i64 0, .int .i64 0, .int .i64 0, .int .i64 0] 44)
  have hu8 := hu8a.trans ((Upd.refl [] w8).alloc (.cells #[.int .i64 0, .int .i64 0, .int .i64 0, .int .i64 0] 44)) (by simp)
  generalize w8.alloc (.cells #[.int .i64 0, .int .i64 0, .int .i64 0, .int .i64 0] 44) = W8 at hb8 hu8 ⊢
  generalize w8.heap.size = P8 at hb8 ⊢
  have HB8 := Lib.hid hb8
  have HB1 := Lib.hid (hu8.at HB1.out (by simp))
  have HH1 := Lib.hid (HH1.out.stay hu8)
  have HB2 := Lib.hid (hu8.at HB2.out (by simp))
  have HH2 := Lib.hid (HH2.out.stay hu8)
  have HB3 := Lib.hid (hu8.at HB3.out (by simp))
  have HH3 := Lib.hid (HH3.out.stay hu8)
  have HB4 := Lib.hid (hu8.at HB4.out (by simp))
  have HB5 := Lib.hid (hu8.at HB5.out (by simp))
  have HH5 := Lib.hid (HH5.out.stay hu8)
  have HB6 := Lib.hid (hu8.at HB6.out (by simp))
  have HH6 := Lib.hid (HH6.out.stay hu8)
  have HB7 := Lib.hid (hu8.at HB7.out (by simp))
  have HH7 := Lib.hid (HH7.out.stay hu8)
  have HU8 : Hid (Upd [] W0 W8) := HU7.out.trans hu8 (by simp)
  clear hb8 hu8 hu8a l0 l1 l2 HK8
  obtain ⟨l0, l1, l2⟩ := cells3 HB7.out
  have HK9 := Lib.hid (HAL.out ⟨hD, sa7, sc7, ia7, ic7⟩ 9 W8 HH7.out hD_good)
  rw [HEN7.out] at HK9
  go_upto_region 10 with (go_at_call 17; refine (HK9.out).mono ?_; rintro e w9 ⟨r', rfl, hN⟩; obtain ⟨a9, sa9, sc9, ia9, ic9⟩ := r'; have he9 := hN.eq; simp only [hD_al] at he9 ⊢; subst he9; unfold encA)
  have HH9 := Lib.hid hN.has
  have HEN9 : Hid (encA ⟨hE, sa9, sc9, ia9, ic9⟩ = .agg #[.slice sa9 hE.sl.length sc9, .slice ia9 hE.id.length ic9, .int .i64 hE.nx]) := rfl
  have hu9a := hN.upd
  clear hN HK9
  generalize hE.sl.length = n9 at HEN9 ⊢
  generalize hE.id.length = m9 at HEN9 ⊢
  generalize hE.nx = x9 at HEN9 ⊢
  have hb9 := heap_alloc1 w9 (.cells #[.slice sa9 n9 sc9, .slice ia9 m9 ic9, .int .i64 x9] 25)
  have hu9b := (Upd.refl [] w9).alloc (.cells #[.slice sa9 n9 sc9, .slice ia9 m9 ic9, .int .i64 x9] 25)
  have hu9 := hu9a.trans hu9b (by simp)
  have HH9 := Lib.hid (HH9.out.stay hu9b)
  generalize w9.alloc (.cells #[.slice sa9 n9 sc9, .slice ia9 m9 ic9, .int .i64 x9] 25) = W9 at hb9 hu9 HH9 ⊢
  generalize w9.heap.size = P9 at hb9 ⊢
  have HB9 := Lib.hid hb9
  have HB1 := Lib.hid (hu9.at HB1.out (by simp))
  have HH1 := Lib.hid (HH1.out.stay hu9)
  have HB2 := Lib.hid (hu9.at HB2.out (by simp))
  have HH2 := Lib.hid (HH2.out.stay hu9)
  have HB3 := Lib.hid (hu9.at HB3.out (by simp))
  have HH3 := Lib.hid (HH3.out.stay hu9)
  have HB4 := Lib.hid (hu9.at HB4.out (by simp))
  have HB5 := Lib.hid (hu9.at HB5.out (by simp))
  have HH5 := Lib.hid (HH5.out.stay hu9)
  have HB6 := Lib.hid (hu9.at HB6.out (by simp))
  have HH6 := Lib.hid (HH6.out.stay hu9)
  have HB7 := Lib.hid (hu9.at HB7.out (by simp))
  have HH7 := Lib.hid (HH7.out.stay hu9)
  have HB8 := Lib.hid (hu9.at HB8.out (by simp))
  clear l0 l1 l2
  have HU9 : Hid (Upd [] W0 W9) := HU8.out.trans hu9 (by simp)
  clear hb9 hu9 hu9a hu9b
  have HK10 := Lib.hid (HN2.out W9)
  go_upto_region 11 with (go_at_call 10; refine (HK10.out).mono ?_; rintro e w10 ⟨r', rfl, hN⟩; obtain ⟨a10, sa10, sc10, ia10, ic10⟩ := r'; have he10 := hN.eq; simp only at he10 ⊢; subst he10; unfold encA)
  have HH10 := Lib.hid hN.has
  have HEN10 : Hid (encA ⟨hZ, sa10, sc10, ia10, ic10⟩ = .agg #[.slice sa10 hZ.sl.length sc10, .slice ia10 hZ.id.length ic10, .int .i64 hZ.nx]) := rfl
  have hu10a := hN.upd
  clear hN HK10
  generalize hZ.sl.length = n10 at HEN10 ⊢
  generalize hZ.id.length = m10 at HEN10 ⊢
  generalize hZ.nx = x10 at HEN10 ⊢
  have hb10 := heap_alloc1 w10 (.cells #[.slice sa10 n10 sc10, .slice ia10 m10 ic10, .int .i64 x10] 25)
  have hu10b := (Upd.refl [] w10).alloc (.cells #[.slice sa10 n10 sc10, .slice ia10 m10 ic10, .int .i64 x10] 25)
  have hu10 := hu10a.trans hu10b (by simp)
  have HH10 := Lib.hid (HH10.out.stay hu10b)
  generalize w10.alloc (.cells #[.slice sa10 n10 sc10, .slice ia10 m10 ic10, .int .i64 x10] 25) = W10 at hb10 hu10 HH10 ⊢
  generalize w10.heap.size = P10 at hb10 ⊢
  have HB10 := Lib.hid hb10
  have HB1 := Lib.hid (hu10.at HB1.out (by simp))
  have HH1 := Lib.hid (HH1.out.stay hu10)
  have HB2 := Lib.hid (hu10.at HB2.out (by simp))
  have HH2 := Lib.hid (HH2.out.stay hu10)
  have HB3 := Lib.hid (hu10.at HB3.out (by simp))
  have HH3 := Lib.hid (HH3.out.stay hu10)
  have HB4 := Lib.hid (hu10.at HB4.out (by simp))
  have HB5 := Lib.hid (hu10.at HB5.out (by simp))
  have HH5 := Lib.hid (HH5.out.stay hu10)
  have HB6 := Lib.hid (hu10.at HB6.out (by simp))
  have HH6 := Lib.hid (HH6.out.stay hu10)
  have HB7 := Lib.hid (hu10.at HB7.out (by simp))
  have HH7 := Lib.hid (HH7.out.stay hu10)
  have HB8 := Lib.hid (hu10.at HB8.out (by simp))
  have HB9 := Lib.hid (hu10.at HB9.out (by simp))
  have HH9 := Lib.hid (HH9.out.stay hu10)
  have HU10 : Hid (Upd [] W0 W10) := HU9.out.trans hu10 (by simp)
  clear hb10 hu10 hu10a hu10b
  obtain ⟨l0, l1, l2⟩ := cells3 HB2.out
  obtain ⟨s0, s1, s2, s3⟩ := cells4 HB4.out
  have hgs := HGS.out
  have heq := HEQ.out
  have HK11 := Lib.hid (HLI.out ⟨hB, sa2, sc2, ia2, ic2⟩ W10 HH2.out hB_good)
  rw [HEN2.out] at HK11
  go_wp2_with fail
  refine HK11.out.mono ?_
  rintro e w11 ⟨rfl, hu11⟩
  simp only [hB_live]
  have HH7 := Lib.hid (HH7.out.stay hu11)
  obtain ⟨j0, j1, j2⟩ := cells3 (hu11.at HB7.out (by simp))
  have HU11 : Hid (Upd [] W0 w11) := HU10.out.trans hu11 (by simp)
  have HK12 := Lib.hid (HVA.out ⟨hD, sa7, sc7, ia7, ic7⟩ w11 HH7.out hD_l1 hD_l2)
  rw [HEN7.out] at HK12
  clear l0 l1 l2 hu11
  go_wp2_with fail
  refine HK12.out.mono ?_
  rintro e w12 ⟨rfl, hu12⟩
  simp only [hD_valid]
  go_wp2_with fail
  refine (HZ.out w12).mono ?_
  rintro e w13 ⟨rfl, hu13⟩
  simp only [hZ_valid]
  go_wp2_with fail
  go_ret
  exact ⟨rfl, (HU11.out.trans hu12 (by simp)).trans hu13 (by simp)⟩
end Go.Proofs.Ythpofcomlidoiaa
