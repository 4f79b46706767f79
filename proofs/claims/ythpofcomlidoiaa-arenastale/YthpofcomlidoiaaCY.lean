/- ArenaIssued: the walk. -/
import Derived.Test.YthpofcomlidoiaaCX
namespace Go.Proofs.Ythpofcomlidoiaa
open Go.RowKit Go.Lib

theorem look_new {a : Ar} (h : Good a) (t : Int) (hr : Room a) : lookA (takeA a t) (takeH a) = (⟨(slAt a.sl (lastI a)).g, 1, t, a.nx⟩, true) := by
  obtain ⟨hi, h0, _⟩ := h.last hr.1
  obtain ⟨t1, t2, t3⟩ := takeH_hnd h hr
  have hs : slAt (takeA a t).sl (hS (takeH a)) = ⟨(slAt a.sl (lastI a)).g, 1, t, a.nx⟩ := by rw [t2]; simp only [takeA]; rw [slAt_set hi, if_pos rfl]
  have hrf : Refers (takeA a t) (takeH a) := ⟨t1, by rw [t2]; simpa [takeA] using hi, by rw [hs, t3], by rw [hs]; simp⟩
  rw [lookA, if_pos hrf, hs]
theorem look_old {a : Ar} (h : Good a) {is : List Int} (hi : Iss a is) {t : Int} (hr : Room a) {x : Int} (hx : x ∈ is) : lookA (takeA a t) x = lookA a x ∧ ((lookA a x).2 = true → (lookA a x).1.q < a.nx) := by
  obtain ⟨hl, h0, _⟩ := h.last hr.1
  obtain ⟨k1, k2, k3, k4⟩ := hi x hx
  constructor
  · by_cases hk : hS x = lastI a
    · have h1 : ¬ Refers a x := fun r => r.2.2.2 (by rw [hk]; exact h0)
      have h2 : ¬ Refers (takeA a t) x := fun r => by
        have h3 := r.2.2.1
        simp only [takeA] at h3
        rw [slAt_set hl, if_pos hk] at h3
        have h4 := k4 (by rw [hk]; exact h0)
        rw [hk] at h4
        simp only at h3
        omega
      rw [lookA, lookA, if_neg h1, if_neg h2]
    · have hs : slAt (takeA a t).sl (hS x) = slAt a.sl (hS x) := by simp only [takeA]; rw [slAt_set hl, if_neg hk]
      have hrf : Refers (takeA a t) x ↔ Refers a x := by
        unfold Refers
        rw [hs]
        simp [takeA]
      by_cases hr2 : Refers a x
      · rw [lookA, lookA, if_pos hr2, if_pos (hrf.2 hr2), hs]
      · rw [lookA, lookA, if_neg hr2, if_neg (fun q => hr2 (hrf.1 q))]
  · intro ht
    by_cases hr2 : Refers a x
    · rw [lookA, if_pos hr2]
      exact ((h.ok _ k2).2.2 hr2.2.2.2).2.2.2
    · rw [lookA, if_neg hr2] at ht; simp at ht
/-- The box P holds the slot s, which a call gave. -/
structure SBox (w : World) (s : Sl) (P : Nat) (wx : World) : Prop where
  blk : wx.heap[P]? = some (.cells #[.int .i64 s.g, .int .i64 s.s, .int .i64 s.t, .int .i64 s.q] 44 (0, 0))
  upd : Upd [] w wx
theorem sbox_last {w w4 : World} (s : Sl) (h : Upd [] w w4) : SBox w s w4.heap.size (w4.alloc (.cells #[.int .i64 s.g, .int .i64 s.s, .int .i64 s.t, .int .i64 s.q] 44)) :=
  ⟨heap_alloc1 _ _, h.trans ((Upd.refl [] _).alloc _) (by simp)⟩
theorem sbox_first {w w4 : World} {x y z p : Value} (s : Sl) (h : Upd [] (w.alloc (.cells #[x, y, z, p] 44)) w4) :
    SBox w s w.heap.size ((((w4.setCell ⟨w.heap.size, 0, none⟩ (.int .i64 s.g)).setCell ⟨w.heap.size, 1, none⟩ (.int .i64 s.s)).setCell ⟨w.heap.size, 2, none⟩ (.int .i64 s.t)).setCell ⟨w.heap.size, 3, none⟩ (.int .i64 s.q)) :=
  ⟨stored4 (h.at (heap_alloc1 w _) (by simp)) _ _ _ _, (((Upd.refl [] w).alloc _).trans h (by simp)).trans (upd_sets4 w4 w.heap.size _ _ _ _) (fun x hx hl => by simp at hx; omega)⟩

set_option maxRecDepth 100000 in
set_option maxHeartbeats 8000000 in
theorem Issued_any (A : ArenaOk) (c : Int) (la : Option Addr) (lc : Nat) (os : List Oz) (tm : Int) (W : World) (hc : 0 ≤ c ∧ c < 256) (hlm : os.length ≤ maxLen) (htm : 0 ≤ tm ∧ tm < 4294967296) (hos : Ozs W la os) :
    Calls Try.prog 7 #[.int .u8 c, .slice la os.length lc, .int .u32 tm] W fun e w' => e = .returned (.bool true) ∧ Upd [] W w' := by
  have HMD := Lib.hid (fun W' (hu : Upd [] W W') => Made_has c la lc os W' hc (hos.stay hu) hlm)
  have HHD := Lib.hid (head_any A)
  obtain ⟨n0, k0, hk0, hre⟩ := made_reach c os
  generalize madeL c os = p at *
  have hisl := hre.isl
  have HGD := Lib.hid hre.good
  have HIO := Lib.hid hre.iss
  have hnx0 := hre.good.nx0
  have hnx1 : p.1.nx ≤ 200 := by have := hre.nx; omega
  have HTM : Hid (TimeOk tm) := ⟨htm.1, by omega⟩
  have HAA := Lib.hid A
  have hwt : IntKind.i64.wrap tm = tm := by rw [IntKind.wrap_i64]; omega
  generalize os.length = L at HMD ⊢
  clear hre hos hlm hc htm
  go_enter Try.func7, Try.ntmps7
  go_upto_region 2 with (go_at_call 8; refine (HHD.out W).mono ?_; rintro e W0 ⟨rfl, hu⟩)
  have HUb : Hid (Upd [] W W0) := hu
  have HU0 : Hid (Upd [] W0 W0) := Upd.refl _ _
  clear hu
  have HK1 := Lib.hid (HMD.out W0 HUb.out)
  go_upto_region 3 with (go_at_call 15; refine (HK1.out).mono ?_; rintro e w1 ⟨r', ad, cap, rfl, hN⟩; obtain ⟨a1, sa1, sc1, ia1, ic1⟩ := r'; unfold encA)
  have HH1 := Lib.hid hN.has
  have HQ1 := Lib.hid hN.eq
  have hIS := hN.his
  have HEN1 : Hid (encA ⟨a1, sa1, sc1, ia1, ic1⟩ = .agg #[.slice sa1 a1.sl.length sc1, .slice ia1 a1.id.length ic1, .int .i64 a1.nx]) := rfl
  have hu1a := hN.upd
  clear hN HK1
  simp only at HQ1 ⊢
  generalize a1.sl.length = n1 at HEN1 ⊢
  generalize a1.id.length = m1 at HEN1 ⊢
  generalize a1.nx = x1 at HEN1 ⊢
  have hb1 := heap_alloc1 w1 (.cells #[.slice sa1 n1 sc1, .slice ia1 m1 ic1, .int .i64 x1] 25)
  have hu1b := (Upd.refl [] w1).alloc (.cells #[.slice sa1 n1 sc1, .slice ia1 m1 ic1, .int .i64 x1] 25)
  have hu1 := hu1a.trans hu1b (by simp)
  have HH1 := Lib.hid (HH1.out.stay hu1b)
  generalize w1.alloc (.cells #[.slice sa1 n1 sc1, .slice ia1 m1 ic1, .int .i64 x1] 25) = W1 at hb1 hu1 hu1b HH1 ⊢
  generalize w1.heap.size = P1 at hb1 ⊢
  have HB1 := Lib.hid hb1
  have HU1 : Hid (Upd [] W0 W1) := HU0.out.trans hu1 (by simp)
  clear hb1 hu1 hu1a 
  have HIS := Lib.hid (hIS.stay hu1b)
  clear hIS hu1b
  have HGA : Hid (Good a1) := by show Good a1; rw [HQ1.out]; exact HGD.out
  have HIA : Hid (Iss a1 p.2) := by show Iss a1 p.2; rw [HQ1.out]; exact HIO.out
  rw [← HQ1.out] at hnx0 hnx1
  have HX1 : Hid (x1 = a1.nx) := by
    have h := HEN1.out
    simp only [encA, Value.agg.injEq, Array.mk.injEq, List.cons.injEq, Value.int.injEq] at h
    exact h.2.2.1.2.symm
  rw [← HX1.out] at hnx0 hnx1
  obtain ⟨l10, l11, l12⟩ := cells3 HB1.out
  have HK2 := Lib.hid (HAA.out.alloc ⟨a1, sa1, sc1, ia1, ic1⟩ tm W1 HH1.out HGA.out)
  rw [HEN1.out] at HK2
  go_upto_region 4 with (go_at_call 17; refine (HK2.out).mono ?_; rintro e w2 ⟨r', rfl, hN⟩; obtain ⟨a2, sa2, sc2, ia2, ic2⟩ := r'; unfold encA)
  have HH2 := Lib.hid hN.has
  have HQ2 := Lib.hid hN.eq
  have HEN2 : Hid (encA ⟨a2, sa2, sc2, ia2, ic2⟩ = .agg #[.slice sa2 a2.sl.length sc2, .slice ia2 a2.id.length ic2, .int .i64 a2.nx]) := rfl
  have hu2a := hN.upd
  clear hN HK2
  simp only at HQ2 ⊢
  obtain ⟨q2, hq2⟩ : ∃ q, q = allocA a1 tm := ⟨_, rfl⟩
  rw [← hq2] at HQ2 ⊢
  have HR2 := Lib.hid hq2
  clear hq2
  generalize a2.sl.length = n2 at HEN2 ⊢
  generalize a2.id.length = m2 at HEN2 ⊢
  generalize a2.nx = x2 at HEN2 ⊢
  have hb2 := heap_alloc1 w2 (.cells #[.slice sa2 n2 sc2, .slice ia2 m2 ic2, .int .i64 x2] 25)
  have hu2b := (Upd.refl [] w2).alloc (.cells #[.slice sa2 n2 sc2, .slice ia2 m2 ic2, .int .i64 x2] 25)
  have hu2 := hu2a.trans hu2b (by simp)
  have HH2 := Lib.hid (HH2.out.stay hu2b)
  generalize w2.alloc (.cells #[.slice sa2 n2 sc2, .slice ia2 m2 ic2, .int .i64 x2] 25) = W2 at hb2 hu2 hu2b HH2 ⊢
  generalize w2.heap.size = P2 at hb2 ⊢
  have HB2 := Lib.hid hb2
  have HB1 := Lib.hid (hu2.at HB1.out (by simp))
  have HH1 := Lib.hid (HH1.out.stay hu2)
  have HU2 : Hid (Upd [] W0 W2) := HU1.out.trans hu2 (by simp)
  have hu2 := hu2a.trans hu2b (by simp)
  clear hb2 hu2a hu2b l10 l11 l12
  have HIS := Lib.hid (HIS.out.stay hu2)
  clear hu2
  have HX2 : Hid (x2 = a2.nx) := by
    have h := HEN2.out
    simp only [encA, Value.agg.injEq, Array.mk.injEq, List.cons.injEq, Value.int.injEq] at h
    exact h.2.2.1.2.symm
  by_cases hroom : Room a1
  · have hal := allocA_ok HTM.out hroom
    have HRO := Lib.hid hroom
    have hqq : q2 = (takeA a1 tm, takeH a1, 0) := by rw [HR2.out, hal]
    have HE2 : Hid (a2 = takeA a1 tm) := by show a2 = _; rw [HQ2.out, hqq]
    rw [hqq]
    simp only
    clear hroom hal hqq HQ2 HR2
    have HG2 : Hid (Good a2) := by show Good a2; rw [HE2.out]; exact HGA.out.take HTM.out HRO.out
    have hx2 : x2 = x1 + 1 := by rw [HX2.out, HE2.out, HX1.out]; rfl
    subst hx2
    have HLK : Hid (lookA a2 (takeH a1) = (⟨(slAt a1.sl (lastI a1)).g, 1, tm, x1⟩, true)) := by
      show _ = _
      rw [HE2.out, HX1.out]; exact look_new HGA.out tm HRO.out
    have HOLD : Hid (∀ x ∈ p.2, lookA a2 x = lookA a1 x ∧ ((lookA a1 x).2 = true → (lookA a1 x).1.q < x1)) := fun x hx => by
      have h := look_old HGA.out HIA.out (t := tm) HRO.out hx
      rw [HE2.out, HX1.out]; exact h
    generalize (slAt a1.sl (lastI a1)).g = gg at HLK
    generalize takeH a1 = hh at HLK ⊢
    obtain ⟨l20, l21, l22⟩ := cells3 HB2.out
    have HK3 := Lib.hid (HAA.out.look ⟨a2, sa2, sc2, ia2, ic2⟩ hh W2 HH2.out HG2.out)
    rw [HEN2.out] at HK3
    go_upto_region 7 with (go_at_call 23; refine (HK3.out).mono ?_; rintro e w3 ⟨rfl, hu3a⟩; simp only [HLK.out, aggS])
    have hsb := sbox_last ⟨gg, 1, tm, x1⟩ hu3a
    simp only at hsb
    generalize w3.alloc (.cells #[.int .i64 gg, .int .i64 1, .int .i64 tm, .int .i64 x1] 44) = W3 at hsb ⊢
    generalize w3.heap.size = P3 at hsb ⊢
    have HB3 := Lib.hid hsb.blk
    have hu3 := hsb.upd
    have HB1 := Lib.hid (hu3.at HB1.out (by simp)); have HB2 := Lib.hid (hu3.at HB2.out (by simp)); have HH1 := Lib.hid (HH1.out.stay hu3); have HH2 := Lib.hid (HH2.out.stay hu3); have HIS := Lib.hid (HIS.out.stay hu3)
    have HU3 : Hid (Upd [] W0 W3) := HU2.out.trans hu3 (by simp)
    clear l20 l21 l22 hsb hu3 hu3a HK3
    obtain ⟨c10, c11, c12⟩ := cells3 HB1.out
    obtain ⟨c20, c21, c22⟩ := cells3 HB2.out
    obtain ⟨s0, s1, s2, s3⟩ := cells4 HB3.out
    have hwn : IntKind.i64.wrap (x1 + 1) = x1 + 1 := by rw [IntKind.wrap_i64]; omega
    generalize hm : p.2.length = m at *
    have HMM := Lib.hid hm
    clear hm
    go_wp2_with fail
    go_loopg [15] m (fun gk vi wr => ∃ k : Nat, vi = .int .i64 k ∧ k + gk = m ∧ Hid (Upd [] W3 wr))
    case atStart => exact ⟨0, rfl, by omega, Lib.hid (Upd.refl _ _)⟩
    case round =>
      obtain ⟨k, rfl, hkg, HUR⟩ := hrel
      by_cases hlt : k < m
      · have hltz : (k : Int) < (m : Int) := by omega
        have hk1 : k < p.2.length := by have := HMM.out; omega
        obtain ⟨hb1, hb2⟩ := HOLD.out p.2[k] (List.getElem_mem hk1)
        obtain ⟨bb, oo, hba, k0'⟩ := (HIS.out.stay HUR.out).ints k hk1
        subst hba
        generalize p.2[k] = x at *
        obtain ⟨lk, hlk⟩ : ∃ q, q = lookA a1 x := ⟨_, rfl⟩
        rw [← hlk] at hb1 hb2
        have HC1 : Hid (∀ W', Upd [] wr W' → Calls Try.prog 23 #[.agg #[.slice sa1 n1 sc1, .slice ia1 m1 ic1, .int .i64 x1], .int .i64 x] W' fun e w' => e = .returned (.tuple #[.agg #[.int .i64 lk.1.g, .int .i64 lk.1.s, .int .i64 lk.1.t, .int .i64 lk.1.q], .bool lk.2]) ∧ Upd [] W' w') := fun W' hu => by
          have h1 := HAA.out.look ⟨a1, sa1, sc1, ia1, ic1⟩ x W' ((HH1.out.stay HUR.out).stay hu) HGA.out
          rw [HEN1.out] at h1
          refine h1.mono ?_
          rintro e w' ⟨he, hu'⟩
          simp only [← hlk, aggS] at he
          exact ⟨he, hu'⟩
        have HC2 : Hid (∀ W', Upd [] wr W' → Calls Try.prog 23 #[.agg #[.slice sa2 n2 sc2, .slice ia2 m2 ic2, .int .i64 (x1 + 1)], .int .i64 x] W' fun e w' => e = .returned (.tuple #[.agg #[.int .i64 lk.1.g, .int .i64 lk.1.s, .int .i64 lk.1.t, .int .i64 lk.1.q], .bool lk.2]) ∧ Upd [] W' w') := fun W' hu => by
          have h1 := HAA.out.look ⟨a2, sa2, sc2, ia2, ic2⟩ x W' ((HH2.out.stay HUR.out).stay hu) HG2.out
          rw [HEN2.out] at h1
          refine h1.mono ?_
          rintro e w' ⟨he, hu'⟩
          simp only [hb1, aggS] at he
          exact ⟨he, hu'⟩
        obtain ⟨sl, bl⟩ := lk
        simp only at hb2 HC1 HC2
        have HSEQ := Lib.hid hb2
        clear hb1 hb2 hlk
        have r10 := HUR.out.cell c10 (by simp); have r11 := HUR.out.cell c11 (by simp); have r12 := HUR.out.cell c12 (by simp)
        have r20 := HUR.out.cell c20 (by simp); have r21 := HUR.out.cell c21 (by simp); have r22 := HUR.out.cell c22 (by simp)
        go_upto_region 12 with (fail)
        go_cut [16, 17] (fun v16 v17 wx => ∃ P, v16 = .pointer (some ⟨P, 0, none⟩) ∧ v17 = .bool bl ∧ Hid (SBox wr sl P wx))
        case first =>
          have HKP : Hid (∀ W', Upd [] wr W' → W'.cell? ⟨P1, 0, none⟩ = some (.slice sa1 n1 sc1) ∧ W'.cell? ⟨P1, 1, none⟩ = some (.slice ia1 m1 ic1) ∧ W'.cell? ⟨P1, 2, none⟩ = some (.int .i64 x1) ∧ W'.cell? ⟨bb, oo + k, none⟩ = some (.int .i64 x)) := fun W' hu => ⟨hu.cell r10 (by simp), hu.cell r11 (by simp), hu.cell r12 (by simp), hu.cell k0' (by simp)⟩
          go_region_held3 (fun wz => wz.cell? ⟨P1, 0, none⟩ = some (.slice sa1 n1 sc1) ∧ wz.cell? ⟨P1, 1, none⟩ = some (.slice ia1 m1 ic1) ∧ wz.cell? ⟨P1, 2, none⟩ = some (.int .i64 x1) ∧ wz.cell? ⟨bb, oo + k, none⟩ = some (.int .i64 x)) (first | exact ⟨r10, r11, r12, k0'⟩ | (refine HKP.out _ ?_; (repeat (first | exact Upd.refl [] _ | refine Upd.setCell ?_ (fun hl => absurd hl (Nat.lt_irrefl _)) _ | refine Upd.drew ?_ | refine Upd.alloc ?_ _ | refine Upd.trans (T := []) ?_ (by assumption) (by simp))))) (first
            | (go_at_call 23; (with_reducible refine (HC1.out _ ?_).mono ?_); (repeat (first | exact Upd.refl [] _ | refine Upd.drew ?_ | refine Upd.alloc ?_ _ | refine Upd.trans (T := []) ?_ (by assumption) (by simp))); rintro e w' ⟨rfl, hu⟩; try (have pb := hu.at (heap_alloc1 wr (.cells #[.int .i64 0, .int .i64 0, .int .i64 0, .int .i64 0] 44)) (by simp); obtain ⟨z0, z1, z2, z3⟩ := cells4 pb; obtain ⟨y0, y1, y2, y3⟩ := free4 pb; clear pb)))
          all_goals go_wp2_with fail
          all_goals go_meet
          all_goals case rel =>
            first
              | (have hz0 := z0
                 refine ⟨wr.heap.size, rfl, rfl, ?_⟩
                 have hb := sbox_first (w := wr) (x := .int .i64 0) (y := .int .i64 0) (z := .int .i64 0) (p := .int .i64 0) sl (((Upd.refl [] (wr.alloc (.cells #[.int .i64 0, .int .i64 0, .int .i64 0, .int .i64 0] 44))).drew).trans hu (by simp))
                 exact hb)
              | (refine ⟨w'.heap.size, rfl, rfl, ?_⟩
                 have hb := sbox_last sl (((Upd.refl [] wr).drew).trans hu (by simp))
                 exact hb)
        case rest =>
        obtain ⟨PA, rfl, rfl, HSA⟩ := hcut
        have huA := HSA.out.upd
        have q20 := huA.cell r20 (by simp); have q21 := huA.cell r21 (by simp); have q22 := huA.cell r22 (by simp); have qk := huA.cell k0' (by simp)
        clear r10 r11 r12 r20 r21 r22 k0'
        go_upto_region 13 with (fail)
        go_cut [18, 19] (fun v18 v19 wx => ∃ P, v18 = .pointer (some ⟨P, 0, none⟩) ∧ v19 = .bool bl ∧ Hid (SBox wc sl P wx))
        case first =>
          have HC2' : Hid (∀ W', Upd [] wc W' → Calls Try.prog 23 #[.agg #[.slice sa2 n2 sc2, .slice ia2 m2 ic2, .int .i64 (x1 + 1)], .int .i64 x] W' fun e w' => e = .returned (.tuple #[.agg #[.int .i64 sl.g, .int .i64 sl.s, .int .i64 sl.t, .int .i64 sl.q], .bool bl]) ∧ Upd [] W' w') := fun W' hu => HC2.out W' (huA.trans hu (by simp))
          have HKP : Hid (∀ W', Upd [] wc W' → W'.cell? ⟨P2, 0, none⟩ = some (.slice sa2 n2 sc2) ∧ W'.cell? ⟨P2, 1, none⟩ = some (.slice ia2 m2 ic2) ∧ W'.cell? ⟨P2, 2, none⟩ = some (.int .i64 (x1 + 1)) ∧ W'.cell? ⟨bb, oo + k, none⟩ = some (.int .i64 x)) := fun W' hu => ⟨hu.cell q20 (by simp), hu.cell q21 (by simp), hu.cell q22 (by simp), hu.cell qk (by simp)⟩
          go_region_held3 (fun wz => wz.cell? ⟨P2, 0, none⟩ = some (.slice sa2 n2 sc2) ∧ wz.cell? ⟨P2, 1, none⟩ = some (.slice ia2 m2 ic2) ∧ wz.cell? ⟨P2, 2, none⟩ = some (.int .i64 (x1 + 1)) ∧ wz.cell? ⟨bb, oo + k, none⟩ = some (.int .i64 x)) (first | exact ⟨q20, q21, q22, qk⟩ | (refine HKP.out _ ?_; (repeat (first | exact Upd.refl [] _ | refine Upd.setCell ?_ (fun hl => absurd hl (Nat.lt_irrefl _)) _ | refine Upd.drew ?_ | refine Upd.alloc ?_ _ | refine Upd.trans (T := []) ?_ (by assumption) (by simp))))) (first
            | (go_at_call 23; (with_reducible refine (HC2'.out _ ?_).mono ?_); (repeat (first | exact Upd.refl [] _ | refine Upd.drew ?_ | refine Upd.alloc ?_ _ | refine Upd.trans (T := []) ?_ (by assumption) (by simp))); rintro e w' ⟨rfl, hu⟩; try (have pb := hu.at (heap_alloc1 wc (.cells #[.int .i64 0, .int .i64 0, .int .i64 0, .int .i64 0] 44)) (by simp); obtain ⟨z0, z1, z2, z3⟩ := cells4 pb; obtain ⟨y0, y1, y2, y3⟩ := free4 pb; clear pb)))
          all_goals go_wp2_with fail
          all_goals go_meet
          all_goals case rel =>
            first
              | (have hz0 := z0
                 refine ⟨wc.heap.size, rfl, rfl, ?_⟩
                 have hb := sbox_first (w := wc) (x := .int .i64 0) (y := .int .i64 0) (z := .int .i64 0) (p := .int .i64 0) sl (((Upd.refl [] (wc.alloc (.cells #[.int .i64 0, .int .i64 0, .int .i64 0, .int .i64 0] 44))).drew).trans hu (by simp))
                 exact hb)
              | (refine ⟨w'.heap.size, rfl, rfl, ?_⟩
                 have hb := sbox_last sl (((Upd.refl [] wc).drew).trans hu (by simp))
                 exact hb)
        case rest =>
        obtain ⟨PB, rfl, rfl, HSB⟩ := hcut
        clear q20 q21 q22 qk
        have huB := HSB.out.upd
        obtain ⟨a0, a1', a2', a3'⟩ := cells4 (huB.at HSA.out.blk (by simp))
        obtain ⟨b0, b1', b2', b3'⟩ := cells4 HSB.out.blk
        have t3 := huB.cell (huA.cell (HUR.out.cell s3 (by simp)) (by simp)) (by simp)
        have HUF : Hid (Upd [] W3 wc) := (HUR.out.trans huA (by simp)).trans huB (by simp)
        have hgs := guardSlot
        have hnq := neqSlot sl sl
        simp only [decide_true, Bool.not_true] at hnq
        clear huA huB HSA HSB HC1 HC2
        cases bl
        · go_wp2_with fail
          go_roundg (m - (k + 1))
          case measure => omega
          case rel => exact ⟨k + 1, by go_num, by omega, HUF⟩
        · have hsq : sl.q < x1 := HSEQ.out (by first | exact rfl | exact trivial)
          have hsd : decide (x1 ≤ sl.q) = false := by simp; omega
          go_wp2_with fail
          go_roundg (m - (k + 1))
          case measure => omega
          case rel => exact ⟨k + 1, by go_num, by omega, HUF⟩
      · have hltz : ¬ (k : Int) < (m : Int) := by omega
        go_wp2_with fail
        go_ret
        exact ⟨rfl, (HUb.out.trans HU3.out (by simp)).trans HUR.out (by simp)⟩
  · have hal := allocA_full HTM.out hroom
    have hqq : q2 = (a1, 0, 10) := by rw [HR2.out, hal]
    rw [hqq]
    simp only
    go_wp2_with fail
    go_ret
    exact ⟨rfl, HUb.out.trans HU2.out (by simp)⟩
end Go.Proofs.Ythpofcomlidoiaa
