/- ArenaCapacity: the walk. -/
import Derived.Test.YthpofcomlidoiaaCW
namespace Go.Proofs.Ythpofcomlidoiaa
open Go.RowKit Go.Lib

theorem live_take {a : Ar} (h : Good a) {t : Int} (ht : TimeOk t) (hr : Room a) : liveL (takeA a t).sl = liveL a.sl + 1 := by
  have h1 := (h.take ht hr).count
  have h2 := h.count
  have h3 : (takeA a t).id.length = a.id.length - 1 := by simp [takeA]
  have h4 : (takeA a t).sl.length = a.sl.length := by simp [takeA]
  have h5 : 0 < a.id.length := List.length_pos_iff.2 hr.1
  omega
theorem live_put {a : Ar} (h : Good a) {x : Int} (hf : Frees a x) : liveL (putA a x).sl + 1 = liveL a.sl := by
  have h1 := (h.put hf).count
  have h2 := h.count
  have h3 : (putA a x).id.length = a.id.length + 1 := by simp [putA]
  have h4 : (putA a x).sl.length = a.sl.length := by simp [putA]
  omega
/-- What Alloc says of the number of live slots, where there are sequence numbers enough. -/
theorem alloc_counts {a : Ar} (h : Good a) {t : Int} (ht : TimeOk t) (hx : a.nx < 1099511627776) :
    ((allocA a t).2.2 = 10 ∧ liveL a.sl = a.sl.length) ∨ ((allocA a t).2.2 = 0 ∧ liveL a.sl ≠ a.sl.length ∧ liveL (allocA a t).1.sl = liveL a.sl + 1) := by
  have h2 := h.count
  by_cases hn : a.id = []
  · left
    have hr : ¬ Room a := fun r => r.1 hn
    rw [allocA_full ht hr]
    rw [hn] at h2
    exact ⟨rfl, by simpa using h2⟩
  · right
    have hr : Room a := ⟨hn, hx⟩
    have h5 : 0 < a.id.length := List.length_pos_iff.2 hn
    rw [allocA_ok ht hr]
    exact ⟨rfl, by omega, live_take h ht hr⟩
theorem rel_counts {a : Ar} (h : Good a) {x : Int} (hf : (relA a x).2 = true) : liveL (relA a x).1.sl + 1 = liveL a.sl := by
  by_cases hk : Frees a x
  · rw [relA, if_pos hk]; exact live_put h hk
  · rw [relA, if_neg hk] at hf; simp at hf

set_option maxRecDepth 100000 in
set_option maxHeartbeats 8000000 in
theorem Capacity_any (A : ArenaOk) (c : Int) (la : Option Addr) (lc : Nat) (os : List Oz) (tm n : Int) (W : World) (hc : 0 ≤ c ∧ c < 256) (hlm : os.length ≤ maxLen) (htm : 0 ≤ tm ∧ tm < 4294967296) (hos : Ozs W la os) :
    Calls Try.prog 6 #[.int .u8 c, .slice la os.length lc, .int .u32 tm, .int .i64 n] W fun e w' => e = .returned (.bool true) ∧ Upd [] W w' := by
  have HMD := Lib.hid (fun W' (hu : Upd [] W W') => Made_has c la lc os W' hc (hos.stay hu) hlm)
  have HHD := Lib.hid (head_any A)
  obtain ⟨n0, k0, hk0, hre⟩ := made_reach c os
  generalize madeL c os = p at *
  have hisl := hre.isl
  have HGD := Lib.hid hre.good
  have HNX : Hid (p.1.nx < 1099511627776) := by show _ < _; have := hre.nx; omega
  have HTM : Hid (TimeOk tm) := ⟨htm.1, by omega⟩
  have HAA := Lib.hid A
  have hwt : IntKind.i64.wrap tm = tm := by rw [IntKind.wrap_i64]; omega
  generalize os.length = L at HMD ⊢
  clear hre hos hlm hc htm
  go_enter Try.func6, Try.ntmps6
  go_upto_region 2 with (go_at_call 8; refine (HHD.out W).mono ?_; rintro e W0 ⟨rfl, hu⟩)
  have HUb : Hid (Upd [] W W0) := hu
  have HU0 : Hid (Upd [] W0 W0) := Upd.refl _ _
  clear hu
  have HK1 := Lib.hid (HMD.out W0 HUb.out)
  go_upto_region 3 with (go_at_call 15; refine (HK1.out).mono ?_; rintro e w1 ⟨r', ad, cap, rfl, hN⟩; obtain ⟨a1, sa1, sc1, ia1, ic1⟩ := r'; unfold encA)
  have HH1 := Lib.hid hN.has
  have HQ1 := Lib.hid hN.eq
  have hIS := hN.his
  have HEN1 : Hid (encA ⟨a1, sa1, sc1, ia1, ic1⟩ = .agg #[.slice sa1 a1.sl.length sc1, .slice ia1 a1.id.length ic1, .int .i64 a1.nx]) := rfl
  have hu1a := hN.upd
  clear hN HK1
  simp only at HQ1 ⊢
  generalize a1.sl.length = n1 at HEN1 ⊢
  generalize a1.id.length = m1 at HEN1 ⊢
  generalize a1.nx = x1 at HEN1 ⊢
  have hb1 := heap_alloc1 w1 (.cells #[.slice sa1 n1 sc1, .slice ia1 m1 ic1, .int .i64 x1] 25)
  have hu1b := (Upd.refl [] w1).alloc (.cells #[.slice sa1 n1 sc1, .slice ia1 m1 ic1, .int .i64 x1] 25)
  have hu1 := hu1a.trans hu1b (by simp)
  have HH1 := Lib.hid (HH1.out.stay hu1b)
  generalize w1.alloc (.cells #[.slice sa1 n1 sc1, .slice ia1 m1 ic1, .int .i64 x1] 25) = W1 at hb1 hu1 hu1b HH1 ⊢
  generalize w1.heap.size = P1 at hb1 ⊢
  have HB1 := Lib.hid hb1
  have HU1 : Hid (Upd [] W0 W1) := HU0.out.trans hu1 (by simp)
  clear hb1 hu1 hu1a 
  have HIS := Lib.hid (hIS.stay hu1b)
  clear hIS hu1b
  have HGA : Hid (Good a1) := by show Good a1; rw [HQ1.out]; exact HGD.out
  have HL1 : Hid (n1 = a1.sl.length) := by
    have h := HEN1.out
    simp only [encA, Value.agg.injEq, Array.mk.injEq, List.cons.injEq, Value.slice.injEq] at h
    exact h.1.2.1.symm
  have HK0 := Lib.hid (HAA.out.live ⟨a1, sa1, sc1, ia1, ic1⟩ W1 HH1.out HGA.out)
  rw [HEN1.out] at HK0
  simp only at HK0
  obtain ⟨lv, hlv⟩ : ∃ v, v = liveL a1.sl := ⟨_, rfl⟩
  rw [← hlv] at HK0
  have HLV := Lib.hid hlv
  have hlvn : lv ≤ n1 := by rw [hlv, HL1.out]; exact liveTo_le _ _
  have hn64 : n1 ≤ 64 := by rw [HL1.out]; exact HGA.out.len1
  clear hlv
  obtain ⟨l10, l11, l12⟩ := cells3 HB1.out
  go_upto_region 4 with (go_at_call 25; refine HK0.out.mono ?_; rintro e W1b ⟨rfl, hub⟩)
  clear l10 l11 l12 HK0
  have HB1 := Lib.hid (hub.at HB1.out (by simp))
  have HH1 := Lib.hid (HH1.out.stay hub)
  have HIS := Lib.hid (HIS.out.stay hub)
  have HU1 : Hid (Upd [] W0 W1b) := HU1.out.trans hub (by simp)
  clear hub
  obtain ⟨l10, l11, l12⟩ := cells3 HB1.out
  have HK2 := Lib.hid (HAA.out.alloc ⟨a1, sa1, sc1, ia1, ic1⟩ tm W1b HH1.out HGA.out)
  rw [HEN1.out] at HK2
  go_upto_region 5 with (go_at_call 17; refine (HK2.out).mono ?_; rintro e w2 ⟨r', rfl, hN⟩; obtain ⟨a2, sa2, sc2, ia2, ic2⟩ := r'; unfold encA)
  have HH2 := Lib.hid hN.has
  have HQ2 := Lib.hid hN.eq
  have HEN2 : Hid (encA ⟨a2, sa2, sc2, ia2, ic2⟩ = .agg #[.slice sa2 a2.sl.length sc2, .slice ia2 a2.id.length ic2, .int .i64 a2.nx]) := rfl
  have hu2a := hN.upd
  clear hN HK2
  simp only at HQ2 ⊢
  obtain ⟨q2, hq2⟩ : ∃ q, q = allocA a1 tm := ⟨_, rfl⟩
  rw [← hq2] at HQ2 ⊢
  have HR2 := Lib.hid hq2
  clear hq2
  generalize a2.sl.length = n2 at HEN2 ⊢
  generalize a2.id.length = m2 at HEN2 ⊢
  generalize a2.nx = x2 at HEN2 ⊢
  have hb2 := heap_alloc1 w2 (.cells #[.slice sa2 n2 sc2, .slice ia2 m2 ic2, .int .i64 x2] 25)
  have hu2b := (Upd.refl [] w2).alloc (.cells #[.slice sa2 n2 sc2, .slice ia2 m2 ic2, .int .i64 x2] 25)
  have hu2 := hu2a.trans hu2b (by simp)
  have HH2 := Lib.hid (HH2.out.stay hu2b)
  generalize w2.alloc (.cells #[.slice sa2 n2 sc2, .slice ia2 m2 ic2, .int .i64 x2] 25) = W2 at hb2 hu2 hu2b HH2 ⊢
  generalize w2.heap.size = P2 at hb2 ⊢
  have HB2 := Lib.hid hb2
  have HB1 := Lib.hid (hu2.at HB1.out (by simp))
  have HH1 := Lib.hid (HH1.out.stay hu2)
  have HU2 : Hid (Upd [] W0 W2) := HU1.out.trans hu2 (by simp)
  have hu2 := hu2a.trans hu2b (by simp)
  clear hb2 hu2a hu2b l10 l11 l12

  have HCT := Lib.hid (alloc_counts HGA.out HTM.out (by rw [HQ1.out]; exact HNX.out))
  rw [← HR2.out, ← HLV.out, ← HL1.out, ← HQ2.out] at HCT
  have HG2 : Hid (Good a2) := by show Good a2; rw [HQ2.out, HR2.out]; exact alloc_good HGA.out tm
  obtain ⟨qe, hqe⟩ : ∃ q, q = q2.2.2 := ⟨_, rfl⟩
  rw [← hqe] at HCT ⊢
  generalize q2.2.1 = qh
  clear hqe
  obtain ⟨b3, hb3⟩ : ∃ b, b = (relA a1 (pickA p.2 n)).2 := ⟨_, rfl⟩
  obtain ⟨r3, hr3⟩ : ∃ b, b = (relA a1 (pickA p.2 n)).1 := ⟨_, rfl⟩
  have HC : Hid (∀ W', Upd [] W2 W' → Calls Try.prog 21 #[.agg #[.slice sa1 n1 sc1, .slice ia1 m1 ic1, .int .i64 x1], .int .i64 (pickA p.2 n)] W' fun e w' => ∃ a' sa' sc' ia' ic', e = .returned (.tuple #[.agg #[.slice sa' (Ar.sl a').length sc', .slice ia' (Ar.id a').length ic', .int .i64 (Ar.nx a')], .bool b3]) ∧ Nxt W' ⟨a1, sa1, sc1, ia1, ic1⟩ r3 w' ⟨a', sa', sc', ia', ic'⟩) := fun W' hu => by
    have h1 := HAA.out.rel ⟨a1, sa1, sc1, ia1, ic1⟩ (pickA p.2 n) W' (HH1.out.stay hu) HGA.out
    rw [HEN1.out] at h1
    refine h1.mono ?_
    rintro e w' ⟨r', he, hN⟩
    obtain ⟨a', sa', sc', ia', ic'⟩ := r'
    rw [← hb3] at he
    rw [← hr3] at hN
    exact ⟨a', sa', sc', ia', ic', he, hN⟩
  have HPK := Lib.hid (fun W' (hu : Upd [] W2 W') => Pick_any ad cap p.2 n W' ((HIS.out.stay hu2).stay hu).ints (by omega))
  have HC3 : Hid (b3 = true → liveL r3.sl + 1 = lv) := fun h => by rw [hr3, HLV.out]; exact rel_counts HGA.out (by rw [← hb3]; exact h)
  have HG3 : Hid (Good r3) := by show Good r3; rw [hr3]; exact rel_good HGA.out _
  clear hb3 hr3 hu2
  generalize pickA p.2 n = h at *
  obtain ⟨l10, l11, l12⟩ := cells3 HB1.out
  go_cut [16, 17] (fun v16 v17 wx => ∃ P r', v16 = .pointer (some ⟨P, 0, none⟩) ∧ v17 = .bool b3 ∧ Hid (Boxed W2 ⟨a1, sa1, sc1, ia1, ic1⟩ r3 P wx r'))
  case first =>
    have HKP : Hid (∀ W', Upd [] W2 W' → W'.cell? ⟨P1, 0, none⟩ = some (.slice sa1 n1 sc1) ∧ W'.cell? ⟨P1, 1, none⟩ = some (.slice ia1 m1 ic1) ∧ W'.cell? ⟨P1, 2, none⟩ = some (.int .i64 x1)) := fun W' hu => ⟨hu.cell l10 (by simp), hu.cell l11 (by simp), hu.cell l12 (by simp)⟩
    go_region_held3 (fun wz => wz.cell? ⟨P1, 0, none⟩ = some (.slice sa1 n1 sc1) ∧ wz.cell? ⟨P1, 1, none⟩ = some (.slice ia1 m1 ic1) ∧ wz.cell? ⟨P1, 2, none⟩ = some (.int .i64 x1)) (first | exact ⟨l10, l11, l12⟩ | (refine HKP.out _ ?_; (repeat (first | exact Upd.refl [] _ | refine Upd.setCell ?_ (fun hl => absurd hl (Nat.lt_irrefl _)) _ | refine Upd.drew ?_ | refine Upd.alloc ?_ _ | refine Upd.trans (T := []) ?_ (by assumption) (by simp))))) (first
      | (go_at_call 16; (with_reducible refine (HPK.out _ ?_).mono ?_); (repeat (first | exact Upd.refl [] _ | refine Upd.drew ?_ | refine Upd.alloc ?_ _ | refine Upd.trans (T := []) ?_ (by assumption) (by simp))); rintro e w' ⟨rfl, rfl⟩)
      | (go_at_call 21; (with_reducible refine (HC.out _ ?_).mono ?_); (repeat (first | exact Upd.refl [] _ | refine Upd.drew ?_ | refine Upd.alloc ?_ _ | refine Upd.trans (T := []) ?_ (by assumption) (by simp))); rintro e w' ⟨a', sa', sc', ia', ic', rfl, hN⟩; have hu := hN.upd; try (have pb := hu.at (heap_alloc1 W2 (.cells #[.slice none 0 0, .slice none 0 0, .int .i64 0] 25)) (by simp); obtain ⟨x0, x1', x2'⟩ := cells3 pb; obtain ⟨y0, y1, y2⟩ := free3 pb; clear pb)))
    all_goals go_wp2_with fail
    all_goals go_meet
    all_goals case rel =>
      first
        | (have hx0 := x0
           refine ⟨W2.heap.size, ⟨a', sa', sc', ia', ic'⟩, rfl, rfl, ?_⟩
           have hb := boxed_first HH1.out (hN.of_upd (w := W2.alloc (.cells #[.slice none 0 0, .slice none 0 0, .int .i64 0] 25)) ((Upd.refl [] _).drew))
           exact hb)
        | (refine ⟨w'.heap.size, ⟨a', sa', sc', ia', ic'⟩, rfl, rfl, ?_⟩
           have hb := boxed_last (hN.of_upd (w := W2) ((Upd.refl [] W2).drew))
           simp only [cellsA] at hb
           exact hb)
  case rest =>
  clear l10 l11 l12
  obtain ⟨P3, r', rfl, rfl, HBX⟩ := hcut
  obtain ⟨a3, sa3, sc3, ia3, ic3⟩ := r'
  have he3 : a3 = r3 := HBX.out.nxt.eq
  subst he3
  have hu3 := HBX.out.nxt.upd
  have hb3 := HBX.out.blk
  simp only [cellsA] at hb3
  have HH3 := Lib.hid HBX.out.nxt.has
  have HEN3 : Hid (encA ⟨a3, sa3, sc3, ia3, ic3⟩ = .agg #[.slice sa3 a3.sl.length sc3, .slice ia3 a3.id.length ic3, .int .i64 a3.nx]) := rfl
  generalize a3.sl.length = n3 at hb3 HEN3
  generalize a3.id.length = m3 at hb3 HEN3
  generalize a3.nx = x3 at hb3 HEN3
  have HB3 := Lib.hid hb3
  have HB1 := Lib.hid (hu3.at HB1.out (by simp)); have HB2 := Lib.hid (hu3.at HB2.out (by simp)); have HH2 := Lib.hid (HH2.out.stay hu3)
  have HU3 : Hid (Upd [] W0 wc) := HU2.out.trans hu3 (by simp)
  clear hb3 hu3 HBX
  have HL2 : Hid (∀ W', Upd [] wc W' → Calls Try.prog 25 #[.agg #[.slice sa2 n2 sc2, .slice ia2 m2 ic2, .int .i64 x2]] W' fun e w' => e = .returned (.int .i64 (liveL a2.sl : Nat)) ∧ Upd [] W' w') := fun W' hu => by
    have h1 := HAA.out.live ⟨a2, sa2, sc2, ia2, ic2⟩ W' (HH2.out.stay hu) HG2.out
    rw [HEN2.out] at h1
    exact h1
  have HL3 : Hid (∀ W', Upd [] wc W' → Calls Try.prog 25 #[.agg #[.slice sa3 n3 sc3, .slice ia3 m3 ic3, .int .i64 x3]] W' fun e w' => e = .returned (.int .i64 (liveL a3.sl : Nat)) ∧ Upd [] W' w') := fun W' hu => by
    have h1 := HAA.out.live ⟨a3, sa3, sc3, ia3, ic3⟩ W' (HH3.out.stay hu) HG3.out
    rw [HEN3.out] at h1
    exact h1
  generalize liveL a2.sl = v2 at *
  generalize liveL a3.sl = v3 at *
  obtain ⟨c10, _, _⟩ := cells3 HB1.out
  obtain ⟨c20, c21, c22⟩ := cells3 HB2.out
  obtain ⟨c30, c31, c32⟩ := cells3 HB3.out
  have HCC : Hid (∀ W', Upd [] wc W' → W'.cell? ⟨P3, 0, none⟩ = some (.slice sa3 n3 sc3) ∧ W'.cell? ⟨P3, 1, none⟩ = some (.slice ia3 m3 ic3) ∧ W'.cell? ⟨P3, 2, none⟩ = some (.int .i64 x3)) := fun W' hu => ⟨hu.cell c30 (by simp), hu.cell c31 (by simp), hu.cell c32 (by simp)⟩
  have hd0 : decide ((lv : Int) < 0) = false := by simp
  have hd1 : decide ((n1 : Int) < (lv : Int)) = false := by simp; omega
  have hd1n : decide (n1 < lv) = false := by simp; omega
  have hw1 : IntKind.i64.wrap ((lv : Int) + 1) = (lv : Int) + 1 := by rw [IntKind.wrap_i64]; omega
  have hw2 : IntKind.i64.wrap ((lv : Int) - 1) = (lv : Int) - 1 := by rw [IntKind.wrap_i64]; omega
  have hw : Upd [] wc wc := Upd.refl _ _
  rcases HCT.out with ⟨h1, h2⟩ | ⟨h1, h2, h3⟩
  · have hqa : qe = 10 := h1
    have hla : lv = n1 := h2
    clear h1 h2 HCT
    subst hqa
    subst hla
    cases b3
    · go_wp2_with fail
      go_ret
      exact ⟨rfl, HUb.out.trans HU3.out (by simp)⟩
    · have hv3 : v3 + 1 = lv := HC3.out (by first | exact rfl | exact trivial)
      have hv4 : ((v3 : Int) == (lv : Int) - 1) = true := by simp; omega
      go_wp2_with (go_at_call 25; refine (HL3.out _ hw).mono ?_; rintro e w5 ⟨rfl, hu5⟩)
      go_ret
      exact ⟨rfl, (HUb.out.trans HU3.out (by simp)).trans hu5 (by simp)⟩
  · have hqa : qe = 0 := h1
    have hlb : ((lv : Int) == (n1 : Int)) = false := by simp; omega
    have hlbn : (lv == n1) = false := by simp; omega
    have hva : v2 = lv + 1 := h3
    have hvb : (((v2 : Nat) : Int) != (lv : Int) + 1) = false := by simp; omega
    clear h1 h2 h3 HCT hva
    subst hqa
    cases b3
    · go_wp2_with (go_at_call 25; refine (HL2.out _ hw).mono ?_; rintro e w5 ⟨rfl, hu5⟩)
      go_ret
      exact ⟨rfl, (HUb.out.trans HU3.out (by simp)).trans hu5 (by simp)⟩
    · have hv3 : v3 + 1 = lv := HC3.out (by first | exact rfl | exact trivial)
      have hv4 : ((v3 : Int) == (lv : Int) - 1) = true := by simp; omega
      go_wp2_with (first | (go_at_call 25; (with_reducible refine (HL2.out _ hw).mono ?_); rintro e w5 ⟨rfl, hu5⟩; have hw := hu5; obtain ⟨g30, g31, g32⟩ := HCC.out _ hu5) | (go_at_call 25; (with_reducible refine (HL3.out _ hw).mono ?_); rintro e w6 ⟨rfl, hu6⟩))
      go_ret
      exact ⟨rfl, ((HUb.out.trans HU3.out (by simp)).trans hw (by simp)).trans hu6 (by simp)⟩
end Go.Proofs.Ythpofcomlidoiaa
