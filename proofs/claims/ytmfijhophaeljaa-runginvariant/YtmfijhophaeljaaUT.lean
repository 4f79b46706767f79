/- The head of the laws. -/
import Derived.Test.YtmfijhophaeljaaUS
namespace Go.Proofs.Ytmfijhophaeljaa
open Go.RowKit Go.Lib

def R0 : Rg := newR 10 2
def R1 : Rg := ⟨10, 2, 0, [[], [⟨13, 4, 0⟩], [], [], [], [], [], []]⟩
def R2 : Rg := ⟨10, 2, 2, [[], [], [], [], [], [], [], []]⟩
def R3 : Rg := ⟨10, 2, 8, [[], [], [], [], [], [], [], []]⟩
theorem put13 : putR R0 ⟨13, 4, 0⟩ = (R1, true) := by decide
theorem put9 : putR R0 ⟨9, 0, 0⟩ = (R0, false) := by decide
theorem put26 : putR R0 ⟨26, 0, 0⟩ = (R0, false) := by decide
theorem next1 : nextR R1 = (R2, [⟨13, 4, 0⟩], 12, true) := by decide
theorem next2 : nextR R2 = (R3, [], 0, false) := by decide
theorem good0 : GoodR R0 := newR_good (by decide) (by decide) (by decide) (by decide)
theorem good1 : GoodR R1 := by have := good0.put ⟨13, 4, 0⟩; rw [put13] at this; exact this
theorem good2 : GoodR R2 := by have := good1.next; rw [next1] at this; exact this
theorem good3 : GoodR R3 := by have := good2.next; rw [next2] at this; exact this
theorem sh_of {r : RgR} {g : Rg} (e : r.rg = g) (hg : GoodR g) (hl : lenL g.bs ≤ 1000) : r.bk.l.length ≤ 1000000 ∧ (∀ s ∈ r.bk.l, s.l.length ≤ 1000000) ∧ lenL r.rg.bs ≤ 1000 := by
  subst e
  have h8 : r.bk.l.length = 8 := by have := hg.len; simpa [RgR.rg, rowsOf_length] using this
  refine ⟨by omega, fun s hs => ?_, hl⟩
  obtain ⟨i, hi, rfl⟩ := List.mem_iff_getElem.1 hs
  have h1 := len_le (bs := rowsOf r.bk.l) (k := i) (by rw [rowsOf_length]; exact hi)
  rw [rowsOf_get hi] at h1
  have h2 : lenL (rowsOf r.bk.l) ≤ 1000 := hl
  omega
theorem zero_bad : validR (⟨0, 0, 0, ⟨[], none, 0⟩⟩ : RgR).rg = false := validR_no.2 (fun h => by have := h.wd0; simp [RgR.rg] at this)
theorem row_ite {w : World} {b : Nat} {t q s : Int} {e : TypeId} {f : Nat × Nat} (h : w.heap[b]? = some (.cells #[.int .i64 t, .int .i64 q, .int .i64 s] e f)) : Row LI w (some ⟨b, 0, none⟩) [⟨t, q, s⟩] := row_one h

set_option maxRecDepth 100000 in
set_option maxHeartbeats 8000000 in
theorem head_true (w : World) : Calls Try.prog 8 #[] w fun e w' => e = .returned (.bool true) ∧ Upd [] w w' := by
  have HNEW := Lib.hid (New_has 10 2 w)
  obtain ⟨W0, hW0⟩ : ∃ W0, W0 = w := ⟨_, rfl⟩
  have HUW : Hid (Upd [] w W0) := by rw [hW0]; exact Upd.refl [] w
  rw [← hW0] at HNEW
  have HW0 := Lib.hid hW0
  rw [← hW0] at HUW
  rw [← hW0]
  clear hW0
  go_enter Try.func8, Try.ntmps8
  go_upto_region 2 with (go_at_call 16; (with_reducible refine HNEW.out.mono ?_); rintro e w1 ⟨⟨f1, d1, u1, l1, a1, c1⟩, rfl, hN1⟩; unfold encR)
  have HE1 := Lib.hid hN1.eq
  have hal := (Upd.refl [] w1).alloc (.cells #[.int .i64 f1, .int .i64 d1, .int .i64 u1, .slice a1 l1.length c1] 24)
  have hIB : InBox w1.heap.size ⟨f1, d1, u1, ⟨l1, a1, c1⟩⟩ (w1.alloc (.cells #[.int .i64 f1, .int .i64 d1, .int .i64 u1, .slice a1 l1.length c1] 24)) := ⟨heap_alloc1 _ _, hN1.has.stay hal⟩
  have hu1 := hN1.upd.thn hal
  have HB1 := Lib.hid hIB
  generalize w1.alloc (.cells #[.int .i64 f1, .int .i64 d1, .int .i64 u1, .slice a1 l1.length c1] 24) = W1 at *
  generalize w1.heap.size = P1 at *
  replace HUW := Lib.hid (HUW.out.thn hu1)
  clear hal hIB hu1
  clear hN1 HNEW
  have HE1 : Hid (((⟨f1, d1, u1, ⟨l1, a1, c1⟩⟩ : RgR)).rg = R0) := HE1
  have hg2 : GoodR (⟨f1, d1, u1, ⟨l1, a1, c1⟩⟩ : RgR).rg := by rw [HE1.out]; exact good0
  have hP2 := Put_has ⟨f1, d1, u1, ⟨l1, a1, c1⟩⟩ ⟨13, 4, 0⟩ W1 HB1.out.2 hg2 (by rw [HE1.out]; decide)
  rw [HE1.out, put13] at hP2
  unfold encR aggI at hP2
  simp only at hP2
  have HP2 := Lib.hid hP2
  clear hP2 hg2
  obtain ⟨b10, b11, b12, b13⟩ := cells4 (show W1.heap[P1]? = some (.cells #[.int .i64 f1, .int .i64 d1, .int .i64 u1, .slice a1 l1.length c1] 24 (0, 0)) from HB1.out.1)
  go_upto_region 3 with (go_at_call 12; (with_reducible refine HP2.out.mono ?_); rintro e w2 ⟨⟨f2, d2, u2, l2, a2, c2⟩, rfl, hN2⟩; unfold encR)
  clear b10 b11 b12 b13
  have HE2 := Lib.hid hN2.eq
  have hal := (Upd.refl [] w2).alloc (.cells #[.int .i64 f2, .int .i64 d2, .int .i64 u2, .slice a2 l2.length c2] 24)
  have hIB : InBox w2.heap.size ⟨f2, d2, u2, ⟨l2, a2, c2⟩⟩ (w2.alloc (.cells #[.int .i64 f2, .int .i64 d2, .int .i64 u2, .slice a2 l2.length c2] 24)) := ⟨heap_alloc1 _ _, hN2.has.stay hal⟩
  have hu2 := hN2.upd.thn hal
  have HB2 := Lib.hid hIB
  generalize w2.alloc (.cells #[.int .i64 f2, .int .i64 d2, .int .i64 u2, .slice a2 l2.length c2] 24) = W2 at *
  generalize w2.heap.size = P2 at *
  replace HB1 := Lib.hid (HB1.out.stay hu2)
  replace HUW := Lib.hid (HUW.out.thn hu2)
  clear hal hIB hu2
  clear hN2 HP2
  have hg3 : GoodR (⟨f1, d1, u1, ⟨l1, a1, c1⟩⟩ : RgR).rg := by rw [HE1.out]; exact good0
  have hP3 := Put_has ⟨f1, d1, u1, ⟨l1, a1, c1⟩⟩ ⟨9, 0, 0⟩ W2 HB1.out.2 hg3 (by rw [HE1.out]; decide)
  rw [HE1.out, put9] at hP3
  unfold encR aggI at hP3
  simp only at hP3
  have HP3 := Lib.hid hP3
  clear hP3 hg3
  obtain ⟨b10, b11, b12, b13⟩ := cells4 (show W2.heap[P1]? = some (.cells #[.int .i64 f1, .int .i64 d1, .int .i64 u1, .slice a1 l1.length c1] 24 (0, 0)) from HB1.out.1)
  go_upto_region 4 with (go_at_call 12; (with_reducible refine HP3.out.mono ?_); rintro e w3 ⟨⟨f3, d3, u3, l3, a3, c3⟩, rfl, hN3⟩; unfold encR)
  clear b10 b11 b12 b13
  have HE3 := Lib.hid hN3.eq
  have hal := (Upd.refl [] w3).alloc (.cells #[.int .i64 f3, .int .i64 d3, .int .i64 u3, .slice a3 l3.length c3] 24)
  have hIB : InBox w3.heap.size ⟨f3, d3, u3, ⟨l3, a3, c3⟩⟩ (w3.alloc (.cells #[.int .i64 f3, .int .i64 d3, .int .i64 u3, .slice a3 l3.length c3] 24)) := ⟨heap_alloc1 _ _, hN3.has.stay hal⟩
  have hu3 := hN3.upd.thn hal
  have HB3 := Lib.hid hIB
  generalize w3.alloc (.cells #[.int .i64 f3, .int .i64 d3, .int .i64 u3, .slice a3 l3.length c3] 24) = W3 at *
  generalize w3.heap.size = P3 at *
  replace HB1 := Lib.hid (HB1.out.stay hu3)
  replace HB2 := Lib.hid (HB2.out.stay hu3)
  replace HUW := Lib.hid (HUW.out.thn hu3)
  clear hal hIB hu3
  clear hN3 HP3
  have hg4 : GoodR (⟨f1, d1, u1, ⟨l1, a1, c1⟩⟩ : RgR).rg := by rw [HE1.out]; exact good0
  have hP4 := Put_has ⟨f1, d1, u1, ⟨l1, a1, c1⟩⟩ ⟨26, 0, 0⟩ W3 HB1.out.2 hg4 (by rw [HE1.out]; decide)
  rw [HE1.out, put26] at hP4
  unfold encR aggI at hP4
  simp only at hP4
  have HP4 := Lib.hid hP4
  clear hP4 hg4
  obtain ⟨b10, b11, b12, b13⟩ := cells4 (show W3.heap[P1]? = some (.cells #[.int .i64 f1, .int .i64 d1, .int .i64 u1, .slice a1 l1.length c1] 24 (0, 0)) from HB1.out.1)
  go_upto_region 5 with (go_at_call 12; (with_reducible refine HP4.out.mono ?_); rintro e w4 ⟨⟨f4, d4, u4, l4, a4, c4⟩, rfl, hN4⟩; unfold encR)
  clear b10 b11 b12 b13
  have HE4 := Lib.hid hN4.eq
  have hal := (Upd.refl [] w4).alloc (.cells #[.int .i64 f4, .int .i64 d4, .int .i64 u4, .slice a4 l4.length c4] 24)
  have hIB : InBox w4.heap.size ⟨f4, d4, u4, ⟨l4, a4, c4⟩⟩ (w4.alloc (.cells #[.int .i64 f4, .int .i64 d4, .int .i64 u4, .slice a4 l4.length c4] 24)) := ⟨heap_alloc1 _ _, hN4.has.stay hal⟩
  have hu4 := hN4.upd.thn hal
  have HB4 := Lib.hid hIB
  generalize w4.alloc (.cells #[.int .i64 f4, .int .i64 d4, .int .i64 u4, .slice a4 l4.length c4] 24) = W4 at *
  generalize w4.heap.size = P4 at *
  replace HB1 := Lib.hid (HB1.out.stay hu4)
  replace HB2 := Lib.hid (HB2.out.stay hu4)
  replace HB3 := Lib.hid (HB3.out.stay hu4)
  replace HUW := Lib.hid (HUW.out.thn hu4)
  clear hal hIB hu4
  clear hN4 HP4
  have hg5 : GoodR (⟨f2, d2, u2, ⟨l2, a2, c2⟩⟩ : RgR).rg := by rw [HE2.out]; exact good1
  have hP5 := Next_has ⟨f2, d2, u2, ⟨l2, a2, c2⟩⟩ W4 HB2.out.2 hg5 (by rw [HE2.out]; decide)
  rw [HE2.out, next1] at hP5
  unfold encR at hP5
  simp only at hP5
  have HP5 := Lib.hid hP5
  clear hP5 hg5
  obtain ⟨b20, b21, b22, b23⟩ := cells4 (show W4.heap[P2]? = some (.cells #[.int .i64 f2, .int .i64 d2, .int .i64 u2, .slice a2 l2.length c2] 24 (0, 0)) from HB2.out.1)
  go_upto_region 6 with (go_at_call 14; (with_reducible refine HP5.out.mono ?_); rintro e w5 ⟨⟨f5, d5, u5, l5, a5, c5⟩, ⟨sl5, sa5, sc5⟩, rfl, hN5, hG5⟩; unfold encR)
  clear b20 b21 b22 b23
  have HE5 := Lib.hid hN5.eq
  have hsl5 := hG5.eq
  simp only at hsl5
  subst hsl5
  have hal := (Upd.refl [] w5).alloc (.cells #[.int .i64 f5, .int .i64 d5, .int .i64 u5, .slice a5 l5.length c5] 24)
  have hIB : InBox w5.heap.size ⟨f5, d5, u5, ⟨l5, a5, c5⟩⟩ (w5.alloc (.cells #[.int .i64 f5, .int .i64 d5, .int .i64 u5, .slice a5 l5.length c5] 24)) := ⟨heap_alloc1 _ _, hN5.has.stay hal⟩
  have hu5 := hN5.upd.thn hal
  have HB5 := Lib.hid hIB
  have HS5 := Lib.hid (hG5.has.stay hal)
  generalize w5.alloc (.cells #[.int .i64 f5, .int .i64 d5, .int .i64 u5, .slice a5 l5.length c5] 24) = W5 at *
  generalize w5.heap.size = P5 at *
  replace HB1 := Lib.hid (HB1.out.stay hu5)
  replace HB2 := Lib.hid (HB2.out.stay hu5)
  replace HB3 := Lib.hid (HB3.out.stay hu5)
  replace HB4 := Lib.hid (HB4.out.stay hu5)
  replace HUW := Lib.hid (HUW.out.thn hu5)
  clear hal hIB hu5
  clear hN5 hG5 HP5
  have hg6 : GoodR (⟨f5, d5, u5, ⟨l5, a5, c5⟩⟩ : RgR).rg := by rw [HE5.out]; exact good2
  have hP6 := Next_has ⟨f5, d5, u5, ⟨l5, a5, c5⟩⟩ W5 HB5.out.2 hg6 (by rw [HE5.out]; decide)
  rw [HE5.out, next2] at hP6
  unfold encR at hP6
  simp only at hP6
  have HP6 := Lib.hid hP6
  clear hP6 hg6
  obtain ⟨b50, b51, b52, b53⟩ := cells4 (show W5.heap[P5]? = some (.cells #[.int .i64 f5, .int .i64 d5, .int .i64 u5, .slice a5 l5.length c5] 24 (0, 0)) from HB5.out.1)
  go_upto_region 7 with (go_at_call 14; (with_reducible refine HP6.out.mono ?_); rintro e w6 ⟨⟨f6, d6, u6, l6, a6, c6⟩, ⟨sl6, sa6, sc6⟩, rfl, hN6, hG6⟩; unfold encR)
  clear b50 b51 b52 b53
  have HE6 := Lib.hid hN6.eq
  have hsl6 := hG6.eq
  simp only at hsl6
  subst hsl6
  have hal := (Upd.refl [] w6).alloc (.cells #[.int .i64 f6, .int .i64 d6, .int .i64 u6, .slice a6 l6.length c6] 24)
  have hIB : InBox w6.heap.size ⟨f6, d6, u6, ⟨l6, a6, c6⟩⟩ (w6.alloc (.cells #[.int .i64 f6, .int .i64 d6, .int .i64 u6, .slice a6 l6.length c6] 24)) := ⟨heap_alloc1 _ _, hN6.has.stay hal⟩
  have hu6 := hN6.upd.thn hal
  have HB6 := Lib.hid hIB
  have HS6 := Lib.hid (hG6.has.stay hal)
  generalize w6.alloc (.cells #[.int .i64 f6, .int .i64 d6, .int .i64 u6, .slice a6 l6.length c6] 24) = W6 at *
  generalize w6.heap.size = P6 at *
  replace HB1 := Lib.hid (HB1.out.stay hu6)
  replace HB2 := Lib.hid (HB2.out.stay hu6)
  replace HB3 := Lib.hid (HB3.out.stay hu6)
  replace HB4 := Lib.hid (HB4.out.stay hu6)
  replace HB5 := Lib.hid (HB5.out.stay hu6)
  replace HS5 := Lib.hid (HS5.out.stay hu6)
  replace HUW := Lib.hid (HUW.out.thn hu6)
  clear hal hIB hu6
  clear hN6 hG6 HP6
  have hs2 := sh_of HE2.out good1 (by decide)
  have hl2 := hs2.1; have hm2 := hs2.2.1; have hb2 := hs2.2.2
  simp only at hl2 hm2
  have hu6 : u6 = 8 := congrArg Rg.cu HE6.out
  subst hu6
  have hgd5 : GoodR (⟨f5, d5, u5, ⟨l5, a5, c5⟩⟩ : RgR).rg := by rw [HE5.out]; exact good2
  have HLEN := Lib.hid (fun V (hv : Upd [] W6 V) => Len_has ⟨f2, d2, u2, ⟨l2, a2, c2⟩⟩ V (HB2.out.2.stay hv) hl2 (by omega) hm2)
  rw [HE2.out, show lenL R1.bs = 1 from by decide] at HLEN
  unfold encR at HLEN
  simp only at HLEN
  have HVAL := Lib.hid (fun V (hv : Upd [] W6 V) => Valid_has ⟨f2, d2, u2, ⟨l2, a2, c2⟩⟩ V (HB2.out.2.stay hv) hl2 hm2)
  rw [HE2.out, validR_yes.2 good1] at HVAL
  unfold encR at HVAL
  simp only at HVAL
  have HCUR := Lib.hid (fun V (hv : Upd [] W6 V) => Current_has ⟨f5, d5, u5, ⟨l5, a5, c5⟩⟩ V hgd5)
  rw [HE5.out, show curT R2 = 14 from by decide] at HCUR
  unfold encR at HCUR
  simp only at HCUR
  have HEND := Lib.hid (fun V (hv : Upd [] W6 V) => End_has ⟨f5, d5, u5, ⟨l5, a5, c5⟩⟩ V hgd5)
  rw [HE5.out, show endT R2 = 26 from by decide] at HEND
  unfold encR at HEND
  simp only at HEND
  have HVZ := Lib.hid (fun V => Valid_has ⟨0, 0, 0, ⟨[], none, 0⟩⟩ V (zeroR_has V) (by simp) (fun s hs => by simp at hs))
  rw [zero_bad] at HVZ
  unfold encR at HVZ
  simp only [List.length_nil] at HVZ
  have HSI := Lib.hid (fun V (b : Nat) (hv : Upd [] W6 V) (hb : V.heap[b]? = some (.cells #[.int .i64 13, .int .i64 4, .int .i64 0] 33 (0, 0))) => SameItems_has ⟨[⟨13, 4, 0⟩], sa5, sc5⟩ ⟨[⟨13, 4, 0⟩], some ⟨b, 0, none⟩, 1⟩ V (HS5.out.stay hv).row (row_ite hb) (by simp))
  simp only [List.length_cons, List.length_nil, decide_true] at HSI
  clear hs2 hl2 hm2 hb2 hgd5
  obtain ⟨b20, b21, b22, b23⟩ := cells4 (show W6.heap[P2]? = some (.cells #[.int .i64 f2, .int .i64 d2, .int .i64 u2, .slice a2 l2.length c2] 24 (0, 0)) from HB2.out.1)
  go_wp2_with fail
  (with_reducible refine (HLEN.out _ (Upd.refl [] _)).mono ?_)
  rintro e v1 ⟨rfl, hv1⟩
  have HV1 := Lib.hid hv1
  clear b20 b21 b22 b23
  clear hv1
  go_wp2_with fail
  (with_reducible refine (HSI.out _ v1.heap.size (HV1.out.alloc _) (heap_alloc1 _ _)).mono ?_)
  rintro e v2 ⟨rfl, hv2⟩
  have HV2 : Hid (Upd [] W6 v2) := (HV1.out.alloc _).thn hv2
  clear hv2
  obtain ⟨b50, b51, b52, b53⟩ := cells4 (show v2.heap[P5]? = some (.cells #[.int .i64 f5, .int .i64 d5, .int .i64 u5, .slice a5 l5.length c5] 24 (0, 0)) from (HB5.out.stay HV2.out).1)
  go_wp2_with fail
  (with_reducible refine (HCUR.out _ HV2.out).mono ?_)
  rintro e v3 ⟨rfl, hv3⟩
  have HV3 := Lib.hid (HV2.out.thn hv3)
  clear b50 b51 b52 b53
  obtain ⟨b50, b51, b52, b53⟩ := cells4 (show v3.heap[P5]? = some (.cells #[.int .i64 f5, .int .i64 d5, .int .i64 u5, .slice a5 l5.length c5] 24 (0, 0)) from (HB5.out.stay HV3.out).1)
  clear hv3
  go_wp2_with fail
  (with_reducible refine (HEND.out _ HV3.out).mono ?_)
  rintro e v4 ⟨rfl, hv4⟩
  have HV4 := Lib.hid (HV3.out.thn hv4)
  clear b50 b51 b52 b53
  obtain ⟨b60, b61, b62, b63⟩ := cells4 (show v4.heap[P6]? = some (.cells #[.int .i64 f6, .int .i64 d6, .int .i64 8, .slice a6 l6.length c6] 24 (0, 0)) from (HB6.out.stay HV4.out).1)
  obtain ⟨b20, b21, b22, b23⟩ := cells4 (show v4.heap[P2]? = some (.cells #[.int .i64 f2, .int .i64 d2, .int .i64 u2, .slice a2 l2.length c2] 24 (0, 0)) from (HB2.out.stay HV4.out).1)
  clear hv4
  go_wp2_with fail
  (with_reducible refine (HVAL.out _ HV4.out).mono ?_)
  rintro e v5 ⟨rfl, hv5⟩
  have HV5 := Lib.hid (HV4.out.thn hv5)
  clear b60 b61 b62 b63
  clear b20 b21 b22 b23
  clear hv5
  go_wp2_with fail
  (with_reducible refine (HVZ.out _).mono ?_)
  rintro e v6 ⟨rfl, hv6⟩
  have HV6 := Lib.hid (HV5.out.thn hv6)
  clear hv6
  go_wp2_with fail
  go_ret
  exact ⟨rfl, HUW.out.thn HV6.out⟩
end Go.Proofs.Ytmfijhophaeljaa
