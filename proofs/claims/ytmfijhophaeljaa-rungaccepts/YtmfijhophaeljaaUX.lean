/- RungAccepts: the law's walk. -/
import Derived.Test.YtmfijhophaeljaaUU
namespace Go.Proofs.Ytmfijhophaeljaa
open Go.RowKit Go.Lib

theorem add_at {g : Rg} (hg : GoodR g) {it : It} (hf : Fits g it.t) (k : Nat) : bAt (addR g it).bs k = if k = ixR g it.t then bAt g.bs k ++ [it] else bAt g.bs k := by
  have h1 := (hg.ix hf).1
  show bAt (g.bs.set _ _) k = _
  rw [bAt_set (by rw [hg.len]; exact h1)]
  split
  · rename_i e; subst e; rfl
  · rfl
theorem acc_cases {g : Rg} (hg : GoodR g) {it : It} (hf : Fits g it.t) :
    (nextR (addR g it)).2.2.2 = true ∧ (nextR (addR g it)).2.1 ≠ [] ∧ 0 ≤ (nextR (addR g it)).2.2.1 ∧ (nextR (addR g it)).2.2.1 ≤ 2305843009213693960 ∧
    (((nextR g).2.2.2 = true ∧ (nextR g).2.2.1 = (nextR (addR g it)).2.2.1 ∧ (nextR g).2.1 = (nextR (addR g it)).2.1 ∧ (nextR (addR g it)).2.2.1 + g.wd ≤ it.t) ∨
     ((nextR (addR g it)).2.2.1 ≤ it.t ∧ it.t < (nextR (addR g it)).2.2.1 + g.wd ∧ (nextR g).2.2.2 = true ∧ (nextR g).2.2.1 = (nextR (addR g it)).2.2.1 ∧ (nextR (addR g it)).2.1 = (nextR g).2.1 ++ [it]) ∨
     ((nextR (addR g it)).2.2.1 ≤ it.t ∧ it.t < (nextR (addR g it)).2.2.1 + g.wd ∧ ((nextR g).2.2.2 = true → (nextR g).2.2.1 ≠ (nextR (addR g it)).2.2.1) ∧ (nextR (addR g it)).2.1 = [it])) := by
  obtain ⟨hj8, _, hj1, hj2, _⟩ := hg.ix hf
  have hat := add_at hg hf
  have hl : (addR g it).bs.length = 8 := by show (g.bs.set _ _).length = 8; rw [List.length_set, hg.len]
  have hgl := hg.len
  have b1 := hg.fr0; have b2 := hg.fr1; have b3 := hg.wd1; have b4 := hg.wd0
  have hst : ∀ i : Nat, i < 8 → 0 ≤ g.fr + i * g.wd ∧ g.fr + i * g.wd ≤ 2305843009213693960 := fun i hi => by
    have := hg.prod (i := i) (by omega) (by omega)
    omega
  have hlt : ∀ a b : Nat, a < b → g.fr + a * g.wd + g.wd ≤ g.fr + b * g.wd := fun a b hab => by
    have h1 := mul_mono (a := (a : Int) + 1) (b := (b : Int)) (w := g.wd) (by omega) b4
    have h2 : ((a : Int) + 1) * g.wd = (a : Int) * g.wd + g.wd := by rw [Int.add_mul]; omega
    omega
  generalize hj : ixR g it.t = j at *
  have hj3 : it.t < g.fr + j * g.wd + g.wd := by
    have h2 : ((j : Int) + 1) * g.wd = (j : Int) * g.wd + g.wd := by rw [Int.add_mul]; omega
    omega
  have hyes : ∀ i : Nat, i < 8 → bAt (addR g it).bs i ≠ [] → (∀ k, k < i → bAt (addR g it).bs k = []) → nextR (addR g it) = (takeR (addR g it) i, bAt (addR g it).bs i, g.fr + i * g.wd, true) := fun i hi h1 h2 => nextR_yes (r := addR g it) (by rw [hl]; exact hi) h1 h2
  -- the first bucket of the new rung is j where all before j are empty
  have hfirst : (∀ k, k < j → bAt g.bs k = []) → nextR (addR g it) = (takeR (addR g it) j, bAt g.bs j ++ [it], g.fr + j * g.wd, true) := fun h0 => by
    have h := hyes j hj8 (by rw [hat j, if_pos rfl]; simp) (fun k hk => by rw [hat k, if_neg (by omega)]; exact h0 k hk)
    rw [hat j, if_pos rfl] at h
    exact h
  rcases nextR_cases g with ⟨i, hi, hne, h0, e⟩ | ⟨h0, e⟩
  · have hi8 : i < 8 := by rw [hgl] at hi; exact hi
    by_cases hij : i < j
    · have h := hyes i hi8 (by rw [hat i, if_neg (by omega)]; exact hne) (fun k hk => by rw [hat k, if_neg (by omega)]; exact h0 k hk)
      rw [hat i, if_neg (by omega)] at h
      rw [h, e]
      have := hst i hi8
      have := hlt i j hij
      exact ⟨rfl, hne, by simp only; omega, by simp only; omega, .inl ⟨rfl, rfl, rfl, by simp only; omega⟩⟩
    · by_cases hij2 : i = j
      · subst hij2
        have h := hfirst h0
        rw [h, e]
        have := hst i hi8
        exact ⟨rfl, by simp, by simp only; omega, by simp only; omega, .inr (.inl ⟨by simp only; omega, by simp only; omega, rfl, rfl, rfl⟩)⟩
      · have h := hfirst (fun k hk => h0 k (by omega))
        have hb : bAt g.bs j = [] := h0 j (by omega)
        rw [h, e, hb]
        have h2 := hst j hj8
        have h3 := hlt j i (by omega)
        exact ⟨rfl, by simp, by simp only; omega, by simp only; omega, .inr (.inr ⟨by simp only; omega, by simp only; omega, fun _ => by simp only; omega, rfl⟩)⟩
  · have h := hfirst (fun k hk => h0 k (by omega))
    have hb : bAt g.bs j = [] := h0 j (by omega)
    rw [h, e, hb]
    have h2 := hst j hj8
    exact ⟨rfl, by simp, by simp only; omega, by simp only; omega, .inr (.inr ⟨by simp only; omega, by simp only; omega, fun h => by simp at h, rfl⟩)⟩
set_option maxRecDepth 100000 in
set_option maxHeartbeats 8000000 in
theorem Accepts_any (x0 x1 : Int) (la : Option Addr) (lc : Nat) (os : List Oz) (o : Oz) (w : World) (h0 : U64 x0) (h1 : U64 x1) (hlm : os.length ≤ maxLen) (ho : Row LO w la os) (hoa : ∀ o ∈ os, U64 o.a) (hk : U64 o.a) :
    Calls Try.prog 6 #[.int .u64 x0, .int .u64 x1, .slice la os.length lc, aggO o] w fun e w' => e = .returned (.bool true) ∧ Upd [] w w' := by
  have HHD := Lib.hid head_true
  have HMD := Lib.hid (fun W (hu : Upd [] w W) => Made_has x0 x1 la lc os W h0 h1 (ho.stay hu) hoa (by simp only [maxLen] at hlm; omega))
  have hmg := made_good h0 h1 os
  have HMG := Lib.hid hmg.1; have HML := Lib.hid hmg.2
  generalize madeR x0 x1 os = g at *
  generalize os.length = L at *
  clear h0 h1 hlm ho hoa hmg
  obtain ⟨on, oa, oq⟩ := o
  unfold aggO
  simp only at hk ⊢
  have HK := Lib.hid hk
  go_enter Try.func6, Try.ntmps6
  go_upto_region 1 with (fail)
  have hu := (Upd.refl [] w).alloc (.cells #[.bool on, .int .u64 oa, .int .i64 oq] 28)
  have bo := heap_alloc1 w (.cells #[.bool on, .int .u64 oa, .int .i64 oq] 28)
  generalize w.alloc (.cells #[.bool on, .int .u64 oa, .int .i64 oq] 28) = W0 at *
  generalize w.heap.size = PO at *
  have HBO := Lib.hid bo; have HUW := Lib.hid hu
  clear hu bo hk
  go_upto_region 2 with (go_at_call 8; (with_reducible refine (HHD.out _).mono ?_); rintro e W1 ⟨rfl, hu0⟩)
  replace HBO := Lib.hid (hu0.at HBO.out (by simp))
  replace HUW := Lib.hid (HUW.out.thn hu0)
  clear hu0 HHD
  go_upto_region 3 with (go_at_call 10; (with_reducible refine (HMD.out _ HUW.out).mono ?_); rintro e w1 ⟨⟨f1, d1, u1, l1, a1, c1⟩, rfl, hN1⟩; unfold encR)
  have HE1 : Hid (Std ⟨f1, d1, u1, ⟨l1, a1, c1⟩⟩ g) := ⟨hN1.eq, HMG.out, by have := HML.out; omega⟩
  have hal := (Upd.refl [] w1).alloc (.cells #[.int .i64 f1, .int .i64 d1, .int .i64 u1, .slice a1 l1.length c1] 24)
  have hIB : InBox w1.heap.size ⟨f1, d1, u1, ⟨l1, a1, c1⟩⟩ (w1.alloc (.cells #[.int .i64 f1, .int .i64 d1, .int .i64 u1, .slice a1 l1.length c1] 24)) := ⟨heap_alloc1 _ _, hN1.has.stay hal⟩
  have hu1 := hN1.upd.thn hal
  have HB1 := Lib.hid hIB
  generalize w1.alloc (.cells #[.int .i64 f1, .int .i64 d1, .int .i64 u1, .slice a1 l1.length c1] 24) = W2 at *
  generalize w1.heap.size = P1 at *
  replace HBO := Lib.hid (hu1.at HBO.out (by simp))
  replace HUW := Lib.hid (HUW.out.thn hu1)
  clear hal hIB hu1
  clear hN1 HMD
  have hCI := item_has ⟨f1, d1, u1, ⟨l1, a1, c1⟩⟩ ⟨on, oa, oq⟩ W2 HE1.out.g HK.out
  rw [HE1.out.eq] at hCI
  obtain ⟨⟨it, iq, is⟩, hit⟩ : ∃ it, it = itemR g ⟨on, oa, oq⟩ := ⟨_, rfl⟩
  rw [← hit] at hCI
  unfold encR aggO aggI at hCI
  simp only at hCI
  have HCI := Lib.hid hCI
  clear hCI hit
  obtain ⟨o0, o1, o2⟩ := cells3 HBO.out
  obtain ⟨b10, b11, b12, b13⟩ := cells4 (show W2.heap[P1]? = some (.cells #[.int .i64 f1, .int .i64 d1, .int .i64 u1, .slice a1 l1.length c1] 24 (0, 0)) from HB1.out.1)
  go_upto_region 4 with (go_at_call 11; (with_reducible refine HCI.out.mono ?_); rintro e wi ⟨rfl, hui⟩)
  clear o0 o1 o2
  clear b10 b11 b12 b13
  have hal := (Upd.refl [] wi).alloc (.cells #[.int .i64 it, .int .i64 iq, .int .i64 is] 33)
  have bi := heap_alloc1 wi (.cells #[.int .i64 it, .int .i64 iq, .int .i64 is] 33)
  have hui2 := hui.thn hal
  generalize wi.alloc (.cells #[.int .i64 it, .int .i64 iq, .int .i64 is] 33) = W3 at *
  generalize wi.heap.size = PI at *
  replace HB1 := Lib.hid (HB1.out.stay hui2)
  replace HBO := Lib.hid (hui2.at HBO.out (by simp))
  replace HUW := Lib.hid (HUW.out.thn hui2)
  have HBI := Lib.hid bi
  clear hal bi hui2 hui HCI
  have hP2 := Put_has ⟨f1, d1, u1, ⟨l1, a1, c1⟩⟩ ⟨it, iq, is⟩ W3 HB1.out.2 HE1.out.g HE1.out.l
  rw [HE1.out.eq] at hP2
  unfold encR aggI at hP2
  simp only at hP2
  obtain ⟨pp, hpp⟩ : ∃ pp, pp = putR g ⟨it, iq, is⟩ := ⟨_, rfl⟩
  rw [← hpp] at hP2
  have HPP := Lib.hid hpp
  have HP2 := Lib.hid hP2
  clear hP2 hpp
  obtain ⟨i0, i1, i2⟩ := cells3 HBI.out
  obtain ⟨b10, b11, b12, b13⟩ := cells4 (show W3.heap[P1]? = some (.cells #[.int .i64 f1, .int .i64 d1, .int .i64 u1, .slice a1 l1.length c1] 24 (0, 0)) from HB1.out.1)
  go_upto_region 5 with (go_at_call 12; (with_reducible refine HP2.out.mono ?_); rintro e w2 ⟨⟨f2, d2, u2, l2, a2, c2⟩, rfl, hN2⟩; unfold encR)
  clear b10 b11 b12 b13
  clear i0 i1 i2
  have HE2 : Hid (Std ⟨f2, d2, u2, ⟨l2, a2, c2⟩⟩ pp.1) := ⟨hN2.eq, by rw [HPP.out]; exact HMG.out.put _, by rw [HPP.out]; have h1 := put_len_le HMG.out ⟨it, iq, is⟩; have h2 := HML.out; omega⟩
  have hal := (Upd.refl [] w2).alloc (.cells #[.int .i64 f2, .int .i64 d2, .int .i64 u2, .slice a2 l2.length c2] 24)
  have hIB : InBox w2.heap.size ⟨f2, d2, u2, ⟨l2, a2, c2⟩⟩ (w2.alloc (.cells #[.int .i64 f2, .int .i64 d2, .int .i64 u2, .slice a2 l2.length c2] 24)) := ⟨heap_alloc1 _ _, hN2.has.stay hal⟩
  have hu2 := hN2.upd.thn hal
  have HB2 := Lib.hid hIB
  generalize w2.alloc (.cells #[.int .i64 f2, .int .i64 d2, .int .i64 u2, .slice a2 l2.length c2] 24) = W4 at *
  generalize w2.heap.size = P2 at *
  replace HB1 := Lib.hid (HB1.out.stay hu2)
  replace HBO := Lib.hid (hu2.at HBO.out (by simp))
  replace HBI := Lib.hid (hu2.at HBI.out (by simp))
  replace HUW := Lib.hid (HUW.out.thn hu2)
  clear hal hIB hu2
  clear hN2 HP2
  have HC1 := Lib.hid (fun V (hv : Upd [] W4 V) => Current_has ⟨f1, d1, u1, ⟨l1, a1, c1⟩⟩ V HE1.out.g)
  rw [HE1.out.eq] at HC1
  unfold encR at HC1
  simp only at HC1
  have HN1 := Lib.hid (fun V (hv : Upd [] W4 V) => End_has ⟨f1, d1, u1, ⟨l1, a1, c1⟩⟩ V HE1.out.g)
  rw [HE1.out.eq] at HN1
  unfold encR at HN1
  simp only at HN1
  have HFI : Hid (Fits g it ↔ curT g ≤ it ∧ it < endT g) := Iff.rfl
  generalize curT g = ct at *
  generalize endT g = et at *
  by_cases hf : Fits g it
  case neg =>
    have hok : pp.2 = false := by rw [HPP.out, putR_no (it := ⟨it, iq, is⟩) hf]
    rw [hok]
    clear hok
    have hnf : ¬ (ct ≤ it ∧ it < et) := fun h => hf (HFI.out.2 h)
    obtain ⟨i0, i1, i2⟩ := cells3 HBI.out
    by_cases hlt : ct ≤ it
    · have g0 : decide (ct ≤ it) = true := by simpa using hlt
      have g1 : decide (it < et) = false := by simp; omega
      clear hlt hnf hf
      obtain ⟨b10, b11, b12, b13⟩ := cells4 (show W4.heap[P1]? = some (.cells #[.int .i64 f1, .int .i64 d1, .int .i64 u1, .slice a1 l1.length c1] 24 (0, 0)) from HB1.out.1)
      have b10 := kept_at b10
      have b11 := kept_at b11
      have b12 := kept_at b12
      have b13 := kept_at b13
      have i0 := kept_at i0
      have i1 := kept_at i1
      have i2 := kept_at i2
      refine wp_region_quiet_kept mixed (by kernel_rfl) ?_
      repeat (go_big_quiet_step (first | (go_at_call 26; with_reducible exact calls_kept (HC1.out _ (Kept.up _))) | (go_at_call 28; with_reducible exact calls_kept (HN1.out _ (Kept.up _)))))
      refine wpQuiet_nil ?_
      intro V3 hw'
      obtain ⟨⟨Vx, huq⟩, hw''⟩ := hw'
      simp only at hw''
      subst hw'' 
      clear b10 b11 b12 b13
      clear i0 i1 i2
      go_wp2_with fail
      go_ret
      exact ⟨rfl, HUW.out.thn huq⟩
    · have g0 : decide (ct ≤ it) = false := by simpa using hlt
      clear hlt hnf hf
      obtain ⟨b10, b11, b12, b13⟩ := cells4 (show W4.heap[P1]? = some (.cells #[.int .i64 f1, .int .i64 d1, .int .i64 u1, .slice a1 l1.length c1] 24 (0, 0)) from HB1.out.1)
      have b10 := kept_at b10
      have b11 := kept_at b11
      have b12 := kept_at b12
      have b13 := kept_at b13
      have i0 := kept_at i0
      have i1 := kept_at i1
      have i2 := kept_at i2
      refine wp_region_quiet_kept mixed (by kernel_rfl) ?_
      repeat (go_big_quiet_step (first | (go_at_call 26; with_reducible exact calls_kept (HC1.out _ (Kept.up _))) | (go_at_call 28; with_reducible exact calls_kept (HN1.out _ (Kept.up _)))))
      refine wpQuiet_nil ?_
      intro V3 hw'
      obtain ⟨⟨Vx, huq⟩, hw''⟩ := hw'
      simp only at hw''
      subst hw'' 
      clear b10 b11 b12 b13
      clear i0 i1 i2
      go_wp2_with fail
      go_ret
      exact ⟨rfl, HUW.out.thn huq⟩
  have hok : pp.2 = true := by rw [HPP.out, putR_yes (it := ⟨it, iq, is⟩) hf]
  have hp1 : pp.1 = addR g ⟨it, iq, is⟩ := by rw [HPP.out, putR_yes (it := ⟨it, iq, is⟩) hf]
  rw [hok]
  have hac := acc_cases HMG.out (it := ⟨it, iq, is⟩) hf
  rw [← hp1] at hac
  have hff := HFI.out.1 hf
  have g0 : decide (ct ≤ it) = true := by simpa using hff.1
  have g1 : decide (it < et) = true := by simpa using hff.2
  have HAC := Lib.hid hac
  clear hok hp1 hac hff hf
  obtain ⟨i0, i1, i2⟩ := cells3 HBI.out
  obtain ⟨b10, b11, b12, b13⟩ := cells4 (show W4.heap[P1]? = some (.cells #[.int .i64 f1, .int .i64 d1, .int .i64 u1, .slice a1 l1.length c1] 24 (0, 0)) from HB1.out.1)
  have b10 := kept_at b10
  have b11 := kept_at b11
  have b12 := kept_at b12
  have b13 := kept_at b13
  have i0 := kept_at i0
  have i1 := kept_at i1
  have i2 := kept_at i2
  refine wp_region_quiet_kept mixed (by kernel_rfl) ?_
  repeat (go_big_quiet_step (first | (go_at_call 26; with_reducible exact calls_kept (HC1.out _ (Kept.up _))) | (go_at_call 28; with_reducible exact calls_kept (HN1.out _ (Kept.up _)))))
  refine wpQuiet_nil ?_
  intro V3 hw'
  obtain ⟨⟨Vx, huq⟩, hw''⟩ := hw'
  simp only at hw''
  subst hw'' 
  clear b10 b11 b12 b13
  clear i0 i1 i2
  obtain ⟨W5, hWn⟩ : ∃ x, x = V3 := ⟨_, rfl⟩
  subst hWn
  replace HB1 := Lib.hid (HB1.out.stay huq)
  replace HB2 := Lib.hid (HB2.out.stay huq)
  replace HBO := Lib.hid (huq.at HBO.out (by simp))
  replace HBI := Lib.hid (huq.at HBI.out (by simp))
  replace HUW := Lib.hid (HUW.out.thn huq)
  clear huq HC1 HN1 g0 g1
  have hP3 := Next_has ⟨f1, d1, u1, ⟨l1, a1, c1⟩⟩ W5 HB1.out.2 HE1.out.g HE1.out.l
  rw [HE1.out.eq] at hP3
  unfold encR at hP3
  simp only at hP3
  obtain ⟨nx3, hnx3⟩ : ∃ nx, nx = nextR g := ⟨_, rfl⟩
  rw [← hnx3] at hP3 HAC
  have HNX3 := Lib.hid hnx3
  have HP3 := Lib.hid hP3
  clear hP3 hnx3
  obtain ⟨b10, b11, b12, b13⟩ := cells4 (show W5.heap[P1]? = some (.cells #[.int .i64 f1, .int .i64 d1, .int .i64 u1, .slice a1 l1.length c1] 24 (0, 0)) from HB1.out.1)
  go_upto_region 10 with (go_at_call 14; (with_reducible refine HP3.out.mono ?_); rintro e w3 ⟨⟨f3, d3, u3, l3, a3, c3⟩, ⟨sl3, sa3, sc3⟩, rfl, hN3, hG3⟩; unfold encR)
  clear b10 b11 b12 b13
  have HSL3 : Hid (sl3 = nx3.2.1) := hG3.eq
  have hal := (Upd.refl [] w3).alloc (.cells #[.int .i64 f3, .int .i64 d3, .int .i64 u3, .slice a3 l3.length c3] 24)
  have hIB : InBox w3.heap.size ⟨f3, d3, u3, ⟨l3, a3, c3⟩⟩ (w3.alloc (.cells #[.int .i64 f3, .int .i64 d3, .int .i64 u3, .slice a3 l3.length c3] 24)) := ⟨heap_alloc1 _ _, hN3.has.stay hal⟩
  have hu3 := hN3.upd.thn hal
  have HB3 := Lib.hid hIB
  have HS3 := Lib.hid (hG3.has.stay hal)
  generalize w3.alloc (.cells #[.int .i64 f3, .int .i64 d3, .int .i64 u3, .slice a3 l3.length c3] 24) = W6 at *
  generalize w3.heap.size = P3 at *
  replace HB1 := Lib.hid (HB1.out.stay hu3)
  replace HB2 := Lib.hid (HB2.out.stay hu3)
  replace HBO := Lib.hid (hu3.at HBO.out (by simp))
  replace HBI := Lib.hid (hu3.at HBI.out (by simp))
  replace HUW := Lib.hid (HUW.out.thn hu3)
  clear hal hIB hu3
  clear hN3 hG3 HP3
  have hP4 := Next_has ⟨f2, d2, u2, ⟨l2, a2, c2⟩⟩ W6 HB2.out.2 HE2.out.g HE2.out.l
  rw [HE2.out.eq] at hP4
  unfold encR at hP4
  simp only at hP4
  obtain ⟨nx4, hnx4⟩ : ∃ nx, nx = nextR pp.1 := ⟨_, rfl⟩
  rw [← hnx4] at hP4 HAC
  have HNX4 := Lib.hid hnx4
  have HP4 := Lib.hid hP4
  clear hP4 hnx4
  obtain ⟨b20, b21, b22, b23⟩ := cells4 (show W6.heap[P2]? = some (.cells #[.int .i64 f2, .int .i64 d2, .int .i64 u2, .slice a2 l2.length c2] 24 (0, 0)) from HB2.out.1)
  go_upto_region 11 with (go_at_call 14; (with_reducible refine HP4.out.mono ?_); rintro e w4 ⟨⟨f4, d4, u4, l4, a4, c4⟩, ⟨sl4, sa4, sc4⟩, rfl, hN4, hG4⟩; unfold encR)
  clear b20 b21 b22 b23
  have HSL4 : Hid (sl4 = nx4.2.1) := hG4.eq
  have hal := (Upd.refl [] w4).alloc (.cells #[.int .i64 f4, .int .i64 d4, .int .i64 u4, .slice a4 l4.length c4] 24)
  have hIB : InBox w4.heap.size ⟨f4, d4, u4, ⟨l4, a4, c4⟩⟩ (w4.alloc (.cells #[.int .i64 f4, .int .i64 d4, .int .i64 u4, .slice a4 l4.length c4] 24)) := ⟨heap_alloc1 _ _, hN4.has.stay hal⟩
  have hu4 := hN4.upd.thn hal
  have HB4 := Lib.hid hIB
  have HS4 := Lib.hid (hG4.has.stay hal)
  generalize w4.alloc (.cells #[.int .i64 f4, .int .i64 d4, .int .i64 u4, .slice a4 l4.length c4] 24) = W7 at *
  generalize w4.heap.size = P4 at *
  replace HB1 := Lib.hid (HB1.out.stay hu4)
  replace HB2 := Lib.hid (HB2.out.stay hu4)
  replace HB3 := Lib.hid (HB3.out.stay hu4)
  replace HS3 := Lib.hid (HS3.out.stay hu4)
  replace HBO := Lib.hid (hu4.at HBO.out (by simp))
  replace HBI := Lib.hid (hu4.at HBI.out (by simp))
  replace HUW := Lib.hid (HUW.out.thn hu4)
  clear hal hIB hu4
  clear hN4 hG4 HP4
  obtain ⟨his, hne, hs0, hs1, hcs⟩ := HAC.out
  have hle3 : sl3.length ≤ 1000 := by rw [HSL3.out, HNX3.out]; have h1 := next_len g; have h2 := HML.out; omega
  have hle4 : sl4.length ≤ 1000 := by rw [HSL4.out, HNX4.out]; have h1 := next_len pp.1; have h2 := HE2.out.len; omega
  obtain ⟨m, hm⟩ : ∃ m, m = sl4.length := ⟨_, rfl⟩
  have hm0 : 0 < m := by rw [hm, HSL4.out]; exact List.length_pos_iff.2 hne
  have hdw : d1 = g.wd := congrArg Rg.wd HE1.out.eq
  rw [← hdw] at hcs
  have hwb := HMG.out.wd1; have hwb0 := HMG.out.wd0
  rw [← hdw] at hwb hwb0
  rw [his]
  have HIS := Lib.hid his
  have hwa : IntKind.i64.wrap (nx4.2.2.1 + d1) = nx4.2.2.1 + d1 := by rw [IntKind.wrap_i64]; omega
  rw [← HSL3.out, ← HSL4.out] at hcs
  have HCS := Lib.hid hcs
  have hz0 : (m == 0) = false := by simp; omega
  have hz1 : ((m : Int) == 0) = false := by simp; omega
  have HM := Lib.hid hm
  rw [← hm] at hle4 ⊢
  generalize nx4.2.2.1 = st at *
  generalize nx3.2.2.1 = bg at *
  generalize nx3.2.2.2 = sm at *
  clear his hne hcs hdw hwb hm hs0 hs1
  obtain ⟨i0, i1, i2⟩ := cells3 HBI.out
  obtain ⟨b10, b11, b12, b13⟩ := cells4 (show W7.heap[P1]? = some (.cells #[.int .i64 f1, .int .i64 d1, .int .i64 u1, .slice a1 l1.length c1] 24 (0, 0)) from HB1.out.1)
  rcases HCS.out with ⟨hsm, hbe, hwn, hge⟩ | ⟨hg1, hg2, hsm, hbe, hnw⟩ | ⟨hg1, hg2, hno, hnw⟩
  · have y0 : decide (it < st) = false := by simp; omega
    have y1 : decide (st + d1 ≤ it) = true := by simp; omega
    subst hsm
    have yb : (bg == st) = true := by simpa using hbe
    have HSI := Lib.hid (fun V (hv : Upd [] W7 V) => SameItems_has ⟨sl3, sa3, sc3⟩ ⟨sl4, sa4, sc4⟩ V (HS3.out.stay hv).row (HS4.out.stay hv).row (by simp only; omega))
    have hde : decide (sl3 = sl4) = true := by simpa using hwn
    simp only [hde] at HSI
    rw [← HM.out] at HSI
    clear hbe hwn hge hde
    generalize sl3.length = m3 at *
    go_wp2_with fail
    (with_reducible refine (HSI.out _ (Upd.refl [] _)).mono ?_)
    rintro e v1 ⟨rfl, hv1⟩
    go_wp2_with fail
    go_ret
    exact ⟨rfl, HUW.out.thn hv1⟩
  · have y0 : decide (it < st) = false := by simp; omega
    have y1 : decide (st + d1 ≤ it) = false := by simp; omega
    subst hsm
    have yb : (bg == st) = true := by simpa using hbe
    have hml : m = sl3.length + 1 := by rw [HM.out, hnw]; simp
    have hlast : m - 1 < sl4.length := by rw [← HM.out]; omega
    have hel : sl4[m - 1]'hlast = ⟨it, iq, is⟩ := by
      have h3 : m - 1 = sl3.length := by omega
      simp only [h3, hnw]
      simp
    have htk : sl4.take (m - 1) = sl3 := by
      have h3 : m - 1 = sl3.length := by omega
      rw [h3, hnw]; simp
    obtain ⟨b, off, hbo, k0, k1, k2⟩ := HS4.out.row.item (m - 1) hlast
    simp only [hel] at k0 k1 k2
    simp only at hbo
    subst hbo
    have hcap := HS4.out.le
    simp only at hcap
    rw [← HM.out] at hcap
    have HSI := Lib.hid (fun V (hv : Upd [] W7 V) => SameItems_has ⟨sl4.take (m - 1), some ⟨b, off, none⟩, sc4⟩ ⟨sl3, sa3, sc3⟩ V ((HS4.out.stay hv).row.part (m - 1)) (HS3.out.stay hv).row (by simp only [List.length_take]; omega))
    have hde : decide (sl4.take (m - 1) = sl3) = true := by simpa using htk
    have hlt : (sl4.take (m - 1)).length = m - 1 := by rw [List.length_take, ← HM.out]; omega
    simp only [hde, hlt] at HSI
    have hq := eqlItem ⟨it, iq, is⟩ ⟨it, iq, is⟩
    simp only [decide_true] at hq
    have hgd := guardItem
    have hw1 : IntKind.i64.wrap ((m : Int) - 1) = ((m - 1 : Nat) : Int) := by rw [IntKind.wrap_i64]; omega
    have hix : ((m - 1 : Nat) : Int) < (m : Int) := by omega
    have hix0 : (0 : Int) ≤ ((m - 1 : Nat) : Int) := by omega
    have hcz : ((m - 1 : Nat) : Int) ≤ (sc4 : Int) := by omega
    have hcn : m - 1 ≤ sc4 := by omega
    clear hbe hnw hde hel htk hlt hlast hml hg1 hg2
    generalize sl3.length = m3 at *
    go_upto_region 16 with (fail)
    have i0 := kept_at i0; have i1 := kept_at i1; have i2 := kept_at i2; have k0 := kept_at k0; have k1 := kept_at k1; have k2 := kept_at k2
    clear b10 b11 b12 b13
    refine wp_region_quiet_kept mixed (by kernel_rfl) ?_
    repeat (go_big_quiet_step (first | (go_at_call 23; with_reducible exact calls_kept (HSI.out _ (Kept.up _)))))
    refine wpQuiet_nil ?_
    intro V3 hw'
    obtain ⟨⟨Vx, huq⟩, hw''⟩ := hw'
    simp only at hw''
    subst hw''
    go_wp2_with fail
    go_ret
    exact ⟨rfl, HUW.out.thn huq⟩
  · have y0 : decide (it < st) = false := by simp; omega
    have y1 : decide (st + d1 ≤ it) = false := by simp; omega
    have hm1 : m = 1 := by rw [HM.out, hnw]; rfl
    have hlast : 0 < sl4.length := by rw [← HM.out]; omega
    have hel : sl4[0]'hlast = ⟨it, iq, is⟩ := by simp only [hnw]; rfl
    obtain ⟨b, off, hbo, k0, k1, k2⟩ := HS4.out.row.item 0 hlast
    simp only [hel] at k0 k1 k2
    simp only at hbo
    subst hbo
    rw [show off + 0 * 3 = off by omega] at k0 k1 k2
    have hq := eqlItem ⟨it, iq, is⟩ ⟨it, iq, is⟩
    simp only [decide_true] at hq
    have hgd := guardItem
    subst hm1
    clear hel hnw hlast hg1 hg2
    cases sm with
    | true =>
      have hbne : (bg == st) = false := by
        have := hno (by first | rfl | trivial)
        simpa using this
      clear hno
      go_upto_region 17 with (fail)
      have i0 := kept_at i0; have i1 := kept_at i1; have i2 := kept_at i2; have k0 := kept_at k0; have k1 := kept_at k1; have k2 := kept_at k2
      clear b10 b11 b12 b13
      refine wp_region_quiet_kept mixed (by kernel_rfl) ?_
      repeat (go_big_quiet_step (fail))
      refine wpQuiet_nil ?_
      intro V3 hw'
      obtain ⟨⟨Vx, huq⟩, hw''⟩ := hw'
      simp only at hw''
      subst hw''
      go_wp2_with fail
      go_ret
      exact ⟨rfl, HUW.out.thn huq⟩
    | false =>
      clear hno
      go_upto_region 17 with (fail)
      have i0 := kept_at i0; have i1 := kept_at i1; have i2 := kept_at i2; have k0 := kept_at k0; have k1 := kept_at k1; have k2 := kept_at k2
      clear b10 b11 b12 b13
      refine wp_region_quiet_kept mixed (by kernel_rfl) ?_
      repeat (go_big_quiet_step (fail))
      refine wpQuiet_nil ?_
      intro V3 hw'
      obtain ⟨⟨Vx, huq⟩, hw''⟩ := hw'
      simp only at hw''
      subst hw''
      go_wp2_with fail
      go_ret
      exact ⟨rfl, HUW.out.thn huq⟩
end Go.Proofs.Ytmfijhophaeljaa
