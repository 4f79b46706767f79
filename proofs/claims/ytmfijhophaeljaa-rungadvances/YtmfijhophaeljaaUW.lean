/- RungAdvances: the law's walk. -/
import Derived.Test.YtmfijhophaeljaaUU
namespace Go.Proofs.Ytmfijhophaeljaa
open Go.RowKit Go.Lib

theorem advs_no {g : Rg} (h : (nextR g).2.2.2 = false) : curT (nextR g).1 = endT (nextR g).1 ∧ ∀ it, (putR (nextR g).1 it).2 = false := by
  rcases nextR_cases g with ⟨i, _, _, _, e⟩ | ⟨_, e⟩
  · rw [e] at h; simp at h
  · rw [e]
    refine ⟨rfl, fun it => ?_⟩
    rw [putR_no]
    intro hf
    have h1 := hf.1; have h2 := hf.2
    simp only [curT, endT] at h1 h2
    omega
theorem advs_yes {g : Rg} (hg : GoodR g) (h : (nextR g).2.2.2 = true) : (nextR g).2.1 ≠ [] ∧ curT (nextR g).1 = (nextR g).2.2.1 + g.wd ∧ endT (nextR g).1 = endT g ∧ 0 ≤ (nextR g).2.2.1 ∧ (nextR g).2.2.1 ≤ 2305843009213693960 ∧ ∀ it ∈ (nextR g).2.1, (putR (nextR g).1 it).2 = false := by
  rcases nextR_cases g with ⟨i, hi, hne, _, e⟩ | ⟨_, e⟩
  · rw [e]
    have h8 : i < 8 := by rw [hg.len] at hi; exact hi
    have hp := hg.prod (i := i) (by omega) (by omega)
    have h1 := hg.fr0; have h2 := hg.fr1; have h3 := hg.wd1; have h4 := hg.wd0
    have hm : ((i : Int) + 1) * g.wd = (i : Int) * g.wd + g.wd := by rw [Int.add_mul]; omega
    refine ⟨hne, ?_, rfl, by simp only; omega, by simp only; omega, fun it hit => ?_⟩
    · simp only [curT, takeR]
      omega
    · rw [putR_no]
      intro hf
      have hb := (hg.inb i h8 it hit).2
      have hc := hf.1
      simp only [curT, takeR] at hc
      omega
  · rw [e] at h; simp at h
set_option maxRecDepth 100000 in
set_option maxHeartbeats 8000000 in
theorem Advances_any (x0 x1 : Int) (la : Option Addr) (lc : Nat) (os : List Oz) (at3 : Int) (w : World) (h0 : U64 x0) (h1 : U64 x1) (hlm : os.length ≤ maxLen) (ho : Row LO w la os) (hoa : ∀ o ∈ os, U64 o.a) (hk : U64 at3) :
    Calls Try.prog 7 #[.int .u64 x0, .int .u64 x1, .slice la os.length lc, .int .u64 at3] w fun e w' => e = .returned (.bool true) ∧ Upd [] w w' := by
  have HHD := Lib.hid head_true
  have HMD := Lib.hid (fun W (hu : Upd [] w W) => Made_has x0 x1 la lc os W h0 h1 (ho.stay hu) hoa (by simp only [maxLen] at hlm; omega))
  have hmg := made_good h0 h1 os
  have HMG := Lib.hid hmg.1; have HML := Lib.hid hmg.2
  generalize madeR x0 x1 os = g at *
  generalize os.length = L at *
  clear h0 h1 hlm ho hoa hmg
  have HK := Lib.hid hk
  have HUW : Hid (Upd [] w w) := Upd.refl [] w
  go_enter Try.func7, Try.ntmps7
  clear hk
  go_upto_region 2 with (go_at_call 8; (with_reducible refine (HHD.out _).mono ?_); rintro e W1 ⟨rfl, hu0⟩)
  replace HUW := Lib.hid (HUW.out.thn hu0)
  clear hu0 HHD
  go_upto_region 3 with (go_at_call 10; (with_reducible refine (HMD.out _ HUW.out).mono ?_); rintro e w1 ⟨⟨f1, d1, u1, l1, a1, c1⟩, rfl, hN1⟩; unfold encR)
  have HE1 : Hid (Std ⟨f1, d1, u1, ⟨l1, a1, c1⟩⟩ g) := ⟨hN1.eq, HMG.out, by have := HML.out; omega⟩
  have hal := (Upd.refl [] w1).alloc (.cells #[.int .i64 f1, .int .i64 d1, .int .i64 u1, .slice a1 l1.length c1] 24)
  have hIB : InBox w1.heap.size ⟨f1, d1, u1, ⟨l1, a1, c1⟩⟩ (w1.alloc (.cells #[.int .i64 f1, .int .i64 d1, .int .i64 u1, .slice a1 l1.length c1] 24)) := ⟨heap_alloc1 _ _, hN1.has.stay hal⟩
  have hu1 := hN1.upd.thn hal
  have HB1 := Lib.hid hIB
  generalize w1.alloc (.cells #[.int .i64 f1, .int .i64 d1, .int .i64 u1, .slice a1 l1.length c1] 24) = W2 at *
  generalize w1.heap.size = P1 at *
  replace HUW := Lib.hid (HUW.out.thn hu1)
  clear hal hIB hu1
  clear hN1 HMD
  have hP2 := Next_has ⟨f1, d1, u1, ⟨l1, a1, c1⟩⟩ W2 HB1.out.2 HE1.out.g HE1.out.l
  have HXS := Lib.hid (fun (r' : RgR) (e : r'.rg = (nextR (⟨f1, d1, u1, ⟨l1, a1, c1⟩⟩ : RgR).rg).1) => HE1.out.next e)
  rw [HE1.out.eq] at hP2 HXS
  obtain ⟨nx, hnx⟩ : ∃ nx, nx = nextR g := ⟨_, rfl⟩
  have HNQ := Lib.hid hnx
  have HAN := Lib.hid (advs_no (g := g))
  have HAY := Lib.hid (advs_yes HMG.out)
  rw [← hnx] at hP2 HXS HAN HAY
  unfold encR at hP2
  simp only at hP2
  have HP2 := Lib.hid hP2
  clear hP2 hnx
  obtain ⟨b10, b11, b12, b13⟩ := cells4 (show W2.heap[P1]? = some (.cells #[.int .i64 f1, .int .i64 d1, .int .i64 u1, .slice a1 l1.length c1] 24 (0, 0)) from HB1.out.1)
  go_upto_region 4 with (go_at_call 14; (with_reducible refine HP2.out.mono ?_); rintro e w2 ⟨⟨f2, d2, u2, l2, a2, c2⟩, ⟨sl2, sa2, sc2⟩, rfl, hN2, hG2⟩; unfold encR)
  clear b10 b11 b12 b13
  have HE2 : Hid (Std ⟨f2, d2, u2, ⟨l2, a2, c2⟩⟩ nx.1) := HXS.out _ hN2.eq
  have HSL : Hid (sl2 = nx.2.1) := hG2.eq
  have HG2 := Lib.hid hG2.has
  have hal := (Upd.refl [] w2).alloc (.cells #[.int .i64 f2, .int .i64 d2, .int .i64 u2, .slice a2 l2.length c2] 24)
  have hIB : InBox w2.heap.size ⟨f2, d2, u2, ⟨l2, a2, c2⟩⟩ (w2.alloc (.cells #[.int .i64 f2, .int .i64 d2, .int .i64 u2, .slice a2 l2.length c2] 24)) := ⟨heap_alloc1 _ _, hN2.has.stay hal⟩
  have hu2 := hN2.upd.thn hal
  have HB2 := Lib.hid hIB
  have HS2 := Lib.hid (hG2.has.stay hal)
  generalize w2.alloc (.cells #[.int .i64 f2, .int .i64 d2, .int .i64 u2, .slice a2 l2.length c2] 24) = W3 at *
  generalize w2.heap.size = P2 at *
  replace HB1 := Lib.hid (HB1.out.stay hu2)
  replace HUW := Lib.hid (HUW.out.thn hu2)
  clear hal hIB hu2
  clear hN2 hG2 HP2 HXS HG2
  have HNLE : Hid (nx.2.1.length ≤ lenL g.bs) := by show _ ≤ _; rw [HNQ.out]; have := next_len g; omega
  by_cases hok : nx.2.2.2 = true
  case neg =>
    have hok : nx.2.2.2 = false := by simpa using hok
    obtain ⟨hce, hpn⟩ := HAN.out hok
    have HCE := Lib.hid hce
    rw [hok]
    have hCI := fun W' (_ : Upd [] W3 W') => item_has ⟨f2, d2, u2, ⟨l2, a2, c2⟩⟩ ⟨false, at3, 0⟩ W' HE2.out.g HK.out
    have hCP := fun it W' (hu : Upd [] W3 W') => Put_has ⟨f2, d2, u2, ⟨l2, a2, c2⟩⟩ it W' (HB2.out.2.stay hu) HE2.out.g HE2.out.l
    rw [HE2.out.eq] at hCI
    obtain ⟨⟨it, iq, is⟩, hit⟩ : ∃ it, it = itemR nx.1 ⟨false, at3, 0⟩ := ⟨_, rfl⟩
    rw [← hit] at hCI
    have hCP := hCP ⟨it, iq, is⟩
    rw [HE2.out.eq] at hCP
    unfold encR aggO aggI at hCI
    unfold encR aggI at hCP
    simp only at hCI hCP
    have hpf := hpn ⟨it, iq, is⟩
    obtain ⟨pp, hpp⟩ : ∃ pp, pp = putR nx.1 ⟨it, iq, is⟩ := ⟨_, rfl⟩
    rw [← hpp] at hCP hpf
    have HCI := Lib.hid hCI; have HCP := Lib.hid hCP; have HPF := Lib.hid hpf
    clear hit hCI hCP hpp hce hpn hpf hok
    go_upto_region 5 with (fail)
    obtain ⟨b20, b21, b22, b23⟩ := cells4 (show W3.heap[P2]? = some (.cells #[.int .i64 f2, .int .i64 d2, .int .i64 u2, .slice a2 l2.length c2] 24 (0, 0)) from HB2.out.1)
    go_cut [15, 16] (fun vA vB wx => ∃ Q r', vA = .pointer (some ⟨Q, 0, none⟩) ∧ vB = .bool pp.2 ∧ Hid (Boxed W3 ⟨f2, d2, u2, ⟨l2, a2, c2⟩⟩ pp.1 Q wx r'))
    case first =>
      have HKP : Hid (∀ wz, Upd [] W3 wz → wz.cell? ⟨P2, 0, none⟩ = some (.int .i64 f2) ∧ wz.cell? ⟨P2, 1, none⟩ = some (.int .i64 d2) ∧ wz.cell? ⟨P2, 2, none⟩ = some (.int .i64 u2) ∧ wz.cell? ⟨P2, 3, none⟩ = some (.slice a2 l2.length c2)) := fun W' hu => ⟨hu.cell b20 (by simp), hu.cell b21 (by simp), hu.cell b22 (by simp), hu.cell b23 (by simp)⟩
      go_region_held3 (fun wz => wz.cell? ⟨P2, 0, none⟩ = some (.int .i64 f2) ∧ wz.cell? ⟨P2, 1, none⟩ = some (.int .i64 d2) ∧ wz.cell? ⟨P2, 2, none⟩ = some (.int .i64 u2) ∧ wz.cell? ⟨P2, 3, none⟩ = some (.slice a2 l2.length c2)) (first | exact ⟨b20, b21, b22, b23⟩ | (refine HKP.out _ ?_; (repeat (first | exact Upd.refl [] _ | refine Upd.setCell ?_ (fun hl => absurd hl (Nat.not_lt.2 (by first | exact Nat.le_refl _ | exact hui.size | exact Nat.le_trans hui.size hN.upd.size))) _ | refine Upd.drew ?_ | refine Upd.alloc ?_ _ | refine Upd.trans (T := []) ?_ (by assumption) (by simp))))) (first
        | (go_at_call 11; (with_reducible refine (HCI.out _ ?_).mono ?_); (repeat (first | exact Upd.refl [] _ | refine Upd.drew ?_ | refine Upd.alloc ?_ _ | refine Upd.trans (T := []) ?_ (by assumption) (by simp))); rintro e wi ⟨rfl, hui⟩)
        | (go_at_call 12; (with_reducible refine (HCP.out _ ?_).mono ?_); (repeat (first | exact Upd.refl [] _ | refine Upd.drew ?_ | refine Upd.alloc ?_ _ | refine Upd.trans (T := []) ?_ (by assumption) (by simp))); rintro e w' ⟨⟨fr', wd', cu', bl', ba', bc'⟩, rfl, hN⟩; unfold encR; have hu := hN.upd; try (first | (have pb := hu.at (hui.at (heap_alloc1 W3 (.cells #[.int .i64 0, .int .i64 0, .int .i64 0, .slice none 0 0] 24)) (by simp)) (by simp); obtain ⟨x0, x1, x2, x3⟩ := cells4 pb; obtain ⟨y0, y1, y2, y3⟩ := free4 pb; clear pb) | (have pb := hu.at (heap_alloc1 wi (.cells #[.int .i64 0, .int .i64 0, .int .i64 0, .slice none 0 0] 24)) (by simp); obtain ⟨x0, x1, x2, x3⟩ := cells4 pb; obtain ⟨y0, y1, y2, y3⟩ := free4 pb; clear pb))))
      all_goals go_wp2_with fail
      all_goals go_meet
      all_goals case rel =>
        first
          | (have hx0 := x0
             first
               | (have hN2 : Nxt (wi.alloc (.cells #[.int .i64 0, .int .i64 0, .int .i64 0, .slice none 0 0] 24)) ⟨f2, d2, u2, ⟨l2, a2, c2⟩⟩ pp.1 w' ⟨fr', wd', cu', ⟨bl', ba', bc'⟩⟩ := hN
                  refine ⟨wi.heap.size, ⟨fr', wd', cu', ⟨bl', ba', bc'⟩⟩, rfl, rfl, ?_⟩
                  have hb := boxed_at (w := W3) (w1 := wi.alloc (.cells #[.int .i64 0, .int .i64 0, .int .i64 0, .slice none 0 0] 24)) HB2.out.2 (heap_alloc1 wi (.cells #[.int .i64 0, .int .i64 0, .int .i64 0, .slice none 0 0] 24)) hN2 (((Upd.refl [] W3).drew.thn hui).alloc (.cells #[.int .i64 0, .int .i64 0, .int .i64 0, .slice none 0 0] 24)) hui.size
                  simp only at hb
                  exact Lib.hid hb)
               | (refine ⟨W3.heap.size, ⟨fr', wd', cu', ⟨bl', ba', bc'⟩⟩, rfl, rfl, ?_⟩
                  have hb := boxed_at (w := W3) (w1 := wi) HB2.out.2 (hui.at (heap_alloc1 W3 (.cells #[.int .i64 0, .int .i64 0, .int .i64 0, .slice none 0 0] 24)) (by simp)) hN (((Upd.refl [] W3).alloc (.cells #[.int .i64 0, .int .i64 0, .int .i64 0, .slice none 0 0] 24)).drew.thn hui) (Nat.le_refl _)
                  simp only at hb
                  exact Lib.hid hb))
          | (refine ⟨w'.heap.size, ⟨fr', wd', cu', ⟨bl', ba', bc'⟩⟩, rfl, rfl, ?_⟩
             have hb := boxed_last (w := W3) (w1 := wi) hN ((Upd.refl [] W3).drew.thn hui)
             simp only [cellsR] at hb
             exact Lib.hid hb)
    case rest =>
    obtain ⟨P3, r', rfl, rfl, HBX⟩ := hcut
    obtain ⟨f3, d3, u3, l3, a3, c3⟩ := r'
    obtain ⟨W4, hWn⟩ : ∃ x, x = wc := ⟨_, rfl⟩
    subst hWn
    have HB3 : Hid (InBox P3 ⟨f3, d3, u3, ⟨l3, a3, c3⟩⟩ W4) := ⟨HBX.out.blk, HBX.out.nxt.has⟩
    have HE3 := Lib.hid HBX.out.nxt.eq
    have hu3 := HBX.out.nxt.upd
    clear HBX
    clear b20 b21 b22 b23
    replace HB1 := Lib.hid (HB1.out.stay hu3)
    replace HB2 := Lib.hid (HB2.out.stay hu3)
    replace HS2 := Lib.hid (HS2.out.stay hu3)
    replace HUW := Lib.hid (HUW.out.thn hu3)
    clear hu3 HCI HCP
    rw [HPF.out]
    have HC2 := Lib.hid (fun V (hv : Upd [] W4 V) => Current_has ⟨f2, d2, u2, ⟨l2, a2, c2⟩⟩ V HE2.out.g)
    rw [HE2.out.eq] at HC2
    unfold encR at HC2
    simp only at HC2
    have HN2 := Lib.hid (fun V (hv : Upd [] W4 V) => End_has ⟨f2, d2, u2, ⟨l2, a2, c2⟩⟩ V HE2.out.g)
    rw [HE2.out.eq, ← HCE.out] at HN2
    unfold encR at HN2
    simp only at HN2
    generalize curT nx.1 = ct at *
    go_upto_region 6 with (fail)
    obtain ⟨b20, b21, b22, b23⟩ := cells4 (show W4.heap[P2]? = some (.cells #[.int .i64 f2, .int .i64 d2, .int .i64 u2, .slice a2 l2.length c2] 24 (0, 0)) from HB2.out.1)
    have b20 := kept_at b20
    have b21 := kept_at b21
    have b22 := kept_at b22
    have b23 := kept_at b23
    refine wp_region_quiet_kept mixed (by kernel_rfl) ?_
    repeat (go_big_quiet_step (first | (go_at_call 26; with_reducible exact calls_kept (HC2.out _ (Kept.up _))) | (go_at_call 28; with_reducible exact calls_kept (HN2.out _ (Kept.up _)))))
    refine wpQuiet_nil ?_
    intro V3 hw'
    obtain ⟨⟨Vx, huq⟩, hw''⟩ := hw'
    simp only at hw''
    subst hw'' 
    clear b20 b21 b22 b23
    go_wp2_with fail
    go_ret
    exact ⟨rfl, HUW.out.thn huq⟩
  obtain ⟨hne, hcu, hen, hs0, hs1, hpn⟩ := HAY.out hok
  rw [hok]
  have HCU := Lib.hid hcu; have HEN := Lib.hid hen
  obtain ⟨m, hm⟩ : ∃ m, m = sl2.length := ⟨_, rfl⟩
  have hm0 : 0 < m := by rw [hm, HSL.out]; exact List.length_pos_iff.2 hne
  have hmb : m ≤ 100 := by have h1 := next_len g; have h2 := HML.out; rw [hm, HSL.out]; have h3 := HNLE.out; omega
  obtain ⟨j, hj⟩ : ∃ j, j = (at3 % (m : Int)).toNat := ⟨_, rfl⟩
  have hk0 := HK.out.1; have hk1 := HK.out.2
  have hj0 := Int.emod_nonneg at3 (show (m : Int) ≠ 0 by omega)
  have hj1 := Int.emod_lt_of_pos at3 (show 0 < (m : Int) by omega)
  have hjm : j < m := by omega
  have hje : at3 % (m : Int) = (j : Int) := by omega
  have hjl : j < sl2.length := by omega
  obtain ⟨b, off, hbo, k0, k1, k2⟩ := HS2.out.row.item j hjl
  simp only at hbo k0 k1 k2
  have hmem := List.getElem_mem hjl
  obtain ⟨⟨it, iq, is⟩, hit⟩ : ∃ it, it = sl2[j]'hjl := ⟨_, rfl⟩
  rw [← hit] at k0 k1 k2 hmem
  simp only at k0 k1 k2
  have hpf := hpn ⟨it, iq, is⟩ (by rw [← HSL.out]; exact hmem)
  have hCP := fun W' (hu : Upd [] W3 W') => Put_has ⟨f2, d2, u2, ⟨l2, a2, c2⟩⟩ ⟨it, iq, is⟩ W' (HB2.out.2.stay hu) HE2.out.g HE2.out.l
  rw [HE2.out.eq] at hCP
  unfold encR aggI at hCP
  simp only at hCP
  obtain ⟨pp, hpp⟩ : ∃ pp, pp = putR nx.1 ⟨it, iq, is⟩ := ⟨_, rfl⟩
  rw [← hpp] at hCP hpf
  have HCP := Lib.hid hCP; have HPF := Lib.hid hpf
  have z1 : IntKind.u64.wrap (m : Int) = (m : Int) := by rw [IntKind.wrap_u64]; omega
  have z2 : at3.tmod (m : Int) = (j : Int) := by rw [Int.tmod_eq_emod_of_nonneg hk0]; exact hje
  have z3 : IntKind.u64.wrap (j : Int) = (j : Int) := by rw [IntKind.wrap_u64]; omega
  have z4 : IntKind.i64.wrap (j : Int) = (j : Int) := by rw [IntKind.wrap_i64]; omega
  have z5 : ((m : Int) == 0) = false := by simp; omega
  have z6 : (j : Int) < (m : Int) := by omega
  have z7 : (m == 0) = false := by simp; omega
  have z8 : ¬ m = 0 := by omega
  have z9 : ¬ (m : Int) = 0 := by omega
  rw [← hm]
  have HM := Lib.hid hm
  clear hit hCP hpp hpf hpn hmem hne hm hje hj hj0 hj1 hjl hk0 hk1 hcu hen
  subst hbo
  go_upto_region 9 with (fail)
  obtain ⟨b20, b21, b22, b23⟩ := cells4 (show W3.heap[P2]? = some (.cells #[.int .i64 f2, .int .i64 d2, .int .i64 u2, .slice a2 l2.length c2] 24 (0, 0)) from HB2.out.1)
  go_cut [17, 18] (fun vA vB wx => ∃ Q r', vA = .pointer (some ⟨Q, 0, none⟩) ∧ vB = .bool pp.2 ∧ Hid (Boxed W3 ⟨f2, d2, u2, ⟨l2, a2, c2⟩⟩ pp.1 Q wx r'))
  case first =>
    have HKP : Hid (∀ wz, Upd [] W3 wz → wz.cell? ⟨P2, 0, none⟩ = some (.int .i64 f2) ∧ wz.cell? ⟨P2, 1, none⟩ = some (.int .i64 d2) ∧ wz.cell? ⟨P2, 2, none⟩ = some (.int .i64 u2) ∧ wz.cell? ⟨P2, 3, none⟩ = some (.slice a2 l2.length c2) ∧ wz.cell? ⟨b, off + j * 3, none⟩ = some (.int .i64 it) ∧ wz.cell? ⟨b, off + j * 3 + 1, none⟩ = some (.int .i64 iq) ∧ wz.cell? ⟨b, off + j * 3 + 2, none⟩ = some (.int .i64 is)) := fun W' hu => ⟨hu.cell b20 (by simp), hu.cell b21 (by simp), hu.cell b22 (by simp), hu.cell b23 (by simp), hu.cell k0 (by simp), hu.cell k1 (by simp), hu.cell k2 (by simp)⟩
    go_region_held3 (fun wz => wz.cell? ⟨P2, 0, none⟩ = some (.int .i64 f2) ∧ wz.cell? ⟨P2, 1, none⟩ = some (.int .i64 d2) ∧ wz.cell? ⟨P2, 2, none⟩ = some (.int .i64 u2) ∧ wz.cell? ⟨P2, 3, none⟩ = some (.slice a2 l2.length c2) ∧ wz.cell? ⟨b, off + j * 3, none⟩ = some (.int .i64 it) ∧ wz.cell? ⟨b, off + j * 3 + 1, none⟩ = some (.int .i64 iq) ∧ wz.cell? ⟨b, off + j * 3 + 2, none⟩ = some (.int .i64 is)) (first | exact ⟨b20, b21, b22, b23, k0, k1, k2⟩ | (refine HKP.out _ ?_; (repeat (first | exact Upd.refl [] _ | refine Upd.setCell ?_ (fun hl => absurd hl (Nat.not_lt.2 (by first | exact Nat.le_refl _ | exact hN.upd.size))) _ | refine Upd.drew ?_ | refine Upd.alloc ?_ _ | refine Upd.trans (T := []) ?_ (by assumption) (by simp))))) (first
      | (go_at_call 12; (with_reducible refine (HCP.out _ ?_).mono ?_); (repeat (first | exact Upd.refl [] _ | refine Upd.drew ?_ | refine Upd.alloc ?_ _ | refine Upd.trans (T := []) ?_ (by assumption) (by simp))); rintro e w' ⟨⟨fr', wd', cu', bl', ba', bc'⟩, rfl, hN⟩; unfold encR; have hu := hN.upd; try (have pb := hu.at (heap_alloc1 W3 (.cells #[.int .i64 0, .int .i64 0, .int .i64 0, .slice none 0 0] 24)) (by simp); obtain ⟨x0, x1, x2, x3⟩ := cells4 pb; obtain ⟨y0, y1, y2, y3⟩ := free4 pb; clear pb)))
    all_goals go_wp2_with fail
    all_goals go_meet
    all_goals case rel =>
      first
        | (have hx0 := x0
           refine ⟨W3.heap.size, ⟨fr', wd', cu', ⟨bl', ba', bc'⟩⟩, rfl, rfl, ?_⟩
           have hb := boxed_at (w := W3) (w1 := (W3.alloc (.cells #[.int .i64 0, .int .i64 0, .int .i64 0, .slice none 0 0] 24)).drew) HB2.out.2 (heap_alloc1 W3 (.cells #[.int .i64 0, .int .i64 0, .int .i64 0, .slice none 0 0] 24)) hN ((Upd.refl [] W3).alloc (.cells #[.int .i64 0, .int .i64 0, .int .i64 0, .slice none 0 0] 24)).drew (Nat.le_refl _)
           simp only at hb
           exact Lib.hid hb)
        | (refine ⟨w'.heap.size, ⟨fr', wd', cu', ⟨bl', ba', bc'⟩⟩, rfl, rfl, ?_⟩
           have hb := boxed_last (w := W3) (w1 := W3.drew) hN (Upd.refl [] W3).drew
           simp only [cellsR] at hb
           exact Lib.hid hb)
  case rest =>
  obtain ⟨P3, r', rfl, rfl, HBX⟩ := hcut
  obtain ⟨f3, d3, u3, l3, a3, c3⟩ := r'
  obtain ⟨W4, hWn⟩ : ∃ x, x = wc := ⟨_, rfl⟩
  subst hWn
  have HB3 : Hid (InBox P3 ⟨f3, d3, u3, ⟨l3, a3, c3⟩⟩ W4) := ⟨HBX.out.blk, HBX.out.nxt.has⟩
  have hu3 := HBX.out.nxt.upd
  clear HBX
  clear b20 b21 b22 b23
  clear k0 k1 k2
  replace HB1 := Lib.hid (HB1.out.stay hu3)
  replace HB2 := Lib.hid (HB2.out.stay hu3)
  replace HS2 := Lib.hid (HS2.out.stay hu3)
  replace HUW := Lib.hid (HUW.out.thn hu3)
  clear hu3 HCP
  rw [HPF.out]
  have HC2 := Lib.hid (fun V (hv : Upd [] W4 V) => Current_has ⟨f2, d2, u2, ⟨l2, a2, c2⟩⟩ V HE2.out.g)
  rw [HE2.out.eq, HCU.out] at HC2
  unfold encR at HC2
  simp only at HC2
  have HN2 := Lib.hid (fun V (hv : Upd [] W4 V) => End_has ⟨f2, d2, u2, ⟨l2, a2, c2⟩⟩ V HE2.out.g)
  rw [HE2.out.eq, HEN.out] at HN2
  unfold encR at HN2
  simp only at HN2
  have HN1 := Lib.hid (fun V (hv : Upd [] W4 V) => End_has ⟨f1, d1, u1, ⟨l1, a1, c1⟩⟩ V HE1.out.g)
  rw [HE1.out.eq] at HN1
  unfold encR at HN1
  simp only at HN1
  have hd1 : d1 = g.wd := congrArg Rg.wd HE1.out.eq
  rw [← hd1] at HC2
  have hwb := HMG.out.wd1; have hwb0 := HMG.out.wd0
  rw [← hd1] at hwb hwb0
  have hwa : IntKind.i64.wrap (nx.2.2.1 + d1) = nx.2.2.1 + d1 := by rw [IntKind.wrap_i64]; omega
  clear hd1 hwb hwb0 hs0 hs1
  generalize nx.2.2.1 = st at *
  generalize endT g = et at *
  go_upto_region 10 with (fail)
  obtain ⟨b20, b21, b22, b23⟩ := cells4 (show W4.heap[P2]? = some (.cells #[.int .i64 f2, .int .i64 d2, .int .i64 u2, .slice a2 l2.length c2] 24 (0, 0)) from HB2.out.1)
  obtain ⟨b10, b11, b12, b13⟩ := cells4 (show W4.heap[P1]? = some (.cells #[.int .i64 f1, .int .i64 d1, .int .i64 u1, .slice a1 l1.length c1] 24 (0, 0)) from HB1.out.1)
  have b20 := kept_at b20
  have b21 := kept_at b21
  have b22 := kept_at b22
  have b23 := kept_at b23
  have b10 := kept_at b10
  have b11 := kept_at b11
  have b12 := kept_at b12
  have b13 := kept_at b13
  refine wp_region_quiet_kept mixed (by kernel_rfl) ?_
  repeat (go_big_quiet_step (first | (go_at_call 26; with_reducible exact calls_kept (HC2.out _ (Kept.up _))) | (go_at_call 28; with_reducible exact calls_kept (HN2.out _ (Kept.up _))) | (go_at_call 28; with_reducible exact calls_kept (HN1.out _ (Kept.up _)))))
  refine wpQuiet_nil ?_
  intro V3 hw'
  obtain ⟨⟨Vx, huq⟩, hw''⟩ := hw'
  simp only at hw''
  subst hw'' 
  clear b20 b21 b22 b23
  clear b10 b11 b12 b13
  go_wp2_with fail
  go_ret
  exact ⟨rfl, HUW.out.thn huq⟩
end Go.Proofs.Ytmfijhophaeljaa
