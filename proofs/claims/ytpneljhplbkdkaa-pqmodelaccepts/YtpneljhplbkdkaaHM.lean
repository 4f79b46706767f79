
/- Contract of layer 10: the program's Valid. -/
import Derived.Test.YtpneljhplbkdkaaHL
import Derived.Test.YtpneljhplbkdkaaAM
namespace Go.Proofs.Ytpneljhplbkdkaa
open Go.RowKit Go.Lib

/-- No entry stands behind one that it should precede. -/
def AdjE (l : List En) : Prop := ∀ i (h : i + 1 < l.length), ¬ ltE l[i + 1] (l[i]'(by omega))
noncomputable def adjB (l : List En) : Bool := @decide (AdjE l) (Classical.propDecidable _)
theorem adjB_iff {l : List En} : adjB l = true ↔ AdjE l := @decide_eq_true_iff _ (Classical.propDecidable _)
theorem adjB_no {l : List En} (h : ¬ AdjE l) : adjB l = false := by
  rcases e : adjB l with _ | _
  · rfl
  · exact absurd (adjB_iff.1 e) h
set_option maxRecDepth 100000 in
set_option maxHeartbeats 4000000 in
theorem Sorted_has (a : Option Addr) (c : Nat) (l : List En) (w : World) (hr : Row LE w a l) (hl : l.length ≤ 1000000) :
    Calls Try.prog 43 #[.slice a l.length c, .func (.func 44) #[] #[]] w fun e w' => e = .returned (.bool (adjB l)) ∧ Upd [] w w' := by
  have HR := Lib.hid hr
  have HCI := Lib.hid (fun (x y : En) W => PCmp_has x y W)
  have H1 : Hid ((∀ i (h : i + 1 < l.length), ¬ ltE l[i + 1] (l[i]'(by omega))) → adjB l = true) := fun h => adjB_iff.2 h
  have H2 : Hid (∀ i (h : i + 1 < l.length), ltE l[i + 1] (l[i]'(by omega)) → adjB l = false) := fun i h hl => adjB_no (fun ha => ha i h hl)
  generalize adjB l = r at *
  obtain ⟨n, hn⟩ : ∃ n, n = l.length := ⟨_, rfl⟩
  have HN := Lib.hid hn
  rw [← hn] at hl ⊢
  clear hr hn
  have hwn : IntKind.i64.wrap ((n : Int) - 1) = (n : Int) - 1 := by rw [IntKind.wrap_i64]; omega
  have eg : ∀ args w, (callFunc 44 args).run Try.prog w = .ok (.enter 44 args) w := enters_of Try.func44 (by kernel_rfl) rfl
  go_enter Try.func43, Try.ntmps43
  go_wp2_with fail
  go_loopg [5] n (fun gk vi wr => ∃ z : Int, vi = .int .i64 z ∧ Hid (z = (gk : Int) - 1 ∧ gk ≤ n) ∧ Hid (Upd [] w wr) ∧ Hid (∀ i (h : i + 1 < l.length), z < (i : Int) + 1 → ¬ ltE l[i + 1] (l[i]'(by omega))))
  case atStart => exact ⟨(n : Int) - 1, rfl, Lib.hid ⟨rfl, Nat.le_refl _⟩, Upd.refl _ _, fun i h hi => by have := HN.out; omega⟩
  case round =>
    obtain ⟨z, rfl, HZ, HUR, HF⟩ := hrel
    by_cases hz : 0 < z
    · obtain ⟨j, rfl⟩ : ∃ j : Nat, z = (j : Int) + 1 := ⟨(z - 1).toNat, by omega⟩
      have hj : j + 1 < l.length := by have h1 := HZ.out; have h2 := HN.out; omega
      have hjn : (j : Int) + 1 < (n : Int) := by have h1 := HN.out; omega
      have hjn2 : (j : Int) < (n : Int) := by omega
      have hw1 : IntKind.i64.wrap ((j : Int) + 1 - 1) = (j : Int) := by rw [IntKind.wrap_i64]; omega
      have hw2 : (j : Int) + 1 - 1 = (j : Int) := by omega
      have d0 : decide ((0 : Int) < (j : Int) + 1) = true := decide_eq_true (by omega)
      obtain ⟨b, off, hbo, x0, x1, x2, x3⟩ := (HR.out.stay HUR.out).ent j (by omega)
      subst hbo
      obtain ⟨b', off', hbo, y0, y1, y2, y3⟩ := (HR.out.stay HUR.out).ent (j + 1) hj
      simp only [Option.some.injEq, Addr.mk.injEq, and_true] at hbo
      obtain ⟨rfl, rfl⟩ := hbo
      have HCK := Lib.hid (HCI.out l[j + 1] (l[j]'(by omega)))
      have HLT : Hid (¬ cmpE l[j + 1] (l[j]'(by omega)) < 0 → ∀ i (h : i + 1 < l.length), (j : Int) < (i : Int) + 1 → ¬ ltE l[i + 1] (l[i]'(by omega))) := fun hc i h hi => by
        by_cases e : i = j
        · subst e; exact fun hl => hc (cmpE_lt.2 hl)
        · exact HF.out i h (by omega)
      have HNL : Hid (cmpE l[j + 1] (l[j]'(by omega)) < 0 → r = false) := fun hc => H2.out j hj (cmpE_lt.1 hc)
      generalize cmpE l[j + 1] (l[j]'(by omega)) = cc at *
      generalize (l[j]'(by omega)).t = a0 at *
      generalize (l[j]'(by omega)).q = a1 at *
      generalize (l[j]'(by omega)).h = a2 at *
      generalize (l[j]'(by omega)).d = a3 at *
      generalize l[j + 1].t = e0 at *
      generalize l[j + 1].q = e1 at *
      generalize l[j + 1].h = e2 at *
      generalize l[j + 1].d = e3 at *
      have j0 := kept_at x0; have j1 := kept_at x1; have j2 := kept_at x2; have j3 := kept_at x3
      have k0 := kept_at y0; have k1 := kept_at y1; have k2 := kept_at y2; have k3 := kept_at y3
      clear x0 x1 x2 x3 y0 y1 y2 y3
      go_upto_region 4 with (fail)
      refine wp_region_quiet_kept mixed (by kernel_rfl) ?_
      repeat (go_big_quiet_step (first | (go_at_call 44; exact calls_kept (HCK.out _))))
      refine wpQuiet_nil ?_
      intro Wx hw'
      obtain ⟨⟨Wy, hu⟩, hw''⟩ := hw'
      simp only at hw''
      subst hw''
      clear j0 j1 j2 j3 k0 k1 k2 k3
      have HUX := Lib.hid (HUR.out.thn hu)
      clear hu
      by_cases hc : cc < 0
      · have hd : decide (cc < 0) = true := decide_eq_true hc
        have HE := Lib.hid (HNL.out hc)
        go_wp2_with fail
        go_ret
        exact ⟨ret_bool HE.out.symm, HUX.out⟩
      · have hd : decide (cc < 0) = false := decide_eq_false hc
        have HLT2 := Lib.hid (HLT.out hc)
        go_wp2_with fail
        go_roundg (j + 1)
        case measure => have := HZ.out; omega
        case rel => exact ⟨(j : Int), by go_num, Lib.hid ⟨by omega, by have := HZ.out; omega⟩, HUX, HLT2⟩
    · have d0 : decide ((0 : Int) < z) = false := decide_eq_false hz
      have HE := Lib.hid (H1.out (fun i h => HF.out i h (by omega)))
      go_wp2_with fail
      go_ret
      exact ⟨ret_bool HE.out.symm, HUR.out⟩
def issB (is : List Int) : Bool := is.all okH && decide is.Nodup
set_option maxRecDepth 100000 in
set_option maxHeartbeats 2000000 in
theorem PIss_has (a : Option Addr) (c : Nat) (l : List Int) (w : World) (hr : Row LN w a l) (hl : l.length ≤ 1000000) :
    Calls Try.prog 25 #[.slice a l.length c] w fun e w' => e = .returned (.bool (issB l)) ∧ Upd [] w w' := by
  have HAL := Lib.hid (AllN_has a c l w hr hl)
  have HDI : Hid (l.all okH = true → ∀ W, Upd [] w W → Calls Try.prog 38 #[.slice a l.length c, .func (.func 39) #[] #[]] W fun e w' => e = .returned (.bool (decide l.Nodup)) ∧ Upd [] W w') := fun h W hu => by
    have := DistN_has a c l W (hr.stay hu) hl (fun x hx => by have := okH_yes.1 (List.all_eq_true.1 h x hx); exact ⟨by omega, by omega⟩)
    simp only [List.map_id'] at this
    exact this
  unfold issB
  generalize l.all okH = b1 at *
  generalize decide l.Nodup = b2 at *
  generalize l.length = n at *
  clear hr hl
  cases b1 with
  | false =>
    clear HDI
    go_enter Try.func25, Try.ntmps25
    go_wp2_with (go_at_call 36; (with_reducible refine HAL.out.mono ?_); rintro e w1 ⟨rfl, hu1⟩; have HU1 := Lib.hid hu1; clear hu1)
    go_ret
    exact ⟨rfl, HU1.out⟩
  | true =>
    have HD := Lib.hid (HDI.out rfl)
    clear HDI
    go_enter Try.func25, Try.ntmps25
    go_wp2_with (first | (go_at_call 36; (with_reducible refine HAL.out.mono ?_); rintro e w1 ⟨rfl, hu1⟩; have HU1 := Lib.hid hu1; clear hu1) | (go_at_call 38; (with_reducible refine (HD.out _ HU1.out).mono ?_); rintro e w2 ⟨rfl, hu2⟩; have HU2 := Lib.hid (HU1.out.thn hu2); clear hu2))
    go_ret
    exact ⟨ret_bool (by simp), HU2.out⟩
noncomputable def entsB (m : Md) : Bool := m.es.all (entB m.nx m.is) && adjB m.es && decide (m.es.map (fun x => x.q)).Nodup && decide (m.es.map (fun x => x.h)).Nodup
set_option maxRecDepth 100000 in
set_option maxHeartbeats 4000000 in
theorem PEnts_has (m : MdR) (w : World) (hm : HasM w m) (hl : m.es.l.length ≤ 1000000) (hi : m.is.l.length ≤ 1000000) (hn : m.nx = (m.is.l.length : Int)) (hok : m.is.l.all okH = true) :
    Calls Try.prog 26 #[encM m] w fun e w' => e = .returned (.bool (entsB m.md)) ∧ Upd [] w w' := by
  have HAL := Lib.hid (fun B W (hu : Upd [] w W) (hB : W.heap[B]? = some (.cells (cellsM m) 25 (0, 0))) => AllE_has m.es.ad m.es.cap m.es.l ⟨B, 0, none⟩ (entB m.nx m.is.l) W (hm.es.row.stay hu) hl (fun x W2 hu2 => VEnt1_has B m x W2 (hm.stay (hu.thn hu2)) hi (hu2.at hB (by simp))))
  have HSO := Lib.hid (fun W (hu : Upd [] w W) => Sorted_has m.es.ad m.es.cap m.es.l W (hm.es.row.stay hu) hl)
  have hent : m.es.l.all (entB m.nx m.is.l) = true → ∀ x ∈ m.es.l, InR x.q ∧ InR x.h := fun h x hx => by
    have h1 := List.all_eq_true.1 h x hx
    unfold entB at h1
    simp only [Bool.and_eq_true, decide_eq_true_eq] at h1
    have h2 := okH_yes.1 (List.all_eq_true.1 hok x.h h1.2)
    exact ⟨⟨by omega, by omega⟩, ⟨by omega, by omega⟩⟩
  have HDQ := Lib.hid (fun (h : m.es.l.all (entB m.nx m.is.l) = true) W (hu : Upd [] w W) => DistQ_has m.es.ad m.es.cap m.es.l W (hm.es.row.stay hu) hl (fun x hx => (hent h x hx).1))
  have HDH := Lib.hid (fun (h : m.es.l.all (entB m.nx m.is.l) = true) W (hu : Upd [] w W) => DistH_has m.es.ad m.es.cap m.es.l W (hm.es.row.stay hu) hl (fun x hx => (hent h x hx).2))
  clear hent
  obtain ⟨cap, ⟨es, ea, ec⟩, nx, ⟨is, ia, ic⟩⟩ := m
  unfold entsB MdR.md encM
  unfold cellsM at HAL ⊢
  simp only at HAL HSO HDQ HDH ⊢
  generalize es.all (entB nx is) = b1 at *
  generalize adjB es = b2 at *
  generalize decide (es.map (fun x => x.q)).Nodup = b3 at *
  generalize decide (es.map (fun x => x.h)).Nodup = b4 at *
  generalize es.length = n at *
  generalize is.length = q at *
  clear hm hl hi hn hok
  cases b1 with
  | false =>
    clear HSO HDQ HDH
    go_enter Try.func26, Try.ntmps26
    go_upto_region 1 with (fail)
    have hu0 := (Upd.refl [] w).alloc (.cells #[.int .i64 cap, .slice ea n ec, .int .i64 nx, .slice ia q ic] 25)
    have b0 := heap_alloc1 w (.cells #[.int .i64 cap, .slice ea n ec, .int .i64 nx, .slice ia q ic] 25)
    generalize w.alloc (.cells #[.int .i64 cap, .slice ea n ec, .int .i64 nx, .slice ia q ic] 25) = W0 at *
    generalize w.heap.size = P at *
    have HU0 := Lib.hid hu0; have HB0 := Lib.hid b0
    have HA1 := Lib.hid (HAL.out P W0 hu0 b0)
    clear hu0 b0
    obtain ⟨m0, m1, m2, m3⟩ := cells4 HB0.out
    go_wp2_with (first | (go_at_call 40; (with_reducible refine (HA1.out).mono ?_); rintro e w1 ⟨rfl, hu1⟩; have HU1 := Lib.hid (HU0.out.thn hu1); have HB1 := Lib.hid (hu1.at HB0.out (by simp)); clear hu1 m0 m1 m2 m3; obtain ⟨m0, m1, m2, m3⟩ := cells4 HB1.out))
    go_ret
    exact ⟨ret_bool (by first | rfl | simp), HU1.out⟩
  | true =>
    have HQ := Lib.hid (HDQ.out rfl); have HH := Lib.hid (HDH.out rfl)
    clear HDQ HDH
    cases b2 with
    | false =>
      clear HQ HH
      go_enter Try.func26, Try.ntmps26
      go_upto_region 1 with (fail)
      have hu0 := (Upd.refl [] w).alloc (.cells #[.int .i64 cap, .slice ea n ec, .int .i64 nx, .slice ia q ic] 25)
      have b0 := heap_alloc1 w (.cells #[.int .i64 cap, .slice ea n ec, .int .i64 nx, .slice ia q ic] 25)
      generalize w.alloc (.cells #[.int .i64 cap, .slice ea n ec, .int .i64 nx, .slice ia q ic] 25) = W0 at *
      generalize w.heap.size = P at *
      have HU0 := Lib.hid hu0; have HB0 := Lib.hid b0
      have HA1 := Lib.hid (HAL.out P W0 hu0 b0)
      clear hu0 b0
      obtain ⟨m0, m1, m2, m3⟩ := cells4 HB0.out
      go_wp2_with (first | (go_at_call 40; (with_reducible refine (HA1.out).mono ?_); rintro e w1 ⟨rfl, hu1⟩; have HU1 := Lib.hid (HU0.out.thn hu1); have HB1 := Lib.hid (hu1.at HB0.out (by simp)); clear hu1 m0 m1 m2 m3; obtain ⟨m0, m1, m2, m3⟩ := cells4 HB1.out) | (go_at_call 43; (with_reducible refine (HSO.out _ HU1.out).mono ?_); rintro e w2 ⟨rfl, hu2⟩; have HU2 := Lib.hid (HU1.out.thn hu2); have HB2 := Lib.hid (hu2.at HB1.out (by simp)); clear hu2 m0 m1 m2 m3; obtain ⟨m0, m1, m2, m3⟩ := cells4 HB2.out))
      go_ret
      exact ⟨ret_bool (by first | rfl | simp), HU2.out⟩
    | true =>
      cases b3 with
      | false =>
        clear HH
        go_enter Try.func26, Try.ntmps26
        go_upto_region 1 with (fail)
        have hu0 := (Upd.refl [] w).alloc (.cells #[.int .i64 cap, .slice ea n ec, .int .i64 nx, .slice ia q ic] 25)
        have b0 := heap_alloc1 w (.cells #[.int .i64 cap, .slice ea n ec, .int .i64 nx, .slice ia q ic] 25)
        generalize w.alloc (.cells #[.int .i64 cap, .slice ea n ec, .int .i64 nx, .slice ia q ic] 25) = W0 at *
        generalize w.heap.size = P at *
        have HU0 := Lib.hid hu0; have HB0 := Lib.hid b0
        have HA1 := Lib.hid (HAL.out P W0 hu0 b0)
        clear hu0 b0
        obtain ⟨m0, m1, m2, m3⟩ := cells4 HB0.out
        go_wp2_with (first | (go_at_call 40; (with_reducible refine (HA1.out).mono ?_); rintro e w1 ⟨rfl, hu1⟩; have HU1 := Lib.hid (HU0.out.thn hu1); have HB1 := Lib.hid (hu1.at HB0.out (by simp)); clear hu1 m0 m1 m2 m3; obtain ⟨m0, m1, m2, m3⟩ := cells4 HB1.out) | (go_at_call 43; (with_reducible refine (HSO.out _ HU1.out).mono ?_); rintro e w2 ⟨rfl, hu2⟩; have HU2 := Lib.hid (HU1.out.thn hu2); have HB2 := Lib.hid (hu2.at HB1.out (by simp)); clear hu2 m0 m1 m2 m3; obtain ⟨m0, m1, m2, m3⟩ := cells4 HB2.out) | (go_at_call 45; (with_reducible refine (HQ.out _ HU2.out).mono ?_); rintro e w3 ⟨rfl, hu3⟩; have HU3 := Lib.hid (HU2.out.thn hu3); have HB3 := Lib.hid (hu3.at HB2.out (by simp)); clear hu3 m0 m1 m2 m3; obtain ⟨m0, m1, m2, m3⟩ := cells4 HB3.out))
        go_ret
        exact ⟨ret_bool (by first | rfl | simp), HU3.out⟩
      | true =>
        go_enter Try.func26, Try.ntmps26
        go_upto_region 1 with (fail)
        have hu0 := (Upd.refl [] w).alloc (.cells #[.int .i64 cap, .slice ea n ec, .int .i64 nx, .slice ia q ic] 25)
        have b0 := heap_alloc1 w (.cells #[.int .i64 cap, .slice ea n ec, .int .i64 nx, .slice ia q ic] 25)
        generalize w.alloc (.cells #[.int .i64 cap, .slice ea n ec, .int .i64 nx, .slice ia q ic] 25) = W0 at *
        generalize w.heap.size = P at *
        have HU0 := Lib.hid hu0; have HB0 := Lib.hid b0
        have HA1 := Lib.hid (HAL.out P W0 hu0 b0)
        clear hu0 b0
        obtain ⟨m0, m1, m2, m3⟩ := cells4 HB0.out
        go_wp2_with (first | (go_at_call 40; (with_reducible refine (HA1.out).mono ?_); rintro e w1 ⟨rfl, hu1⟩; have HU1 := Lib.hid (HU0.out.thn hu1); have HB1 := Lib.hid (hu1.at HB0.out (by simp)); clear hu1 m0 m1 m2 m3; obtain ⟨m0, m1, m2, m3⟩ := cells4 HB1.out) | (go_at_call 43; (with_reducible refine (HSO.out _ HU1.out).mono ?_); rintro e w2 ⟨rfl, hu2⟩; have HU2 := Lib.hid (HU1.out.thn hu2); have HB2 := Lib.hid (hu2.at HB1.out (by simp)); clear hu2 m0 m1 m2 m3; obtain ⟨m0, m1, m2, m3⟩ := cells4 HB2.out) | (go_at_call 45; (with_reducible refine (HQ.out _ HU2.out).mono ?_); rintro e w3 ⟨rfl, hu3⟩; have HU3 := Lib.hid (HU2.out.thn hu3); have HB3 := Lib.hid (hu3.at HB2.out (by simp)); clear hu3 m0 m1 m2 m3; obtain ⟨m0, m1, m2, m3⟩ := cells4 HB3.out) | (go_at_call 45; (with_reducible refine (HH.out _ HU3.out).mono ?_); rintro e w4 ⟨rfl, hu4⟩; have HU4 := Lib.hid (HU3.out.thn hu4); have HB4 := Lib.hid (hu4.at HB3.out (by simp)); clear hu4 m0 m1 m2 m3; obtain ⟨m0, m1, m2, m3⟩ := cells4 HB4.out))
        go_ret
        exact ⟨ret_bool (by first | rfl | simp), HU4.out⟩
theorem ord_of {l : List En} (ha : AdjE l) (hq : (l.map (fun x => x.q)).Nodup) (hh : (l.map (fun x => x.h)).Nodup) : l.Pairwise (fun f e => f.q ≠ e.q ∧ f.h ≠ e.h ∧ ltE f e) := by
  have hq' : ∀ i j (hi : i < l.length) (hj : j < l.length), i < j → l[i].q ≠ l[j].q := fun i j hi hj hij => by
    have := (List.pairwise_iff_getElem.1 hq) i j (by simpa using hi) (by simpa using hj) hij
    simpa using this
  have hh' : ∀ i j (hi : i < l.length) (hj : j < l.length), i < j → l[i].h ≠ l[j].h := fun i j hi hj hij => by
    have := (List.pairwise_iff_getElem.1 hh) i j (by simpa using hi) (by simpa using hj) hij
    simpa using this
  have hn : ∀ i (h : i + 1 < l.length), ltE (l[i]'(by omega)) l[i + 1] := fun i h => by
    have h1 := ha i h
    have h2 := hq' i (i + 1) (by omega) h (by omega)
    unfold ltE at *
    omega
  rw [List.pairwise_iff_getElem]
  intro i j hi hj hij
  refine ⟨hq' i j hi hj hij, hh' i j hi hj hij, ?_⟩
  obtain ⟨d, rfl⟩ : ∃ d, j = i + 1 + d := ⟨j - (i + 1), by omega⟩
  clear hij
  induction d with
  | zero => exact hn i hj
  | succ d ih =>
    have h1 := ih (by omega)
    have h2 := hn (i + 1 + d) hj
    unfold ltE at *
    simp only [show i + 1 + (d + 1) = i + 1 + d + 1 by omega] at *
    omega
theorem ents_ok {m : Md} : (inB 1 64 m.cap && decide ((m.es.length : Int) ≤ m.cap) && decide (m.nx = (m.is.length : Int)) && issB m.is && entsB m) = validB m := by
  rw [Bool.eq_iff_iff, validB_iff]
  unfold issB entsB
  simp only [Bool.and_eq_true, decide_eq_true_eq, adjB_iff, inB_yes]
  constructor
  · rintro ⟨⟨⟨⟨hc, hl⟩, hn⟩, hi, hnd⟩, ⟨⟨he, ha⟩, hq⟩, hh⟩
    refine ⟨hc, hl, hn, fun e hm => ?_, ord_of ha hq hh, fun x hx => List.all_eq_true.1 hi x hx, hnd⟩
    have h1 := List.all_eq_true.1 he e hm
    unfold entB at h1
    simp only [Bool.and_eq_true, decide_eq_true_eq, inB_yes] at h1
    exact ⟨h1.1.1.1.1, h1.1.1.1.2, h1.1.1.2, h1.1.2, h1.2⟩
  · intro h
    have ho := List.pairwise_iff_getElem.1 h.ord
    refine ⟨⟨⟨⟨h.cap, h.len⟩, h.nx⟩, List.all_eq_true.2 h.hv, h.nodup⟩, ⟨⟨List.all_eq_true.2 fun e hm => ?_, fun i hi hl => ?_⟩, ?_⟩, ?_⟩
    · obtain ⟨h1, h2, h3, h4, h5⟩ := h.ent e hm
      unfold entB
      simp only [Bool.and_eq_true, decide_eq_true_eq, inB_yes]
      exact ⟨⟨⟨⟨h1, h2⟩, h3⟩, h4⟩, h5⟩
    · have := (ho i (i + 1) (by omega) hi (by omega)).2.2
      unfold ltE at *
      omega
    · unfold List.Nodup
      rw [List.pairwise_map]
      exact h.ord.imp (fun h => h.1)
    · unfold List.Nodup
      rw [List.pairwise_map]
      exact h.ord.imp (fun h => h.2.1)
set_option maxRecDepth 100000 in
set_option maxHeartbeats 8000000 in
theorem PValid_has (m : MdR) (w : World) (hm : HasM w m) (hl : m.es.l.length ≤ 1000) (hi : m.is.l.length ≤ 1000) :
    Calls Try.prog 11 #[encM m] w fun e w' => e = .returned (.bool (validB m.md)) ∧ Upd [] w w' := by
  have HCP := Lib.hid (PCap_has m.cap)
  have HIS := Lib.hid (fun W (hu : Upd [] w W) => PIss_has m.is.ad m.is.cap m.is.l W (hm.is.row.stay hu) (by omega))
  have HEN : Hid (m.nx = (m.is.l.length : Int) → issB m.is.l = true → ∀ W, Upd [] w W → Calls Try.prog 26 #[encM m] W fun e w' => e = .returned (.bool (entsB m.md)) ∧ Upd [] W w') := fun h1 h2 W hu => PEnts_has m W (hm.stay hu) (by omega) (by omega) h1 (by unfold issB at h2; simp only [Bool.and_eq_true] at h2; exact h2.1)
  rw [← ents_ok]
  obtain ⟨cap, ⟨es, ea, ec⟩, nx, ⟨is, ia, ic⟩⟩ := m
  unfold encM cellsM at *
  unfold MdR.md at *
  simp only at HCP HIS HEN ⊢
  generalize inB 1 64 cap = b1 at *
  generalize issB is = b4 at *
  generalize entsB ⟨cap, es, nx, is⟩ = b5 at *
  generalize es.length = n at *
  generalize is.length = q at *
  clear hm hl hi
  cases b1 with
  | false =>
    clear HIS HEN
    have HD : Hid ((false && decide ((n : Int) ≤ cap) && decide (nx = (q : Int)) && b4 && b5) = false) := Lib.hid (by simp)
    rw [HD.out]
    clear HD
    go_enter Try.func11, Try.ntmps11
    go_upto_region 1 with (fail)
    have hu0 := (Upd.refl [] w).alloc (.cells #[.int .i64 cap, .slice ea n ec, .int .i64 nx, .slice ia q ic] 25)
    have b0 := heap_alloc1 w (.cells #[.int .i64 cap, .slice ea n ec, .int .i64 nx, .slice ia q ic] 25)
    generalize w.alloc (.cells #[.int .i64 cap, .slice ea n ec, .int .i64 nx, .slice ia q ic] 25) = W0 at *
    generalize w.heap.size = P at *
    have HU0 := Lib.hid hu0; have HB0 := Lib.hid b0
    clear hu0 b0
    obtain ⟨m0, m1, m2, m3⟩ := cells4 HB0.out
    go_wp2_with (first | (go_at_call 24; (with_reducible refine (HCP.out _).mono ?_); rintro e w0 ⟨rfl, rfl⟩))
    go_ret
    exact ⟨ret_bool (by first | rfl | simp), HU0.out⟩
  | true =>
    by_cases h2 : (n : Int) ≤ cap
    · have d2 : decide ((n : Int) ≤ cap) = true := decide_eq_true h2
      by_cases h3 : nx = (q : Int)
      · subst h3
        have HE0 := Lib.hid (HEN.out rfl)
        clear HEN
        have HD : Hid ((true && decide ((n : Int) ≤ cap) && decide ((q : Int) = (q : Int)) && b4 && b5) = (b4 && b5)) := Lib.hid (by rw [d2]; simp)
        rw [HD.out]
        clear HD
        cases b4 with
        | false =>
          clear HE0
          have HD : Hid ((false && b5) = false) := Lib.hid (by rfl)
          rw [HD.out]
          clear HD
          go_enter Try.func11, Try.ntmps11
          go_upto_region 1 with (fail)
          have hu0 := (Upd.refl [] w).alloc (.cells #[.int .i64 cap, .slice ea n ec, .int .i64 (q : Int), .slice ia q ic] 25)
          have b0 := heap_alloc1 w (.cells #[.int .i64 cap, .slice ea n ec, .int .i64 (q : Int), .slice ia q ic] 25)
          generalize w.alloc (.cells #[.int .i64 cap, .slice ea n ec, .int .i64 (q : Int), .slice ia q ic] 25) = W0 at *
          generalize w.heap.size = P at *
          have HU0 := Lib.hid hu0; have HB0 := Lib.hid b0
          clear hu0 b0
          obtain ⟨m0, m1, m2, m3⟩ := cells4 HB0.out
          go_wp2_with (first | (go_at_call 24; (with_reducible refine (HCP.out _).mono ?_); rintro e w0 ⟨rfl, rfl⟩) | (go_at_call 25; (with_reducible refine (HIS.out _ HU0.out).mono ?_); rintro e w1 ⟨rfl, hu1⟩; have HU1 := Lib.hid (HU0.out.thn hu1); have HB1 := Lib.hid (hu1.at HB0.out (by simp)); clear hu1 m0 m1 m2 m3; obtain ⟨m0, m1, m2, m3⟩ := cells4 HB1.out))
          go_ret
          exact ⟨ret_bool (by first | rfl | simp), HU1.out⟩
        | true =>
          have HE := Lib.hid (HE0.out rfl)
          clear HE0
          have HD : Hid ((true && b5) = b5) := Lib.hid (by rfl)
          rw [HD.out]
          clear HD
          go_enter Try.func11, Try.ntmps11
          go_upto_region 1 with (fail)
          have hu0 := (Upd.refl [] w).alloc (.cells #[.int .i64 cap, .slice ea n ec, .int .i64 (q : Int), .slice ia q ic] 25)
          have b0 := heap_alloc1 w (.cells #[.int .i64 cap, .slice ea n ec, .int .i64 (q : Int), .slice ia q ic] 25)
          generalize w.alloc (.cells #[.int .i64 cap, .slice ea n ec, .int .i64 (q : Int), .slice ia q ic] 25) = W0 at *
          generalize w.heap.size = P at *
          have HU0 := Lib.hid hu0; have HB0 := Lib.hid b0
          clear hu0 b0
          obtain ⟨m0, m1, m2, m3⟩ := cells4 HB0.out
          go_wp2_with (first | (go_at_call 24; (with_reducible refine (HCP.out _).mono ?_); rintro e w0 ⟨rfl, rfl⟩) | (go_at_call 25; (with_reducible refine (HIS.out _ HU0.out).mono ?_); rintro e w1 ⟨rfl, hu1⟩; have HU1 := Lib.hid (HU0.out.thn hu1); have HB1 := Lib.hid (hu1.at HB0.out (by simp)); clear hu1 m0 m1 m2 m3; obtain ⟨m0, m1, m2, m3⟩ := cells4 HB1.out) | (go_at_call 26; (with_reducible refine (HE.out _ HU1.out).mono ?_); rintro e w2 ⟨rfl, hu2⟩; have HU2 := Lib.hid (HU1.out.thn hu2); have HB2 := Lib.hid (hu2.at HB1.out (by simp)); clear hu2 m0 m1 m2 m3; obtain ⟨m0, m1, m2, m3⟩ := cells4 HB2.out))
          go_ret
          exact ⟨ret_bool (by first | rfl | simp), HU2.out⟩
      · have d3 : (nx == (q : Int)) = false := by simpa using h3
        have d4 : decide (nx = (q : Int)) = false := decide_eq_false h3
        clear HIS HEN
        have HD : Hid ((true && decide ((n : Int) ≤ cap) && decide (nx = (q : Int)) && b4 && b5) = false) := Lib.hid (by rw [d4]; simp)
        rw [HD.out]
        clear HD
        go_enter Try.func11, Try.ntmps11
        go_upto_region 1 with (fail)
        have hu0 := (Upd.refl [] w).alloc (.cells #[.int .i64 cap, .slice ea n ec, .int .i64 nx, .slice ia q ic] 25)
        have b0 := heap_alloc1 w (.cells #[.int .i64 cap, .slice ea n ec, .int .i64 nx, .slice ia q ic] 25)
        generalize w.alloc (.cells #[.int .i64 cap, .slice ea n ec, .int .i64 nx, .slice ia q ic] 25) = W0 at *
        generalize w.heap.size = P at *
        have HU0 := Lib.hid hu0; have HB0 := Lib.hid b0
        clear hu0 b0
        obtain ⟨m0, m1, m2, m3⟩ := cells4 HB0.out
        go_wp2_with (first | (go_at_call 24; (with_reducible refine (HCP.out _).mono ?_); rintro e w0 ⟨rfl, rfl⟩))
        go_ret
        exact ⟨ret_bool (by first | rfl | simp), HU0.out⟩
    · have d2 : decide ((n : Int) ≤ cap) = false := decide_eq_false h2
      clear HIS HEN
      have HD : Hid ((true && decide ((n : Int) ≤ cap) && decide (nx = (q : Int)) && b4 && b5) = false) := Lib.hid (by rw [d2]; simp)
      rw [HD.out]
      clear HD
      go_enter Try.func11, Try.ntmps11
      go_upto_region 1 with (fail)
      have hu0 := (Upd.refl [] w).alloc (.cells #[.int .i64 cap, .slice ea n ec, .int .i64 nx, .slice ia q ic] 25)
      have b0 := heap_alloc1 w (.cells #[.int .i64 cap, .slice ea n ec, .int .i64 nx, .slice ia q ic] 25)
      generalize w.alloc (.cells #[.int .i64 cap, .slice ea n ec, .int .i64 nx, .slice ia q ic] 25) = W0 at *
      generalize w.heap.size = P at *
      have HU0 := Lib.hid hu0; have HB0 := Lib.hid b0
      clear hu0 b0
      obtain ⟨m0, m1, m2, m3⟩ := cells4 HB0.out
      go_wp2_with (first | (go_at_call 24; (with_reducible refine (HCP.out _).mono ?_); rintro e w0 ⟨rfl, rfl⟩))
      go_ret
      exact ⟨ret_bool (by first | rfl | simp), HU0.out⟩
end Go.Proofs.Ytpneljhplbkdkaa
