
/- Contract of layer 10: the reference's insert. -/
import Derived.Test.YtpneljhplbkdkaaAF
namespace Go.Proofs.Ytpneljhplbkdkaa
open Go.RowKit Go.Lib

theorem row_take {α : Type} {L : Lay α} {w : World} {ad : Option Addr} (k : Nat) {l : List α} (h : Row L w ad l) : Row L w ad (l.take k) := fun j hj => by
  rw [List.length_take] at hj
  obtain ⟨b, o, e, c⟩ := h j (by omega)
  exact ⟨b, o, e, fun t u hu => c t u (by rw [List.getElem_take] at hu; exact hu)⟩
set_option maxRecDepth 100000 in
set_option maxHeartbeats 8000000 in
theorem RInsert_err (cap nx : Int) (es : List En) (ea : Option Addr) (ec : Nat) (is : List Int) (ia : Option Addr) (ic : Nat) (ck ct ch cm cb : Int) (h : Int) (w : World) (hm : HasM w ⟨cap, ⟨es, ea, ec⟩, nx, ⟨is, ia, ic⟩⟩) (hi : is.length ≤ 100000) (e : Int) (he : (¬ (0 ≤ ct ∧ ct ≤ MaxV) ∧ e = 1) ∨ ((0 ≤ ct ∧ ct ≤ MaxV) ∧ cap ≤ (es.length : Int) ∧ e = 10) ∨ ((0 ≤ ct ∧ ct ≤ MaxV) ∧ ¬ cap ≤ (es.length : Int) ∧ (okH h = false ∨ h ∈ is) ∧ e = 1)) :
    Calls Try.prog 32 #[encM ⟨cap, ⟨es, ea, ec⟩, nx, ⟨is, ia, ic⟩⟩, encC ⟨ck, ct, ch, cm, cb⟩, .int .i64 h] w (GivesM ⟨cap, ⟨es, ea, ec⟩, nx, ⟨is, ia, ic⟩⟩ (⟨cap, es, nx, is⟩, errR e) w) := by
  have HM := Lib.hid hm
  unfold encM cellsM encC
  simp only
  have HRET : Hid (∀ n q, n = es.length → q = is.length → encM ⟨cap, ⟨es, ea, ec⟩, nx, ⟨is, ia, ic⟩⟩ = .agg #[.int .i64 cap, .slice ea n ec, .int .i64 nx, .slice ia q ic]) := fun n q h1 h2 => by rw [h1, h2]; rfl
  have HVA := Lib.hid (RHV_has h)
  have HHA : Hid (∀ W, Upd [] w W → Calls Try.prog 23 #[.slice ia is.length ic, .int .i64 h] W fun e w' => e = .returned (.bool (decide (h ∈ is))) ∧ W = w') := fun W hu => RHas_has ia ic is h W (hm.is.row.stay hu) (by omega)
  obtain ⟨bm, hbm⟩ : ∃ b, b = decide (h ∈ is) := ⟨_, rfl⟩
  have hmem : h ∈ is → bm = true := fun hx => by rw [hbm]; simpa using hx
  rw [← hbm] at HHA
  obtain ⟨n, hn⟩ : ∃ n, n = es.length := ⟨_, rfl⟩
  obtain ⟨q, hq⟩ : ∃ q, q = is.length := ⟨_, rfl⟩
  rw [← hn] at he ⊢
  rw [← hq] at HHA ⊢
  have HRET := Lib.hid (HRET.out n q hn hq)
  generalize okH h = ok at *
  have HMEM := Lib.hid hmem
  clear hn hq hm hbm hmem hi
  unfold MaxV at he
  rcases he with ⟨h0, rfl⟩ | ⟨h0, h3, rfl⟩ | ⟨h0, h3, h4, rfl⟩
  · by_cases h1 : ct < 0
    · have g1 : decide (ct < 0) = true := decide_eq_true h1
      clear h0 h1
      go_enter Try.func32, Try.ntmps32
      go_upto_region 1 with (fail)
      obtain ⟨hu0, b0, b1, b2, b3, hs0⟩ := four_boxes w (.cells #[.int .i64 cap, .slice ea n ec, .int .i64 nx, .slice ia q ic] 25) (.cells #[.int .i64 ck, .int .i64 ct, .int .i64 ch, .int .i64 cm, .int .i64 cb] 28) (.cells #[.int .i64 0, .slice none 0 0, .int .i64 0, .slice none 0 0] 25) (.cells #[.int .i64 0, .int .i64 0, .bool false, .slice none 0 0] 34)
      have HF : Hid (FrR w w.heap.size cap nx n q ea ia ec ic ck ct ch cm cb _) := ⟨b0, b1, b2, b3, hu0, Nat.le_refl _⟩
      generalize (((w.alloc (.cells #[.int .i64 cap, .slice ea n ec, .int .i64 nx, .slice ia q ic] 25)).alloc (.cells #[.int .i64 ck, .int .i64 ct, .int .i64 ch, .int .i64 cm, .int .i64 cb] 28)).alloc (.cells #[.int .i64 0, .slice none 0 0, .int .i64 0, .slice none 0 0] 25)).alloc (.cells #[.int .i64 0, .int .i64 0, .bool false, .slice none 0 0] 34) = W0 at *
      have HSZ0 : Hid (W0.heap.size = w.heap.size + 4) := hs0
      generalize w.heap.size = P at *
      clear hu0 b0 b1 b2 b3 hs0
      obtain ⟨c0, c1, c2, c3, c4⟩ := cells5 HF.out.bc
      clear c0 c2 c3 c4
      obtain ⟨m0, m1, m2, m3⟩ := cells4 HF.out.bm
      go_upto_region 2 with (first | (go_at_call 27; (with_reducible refine (HVA.out _).mono ?_); rintro e w1 ⟨rfl, rfl⟩) | (go_at_call 23; (with_reducible refine (HHA.out _ HF.out.upd).mono ?_); rintro e w1 ⟨rfl, rfl⟩))
      obtain ⟨q0, q1, q2, q3⟩ := cells4 HF.out.bm
      obtain ⟨d0, d1, d2, d3⟩ := cells4 HF.out.rm
      obtain ⟨e0, e1, e2, e3⟩ := free4 HF.out.rm
      obtain ⟨d4, d5, d6, d7⟩ := cells4 HF.out.rr
      obtain ⟨e4, e5, e6, e7⟩ := free4 HF.out.rr
      go_wp2_with fail
      have k8 := stored4 HF.out.rm (.int .i64 cap) (.slice ea n ec) (.int .i64 nx) (.slice ia q ic)
      have u8 := upd_set4 W0 (P + 1 + 1) (.int .i64 cap) (.slice ea n ec) (.int .i64 nx) (.slice ia q ic)
      with_reducible generalize (((W0.setCell ⟨P + 1 + 1, 0, none⟩ (.int .i64 cap)).setCell ⟨P + 1 + 1, 1, none⟩ (.slice ea n ec)).setCell ⟨P + 1 + 1, 2, none⟩ (.int .i64 nx)).setCell ⟨P + 1 + 1, 3, none⟩ (.slice ia q ic) = W8 at k8 u8 ⊢
      have k9 := stored4 (u8.at HF.out.rr (by simp)) (.int .i64 1) (.int .i64 0) (.bool false) (.slice none 0 0)
      have u9 := upd_set4 W8 (P + 1 + 1 + 1) (.int .i64 1) (.int .i64 0) (.bool false) (.slice none 0 0)
      with_reducible generalize (((W8.setCell ⟨P + 1 + 1 + 1, 0, none⟩ (.int .i64 1)).setCell ⟨P + 1 + 1 + 1, 1, none⟩ (.int .i64 0)).setCell ⟨P + 1 + 1 + 1, 2, none⟩ (.bool false)).setCell ⟨P + 1 + 1 + 1, 3, none⟩ (.slice none 0 0) = W9 at k9 u9 ⊢
      obtain ⟨r0, r1, r2, r3⟩ := cells4 (u9.at k8 (by simp))
      obtain ⟨s0, s1, s2, s3⟩ := cells4 k9
      have hU89 : Upd [P + 1 + 1, P + 1 + 1 + 1] W0 W9 := (u8.mono (by simp)).trans u9 (by simp)
      have hU9 : Upd [] w W9 := HF.out.upd.trans hU89 (fun x hx hl => by have := HF.out.ord; simp at hx; omega)
      exact bodyPost_ret (v := .tuple #[.agg #[.int .i64 cap, .slice ea n ec, .int .i64 nx, .slice ia q ic], .agg #[.int .i64 1, .int .i64 0, .bool false, .slice none 0 0]]) (by simp [results, Try.results32, go_sem, r0, r1, r2, r3, s0, s1, s2, s3]) rfl ⟨⟨cap, ⟨es, ea, ec⟩, nx, ⟨is, ia, ic⟩⟩, ⟨1, 0, false, ⟨[], none, 0⟩⟩, by rw [HRET.out]; rfl, rfl, rfl, ⟨HM.out.es.stay hU9, HM.out.is.stay hU9⟩, hasS_nil LV _, fun bx hbx ha => ⟨ha, avS_nil _ _ _⟩, hU9⟩
    · have g1 : decide (ct < 0) = false := decide_eq_false h1
      have g2 : decide (1152921504606846976 < ct) = true := decide_eq_true (by omega)
      clear h0 h1
      go_enter Try.func32, Try.ntmps32
      go_upto_region 1 with (fail)
      obtain ⟨hu0, b0, b1, b2, b3, hs0⟩ := four_boxes w (.cells #[.int .i64 cap, .slice ea n ec, .int .i64 nx, .slice ia q ic] 25) (.cells #[.int .i64 ck, .int .i64 ct, .int .i64 ch, .int .i64 cm, .int .i64 cb] 28) (.cells #[.int .i64 0, .slice none 0 0, .int .i64 0, .slice none 0 0] 25) (.cells #[.int .i64 0, .int .i64 0, .bool false, .slice none 0 0] 34)
      have HF : Hid (FrR w w.heap.size cap nx n q ea ia ec ic ck ct ch cm cb _) := ⟨b0, b1, b2, b3, hu0, Nat.le_refl _⟩
      generalize (((w.alloc (.cells #[.int .i64 cap, .slice ea n ec, .int .i64 nx, .slice ia q ic] 25)).alloc (.cells #[.int .i64 ck, .int .i64 ct, .int .i64 ch, .int .i64 cm, .int .i64 cb] 28)).alloc (.cells #[.int .i64 0, .slice none 0 0, .int .i64 0, .slice none 0 0] 25)).alloc (.cells #[.int .i64 0, .int .i64 0, .bool false, .slice none 0 0] 34) = W0 at *
      have HSZ0 : Hid (W0.heap.size = w.heap.size + 4) := hs0
      generalize w.heap.size = P at *
      clear hu0 b0 b1 b2 b3 hs0
      obtain ⟨c0, c1, c2, c3, c4⟩ := cells5 HF.out.bc
      clear c0 c2 c3 c4
      obtain ⟨m0, m1, m2, m3⟩ := cells4 HF.out.bm
      go_upto_region 2 with (first | (go_at_call 27; (with_reducible refine (HVA.out _).mono ?_); rintro e w1 ⟨rfl, rfl⟩) | (go_at_call 23; (with_reducible refine (HHA.out _ HF.out.upd).mono ?_); rintro e w1 ⟨rfl, rfl⟩))
      obtain ⟨q0, q1, q2, q3⟩ := cells4 HF.out.bm
      obtain ⟨d0, d1, d2, d3⟩ := cells4 HF.out.rm
      obtain ⟨e0, e1, e2, e3⟩ := free4 HF.out.rm
      obtain ⟨d4, d5, d6, d7⟩ := cells4 HF.out.rr
      obtain ⟨e4, e5, e6, e7⟩ := free4 HF.out.rr
      go_wp2_with fail
      have k8 := stored4 HF.out.rm (.int .i64 cap) (.slice ea n ec) (.int .i64 nx) (.slice ia q ic)
      have u8 := upd_set4 W0 (P + 1 + 1) (.int .i64 cap) (.slice ea n ec) (.int .i64 nx) (.slice ia q ic)
      with_reducible generalize (((W0.setCell ⟨P + 1 + 1, 0, none⟩ (.int .i64 cap)).setCell ⟨P + 1 + 1, 1, none⟩ (.slice ea n ec)).setCell ⟨P + 1 + 1, 2, none⟩ (.int .i64 nx)).setCell ⟨P + 1 + 1, 3, none⟩ (.slice ia q ic) = W8 at k8 u8 ⊢
      have k9 := stored4 (u8.at HF.out.rr (by simp)) (.int .i64 1) (.int .i64 0) (.bool false) (.slice none 0 0)
      have u9 := upd_set4 W8 (P + 1 + 1 + 1) (.int .i64 1) (.int .i64 0) (.bool false) (.slice none 0 0)
      with_reducible generalize (((W8.setCell ⟨P + 1 + 1 + 1, 0, none⟩ (.int .i64 1)).setCell ⟨P + 1 + 1 + 1, 1, none⟩ (.int .i64 0)).setCell ⟨P + 1 + 1 + 1, 2, none⟩ (.bool false)).setCell ⟨P + 1 + 1 + 1, 3, none⟩ (.slice none 0 0) = W9 at k9 u9 ⊢
      obtain ⟨r0, r1, r2, r3⟩ := cells4 (u9.at k8 (by simp))
      obtain ⟨s0, s1, s2, s3⟩ := cells4 k9
      have hU89 : Upd [P + 1 + 1, P + 1 + 1 + 1] W0 W9 := (u8.mono (by simp)).trans u9 (by simp)
      have hU9 : Upd [] w W9 := HF.out.upd.trans hU89 (fun x hx hl => by have := HF.out.ord; simp at hx; omega)
      exact bodyPost_ret (v := .tuple #[.agg #[.int .i64 cap, .slice ea n ec, .int .i64 nx, .slice ia q ic], .agg #[.int .i64 1, .int .i64 0, .bool false, .slice none 0 0]]) (by simp [results, Try.results32, go_sem, r0, r1, r2, r3, s0, s1, s2, s3]) rfl ⟨⟨cap, ⟨es, ea, ec⟩, nx, ⟨is, ia, ic⟩⟩, ⟨1, 0, false, ⟨[], none, 0⟩⟩, by rw [HRET.out]; rfl, rfl, rfl, ⟨HM.out.es.stay hU9, HM.out.is.stay hU9⟩, hasS_nil LV _, fun bx hbx ha => ⟨ha, avS_nil _ _ _⟩, hU9⟩
  · have g1 : decide (ct < 0) = false := decide_eq_false (by omega)
    have g2 : decide (1152921504606846976 < ct) = false := decide_eq_false (by omega)
    have g3 : decide (cap ≤ (n : Int)) = true := decide_eq_true h3
    clear h0 h3
    go_enter Try.func32, Try.ntmps32
    go_upto_region 1 with (fail)
    obtain ⟨hu0, b0, b1, b2, b3, hs0⟩ := four_boxes w (.cells #[.int .i64 cap, .slice ea n ec, .int .i64 nx, .slice ia q ic] 25) (.cells #[.int .i64 ck, .int .i64 ct, .int .i64 ch, .int .i64 cm, .int .i64 cb] 28) (.cells #[.int .i64 0, .slice none 0 0, .int .i64 0, .slice none 0 0] 25) (.cells #[.int .i64 0, .int .i64 0, .bool false, .slice none 0 0] 34)
    have HF : Hid (FrR w w.heap.size cap nx n q ea ia ec ic ck ct ch cm cb _) := ⟨b0, b1, b2, b3, hu0, Nat.le_refl _⟩
    generalize (((w.alloc (.cells #[.int .i64 cap, .slice ea n ec, .int .i64 nx, .slice ia q ic] 25)).alloc (.cells #[.int .i64 ck, .int .i64 ct, .int .i64 ch, .int .i64 cm, .int .i64 cb] 28)).alloc (.cells #[.int .i64 0, .slice none 0 0, .int .i64 0, .slice none 0 0] 25)).alloc (.cells #[.int .i64 0, .int .i64 0, .bool false, .slice none 0 0] 34) = W0 at *
    have HSZ0 : Hid (W0.heap.size = w.heap.size + 4) := hs0
    generalize w.heap.size = P at *
    clear hu0 b0 b1 b2 b3 hs0
    obtain ⟨c0, c1, c2, c3, c4⟩ := cells5 HF.out.bc
    clear c0 c2 c3 c4
    obtain ⟨m0, m1, m2, m3⟩ := cells4 HF.out.bm
    go_upto_region 4 with (first | (go_at_call 27; (with_reducible refine (HVA.out _).mono ?_); rintro e w1 ⟨rfl, rfl⟩) | (go_at_call 23; (with_reducible refine (HHA.out _ HF.out.upd).mono ?_); rintro e w1 ⟨rfl, rfl⟩))
    obtain ⟨q0, q1, q2, q3⟩ := cells4 HF.out.bm
    obtain ⟨d0, d1, d2, d3⟩ := cells4 HF.out.rm
    obtain ⟨e0, e1, e2, e3⟩ := free4 HF.out.rm
    obtain ⟨d4, d5, d6, d7⟩ := cells4 HF.out.rr
    obtain ⟨e4, e5, e6, e7⟩ := free4 HF.out.rr
    go_wp2_with fail
    have k8 := stored4 HF.out.rm (.int .i64 cap) (.slice ea n ec) (.int .i64 nx) (.slice ia q ic)
    have u8 := upd_set4 W0 (P + 1 + 1) (.int .i64 cap) (.slice ea n ec) (.int .i64 nx) (.slice ia q ic)
    with_reducible generalize (((W0.setCell ⟨P + 1 + 1, 0, none⟩ (.int .i64 cap)).setCell ⟨P + 1 + 1, 1, none⟩ (.slice ea n ec)).setCell ⟨P + 1 + 1, 2, none⟩ (.int .i64 nx)).setCell ⟨P + 1 + 1, 3, none⟩ (.slice ia q ic) = W8 at k8 u8 ⊢
    have k9 := stored4 (u8.at HF.out.rr (by simp)) (.int .i64 10) (.int .i64 0) (.bool false) (.slice none 0 0)
    have u9 := upd_set4 W8 (P + 1 + 1 + 1) (.int .i64 10) (.int .i64 0) (.bool false) (.slice none 0 0)
    with_reducible generalize (((W8.setCell ⟨P + 1 + 1 + 1, 0, none⟩ (.int .i64 10)).setCell ⟨P + 1 + 1 + 1, 1, none⟩ (.int .i64 0)).setCell ⟨P + 1 + 1 + 1, 2, none⟩ (.bool false)).setCell ⟨P + 1 + 1 + 1, 3, none⟩ (.slice none 0 0) = W9 at k9 u9 ⊢
    obtain ⟨r0, r1, r2, r3⟩ := cells4 (u9.at k8 (by simp))
    obtain ⟨s0, s1, s2, s3⟩ := cells4 k9
    have hU89 : Upd [P + 1 + 1, P + 1 + 1 + 1] W0 W9 := (u8.mono (by simp)).trans u9 (by simp)
    have hU9 : Upd [] w W9 := HF.out.upd.trans hU89 (fun x hx hl => by have := HF.out.ord; simp at hx; omega)
    exact bodyPost_ret (v := .tuple #[.agg #[.int .i64 cap, .slice ea n ec, .int .i64 nx, .slice ia q ic], .agg #[.int .i64 10, .int .i64 0, .bool false, .slice none 0 0]]) (by simp [results, Try.results32, go_sem, r0, r1, r2, r3, s0, s1, s2, s3]) rfl ⟨⟨cap, ⟨es, ea, ec⟩, nx, ⟨is, ia, ic⟩⟩, ⟨10, 0, false, ⟨[], none, 0⟩⟩, by rw [HRET.out]; rfl, rfl, rfl, ⟨HM.out.es.stay hU9, HM.out.is.stay hU9⟩, hasS_nil LV _, fun bx hbx ha => ⟨ha, avS_nil _ _ _⟩, hU9⟩
  · have g1 : decide (ct < 0) = false := decide_eq_false (by omega)
    have g2 : decide (1152921504606846976 < ct) = false := decide_eq_false (by omega)
    have g3 : decide (cap ≤ (n : Int)) = false := decide_eq_false h3
    clear h0 h3
    cases ok with
    | false =>
      clear h4
      go_enter Try.func32, Try.ntmps32
      go_upto_region 1 with (fail)
      obtain ⟨hu0, b0, b1, b2, b3, hs0⟩ := four_boxes w (.cells #[.int .i64 cap, .slice ea n ec, .int .i64 nx, .slice ia q ic] 25) (.cells #[.int .i64 ck, .int .i64 ct, .int .i64 ch, .int .i64 cm, .int .i64 cb] 28) (.cells #[.int .i64 0, .slice none 0 0, .int .i64 0, .slice none 0 0] 25) (.cells #[.int .i64 0, .int .i64 0, .bool false, .slice none 0 0] 34)
      have HF : Hid (FrR w w.heap.size cap nx n q ea ia ec ic ck ct ch cm cb _) := ⟨b0, b1, b2, b3, hu0, Nat.le_refl _⟩
      generalize (((w.alloc (.cells #[.int .i64 cap, .slice ea n ec, .int .i64 nx, .slice ia q ic] 25)).alloc (.cells #[.int .i64 ck, .int .i64 ct, .int .i64 ch, .int .i64 cm, .int .i64 cb] 28)).alloc (.cells #[.int .i64 0, .slice none 0 0, .int .i64 0, .slice none 0 0] 25)).alloc (.cells #[.int .i64 0, .int .i64 0, .bool false, .slice none 0 0] 34) = W0 at *
      have HSZ0 : Hid (W0.heap.size = w.heap.size + 4) := hs0
      generalize w.heap.size = P at *
      clear hu0 b0 b1 b2 b3 hs0
      obtain ⟨c0, c1, c2, c3, c4⟩ := cells5 HF.out.bc
      clear c0 c2 c3 c4
      obtain ⟨m0, m1, m2, m3⟩ := cells4 HF.out.bm
      go_upto_region 6 with (first | (go_at_call 27; (with_reducible refine (HVA.out _).mono ?_); rintro e w1 ⟨rfl, rfl⟩) | (go_at_call 23; (with_reducible refine (HHA.out _ HF.out.upd).mono ?_); rintro e w1 ⟨rfl, rfl⟩))
      obtain ⟨q0, q1, q2, q3⟩ := cells4 HF.out.bm
      obtain ⟨d0, d1, d2, d3⟩ := cells4 HF.out.rm
      obtain ⟨e0, e1, e2, e3⟩ := free4 HF.out.rm
      obtain ⟨d4, d5, d6, d7⟩ := cells4 HF.out.rr
      obtain ⟨e4, e5, e6, e7⟩ := free4 HF.out.rr
      go_wp2_with fail
      have k8 := stored4 HF.out.rm (.int .i64 cap) (.slice ea n ec) (.int .i64 nx) (.slice ia q ic)
      have u8 := upd_set4 W0 (P + 1 + 1) (.int .i64 cap) (.slice ea n ec) (.int .i64 nx) (.slice ia q ic)
      with_reducible generalize (((W0.setCell ⟨P + 1 + 1, 0, none⟩ (.int .i64 cap)).setCell ⟨P + 1 + 1, 1, none⟩ (.slice ea n ec)).setCell ⟨P + 1 + 1, 2, none⟩ (.int .i64 nx)).setCell ⟨P + 1 + 1, 3, none⟩ (.slice ia q ic) = W8 at k8 u8 ⊢
      have k9 := stored4 (u8.at HF.out.rr (by simp)) (.int .i64 1) (.int .i64 0) (.bool false) (.slice none 0 0)
      have u9 := upd_set4 W8 (P + 1 + 1 + 1) (.int .i64 1) (.int .i64 0) (.bool false) (.slice none 0 0)
      with_reducible generalize (((W8.setCell ⟨P + 1 + 1 + 1, 0, none⟩ (.int .i64 1)).setCell ⟨P + 1 + 1 + 1, 1, none⟩ (.int .i64 0)).setCell ⟨P + 1 + 1 + 1, 2, none⟩ (.bool false)).setCell ⟨P + 1 + 1 + 1, 3, none⟩ (.slice none 0 0) = W9 at k9 u9 ⊢
      obtain ⟨r0, r1, r2, r3⟩ := cells4 (u9.at k8 (by simp))
      obtain ⟨s0, s1, s2, s3⟩ := cells4 k9
      have hU89 : Upd [P + 1 + 1, P + 1 + 1 + 1] W0 W9 := (u8.mono (by simp)).trans u9 (by simp)
      have hU9 : Upd [] w W9 := HF.out.upd.trans hU89 (fun x hx hl => by have := HF.out.ord; simp at hx; omega)
      exact bodyPost_ret (v := .tuple #[.agg #[.int .i64 cap, .slice ea n ec, .int .i64 nx, .slice ia q ic], .agg #[.int .i64 1, .int .i64 0, .bool false, .slice none 0 0]]) (by simp [results, Try.results32, go_sem, r0, r1, r2, r3, s0, s1, s2, s3]) rfl ⟨⟨cap, ⟨es, ea, ec⟩, nx, ⟨is, ia, ic⟩⟩, ⟨1, 0, false, ⟨[], none, 0⟩⟩, by rw [HRET.out]; rfl, rfl, rfl, ⟨HM.out.es.stay hU9, HM.out.is.stay hU9⟩, hasS_nil LV _, fun bx hbx ha => ⟨ha, avS_nil _ _ _⟩, hU9⟩
    | true =>
      obtain rfl : bm = true := HMEM.out (h4.resolve_left (by simp))
      clear h4
      go_enter Try.func32, Try.ntmps32
      go_upto_region 1 with (fail)
      obtain ⟨hu0, b0, b1, b2, b3, hs0⟩ := four_boxes w (.cells #[.int .i64 cap, .slice ea n ec, .int .i64 nx, .slice ia q ic] 25) (.cells #[.int .i64 ck, .int .i64 ct, .int .i64 ch, .int .i64 cm, .int .i64 cb] 28) (.cells #[.int .i64 0, .slice none 0 0, .int .i64 0, .slice none 0 0] 25) (.cells #[.int .i64 0, .int .i64 0, .bool false, .slice none 0 0] 34)
      have HF : Hid (FrR w w.heap.size cap nx n q ea ia ec ic ck ct ch cm cb _) := ⟨b0, b1, b2, b3, hu0, Nat.le_refl _⟩
      generalize (((w.alloc (.cells #[.int .i64 cap, .slice ea n ec, .int .i64 nx, .slice ia q ic] 25)).alloc (.cells #[.int .i64 ck, .int .i64 ct, .int .i64 ch, .int .i64 cm, .int .i64 cb] 28)).alloc (.cells #[.int .i64 0, .slice none 0 0, .int .i64 0, .slice none 0 0] 25)).alloc (.cells #[.int .i64 0, .int .i64 0, .bool false, .slice none 0 0] 34) = W0 at *
      have HSZ0 : Hid (W0.heap.size = w.heap.size + 4) := hs0
      generalize w.heap.size = P at *
      clear hu0 b0 b1 b2 b3 hs0
      obtain ⟨c0, c1, c2, c3, c4⟩ := cells5 HF.out.bc
      clear c0 c2 c3 c4
      obtain ⟨m0, m1, m2, m3⟩ := cells4 HF.out.bm
      go_upto_region 6 with (first | (go_at_call 27; (with_reducible refine (HVA.out _).mono ?_); rintro e w1 ⟨rfl, rfl⟩) | (go_at_call 23; (with_reducible refine (HHA.out _ HF.out.upd).mono ?_); rintro e w1 ⟨rfl, rfl⟩))
      obtain ⟨q0, q1, q2, q3⟩ := cells4 HF.out.bm
      obtain ⟨d0, d1, d2, d3⟩ := cells4 HF.out.rm
      obtain ⟨e0, e1, e2, e3⟩ := free4 HF.out.rm
      obtain ⟨d4, d5, d6, d7⟩ := cells4 HF.out.rr
      obtain ⟨e4, e5, e6, e7⟩ := free4 HF.out.rr
      go_wp2_with fail
      have k8 := stored4 HF.out.rm (.int .i64 cap) (.slice ea n ec) (.int .i64 nx) (.slice ia q ic)
      have u8 := upd_set4 W0 (P + 1 + 1) (.int .i64 cap) (.slice ea n ec) (.int .i64 nx) (.slice ia q ic)
      with_reducible generalize (((W0.setCell ⟨P + 1 + 1, 0, none⟩ (.int .i64 cap)).setCell ⟨P + 1 + 1, 1, none⟩ (.slice ea n ec)).setCell ⟨P + 1 + 1, 2, none⟩ (.int .i64 nx)).setCell ⟨P + 1 + 1, 3, none⟩ (.slice ia q ic) = W8 at k8 u8 ⊢
      have k9 := stored4 (u8.at HF.out.rr (by simp)) (.int .i64 1) (.int .i64 0) (.bool false) (.slice none 0 0)
      have u9 := upd_set4 W8 (P + 1 + 1 + 1) (.int .i64 1) (.int .i64 0) (.bool false) (.slice none 0 0)
      with_reducible generalize (((W8.setCell ⟨P + 1 + 1 + 1, 0, none⟩ (.int .i64 1)).setCell ⟨P + 1 + 1 + 1, 1, none⟩ (.int .i64 0)).setCell ⟨P + 1 + 1 + 1, 2, none⟩ (.bool false)).setCell ⟨P + 1 + 1 + 1, 3, none⟩ (.slice none 0 0) = W9 at k9 u9 ⊢
      obtain ⟨r0, r1, r2, r3⟩ := cells4 (u9.at k8 (by simp))
      obtain ⟨s0, s1, s2, s3⟩ := cells4 k9
      have hU89 : Upd [P + 1 + 1, P + 1 + 1 + 1] W0 W9 := (u8.mono (by simp)).trans u9 (by simp)
      have hU9 : Upd [] w W9 := HF.out.upd.trans hU89 (fun x hx hl => by have := HF.out.ord; simp at hx; omega)
      exact bodyPost_ret (v := .tuple #[.agg #[.int .i64 cap, .slice ea n ec, .int .i64 nx, .slice ia q ic], .agg #[.int .i64 1, .int .i64 0, .bool false, .slice none 0 0]]) (by simp [results, Try.results32, go_sem, r0, r1, r2, r3, s0, s1, s2, s3]) rfl ⟨⟨cap, ⟨es, ea, ec⟩, nx, ⟨is, ia, ic⟩⟩, ⟨1, 0, false, ⟨[], none, 0⟩⟩, by rw [HRET.out]; rfl, rfl, rfl, ⟨HM.out.es.stay hU9, HM.out.is.stay hU9⟩, hasS_nil LV _, fun bx hbx ha => ⟨ha, avS_nil _ _ _⟩, hU9⟩
set_option maxRecDepth 100000 in
set_option maxHeartbeats 8000000 in
theorem RInsert_some (cap nx : Int) (es : List En) (b off ec : Nat) (is : List Int) (ia : Option Addr) (ic : Nat) (ck ct ch cm cb : Int) (h : Int) (w : World) (hm : HasM w ⟨cap, ⟨es, (some ⟨b, off, none⟩), ec⟩, nx, ⟨is, ia, ic⟩⟩) (hl : es.length ≤ 1000) (hi : is.length ≤ 100000) (hx : 0 ≤ nx ∧ nx ≤ 1000000) (h0 : 0 ≤ ct ∧ ct ≤ 1152921504606846976) (h3 : ¬ cap ≤ (es.length : Int)) (hok : okH h = true) (hni : h ∉ is) (hp : 0 < es.length) :
    Calls Try.prog 32 #[encM ⟨cap, ⟨es, (some ⟨b, off, none⟩), ec⟩, nx, ⟨is, ia, ic⟩⟩, encC ⟨ck, ct, ch, cm, cb⟩, .int .i64 h] w (GivesM ⟨cap, ⟨es, (some ⟨b, off, none⟩), ec⟩, nx, ⟨is, ia, ic⟩⟩ (⟨cap, putE es ⟨ct, nx, h, false⟩, nx + 1, is ++ [h]⟩, ⟨0, h, false, []⟩) w) := by
  have hle := hm.es.le
  simp only at hle
  have HM := Lib.hid hm
  have HNI := Lib.hid hm.is.nn
  unfold encM cellsM encC
  simp only
  have HVA := Lib.hid (RHV_has h)
  rw [hok] at HVA
  have HHA : Hid (∀ W, Upd [] w W → Calls Try.prog 23 #[.slice ia is.length ic, .int .i64 h] W fun e w' => e = .returned (.bool false) ∧ W = w') := fun W hu => by have := RHas_has ia ic is h W (hm.is.row.stay hu) (by omega); rw [decide_eq_false hni] at this; exact this
  have HROW := Lib.hid hm.es.row
  obtain ⟨q, hq⟩ : ∃ q, q = is.length := ⟨_, rfl⟩
  rw [← hq] at hi HHA ⊢
  have HQ := Lib.hid hq
  have g1 : decide (ct < 0) = false := decide_eq_false (by omega)
  have g2 : decide (1152921504606846976 < ct) = false := decide_eq_false (by omega)
  have hwx : IntKind.i64.wrap (nx + 1) = nx + 1 := by rw [IntKind.wrap_i64]; omega
  obtain ⟨n, hn⟩ : ∃ n, n = es.length := ⟨_, rfl⟩
  rw [← hn] at hl hle hp h3 ⊢
  have HN := Lib.hid hn
  have g3 : decide (cap ≤ (n : Int)) = false := decide_eq_false h3
  have HPUT : Hid (∀ k, posM es ct = k → putE es ⟨ct, nx, h, false⟩ = es.take k ++ [⟨ct, nx, h, false⟩] ++ es.drop k) := fun k hk => by unfold putE; simp only [hk, List.append_assoc, List.singleton_append]
  have HPL : Hid ((putE es ⟨ct, nx, h, false⟩).length = n + 1) := Lib.hid (by have := posM_le es ct; unfold putE; simp only [List.length_append, List.length_cons, List.length_take, List.length_drop]; omega)
  clear hm hq hn h0 h3 hok hni hx
  obtain ⟨ea, hea⟩ : ∃ ea, ea = some (⟨b, off, none⟩ : Addr) := ⟨_, rfl⟩
  rw [← hea]
  have HEA := Lib.hid hea
  clear hea
  go_enter Try.func32, Try.ntmps32
  go_upto_region 1 with (fail)
  obtain ⟨hu0, b0, b1, b2, b3, hs0⟩ := four_boxes w (.cells #[.int .i64 cap, .slice ea n ec, .int .i64 nx, .slice ia q ic] 25) (.cells #[.int .i64 ck, .int .i64 ct, .int .i64 ch, .int .i64 cm, .int .i64 cb] 28) (.cells #[.int .i64 0, .slice none 0 0, .int .i64 0, .slice none 0 0] 25) (.cells #[.int .i64 0, .int .i64 0, .bool false, .slice none 0 0] 34)
  have HF : Hid (FrR w w.heap.size cap nx n q ea ia ec ic ck ct ch cm cb _) := ⟨b0, b1, b2, b3, hu0, Nat.le_refl _⟩
  generalize (((w.alloc (.cells #[.int .i64 cap, .slice ea n ec, .int .i64 nx, .slice ia q ic] 25)).alloc (.cells #[.int .i64 ck, .int .i64 ct, .int .i64 ch, .int .i64 cm, .int .i64 cb] 28)).alloc (.cells #[.int .i64 0, .slice none 0 0, .int .i64 0, .slice none 0 0] 25)).alloc (.cells #[.int .i64 0, .int .i64 0, .bool false, .slice none 0 0] 34) = W0 at *
  have HSZ0 : Hid (W0.heap.size = w.heap.size + 4) := hs0
  generalize w.heap.size = P at *
  clear hu0 b0 b1 b2 b3 hs0
  have hea := HEA.out
  subst hea
  clear HEA
  obtain ⟨c0, c1, c2, c3, c4⟩ := cells5 HF.out.bc
  obtain ⟨m0, m1, m2, m3⟩ := cells4 HF.out.bm
  clear c0 c2 c3 c4 m2
  go_upto_region 7 with (first | (go_at_call 27; (with_reducible refine (HVA.out _).mono ?_); rintro e w1 ⟨rfl, rfl⟩) | (go_at_call 23; (with_reducible refine (HHA.out _ HF.out.upd).mono ?_); rintro e w1 ⟨rfl, rfl⟩))
  go_wp2_with fail
  clear m0 m1 m3 c1 g1 g2 g3 HVA HHA
  go_loopg [8] n (fun gk v wr => v = .int .i64 gk ∧ gk ≤ n ∧ Hid (posM es ct = posN es ct gk) ∧ Hid (FrR w P cap nx n q (some ⟨b, off, none⟩) ia ec ic ck ct ch cm cb wr) ∧ Hid (Upd [] W0 wr))
  case atStart => exact ⟨rfl, Nat.le_refl _, Lib.hid (by rw [HN.out]; rfl), HF, Upd.refl [] W0⟩
  case round =>
    obtain ⟨rfl, hkn, HPN, HFK, HUK⟩ := hrel
    obtain ⟨k, hk⟩ : ∃ k, k = gk := ⟨_, rfl⟩
    rw [← hk] at hkn HPN ⊢
    have HK := Lib.hid hk
    clear hk
    obtain ⟨m0, m1, m2, m3⟩ := cells4 HFK.out.bm
    obtain ⟨c0, c1, c2, c3, c4⟩ := cells5 HFK.out.bc
    clear m0 m2 m3 c0 c2 c3 c4
    by_cases hk0 : k = 0
    · have HPOS : Hid (posM es ct = k) := Lib.hid (by rw [HPN.out, hk0]; rfl)
      have g4 : decide (0 < k) = false := decide_eq_false (by omega)
      have g5 : decide ((0 : Int) < (k : Int)) = false := decide_eq_false (by omega)
      have hkc : k < ec := by omega
      clear hk0
      go_upto_region 8 with (fail)
      go_quiet (fail)
      have hd : Upd [] wr (wr.drewN nq) := (Upd.refl [] wr).drewN nq
      have HF5 := Lib.hid (HFK.out.stay hd); have HU5 := Lib.hid (HUK.out.thn hd)
      generalize wr.drewN nq = W5 at *
      clear hd m1 c1 HFK HUK g4 g5
      have HLS := Lib.hid (HPUT.out k HPOS.out)
      have HTL : Hid (k = (es.take k).length) := Lib.hid (by rw [List.length_take, ← HN.out]; omega)
      have hkc2 : ¬ ec = k := by omega
      have HNL : Hid ((putE es ⟨ct, nx, h, false⟩).length = k + 1 + (n - k)) := Lib.hid (by rw [HPL.out]; omega)
      have HLD : Hid (n - k = (es.drop k).length) := Lib.hid (by rw [List.length_drop, ← HN.out])
      have hke : k ≤ ec := by omega
      obtain ⟨m0, m1, m2, m3⟩ := cells4 HF5.out.bm
      clear m0 m2 m3
      have hsz5 := HU5.out.size
      have HRT := Lib.hid (row_take k (HROW.out.stay HF5.out.upd))
      go_upto_region 12 with (at_builtin; refine app_row tyE rfl _ _ rfl W0.heap.size (.slice none 0 0) 0 [] rfl ⟨rfl, .inl ⟨rfl, rfl⟩⟩ (some ⟨b, off, none⟩) k ec (es.take k) rfl HTL.out HRT.out (fun e => by simp at e) (by omega) hsz5 ?_; intro v6 w6 hown hgrow; rw [Nat.zero_add, List.nil_append] at hown; obtain ⟨va, vc, rfl⟩ := row_shape hown; have hu6 : Upd [] W5 w6 := (Upd.refl [] W5).grown hgrow (fun x hx hl => by simp [Value.ownBlock] at hx); have HF6 := Lib.hid (HF5.out.stay hu6); have HU6 := Lib.hid (HU5.out.thn hu6); have HE6 := Lib.hid hown; clear hown hgrow hu6 m1 hsz5 HRT)
      obtain ⟨m0, m1, m2, m3⟩ := cells4 HF6.out.bm
      obtain ⟨c0, c1, c2, c3, c4⟩ := cells5 HF6.out.bc
      clear m0 m1 m3 c0 c2 c3 c4
      have hsz6 := HU6.out.size
      have hu7 := (Upd.refl [] w6).alloc (.cells #[.int .i64 ct, .int .i64 nx, .int .i64 h, .bool false] 49)
      have HRX := Lib.hid (ent_cells (x := ⟨ct, nx, h, false⟩) (heap_alloc1 w6 (.cells #[.int .i64 ct, .int .i64 nx, .int .i64 h, .bool false] 49)))
      have HE7 := Lib.hid (hu7.row HE6.out (by simp)); have HU7 := Lib.hid (HU6.out.thn hu7)
      clear hu7
      go_upto_region 13 with (at_builtin; refine app_row tyE rfl _ _ rfl W0.heap.size (.slice va k vc) k (es.take k) rfl HE7.out (some ⟨w6.heap.size, 0, none⟩) 1 1 [⟨ct, nx, h, false⟩] rfl rfl HRX.out (fun e => by simp at e) (by omega) (by simp; omega) ?_; intro v8 w8 hown hgrow; obtain ⟨vb, vd, rfl⟩ := row_shape hown; have HU8 : Hid (Upd [] W0 w8) := HU7.out.grown hgrow (fun x hx hl => by have := own_ge HE7.out x hx; omega); have HF8 := Lib.hid (HF.out.stay HU8.out); have HE8 := Lib.hid hown; clear hown hgrow HE6 HE7 HF6 HU6 HU7 HRX m2 c1 hsz6)
      obtain ⟨m0, m1, m2, m3⟩ := cells4 HF8.out.bm
      clear m0 m2 m3
      have hsz8 := HU8.out.size
      have HRY : Hid (Row LE w8 (some ⟨b, off + k * 4, none⟩) (es.drop k)) := Lib.hid (row_drop k (HROW.out.stay HF8.out.upd))
      go_upto_region 14 with (at_builtin; refine app_row tyE rfl _ _ rfl W0.heap.size (.slice vb (k + 1) vd) (k + 1) (es.take k ++ [⟨ct, nx, h, false⟩]) rfl HE8.out (some ⟨b, off + k * 4, none⟩) (n - k) (ec - k) (es.drop k) rfl HLD.out HRY.out (fun e => by simp at e) (by omega) hsz8 ?_; intro v9 w9 hown hgrow; obtain ⟨ve, vf, rfl⟩ := row_shape hown; have HU9 : Hid (Upd [] W0 w9) := HU8.out.grown hgrow (fun x hx hl => by have := own_ge HE8.out x hx; omega); have HF9 := Lib.hid (HF.out.stay HU9.out); have HE9 := Lib.hid hown; clear hown hgrow HE8 HF8 HU8 HRY m1 hsz8)
      obtain ⟨m0, m1, m2, m3⟩ := cells4 HF9.out.bm
      clear m0 m1 m2
      have HB0 := Lib.hid (World.ownsRow_made (base := w9.heap.size) (size := LN.k) (e := 3) w9 #[] 0 (Nat.le_refl _) (Nat.zero_le _) (by simp))
      have hu10 := (Upd.refl [] w9).alloc (.cells #[] 3)
      have m3 := hu10.cell m3 (by simp)
      have HRI := Lib.hid ((HM.out.is.row.stay HF9.out.upd).stay hu10)
      go_upto_region 15 with (at_builtin; refine app_row tyN rfl _ _ rfl w9.heap.size (.slice (some ⟨w9.heap.size, 0, none⟩) 0 0) 0 [] rfl HB0.out ia q ic is rfl HQ.out HRI.out HNI.out (by omega) (by simp) ?_; intro v10 w10 hown hgrow; rw [Nat.zero_add, List.nil_append] at hown; obtain ⟨xa, xc, rfl⟩ := row_shape hown; have hu11 : Upd [] w9 w10 := hu10.grown hgrow (fun x hx hl => by simp [Value.ownBlock] at hx; omega); have HI10 := Lib.hid hown; have HU10 := Lib.hid hu11; clear hown hgrow hu10 hu11 m3 HB0 HRI HF9)
      have hsz10 := HU10.out.size
      have hu12 := (Upd.refl [] w10).alloc (.cells #[.int .i64 h] 3)
      have HRZ := Lib.hid (num_cells (x := h) (heap_alloc1 w10 (.cells #[.int .i64 h] 3)))
      have HI12 := Lib.hid (hu12.row HI10.out (by simp)); have HU12 := Lib.hid (HU10.out.thn hu12)
      clear hu12
      go_upto_region 16 with (at_builtin; refine app_row tyN rfl _ _ rfl w9.heap.size (.slice xa q xc) q is rfl HI12.out (some ⟨w10.heap.size, 0, none⟩) 1 1 [h] rfl rfl HRZ.out (fun e => by simp at e) (by omega) (by simp; omega) ?_; intro v13 w13 hown hgrow; obtain ⟨ya, yc, rfl⟩ := row_shape hown; have HU13 : Hid (Upd [] w9 w13) := HU12.out.grown hgrow (fun x hx hl => by have := own_ge HI12.out x hx; omega); have HI13 := Lib.hid hown; clear hown hgrow HRZ HI10 HI12 HU10 HU12 hsz10)
      have HF13 := Lib.hid (HF.out.stay (HU9.out.thn HU13.out))
      have HE13 := Lib.hid (HU13.out.row HE9.out (by simp))
      have HSZ9 := Lib.hid HU9.out.size
      obtain ⟨q0, q1, q2, q3⟩ := cells4 HF13.out.bm
      clear q1 q3 HE9
      have HRET : Hid (encM ⟨cap, ⟨putE es ⟨ct, nx, h, false⟩, ve, vf⟩, nx + 1, ⟨is ++ [h], ya, yc⟩⟩ = .agg #[.int .i64 cap, .slice ve (k + 1 + (n - k)) vf, .int .i64 (nx + 1), .slice ya (q + 1) yc]) := Lib.hid (by unfold encM cellsM; simp only [List.length_append, List.length_singleton]; rw [HNL.out, ← HQ.out])
      rw [← HLS.out] at HE13
      obtain ⟨d0, d1, d2, d3⟩ := cells4 HF13.out.rm
      obtain ⟨e0, e1, e2, e3⟩ := free4 HF13.out.rm
      obtain ⟨d4, d5, d6, d7⟩ := cells4 HF13.out.rr
      obtain ⟨e4, e5, e6, e7⟩ := free4 HF13.out.rr
      go_wp2_with fail
      have k8 := stored4 HF13.out.rm (.int .i64 cap) (.slice ve (k + 1 + (n - k)) vf) (.int .i64 (nx + 1)) (.slice ya (q + 1) yc)
      have u8 := upd_set4 w13 (P + 1 + 1) (.int .i64 cap) (.slice ve (k + 1 + (n - k)) vf) (.int .i64 (nx + 1)) (.slice ya (q + 1) yc)
      with_reducible generalize (((w13.setCell ⟨P + 1 + 1, 0, none⟩ (.int .i64 cap)).setCell ⟨P + 1 + 1, 1, none⟩ (.slice ve (k + 1 + (n - k)) vf)).setCell ⟨P + 1 + 1, 2, none⟩ (.int .i64 (nx + 1))).setCell ⟨P + 1 + 1, 3, none⟩ (.slice ya (q + 1) yc) = W8 at k8 u8 ⊢
      have k9 := stored4 (u8.at HF13.out.rr (by simp)) (.int .i64 0) (.int .i64 h) (.bool false) (.slice none 0 0)
      have u9 := upd_set4 W8 (P + 1 + 1 + 1) (.int .i64 0) (.int .i64 h) (.bool false) (.slice none 0 0)
      with_reducible generalize (((W8.setCell ⟨P + 1 + 1 + 1, 0, none⟩ (.int .i64 0)).setCell ⟨P + 1 + 1 + 1, 1, none⟩ (.int .i64 h)).setCell ⟨P + 1 + 1 + 1, 2, none⟩ (.bool false)).setCell ⟨P + 1 + 1 + 1, 3, none⟩ (.slice none 0 0) = W9 at k9 u9 ⊢
      obtain ⟨r0, r1, r2, r3⟩ := cells4 (u9.at k8 (by simp))
      obtain ⟨s0, s1, s2, s3⟩ := cells4 k9
      have hU89 : Upd [P + 1 + 1, P + 1 + 1 + 1] w13 W9 := (u8.mono (by simp)).trans u9 (by simp)
      have hU9 : Upd [] w W9 := HF13.out.upd.trans hU89 (fun x hx hl => by have := HF13.out.ord; simp at hx; omega)
      exact bodyPost_ret (v := .tuple #[.agg #[.int .i64 cap, .slice ve (k + 1 + (n - k)) vf, .int .i64 (nx + 1), .slice ya (q + 1) yc], .agg #[.int .i64 0, .int .i64 h, .bool false, .slice none 0 0]]) (by simp [results, Try.results32, go_sem, r0, r1, r2, r3, s0, s1, s2, s3]) rfl ⟨⟨cap, ⟨putE es ⟨ct, nx, h, false⟩, ve, vf⟩, nx + 1, ⟨is ++ [h], ya, yc⟩⟩, ⟨0, h, false, ⟨[], none, 0⟩⟩, by rw [HRET.out]; rfl, rfl, rfl, ⟨(hasS_any (hU89.row HE13.out (fun x hx hm => by have h1 := own_ge HE13.out x hx; have h2 := HSZ0.out; simp at hm; omega))).2, (hasS_any (hU89.row HI13.out (fun x hx hm => by have h1 := own_ge HI13.out x hx; have h2 := HSZ0.out; have h3 := HSZ9.out; simp at hm; omega))).2⟩, hasS_nil LV _, fun bx hbx ha => ⟨⟨av_any HE13.out (by have := HF.out.upd.size; omega), av_any HI13.out (by have h1 := HF.out.upd.size; have h2 := HSZ9.out; omega)⟩, avS_nil _ _ _⟩, hU9⟩
    · have g4 : decide (0 < k) = true := decide_eq_true (by omega)
      have g5 : decide ((0 : Int) < (k : Int)) = true := decide_eq_true (by omega)
      obtain ⟨p, hp2⟩ : ∃ p, p = k - 1 := ⟨_, rfl⟩
      have hwp : IntKind.i64.wrap ((k : Int) - 1) = (p : Int) := by rw [IntKind.wrap_i64]; omega
      have hpz : (p : Int) < (n : Int) := by omega
      have hp1 : p < es.length := by have := HN.out; omega
      obtain ⟨b', off', e5, x0, -, -, -⟩ := (HROW.out.stay HFK.out.upd).ent p hp1
      simp only [Option.some.injEq, Addr.mk.injEq, and_true] at e5
      obtain ⟨rfl, rfl⟩ := e5
      have hst : posN es ct k = if ct < es[p].t then posN es ct p else k := by
        obtain rfl : k = p + 1 := by omega
        simp only [posN]
        rw [getD_get hp1]
      obtain ⟨et, het⟩ : ∃ x, x = (es[p]'hp1).t := ⟨_, rfl⟩
      rw [← het] at x0 hst
      have HST := Lib.hid hst
      have HP2 := Lib.hid hp2
      clear het hst hp1 hp2
      by_cases hc : ct < et
      · have g6 : decide (ct < et) = true := decide_eq_true hc
        have HPN2 : Hid (posM es ct = posN es ct p) := Lib.hid (by rw [HPN.out, HST.out, if_pos hc])
        go_upto_region 8 with (fail)
        go_quiet (fail)
        have hd : Upd [] wr (wr.drewN nq) := (Upd.refl [] wr).drewN nq
        have HF5 := Lib.hid (HFK.out.stay hd); have HU5 := Lib.hid (HUK.out.thn hd)
        generalize wr.drewN nq = W5 at *
        clear hd m1 c1 HFK HUK x0 g4 g5 g6
        go_wp2_with fail
        go_roundg p
        case measure => have h1 := HK.out; have h2 := HP2.out; omega
        case rel => exact ⟨by go_num, by omega, HPN2, HF5, HU5⟩
      · have g6 : decide (ct < et) = false := decide_eq_false hc
        have HPOS : Hid (posM es ct = k) := Lib.hid (by rw [HPN.out, HST.out, if_neg hc])
        go_upto_region 8 with (fail)
        go_quiet (fail)
        have hd : Upd [] wr (wr.drewN nq) := (Upd.refl [] wr).drewN nq
        have HF5 := Lib.hid (HFK.out.stay hd); have HU5 := Lib.hid (HUK.out.thn hd)
        generalize wr.drewN nq = W5 at *
        clear hd m1 c1 HFK HUK x0 g4 g5 g6 hwp hc hpz HST
        by_cases hkc : k < ec
        · clear hk0
          have HLS := Lib.hid (HPUT.out k HPOS.out)
          have HTL : Hid (k = (es.take k).length) := Lib.hid (by rw [List.length_take, ← HN.out]; omega)
          have hkc2 : ¬ ec = k := by omega
          have HNL : Hid ((putE es ⟨ct, nx, h, false⟩).length = k + 1 + (n - k)) := Lib.hid (by rw [HPL.out]; omega)
          have HLD : Hid (n - k = (es.drop k).length) := Lib.hid (by rw [List.length_drop, ← HN.out])
          have hke : k ≤ ec := by omega
          obtain ⟨m0, m1, m2, m3⟩ := cells4 HF5.out.bm
          clear m0 m2 m3
          have hsz5 := HU5.out.size
          have HRT := Lib.hid (row_take k (HROW.out.stay HF5.out.upd))
          go_upto_region 12 with (at_builtin; refine app_row tyE rfl _ _ rfl W0.heap.size (.slice none 0 0) 0 [] rfl ⟨rfl, .inl ⟨rfl, rfl⟩⟩ (some ⟨b, off, none⟩) k ec (es.take k) rfl HTL.out HRT.out (fun e => by simp at e) (by omega) hsz5 ?_; intro v6 w6 hown hgrow; rw [Nat.zero_add, List.nil_append] at hown; obtain ⟨va, vc, rfl⟩ := row_shape hown; have hu6 : Upd [] W5 w6 := (Upd.refl [] W5).grown hgrow (fun x hx hl => by simp [Value.ownBlock] at hx); have HF6 := Lib.hid (HF5.out.stay hu6); have HU6 := Lib.hid (HU5.out.thn hu6); have HE6 := Lib.hid hown; clear hown hgrow hu6 m1 hsz5 HRT)
          obtain ⟨m0, m1, m2, m3⟩ := cells4 HF6.out.bm
          obtain ⟨c0, c1, c2, c3, c4⟩ := cells5 HF6.out.bc
          clear m0 m1 m3 c0 c2 c3 c4
          have hsz6 := HU6.out.size
          have hu7 := (Upd.refl [] w6).alloc (.cells #[.int .i64 ct, .int .i64 nx, .int .i64 h, .bool false] 49)
          have HRX := Lib.hid (ent_cells (x := ⟨ct, nx, h, false⟩) (heap_alloc1 w6 (.cells #[.int .i64 ct, .int .i64 nx, .int .i64 h, .bool false] 49)))
          have HE7 := Lib.hid (hu7.row HE6.out (by simp)); have HU7 := Lib.hid (HU6.out.thn hu7)
          clear hu7
          go_upto_region 13 with (at_builtin; refine app_row tyE rfl _ _ rfl W0.heap.size (.slice va k vc) k (es.take k) rfl HE7.out (some ⟨w6.heap.size, 0, none⟩) 1 1 [⟨ct, nx, h, false⟩] rfl rfl HRX.out (fun e => by simp at e) (by omega) (by simp; omega) ?_; intro v8 w8 hown hgrow; obtain ⟨vb, vd, rfl⟩ := row_shape hown; have HU8 : Hid (Upd [] W0 w8) := HU7.out.grown hgrow (fun x hx hl => by have := own_ge HE7.out x hx; omega); have HF8 := Lib.hid (HF.out.stay HU8.out); have HE8 := Lib.hid hown; clear hown hgrow HE6 HE7 HF6 HU6 HU7 HRX m2 c1 hsz6)
          obtain ⟨m0, m1, m2, m3⟩ := cells4 HF8.out.bm
          clear m0 m2 m3
          have hsz8 := HU8.out.size
          have HRY : Hid (Row LE w8 (some ⟨b, off + k * 4, none⟩) (es.drop k)) := Lib.hid (row_drop k (HROW.out.stay HF8.out.upd))
          go_upto_region 14 with (at_builtin; refine app_row tyE rfl _ _ rfl W0.heap.size (.slice vb (k + 1) vd) (k + 1) (es.take k ++ [⟨ct, nx, h, false⟩]) rfl HE8.out (some ⟨b, off + k * 4, none⟩) (n - k) (ec - k) (es.drop k) rfl HLD.out HRY.out (fun e => by simp at e) (by omega) hsz8 ?_; intro v9 w9 hown hgrow; obtain ⟨ve, vf, rfl⟩ := row_shape hown; have HU9 : Hid (Upd [] W0 w9) := HU8.out.grown hgrow (fun x hx hl => by have := own_ge HE8.out x hx; omega); have HF9 := Lib.hid (HF.out.stay HU9.out); have HE9 := Lib.hid hown; clear hown hgrow HE8 HF8 HU8 HRY m1 hsz8)
          obtain ⟨m0, m1, m2, m3⟩ := cells4 HF9.out.bm
          clear m0 m1 m2
          have HB0 := Lib.hid (World.ownsRow_made (base := w9.heap.size) (size := LN.k) (e := 3) w9 #[] 0 (Nat.le_refl _) (Nat.zero_le _) (by simp))
          have hu10 := (Upd.refl [] w9).alloc (.cells #[] 3)
          have m3 := hu10.cell m3 (by simp)
          have HRI := Lib.hid ((HM.out.is.row.stay HF9.out.upd).stay hu10)
          go_upto_region 15 with (at_builtin; refine app_row tyN rfl _ _ rfl w9.heap.size (.slice (some ⟨w9.heap.size, 0, none⟩) 0 0) 0 [] rfl HB0.out ia q ic is rfl HQ.out HRI.out HNI.out (by omega) (by simp) ?_; intro v10 w10 hown hgrow; rw [Nat.zero_add, List.nil_append] at hown; obtain ⟨xa, xc, rfl⟩ := row_shape hown; have hu11 : Upd [] w9 w10 := hu10.grown hgrow (fun x hx hl => by simp [Value.ownBlock] at hx; omega); have HI10 := Lib.hid hown; have HU10 := Lib.hid hu11; clear hown hgrow hu10 hu11 m3 HB0 HRI HF9)
          have hsz10 := HU10.out.size
          have hu12 := (Upd.refl [] w10).alloc (.cells #[.int .i64 h] 3)
          have HRZ := Lib.hid (num_cells (x := h) (heap_alloc1 w10 (.cells #[.int .i64 h] 3)))
          have HI12 := Lib.hid (hu12.row HI10.out (by simp)); have HU12 := Lib.hid (HU10.out.thn hu12)
          clear hu12
          go_upto_region 16 with (at_builtin; refine app_row tyN rfl _ _ rfl w9.heap.size (.slice xa q xc) q is rfl HI12.out (some ⟨w10.heap.size, 0, none⟩) 1 1 [h] rfl rfl HRZ.out (fun e => by simp at e) (by omega) (by simp; omega) ?_; intro v13 w13 hown hgrow; obtain ⟨ya, yc, rfl⟩ := row_shape hown; have HU13 : Hid (Upd [] w9 w13) := HU12.out.grown hgrow (fun x hx hl => by have := own_ge HI12.out x hx; omega); have HI13 := Lib.hid hown; clear hown hgrow HRZ HI10 HI12 HU10 HU12 hsz10)
          have HF13 := Lib.hid (HF.out.stay (HU9.out.thn HU13.out))
          have HE13 := Lib.hid (HU13.out.row HE9.out (by simp))
          have HSZ9 := Lib.hid HU9.out.size
          obtain ⟨q0, q1, q2, q3⟩ := cells4 HF13.out.bm
          clear q1 q3 HE9
          have HRET : Hid (encM ⟨cap, ⟨putE es ⟨ct, nx, h, false⟩, ve, vf⟩, nx + 1, ⟨is ++ [h], ya, yc⟩⟩ = .agg #[.int .i64 cap, .slice ve (k + 1 + (n - k)) vf, .int .i64 (nx + 1), .slice ya (q + 1) yc]) := Lib.hid (by unfold encM cellsM; simp only [List.length_append, List.length_singleton]; rw [HNL.out, ← HQ.out])
          rw [← HLS.out] at HE13
          obtain ⟨d0, d1, d2, d3⟩ := cells4 HF13.out.rm
          obtain ⟨e0, e1, e2, e3⟩ := free4 HF13.out.rm
          obtain ⟨d4, d5, d6, d7⟩ := cells4 HF13.out.rr
          obtain ⟨e4, e5, e6, e7⟩ := free4 HF13.out.rr
          go_wp2_with fail
          have k8 := stored4 HF13.out.rm (.int .i64 cap) (.slice ve (k + 1 + (n - k)) vf) (.int .i64 (nx + 1)) (.slice ya (q + 1) yc)
          have u8 := upd_set4 w13 (P + 1 + 1) (.int .i64 cap) (.slice ve (k + 1 + (n - k)) vf) (.int .i64 (nx + 1)) (.slice ya (q + 1) yc)
          with_reducible generalize (((w13.setCell ⟨P + 1 + 1, 0, none⟩ (.int .i64 cap)).setCell ⟨P + 1 + 1, 1, none⟩ (.slice ve (k + 1 + (n - k)) vf)).setCell ⟨P + 1 + 1, 2, none⟩ (.int .i64 (nx + 1))).setCell ⟨P + 1 + 1, 3, none⟩ (.slice ya (q + 1) yc) = W8 at k8 u8 ⊢
          have k9 := stored4 (u8.at HF13.out.rr (by simp)) (.int .i64 0) (.int .i64 h) (.bool false) (.slice none 0 0)
          have u9 := upd_set4 W8 (P + 1 + 1 + 1) (.int .i64 0) (.int .i64 h) (.bool false) (.slice none 0 0)
          with_reducible generalize (((W8.setCell ⟨P + 1 + 1 + 1, 0, none⟩ (.int .i64 0)).setCell ⟨P + 1 + 1 + 1, 1, none⟩ (.int .i64 h)).setCell ⟨P + 1 + 1 + 1, 2, none⟩ (.bool false)).setCell ⟨P + 1 + 1 + 1, 3, none⟩ (.slice none 0 0) = W9 at k9 u9 ⊢
          obtain ⟨r0, r1, r2, r3⟩ := cells4 (u9.at k8 (by simp))
          obtain ⟨s0, s1, s2, s3⟩ := cells4 k9
          have hU89 : Upd [P + 1 + 1, P + 1 + 1 + 1] w13 W9 := (u8.mono (by simp)).trans u9 (by simp)
          have hU9 : Upd [] w W9 := HF13.out.upd.trans hU89 (fun x hx hl => by have := HF13.out.ord; simp at hx; omega)
          exact bodyPost_ret (v := .tuple #[.agg #[.int .i64 cap, .slice ve (k + 1 + (n - k)) vf, .int .i64 (nx + 1), .slice ya (q + 1) yc], .agg #[.int .i64 0, .int .i64 h, .bool false, .slice none 0 0]]) (by simp [results, Try.results32, go_sem, r0, r1, r2, r3, s0, s1, s2, s3]) rfl ⟨⟨cap, ⟨putE es ⟨ct, nx, h, false⟩, ve, vf⟩, nx + 1, ⟨is ++ [h], ya, yc⟩⟩, ⟨0, h, false, ⟨[], none, 0⟩⟩, by rw [HRET.out]; rfl, rfl, rfl, ⟨(hasS_any (hU89.row HE13.out (fun x hx hm => by have h1 := own_ge HE13.out x hx; have h2 := HSZ0.out; simp at hm; omega))).2, (hasS_any (hU89.row HI13.out (fun x hx hm => by have h1 := own_ge HI13.out x hx; have h2 := HSZ0.out; have h3 := HSZ9.out; simp at hm; omega))).2⟩, hasS_nil LV _, fun bx hbx ha => ⟨⟨av_any HE13.out (by have := HF.out.upd.size; omega), av_any HI13.out (by have h1 := HF.out.upd.size; have h2 := HSZ9.out; omega)⟩, avS_nil _ _ _⟩, hU9⟩
        · obtain rfl : k = ec := by omega
          clear hk0
          have HLS := Lib.hid (HPUT.out k HPOS.out)
          have HTL : Hid (k = (es.take k).length) := Lib.hid (by rw [List.length_take, ← HN.out]; omega)
          obtain rfl : k = n := by omega
          have hdk : es.drop k = [] := List.drop_eq_nil_iff.2 (by rw [← HN.out]; omega)
          have HNL : Hid ((putE es ⟨ct, nx, h, false⟩).length = k + 1 + 0) := Lib.hid (by rw [HPL.out])
          rw [hdk] at HLS
          clear hdk
          obtain ⟨m0, m1, m2, m3⟩ := cells4 HF5.out.bm
          clear m0 m2 m3
          have hsz5 := HU5.out.size
          have HRT := Lib.hid (row_take k (HROW.out.stay HF5.out.upd))
          go_upto_region 12 with (at_builtin; refine app_row tyE rfl _ _ rfl W0.heap.size (.slice none 0 0) 0 [] rfl ⟨rfl, .inl ⟨rfl, rfl⟩⟩ (some ⟨b, off, none⟩) k k (es.take k) rfl HTL.out HRT.out (fun e => by simp at e) (by omega) hsz5 ?_; intro v6 w6 hown hgrow; rw [Nat.zero_add, List.nil_append] at hown; obtain ⟨va, vc, rfl⟩ := row_shape hown; have hu6 : Upd [] W5 w6 := (Upd.refl [] W5).grown hgrow (fun x hx hl => by simp [Value.ownBlock] at hx); have HF6 := Lib.hid (HF5.out.stay hu6); have HU6 := Lib.hid (HU5.out.thn hu6); have HE6 := Lib.hid hown; clear hown hgrow hu6 m1 hsz5 HRT)
          obtain ⟨m0, m1, m2, m3⟩ := cells4 HF6.out.bm
          obtain ⟨c0, c1, c2, c3, c4⟩ := cells5 HF6.out.bc
          clear m0 m1 m3 c0 c2 c3 c4
          have hsz6 := HU6.out.size
          have hu7 := (Upd.refl [] w6).alloc (.cells #[.int .i64 ct, .int .i64 nx, .int .i64 h, .bool false] 49)
          have HRX := Lib.hid (ent_cells (x := ⟨ct, nx, h, false⟩) (heap_alloc1 w6 (.cells #[.int .i64 ct, .int .i64 nx, .int .i64 h, .bool false] 49)))
          have HE7 := Lib.hid (hu7.row HE6.out (by simp)); have HU7 := Lib.hid (HU6.out.thn hu7)
          clear hu7
          go_upto_region 13 with (at_builtin; refine app_row tyE rfl _ _ rfl W0.heap.size (.slice va k vc) k (es.take k) rfl HE7.out (some ⟨w6.heap.size, 0, none⟩) 1 1 [⟨ct, nx, h, false⟩] rfl rfl HRX.out (fun e => by simp at e) (by omega) (by simp; omega) ?_; intro v8 w8 hown hgrow; obtain ⟨vb, vd, rfl⟩ := row_shape hown; have HU8 : Hid (Upd [] W0 w8) := HU7.out.grown hgrow (fun x hx hl => by have := own_ge HE7.out x hx; omega); have HF8 := Lib.hid (HF.out.stay HU8.out); have HE8 := Lib.hid hown; clear hown hgrow HE6 HE7 HF6 HU6 HU7 HRX m2 c1 hsz6)
          obtain ⟨m0, m1, m2, m3⟩ := cells4 HF8.out.bm
          clear m0 m2 m3
          have hsz8 := HU8.out.size
          have HRY : Hid (Row LE w8 (some ⟨b, off, none⟩) ([] : List En)) := Lib.hid (row_nil _ _ _)
          go_upto_region 14 with (at_builtin; refine app_row tyE rfl _ _ rfl W0.heap.size (.slice vb (k + 1) vd) (k + 1) (es.take k ++ [⟨ct, nx, h, false⟩]) rfl HE8.out (some ⟨b, off, none⟩) 0 0 ([] : List En) rfl rfl HRY.out (fun e => by simp at e) (by omega) hsz8 ?_; intro v9 w9 hown hgrow; obtain ⟨ve, vf, rfl⟩ := row_shape hown; have HU9 : Hid (Upd [] W0 w9) := HU8.out.grown hgrow (fun x hx hl => by have := own_ge HE8.out x hx; omega); have HF9 := Lib.hid (HF.out.stay HU9.out); have HE9 := Lib.hid hown; clear hown hgrow HE8 HF8 HU8 HRY m1 hsz8)
          obtain ⟨m0, m1, m2, m3⟩ := cells4 HF9.out.bm
          clear m0 m1 m2
          have HB0 := Lib.hid (World.ownsRow_made (base := w9.heap.size) (size := LN.k) (e := 3) w9 #[] 0 (Nat.le_refl _) (Nat.zero_le _) (by simp))
          have hu10 := (Upd.refl [] w9).alloc (.cells #[] 3)
          have m3 := hu10.cell m3 (by simp)
          have HRI := Lib.hid ((HM.out.is.row.stay HF9.out.upd).stay hu10)
          go_upto_region 15 with (at_builtin; refine app_row tyN rfl _ _ rfl w9.heap.size (.slice (some ⟨w9.heap.size, 0, none⟩) 0 0) 0 [] rfl HB0.out ia q ic is rfl HQ.out HRI.out HNI.out (by omega) (by simp) ?_; intro v10 w10 hown hgrow; rw [Nat.zero_add, List.nil_append] at hown; obtain ⟨xa, xc, rfl⟩ := row_shape hown; have hu11 : Upd [] w9 w10 := hu10.grown hgrow (fun x hx hl => by simp [Value.ownBlock] at hx; omega); have HI10 := Lib.hid hown; have HU10 := Lib.hid hu11; clear hown hgrow hu10 hu11 m3 HB0 HRI HF9)
          have hsz10 := HU10.out.size
          have hu12 := (Upd.refl [] w10).alloc (.cells #[.int .i64 h] 3)
          have HRZ := Lib.hid (num_cells (x := h) (heap_alloc1 w10 (.cells #[.int .i64 h] 3)))
          have HI12 := Lib.hid (hu12.row HI10.out (by simp)); have HU12 := Lib.hid (HU10.out.thn hu12)
          clear hu12
          go_upto_region 16 with (at_builtin; refine app_row tyN rfl _ _ rfl w9.heap.size (.slice xa q xc) q is rfl HI12.out (some ⟨w10.heap.size, 0, none⟩) 1 1 [h] rfl rfl HRZ.out (fun e => by simp at e) (by omega) (by simp; omega) ?_; intro v13 w13 hown hgrow; obtain ⟨ya, yc, rfl⟩ := row_shape hown; have HU13 : Hid (Upd [] w9 w13) := HU12.out.grown hgrow (fun x hx hl => by have := own_ge HI12.out x hx; omega); have HI13 := Lib.hid hown; clear hown hgrow HRZ HI10 HI12 HU10 HU12 hsz10)
          have HF13 := Lib.hid (HF.out.stay (HU9.out.thn HU13.out))
          have HE13 := Lib.hid (HU13.out.row HE9.out (by simp))
          have HSZ9 := Lib.hid HU9.out.size
          obtain ⟨q0, q1, q2, q3⟩ := cells4 HF13.out.bm
          clear q1 q3 HE9
          have HRET : Hid (encM ⟨cap, ⟨putE es ⟨ct, nx, h, false⟩, ve, vf⟩, nx + 1, ⟨is ++ [h], ya, yc⟩⟩ = .agg #[.int .i64 cap, .slice ve (k + 1 + 0) vf, .int .i64 (nx + 1), .slice ya (q + 1) yc]) := Lib.hid (by unfold encM cellsM; simp only [List.length_append, List.length_singleton]; rw [HNL.out, ← HQ.out])
          rw [← HLS.out] at HE13
          obtain ⟨d0, d1, d2, d3⟩ := cells4 HF13.out.rm
          obtain ⟨e0, e1, e2, e3⟩ := free4 HF13.out.rm
          obtain ⟨d4, d5, d6, d7⟩ := cells4 HF13.out.rr
          obtain ⟨e4, e5, e6, e7⟩ := free4 HF13.out.rr
          go_wp2_with fail
          have k8 := stored4 HF13.out.rm (.int .i64 cap) (.slice ve (k + 1 + 0) vf) (.int .i64 (nx + 1)) (.slice ya (q + 1) yc)
          have u8 := upd_set4 w13 (P + 1 + 1) (.int .i64 cap) (.slice ve (k + 1 + 0) vf) (.int .i64 (nx + 1)) (.slice ya (q + 1) yc)
          with_reducible generalize (((w13.setCell ⟨P + 1 + 1, 0, none⟩ (.int .i64 cap)).setCell ⟨P + 1 + 1, 1, none⟩ (.slice ve (k + 1 + 0) vf)).setCell ⟨P + 1 + 1, 2, none⟩ (.int .i64 (nx + 1))).setCell ⟨P + 1 + 1, 3, none⟩ (.slice ya (q + 1) yc) = W8 at k8 u8 ⊢
          have k9 := stored4 (u8.at HF13.out.rr (by simp)) (.int .i64 0) (.int .i64 h) (.bool false) (.slice none 0 0)
          have u9 := upd_set4 W8 (P + 1 + 1 + 1) (.int .i64 0) (.int .i64 h) (.bool false) (.slice none 0 0)
          with_reducible generalize (((W8.setCell ⟨P + 1 + 1 + 1, 0, none⟩ (.int .i64 0)).setCell ⟨P + 1 + 1 + 1, 1, none⟩ (.int .i64 h)).setCell ⟨P + 1 + 1 + 1, 2, none⟩ (.bool false)).setCell ⟨P + 1 + 1 + 1, 3, none⟩ (.slice none 0 0) = W9 at k9 u9 ⊢
          obtain ⟨r0, r1, r2, r3⟩ := cells4 (u9.at k8 (by simp))
          obtain ⟨s0, s1, s2, s3⟩ := cells4 k9
          have hU89 : Upd [P + 1 + 1, P + 1 + 1 + 1] w13 W9 := (u8.mono (by simp)).trans u9 (by simp)
          have hU9 : Upd [] w W9 := HF13.out.upd.trans hU89 (fun x hx hl => by have := HF13.out.ord; simp at hx; omega)
          exact bodyPost_ret (v := .tuple #[.agg #[.int .i64 cap, .slice ve (k + 1 + 0) vf, .int .i64 (nx + 1), .slice ya (q + 1) yc], .agg #[.int .i64 0, .int .i64 h, .bool false, .slice none 0 0]]) (by simp [results, Try.results32, go_sem, r0, r1, r2, r3, s0, s1, s2, s3]) rfl ⟨⟨cap, ⟨putE es ⟨ct, nx, h, false⟩, ve, vf⟩, nx + 1, ⟨is ++ [h], ya, yc⟩⟩, ⟨0, h, false, ⟨[], none, 0⟩⟩, by rw [HRET.out]; rfl, rfl, rfl, ⟨(hasS_any (hU89.row HE13.out (fun x hx hm => by have h1 := own_ge HE13.out x hx; have h2 := HSZ0.out; simp at hm; omega))).2, (hasS_any (hU89.row HI13.out (fun x hx hm => by have h1 := own_ge HI13.out x hx; have h2 := HSZ0.out; have h3 := HSZ9.out; simp at hm; omega))).2⟩, hasS_nil LV _, fun bx hbx ha => ⟨⟨av_any HE13.out (by have := HF.out.upd.size; omega), av_any HI13.out (by have h1 := HF.out.upd.size; have h2 := HSZ9.out; omega)⟩, avS_nil _ _ _⟩, hU9⟩
set_option maxRecDepth 100000 in
set_option maxHeartbeats 8000000 in
theorem RInsert_none (cap nx : Int) (is : List Int) (ia : Option Addr) (ic : Nat) (ck ct ch cm cb : Int) (h : Int) (w : World) (hm : HasM w ⟨cap, ⟨[], none, 0⟩, nx, ⟨is, ia, ic⟩⟩) (hi : is.length ≤ 100000) (hx : 0 ≤ nx ∧ nx ≤ 1000000) (h0 : 0 ≤ ct ∧ ct ≤ 1152921504606846976) (h3 : ¬ cap ≤ ((([] : List En).length : Nat) : Int)) (hok : okH h = true) (hni : h ∉ is) :
    Calls Try.prog 32 #[encM ⟨cap, ⟨[], none, 0⟩, nx, ⟨is, ia, ic⟩⟩, encC ⟨ck, ct, ch, cm, cb⟩, .int .i64 h] w (GivesM ⟨cap, ⟨[], none, 0⟩, nx, ⟨is, ia, ic⟩⟩ (⟨cap, putE [] ⟨ct, nx, h, false⟩, nx + 1, is ++ [h]⟩, ⟨0, h, false, []⟩) w) := by
  have HM := Lib.hid hm
  have HNI := Lib.hid hm.is.nn
  unfold encM cellsM encC
  simp only [List.length_nil] at h3 ⊢
  have HVA := Lib.hid (RHV_has h)
  rw [hok] at HVA
  have HHA : Hid (∀ W, Upd [] w W → Calls Try.prog 23 #[.slice ia is.length ic, .int .i64 h] W fun e w' => e = .returned (.bool false) ∧ W = w') := fun W hu => by have := RHas_has ia ic is h W (hm.is.row.stay hu) (by omega); rw [decide_eq_false hni] at this; exact this
  have HROW := Lib.hid hm.es.row
  obtain ⟨q, hq⟩ : ∃ q, q = is.length := ⟨_, rfl⟩
  rw [← hq] at hi HHA ⊢
  have HQ := Lib.hid hq
  have g1 : decide (ct < 0) = false := decide_eq_false (by omega)
  have g2 : decide (1152921504606846976 < ct) = false := decide_eq_false (by omega)
  have hwx : IntKind.i64.wrap (nx + 1) = nx + 1 := by rw [IntKind.wrap_i64]; omega
  have h3 : ¬ cap ≤ (0 : Int) := by simpa using h3
  have g3 : decide (cap ≤ (0 : Int)) = false := decide_eq_false h3
  have HPUT : Hid (putE ([] : List En) ⟨ct, nx, h, false⟩ = ([] : List En).take 0 ++ [⟨ct, nx, h, false⟩] ++ ([] : List En)) := rfl
  have HLS := HPUT
  have HTL : Hid (0 = (([] : List En).take 0).length) := rfl
  have HNL : Hid ((putE ([] : List En) ⟨ct, nx, h, false⟩).length = 0 + 1 + 0) := rfl
  clear hm hq h3 h0 hok hni hx
  go_enter Try.func32, Try.ntmps32
  go_upto_region 1 with (fail)
  obtain ⟨hu0, b0, b1, b2, b3, hs0⟩ := four_boxes w (.cells #[.int .i64 cap, .slice none 0 0, .int .i64 nx, .slice ia q ic] 25) (.cells #[.int .i64 ck, .int .i64 ct, .int .i64 ch, .int .i64 cm, .int .i64 cb] 28) (.cells #[.int .i64 0, .slice none 0 0, .int .i64 0, .slice none 0 0] 25) (.cells #[.int .i64 0, .int .i64 0, .bool false, .slice none 0 0] 34)
  have HF : Hid (FrR w w.heap.size cap nx 0 q none ia 0 ic ck ct ch cm cb _) := ⟨b0, b1, b2, b3, hu0, Nat.le_refl _⟩
  generalize (((w.alloc (.cells #[.int .i64 cap, .slice none 0 0, .int .i64 nx, .slice ia q ic] 25)).alloc (.cells #[.int .i64 ck, .int .i64 ct, .int .i64 ch, .int .i64 cm, .int .i64 cb] 28)).alloc (.cells #[.int .i64 0, .slice none 0 0, .int .i64 0, .slice none 0 0] 25)).alloc (.cells #[.int .i64 0, .int .i64 0, .bool false, .slice none 0 0] 34) = W0 at *
  have HSZ0 : Hid (W0.heap.size = w.heap.size + 4) := hs0
  generalize w.heap.size = P at *
  clear hu0 b0 b1 b2 b3 hs0
  obtain ⟨c0, c1, c2, c3, c4⟩ := cells5 HF.out.bc
  obtain ⟨m0, m1, m2, m3⟩ := cells4 HF.out.bm
  clear c0 c2 c3 c4 m2
  go_upto_region 7 with (first | (go_at_call 27; (with_reducible refine (HVA.out _).mono ?_); rintro e w1 ⟨rfl, rfl⟩) | (go_at_call 23; (with_reducible refine (HHA.out _ HF.out.upd).mono ?_); rintro e w1 ⟨rfl, rfl⟩))
  go_wp2_with fail
  clear m0 m1 m3 c1 g1 g2 g3 HVA HHA
  go_loopg [8] 0 (fun gk v wr => v = .int .i64 0 ∧ Hid (FrR w P cap nx 0 q none ia 0 ic ck ct ch cm cb wr) ∧ Hid (Upd [] W0 wr))
  case atStart => exact ⟨rfl, HF, Upd.refl [] W0⟩
  case round =>
    obtain ⟨rfl, HFK, HUK⟩ := hrel
    obtain ⟨m0, m1, m2, m3⟩ := cells4 HFK.out.bm
    obtain ⟨c0, c1, c2, c3, c4⟩ := cells5 HFK.out.bc
    clear m0 m2 m3 c0 c2 c3 c4
    go_upto_region 8 with (fail)
    go_quiet (fail)
    have hd : Upd [] wr (wr.drewN nq) := (Upd.refl [] wr).drewN nq
    have HF5 := Lib.hid (HFK.out.stay hd); have HU5 := Lib.hid (HUK.out.thn hd)
    generalize wr.drewN nq = W5 at *
    clear hd m1 c1 HFK HUK 
    obtain ⟨m0, m1, m2, m3⟩ := cells4 HF5.out.bm
    clear m0 m2 m3
    have hsz5 := HU5.out.size
    go_upto_region 12 with (at_builtin; refine app_row tyE rfl _ _ rfl W0.heap.size (.slice none 0 0) 0 [] rfl ⟨rfl, .inl ⟨rfl, rfl⟩⟩ none 0 0 (([] : List En).take 0) rfl HTL.out (row_nil _ _ _) (fun _ => rfl) (by omega) hsz5 ?_; intro v6 w6 hown hgrow; rw [Nat.zero_add, List.nil_append] at hown; obtain ⟨va, vc, rfl⟩ := row_shape hown; have hu6 : Upd [] W5 w6 := (Upd.refl [] W5).grown hgrow (fun x hx hl => by simp [Value.ownBlock] at hx); have HF6 := Lib.hid (HF5.out.stay hu6); have HU6 := Lib.hid (HU5.out.thn hu6); have HE6 := Lib.hid hown; clear hown hgrow hu6 m1 hsz5)
    obtain ⟨m0, m1, m2, m3⟩ := cells4 HF6.out.bm
    obtain ⟨c0, c1, c2, c3, c4⟩ := cells5 HF6.out.bc
    clear m0 m1 m3 c0 c2 c3 c4
    have hsz6 := HU6.out.size
    have hu7 := (Upd.refl [] w6).alloc (.cells #[.int .i64 ct, .int .i64 nx, .int .i64 h, .bool false] 49)
    have HRX := Lib.hid (ent_cells (x := ⟨ct, nx, h, false⟩) (heap_alloc1 w6 (.cells #[.int .i64 ct, .int .i64 nx, .int .i64 h, .bool false] 49)))
    have HE7 := Lib.hid (hu7.row HE6.out (by simp)); have HU7 := Lib.hid (HU6.out.thn hu7)
    clear hu7
    go_upto_region 13 with (at_builtin; refine app_row tyE rfl _ _ rfl W0.heap.size (.slice va 0 vc) 0 (([] : List En).take 0) rfl HE7.out (some ⟨w6.heap.size, 0, none⟩) 1 1 [⟨ct, nx, h, false⟩] rfl rfl HRX.out (fun e => by simp at e) (by omega) (by simp; omega) ?_; intro v8 w8 hown hgrow; obtain ⟨vb, vd, rfl⟩ := row_shape hown; have HU8 : Hid (Upd [] W0 w8) := HU7.out.grown hgrow (fun x hx hl => by have := own_ge HE7.out x hx; omega); have HF8 := Lib.hid (HF.out.stay HU8.out); have HE8 := Lib.hid hown; clear hown hgrow HE6 HE7 HF6 HU6 HU7 HRX m2 c1 hsz6)
    obtain ⟨m0, m1, m2, m3⟩ := cells4 HF8.out.bm
    clear m0 m2 m3
    have hsz8 := HU8.out.size
    go_upto_region 14 with (at_builtin; refine app_row tyE rfl _ _ rfl W0.heap.size (.slice vb (0 + 1) vd) (0 + 1) (([] : List En).take 0 ++ [⟨ct, nx, h, false⟩]) rfl HE8.out none 0 0 ([] : List En) rfl rfl (row_nil _ _ _) (fun _ => rfl) (by omega) hsz8 ?_; intro v9 w9 hown hgrow; obtain ⟨ve, vf, rfl⟩ := row_shape hown; have HU9 : Hid (Upd [] W0 w9) := HU8.out.grown hgrow (fun x hx hl => by have := own_ge HE8.out x hx; omega); have HF9 := Lib.hid (HF.out.stay HU9.out); have HE9 := Lib.hid hown; clear hown hgrow HE8 HF8 HU8 m1 hsz8)
    obtain ⟨m0, m1, m2, m3⟩ := cells4 HF9.out.bm
    clear m0 m1 m2
    have HB0 := Lib.hid (World.ownsRow_made (base := w9.heap.size) (size := LN.k) (e := 3) w9 #[] 0 (Nat.le_refl _) (Nat.zero_le _) (by simp))
    have hu10 := (Upd.refl [] w9).alloc (.cells #[] 3)
    have m3 := hu10.cell m3 (by simp)
    have HRI := Lib.hid ((HM.out.is.row.stay HF9.out.upd).stay hu10)
    go_upto_region 15 with (at_builtin; refine app_row tyN rfl _ _ rfl w9.heap.size (.slice (some ⟨w9.heap.size, 0, none⟩) 0 0) 0 [] rfl HB0.out ia q ic is rfl HQ.out HRI.out HNI.out (by omega) (by simp) ?_; intro v10 w10 hown hgrow; rw [Nat.zero_add, List.nil_append] at hown; obtain ⟨xa, xc, rfl⟩ := row_shape hown; have hu11 : Upd [] w9 w10 := hu10.grown hgrow (fun x hx hl => by simp [Value.ownBlock] at hx; omega); have HI10 := Lib.hid hown; have HU10 := Lib.hid hu11; clear hown hgrow hu10 hu11 m3 HB0 HRI HF9)
    have hsz10 := HU10.out.size
    have hu12 := (Upd.refl [] w10).alloc (.cells #[.int .i64 h] 3)
    have HRZ := Lib.hid (num_cells (x := h) (heap_alloc1 w10 (.cells #[.int .i64 h] 3)))
    have HI12 := Lib.hid (hu12.row HI10.out (by simp)); have HU12 := Lib.hid (HU10.out.thn hu12)
    clear hu12
    go_upto_region 16 with (at_builtin; refine app_row tyN rfl _ _ rfl w9.heap.size (.slice xa q xc) q is rfl HI12.out (some ⟨w10.heap.size, 0, none⟩) 1 1 [h] rfl rfl HRZ.out (fun e => by simp at e) (by omega) (by simp; omega) ?_; intro v13 w13 hown hgrow; obtain ⟨ya, yc, rfl⟩ := row_shape hown; have HU13 : Hid (Upd [] w9 w13) := HU12.out.grown hgrow (fun x hx hl => by have := own_ge HI12.out x hx; omega); have HI13 := Lib.hid hown; clear hown hgrow HRZ HI10 HI12 HU10 HU12 hsz10)
    have HF13 := Lib.hid (HF.out.stay (HU9.out.thn HU13.out))
    have HE13 := Lib.hid (HU13.out.row HE9.out (by simp))
    have HSZ9 := Lib.hid HU9.out.size
    obtain ⟨q0, q1, q2, q3⟩ := cells4 HF13.out.bm
    clear q1 q3 HE9
    have HRET : Hid (encM ⟨cap, ⟨putE ([] : List En) ⟨ct, nx, h, false⟩, ve, vf⟩, nx + 1, ⟨is ++ [h], ya, yc⟩⟩ = .agg #[.int .i64 cap, .slice ve (0 + 1 + 0) vf, .int .i64 (nx + 1), .slice ya (q + 1) yc]) := Lib.hid (by unfold encM cellsM; simp only [List.length_append, List.length_singleton]; rw [HNL.out, ← HQ.out])
    rw [← HLS.out] at HE13
    obtain ⟨d0, d1, d2, d3⟩ := cells4 HF13.out.rm
    obtain ⟨e0, e1, e2, e3⟩ := free4 HF13.out.rm
    obtain ⟨d4, d5, d6, d7⟩ := cells4 HF13.out.rr
    obtain ⟨e4, e5, e6, e7⟩ := free4 HF13.out.rr
    go_wp2_with fail
    have k8 := stored4 HF13.out.rm (.int .i64 cap) (.slice ve (0 + 1 + 0) vf) (.int .i64 (nx + 1)) (.slice ya (q + 1) yc)
    have u8 := upd_set4 w13 (P + 1 + 1) (.int .i64 cap) (.slice ve (0 + 1 + 0) vf) (.int .i64 (nx + 1)) (.slice ya (q + 1) yc)
    with_reducible generalize (((w13.setCell ⟨P + 1 + 1, 0, none⟩ (.int .i64 cap)).setCell ⟨P + 1 + 1, 1, none⟩ (.slice ve (0 + 1 + 0) vf)).setCell ⟨P + 1 + 1, 2, none⟩ (.int .i64 (nx + 1))).setCell ⟨P + 1 + 1, 3, none⟩ (.slice ya (q + 1) yc) = W8 at k8 u8 ⊢
    have k9 := stored4 (u8.at HF13.out.rr (by simp)) (.int .i64 0) (.int .i64 h) (.bool false) (.slice none 0 0)
    have u9 := upd_set4 W8 (P + 1 + 1 + 1) (.int .i64 0) (.int .i64 h) (.bool false) (.slice none 0 0)
    with_reducible generalize (((W8.setCell ⟨P + 1 + 1 + 1, 0, none⟩ (.int .i64 0)).setCell ⟨P + 1 + 1 + 1, 1, none⟩ (.int .i64 h)).setCell ⟨P + 1 + 1 + 1, 2, none⟩ (.bool false)).setCell ⟨P + 1 + 1 + 1, 3, none⟩ (.slice none 0 0) = W9 at k9 u9 ⊢
    obtain ⟨r0, r1, r2, r3⟩ := cells4 (u9.at k8 (by simp))
    obtain ⟨s0, s1, s2, s3⟩ := cells4 k9
    have hU89 : Upd [P + 1 + 1, P + 1 + 1 + 1] w13 W9 := (u8.mono (by simp)).trans u9 (by simp)
    have hU9 : Upd [] w W9 := HF13.out.upd.trans hU89 (fun x hx hl => by have := HF13.out.ord; simp at hx; omega)
    exact bodyPost_ret (v := .tuple #[.agg #[.int .i64 cap, .slice ve (0 + 1 + 0) vf, .int .i64 (nx + 1), .slice ya (q + 1) yc], .agg #[.int .i64 0, .int .i64 h, .bool false, .slice none 0 0]]) (by simp [results, Try.results32, go_sem, r0, r1, r2, r3, s0, s1, s2, s3]) rfl ⟨⟨cap, ⟨putE ([] : List En) ⟨ct, nx, h, false⟩, ve, vf⟩, nx + 1, ⟨is ++ [h], ya, yc⟩⟩, ⟨0, h, false, ⟨[], none, 0⟩⟩, by rw [HRET.out]; rfl, rfl, rfl, ⟨(hasS_any (hU89.row HE13.out (fun x hx hm => by have h1 := own_ge HE13.out x hx; have h2 := HSZ0.out; simp at hm; omega))).2, (hasS_any (hU89.row HI13.out (fun x hx hm => by have h1 := own_ge HI13.out x hx; have h2 := HSZ0.out; have h3 := HSZ9.out; simp at hm; omega))).2⟩, hasS_nil LV _, fun bx hbx ha => ⟨⟨av_any HE13.out (by have := HF.out.upd.size; omega), av_any HI13.out (by have h1 := HF.out.upd.size; have h2 := HSZ9.out; omega)⟩, avS_nil _ _ _⟩, hU9⟩
set_option maxRecDepth 100000 in
set_option maxHeartbeats 8000000 in
theorem RInsert_nil (cap nx : Int) (ea : Addr) (ec : Nat) (is : List Int) (ia : Option Addr) (ic : Nat) (ck ct ch cm cb : Int) (h : Int) (w : World) (hm : HasM w ⟨cap, ⟨[], (some ea), ec⟩, nx, ⟨is, ia, ic⟩⟩) (hi : is.length ≤ 100000) (hx : 0 ≤ nx ∧ nx ≤ 1000000) (h0 : 0 ≤ ct ∧ ct ≤ 1152921504606846976) (h3 : ¬ cap ≤ ((([] : List En).length : Nat) : Int)) (hok : okH h = true) (hni : h ∉ is) :
    Calls Try.prog 32 #[encM ⟨cap, ⟨[], (some ea), ec⟩, nx, ⟨is, ia, ic⟩⟩, encC ⟨ck, ct, ch, cm, cb⟩, .int .i64 h] w (GivesM ⟨cap, ⟨[], (some ea), ec⟩, nx, ⟨is, ia, ic⟩⟩ (⟨cap, putE [] ⟨ct, nx, h, false⟩, nx + 1, is ++ [h]⟩, ⟨0, h, false, []⟩) w) := by
  have HM := Lib.hid hm
  have HNI := Lib.hid hm.is.nn
  unfold encM cellsM encC
  simp only [List.length_nil] at h3 ⊢
  have HVA := Lib.hid (RHV_has h)
  rw [hok] at HVA
  have HHA : Hid (∀ W, Upd [] w W → Calls Try.prog 23 #[.slice ia is.length ic, .int .i64 h] W fun e w' => e = .returned (.bool false) ∧ W = w') := fun W hu => by have := RHas_has ia ic is h W (hm.is.row.stay hu) (by omega); rw [decide_eq_false hni] at this; exact this
  have HROW := Lib.hid hm.es.row
  obtain ⟨q, hq⟩ : ∃ q, q = is.length := ⟨_, rfl⟩
  rw [← hq] at hi HHA ⊢
  have HQ := Lib.hid hq
  have g1 : decide (ct < 0) = false := decide_eq_false (by omega)
  have g2 : decide (1152921504606846976 < ct) = false := decide_eq_false (by omega)
  have hwx : IntKind.i64.wrap (nx + 1) = nx + 1 := by rw [IntKind.wrap_i64]; omega
  have h3 : ¬ cap ≤ (0 : Int) := by simpa using h3
  have g3 : decide (cap ≤ (0 : Int)) = false := decide_eq_false h3
  have HPUT : Hid (putE ([] : List En) ⟨ct, nx, h, false⟩ = ([] : List En).take 0 ++ [⟨ct, nx, h, false⟩] ++ ([] : List En)) := rfl
  have HLS := HPUT
  have HTL : Hid (0 = (([] : List En).take 0).length) := rfl
  have HNL : Hid ((putE ([] : List En) ⟨ct, nx, h, false⟩).length = 0 + 1 + 0) := rfl
  clear hm hq h3 h0 hok hni hx
  go_enter Try.func32, Try.ntmps32
  go_upto_region 1 with (fail)
  obtain ⟨hu0, b0, b1, b2, b3, hs0⟩ := four_boxes w (.cells #[.int .i64 cap, .slice (some ea) 0 ec, .int .i64 nx, .slice ia q ic] 25) (.cells #[.int .i64 ck, .int .i64 ct, .int .i64 ch, .int .i64 cm, .int .i64 cb] 28) (.cells #[.int .i64 0, .slice none 0 0, .int .i64 0, .slice none 0 0] 25) (.cells #[.int .i64 0, .int .i64 0, .bool false, .slice none 0 0] 34)
  have HF : Hid (FrR w w.heap.size cap nx 0 q (some ea) ia ec ic ck ct ch cm cb _) := ⟨b0, b1, b2, b3, hu0, Nat.le_refl _⟩
  generalize (((w.alloc (.cells #[.int .i64 cap, .slice (some ea) 0 ec, .int .i64 nx, .slice ia q ic] 25)).alloc (.cells #[.int .i64 ck, .int .i64 ct, .int .i64 ch, .int .i64 cm, .int .i64 cb] 28)).alloc (.cells #[.int .i64 0, .slice none 0 0, .int .i64 0, .slice none 0 0] 25)).alloc (.cells #[.int .i64 0, .int .i64 0, .bool false, .slice none 0 0] 34) = W0 at *
  have HSZ0 : Hid (W0.heap.size = w.heap.size + 4) := hs0
  generalize w.heap.size = P at *
  clear hu0 b0 b1 b2 b3 hs0
  obtain ⟨c0, c1, c2, c3, c4⟩ := cells5 HF.out.bc
  obtain ⟨m0, m1, m2, m3⟩ := cells4 HF.out.bm
  clear c0 c2 c3 c4 m2
  go_upto_region 7 with (first | (go_at_call 27; (with_reducible refine (HVA.out _).mono ?_); rintro e w1 ⟨rfl, rfl⟩) | (go_at_call 23; (with_reducible refine (HHA.out _ HF.out.upd).mono ?_); rintro e w1 ⟨rfl, rfl⟩))
  go_wp2_with fail
  clear m0 m1 m3 c1 g1 g2 g3 HVA HHA
  go_loopg [8] 0 (fun gk v wr => v = .int .i64 0 ∧ Hid (FrR w P cap nx 0 q (some ea) ia ec ic ck ct ch cm cb wr) ∧ Hid (Upd [] W0 wr))
  case atStart => exact ⟨rfl, HF, Upd.refl [] W0⟩
  case round =>
    obtain ⟨rfl, HFK, HUK⟩ := hrel
    obtain ⟨m0, m1, m2, m3⟩ := cells4 HFK.out.bm
    obtain ⟨c0, c1, c2, c3, c4⟩ := cells5 HFK.out.bc
    clear m0 m2 m3 c0 c2 c3 c4
    go_upto_region 8 with (fail)
    go_quiet (fail)
    have hd : Upd [] wr (wr.drewN nq) := (Upd.refl [] wr).drewN nq
    have HF5 := Lib.hid (HFK.out.stay hd); have HU5 := Lib.hid (HUK.out.thn hd)
    generalize wr.drewN nq = W5 at *
    clear hd m1 c1 HFK HUK 
    obtain ⟨m0, m1, m2, m3⟩ := cells4 HF5.out.bm
    clear m0 m2 m3
    have hsz5 := HU5.out.size
    go_upto_region 12 with (at_builtin; refine app_row tyE rfl _ _ rfl W0.heap.size (.slice none 0 0) 0 [] rfl ⟨rfl, .inl ⟨rfl, rfl⟩⟩ (some _) 0 _ (([] : List En).take 0) rfl HTL.out (row_nil _ _ _) (fun e => by simp at e) (by omega) hsz5 ?_; intro v6 w6 hown hgrow; rw [Nat.zero_add, List.nil_append] at hown; obtain ⟨va, vc, rfl⟩ := row_shape hown; have hu6 : Upd [] W5 w6 := (Upd.refl [] W5).grown hgrow (fun x hx hl => by simp [Value.ownBlock] at hx); have HF6 := Lib.hid (HF5.out.stay hu6); have HU6 := Lib.hid (HU5.out.thn hu6); have HE6 := Lib.hid hown; clear hown hgrow hu6 m1 hsz5)
    obtain ⟨m0, m1, m2, m3⟩ := cells4 HF6.out.bm
    obtain ⟨c0, c1, c2, c3, c4⟩ := cells5 HF6.out.bc
    clear m0 m1 m3 c0 c2 c3 c4
    have hsz6 := HU6.out.size
    have hu7 := (Upd.refl [] w6).alloc (.cells #[.int .i64 ct, .int .i64 nx, .int .i64 h, .bool false] 49)
    have HRX := Lib.hid (ent_cells (x := ⟨ct, nx, h, false⟩) (heap_alloc1 w6 (.cells #[.int .i64 ct, .int .i64 nx, .int .i64 h, .bool false] 49)))
    have HE7 := Lib.hid (hu7.row HE6.out (by simp)); have HU7 := Lib.hid (HU6.out.thn hu7)
    clear hu7
    go_upto_region 13 with (at_builtin; refine app_row tyE rfl _ _ rfl W0.heap.size (.slice va 0 vc) 0 (([] : List En).take 0) rfl HE7.out (some ⟨w6.heap.size, 0, none⟩) 1 1 [⟨ct, nx, h, false⟩] rfl rfl HRX.out (fun e => by simp at e) (by omega) (by simp; omega) ?_; intro v8 w8 hown hgrow; obtain ⟨vb, vd, rfl⟩ := row_shape hown; have HU8 : Hid (Upd [] W0 w8) := HU7.out.grown hgrow (fun x hx hl => by have := own_ge HE7.out x hx; omega); have HF8 := Lib.hid (HF.out.stay HU8.out); have HE8 := Lib.hid hown; clear hown hgrow HE6 HE7 HF6 HU6 HU7 HRX m2 c1 hsz6)
    obtain ⟨m0, m1, m2, m3⟩ := cells4 HF8.out.bm
    clear m0 m2 m3
    have hsz8 := HU8.out.size
    go_upto_region 14 with (at_builtin; refine app_row tyE rfl _ _ rfl W0.heap.size (.slice vb (0 + 1) vd) (0 + 1) (([] : List En).take 0 ++ [⟨ct, nx, h, false⟩]) rfl HE8.out (some _) 0 _ ([] : List En) rfl rfl (row_nil _ _ _) (fun e => by simp at e) (by omega) hsz8 ?_; intro v9 w9 hown hgrow; obtain ⟨ve, vf, rfl⟩ := row_shape hown; have HU9 : Hid (Upd [] W0 w9) := HU8.out.grown hgrow (fun x hx hl => by have := own_ge HE8.out x hx; omega); have HF9 := Lib.hid (HF.out.stay HU9.out); have HE9 := Lib.hid hown; clear hown hgrow HE8 HF8 HU8 m1 hsz8)
    obtain ⟨m0, m1, m2, m3⟩ := cells4 HF9.out.bm
    clear m0 m1 m2
    have HB0 := Lib.hid (World.ownsRow_made (base := w9.heap.size) (size := LN.k) (e := 3) w9 #[] 0 (Nat.le_refl _) (Nat.zero_le _) (by simp))
    have hu10 := (Upd.refl [] w9).alloc (.cells #[] 3)
    have m3 := hu10.cell m3 (by simp)
    have HRI := Lib.hid ((HM.out.is.row.stay HF9.out.upd).stay hu10)
    go_upto_region 15 with (at_builtin; refine app_row tyN rfl _ _ rfl w9.heap.size (.slice (some ⟨w9.heap.size, 0, none⟩) 0 0) 0 [] rfl HB0.out ia q ic is rfl HQ.out HRI.out HNI.out (by omega) (by simp) ?_; intro v10 w10 hown hgrow; rw [Nat.zero_add, List.nil_append] at hown; obtain ⟨xa, xc, rfl⟩ := row_shape hown; have hu11 : Upd [] w9 w10 := hu10.grown hgrow (fun x hx hl => by simp [Value.ownBlock] at hx; omega); have HI10 := Lib.hid hown; have HU10 := Lib.hid hu11; clear hown hgrow hu10 hu11 m3 HB0 HRI HF9)
    have hsz10 := HU10.out.size
    have hu12 := (Upd.refl [] w10).alloc (.cells #[.int .i64 h] 3)
    have HRZ := Lib.hid (num_cells (x := h) (heap_alloc1 w10 (.cells #[.int .i64 h] 3)))
    have HI12 := Lib.hid (hu12.row HI10.out (by simp)); have HU12 := Lib.hid (HU10.out.thn hu12)
    clear hu12
    go_upto_region 16 with (at_builtin; refine app_row tyN rfl _ _ rfl w9.heap.size (.slice xa q xc) q is rfl HI12.out (some ⟨w10.heap.size, 0, none⟩) 1 1 [h] rfl rfl HRZ.out (fun e => by simp at e) (by omega) (by simp; omega) ?_; intro v13 w13 hown hgrow; obtain ⟨ya, yc, rfl⟩ := row_shape hown; have HU13 : Hid (Upd [] w9 w13) := HU12.out.grown hgrow (fun x hx hl => by have := own_ge HI12.out x hx; omega); have HI13 := Lib.hid hown; clear hown hgrow HRZ HI10 HI12 HU10 HU12 hsz10)
    have HF13 := Lib.hid (HF.out.stay (HU9.out.thn HU13.out))
    have HE13 := Lib.hid (HU13.out.row HE9.out (by simp))
    have HSZ9 := Lib.hid HU9.out.size
    obtain ⟨q0, q1, q2, q3⟩ := cells4 HF13.out.bm
    clear q1 q3 HE9
    have HRET : Hid (encM ⟨cap, ⟨putE ([] : List En) ⟨ct, nx, h, false⟩, ve, vf⟩, nx + 1, ⟨is ++ [h], ya, yc⟩⟩ = .agg #[.int .i64 cap, .slice ve (0 + 1 + 0) vf, .int .i64 (nx + 1), .slice ya (q + 1) yc]) := Lib.hid (by unfold encM cellsM; simp only [List.length_append, List.length_singleton]; rw [HNL.out, ← HQ.out])
    rw [← HLS.out] at HE13
    obtain ⟨d0, d1, d2, d3⟩ := cells4 HF13.out.rm
    obtain ⟨e0, e1, e2, e3⟩ := free4 HF13.out.rm
    obtain ⟨d4, d5, d6, d7⟩ := cells4 HF13.out.rr
    obtain ⟨e4, e5, e6, e7⟩ := free4 HF13.out.rr
    go_wp2_with fail
    have k8 := stored4 HF13.out.rm (.int .i64 cap) (.slice ve (0 + 1 + 0) vf) (.int .i64 (nx + 1)) (.slice ya (q + 1) yc)
    have u8 := upd_set4 w13 (P + 1 + 1) (.int .i64 cap) (.slice ve (0 + 1 + 0) vf) (.int .i64 (nx + 1)) (.slice ya (q + 1) yc)
    with_reducible generalize (((w13.setCell ⟨P + 1 + 1, 0, none⟩ (.int .i64 cap)).setCell ⟨P + 1 + 1, 1, none⟩ (.slice ve (0 + 1 + 0) vf)).setCell ⟨P + 1 + 1, 2, none⟩ (.int .i64 (nx + 1))).setCell ⟨P + 1 + 1, 3, none⟩ (.slice ya (q + 1) yc) = W8 at k8 u8 ⊢
    have k9 := stored4 (u8.at HF13.out.rr (by simp)) (.int .i64 0) (.int .i64 h) (.bool false) (.slice none 0 0)
    have u9 := upd_set4 W8 (P + 1 + 1 + 1) (.int .i64 0) (.int .i64 h) (.bool false) (.slice none 0 0)
    with_reducible generalize (((W8.setCell ⟨P + 1 + 1 + 1, 0, none⟩ (.int .i64 0)).setCell ⟨P + 1 + 1 + 1, 1, none⟩ (.int .i64 h)).setCell ⟨P + 1 + 1 + 1, 2, none⟩ (.bool false)).setCell ⟨P + 1 + 1 + 1, 3, none⟩ (.slice none 0 0) = W9 at k9 u9 ⊢
    obtain ⟨r0, r1, r2, r3⟩ := cells4 (u9.at k8 (by simp))
    obtain ⟨s0, s1, s2, s3⟩ := cells4 k9
    have hU89 : Upd [P + 1 + 1, P + 1 + 1 + 1] w13 W9 := (u8.mono (by simp)).trans u9 (by simp)
    have hU9 : Upd [] w W9 := HF13.out.upd.trans hU89 (fun x hx hl => by have := HF13.out.ord; simp at hx; omega)
    exact bodyPost_ret (v := .tuple #[.agg #[.int .i64 cap, .slice ve (0 + 1 + 0) vf, .int .i64 (nx + 1), .slice ya (q + 1) yc], .agg #[.int .i64 0, .int .i64 h, .bool false, .slice none 0 0]]) (by simp [results, Try.results32, go_sem, r0, r1, r2, r3, s0, s1, s2, s3]) rfl ⟨⟨cap, ⟨putE ([] : List En) ⟨ct, nx, h, false⟩, ve, vf⟩, nx + 1, ⟨is ++ [h], ya, yc⟩⟩, ⟨0, h, false, ⟨[], none, 0⟩⟩, by rw [HRET.out]; rfl, rfl, rfl, ⟨(hasS_any (hU89.row HE13.out (fun x hx hm => by have h1 := own_ge HE13.out x hx; have h2 := HSZ0.out; simp at hm; omega))).2, (hasS_any (hU89.row HI13.out (fun x hx hm => by have h1 := own_ge HI13.out x hx; have h2 := HSZ0.out; have h3 := HSZ9.out; simp at hm; omega))).2⟩, hasS_nil LV _, fun bx hbx ha => ⟨⟨av_any HE13.out (by have := HF.out.upd.size; omega), av_any HI13.out (by have h1 := HF.out.upd.size; have h2 := HSZ9.out; omega)⟩, avS_nil _ _ _⟩, hU9⟩
theorem RInsert_has (m : MdR) (c : Ca) (h : Int) (w : World) (hm : HasM w m) (hl : m.es.l.length ≤ 1000) (hi : m.is.l.length ≤ 100000) (hx : 0 ≤ m.nx ∧ m.nx ≤ 1000000) :
    Calls Try.prog 32 #[encM m, encC c, .int .i64 h] w (GivesM m (insM m.md c h) w) := by
  obtain ⟨cap, ⟨es, ea, ec⟩, nx, ⟨is, ia, ic⟩⟩ := m
  obtain ⟨ck, ct, ch, cm, cb⟩ := c
  simp only at hl hi hx
  unfold insM MdR.md
  simp only
  by_cases h0 : 0 ≤ ct ∧ ct ≤ MaxV
  · rw [if_neg (fun h2 => h2 h0)]
    by_cases h3 : cap ≤ (es.length : Int)
    · rw [if_pos h3]
      exact RInsert_err cap nx es ea ec is ia ic ck ct ch cm cb h w hm hi 10 (.inr (.inl ⟨h0, h3, rfl⟩))
    · rw [if_neg h3]
      by_cases h4 : okH h = false ∨ h ∈ is
      · rw [if_pos h4]
        exact RInsert_err cap nx es ea ec is ia ic ck ct ch cm cb h w hm hi 1 (.inr (.inr ⟨h0, h3, h4, rfl⟩))
      · rw [if_neg h4]
        rw [not_or] at h4
        have hok : okH h = true := by simpa using h4.1
        rcases Nat.eq_zero_or_pos es.length with hz | hp
        · obtain rfl := List.length_eq_zero_iff.1 hz
          cases ea with
          | none =>
            obtain rfl : ec = 0 := hm.es.nn rfl
            exact RInsert_none cap nx is ia ic ck ct ch cm cb h w hm hi hx h0 h3 hok h4.2
          | some ea => exact RInsert_nil cap nx ea ec is ia ic ck ct ch cm cb h w hm hi hx h0 h3 hok h4.2
        · obtain ⟨b, off, e2, _⟩ := hm.es.row 0 hp
          simp only at e2
          subst e2
          exact RInsert_some cap nx es b off ec is ia ic ck ct ch cm cb h w hm hl hi hx h0 h3 hok h4.2 hp
  · rw [if_pos h0]
    exact RInsert_err cap nx es ea ec is ia ic ck ct ch cm cb h w hm hi 1 (.inl ⟨h0, rfl⟩)
end Go.Proofs.Ytpneljhplbkdkaa
