
/- Contract of layer 10: the program's extract, on a copy of the model. -/
import Derived.Test.YtpneljhplbkdkaaHE
namespace Go.Proofs.Ytpneljhplbkdkaa
open Go.RowKit Go.Lib

/-- The slice without its first entry. -/
theorem hasS_tail {w : World} {s : SlR En} {b off : Nat} (h : HasS LE w s) (ha : s.ad = some ⟨b, off, none⟩) (h0 : 0 < s.l.length) : HasS LE w ⟨s.l.tail, some ⟨b, off + 4, none⟩, s.cap - 1⟩ := by
  have hr := h.row
  rw [ha] at hr
  have := row_drop 1 hr
  rw [List.drop_one] at this
  refine ⟨?_, by have := h.le; simp only [List.length_tail]; omega, fun e => by simp at e⟩
  have e : off + 1 * LE.k = off + 4 := by rw [Nat.one_mul]; rfl
  rw [← e]
  exact this
theorem hasS_last {w : World} {s : SlR En} {a : Addr} (h1 : s.l.length ≤ 1) : HasS LE w ⟨s.l.tail, some a, 0⟩ := by
  have e : s.l.tail = [] := List.eq_nil_of_length_eq_zero (by rw [List.length_tail]; omega)
  rw [e]
  exact ⟨row_nil _ _ _, by simp, fun e => by simp at e⟩
/-- Where s lies apart, so does its rest. -/
theorem avS_tail {s : SlR En} {b off o2 c2 : Nat} (ha : s.ad = some ⟨b, off, none⟩) (h0 : 0 < s.l.length) {x : Nat} (h : AvS s x) : AvS (⟨s.l.tail, some ⟨b, o2, none⟩, c2⟩ : SlR En) x := fun _ a ea => by
  have h1 := h (List.length_pos_iff.1 h0) _ ha
  obtain rfl := Option.some.inj ea
  exact h1
/-- A row of another type is written: older entries stay. -/
theorem ent_keep {w w' w0 : World} {b0 base n : Nat} {m : MdR} {s s0 : SlR En} {v : Value} {xs : List Value} (h : HasS LE w s) (hav : ∀ x, AvS s0 x → AvS s x) (ho : OwnM b0 w0 m) (hv : w.ownsRow base 51 LV.k v n xs) (hb : w0.heap.size ≤ base) (hu : Upd v.ownBlock.toList w w') (e : m.es = s0 := by rfl) : HasS LE w' s := by
  subst e
  rcases hx : v.ownBlock with _ | x
  · rw [hx] at hu; exact h.stay hu
  · rw [hx] at hu
    exact h.keep1 (b := x) hu (hav x (ho.has.es.avoids (Nat.le_trans hb (own_ge hv x hx))))
set_option maxRecDepth 100000 in
set_option maxHeartbeats 8000000 in
theorem PExtract_bad (b0 : Nat) (cap nx : Int) (es : List En) (ea : Option Addr) (ec : Nat) (is : List Int) (ia : Option Addr) (ic : Nat) (ck ct ch cm cb : Int) (h : Int) (w : World) (ho : OwnM b0 w ⟨cap, ⟨es, ea, ec⟩, nx, ⟨is, ia, ic⟩⟩) (hb0 : b0 ≤ w.heap.size) (hr : ¬ (0 ≤ cm ∧ cm ≤ 64)) :
    Calls Try.prog 31 #[encM ⟨cap, ⟨es, ea, ec⟩, nx, ⟨is, ia, ic⟩⟩, encC ⟨ck, ct, ch, cm, cb⟩, .int .i64 h] w (GivesO b0 (⟨cap, es, nx, is⟩, errR 1) w) := by
  have HO := Lib.hid ho
  unfold encM cellsM encC
  simp only
  have HRET : Hid (∀ n q, n = es.length → q = is.length → encM ⟨cap, ⟨es, ea, ec⟩, nx, ⟨is, ia, ic⟩⟩ = .agg #[.int .i64 cap, .slice ea n ec, .int .i64 nx, .slice ia q ic]) := fun n q h1 h2 => by rw [h1, h2]; rfl
  obtain ⟨n, hn⟩ : ∃ n, n = es.length := ⟨_, rfl⟩
  obtain ⟨q, hq⟩ : ∃ q, q = is.length := ⟨_, rfl⟩
  rw [← hn, ← hq]
  have HRT := Lib.hid (HRET.out n q hn hq)
  clear hn hq ho
  by_cases h1 : cm < 0
  · have g1 : decide (cm < 0) = true := decide_eq_true h1
    clear h1 hr
    go_enter Try.func31, Try.ntmps31
    go_upto_region 1 with (fail)
    obtain ⟨hu0, b0', b1, b2, b3, hs0⟩ := four_boxes w (.cells #[.int .i64 cap, .slice ea n ec, .int .i64 nx, .slice ia q ic] 25) (.cells #[.int .i64 ck, .int .i64 ct, .int .i64 ch, .int .i64 cm, .int .i64 cb] 28) (.cells #[.int .i64 0, .slice none 0 0, .int .i64 0, .slice none 0 0] 25) (.cells #[.int .i64 0, .int .i64 0, .bool false, .slice none 0 0] 34)
    have HF : Hid (FrI b0 w w.heap.size cap nx n q ea ia ec ic ck ct ch cm cb _) := ⟨b0', b1, b2, b3, (Bel.refl b0 w).thn hu0 (by simp), Nat.le_refl _, hb0⟩
    have HU0 := Lib.hid hu0
    generalize (((w.alloc (.cells #[.int .i64 cap, .slice ea n ec, .int .i64 nx, .slice ia q ic] 25)).alloc (.cells #[.int .i64 ck, .int .i64 ct, .int .i64 ch, .int .i64 cm, .int .i64 cb] 28)).alloc (.cells #[.int .i64 0, .slice none 0 0, .int .i64 0, .slice none 0 0] 25)).alloc (.cells #[.int .i64 0, .int .i64 0, .bool false, .slice none 0 0] 34) = W0 at *
    have HSZ0 : Hid (W0.heap.size = w.heap.size + 4) := hs0
    have HPW : Hid (w.heap.size ≤ w.heap.size) := Nat.le_refl _
    obtain ⟨P, hP⟩ : ∃ P, P = w.heap.size := ⟨_, rfl⟩
    rw [← hP] at HF HSZ0 ⊢
    have HP := Lib.hid hP
    clear hu0 b0' b1 b2 b3 hs0 hP HPW
    obtain ⟨c0, c1, c2, c3, c4⟩ := cells5 HF.out.bc
    clear c0 c1 c2 c4
    go_upto_region 2 with (fail)
    obtain ⟨q0, q1, q2, q3⟩ := cells4 HF.out.bm
    obtain ⟨d0, d1, d2, d3⟩ := cells4 HF.out.rm
    obtain ⟨e0, e1, e2, e3⟩ := free4 HF.out.rm
    obtain ⟨d4, d5, d6, d7⟩ := cells4 HF.out.rr
    obtain ⟨e4, e5, e6, e7⟩ := free4 HF.out.rr
    go_wp2_with fail
    have k8 := stored4 HF.out.rm (.int .i64 cap) (.slice ea n ec) (.int .i64 nx) (.slice ia q ic)
    have u8 := upd_set4 W0 (P + 1 + 1) (.int .i64 cap) (.slice ea n ec) (.int .i64 nx) (.slice ia q ic)
    with_reducible generalize (((W0.setCell ⟨P + 1 + 1, 0, none⟩ (.int .i64 cap)).setCell ⟨P + 1 + 1, 1, none⟩ (.slice ea n ec)).setCell ⟨P + 1 + 1, 2, none⟩ (.int .i64 nx)).setCell ⟨P + 1 + 1, 3, none⟩ (.slice ia q ic) = W8 at k8 u8 ⊢
    have k9 := stored4 (u8.at HF.out.rr (by simp)) (.int .i64 1) (.int .i64 0) (.bool false) (.slice none 0 0)
    have u9 := upd_set4 W8 (P + 1 + 1 + 1) (.int .i64 1) (.int .i64 0) (.bool false) (.slice none 0 0)
    with_reducible generalize (((W8.setCell ⟨P + 1 + 1 + 1, 0, none⟩ (.int .i64 1)).setCell ⟨P + 1 + 1 + 1, 1, none⟩ (.int .i64 0)).setCell ⟨P + 1 + 1 + 1, 2, none⟩ (.bool false)).setCell ⟨P + 1 + 1 + 1, 3, none⟩ (.slice none 0 0) = W9 at k9 u9 ⊢
    obtain ⟨r0, r1, r2, r3⟩ := cells4 (u9.at k8 (by simp))
    obtain ⟨s0, s1, s2, s3⟩ := cells4 k9
    have hU89 : Upd [P + 1 + 1, P + 1 + 1 + 1] W0 W9 := (u8.mono (by simp)).trans u9 (by simp)
    have hU9 : Bel b0 w W9 := HF.out.bel.thn hU89 (fun x hx => by have h1 := HF.out.ord; have h2 := HF.out.base; simp at hx; exact ⟨by omega, plain_new (by omega)⟩)
    exact bodyPost_ret (v := .tuple #[.agg #[.int .i64 cap, .slice ea n ec, .int .i64 nx, .slice ia q ic], .agg #[.int .i64 1, .int .i64 0, .bool false, .slice none 0 0]]) (by simp [results, Try.results31, go_sem, r0, r1, r2, r3, s0, s1, s2, s3]) rfl ⟨⟨cap, ⟨es, ea, ec⟩, nx, ⟨is, ia, ic⟩⟩, ⟨1, 0, false, ⟨[], none, 0⟩⟩, by rw [HRT.out]; rfl, rfl, rfl, ⟨(HO.out.has.es.stay HU0.out).two2 hU89 (HO.out.has.es.avoids (by have := HP.out; omega)) (HO.out.has.es.avoids (by have := HP.out; omega)), (HO.out.has.is.stay HU0.out).two2 hU89 (HO.out.has.is.avoids (by have := HP.out; omega)) (HO.out.has.is.avoids (by have := HP.out; omega))⟩, hasS_nil LV _, fun bx hbx => ⟨HO.out.av hbx, avS_nil _ _ _⟩, hU9⟩
  · have g1 : decide (cm < 0) = false := decide_eq_false h1
    have g2 : decide (64 < cm) = true := decide_eq_true (by omega)
    clear h1 hr
    go_enter Try.func31, Try.ntmps31
    go_upto_region 1 with (fail)
    obtain ⟨hu0, b0', b1, b2, b3, hs0⟩ := four_boxes w (.cells #[.int .i64 cap, .slice ea n ec, .int .i64 nx, .slice ia q ic] 25) (.cells #[.int .i64 ck, .int .i64 ct, .int .i64 ch, .int .i64 cm, .int .i64 cb] 28) (.cells #[.int .i64 0, .slice none 0 0, .int .i64 0, .slice none 0 0] 25) (.cells #[.int .i64 0, .int .i64 0, .bool false, .slice none 0 0] 34)
    have HF : Hid (FrI b0 w w.heap.size cap nx n q ea ia ec ic ck ct ch cm cb _) := ⟨b0', b1, b2, b3, (Bel.refl b0 w).thn hu0 (by simp), Nat.le_refl _, hb0⟩
    have HU0 := Lib.hid hu0
    generalize (((w.alloc (.cells #[.int .i64 cap, .slice ea n ec, .int .i64 nx, .slice ia q ic] 25)).alloc (.cells #[.int .i64 ck, .int .i64 ct, .int .i64 ch, .int .i64 cm, .int .i64 cb] 28)).alloc (.cells #[.int .i64 0, .slice none 0 0, .int .i64 0, .slice none 0 0] 25)).alloc (.cells #[.int .i64 0, .int .i64 0, .bool false, .slice none 0 0] 34) = W0 at *
    have HSZ0 : Hid (W0.heap.size = w.heap.size + 4) := hs0
    have HPW : Hid (w.heap.size ≤ w.heap.size) := Nat.le_refl _
    obtain ⟨P, hP⟩ : ∃ P, P = w.heap.size := ⟨_, rfl⟩
    rw [← hP] at HF HSZ0 ⊢
    have HP := Lib.hid hP
    clear hu0 b0' b1 b2 b3 hs0 hP HPW
    obtain ⟨c0, c1, c2, c3, c4⟩ := cells5 HF.out.bc
    clear c0 c1 c2 c4
    go_upto_region 2 with (fail)
    obtain ⟨q0, q1, q2, q3⟩ := cells4 HF.out.bm
    obtain ⟨d0, d1, d2, d3⟩ := cells4 HF.out.rm
    obtain ⟨e0, e1, e2, e3⟩ := free4 HF.out.rm
    obtain ⟨d4, d5, d6, d7⟩ := cells4 HF.out.rr
    obtain ⟨e4, e5, e6, e7⟩ := free4 HF.out.rr
    go_wp2_with fail
    have k8 := stored4 HF.out.rm (.int .i64 cap) (.slice ea n ec) (.int .i64 nx) (.slice ia q ic)
    have u8 := upd_set4 W0 (P + 1 + 1) (.int .i64 cap) (.slice ea n ec) (.int .i64 nx) (.slice ia q ic)
    with_reducible generalize (((W0.setCell ⟨P + 1 + 1, 0, none⟩ (.int .i64 cap)).setCell ⟨P + 1 + 1, 1, none⟩ (.slice ea n ec)).setCell ⟨P + 1 + 1, 2, none⟩ (.int .i64 nx)).setCell ⟨P + 1 + 1, 3, none⟩ (.slice ia q ic) = W8 at k8 u8 ⊢
    have k9 := stored4 (u8.at HF.out.rr (by simp)) (.int .i64 1) (.int .i64 0) (.bool false) (.slice none 0 0)
    have u9 := upd_set4 W8 (P + 1 + 1 + 1) (.int .i64 1) (.int .i64 0) (.bool false) (.slice none 0 0)
    with_reducible generalize (((W8.setCell ⟨P + 1 + 1 + 1, 0, none⟩ (.int .i64 1)).setCell ⟨P + 1 + 1 + 1, 1, none⟩ (.int .i64 0)).setCell ⟨P + 1 + 1 + 1, 2, none⟩ (.bool false)).setCell ⟨P + 1 + 1 + 1, 3, none⟩ (.slice none 0 0) = W9 at k9 u9 ⊢
    obtain ⟨r0, r1, r2, r3⟩ := cells4 (u9.at k8 (by simp))
    obtain ⟨s0, s1, s2, s3⟩ := cells4 k9
    have hU89 : Upd [P + 1 + 1, P + 1 + 1 + 1] W0 W9 := (u8.mono (by simp)).trans u9 (by simp)
    have hU9 : Bel b0 w W9 := HF.out.bel.thn hU89 (fun x hx => by have h1 := HF.out.ord; have h2 := HF.out.base; simp at hx; exact ⟨by omega, plain_new (by omega)⟩)
    exact bodyPost_ret (v := .tuple #[.agg #[.int .i64 cap, .slice ea n ec, .int .i64 nx, .slice ia q ic], .agg #[.int .i64 1, .int .i64 0, .bool false, .slice none 0 0]]) (by simp [results, Try.results31, go_sem, r0, r1, r2, r3, s0, s1, s2, s3]) rfl ⟨⟨cap, ⟨es, ea, ec⟩, nx, ⟨is, ia, ic⟩⟩, ⟨1, 0, false, ⟨[], none, 0⟩⟩, by rw [HRT.out]; rfl, rfl, rfl, ⟨(HO.out.has.es.stay HU0.out).two2 hU89 (HO.out.has.es.avoids (by have := HP.out; omega)) (HO.out.has.es.avoids (by have := HP.out; omega)), (HO.out.has.is.stay HU0.out).two2 hU89 (HO.out.has.is.avoids (by have := HP.out; omega)) (HO.out.has.is.avoids (by have := HP.out; omega))⟩, hasS_nil LV _, fun bx hbx => ⟨HO.out.av hbx, avS_nil _ _ _⟩, hU9⟩
set_option maxRecDepth 100000 in
set_option maxHeartbeats 8000000 in
theorem PExtract_ok (b0 : Nat) (cap nx : Int) (es : List En) (ea : Option Addr) (ec : Nat) (is : List Int) (ia : Option Addr) (ic : Nat) (ck ct ch cm cb : Int) (h : Int) (w : World) (ho : OwnM b0 w ⟨cap, ⟨es, ea, ec⟩, nx, ⟨is, ia, ic⟩⟩) (hb0 : b0 ≤ w.heap.size) (hl : es.length ≤ 1000) (hr : 0 ≤ cm ∧ cm ≤ 64) :
    Calls Try.prog 31 #[encM ⟨cap, ⟨es, ea, ec⟩, nx, ⟨is, ia, ic⟩⟩, encC ⟨ck, ct, ch, cm, cb⟩, .int .i64 h] w (GivesO b0 (⟨cap, (scanB cb cm es []).2, nx, is⟩, ⟨0, 0, false, (scanB cb cm es []).1⟩) w) := by
  have HO := Lib.hid ho
  unfold encM cellsM encC
  simp only
  obtain ⟨n, hn⟩ : ∃ n, n = es.length := ⟨_, rfl⟩
  obtain ⟨q, hq⟩ : ∃ q, q = is.length := ⟨_, rfl⟩
  rw [← hn] at hl ⊢
  rw [← hq]
  have HN := Lib.hid hn; have HQ := Lib.hid hq
  have HRET : Hid (∀ (s : SlR En) r, r = s.l.length → encM ⟨cap, s, nx, ⟨is, ia, ic⟩⟩ = .agg #[.int .i64 cap, .slice s.ad r s.cap, .int .i64 nx, .slice ia q ic]) := fun s r h1 => by rw [h1, hq]; rfl
  have g1 : decide (cm < 0) = false := decide_eq_false (by omega)
  have g2 : decide (64 < cm) = false := decide_eq_false (by omega)
  clear hn hq ho hr
  go_enter Try.func31, Try.ntmps31
  go_upto_region 1 with (fail)
  obtain ⟨hu0, b0', b1, b2, b3, hs0⟩ := four_boxes w (.cells #[.int .i64 cap, .slice ea n ec, .int .i64 nx, .slice ia q ic] 25) (.cells #[.int .i64 ck, .int .i64 ct, .int .i64 ch, .int .i64 cm, .int .i64 cb] 28) (.cells #[.int .i64 0, .slice none 0 0, .int .i64 0, .slice none 0 0] 25) (.cells #[.int .i64 0, .int .i64 0, .bool false, .slice none 0 0] 34)
  have HF : Hid (FrI b0 w w.heap.size cap nx n q ea ia ec ic ck ct ch cm cb _) := ⟨b0', b1, b2, b3, (Bel.refl b0 w).thn hu0 (by simp), Nat.le_refl _, hb0⟩
  have HU0 := Lib.hid hu0
  generalize (((w.alloc (.cells #[.int .i64 cap, .slice ea n ec, .int .i64 nx, .slice ia q ic] 25)).alloc (.cells #[.int .i64 ck, .int .i64 ct, .int .i64 ch, .int .i64 cm, .int .i64 cb] 28)).alloc (.cells #[.int .i64 0, .slice none 0 0, .int .i64 0, .slice none 0 0] 25)).alloc (.cells #[.int .i64 0, .int .i64 0, .bool false, .slice none 0 0] 34) = W0 at *
  have HSZ0 : Hid (W0.heap.size = w.heap.size + 4) := hs0
  have HPW : Hid (w.heap.size ≤ w.heap.size) := Nat.le_refl _
  obtain ⟨P, hP⟩ : ∃ P, P = w.heap.size := ⟨_, rfl⟩
  rw [← hP] at HF HSZ0 ⊢
  have HP := Lib.hid hP
  clear hu0 b0' b1 b2 b3 hs0 hP HPW
  obtain ⟨c0, c1, c2, c3, c4⟩ := cells5 HF.out.bc
  clear c0 c1 c2 c4
  have HO0 := Lib.hid (HO.out.stay HU0.out)
  have HAP := Lib.hid (own_ne HO0.out.es HF.out.bm (by decide))
  go_upto_region 4 with (fail)
  clear c3 g1 g2
  go_loopg [8] n (fun gk v8 wr => ∃ (r : Nat) (oa : Option Addr) (oc : Nat) (ok : List Ev) (s : SlR En), v8 = .slice oa ok.length oc ∧ Hid (r = gk) ∧ Hid (wr.ownsRow W0.heap.size 51 LV.k (.slice oa ok.length oc) ok.length (LV.flat ok)) ∧ Hid (scanB cb cm es [] = scanB cb cm s.l ok) ∧ Hid (ok.length + r ≤ n) ∧ s.l.length = r ∧ Hid (HasS LE wr s) ∧ Hid (∀ x, AvS (⟨es, ea, ec⟩ : SlR En) x → AvS s x) ∧ Hid (FrI b0 w P cap nx r q s.ad ia s.cap ic ck ct ch cm cb wr) ∧ Hid (Upd [P] W0 wr))
  case atStart => exact ⟨n, none, 0, [], ⟨es, ea, ec⟩, rfl, Lib.hid rfl, ⟨rfl, .inl ⟨rfl, rfl⟩⟩, (rfl : scanB cb cm es [] = scanB cb cm es []), Lib.hid (by simp), HN.out.symm, HO0.out.has.es, Lib.hid (fun x h => h), HF, Upd.refl [P] W0⟩
  case round =>
    obtain ⟨r, oa, oc, ok, s, rfl, HR, HOW, HSC, HOK, hsl, HHS, HAV, HFK, HUK⟩ := hrel
    obtain ⟨m0, m1, m2, m3⟩ := cells4 HFK.out.bm
    obtain ⟨c0, c1, c2, c3, c4⟩ := cells5 HFK.out.bc
    clear m0 m2 m3 c0 c1 c2
    have hok := HOK.out
    have HSL := Lib.hid hsl
    obtain ⟨sl, sa, sc⟩ := s
    simp only at HSC hsl m1 HFK HSL
    have hrn : r ≤ n := by omega
    by_cases hlt : 0 < r
    · obtain ⟨⟨et, eq, eh, ed⟩, rest, rfl⟩ : ∃ e r, sl = e :: r := by
        cases sl with
        | nil => simp at hsl; omega
        | cons e r => exact ⟨e, r, rfl⟩
      obtain ⟨b, off, e5, x0, x1, x2, x3⟩ := HHS.out.row.ent 0 (by simp)
      simp only [List.getElem_cons_zero, Nat.zero_mul, Nat.add_zero] at e5 x0 x1 x2 x3
      subst e5
      have hle := HHS.out.le
      simp only [List.length_cons] at hle hsl
      have hnk : 0 < r := hlt
      have g0 : decide (0 < r) = true := decide_eq_true hnk
      have g0z : (0 : Int) < (r : Int) := by omega
      have g0d : decide ((0 : Int) < (r : Int)) = true := decide_eq_true g0z
      by_cases hc1 : et < cb
      · have g3 : decide (et < cb) = true := decide_eq_true hc1
        by_cases hc2 : (ok.length : Int) < cm
        · have g4 : decide ((ok.length : Int) < cm) = true := decide_eq_true hc2
          have HSN : Hid (scanB cb cm es [] = scanB cb cm rest (if ed = true then ok else ok ++ [⟨et, eh⟩])) := Lib.hid (by rw [HSC.out]; simp only [scanB]; rw [if_pos ⟨hc1, hc2⟩])
          have HRL : Hid (rest.length = r - 1) := Lib.hid (by omega)
          have hsc1 : 1 ≤ sc := by omega
          have HR1 : Hid (sc = 1 → r = 1) := Lib.hid (by omega)
          go_upto_region 4 with (fail)
          have k1 := kept_at m1; have k3 := kept_at c3; have k4 := kept_at c4
          clear m1 c3 c4
          have j0 := kept_at x0; have j1 := kept_at x1; have j2 := kept_at x2; have j3 := kept_at x3
          clear x0 x1 x2 x3
          refine wp_region_quiet_kept mixed (by kernel_rfl) ?_
          repeat (go_big_quiet_step (fail))
          refine wpQuiet_nil ?_
          intro W5 hw'
          obtain ⟨⟨Wy, hd⟩, hw''⟩ := hw'
          simp only at hw''
          subst hw''
          have x0 := j0 ⟨W5, hd⟩; have x1 := j1 ⟨W5, hd⟩; have x2 := j2 ⟨W5, hd⟩; have x3 := j3 ⟨W5, hd⟩
          clear j0 j1 j2 j3
          simp only at x0 x1 x2 x3
          have HOW5 := Lib.hid (hd.row HOW.out (by simp)); have HF5 := Lib.hid (HFK.out.stay hd); have HU5 := Lib.hid (HUK.out.trans hd (by simp)); have HS5 := Lib.hid (HHS.out.stay hd)
          clear k1 k3 k4
          clear hd g3 g4 hc1 hc2 HOW HFK HUK HSC HHS g0 hsl
          obtain ⟨m0, m1, m2, m3⟩ := cells4 HF5.out.bm
          clear m0 m2 m3
          go_upto_region 6 with (fail)
          have hu6 := (Upd.refl [] W5).alloc (.cells #[.int .i64 et, .int .i64 eq, .int .i64 eh, .bool ed] 49)
          have b6 := heap_alloc1 W5 (.cells #[.int .i64 et, .int .i64 eq, .int .i64 eh, .bool ed] 49)
          have HOW6 := Lib.hid (hu6.row HOW5.out (by simp)); have HF6 := Lib.hid (HF5.out.stay hu6); have HU6 := Lib.hid (HU5.out.trans hu6 (by simp)); have HS6 := Lib.hid (HS5.out.stay hu6)
          have HP6 := Lib.hid (lt_block HF5.out.bm)
          generalize W5.alloc (.cells #[.int .i64 et, .int .i64 eq, .int .i64 eh, .bool ed] 49) = W6 at *
          generalize W5.heap.size = P6 at *
          have HB6 := Lib.hid b6
          clear b6 hu6 x0 x1 x2 x3 m1 HOW5 HF5 HU5 HS5 g0z g0d
          obtain ⟨m0, m1, m2, m3⟩ := cells4 HF6.out.bm
          obtain ⟨f0, f1, f2, f3⟩ := free4 HF6.out.bm
          clear m0 m2 m3 f0 f2 f3
          skip
          by_cases hsc2 : sc = 1
          · subst hsc2
            obtain rfl : r = 1 := HR1.out rfl
            go_upto_region 7 with (fail)
            have k7 : (W6.setCell ⟨P, 1, none⟩ (.slice (some ⟨b, off, none⟩) 0 0)).heap[P]? = some (.cells #[.int .i64 cap, .slice (some ⟨b, off, none⟩) 0 0, .int .i64 nx, .slice ia q ic] 25 (0, 0)) := setCell_block HF6.out.bm _
            have u7 := upd_set1 W6 P 1 (.slice (some ⟨b, off, none⟩) 0 0)
            have HS7 : Hid (HasS LE (W6.setCell ⟨P, 1, none⟩ (.slice (some ⟨b, off, none⟩) 0 0)) ⟨rest, (some ⟨b, off, none⟩), 0⟩) := Lib.hid ((hasS_last (s := ⟨⟨et, eq, eh, ed⟩ :: rest, some ⟨b, off, none⟩, 1⟩) (by simp only [List.length_cons]; omega)).keep1 u7 (avS_tail (s := ⟨⟨et, eq, eh, ed⟩ :: rest, some ⟨b, off, none⟩, 1⟩) rfl (by simp) (HAV.out _ HAP.out)))
            have HAV7 : Hid (∀ x, AvS (⟨es, ea, ec⟩ : SlR En) x → AvS (⟨rest, (some ⟨b, off, none⟩), 0⟩ : SlR En) x) := Lib.hid (fun x h => avS_tail (s := ⟨⟨et, eq, eh, ed⟩ :: rest, some ⟨b, off, none⟩, 1⟩) rfl (by simp) (HAV.out _ h))
            have HOW7 := Lib.hid (u7.row HOW6.out (fun x hx hm => by have h1 := own_ge HOW6.out x hx; have h2 := HSZ0.out; simp at hm; omega))
            have HB7 := Lib.hid (u7.at HB6.out (by have := HP6.out; simp; omega))
            have HF7 := Lib.hid (HF6.out.setM u7 k7)
            have HU7 := Lib.hid (HU6.out.trans u7 (fun x hx _ => hx))
            skip
            generalize W6.setCell ⟨P, 1, none⟩ (.slice (some ⟨b, off, none⟩) 0 0) = W7 at *
            clear k7 u7 m1 f1 HF6 HU6 HOW6 HS6 HB6 HP6 hsc1 hle
            obtain ⟨y0, y1, y2, y3⟩ := cells4 HB7.out
            clear y1
            cases ed with
            | true =>
              have HSF : Hid (scanB cb cm es [] = scanB cb cm rest ok) := HSN.out
              clear y0 y2
              go_wp2_with fail
              go_roundg 0
              case measure => have := HR.out; omega
              case rel => exact ⟨0, oa, oc, ok, ⟨rest, (some ⟨b, off, none⟩), 0⟩, rfl, Lib.hid rfl, HOW7, HSF, Lib.hid (by have := HOK.out; omega), HRL.out, HS7, HAV7, HF7, HU7⟩
            | false =>
              have HSF : Hid (scanB cb cm es [] = scanB cb cm rest (ok ++ [(⟨et, eh⟩ : Ev)])) := HSN.out
              have hsz := HU7.out.size
              have hu8 := (Upd.refl [] W7).alloc (.cells #[.int .i64 et, .int .i64 eh] 51)
              have HRX := Lib.hid (ev_cells (x := ⟨et, eh⟩) (heap_alloc1 W7 (.cells #[.int .i64 et, .int .i64 eh] 51)))
              have HOW8 := Lib.hid (hu8.row HOW7.out (by simp)); have HF8 := Lib.hid (HF7.out.stay hu8); have HU8 := Lib.hid (HU7.out.trans hu8 (by simp)); have HS8 := Lib.hid (HS7.out.stay hu8)
              have hbs : W0.heap.size ≤ (W7.alloc (.cells #[.int .i64 et, .int .i64 eh] 51)).heap.size := Nat.le_trans hsz (by simp)
              clear hu8
              go_upto_region 8 with (fail)
              go_wp2_with (at_builtin; go_loud (refine app_row tyV rfl _ _ rfl W0.heap.size (.slice oa ok.length oc) ok.length ok rfl HOW8.out (some ⟨W7.heap.size, 0, none⟩) 1 1 [⟨et, eh⟩] rfl rfl HRX.out (fun e => by simp at e) (by omega) hbs ?_; intro v9 w9 hown hgrow; obtain ⟨va, vc, rfl⟩ := row_shape hown; have hu9 : Upd (Value.slice oa ok.length oc).ownBlock.toList _ w9 := upd_grown hgrow; have HOW9 : Hid (w9.ownsRow W0.heap.size 51 LV.k (.slice va (ok ++ [(⟨et, eh⟩ : Ev)]).length vc) (ok ++ [(⟨et, eh⟩ : Ev)]).length (LV.flat (ok ++ [(⟨et, eh⟩ : Ev)]))) := Lib.hid (by rw [List.length_append, List.length_singleton]; exact hown); have HU9 : Hid (Upd [P] W0 w9) := HU8.out.grown hgrow (fun x hx hl => by have := own_ge HOW8.out x hx; omega); have HF9 := Lib.hid (HF8.out.row HOW8.out (by have h1 := HSZ0.out; have h2 := HP.out; omega) (by decide) (by decide) (by decide) (fun x hx => plain_new (by have h0 := own_ge HOW8.out x hx; have h1 := HSZ0.out; have h2 := HP.out; omega)) hu9); have HS9 : Hid (HasS LE w9 _) := Lib.hid (ent_keep HS8.out HAV7.out HO.out HOW8.out (by have h1 := HSZ0.out; have h2 := HP.out; omega) hu9); have HOK9 : Hid ((ok ++ [(⟨et, eh⟩ : Ev)]).length + 0 ≤ n) := Lib.hid (by have := HOK.out; rw [List.length_append, List.length_singleton]; omega); have HLN : Hid (ok.length + 1 = (ok ++ [(⟨et, eh⟩ : Ev)]).length) := Lib.hid (by simp); clear hown hgrow hu9 HRX HOW8 HF8 HU8 HS8 HOW7 HF7 HU7 HS7 y0 y2 y3 hsz hbs))
              go_roundg 0
              case measure => have := HR.out; omega
              case rel => exact ⟨0, va, vc, ok ++ [(⟨et, eh⟩ : Ev)], ⟨rest, (some ⟨b, off, none⟩), 0⟩, by rw [← HLN.out], Lib.hid rfl, HOW9, HSF, HOK9, HRL.out, HS9, HAV7, HF9, HU9⟩
          · have hsc3 : 1 < sc := by omega
            go_upto_region 7 with (fail)
            have k7 : (W6.setCell ⟨P, 1, none⟩ (.slice (some ⟨b, off + 4, none⟩) (r - 1) (sc - 1))).heap[P]? = some (.cells #[.int .i64 cap, .slice (some ⟨b, off + 4, none⟩) (r - 1) (sc - 1), .int .i64 nx, .slice ia q ic] 25 (0, 0)) := setCell_block HF6.out.bm _
            have u7 := upd_set1 W6 P 1 (.slice (some ⟨b, off + 4, none⟩) (r - 1) (sc - 1))
            have HS7 : Hid (HasS LE (W6.setCell ⟨P, 1, none⟩ (.slice (some ⟨b, off + 4, none⟩) (r - 1) (sc - 1))) ⟨rest, (some ⟨b, off + 4, none⟩), (sc - 1)⟩) := Lib.hid ((hasS_tail (s := ⟨⟨et, eq, eh, ed⟩ :: rest, some ⟨b, off, none⟩, sc⟩) HS6.out rfl (by simp)).keep1 u7 (avS_tail (s := ⟨⟨et, eq, eh, ed⟩ :: rest, some ⟨b, off, none⟩, sc⟩) rfl (by simp) (HAV.out _ HAP.out)))
            have HAV7 : Hid (∀ x, AvS (⟨es, ea, ec⟩ : SlR En) x → AvS (⟨rest, (some ⟨b, off + 4, none⟩), (sc - 1)⟩ : SlR En) x) := Lib.hid (fun x h => avS_tail (s := ⟨⟨et, eq, eh, ed⟩ :: rest, some ⟨b, off, none⟩, sc⟩) rfl (by simp) (HAV.out _ h))
            have HOW7 := Lib.hid (u7.row HOW6.out (fun x hx hm => by have h1 := own_ge HOW6.out x hx; have h2 := HSZ0.out; simp at hm; omega))
            have HB7 := Lib.hid (u7.at HB6.out (by have := HP6.out; simp; omega))
            have HF7 := Lib.hid (HF6.out.setM u7 k7)
            have HU7 := Lib.hid (HU6.out.trans u7 (fun x hx _ => hx))
            skip
            generalize W6.setCell ⟨P, 1, none⟩ (.slice (some ⟨b, off + 4, none⟩) (r - 1) (sc - 1)) = W7 at *
            clear k7 u7 m1 f1 HF6 HU6 HOW6 HS6 HB6 HP6 hsc1 hle
            obtain ⟨y0, y1, y2, y3⟩ := cells4 HB7.out
            clear y1
            cases ed with
            | true =>
              have HSF : Hid (scanB cb cm es [] = scanB cb cm rest ok) := HSN.out
              clear y0 y2
              go_wp2_with fail
              go_roundg (r - 1)
              case measure => have := HR.out; omega
              case rel => exact ⟨(r - 1), oa, oc, ok, ⟨rest, (some ⟨b, off + 4, none⟩), (sc - 1)⟩, rfl, Lib.hid rfl, HOW7, HSF, Lib.hid (by have := HOK.out; omega), HRL.out, HS7, HAV7, HF7, HU7⟩
            | false =>
              have HSF : Hid (scanB cb cm es [] = scanB cb cm rest (ok ++ [(⟨et, eh⟩ : Ev)])) := HSN.out
              have hsz := HU7.out.size
              have hu8 := (Upd.refl [] W7).alloc (.cells #[.int .i64 et, .int .i64 eh] 51)
              have HRX := Lib.hid (ev_cells (x := ⟨et, eh⟩) (heap_alloc1 W7 (.cells #[.int .i64 et, .int .i64 eh] 51)))
              have HOW8 := Lib.hid (hu8.row HOW7.out (by simp)); have HF8 := Lib.hid (HF7.out.stay hu8); have HU8 := Lib.hid (HU7.out.trans hu8 (by simp)); have HS8 := Lib.hid (HS7.out.stay hu8)
              have hbs : W0.heap.size ≤ (W7.alloc (.cells #[.int .i64 et, .int .i64 eh] 51)).heap.size := Nat.le_trans hsz (by simp)
              clear hu8
              go_upto_region 8 with (fail)
              go_wp2_with (at_builtin; go_loud (refine app_row tyV rfl _ _ rfl W0.heap.size (.slice oa ok.length oc) ok.length ok rfl HOW8.out (some ⟨W7.heap.size, 0, none⟩) 1 1 [⟨et, eh⟩] rfl rfl HRX.out (fun e => by simp at e) (by omega) hbs ?_; intro v9 w9 hown hgrow; obtain ⟨va, vc, rfl⟩ := row_shape hown; have hu9 : Upd (Value.slice oa ok.length oc).ownBlock.toList _ w9 := upd_grown hgrow; have HOW9 : Hid (w9.ownsRow W0.heap.size 51 LV.k (.slice va (ok ++ [(⟨et, eh⟩ : Ev)]).length vc) (ok ++ [(⟨et, eh⟩ : Ev)]).length (LV.flat (ok ++ [(⟨et, eh⟩ : Ev)]))) := Lib.hid (by rw [List.length_append, List.length_singleton]; exact hown); have HU9 : Hid (Upd [P] W0 w9) := HU8.out.grown hgrow (fun x hx hl => by have := own_ge HOW8.out x hx; omega); have HF9 := Lib.hid (HF8.out.row HOW8.out (by have h1 := HSZ0.out; have h2 := HP.out; omega) (by decide) (by decide) (by decide) (fun x hx => plain_new (by have h0 := own_ge HOW8.out x hx; have h1 := HSZ0.out; have h2 := HP.out; omega)) hu9); have HS9 : Hid (HasS LE w9 _) := Lib.hid (ent_keep HS8.out HAV7.out HO.out HOW8.out (by have h1 := HSZ0.out; have h2 := HP.out; omega) hu9); have HOK9 : Hid ((ok ++ [(⟨et, eh⟩ : Ev)]).length + (r - 1) ≤ n) := Lib.hid (by have := HOK.out; rw [List.length_append, List.length_singleton]; omega); have HLN : Hid (ok.length + 1 = (ok ++ [(⟨et, eh⟩ : Ev)]).length) := Lib.hid (by simp); clear hown hgrow hu9 HRX HOW8 HF8 HU8 HS8 HOW7 HF7 HU7 HS7 y0 y2 y3 hsz hbs))
              go_roundg (r - 1)
              case measure => have := HR.out; omega
              case rel => exact ⟨(r - 1), va, vc, ok ++ [(⟨et, eh⟩ : Ev)], ⟨rest, (some ⟨b, off + 4, none⟩), (sc - 1)⟩, by rw [← HLN.out], Lib.hid rfl, HOW9, HSF, HOK9, HRL.out, HS9, HAV7, HF9, HU9⟩
        · have g4 : decide ((ok.length : Int) < cm) = false := decide_eq_false hc2
          have HST : Hid (scanB cb cm (⟨et, eq, eh, ed⟩ :: rest) ok = (ok, ⟨et, eq, eh, ed⟩ :: rest)) := Lib.hid (by simp only [scanB]; rw [if_neg (fun h => hc2 h.2)])
          go_upto_region 4 with (fail)
          have k1 := kept_at m1; have k3 := kept_at c3; have k4 := kept_at c4
          clear m1 c3 c4
          have j0 := kept_at x0; have j1 := kept_at x1; have j2 := kept_at x2; have j3 := kept_at x3
          clear x0 x1 x2 x3
          refine wp_region_quiet_kept mixed (by kernel_rfl) ?_
          repeat (go_big_quiet_step (fail))
          refine wpQuiet_nil ?_
          intro W5 hw'
          obtain ⟨⟨Wy, hd⟩, hw''⟩ := hw'
          simp only at hw''
          subst hw''
          have x0 := j0 ⟨W5, hd⟩; have x1 := j1 ⟨W5, hd⟩; have x2 := j2 ⟨W5, hd⟩; have x3 := j3 ⟨W5, hd⟩
          clear j0 j1 j2 j3
          simp only at x0 x1 x2 x3
          have HOW5 := Lib.hid (hd.row HOW.out (by simp)); have HF5 := Lib.hid (HFK.out.stay hd); have HU5 := Lib.hid (HUK.out.trans hd (by simp)); have HS5 := Lib.hid (HHS.out.stay hd)
          clear k1 k3 k4
          clear hd g3 g4 hc1 hc2 x0 x1 x2 x3 g0 g0z g0d
          go_upto_region 9 with (fail)
          obtain ⟨q0, q1, q2, q3⟩ := cells4 HF5.out.bm
          have HRT := Lib.hid (HRET.out ⟨(⟨et, eq, eh, ed⟩ :: rest), (some ⟨b, off, none⟩), sc⟩ r HSL.out.symm)
          simp only at HRT
          have HI5 : Hid (W5.ownsRow b0 3 LN.k (SlR.v (⟨is, ia, ic⟩ : SlR Int)) is.length (LN.flat is)) := HU5.out.row HO0.out.is (fun x hx hm => by simp at hm; subst hm; exact ne_own HF.out.bm HO0.out.is (by decide) hx)
          have HSF := Lib.hid (HSC.out.trans HST.out)
          obtain ⟨d0, d1, d2, d3⟩ := cells4 HF5.out.rm
          obtain ⟨e0, e1, e2, e3⟩ := free4 HF5.out.rm
          obtain ⟨d4, d5, d6, d7⟩ := cells4 HF5.out.rr
          obtain ⟨e4, e5, e6, e7⟩ := free4 HF5.out.rr
          go_wp2_with fail
          have k8 := stored4 HF5.out.rm (.int .i64 cap) (.slice (some ⟨b, off, none⟩) r sc) (.int .i64 nx) (.slice ia q ic)
          have u8 := upd_set4 W5 (P + 1 + 1) (.int .i64 cap) (.slice (some ⟨b, off, none⟩) r sc) (.int .i64 nx) (.slice ia q ic)
          with_reducible generalize (((W5.setCell ⟨P + 1 + 1, 0, none⟩ (.int .i64 cap)).setCell ⟨P + 1 + 1, 1, none⟩ (.slice (some ⟨b, off, none⟩) r sc)).setCell ⟨P + 1 + 1, 2, none⟩ (.int .i64 nx)).setCell ⟨P + 1 + 1, 3, none⟩ (.slice ia q ic) = W8 at k8 u8 ⊢
          have k9 := stored4 (u8.at HF5.out.rr (by simp)) (.int .i64 0) (.int .i64 0) (.bool false) (.slice oa ok.length oc)
          have u9 := upd_set4 W8 (P + 1 + 1 + 1) (.int .i64 0) (.int .i64 0) (.bool false) (.slice oa ok.length oc)
          with_reducible generalize (((W8.setCell ⟨P + 1 + 1 + 1, 0, none⟩ (.int .i64 0)).setCell ⟨P + 1 + 1 + 1, 1, none⟩ (.int .i64 0)).setCell ⟨P + 1 + 1 + 1, 2, none⟩ (.bool false)).setCell ⟨P + 1 + 1 + 1, 3, none⟩ (.slice oa ok.length oc) = W9 at k9 u9 ⊢
          obtain ⟨r0, r1, r2, r3⟩ := cells4 (u9.at k8 (by simp))
          obtain ⟨s0, s1, s2, s3⟩ := cells4 k9
          have hU89 : Upd [P + 1 + 1, P + 1 + 1 + 1] W5 W9 := (u8.mono (by simp)).trans u9 (by simp)
          have hU9 : Bel b0 w W9 := HF5.out.bel.thn hU89 (fun x hx => by have h1 := HF5.out.ord; have h2 := HF5.out.base; simp at hx; exact ⟨by omega, plain_new (by omega)⟩)
          exact bodyPost_ret (v := .tuple #[.agg #[.int .i64 cap, .slice (some ⟨b, off, none⟩) r sc, .int .i64 nx, .slice ia q ic], .agg #[.int .i64 0, .int .i64 0, .bool false, .slice oa ok.length oc]]) (by simp [results, Try.results31, go_sem, r0, r1, r2, r3, s0, s1, s2, s3]) rfl ⟨⟨cap, ⟨(⟨et, eq, eh, ed⟩ :: rest), (some ⟨b, off, none⟩), sc⟩, nx, ⟨is, ia, ic⟩⟩, ⟨0, 0, false, ⟨ok, oa, oc⟩⟩, by rw [HRT.out]; rfl, by rw [HSF.out]; rfl, by rw [HSF.out]; rfl, ⟨HS5.out.two2 hU89 (HAV.out _ (HO.out.has.es.avoids (by have := HP.out; omega))) (HAV.out _ (HO.out.has.es.avoids (by have := HP.out; omega))), (hasS_own HI5.out).two2 hU89 (own_ne HI5.out HF5.out.rm (by decide)) (own_ne HI5.out HF5.out.rr (by decide))⟩, (hasS_any (hU89.row HOW5.out (fun x hx hm => by have h1 := own_ge HOW5.out x hx; have h2 := HSZ0.out; simp at hm; omega))).2, fun bx hbx => ⟨⟨HAV.out _ (HO.out.av hbx).es, avS_own HI5.out hbx⟩, av_any HOW5.out (by have h1 := HSZ0.out; have h2 := HP.out; omega)⟩, hU9⟩
      · have g3 : decide (et < cb) = false := decide_eq_false hc1
        have HST : Hid (scanB cb cm (⟨et, eq, eh, ed⟩ :: rest) ok = (ok, ⟨et, eq, eh, ed⟩ :: rest)) := Lib.hid (by simp only [scanB]; rw [if_neg (fun h => hc1 h.1)])
        go_upto_region 4 with (fail)
        have k1 := kept_at m1; have k3 := kept_at c3; have k4 := kept_at c4
        clear m1 c3 c4
        have j0 := kept_at x0; have j1 := kept_at x1; have j2 := kept_at x2; have j3 := kept_at x3
        clear x0 x1 x2 x3
        refine wp_region_quiet_kept mixed (by kernel_rfl) ?_
        repeat (go_big_quiet_step (fail))
        refine wpQuiet_nil ?_
        intro W5 hw'
        obtain ⟨⟨Wy, hd⟩, hw''⟩ := hw'
        simp only at hw''
        subst hw''
        have x0 := j0 ⟨W5, hd⟩; have x1 := j1 ⟨W5, hd⟩; have x2 := j2 ⟨W5, hd⟩; have x3 := j3 ⟨W5, hd⟩
        clear j0 j1 j2 j3
        simp only at x0 x1 x2 x3
        have HOW5 := Lib.hid (hd.row HOW.out (by simp)); have HF5 := Lib.hid (HFK.out.stay hd); have HU5 := Lib.hid (HUK.out.trans hd (by simp)); have HS5 := Lib.hid (HHS.out.stay hd)
        clear k1 k3 k4
        clear hd g3 hc1 x0 x1 x2 x3 g0 g0z g0d
        go_upto_region 9 with (fail)
        obtain ⟨q0, q1, q2, q3⟩ := cells4 HF5.out.bm
        have HRT := Lib.hid (HRET.out ⟨(⟨et, eq, eh, ed⟩ :: rest), (some ⟨b, off, none⟩), sc⟩ r HSL.out.symm)
        simp only at HRT
        have HI5 : Hid (W5.ownsRow b0 3 LN.k (SlR.v (⟨is, ia, ic⟩ : SlR Int)) is.length (LN.flat is)) := HU5.out.row HO0.out.is (fun x hx hm => by simp at hm; subst hm; exact ne_own HF.out.bm HO0.out.is (by decide) hx)
        have HSF := Lib.hid (HSC.out.trans HST.out)
        obtain ⟨d0, d1, d2, d3⟩ := cells4 HF5.out.rm
        obtain ⟨e0, e1, e2, e3⟩ := free4 HF5.out.rm
        obtain ⟨d4, d5, d6, d7⟩ := cells4 HF5.out.rr
        obtain ⟨e4, e5, e6, e7⟩ := free4 HF5.out.rr
        go_wp2_with fail
        have k8 := stored4 HF5.out.rm (.int .i64 cap) (.slice (some ⟨b, off, none⟩) r sc) (.int .i64 nx) (.slice ia q ic)
        have u8 := upd_set4 W5 (P + 1 + 1) (.int .i64 cap) (.slice (some ⟨b, off, none⟩) r sc) (.int .i64 nx) (.slice ia q ic)
        with_reducible generalize (((W5.setCell ⟨P + 1 + 1, 0, none⟩ (.int .i64 cap)).setCell ⟨P + 1 + 1, 1, none⟩ (.slice (some ⟨b, off, none⟩) r sc)).setCell ⟨P + 1 + 1, 2, none⟩ (.int .i64 nx)).setCell ⟨P + 1 + 1, 3, none⟩ (.slice ia q ic) = W8 at k8 u8 ⊢
        have k9 := stored4 (u8.at HF5.out.rr (by simp)) (.int .i64 0) (.int .i64 0) (.bool false) (.slice oa ok.length oc)
        have u9 := upd_set4 W8 (P + 1 + 1 + 1) (.int .i64 0) (.int .i64 0) (.bool false) (.slice oa ok.length oc)
        with_reducible generalize (((W8.setCell ⟨P + 1 + 1 + 1, 0, none⟩ (.int .i64 0)).setCell ⟨P + 1 + 1 + 1, 1, none⟩ (.int .i64 0)).setCell ⟨P + 1 + 1 + 1, 2, none⟩ (.bool false)).setCell ⟨P + 1 + 1 + 1, 3, none⟩ (.slice oa ok.length oc) = W9 at k9 u9 ⊢
        obtain ⟨r0, r1, r2, r3⟩ := cells4 (u9.at k8 (by simp))
        obtain ⟨s0, s1, s2, s3⟩ := cells4 k9
        have hU89 : Upd [P + 1 + 1, P + 1 + 1 + 1] W5 W9 := (u8.mono (by simp)).trans u9 (by simp)
        have hU9 : Bel b0 w W9 := HF5.out.bel.thn hU89 (fun x hx => by have h1 := HF5.out.ord; have h2 := HF5.out.base; simp at hx; exact ⟨by omega, plain_new (by omega)⟩)
        exact bodyPost_ret (v := .tuple #[.agg #[.int .i64 cap, .slice (some ⟨b, off, none⟩) r sc, .int .i64 nx, .slice ia q ic], .agg #[.int .i64 0, .int .i64 0, .bool false, .slice oa ok.length oc]]) (by simp [results, Try.results31, go_sem, r0, r1, r2, r3, s0, s1, s2, s3]) rfl ⟨⟨cap, ⟨(⟨et, eq, eh, ed⟩ :: rest), (some ⟨b, off, none⟩), sc⟩, nx, ⟨is, ia, ic⟩⟩, ⟨0, 0, false, ⟨ok, oa, oc⟩⟩, by rw [HRT.out]; rfl, by rw [HSF.out]; rfl, by rw [HSF.out]; rfl, ⟨HS5.out.two2 hU89 (HAV.out _ (HO.out.has.es.avoids (by have := HP.out; omega))) (HAV.out _ (HO.out.has.es.avoids (by have := HP.out; omega))), (hasS_own HI5.out).two2 hU89 (own_ne HI5.out HF5.out.rm (by decide)) (own_ne HI5.out HF5.out.rr (by decide))⟩, (hasS_any (hU89.row HOW5.out (fun x hx hm => by have h1 := own_ge HOW5.out x hx; have h2 := HSZ0.out; simp at hm; omega))).2, fun bx hbx => ⟨⟨HAV.out _ (HO.out.av hbx).es, avS_own HI5.out hbx⟩, av_any HOW5.out (by have h1 := HSZ0.out; have h2 := HP.out; omega)⟩, hU9⟩
    · obtain rfl : sl = [] := List.eq_nil_of_length_eq_zero (by omega)
      obtain rfl : r = 0 := by omega
      have g0 : decide (0 < (0 : Nat)) = false := rfl
      have g0d : decide ((0 : Int) < ((0 : Nat) : Int)) = false := rfl
      have HST : Hid (scanB cb cm [] ok = (ok, [])) := rfl
      go_upto_region 4 with (fail)
      have k1 := kept_at m1; have k3 := kept_at c3; have k4 := kept_at c4
      clear m1 c3 c4
      refine wp_region_quiet_kept mixed (by kernel_rfl) ?_
      repeat (go_big_quiet_step (fail))
      refine wpQuiet_nil ?_
      intro W5 hw'
      obtain ⟨⟨Wy, hd⟩, hw''⟩ := hw'
      simp only at hw''
      subst hw''
      have HOW5 := Lib.hid (hd.row HOW.out (by simp)); have HF5 := Lib.hid (HFK.out.stay hd); have HU5 := Lib.hid (HUK.out.trans hd (by simp)); have HS5 := Lib.hid (HHS.out.stay hd)
      clear k1 k3 k4
      clear hd g0 g0d
      go_upto_region 9 with (fail)
      obtain ⟨q0, q1, q2, q3⟩ := cells4 HF5.out.bm
      have HRT := Lib.hid (HRET.out ⟨[], sa, sc⟩ 0 HSL.out.symm)
      simp only at HRT
      have HI5 : Hid (W5.ownsRow b0 3 LN.k (SlR.v (⟨is, ia, ic⟩ : SlR Int)) is.length (LN.flat is)) := HU5.out.row HO0.out.is (fun x hx hm => by simp at hm; subst hm; exact ne_own HF.out.bm HO0.out.is (by decide) hx)
      have HSF := Lib.hid (HSC.out.trans HST.out)
      obtain ⟨d0, d1, d2, d3⟩ := cells4 HF5.out.rm
      obtain ⟨e0, e1, e2, e3⟩ := free4 HF5.out.rm
      obtain ⟨d4, d5, d6, d7⟩ := cells4 HF5.out.rr
      obtain ⟨e4, e5, e6, e7⟩ := free4 HF5.out.rr
      go_wp2_with fail
      have k8 := stored4 HF5.out.rm (.int .i64 cap) (.slice sa 0 sc) (.int .i64 nx) (.slice ia q ic)
      have u8 := upd_set4 W5 (P + 1 + 1) (.int .i64 cap) (.slice sa 0 sc) (.int .i64 nx) (.slice ia q ic)
      with_reducible generalize (((W5.setCell ⟨P + 1 + 1, 0, none⟩ (.int .i64 cap)).setCell ⟨P + 1 + 1, 1, none⟩ (.slice sa 0 sc)).setCell ⟨P + 1 + 1, 2, none⟩ (.int .i64 nx)).setCell ⟨P + 1 + 1, 3, none⟩ (.slice ia q ic) = W8 at k8 u8 ⊢
      have k9 := stored4 (u8.at HF5.out.rr (by simp)) (.int .i64 0) (.int .i64 0) (.bool false) (.slice oa ok.length oc)
      have u9 := upd_set4 W8 (P + 1 + 1 + 1) (.int .i64 0) (.int .i64 0) (.bool false) (.slice oa ok.length oc)
      with_reducible generalize (((W8.setCell ⟨P + 1 + 1 + 1, 0, none⟩ (.int .i64 0)).setCell ⟨P + 1 + 1 + 1, 1, none⟩ (.int .i64 0)).setCell ⟨P + 1 + 1 + 1, 2, none⟩ (.bool false)).setCell ⟨P + 1 + 1 + 1, 3, none⟩ (.slice oa ok.length oc) = W9 at k9 u9 ⊢
      obtain ⟨r0, r1, r2, r3⟩ := cells4 (u9.at k8 (by simp))
      obtain ⟨s0, s1, s2, s3⟩ := cells4 k9
      have hU89 : Upd [P + 1 + 1, P + 1 + 1 + 1] W5 W9 := (u8.mono (by simp)).trans u9 (by simp)
      have hU9 : Bel b0 w W9 := HF5.out.bel.thn hU89 (fun x hx => by have h1 := HF5.out.ord; have h2 := HF5.out.base; simp at hx; exact ⟨by omega, plain_new (by omega)⟩)
      exact bodyPost_ret (v := .tuple #[.agg #[.int .i64 cap, .slice sa 0 sc, .int .i64 nx, .slice ia q ic], .agg #[.int .i64 0, .int .i64 0, .bool false, .slice oa ok.length oc]]) (by simp [results, Try.results31, go_sem, r0, r1, r2, r3, s0, s1, s2, s3]) rfl ⟨⟨cap, ⟨[], sa, sc⟩, nx, ⟨is, ia, ic⟩⟩, ⟨0, 0, false, ⟨ok, oa, oc⟩⟩, by rw [HRT.out]; rfl, by rw [HSF.out]; rfl, by rw [HSF.out]; rfl, ⟨HS5.out.two2 hU89 (HAV.out _ (HO.out.has.es.avoids (by have := HP.out; omega))) (HAV.out _ (HO.out.has.es.avoids (by have := HP.out; omega))), (hasS_own HI5.out).two2 hU89 (own_ne HI5.out HF5.out.rm (by decide)) (own_ne HI5.out HF5.out.rr (by decide))⟩, (hasS_any (hU89.row HOW5.out (fun x hx hm => by have h1 := own_ge HOW5.out x hx; have h2 := HSZ0.out; simp at hm; omega))).2, fun bx hbx => ⟨⟨HAV.out _ (HO.out.av hbx).es, avS_own HI5.out hbx⟩, av_any HOW5.out (by have h1 := HSZ0.out; have h2 := HP.out; omega)⟩, hU9⟩
theorem PExtract_has (b0 : Nat) (m : MdR) (c : Ca) (h : Int) (w : World) (ho : OwnM b0 w m) (hb0 : b0 ≤ w.heap.size) (hl : m.es.l.length ≤ 1000) :
    Calls Try.prog 31 #[encM m, encC c, .int .i64 h] w (GivesO b0 (batM m.md c) w) := by
  obtain ⟨cap, ⟨es, ea, ec⟩, nx, ⟨is, ia, ic⟩⟩ := m
  obtain ⟨ck, ct, ch, cm, cb⟩ := c
  unfold batM MdR.md
  simp only
  split
  · rename_i hr
    exact PExtract_bad b0 cap nx es ea ec is ia ic ck ct ch cm cb h w ho hb0 hr
  · rename_i hr
    exact PExtract_ok b0 cap nx es ea ec is ia ic ck ct ch cm cb h w ho hb0 hl (Classical.not_not.1 hr)
end Go.Proofs.Ytpneljhplbkdkaa
