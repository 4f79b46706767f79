
/- Contract of layer 10: the program's cancel, on a copy of the model. -/
import Derived.Test.YtpneljhplbkdkaaHE
namespace Go.Proofs.Ytpneljhplbkdkaa
open Go.RowKit Go.Lib

/-- Where a test strikes first. -/
def FirstAt {α : Type} (p : α → Bool) (l : List α) (i : Int) : Prop := (∃ (k : Nat) (hk : k < l.length), i = (k : Int) ∧ p l[k] = true ∧ ∀ j (hj : j < k), p (l[j]'(by omega)) = false) ∨ (i = -1 ∧ ∀ x ∈ l, p x = false)
theorem FirstAt.any {α : Type} {p : α → Bool} {l : List α} {i : Int} (h : FirstAt p l i) : decide (0 ≤ i) = l.any p := by
  rcases h with ⟨k, hk, rfl, h1, _⟩ | ⟨rfl, h1⟩
  · rw [decide_eq_true (by omega), (List.any_eq_true.2 ⟨_, List.getElem_mem hk, h1⟩)]
  · have e : l.any p = false := by
      rw [List.any_eq_false]
      intro x hx
      rw [h1 x hx]
      simp
    rw [e]
    decide
theorem aggE_eq (e : En) : aggE e = .agg #[.int .i64 e.t, .int .i64 e.q, .int .i64 e.h, .bool e.d] := rfl
def matchB (h : Int) (e : En) : Bool := decide (e.h = h) && !e.d
theorem matchB_yes {h : Int} {e : En} : matchB h e = true ↔ e.h = h ∧ e.d = false := by simp [matchB]
theorem killE_at {h : Int} : ∀ {es : List En} {k : Nat} (hk : k < es.length) (_ : matchB h es[k] = true) (_ : ∀ j (hj : j < k), matchB h (es[j]'(by omega)) = false), killE h es = some (es.set k ⟨es[k].t, es[k].q, es[k].h, true⟩)
  | e :: es, 0, _, h1, _ => by
    have h1 : e.h = h ∧ e.d = false := matchB_yes.1 h1
    rw [killE_cons_yes h1.1 h1.2]
    rfl
  | e :: es, k + 1, hk, h1, h2 => by
    have h3 : matchB h e = false := h2 0 (by omega)
    have h4 : ¬ (e.h = h ∧ e.d = false) := fun hc => by
      rw [matchB_yes.2 hc] at h3
      exact Bool.noConfusion h3
    rw [killE_cons_no h4, killE_at (es := es) (k := k) (by simpa using hk) h1 (fun j hj => h2 (j + 1) (by omega))]
    rfl
theorem killE_no {h : Int} : ∀ {es : List En} (_ : ∀ x ∈ es, matchB h x = false), killE h es = none
  | [], _ => rfl
  | e :: es, h1 => by
    have h3 := h1 e (by simp)
    have h4 : ¬ (e.h = h ∧ e.d = false) := fun hc => by
      rw [matchB_yes.2 hc] at h3
      exact Bool.noConfusion h3
    rw [killE_cons_no h4, killE_no (fun x hx => h1 x (by simp [hx]))]
    rfl
set_option maxRecDepth 100000 in
set_option maxHeartbeats 2000000 in
theorem PMatch_has (A : Nat) (h : Int) (x : En) (w : World) (hA : w.cell? ⟨A, 2, none⟩ = some (.int .i64 h)) :
    Calls Try.prog 55 #[aggE x, .pointer (some ⟨A, 0, none⟩)] w fun e w' => e = .returned (.bool (matchB h x)) ∧ Upd [] w w' := by
  obtain ⟨i0, i1, i2, i3⟩ := x
  unfold aggE matchB
  simp only
  by_cases h1 : i2 = h
  · have d1 : decide (i2 = h) = true := by simpa using h1
    have d2 : (i2 == h) = true := by simpa using h1
    rw [d1, Bool.true_and]
    clear h1
    go_enter Try.func55, Try.ntmps55
    go_upto_region 1 with (fail)
    have hu := (Upd.refl [] w).alloc (.cells #[.int .i64 i0, .int .i64 i1, .int .i64 i2, .bool i3] 49)
    have b0 := heap_alloc1 w (.cells #[.int .i64 i0, .int .i64 i1, .int .i64 i2, .bool i3] 49)
    have k1 := hu.cell hA (by simp)
    generalize w.alloc (.cells #[.int .i64 i0, .int .i64 i1, .int .i64 i2, .bool i3] 49) = W at *
    generalize w.heap.size = P at *
    obtain ⟨c0, c1, c2, c3⟩ := cells4 b0
    have HU := Lib.hid hu
    clear hu b0 hA
    cases i3 with
    | true =>
      go_wp2_with fail
      go_ret
      exact ⟨rfl, HU.out⟩
    | false =>
      go_wp2_with fail
      go_ret
      exact ⟨rfl, HU.out⟩
  · have d1 : decide (i2 = h) = false := by simpa using h1
    have d2 : (i2 == h) = false := by simpa using h1
    rw [d1, Bool.false_and]
    go_enter Try.func55, Try.ntmps55
    go_upto_region 1 with (fail)
    have hu := (Upd.refl [] w).alloc (.cells #[.int .i64 i0, .int .i64 i1, .int .i64 i2, .bool i3] 49)
    have b0 := heap_alloc1 w (.cells #[.int .i64 i0, .int .i64 i1, .int .i64 i2, .bool i3] 49)
    have k1 := hu.cell hA (by simp)
    generalize w.alloc (.cells #[.int .i64 i0, .int .i64 i1, .int .i64 i2, .bool i3] 49) = W at *
    generalize w.heap.size = P at *
    obtain ⟨c0, c1, c2, c3⟩ := cells4 b0
    have HU := Lib.hid hu
    clear hu b0 hA
    go_wp2_with fail
    go_ret
    exact ⟨rfl, HU.out⟩
set_option maxRecDepth 100000 in
set_option maxHeartbeats 2000000 in
theorem PIndexM_has (a : Option Addr) (c : Nat) (l : List En) (A : Addr) (p : En → Bool) (w : World) (hr : Row LE w a l) (hl : l.length ≤ 1000000) (hc : ∀ x W, Upd [] w W → Calls Try.prog 55 #[aggE x, .pointer (some A)] W fun e w' => e = .returned (.bool (p x)) ∧ Upd [] W w') :
    Calls Try.prog 54 #[.slice a l.length c, .func (.func 55) #[] #[.pointer (some A)]] w fun e w' => (∃ i : Int, e = .returned (.int .i64 i) ∧ FirstAt p l i) ∧ Upd [] w w' := by
  have HR := Lib.hid hr
  have HC := Lib.hid hc
  have H1 : Hid (∀ k (hk : k < l.length), (∀ j (hj : j < k) (h : j < l.length), p l[j] = false) → p l[k] = true → FirstAt p l k) := fun k hk h0 h1 => .inl ⟨k, hk, rfl, h1, fun j hj => h0 j hj (by omega)⟩
  have H2 : Hid ((∀ j (hj : j < l.length), p l[j] = false) → FirstAt p l (-1)) := fun h => .inr ⟨rfl, fun x hx => by
    obtain ⟨j, hj, rfl⟩ := List.mem_iff_getElem.1 hx
    exact h j hj⟩
  obtain ⟨n, hn⟩ : ∃ n, n = l.length := ⟨_, rfl⟩
  have HN := Lib.hid hn
  rw [← hn] at hl ⊢
  clear hr hn hc
  have eg : ∀ args w, (callFunc 55 args).run Try.prog w = .ok (.enter 55 args) w := enters_of Try.func55 (by kernel_rfl) rfl
  go_enter Try.func54, Try.ntmps54
  go_wp2_with fail
  go_loopg [8] n (fun gk vi wr => ∃ k : Nat, vi = .int .i64 k ∧ k + gk = n ∧ Hid (Upd [] w wr) ∧ Hid (∀ j (hj : j < k) (h : j < l.length), p l[j] = false))
  case atStart => exact ⟨0, rfl, by omega, Upd.refl _ _, fun j hj => by omega⟩
  case round =>
    obtain ⟨k, rfl, hkg, HU, HF⟩ := hrel
    by_cases hlt : k < n
    · have hltz : (k : Int) < (n : Int) := by omega
      have hk1 : k < l.length := by have := HN.out; omega
      obtain ⟨b, off, hbo, x0, x1, x2, x3⟩ := (HR.out.stay HU.out).ent k hk1
      subst hbo
      have HCK := Lib.hid (HC.out l[k] wr HU.out)
      have HH1 := Lib.hid (H1.out k hk1)
      have HNX : Hid (p l[k] = false → ∀ j (hj : j < k + 1) (h : j < l.length), p l[j] = false) := fun he j hj h => by
        by_cases e : j = k
        · subst e; exact he
        · exact HF.out j (by omega) h
      simp only [aggE_eq] at HCK
      generalize p l[k] = bb at *
      generalize l[k].t = y0 at *
      generalize l[k].q = y1 at *
      generalize l[k].h = y2 at *
      generalize l[k].d = y3 at *
      cases bb with
      | true =>
        go_wp2_with (go_at_call 55; go_loud ((with_reducible refine HCK.out.mono ?_); rintro e w1 ⟨rfl, hu1⟩; have HU1 := Lib.hid (HU.out.thn hu1); clear hu1))
        go_ret
        exact ⟨⟨(k : Int), rfl, HH1.out HF.out (by first | rfl | trivial)⟩, HU1.out⟩
      | false =>
        go_wp2_with (go_at_call 55; go_loud ((with_reducible refine HCK.out.mono ?_); rintro e w1 ⟨rfl, hu1⟩; have HU1 := Lib.hid (HU.out.thn hu1); clear hu1))
        go_roundg (gk - 1)
        case measure => omega
        case rel => exact ⟨k + 1, by go_num, by omega, HU1, HNX.out (by first | rfl | trivial)⟩
    · have hltz : ¬ (k : Int) < (n : Int) := by omega
      have HE := Lib.hid (H2.out (fun j hj => HF.out j (by have := HN.out; omega) hj))
      go_wp2_with fail
      go_ret
      exact ⟨⟨-1, rfl, HE.out⟩, HU.out⟩
set_option maxRecDepth 100000 in
set_option maxHeartbeats 8000000 in
theorem PCancel_has (b0 : Nat) (m : MdR) (c : Ca) (h : Int) (w : World) (ho : OwnM b0 w m) (hb0 : b0 ≤ w.heap.size) (hl : m.es.l.length ≤ 1000) :
    Calls Try.prog 30 #[encM m, encC c, .int .i64 h] w (GivesO b0 (canM m.md c) w) := by
  obtain ⟨cap, ⟨es, ea, ec⟩, nx, ⟨is, ia, ic⟩⟩ := m
  obtain ⟨ck, ct, ch, cm, cb⟩ := c
  have hle := ho.has.es.le
  simp only at hl hle
  have HO := Lib.hid ho
  unfold encM cellsM encC
  simp only
  have HIX := Lib.hid (fun A W (hu : Upd [] w W) (hA : W.cell? ⟨A, 2, none⟩ = some (.int .i64 ch)) => PIndexM_has ea ec es ⟨A, 0, none⟩ (matchB ch) W (ho.has.es.row.stay hu) (by omega) (fun x W2 hu2 => PMatch_has A ch x W2 (hu2.cell hA (by simp))))
  have HCY : Hid (∀ es', killE ch es = some es' → canM (MdR.md ⟨cap, ⟨es, ea, ec⟩, nx, ⟨is, ia, ic⟩⟩) ⟨ck, ct, ch, cm, cb⟩ = (⟨cap, es', nx, is⟩, ⟨0, 0, true, []⟩)) := fun es' h => by unfold canM MdR.md; simp only; rw [h]
  have HCN : Hid (killE ch es = none → canM (MdR.md ⟨cap, ⟨es, ea, ec⟩, nx, ⟨is, ia, ic⟩⟩) ⟨ck, ct, ch, cm, cb⟩ = (⟨cap, es, nx, is⟩, ⟨0, 0, false, []⟩)) := fun h => by unfold canM MdR.md; simp only; rw [h]; rfl
  generalize canM (MdR.md ⟨cap, ⟨es, ea, ec⟩, nx, ⟨is, ia, ic⟩⟩) ⟨ck, ct, ch, cm, cb⟩ = res at *
  have HRET : Hid (∀ n q es' ea' ec', n = es'.length → q = is.length → encM ⟨cap, ⟨es', ea', ec'⟩, nx, ⟨is, ia, ic⟩⟩ = .agg #[.int .i64 cap, .slice ea' n ec', .int .i64 nx, .slice ia q ic]) := fun n q es' ea' ec' h1 h2 => by rw [h1, h2]; rfl
  obtain ⟨n, hn⟩ : ∃ n, n = es.length := ⟨_, rfl⟩
  obtain ⟨q, hq⟩ : ∃ q, q = is.length := ⟨_, rfl⟩
  rw [← hn] at hl hle HIX ⊢
  rw [← hq]
  have HN := Lib.hid hn; have HQ := Lib.hid hq
  clear hn hq ho
  go_enter Try.func30, Try.ntmps30
  go_upto_region 1 with (fail)
  obtain ⟨hu0, b0', b1, b2, b3, hs0⟩ := four_boxes w (.cells #[.int .i64 cap, .slice ea n ec, .int .i64 nx, .slice ia q ic] 25) (.cells #[.int .i64 ck, .int .i64 ct, .int .i64 ch, .int .i64 cm, .int .i64 cb] 28) (.cells #[.int .i64 0, .slice none 0 0, .int .i64 0, .slice none 0 0] 25) (.cells #[.int .i64 0, .int .i64 0, .bool false, .slice none 0 0] 34)
  have HF : Hid (FrI b0 w w.heap.size cap nx n q ea ia ec ic ck ct ch cm cb _) := ⟨b0', b1, b2, b3, (Bel.refl b0 w).thn hu0 (by simp), Nat.le_refl _, hb0⟩
  have HU0 := Lib.hid hu0
  generalize (((w.alloc (.cells #[.int .i64 cap, .slice ea n ec, .int .i64 nx, .slice ia q ic] 25)).alloc (.cells #[.int .i64 ck, .int .i64 ct, .int .i64 ch, .int .i64 cm, .int .i64 cb] 28)).alloc (.cells #[.int .i64 0, .slice none 0 0, .int .i64 0, .slice none 0 0] 25)).alloc (.cells #[.int .i64 0, .int .i64 0, .bool false, .slice none 0 0] 34) = W0 at *
  have HSZ0 : Hid (W0.heap.size = w.heap.size + 4) := hs0
  have HPW : Hid (w.heap.size ≤ w.heap.size) := Nat.le_refl _
  obtain ⟨P, hP⟩ : ∃ P, P = w.heap.size := ⟨_, rfl⟩
  rw [← hP] at HF HSZ0 ⊢
  have HP := Lib.hid hP
  clear hu0 b0' b1 b2 b3 hs0 hP HPW
  obtain ⟨c0, c1, c2, c3, c4⟩ := cells5 HF.out.bc
  clear c0 c1 c3 c4
  obtain ⟨m0, m1, m2, m3⟩ := cells4 HF.out.bm
  have HX1 := Lib.hid (HIX.out (P + 1) W0 HU0.out c2)
  clear c2 HIX
  go_upto_region 2 with (go_at_call 54; (with_reducible refine HX1.out.mono ?_); rintro e w2 ⟨⟨i, rfl, hfa⟩, hu2⟩; have HFA := Lib.hid hfa; have HF2 := Lib.hid (HF.out.stay hu2); have HU2 := Lib.hid (HU0.out.thn hu2); clear hfa hu2 m0 m1 m2 m3)
  have HO2 := Lib.hid (HO.out.stay HU2.out)
  clear HX1 HF
  rcases HFA.out with ⟨k, hk, rfl, hm1, hm2⟩ | ⟨rfl, hno⟩
  · have hkill := killE_at hk hm1 hm2
    have HY := Lib.hid (HCY.out _ hkill)
    have hkn : k < n := by have := HN.out; omega
    have g1 : decide ((k : Int) < 0) = false := decide_eq_false (by omega)
    have g2 : (k : Int) < (n : Int) := by omega
    have hoe := HO2.out.es
    obtain ⟨-, g, gc, ev, hbg, hheld⟩ := held_row (L := LE) hoe (by simp only; omega)
    simp only [SlR.v, Value.slice.injEq] at ev
    obtain ⟨rfl, -, rfl⟩ := ev
    obtain ⟨cur, hgc, -, -⟩ := hheld.ex
    obtain ⟨b2, o2, e6, -, -, -, y3⟩ := hheld.has.row.ent k hk
    simp only [Option.some.injEq, Addr.mk.injEq, and_true] at e6
    obtain ⟨rfl, rfl⟩ := e6
    rw [Nat.zero_add] at y3
    have f3 := free_block hgc (k * 4 + 3)
    have HR7 := Lib.hid (row_kill hheld hk)
    have HBG := Lib.hid hbg
    have hne : g ≠ P ∧ g ≠ P + 1 ∧ g ≠ P + 1 + 1 ∧ g ≠ P + 1 + 1 + 1 := ⟨(ne_block HF2.out.bm hgc (by decide)).symm, (ne_block HF2.out.bc hgc (by decide)).symm, (ne_block HF2.out.rm hgc (by decide)).symm, (ne_block HF2.out.rr hgc (by decide)).symm⟩
    have HNE := Lib.hid hne
    generalize hes' : es.set k ⟨es[k].t, es[k].q, es[k].h, true⟩ = es' at *
    have HLE : Hid (es'.length = n) := Lib.hid (by rw [← hes', List.length_set, ← HN.out])
    have HO3 := Lib.hid hoe
    have HO3 := Lib.hid hoe
    clear hkill hm1 hm2 hes'
    generalize es[k].d = yd at y3
    clear hoe hbg hheld hgc hne HFA hk
    obtain ⟨m0, m1, m2, m3⟩ := cells4 HF2.out.bm
    go_upto_region 5 with (fail)
    have u7 := upd_set1 w2 g (k * 4 + 3) (.bool true)
    have HF7 := Lib.hid (HF2.out.row HO3.out (Nat.le_refl _) (by decide) (by decide) (by decide) (plain_own HO.out.es (by decide)) u7)
    have HI7 := Lib.hid (u7.row HO2.out.is (own_apart2 HO2.out.is HO3.out (by decide)))
    generalize w2.setCell ⟨g, k * 4 + 3, none⟩ (.bool true) = W7 at *
    clear u7 y3 f3 HF2 HO2 m0 m1 m2 m3
    obtain ⟨q0, q1, q2, q3⟩ := cells4 HF7.out.bm
    have HRT := Lib.hid (HRET.out n q es' (some ⟨g, 0, none⟩) ec HLE.out.symm HQ.out)
    have hres := HY.out
    subst hres
    obtain ⟨d0, d1, d2, d3⟩ := cells4 HF7.out.rm
    obtain ⟨e0, e1, e2, e3⟩ := free4 HF7.out.rm
    obtain ⟨d4, d5, d6, d7⟩ := cells4 HF7.out.rr
    obtain ⟨e4, e5, e6, e7⟩ := free4 HF7.out.rr
    go_wp2_with fail
    have k8 := stored4 HF7.out.rm (.int .i64 cap) (.slice (some ⟨g, 0, none⟩) n ec) (.int .i64 nx) (.slice ia q ic)
    have u8 := upd_set4 W7 (P + 1 + 1) (.int .i64 cap) (.slice (some ⟨g, 0, none⟩) n ec) (.int .i64 nx) (.slice ia q ic)
    with_reducible generalize (((W7.setCell ⟨P + 1 + 1, 0, none⟩ (.int .i64 cap)).setCell ⟨P + 1 + 1, 1, none⟩ (.slice (some ⟨g, 0, none⟩) n ec)).setCell ⟨P + 1 + 1, 2, none⟩ (.int .i64 nx)).setCell ⟨P + 1 + 1, 3, none⟩ (.slice ia q ic) = W8 at k8 u8 ⊢
    have k9 := stored4 (u8.at HF7.out.rr (by simp)) (.int .i64 0) (.int .i64 0) (.bool true) (.slice none 0 0)
    have u9 := upd_set4 W8 (P + 1 + 1 + 1) (.int .i64 0) (.int .i64 0) (.bool true) (.slice none 0 0)
    with_reducible generalize (((W8.setCell ⟨P + 1 + 1 + 1, 0, none⟩ (.int .i64 0)).setCell ⟨P + 1 + 1 + 1, 1, none⟩ (.int .i64 0)).setCell ⟨P + 1 + 1 + 1, 2, none⟩ (.bool true)).setCell ⟨P + 1 + 1 + 1, 3, none⟩ (.slice none 0 0) = W9 at k9 u9 ⊢
    obtain ⟨r0, r1, r2, r3⟩ := cells4 (u9.at k8 (by simp))
    obtain ⟨s0, s1, s2, s3⟩ := cells4 k9
    have hU89 : Upd [P + 1 + 1, P + 1 + 1 + 1] W7 W9 := (u8.mono (by simp)).trans u9 (by simp)
    have hU9 : Bel b0 w W9 := HF7.out.bel.thn hU89 (fun x hx => by have h1 := HF7.out.ord; have h2 := HF7.out.base; simp at hx; exact ⟨by omega, plain_new (by omega)⟩)
    exact bodyPost_ret (v := .tuple #[.agg #[.int .i64 cap, .slice (some ⟨g, 0, none⟩) n ec, .int .i64 nx, .slice ia q ic], .agg #[.int .i64 0, .int .i64 0, .bool true, .slice none 0 0]]) (by simp [results, Try.results30, go_sem, r0, r1, r2, r3, s0, s1, s2, s3]) rfl ⟨⟨cap, ⟨es', some ⟨g, 0, none⟩, ec⟩, nx, ⟨is, ia, ic⟩⟩, ⟨0, 0, true, ⟨[], none, 0⟩⟩, by rw [HRT.out]; rfl, rfl, rfl, ⟨⟨HR7.out.keep hU89 (fun _ a e => by rw [← Option.some.inj e]; have h := HNE.out; simp; omega), by show es'.length ≤ ec; rw [HLE.out]; exact hle, fun e => by simp at e⟩, (hasS_own HI7.out).two2 hU89 (own_ne HI7.out HF7.out.rm (by decide)) (own_ne HI7.out HF7.out.rr (by decide))⟩, hasS_nil LV _, fun bx hbx => ⟨⟨fun _ a e => by rw [← Option.some.inj e]; have h1 := HBG.out; show g ≠ bx; omega, avS_own HI7.out hbx⟩, avS_nil _ _ _⟩, hU9⟩
  · have HY := Lib.hid (HCN.out (killE_no hno))
    have g1 : decide ((-1 : Int) < 0) = true := by decide
    clear hno HFA
    obtain ⟨m0, m1, m2, m3⟩ := cells4 HF2.out.bm
    go_upto_region 3 with (fail)
    clear m0 m1 m2 m3
    obtain ⟨q0, q1, q2, q3⟩ := cells4 HF2.out.bm
    have HRT := Lib.hid (HRET.out n q es ea ec HN.out HQ.out)
    have hres := HY.out
    subst hres
    obtain ⟨d0, d1, d2, d3⟩ := cells4 HF2.out.rm
    obtain ⟨e0, e1, e2, e3⟩ := free4 HF2.out.rm
    obtain ⟨d4, d5, d6, d7⟩ := cells4 HF2.out.rr
    obtain ⟨e4, e5, e6, e7⟩ := free4 HF2.out.rr
    go_wp2_with fail
    have k8 := stored4 HF2.out.rm (.int .i64 cap) (.slice ea n ec) (.int .i64 nx) (.slice ia q ic)
    have u8 := upd_set4 w2 (P + 1 + 1) (.int .i64 cap) (.slice ea n ec) (.int .i64 nx) (.slice ia q ic)
    with_reducible generalize (((w2.setCell ⟨P + 1 + 1, 0, none⟩ (.int .i64 cap)).setCell ⟨P + 1 + 1, 1, none⟩ (.slice ea n ec)).setCell ⟨P + 1 + 1, 2, none⟩ (.int .i64 nx)).setCell ⟨P + 1 + 1, 3, none⟩ (.slice ia q ic) = W8 at k8 u8 ⊢
    have k9 := stored4 (u8.at HF2.out.rr (by simp)) (.int .i64 0) (.int .i64 0) (.bool false) (.slice none 0 0)
    have u9 := upd_set4 W8 (P + 1 + 1 + 1) (.int .i64 0) (.int .i64 0) (.bool false) (.slice none 0 0)
    with_reducible generalize (((W8.setCell ⟨P + 1 + 1 + 1, 0, none⟩ (.int .i64 0)).setCell ⟨P + 1 + 1 + 1, 1, none⟩ (.int .i64 0)).setCell ⟨P + 1 + 1 + 1, 2, none⟩ (.bool false)).setCell ⟨P + 1 + 1 + 1, 3, none⟩ (.slice none 0 0) = W9 at k9 u9 ⊢
    obtain ⟨r0, r1, r2, r3⟩ := cells4 (u9.at k8 (by simp))
    obtain ⟨s0, s1, s2, s3⟩ := cells4 k9
    have hU89 : Upd [P + 1 + 1, P + 1 + 1 + 1] w2 W9 := (u8.mono (by simp)).trans u9 (by simp)
    have hU9 : Bel b0 w W9 := HF2.out.bel.thn hU89 (fun x hx => by have h1 := HF2.out.ord; have h2 := HF2.out.base; simp at hx; exact ⟨by omega, plain_new (by omega)⟩)
    exact bodyPost_ret (v := .tuple #[.agg #[.int .i64 cap, .slice ea n ec, .int .i64 nx, .slice ia q ic], .agg #[.int .i64 0, .int .i64 0, .bool false, .slice none 0 0]]) (by simp [results, Try.results30, go_sem, r0, r1, r2, r3, s0, s1, s2, s3]) rfl ⟨⟨cap, ⟨es, ea, ec⟩, nx, ⟨is, ia, ic⟩⟩, ⟨0, 0, false, ⟨[], none, 0⟩⟩, by rw [HRT.out]; rfl, rfl, rfl, ⟨(hasS_own HO2.out.es).two2 hU89 (own_ne HO2.out.es HF2.out.rm (by decide)) (own_ne HO2.out.es HF2.out.rr (by decide)), (hasS_own HO2.out.is).two2 hU89 (own_ne HO2.out.is HF2.out.rm (by decide)) (own_ne HO2.out.is HF2.out.rr (by decide))⟩, hasS_nil LV _, fun bx hbx => ⟨HO2.out.av hbx, avS_nil _ _ _⟩, hU9⟩
end Go.Proofs.Ytpneljhplbkdkaa
