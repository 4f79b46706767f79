
/- Contract of layer 10: the program's Do. -/
import Derived.Test.YtpneljhplbkdkaaHF
import Derived.Test.YtpneljhplbkdkaaHG
import Derived.Test.YtpneljhplbkdkaaK
import Derived.Laws.EntriesVeiled
namespace Go.Proofs.Ytpneljhplbkdkaa
open Go.RowKit Go.Lib

section
variable {P : Program} {ops : Array Oper} {Q : Exit → Act → World → Prop} {md : Region.Mode} {S : World → Prop} {k : Nat}
/-- A call that alone may come up. -/
theorem anyK_fn {i : Nat} {o : Oper} {d : Option Tmp} {fuel : Nat} {listed : Array Bool} {a : Act} {w : World} {f : FuncId} {args : Array Value} {R : Value → World → Prop} (hi : ops[i]? = some o) (hd : o.dst = d) (hr : Region.ready md ops listed = [i]) (hw : Region.wanted o (yielded ops a.tmps) = true)
    (hrun : (execOp a.eval o).run P w = .ok (.enter f args) w) (hc : Calls P f args w fun e w' => ∃ v, e = .returned v ∧ R v w')
    (hR : ∀ v w', R v w' → (i = k ∨ S w') ∧ wpAnyK P md ops Q S k fuel (listed.setIfInBounds i true) (a.put d v) w') : wpAnyK P md ops Q S k (fuel + 1) listed a w := by
  subst hd
  refine wpAnyK_one hr (wpOp_wp hi hw ?_)
  unfold Oper.wp
  rw [hrun]
  show Calls P f args w _
  refine hc.mono ?_
  rintro e w' ⟨v, rfl, h⟩
  exact hR v w' h
end
set_option maxRecDepth 100000 in
set_option maxHeartbeats 8000000 in
theorem PDo_has (m : MdR) (c : Ca) (h : Int) (w : World) (hm : HasM w m) (hk : OkM m.md) (hi : m.is.l.length ≤ 1000) :
    Calls Try.prog 14 #[encM m, encC c, .int .i64 h] w (GivesM m (doM m.md c h) w) := by
  have hes : m.es.l.length ≤ 64 := by have h1 := hk.len; have h2 := hk.cap.2; simp only [MdR.md] at h1 h2; omega
  have HCL := Lib.hid (fun W (hu : Upd [] w W) => PClone_has m W (hm.stay hu) (by omega) (by omega))
  obtain ⟨g, hg⟩ : ∃ g, g = m.md := ⟨_, rfl⟩
  have HIN := Lib.hid (fun b0 (x : MdR) W (he : x.md = g) (ho : OwnM b0 W x) (hb : b0 ≤ W.heap.size) => he ▸ PInsert_has b0 x c h W ho hb (by rw [he, hg]; exact hk) (by have e := congrArg (fun y => y.is.length) (he.trans hg); simp only [MdR.md] at e; omega))
  have HCA := Lib.hid (fun b0 (x : MdR) W (he : x.md = g) (ho : OwnM b0 W x) (hb : b0 ≤ W.heap.size) => he ▸ PCancel_has b0 x c h W ho hb (by have e := congrArg (fun y => y.es.length) (he.trans hg); simp only [MdR.md] at e; omega))
  have HEX := Lib.hid (fun b0 (x : MdR) W (he : x.md = g) (ho : OwnM b0 W x) (hb : b0 ≤ W.heap.size) => he ▸ PExtract_has b0 x c h W ho hb (by have e := congrArg (fun y => y.es.length) (he.trans hg); simp only [MdR.md] at e; omega))
  rw [← hg] at HCL ⊢
  have H1 : Hid (c.k = 1 → doM g c h = insM g c h) := fun e => by unfold doM; rw [if_pos e]
  have H2 : Hid (c.k = 2 → doM g c h = canM g c) := fun e => by unfold doM; rw [if_neg (by omega), if_pos e]
  have H3 : Hid (c.k = 3 → doM g c h = batM g c) := fun e => by unfold doM; rw [if_neg (by omega), if_neg (by omega), if_pos e]
  have H4 : Hid (¬ (1 ≤ c.k ∧ c.k ≤ 3) → doM g c h = (g, errR 1)) := fun e => by unfold doM; rw [if_neg (by omega), if_neg (by omega), if_neg (by omega)]
  generalize insM g c h = gi at *
  generalize canM g c = gc at *
  generalize batM g c = gb at *
  generalize doM g c h = res at *
  have HM := Lib.hid hm
  obtain ⟨ck, ct, ch, cm, cb⟩ := c
  obtain ⟨cap, ⟨es, ea, ec⟩, nx, ⟨is, ia, ic⟩⟩ := m
  unfold encM cellsM encC at *
  simp only at *
  obtain ⟨n, hn⟩ : ∃ n, n = es.length := ⟨_, rfl⟩
  obtain ⟨q, hq⟩ : ∃ q, q = is.length := ⟨_, rfl⟩
  rw [← hn, ← hq] at HCL ⊢
  clear hn hq hm hk hi hes hg
  go_enter Try.func14, Try.ntmps14
  go_upto_region 1 with (fail)
  obtain ⟨hu0, b0, b1, b2, b3, hs0⟩ := four_boxes w (.cells #[.int .i64 cap, .slice ea n ec, .int .i64 nx, .slice ia q ic] 25) (.cells #[.int .i64 ck, .int .i64 ct, .int .i64 ch, .int .i64 cm, .int .i64 cb] 28) (.cells #[.int .i64 0, .slice none 0 0, .int .i64 0, .slice none 0 0] 25) (.cells #[.int .i64 0, .int .i64 0, .bool false, .slice none 0 0] 34)
  have HF : Hid (FrR w w.heap.size cap nx n q ea ia ec ic ck ct ch cm cb _) := ⟨b0, b1, b2, b3, hu0, Nat.le_refl _⟩
  generalize (((w.alloc (.cells #[.int .i64 cap, .slice ea n ec, .int .i64 nx, .slice ia q ic] 25)).alloc (.cells #[.int .i64 ck, .int .i64 ct, .int .i64 ch, .int .i64 cm, .int .i64 cb] 28)).alloc (.cells #[.int .i64 0, .slice none 0 0, .int .i64 0, .slice none 0 0] 25)).alloc (.cells #[.int .i64 0, .int .i64 0, .bool false, .slice none 0 0] 34) = W0 at *
  have HSZ0 : Hid (W0.heap.size = w.heap.size + 4) := hs0
  generalize w.heap.size = P at *
  clear hu0 b0 b1 b2 b3 hs0
  have HSZ0' := HSZ0
  obtain ⟨m0, m1, m2, m3⟩ := cells4 HF.out.bm
  obtain ⟨f0, f1, f2, f3⟩ := free4 HF.out.bm
  have hcl := HCL.out W0 HF.out.upd
  have HCK := Lib.hid hcl
  clear hcl HCL
  go_upto_region 2 with (go_at_call 28; (with_reducible refine HCK.out.mono ?_); rintro e w1 ⟨x, rfl, hmd, hown, hu1⟩; have HF1 := Lib.hid (HF.out.stay hu1); have HO1 := Lib.hid hown; have HXM := Lib.hid hmd; clear hmd hown hu1 m0 m1 m2 m3 f0 f1 f2 f3; obtain ⟨m0, m1, m2, m3⟩ := cells4 HF1.out.bm; obtain ⟨f0, f1, f2, f3⟩ := free4 HF1.out.bm)
  have k2 := stored4 HF1.out.bm (.int .i64 x.cap) (.slice x.es.ad x.es.l.length x.es.cap) (.int .i64 x.nx) (.slice x.is.ad x.is.l.length x.is.cap)
  have u2 := upd_set4 w1 P (.int .i64 x.cap) (.slice x.es.ad x.es.l.length x.es.cap) (.int .i64 x.nx) (.slice x.is.ad x.is.l.length x.is.cap)
  with_reducible generalize (((w1.setCell ⟨P, 0, none⟩ (.int .i64 x.cap)).setCell ⟨P, 1, none⟩ (.slice x.es.ad x.es.l.length x.es.cap)).setCell ⟨P, 2, none⟩ (.int .i64 x.nx)).setCell ⟨P, 3, none⟩ (.slice x.is.ad x.is.l.length x.is.cap) = W2 at k2 u2 ⊢
  have HF2 := Lib.hid (HF1.out.setM u2 k2)
  have hpo : ∀ y ∈ [P], W0.heap.size ≤ y → False := fun y hy => by have := HSZ0.out; simp at hy; omega
  have HO2 : Hid (OwnM W0.heap.size W2 x) := ⟨u2.row HO1.out.es (fun y hy hm => hpo y hm (own_ge HO1.out.es y hy)), u2.row HO1.out.is (fun y hy hm => hpo y hm (own_ge HO1.out.is y hy))⟩
  have HB2 : Hid (W0.heap.size ≤ W2.heap.size) := Lib.hid (by have h1 := HF2.out.upd.size; have h2 := lt_block HF2.out.rr; have h3 := HSZ0.out; omega)
  clear k2 u2 m0 m1 m2 m3 f0 f1 f2 f3 HF1 HO1 hpo
  obtain ⟨m0, m1, m2, m3⟩ := cells4 HF2.out.bm
  obtain ⟨c0, c1, c2, c3, c4⟩ := cells5 HF2.out.bc
  by_cases hbad : ¬ (1 ≤ ck ∧ ck ≤ 3)
  · have hres := H4.out hbad
    subst hres
    by_cases h1 : ck < 1
    · have g1 : decide (ck < 1) = true := decide_eq_true h1
      skip
      clear hbad h1 HIN HCA HEX H1 H2 H3 c1 c2 c3 c4
      go_upto_region 3 with (fail)
      clear c0 m0 m1 m2 m3
      obtain ⟨m0, m1, m2, m3⟩ := cells4 HF2.out.bm
      obtain ⟨d0, d1, d2, d3⟩ := cells4 HF2.out.rm
      obtain ⟨e0, e1, e2, e3⟩ := free4 HF2.out.rm
      obtain ⟨d4, d5, d6, d7⟩ := cells4 HF2.out.rr
      obtain ⟨e4, e5, e6, e7⟩ := free4 HF2.out.rr
      go_wp2_with fail
      have k8 := stored4 HF2.out.rm (.int .i64 x.cap) (.slice x.es.ad x.es.l.length x.es.cap) (.int .i64 x.nx) (.slice x.is.ad x.is.l.length x.is.cap)
      have u8 := upd_set4 W2 (P + 1 + 1) (.int .i64 x.cap) (.slice x.es.ad x.es.l.length x.es.cap) (.int .i64 x.nx) (.slice x.is.ad x.is.l.length x.is.cap)
      with_reducible generalize (((W2.setCell ⟨P + 1 + 1, 0, none⟩ (.int .i64 x.cap)).setCell ⟨P + 1 + 1, 1, none⟩ (.slice x.es.ad x.es.l.length x.es.cap)).setCell ⟨P + 1 + 1, 2, none⟩ (.int .i64 x.nx)).setCell ⟨P + 1 + 1, 3, none⟩ (.slice x.is.ad x.is.l.length x.is.cap) = W8 at k8 u8 ⊢
      have k9 := stored4 (u8.at HF2.out.rr (by simp)) (.int .i64 1) (.int .i64 0) (.bool false) (.slice none 0 0)
      have u9 := upd_set4 W8 (P + 1 + 1 + 1) (.int .i64 1) (.int .i64 0) (.bool false) (.slice none 0 0)
      with_reducible generalize (((W8.setCell ⟨P + 1 + 1 + 1, 0, none⟩ (.int .i64 1)).setCell ⟨P + 1 + 1 + 1, 1, none⟩ (.int .i64 0)).setCell ⟨P + 1 + 1 + 1, 2, none⟩ (.bool false)).setCell ⟨P + 1 + 1 + 1, 3, none⟩ (.slice none 0 0) = W9 at k9 u9 ⊢
      obtain ⟨r0, r1, r2, r3⟩ := cells4 (u9.at k8 (by simp))
      obtain ⟨s0, s1, s2, s3⟩ := cells4 k9
      have hU89 : Upd [P + 1 + 1, P + 1 + 1 + 1] W2 W9 := (u8.mono (by simp)).trans u9 (by simp)
      have hU9 : Upd [] w W9 := HF2.out.upd.trans hU89 (fun x hx hl => by have := HF2.out.ord; simp at hx; omega)
      exact bodyPost_ret (v := .tuple #[.agg #[.int .i64 x.cap, .slice x.es.ad x.es.l.length x.es.cap, .int .i64 x.nx, .slice x.is.ad x.is.l.length x.is.cap], .agg #[.int .i64 1, .int .i64 0, .bool false, .slice none 0 0]]) (by simp [results, Try.results14, go_sem, r0, r1, r2, r3, s0, s1, s2, s3]) rfl ⟨x, ⟨1, 0, false, ⟨[], none, 0⟩⟩, rfl, HXM.out, rfl, ⟨HO2.out.has.es.two2 hU89 (HO2.out.av (by have := HSZ0.out; omega)).es (HO2.out.av (by have := HSZ0.out; omega)).es, HO2.out.has.is.two2 hU89 (HO2.out.av (by have := HSZ0.out; omega)).is (HO2.out.av (by have := HSZ0.out; omega)).is⟩, hasS_nil LV _, fun bx hbx ha => ⟨HO2.out.av (by have := HF.out.upd.size; omega), avS_nil _ _ _⟩, hU9⟩
    · have g1 : decide (ck < 1) = false := decide_eq_false h1
      have g2 : decide (3 < ck) = true := decide_eq_true (by omega)
      clear hbad h1 HIN HCA HEX H1 H2 H3 c1 c2 c3 c4
      go_upto_region 3 with (fail)
      clear c0 m0 m1 m2 m3
      obtain ⟨m0, m1, m2, m3⟩ := cells4 HF2.out.bm
      obtain ⟨d0, d1, d2, d3⟩ := cells4 HF2.out.rm
      obtain ⟨e0, e1, e2, e3⟩ := free4 HF2.out.rm
      obtain ⟨d4, d5, d6, d7⟩ := cells4 HF2.out.rr
      obtain ⟨e4, e5, e6, e7⟩ := free4 HF2.out.rr
      go_wp2_with fail
      have k8 := stored4 HF2.out.rm (.int .i64 x.cap) (.slice x.es.ad x.es.l.length x.es.cap) (.int .i64 x.nx) (.slice x.is.ad x.is.l.length x.is.cap)
      have u8 := upd_set4 W2 (P + 1 + 1) (.int .i64 x.cap) (.slice x.es.ad x.es.l.length x.es.cap) (.int .i64 x.nx) (.slice x.is.ad x.is.l.length x.is.cap)
      with_reducible generalize (((W2.setCell ⟨P + 1 + 1, 0, none⟩ (.int .i64 x.cap)).setCell ⟨P + 1 + 1, 1, none⟩ (.slice x.es.ad x.es.l.length x.es.cap)).setCell ⟨P + 1 + 1, 2, none⟩ (.int .i64 x.nx)).setCell ⟨P + 1 + 1, 3, none⟩ (.slice x.is.ad x.is.l.length x.is.cap) = W8 at k8 u8 ⊢
      have k9 := stored4 (u8.at HF2.out.rr (by simp)) (.int .i64 1) (.int .i64 0) (.bool false) (.slice none 0 0)
      have u9 := upd_set4 W8 (P + 1 + 1 + 1) (.int .i64 1) (.int .i64 0) (.bool false) (.slice none 0 0)
      with_reducible generalize (((W8.setCell ⟨P + 1 + 1 + 1, 0, none⟩ (.int .i64 1)).setCell ⟨P + 1 + 1 + 1, 1, none⟩ (.int .i64 0)).setCell ⟨P + 1 + 1 + 1, 2, none⟩ (.bool false)).setCell ⟨P + 1 + 1 + 1, 3, none⟩ (.slice none 0 0) = W9 at k9 u9 ⊢
      obtain ⟨r0, r1, r2, r3⟩ := cells4 (u9.at k8 (by simp))
      obtain ⟨s0, s1, s2, s3⟩ := cells4 k9
      have hU89 : Upd [P + 1 + 1, P + 1 + 1 + 1] W2 W9 := (u8.mono (by simp)).trans u9 (by simp)
      have hU9 : Upd [] w W9 := HF2.out.upd.trans hU89 (fun x hx hl => by have := HF2.out.ord; simp at hx; omega)
      exact bodyPost_ret (v := .tuple #[.agg #[.int .i64 x.cap, .slice x.es.ad x.es.l.length x.es.cap, .int .i64 x.nx, .slice x.is.ad x.is.l.length x.is.cap], .agg #[.int .i64 1, .int .i64 0, .bool false, .slice none 0 0]]) (by simp [results, Try.results14, go_sem, r0, r1, r2, r3, s0, s1, s2, s3]) rfl ⟨x, ⟨1, 0, false, ⟨[], none, 0⟩⟩, rfl, HXM.out, rfl, ⟨HO2.out.has.es.two2 hU89 (HO2.out.av (by have := HSZ0.out; omega)).es (HO2.out.av (by have := HSZ0.out; omega)).es, HO2.out.has.is.two2 hU89 (HO2.out.av (by have := HSZ0.out; omega)).is (HO2.out.av (by have := HSZ0.out; omega)).is⟩, hasS_nil LV _, fun bx hbx ha => ⟨HO2.out.av (by have := HF.out.upd.size; omega), avS_nil _ _ _⟩, hU9⟩
  · have g1 : decide (ck < 1) = false := decide_eq_false (by omega)
    have g2 : decide (3 < ck) = false := decide_eq_false (by omega)
    clear c0 c1 c2 c3 c4 m0 m1 m2 m3
    obtain ⟨c0, c1, c2, c3, c4⟩ := cells5 HF2.out.bc
    clear c1 c2 c3 c4
    go_upto_region 5 with (fail)
    clear c0
    have hu3 := (Upd.refl [] W2).alloc (.cells #[.nilFunc, .func (.func 29) #[] #[], .func (.func 30) #[] #[], .func (.func 31) #[] #[]] 62)
    have bt := heap_alloc1 W2 (.cells #[.nilFunc, .func (.func 29) #[] #[], .func (.func 30) #[] #[], .func (.func 31) #[] #[]] 62)
    have HF3 := Lib.hid (HF2.out.stay hu3)
    have HO3 := Lib.hid (HO2.out.stay hu3)
    have HB3 := Lib.hid (Nat.le_trans HB2.out hu3.size)
    generalize W2.alloc (.cells #[.nilFunc, .func (.func 29) #[] #[], .func (.func 30) #[] #[], .func (.func 31) #[] #[]] 62) = W3 at *
    obtain ⟨A, hA⟩ : ∃ A, A = W2.heap.size := ⟨_, rfl⟩
    rw [← hA] at bt ⊢
    have HBT := Lib.hid bt
    clear hu3 bt hA HF2 HO2 HB2
    have HF4 := Lib.hid (HF3.out.stay ((Upd.refl [] W3).drew))
    have HO4 := Lib.hid (HO3.out.stay ((Upd.refl [] W3).drew))
    have HB4 : Hid (W0.heap.size ≤ W3.drew.heap.size) := HB3.out
    have hS : (fun V : World => V.heap[P]? = some (.cells #[.int .i64 x.cap, .slice x.es.ad x.es.l.length x.es.cap, .int .i64 x.nx, .slice x.is.ad x.is.l.length x.is.cap] 25 (0, 0)) ∧ V.heap[P + 1]? = some (.cells #[.int .i64 ck, .int .i64 ct, .int .i64 ch, .int .i64 cm, .int .i64 cb] 28 (0, 0)) ∧ V.heap[A]? = some (.cells #[.nilFunc, .func (.func 29) #[] #[], .func (.func 30) #[] #[], .func (.func 31) #[] #[]] 62 (0, 0))) W3.drew := ⟨HF4.out.bm, HF4.out.bc, HBT.out⟩
    have hck : ck = 1 ∨ ck = 2 ∨ ck = 3 := by omega
    clear hbad g1 g2 H4
    rcases hck with rfl | rfl | rfl
    · have hres := H1.out rfl
      subst hres
      have HCT := Lib.hid (HIN.out W0.heap.size x W3.drew HXM.out HO4.out HB4.out)
      clear HIN HCA HEX H1 H2 H3
      unfold GivesO encM encR cellsM cellsR at HCT
      refine wp_region_K (fun V => (V.heap[P]? = some (.cells #[.int .i64 x.cap, .slice x.es.ad x.es.l.length x.es.cap, .int .i64 x.nx, .slice x.is.ad x.is.l.length x.is.cap] 25 (0, 0)) ∧ V.heap[P + 1]? = some (.cells #[.int .i64 1, .int .i64 ct, .int .i64 ch, .int .i64 cm, .int .i64 cb] 28 (0, 0)) ∧ V.heap[A]? = some (.cells #[.nilFunc, .func (.func 29) #[] #[], .func (.func 30) #[] #[], .func (.func 31) #[] #[]] 62 (0, 0)))) 11 mixed ?_
      refine wpAnyK_take (i := 0) (d := some 22) (v := .pointer (some ⟨P + 1, 0, none⟩)) rfl rfl (by kernel_rfl) (fun _ _ _ h => h) (.inl ⟨rfl, fun wz hz => by simp [execOp, Act.eval, go_sem]⟩) hS ?_
      simp only [Act.put, List.setIfInBounds_toArray, List.set_cons_succ, List.set_cons_zero]
      refine wpAnyK_take (i := 1) (d := some 23) (v := .int .i64 1) rfl rfl (by kernel_rfl) (fun _ _ _ h => h) (.inl ⟨rfl, fun wz hz => by obtain ⟨h0, h1, h2⟩ := hz; obtain ⟨q0, q1, q2, q3, q4⟩ := cells5 h1; simp [execOp, Act.eval, go_sem, q0]⟩) hS ?_
      simp only [Act.put, List.setIfInBounds_toArray, List.set_cons_succ, List.set_cons_zero]
      refine wpAnyK_take (i := 2) (d := some 24) (v := .pointer (some ⟨A, 1, none⟩)) rfl rfl (by kernel_rfl) (fun _ _ _ h => h) (.inl ⟨rfl, fun wz hz => by simp [execOp, Act.eval, go_sem]⟩) hS ?_
      simp only [Act.put, List.setIfInBounds_toArray, List.set_cons_succ, List.set_cons_zero]
      refine wpAnyK_take (i := 3) (d := some 25) (v := .func (.func 29) #[] #[]) rfl rfl (by kernel_rfl) (fun _ _ _ h => h) (.inl ⟨rfl, fun wz hz => by obtain ⟨h0, h1, h2⟩ := hz; obtain ⟨q0, q1, q2, q3⟩ := cells4 h2; simp [execOp, Act.eval, go_sem, q1]⟩) hS ?_
      simp only [Act.put, List.setIfInBounds_toArray, List.set_cons_succ, List.set_cons_zero]
      refine wpAnyK_take (i := 4) (d := some 26) (v := .agg #[.int .i64 x.cap, .slice x.es.ad x.es.l.length x.es.cap, .int .i64 x.nx, .slice x.is.ad x.is.l.length x.is.cap]) rfl rfl (by kernel_rfl) (fun _ _ _ h => h) (.inl ⟨rfl, fun wz hz => by obtain ⟨h0, h1, h2⟩ := hz; obtain ⟨q0, q1, q2, q3⟩ := cells4 h0; simp [execOp, Act.eval, go_sem, q0, q1, q2, q3]⟩) hS ?_
      simp only [Act.put, List.setIfInBounds_toArray, List.set_cons_succ, List.set_cons_zero]
      refine wpAnyK_take (i := 5) (d := some 27) (v := .agg #[.int .i64 1, .int .i64 ct, .int .i64 ch, .int .i64 cm, .int .i64 cb]) rfl rfl (by kernel_rfl) (fun _ _ _ h => h) (.inl ⟨rfl, fun wz hz => by obtain ⟨h0, h1, h2⟩ := hz; obtain ⟨q0, q1, q2, q3, q4⟩ := cells5 h1; simp [execOp, Act.eval, go_sem, q0, q1, q2, q3, q4]⟩) hS ?_
      simp only [Act.put, List.setIfInBounds_toArray, List.set_cons_succ, List.set_cons_zero]
      refine wpAnyK_take (i := 6) (d := some 28) (v := .int .i64 h) rfl rfl (by kernel_rfl) (fun _ _ _ h => h) (.inl ⟨rfl, fun wz hz => by simp [execOp, Act.eval, go_sem]⟩) hS ?_
      simp only [Act.put, List.setIfInBounds_toArray, List.set_cons_succ, List.set_cons_zero]
      have eg : ∀ args w, (callFunc 29 args).run Try.prog w = .ok (.enter 29 args) w := enters_of Try.func29 (by kernel_rfl) rfl
      refine anyK_fn (i := 7) (d := some 29) (R := fun v w' => ∃ (y : MdR) (z : RsR), v = .tuple #[.agg #[.int .i64 y.cap, .slice y.es.ad y.es.l.length y.es.cap, .int .i64 y.nx, .slice y.is.ad y.is.l.length y.is.cap], .agg #[.int .i64 z.e, .int .i64 z.h, .bool z.c, .slice z.ev.ad z.ev.l.length z.ev.cap]] ∧ y.md = res.1 ∧ z.rs = res.2 ∧ HasM w' y ∧ HasS LV w' z.ev ∧ (∀ b, b < W0.heap.size → AvM y b ∧ AvS z.ev b) ∧ Bel W0.heap.size W3.drew w') rfl rfl (by kernel_rfl) rfl (by simp [execOp, Act.eval, go_sem, eg]) (HCT.out.mono fun e w' ⟨y, z, he, hr⟩ => ⟨_, he, y, z, rfl, hr⟩) ?_
      rintro _ w5 ⟨y, z, rfl, hmd, hrs, hhas, hev, hav, hbel⟩
      have hS5 : (fun V : World => V.heap[P]? = some (.cells #[.int .i64 x.cap, .slice x.es.ad x.es.l.length x.es.cap, .int .i64 x.nx, .slice x.is.ad x.is.l.length x.is.cap] 25 (0, 0)) ∧ V.heap[P + 1]? = some (.cells #[.int .i64 1, .int .i64 ct, .int .i64 ch, .int .i64 cm, .int .i64 cb] 28 (0, 0)) ∧ V.heap[A]? = some (.cells #[.nilFunc, .func (.func 29) #[] #[], .func (.func 30) #[] #[], .func (.func 31) #[] #[]] 62 (0, 0))) w5 := ⟨hbel.at hS.1 (by have := HSZ0.out; omega), hbel.at hS.2.1 (by have := HSZ0.out; omega), hbel.table hS.2.2⟩
      refine ⟨.inr hS5, ?_⟩
      simp only [Act.put, List.setIfInBounds_toArray, List.set_cons_succ, List.set_cons_zero]
      refine wpAnyK_take (i := 8) (d := some 30) (v := .agg #[.int .i64 y.cap, .slice y.es.ad y.es.l.length y.es.cap, .int .i64 y.nx, .slice y.is.ad y.is.l.length y.is.cap]) rfl rfl (by kernel_rfl) (fun _ _ _ h => h) (.inl ⟨rfl, fun wz hz => by simp [execOp, Act.eval, go_sem]⟩) hS5 ?_
      simp only [Act.put, List.setIfInBounds_toArray, List.set_cons_succ, List.set_cons_zero]
      refine wpAnyK_take (i := 9) (d := some 31) (v := .agg #[.int .i64 z.e, .int .i64 z.h, .bool z.c, .slice z.ev.ad z.ev.l.length z.ev.cap]) rfl rfl (by kernel_rfl) (fun _ _ _ h => h) (.inl ⟨rfl, fun wz hz => by simp [execOp, Act.eval, go_sem]⟩) hS5 ?_
      simp only [Act.put, List.setIfInBounds_toArray, List.set_cons_succ, List.set_cons_zero]
      have b6 := hbel.at HF4.out.rm (by have := HSZ0.out; omega)
      have b7 := hbel.at HF4.out.rr (by have := HSZ0.out; omega)
      obtain ⟨d0, d1, d2, d3⟩ := cells4 b6
      obtain ⟨e0, e1, e2, e3⟩ := free4 b6
      have k8 := stored4 b6 (.int .i64 y.cap) (.slice y.es.ad y.es.l.length y.es.cap) (.int .i64 y.nx) (.slice y.is.ad y.is.l.length y.is.cap)
      have u8 := upd_set4 w5 (P + 1 + 1) (.int .i64 y.cap) (.slice y.es.ad y.es.l.length y.es.cap) (.int .i64 y.nx) (.slice y.is.ad y.is.l.length y.is.cap)
      have hS8 : (fun V : World => V.heap[P]? = some (.cells #[.int .i64 x.cap, .slice x.es.ad x.es.l.length x.es.cap, .int .i64 x.nx, .slice x.is.ad x.is.l.length x.is.cap] 25 (0, 0)) ∧ V.heap[P + 1]? = some (.cells #[.int .i64 1, .int .i64 ct, .int .i64 ch, .int .i64 cm, .int .i64 cb] 28 (0, 0)) ∧ V.heap[A]? = some (.cells #[.nilFunc, .func (.func 29) #[] #[], .func (.func 30) #[] #[], .func (.func 31) #[] #[]] 62 (0, 0))) ((((w5.setCell ⟨P + 1 + 1, 0, none⟩ (.int .i64 y.cap)).setCell ⟨P + 1 + 1, 1, none⟩ (.slice y.es.ad y.es.l.length y.es.cap)).setCell ⟨P + 1 + 1, 2, none⟩ (.int .i64 y.nx)).setCell ⟨P + 1 + 1, 3, none⟩ (.slice y.is.ad y.is.l.length y.is.cap)) := ⟨u8.at hS5.1 (by simp <;> omega), u8.at hS5.2.1 (by simp <;> omega), u8.at hS5.2.2 (by simp only [List.mem_singleton]; exact fun h => ne_block hS5.2.2 b6 (by decide) h)⟩
      refine wpAnyK_skip (i := 10) (d := none) (w' := ((((w5.setCell ⟨P + 1 + 1, 0, none⟩ (.int .i64 y.cap)).setCell ⟨P + 1 + 1, 1, none⟩ (.slice y.es.ad y.es.l.length y.es.cap)).setCell ⟨P + 1 + 1, 2, none⟩ (.int .i64 y.nx)).setCell ⟨P + 1 + 1, 3, none⟩ (.slice y.is.ad y.is.l.length y.is.cap))) rfl rfl (by kernel_rfl) rfl (by simp [execOp, Act.eval, go_sem, d0, d1, d2, d3, e0, e1, e2, e3]) (.inr hS8) ?_
      have b8 := u8.at b7 (by simp)
      obtain ⟨d4, d5, d6, d7⟩ := cells4 b8
      obtain ⟨e4, e5, e6, e7⟩ := free4 b8
      with_reducible generalize (((w5.setCell ⟨P + 1 + 1, 0, none⟩ (.int .i64 y.cap)).setCell ⟨P + 1 + 1, 1, none⟩ (.slice y.es.ad y.es.l.length y.es.cap)).setCell ⟨P + 1 + 1, 2, none⟩ (.int .i64 y.nx)).setCell ⟨P + 1 + 1, 3, none⟩ (.slice y.is.ad y.is.l.length y.is.cap) = W8 at k8 u8 b8 d4 d5 d6 d7 e4 e5 e6 e7 ⊢
      have k9 := stored4 b8 (.int .i64 z.e) (.int .i64 z.h) (.bool z.c) (.slice z.ev.ad z.ev.l.length z.ev.cap)
      have u9 := upd_set4 W8 (P + 1 + 1 + 1) (.int .i64 z.e) (.int .i64 z.h) (.bool z.c) (.slice z.ev.ad z.ev.l.length z.ev.cap)
      refine wpAnyK_skip (i := 11) (d := none) (w' := ((((W8.setCell ⟨P + 1 + 1 + 1, 0, none⟩ (.int .i64 z.e)).setCell ⟨P + 1 + 1 + 1, 1, none⟩ (.int .i64 z.h)).setCell ⟨P + 1 + 1 + 1, 2, none⟩ (.bool z.c)).setCell ⟨P + 1 + 1 + 1, 3, none⟩ (.slice z.ev.ad z.ev.l.length z.ev.cap))) rfl rfl (by kernel_rfl) rfl (by simp [execOp, Act.eval, go_sem, d4, d5, d6, d7, e4, e5, e6, e7]) (.inl rfl) ?_
      refine wpAnyK_done (by kernel_rfl) ?_ _
      with_reducible generalize (((W8.setCell ⟨P + 1 + 1 + 1, 0, none⟩ (.int .i64 z.e)).setCell ⟨P + 1 + 1 + 1, 1, none⟩ (.int .i64 z.h)).setCell ⟨P + 1 + 1 + 1, 2, none⟩ (.bool z.c)).setCell ⟨P + 1 + 1 + 1, 3, none⟩ (.slice z.ev.ad z.ev.l.length z.ev.cap) = W9 at k9 u9 ⊢
      obtain ⟨r0, r1, r2, r3⟩ := cells4 (u9.at k8 (by simp))
      obtain ⟨s0, s1, s2, s3⟩ := cells4 k9
      have hU89 : Upd [P + 1 + 1, P + 1 + 1 + 1] w5 W9 := (u8.mono (by simp)).trans u9 (by simp)
      have hw3 : Upd [] w W3.drew := HF4.out.upd
      have hU9 : Upd [] w W9 := (hbel.up hw3 (by have := HF.out.upd.size; omega)).trans hU89 (fun x hx hl => by have := HF.out.ord; simp at hx; omega)
      have a2 := hav (P + 1 + 1) (by have := HSZ0.out; omega)
      have a3 := hav (P + 1 + 1 + 1) (by have := HSZ0.out; omega)
      have hfin : GivesM ⟨cap, ⟨es, ea, ec⟩, nx, ⟨is, ia, ic⟩⟩ res w (.returned (.tuple #[.agg #[.int .i64 y.cap, .slice y.es.ad y.es.l.length y.es.cap, .int .i64 y.nx, .slice y.is.ad y.is.l.length y.is.cap], .agg #[.int .i64 z.e, .int .i64 z.h, .bool z.c, .slice z.ev.ad z.ev.l.length z.ev.cap]])) W9 := by
        exact ⟨y, z, rfl, hmd, hrs, ⟨hhas.es.two2 hU89 a2.1.es a3.1.es, hhas.is.two2 hU89 a2.1.is a3.1.is⟩, hev.two2 hU89 a2.2 a3.2, fun b hb ha => hav b (by have := HF.out.upd.size; omega), hU9⟩
      simp only [Act.put]
      skip
      go_wp2_with fail
      exact bodyPost_ret (v := .tuple #[.agg #[.int .i64 y.cap, .slice y.es.ad y.es.l.length y.es.cap, .int .i64 y.nx, .slice y.is.ad y.is.l.length y.is.cap], .agg #[.int .i64 z.e, .int .i64 z.h, .bool z.c, .slice z.ev.ad z.ev.l.length z.ev.cap]]) (by simp [results, Try.results14, go_sem, r0, r1, r2, r3, s0, s1, s2, s3]) rfl hfin
    · have hres := H2.out rfl
      subst hres
      have HCT := Lib.hid (HCA.out W0.heap.size x W3.drew HXM.out HO4.out HB4.out)
      clear HIN HCA HEX H1 H2 H3
      unfold GivesO encM encR cellsM cellsR at HCT
      refine wp_region_K (fun V => (V.heap[P]? = some (.cells #[.int .i64 x.cap, .slice x.es.ad x.es.l.length x.es.cap, .int .i64 x.nx, .slice x.is.ad x.is.l.length x.is.cap] 25 (0, 0)) ∧ V.heap[P + 1]? = some (.cells #[.int .i64 2, .int .i64 ct, .int .i64 ch, .int .i64 cm, .int .i64 cb] 28 (0, 0)) ∧ V.heap[A]? = some (.cells #[.nilFunc, .func (.func 29) #[] #[], .func (.func 30) #[] #[], .func (.func 31) #[] #[]] 62 (0, 0)))) 11 mixed ?_
      refine wpAnyK_take (i := 0) (d := some 22) (v := .pointer (some ⟨P + 1, 0, none⟩)) rfl rfl (by kernel_rfl) (fun _ _ _ h => h) (.inl ⟨rfl, fun wz hz => by simp [execOp, Act.eval, go_sem]⟩) hS ?_
      simp only [Act.put, List.setIfInBounds_toArray, List.set_cons_succ, List.set_cons_zero]
      refine wpAnyK_take (i := 1) (d := some 23) (v := .int .i64 2) rfl rfl (by kernel_rfl) (fun _ _ _ h => h) (.inl ⟨rfl, fun wz hz => by obtain ⟨h0, h1, h2⟩ := hz; obtain ⟨q0, q1, q2, q3, q4⟩ := cells5 h1; simp [execOp, Act.eval, go_sem, q0]⟩) hS ?_
      simp only [Act.put, List.setIfInBounds_toArray, List.set_cons_succ, List.set_cons_zero]
      refine wpAnyK_take (i := 2) (d := some 24) (v := .pointer (some ⟨A, 2, none⟩)) rfl rfl (by kernel_rfl) (fun _ _ _ h => h) (.inl ⟨rfl, fun wz hz => by simp [execOp, Act.eval, go_sem]⟩) hS ?_
      simp only [Act.put, List.setIfInBounds_toArray, List.set_cons_succ, List.set_cons_zero]
      refine wpAnyK_take (i := 3) (d := some 25) (v := .func (.func 30) #[] #[]) rfl rfl (by kernel_rfl) (fun _ _ _ h => h) (.inl ⟨rfl, fun wz hz => by obtain ⟨h0, h1, h2⟩ := hz; obtain ⟨q0, q1, q2, q3⟩ := cells4 h2; simp [execOp, Act.eval, go_sem, q2]⟩) hS ?_
      simp only [Act.put, List.setIfInBounds_toArray, List.set_cons_succ, List.set_cons_zero]
      refine wpAnyK_take (i := 4) (d := some 26) (v := .agg #[.int .i64 x.cap, .slice x.es.ad x.es.l.length x.es.cap, .int .i64 x.nx, .slice x.is.ad x.is.l.length x.is.cap]) rfl rfl (by kernel_rfl) (fun _ _ _ h => h) (.inl ⟨rfl, fun wz hz => by obtain ⟨h0, h1, h2⟩ := hz; obtain ⟨q0, q1, q2, q3⟩ := cells4 h0; simp [execOp, Act.eval, go_sem, q0, q1, q2, q3]⟩) hS ?_
      simp only [Act.put, List.setIfInBounds_toArray, List.set_cons_succ, List.set_cons_zero]
      refine wpAnyK_take (i := 5) (d := some 27) (v := .agg #[.int .i64 2, .int .i64 ct, .int .i64 ch, .int .i64 cm, .int .i64 cb]) rfl rfl (by kernel_rfl) (fun _ _ _ h => h) (.inl ⟨rfl, fun wz hz => by obtain ⟨h0, h1, h2⟩ := hz; obtain ⟨q0, q1, q2, q3, q4⟩ := cells5 h1; simp [execOp, Act.eval, go_sem, q0, q1, q2, q3, q4]⟩) hS ?_
      simp only [Act.put, List.setIfInBounds_toArray, List.set_cons_succ, List.set_cons_zero]
      refine wpAnyK_take (i := 6) (d := some 28) (v := .int .i64 h) rfl rfl (by kernel_rfl) (fun _ _ _ h => h) (.inl ⟨rfl, fun wz hz => by simp [execOp, Act.eval, go_sem]⟩) hS ?_
      simp only [Act.put, List.setIfInBounds_toArray, List.set_cons_succ, List.set_cons_zero]
      have eg : ∀ args w, (callFunc 30 args).run Try.prog w = .ok (.enter 30 args) w := enters_of Try.func30 (by kernel_rfl) rfl
      refine anyK_fn (i := 7) (d := some 29) (R := fun v w' => ∃ (y : MdR) (z : RsR), v = .tuple #[.agg #[.int .i64 y.cap, .slice y.es.ad y.es.l.length y.es.cap, .int .i64 y.nx, .slice y.is.ad y.is.l.length y.is.cap], .agg #[.int .i64 z.e, .int .i64 z.h, .bool z.c, .slice z.ev.ad z.ev.l.length z.ev.cap]] ∧ y.md = res.1 ∧ z.rs = res.2 ∧ HasM w' y ∧ HasS LV w' z.ev ∧ (∀ b, b < W0.heap.size → AvM y b ∧ AvS z.ev b) ∧ Bel W0.heap.size W3.drew w') rfl rfl (by kernel_rfl) rfl (by simp [execOp, Act.eval, go_sem, eg]) (HCT.out.mono fun e w' ⟨y, z, he, hr⟩ => ⟨_, he, y, z, rfl, hr⟩) ?_
      rintro _ w5 ⟨y, z, rfl, hmd, hrs, hhas, hev, hav, hbel⟩
      have hS5 : (fun V : World => V.heap[P]? = some (.cells #[.int .i64 x.cap, .slice x.es.ad x.es.l.length x.es.cap, .int .i64 x.nx, .slice x.is.ad x.is.l.length x.is.cap] 25 (0, 0)) ∧ V.heap[P + 1]? = some (.cells #[.int .i64 2, .int .i64 ct, .int .i64 ch, .int .i64 cm, .int .i64 cb] 28 (0, 0)) ∧ V.heap[A]? = some (.cells #[.nilFunc, .func (.func 29) #[] #[], .func (.func 30) #[] #[], .func (.func 31) #[] #[]] 62 (0, 0))) w5 := ⟨hbel.at hS.1 (by have := HSZ0.out; omega), hbel.at hS.2.1 (by have := HSZ0.out; omega), hbel.table hS.2.2⟩
      refine ⟨.inr hS5, ?_⟩
      simp only [Act.put, List.setIfInBounds_toArray, List.set_cons_succ, List.set_cons_zero]
      refine wpAnyK_take (i := 8) (d := some 30) (v := .agg #[.int .i64 y.cap, .slice y.es.ad y.es.l.length y.es.cap, .int .i64 y.nx, .slice y.is.ad y.is.l.length y.is.cap]) rfl rfl (by kernel_rfl) (fun _ _ _ h => h) (.inl ⟨rfl, fun wz hz => by simp [execOp, Act.eval, go_sem]⟩) hS5 ?_
      simp only [Act.put, List.setIfInBounds_toArray, List.set_cons_succ, List.set_cons_zero]
      refine wpAnyK_take (i := 9) (d := some 31) (v := .agg #[.int .i64 z.e, .int .i64 z.h, .bool z.c, .slice z.ev.ad z.ev.l.length z.ev.cap]) rfl rfl (by kernel_rfl) (fun _ _ _ h => h) (.inl ⟨rfl, fun wz hz => by simp [execOp, Act.eval, go_sem]⟩) hS5 ?_
      simp only [Act.put, List.setIfInBounds_toArray, List.set_cons_succ, List.set_cons_zero]
      have b6 := hbel.at HF4.out.rm (by have := HSZ0.out; omega)
      have b7 := hbel.at HF4.out.rr (by have := HSZ0.out; omega)
      obtain ⟨d0, d1, d2, d3⟩ := cells4 b6
      obtain ⟨e0, e1, e2, e3⟩ := free4 b6
      have k8 := stored4 b6 (.int .i64 y.cap) (.slice y.es.ad y.es.l.length y.es.cap) (.int .i64 y.nx) (.slice y.is.ad y.is.l.length y.is.cap)
      have u8 := upd_set4 w5 (P + 1 + 1) (.int .i64 y.cap) (.slice y.es.ad y.es.l.length y.es.cap) (.int .i64 y.nx) (.slice y.is.ad y.is.l.length y.is.cap)
      have hS8 : (fun V : World => V.heap[P]? = some (.cells #[.int .i64 x.cap, .slice x.es.ad x.es.l.length x.es.cap, .int .i64 x.nx, .slice x.is.ad x.is.l.length x.is.cap] 25 (0, 0)) ∧ V.heap[P + 1]? = some (.cells #[.int .i64 2, .int .i64 ct, .int .i64 ch, .int .i64 cm, .int .i64 cb] 28 (0, 0)) ∧ V.heap[A]? = some (.cells #[.nilFunc, .func (.func 29) #[] #[], .func (.func 30) #[] #[], .func (.func 31) #[] #[]] 62 (0, 0))) ((((w5.setCell ⟨P + 1 + 1, 0, none⟩ (.int .i64 y.cap)).setCell ⟨P + 1 + 1, 1, none⟩ (.slice y.es.ad y.es.l.length y.es.cap)).setCell ⟨P + 1 + 1, 2, none⟩ (.int .i64 y.nx)).setCell ⟨P + 1 + 1, 3, none⟩ (.slice y.is.ad y.is.l.length y.is.cap)) := ⟨u8.at hS5.1 (by simp <;> omega), u8.at hS5.2.1 (by simp <;> omega), u8.at hS5.2.2 (by simp only [List.mem_singleton]; exact fun h => ne_block hS5.2.2 b6 (by decide) h)⟩
      refine wpAnyK_skip (i := 10) (d := none) (w' := ((((w5.setCell ⟨P + 1 + 1, 0, none⟩ (.int .i64 y.cap)).setCell ⟨P + 1 + 1, 1, none⟩ (.slice y.es.ad y.es.l.length y.es.cap)).setCell ⟨P + 1 + 1, 2, none⟩ (.int .i64 y.nx)).setCell ⟨P + 1 + 1, 3, none⟩ (.slice y.is.ad y.is.l.length y.is.cap))) rfl rfl (by kernel_rfl) rfl (by simp [execOp, Act.eval, go_sem, d0, d1, d2, d3, e0, e1, e2, e3]) (.inr hS8) ?_
      have b8 := u8.at b7 (by simp)
      obtain ⟨d4, d5, d6, d7⟩ := cells4 b8
      obtain ⟨e4, e5, e6, e7⟩ := free4 b8
      with_reducible generalize (((w5.setCell ⟨P + 1 + 1, 0, none⟩ (.int .i64 y.cap)).setCell ⟨P + 1 + 1, 1, none⟩ (.slice y.es.ad y.es.l.length y.es.cap)).setCell ⟨P + 1 + 1, 2, none⟩ (.int .i64 y.nx)).setCell ⟨P + 1 + 1, 3, none⟩ (.slice y.is.ad y.is.l.length y.is.cap) = W8 at k8 u8 b8 d4 d5 d6 d7 e4 e5 e6 e7 ⊢
      have k9 := stored4 b8 (.int .i64 z.e) (.int .i64 z.h) (.bool z.c) (.slice z.ev.ad z.ev.l.length z.ev.cap)
      have u9 := upd_set4 W8 (P + 1 + 1 + 1) (.int .i64 z.e) (.int .i64 z.h) (.bool z.c) (.slice z.ev.ad z.ev.l.length z.ev.cap)
      refine wpAnyK_skip (i := 11) (d := none) (w' := ((((W8.setCell ⟨P + 1 + 1 + 1, 0, none⟩ (.int .i64 z.e)).setCell ⟨P + 1 + 1 + 1, 1, none⟩ (.int .i64 z.h)).setCell ⟨P + 1 + 1 + 1, 2, none⟩ (.bool z.c)).setCell ⟨P + 1 + 1 + 1, 3, none⟩ (.slice z.ev.ad z.ev.l.length z.ev.cap))) rfl rfl (by kernel_rfl) rfl (by simp [execOp, Act.eval, go_sem, d4, d5, d6, d7, e4, e5, e6, e7]) (.inl rfl) ?_
      refine wpAnyK_done (by kernel_rfl) ?_ _
      with_reducible generalize (((W8.setCell ⟨P + 1 + 1 + 1, 0, none⟩ (.int .i64 z.e)).setCell ⟨P + 1 + 1 + 1, 1, none⟩ (.int .i64 z.h)).setCell ⟨P + 1 + 1 + 1, 2, none⟩ (.bool z.c)).setCell ⟨P + 1 + 1 + 1, 3, none⟩ (.slice z.ev.ad z.ev.l.length z.ev.cap) = W9 at k9 u9 ⊢
      obtain ⟨r0, r1, r2, r3⟩ := cells4 (u9.at k8 (by simp))
      obtain ⟨s0, s1, s2, s3⟩ := cells4 k9
      have hU89 : Upd [P + 1 + 1, P + 1 + 1 + 1] w5 W9 := (u8.mono (by simp)).trans u9 (by simp)
      have hw3 : Upd [] w W3.drew := HF4.out.upd
      have hU9 : Upd [] w W9 := (hbel.up hw3 (by have := HF.out.upd.size; omega)).trans hU89 (fun x hx hl => by have := HF.out.ord; simp at hx; omega)
      have a2 := hav (P + 1 + 1) (by have := HSZ0.out; omega)
      have a3 := hav (P + 1 + 1 + 1) (by have := HSZ0.out; omega)
      have hfin : GivesM ⟨cap, ⟨es, ea, ec⟩, nx, ⟨is, ia, ic⟩⟩ res w (.returned (.tuple #[.agg #[.int .i64 y.cap, .slice y.es.ad y.es.l.length y.es.cap, .int .i64 y.nx, .slice y.is.ad y.is.l.length y.is.cap], .agg #[.int .i64 z.e, .int .i64 z.h, .bool z.c, .slice z.ev.ad z.ev.l.length z.ev.cap]])) W9 := by
        exact ⟨y, z, rfl, hmd, hrs, ⟨hhas.es.two2 hU89 a2.1.es a3.1.es, hhas.is.two2 hU89 a2.1.is a3.1.is⟩, hev.two2 hU89 a2.2 a3.2, fun b hb ha => hav b (by have := HF.out.upd.size; omega), hU9⟩
      simp only [Act.put]
      skip
      go_wp2_with fail
      exact bodyPost_ret (v := .tuple #[.agg #[.int .i64 y.cap, .slice y.es.ad y.es.l.length y.es.cap, .int .i64 y.nx, .slice y.is.ad y.is.l.length y.is.cap], .agg #[.int .i64 z.e, .int .i64 z.h, .bool z.c, .slice z.ev.ad z.ev.l.length z.ev.cap]]) (by simp [results, Try.results14, go_sem, r0, r1, r2, r3, s0, s1, s2, s3]) rfl hfin
    · have hres := H3.out rfl
      subst hres
      have HCT := Lib.hid (HEX.out W0.heap.size x W3.drew HXM.out HO4.out HB4.out)
      clear HIN HCA HEX H1 H2 H3
      unfold GivesO encM encR cellsM cellsR at HCT
      refine wp_region_K (fun V => (V.heap[P]? = some (.cells #[.int .i64 x.cap, .slice x.es.ad x.es.l.length x.es.cap, .int .i64 x.nx, .slice x.is.ad x.is.l.length x.is.cap] 25 (0, 0)) ∧ V.heap[P + 1]? = some (.cells #[.int .i64 3, .int .i64 ct, .int .i64 ch, .int .i64 cm, .int .i64 cb] 28 (0, 0)) ∧ V.heap[A]? = some (.cells #[.nilFunc, .func (.func 29) #[] #[], .func (.func 30) #[] #[], .func (.func 31) #[] #[]] 62 (0, 0)))) 11 mixed ?_
      refine wpAnyK_take (i := 0) (d := some 22) (v := .pointer (some ⟨P + 1, 0, none⟩)) rfl rfl (by kernel_rfl) (fun _ _ _ h => h) (.inl ⟨rfl, fun wz hz => by simp [execOp, Act.eval, go_sem]⟩) hS ?_
      simp only [Act.put, List.setIfInBounds_toArray, List.set_cons_succ, List.set_cons_zero]
      refine wpAnyK_take (i := 1) (d := some 23) (v := .int .i64 3) rfl rfl (by kernel_rfl) (fun _ _ _ h => h) (.inl ⟨rfl, fun wz hz => by obtain ⟨h0, h1, h2⟩ := hz; obtain ⟨q0, q1, q2, q3, q4⟩ := cells5 h1; simp [execOp, Act.eval, go_sem, q0]⟩) hS ?_
      simp only [Act.put, List.setIfInBounds_toArray, List.set_cons_succ, List.set_cons_zero]
      refine wpAnyK_take (i := 2) (d := some 24) (v := .pointer (some ⟨A, 3, none⟩)) rfl rfl (by kernel_rfl) (fun _ _ _ h => h) (.inl ⟨rfl, fun wz hz => by simp [execOp, Act.eval, go_sem]⟩) hS ?_
      simp only [Act.put, List.setIfInBounds_toArray, List.set_cons_succ, List.set_cons_zero]
      refine wpAnyK_take (i := 3) (d := some 25) (v := .func (.func 31) #[] #[]) rfl rfl (by kernel_rfl) (fun _ _ _ h => h) (.inl ⟨rfl, fun wz hz => by obtain ⟨h0, h1, h2⟩ := hz; obtain ⟨q0, q1, q2, q3⟩ := cells4 h2; simp [execOp, Act.eval, go_sem, q3]⟩) hS ?_
      simp only [Act.put, List.setIfInBounds_toArray, List.set_cons_succ, List.set_cons_zero]
      refine wpAnyK_take (i := 4) (d := some 26) (v := .agg #[.int .i64 x.cap, .slice x.es.ad x.es.l.length x.es.cap, .int .i64 x.nx, .slice x.is.ad x.is.l.length x.is.cap]) rfl rfl (by kernel_rfl) (fun _ _ _ h => h) (.inl ⟨rfl, fun wz hz => by obtain ⟨h0, h1, h2⟩ := hz; obtain ⟨q0, q1, q2, q3⟩ := cells4 h0; simp [execOp, Act.eval, go_sem, q0, q1, q2, q3]⟩) hS ?_
      simp only [Act.put, List.setIfInBounds_toArray, List.set_cons_succ, List.set_cons_zero]
      refine wpAnyK_take (i := 5) (d := some 27) (v := .agg #[.int .i64 3, .int .i64 ct, .int .i64 ch, .int .i64 cm, .int .i64 cb]) rfl rfl (by kernel_rfl) (fun _ _ _ h => h) (.inl ⟨rfl, fun wz hz => by obtain ⟨h0, h1, h2⟩ := hz; obtain ⟨q0, q1, q2, q3, q4⟩ := cells5 h1; simp [execOp, Act.eval, go_sem, q0, q1, q2, q3, q4]⟩) hS ?_
      simp only [Act.put, List.setIfInBounds_toArray, List.set_cons_succ, List.set_cons_zero]
      refine wpAnyK_take (i := 6) (d := some 28) (v := .int .i64 h) rfl rfl (by kernel_rfl) (fun _ _ _ h => h) (.inl ⟨rfl, fun wz hz => by simp [execOp, Act.eval, go_sem]⟩) hS ?_
      simp only [Act.put, List.setIfInBounds_toArray, List.set_cons_succ, List.set_cons_zero]
      have eg : ∀ args w, (callFunc 31 args).run Try.prog w = .ok (.enter 31 args) w := enters_of Try.func31 (by kernel_rfl) rfl
      refine anyK_fn (i := 7) (d := some 29) (R := fun v w' => ∃ (y : MdR) (z : RsR), v = .tuple #[.agg #[.int .i64 y.cap, .slice y.es.ad y.es.l.length y.es.cap, .int .i64 y.nx, .slice y.is.ad y.is.l.length y.is.cap], .agg #[.int .i64 z.e, .int .i64 z.h, .bool z.c, .slice z.ev.ad z.ev.l.length z.ev.cap]] ∧ y.md = res.1 ∧ z.rs = res.2 ∧ HasM w' y ∧ HasS LV w' z.ev ∧ (∀ b, b < W0.heap.size → AvM y b ∧ AvS z.ev b) ∧ Bel W0.heap.size W3.drew w') rfl rfl (by kernel_rfl) rfl (by simp [execOp, Act.eval, go_sem, eg]) (HCT.out.mono fun e w' ⟨y, z, he, hr⟩ => ⟨_, he, y, z, rfl, hr⟩) ?_
      rintro _ w5 ⟨y, z, rfl, hmd, hrs, hhas, hev, hav, hbel⟩
      have hS5 : (fun V : World => V.heap[P]? = some (.cells #[.int .i64 x.cap, .slice x.es.ad x.es.l.length x.es.cap, .int .i64 x.nx, .slice x.is.ad x.is.l.length x.is.cap] 25 (0, 0)) ∧ V.heap[P + 1]? = some (.cells #[.int .i64 3, .int .i64 ct, .int .i64 ch, .int .i64 cm, .int .i64 cb] 28 (0, 0)) ∧ V.heap[A]? = some (.cells #[.nilFunc, .func (.func 29) #[] #[], .func (.func 30) #[] #[], .func (.func 31) #[] #[]] 62 (0, 0))) w5 := ⟨hbel.at hS.1 (by have := HSZ0.out; omega), hbel.at hS.2.1 (by have := HSZ0.out; omega), hbel.table hS.2.2⟩
      refine ⟨.inr hS5, ?_⟩
      simp only [Act.put, List.setIfInBounds_toArray, List.set_cons_succ, List.set_cons_zero]
      refine wpAnyK_take (i := 8) (d := some 30) (v := .agg #[.int .i64 y.cap, .slice y.es.ad y.es.l.length y.es.cap, .int .i64 y.nx, .slice y.is.ad y.is.l.length y.is.cap]) rfl rfl (by kernel_rfl) (fun _ _ _ h => h) (.inl ⟨rfl, fun wz hz => by simp [execOp, Act.eval, go_sem]⟩) hS5 ?_
      simp only [Act.put, List.setIfInBounds_toArray, List.set_cons_succ, List.set_cons_zero]
      refine wpAnyK_take (i := 9) (d := some 31) (v := .agg #[.int .i64 z.e, .int .i64 z.h, .bool z.c, .slice z.ev.ad z.ev.l.length z.ev.cap]) rfl rfl (by kernel_rfl) (fun _ _ _ h => h) (.inl ⟨rfl, fun wz hz => by simp [execOp, Act.eval, go_sem]⟩) hS5 ?_
      simp only [Act.put, List.setIfInBounds_toArray, List.set_cons_succ, List.set_cons_zero]
      have b6 := hbel.at HF4.out.rm (by have := HSZ0.out; omega)
      have b7 := hbel.at HF4.out.rr (by have := HSZ0.out; omega)
      obtain ⟨d0, d1, d2, d3⟩ := cells4 b6
      obtain ⟨e0, e1, e2, e3⟩ := free4 b6
      have k8 := stored4 b6 (.int .i64 y.cap) (.slice y.es.ad y.es.l.length y.es.cap) (.int .i64 y.nx) (.slice y.is.ad y.is.l.length y.is.cap)
      have u8 := upd_set4 w5 (P + 1 + 1) (.int .i64 y.cap) (.slice y.es.ad y.es.l.length y.es.cap) (.int .i64 y.nx) (.slice y.is.ad y.is.l.length y.is.cap)
      have hS8 : (fun V : World => V.heap[P]? = some (.cells #[.int .i64 x.cap, .slice x.es.ad x.es.l.length x.es.cap, .int .i64 x.nx, .slice x.is.ad x.is.l.length x.is.cap] 25 (0, 0)) ∧ V.heap[P + 1]? = some (.cells #[.int .i64 3, .int .i64 ct, .int .i64 ch, .int .i64 cm, .int .i64 cb] 28 (0, 0)) ∧ V.heap[A]? = some (.cells #[.nilFunc, .func (.func 29) #[] #[], .func (.func 30) #[] #[], .func (.func 31) #[] #[]] 62 (0, 0))) ((((w5.setCell ⟨P + 1 + 1, 0, none⟩ (.int .i64 y.cap)).setCell ⟨P + 1 + 1, 1, none⟩ (.slice y.es.ad y.es.l.length y.es.cap)).setCell ⟨P + 1 + 1, 2, none⟩ (.int .i64 y.nx)).setCell ⟨P + 1 + 1, 3, none⟩ (.slice y.is.ad y.is.l.length y.is.cap)) := ⟨u8.at hS5.1 (by simp <;> omega), u8.at hS5.2.1 (by simp <;> omega), u8.at hS5.2.2 (by simp only [List.mem_singleton]; exact fun h => ne_block hS5.2.2 b6 (by decide) h)⟩
      refine wpAnyK_skip (i := 10) (d := none) (w' := ((((w5.setCell ⟨P + 1 + 1, 0, none⟩ (.int .i64 y.cap)).setCell ⟨P + 1 + 1, 1, none⟩ (.slice y.es.ad y.es.l.length y.es.cap)).setCell ⟨P + 1 + 1, 2, none⟩ (.int .i64 y.nx)).setCell ⟨P + 1 + 1, 3, none⟩ (.slice y.is.ad y.is.l.length y.is.cap))) rfl rfl (by kernel_rfl) rfl (by simp [execOp, Act.eval, go_sem, d0, d1, d2, d3, e0, e1, e2, e3]) (.inr hS8) ?_
      have b8 := u8.at b7 (by simp)
      obtain ⟨d4, d5, d6, d7⟩ := cells4 b8
      obtain ⟨e4, e5, e6, e7⟩ := free4 b8
      with_reducible generalize (((w5.setCell ⟨P + 1 + 1, 0, none⟩ (.int .i64 y.cap)).setCell ⟨P + 1 + 1, 1, none⟩ (.slice y.es.ad y.es.l.length y.es.cap)).setCell ⟨P + 1 + 1, 2, none⟩ (.int .i64 y.nx)).setCell ⟨P + 1 + 1, 3, none⟩ (.slice y.is.ad y.is.l.length y.is.cap) = W8 at k8 u8 b8 d4 d5 d6 d7 e4 e5 e6 e7 ⊢
      have k9 := stored4 b8 (.int .i64 z.e) (.int .i64 z.h) (.bool z.c) (.slice z.ev.ad z.ev.l.length z.ev.cap)
      have u9 := upd_set4 W8 (P + 1 + 1 + 1) (.int .i64 z.e) (.int .i64 z.h) (.bool z.c) (.slice z.ev.ad z.ev.l.length z.ev.cap)
      refine wpAnyK_skip (i := 11) (d := none) (w' := ((((W8.setCell ⟨P + 1 + 1 + 1, 0, none⟩ (.int .i64 z.e)).setCell ⟨P + 1 + 1 + 1, 1, none⟩ (.int .i64 z.h)).setCell ⟨P + 1 + 1 + 1, 2, none⟩ (.bool z.c)).setCell ⟨P + 1 + 1 + 1, 3, none⟩ (.slice z.ev.ad z.ev.l.length z.ev.cap))) rfl rfl (by kernel_rfl) rfl (by simp [execOp, Act.eval, go_sem, d4, d5, d6, d7, e4, e5, e6, e7]) (.inl rfl) ?_
      refine wpAnyK_done (by kernel_rfl) ?_ _
      with_reducible generalize (((W8.setCell ⟨P + 1 + 1 + 1, 0, none⟩ (.int .i64 z.e)).setCell ⟨P + 1 + 1 + 1, 1, none⟩ (.int .i64 z.h)).setCell ⟨P + 1 + 1 + 1, 2, none⟩ (.bool z.c)).setCell ⟨P + 1 + 1 + 1, 3, none⟩ (.slice z.ev.ad z.ev.l.length z.ev.cap) = W9 at k9 u9 ⊢
      obtain ⟨r0, r1, r2, r3⟩ := cells4 (u9.at k8 (by simp))
      obtain ⟨s0, s1, s2, s3⟩ := cells4 k9
      have hU89 : Upd [P + 1 + 1, P + 1 + 1 + 1] w5 W9 := (u8.mono (by simp)).trans u9 (by simp)
      have hw3 : Upd [] w W3.drew := HF4.out.upd
      have hU9 : Upd [] w W9 := (hbel.up hw3 (by have := HF.out.upd.size; omega)).trans hU89 (fun x hx hl => by have := HF.out.ord; simp at hx; omega)
      have a2 := hav (P + 1 + 1) (by have := HSZ0.out; omega)
      have a3 := hav (P + 1 + 1 + 1) (by have := HSZ0.out; omega)
      have hfin : GivesM ⟨cap, ⟨es, ea, ec⟩, nx, ⟨is, ia, ic⟩⟩ res w (.returned (.tuple #[.agg #[.int .i64 y.cap, .slice y.es.ad y.es.l.length y.es.cap, .int .i64 y.nx, .slice y.is.ad y.is.l.length y.is.cap], .agg #[.int .i64 z.e, .int .i64 z.h, .bool z.c, .slice z.ev.ad z.ev.l.length z.ev.cap]])) W9 := by
        exact ⟨y, z, rfl, hmd, hrs, ⟨hhas.es.two2 hU89 a2.1.es a3.1.es, hhas.is.two2 hU89 a2.1.is a3.1.is⟩, hev.two2 hU89 a2.2 a3.2, fun b hb ha => hav b (by have := HF.out.upd.size; omega), hU9⟩
      simp only [Act.put]
      skip
      go_wp2_with fail
      exact bodyPost_ret (v := .tuple #[.agg #[.int .i64 y.cap, .slice y.es.ad y.es.l.length y.es.cap, .int .i64 y.nx, .slice y.is.ad y.is.l.length y.is.cap], .agg #[.int .i64 z.e, .int .i64 z.h, .bool z.c, .slice z.ev.ad z.ev.l.length z.ev.cap]]) (by simp [results, Try.results14, go_sem, r0, r1, r2, r3, s0, s1, s2, s3]) rfl hfin
end Go.Proofs.Ytpneljhplbkdkaa
