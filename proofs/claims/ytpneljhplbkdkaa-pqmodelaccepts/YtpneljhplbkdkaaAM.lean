
/- Contract of layer 10: the reference's Valid. -/
import Derived.Test.YtpneljhplbkdkaaAL
namespace Go.Proofs.Ytpneljhplbkdkaa
open Go.RowKit Go.Lib

/-- Whether a model is valid. -/
noncomputable def validB (m : Md) : Bool := @decide (OkM m) (Classical.propDecidable _)
theorem validB_iff {m : Md} : validB m = true ↔ OkM m := @decide_eq_true_iff _ (Classical.propDecidable _)
def BadE (nx : Int) (is : List Int) (e : En) : Prop := e.t < 0 ∨ MaxV < e.t ∨ e.q < 0 ∨ nx ≤ e.q ∨ e.h ∉ is
def ClashE (f e : En) : Prop := f.q = e.q ∨ f.h = e.h ∨ e.t < f.t ∨ (f.t = e.t ∧ e.q < f.q)
def GoodC (l : List En) (e : En) (k : Nat) : Prop := ∀ j (hj : j < l.length), j < k → ¬ ClashE l[j] e
def GoodE (nx : Int) (is : List Int) (l : List En) (k : Nat) : Prop := ∀ i (hi : i < l.length), i < k → ¬ BadE nx is l[i] ∧ GoodC l l[i] i
def GoodI (is : List Int) (k : Nat) : Prop := ∀ i (hi : i < is.length), i < k → okH is[i] = true ∧ is[i] ∉ is.take i
theorem GoodC.zero (l : List En) (e : En) : GoodC l e 0 := fun _ _ h => absurd h (Nat.not_lt_zero _)
theorem GoodE.zero (nx : Int) (is : List Int) (l : List En) : GoodE nx is l 0 := fun _ _ h => absurd h (Nat.not_lt_zero _)
theorem GoodI.zero (is : List Int) : GoodI is 0 := fun _ _ h => absurd h (Nat.not_lt_zero _)
theorem GoodC.succ {l : List En} {e : En} {k : Nat} (h : GoodC l e k) (hk : k < l.length) (hn : ¬ ClashE l[k] e) : GoodC l e (k + 1) := fun j hj hl => by
  by_cases e1 : j = k
  · subst e1; exact hn
  · exact h j hj (by omega)
theorem GoodE.succ {nx : Int} {is : List Int} {l : List En} {k : Nat} (h : GoodE nx is l k) (hk : k < l.length) (hb : ¬ BadE nx is l[k]) (hc : GoodC l l[k] k) : GoodE nx is l (k + 1) := fun j hj hl => by
  by_cases e1 : j = k
  · subst e1; exact ⟨hb, hc⟩
  · exact h j hj (by omega)
theorem GoodI.succ {is : List Int} {k : Nat} (h : GoodI is k) (hk : k < is.length) (h1 : okH is[k] = true) (h2 : is[k] ∉ is.take k) : GoodI is (k + 1) := fun j hj hl => by
  by_cases e1 : j = k
  · subst e1; exact ⟨h1, h2⟩
  · exact h j hj (by omega)
theorem ok_of_good {m : Md} (hc : 1 ≤ m.cap ∧ m.cap ≤ 64) (hl : (m.es.length : Int) ≤ m.cap) (hn : m.nx = (m.is.length : Int)) (he : GoodE m.nx m.is m.es m.es.length) (hi : GoodI m.is m.is.length) : OkM m := by
  refine ⟨hc, hl, hn, ?_, ?_, ?_, ?_⟩
  · intro e hm
    obtain ⟨i, hi, rfl⟩ := List.mem_iff_getElem.1 hm
    have h := (he i hi hi).1
    unfold BadE at h
    simp only [not_or, Classical.not_not] at h
    exact ⟨by omega, by omega, by omega, by omega, h.2.2.2.2⟩
  · rw [List.pairwise_iff_getElem]
    intro i j hi hj hij
    have h := (he j hj hj).2 i hi hij
    unfold ClashE at h
    unfold ltE
    omega
  · intro h hm
    obtain ⟨i, hi', rfl⟩ := List.mem_iff_getElem.1 hm
    exact (hi i hi' hi').1
  · unfold List.Nodup
    rw [List.pairwise_iff_getElem]
    intro i j h1 h2 hij e
    refine (hi j h2 h2).2 ?_
    rw [← e]
    exact List.mem_take_iff_getElem.2 ⟨i, by omega, rfl⟩
theorem bad_no {m : Md} {k : Nat} (hk : k < m.es.length) (h : BadE m.nx m.is m.es[k]) : ¬ OkM m := fun ho => by
  obtain ⟨h1, h2, h3, h4, h5⟩ := ho.ent _ (List.getElem_mem hk)
  unfold BadE at h
  rcases h with h | h | h | h | h
  · omega
  · omega
  · omega
  · omega
  · exact h h5
theorem clash_no {m : Md} {j k : Nat} (hk : k < m.es.length) (hj : j < k) (h : ClashE (m.es[j]'(by omega)) m.es[k]) : ¬ OkM m := fun ho => by
  have := (List.pairwise_iff_getElem.1 ho.ord) j k (by omega) hk hj
  unfold ClashE at h
  unfold ltE at this
  omega
theorem hand_no {m : Md} {k : Nat} (hk : k < m.is.length) (h : okH m.is[k] = false) : ¬ OkM m := fun ho => by
  have := ho.hv _ (List.getElem_mem hk)
  rw [h] at this
  cases this
theorem dup_no {m : Md} {k : Nat} (hk : k < m.is.length) (h : m.is[k] ∈ m.is.take k) : ¬ OkM m := fun ho => by
  obtain ⟨i, hi, e⟩ := List.mem_take_iff_getElem.1 h
  have := (List.pairwise_iff_getElem.1 ho.nodup) i k (by omega) hk (by omega)
  exact this e
set_option maxRecDepth 100000 in
set_option maxHeartbeats 8000000 in
theorem RValid_has (m : MdR) (w : World) (hm : HasM w m) (hl : m.es.l.length ≤ 1000000) (hi : m.is.l.length ≤ 1000000) :
    Calls Try.prog 12 #[encM m] w fun e w' => e = .returned (.bool (validB m.md)) ∧ Upd [] w w' := by
  have hic := hm.is.le
  obtain ⟨cap, ⟨l, ea, ec⟩, nx, ⟨is, ia, ic⟩⟩ := m
  obtain ⟨res, hres⟩ : ∃ r, r = validB ⟨cap, l, nx, is⟩ := ⟨_, rfl⟩
  have HFf : Hid (¬ OkM ⟨cap, l, nx, is⟩ → res = false) := Lib.hid (fun h => by rw [hres]; exact Bool.eq_false_iff.2 (fun h2 => h (validB_iff.1 h2)))
  have HTt : Hid (OkM ⟨cap, l, nx, is⟩ → res = true) := Lib.hid (fun h => by rw [hres]; exact validB_iff.2 h)
  unfold encM cellsM MdR.md
  simp only at hl hi hic ⊢
  rw [← hres]
  have HROW := Lib.hid hm.es.row
  have HRI := Lib.hid hm.is.row
  have HHA : Hid (∀ W x, Upd [] w W → Calls Try.prog 23 #[.slice ia is.length ic, .int .i64 x] W fun e w' => e = .returned (.bool (decide (x ∈ is))) ∧ W = w') := Lib.hid (fun W x hu => RHas_has ia ic is x W (hm.is.row.stay hu) hi)
  obtain ⟨n, hn⟩ : ∃ n, n = l.length := ⟨_, rfl⟩
  obtain ⟨q, hq⟩ : ∃ q, q = is.length := ⟨_, rfl⟩
  rw [← hn] at hl ⊢
  rw [← hq] at hi hic HHA ⊢
  have HN := Lib.hid hn; have HQ := Lib.hid hq
  clear hres hm hn hq
  by_cases q1 : cap < 1
  · have g1 : decide (cap < 1) = true := decide_eq_true q1
    have HF := Lib.hid (HFf.out (fun h => by have := h.cap.1; simp only at this; omega))
    go_enter Try.func12, Try.ntmps12
    go_upto_region 1 with (fail)
    obtain ⟨hu0, b0⟩ := one_box w (.cells #[.int .i64 cap, .slice ea n ec, .int .i64 nx, .slice ia q ic] 25)
    generalize w.alloc (.cells #[.int .i64 cap, .slice ea n ec, .int .i64 nx, .slice ia q ic] 25) = W0 at *
    have HU0 := Lib.hid hu0; have HB0 := Lib.hid b0
    clear hu0 b0
    generalize w.heap.size = P at *
    obtain ⟨x0, x1, x2, x3⟩ := cells4 HB0.out
    go_wp2_with fail
    go_ret
    exact ⟨ret_bool HF.out.symm, HU0.out⟩
  have g1 : decide (cap < 1) = false := decide_eq_false q1
  by_cases q2 : 64 < cap
  · have g2 : decide (64 < cap) = true := decide_eq_true q2
    have HF := Lib.hid (HFf.out (fun h => by have := h.cap.2; simp only at this; omega))
    go_enter Try.func12, Try.ntmps12
    go_upto_region 1 with (fail)
    obtain ⟨hu0, b0⟩ := one_box w (.cells #[.int .i64 cap, .slice ea n ec, .int .i64 nx, .slice ia q ic] 25)
    generalize w.alloc (.cells #[.int .i64 cap, .slice ea n ec, .int .i64 nx, .slice ia q ic] 25) = W0 at *
    have HU0 := Lib.hid hu0; have HB0 := Lib.hid b0
    clear hu0 b0
    generalize w.heap.size = P at *
    obtain ⟨x0, x1, x2, x3⟩ := cells4 HB0.out
    go_wp2_with fail
    go_ret
    exact ⟨ret_bool HF.out.symm, HU0.out⟩
  have g2 : decide (64 < cap) = false := decide_eq_false q2
  by_cases q3 : cap < (n : Int)
  · have g3 : decide (cap < (n : Int)) = true := decide_eq_true q3
    have HF := Lib.hid (HFf.out (fun h => by have := h.len; simp only at this; rw [← HN.out] at this; omega))
    go_enter Try.func12, Try.ntmps12
    go_upto_region 1 with (fail)
    obtain ⟨hu0, b0⟩ := one_box w (.cells #[.int .i64 cap, .slice ea n ec, .int .i64 nx, .slice ia q ic] 25)
    generalize w.alloc (.cells #[.int .i64 cap, .slice ea n ec, .int .i64 nx, .slice ia q ic] 25) = W0 at *
    have HU0 := Lib.hid hu0; have HB0 := Lib.hid b0
    clear hu0 b0
    generalize w.heap.size = P at *
    obtain ⟨x0, x1, x2, x3⟩ := cells4 HB0.out
    go_wp2_with fail
    go_ret
    exact ⟨ret_bool HF.out.symm, HU0.out⟩
  have g3 : decide (cap < (n : Int)) = false := decide_eq_false q3
  by_cases q4 : nx = (q : Int)
  case neg =>
    have g4 : (nx != (q : Int)) = true := by simpa using q4
    have HF := Lib.hid (HFf.out (fun h => by have := h.nx; simp only at this; rw [← HQ.out] at this; exact q4 this))
    go_enter Try.func12, Try.ntmps12
    go_upto_region 1 with (fail)
    obtain ⟨hu0, b0⟩ := one_box w (.cells #[.int .i64 cap, .slice ea n ec, .int .i64 nx, .slice ia q ic] 25)
    generalize w.alloc (.cells #[.int .i64 cap, .slice ea n ec, .int .i64 nx, .slice ia q ic] 25) = W0 at *
    have HU0 := Lib.hid hu0; have HB0 := Lib.hid b0
    clear hu0 b0
    generalize w.heap.size = P at *
    obtain ⟨x0, x1, x2, x3⟩ := cells4 HB0.out
    go_wp2_with fail
    go_ret
    exact ⟨ret_bool HF.out.symm, HU0.out⟩
  have g4 : (nx != (q : Int)) = false := by simpa using q4
  have HOK : Hid (GoodE nx is l n → GoodI is q → res = true) := Lib.hid (fun h1 h2 => HTt.out (ok_of_good ⟨by simp only; omega, by simp only; omega⟩ (by simp only; rw [← HN.out]; omega) (by simp only; rw [← HQ.out]; exact q4) (by simp only; rw [← HN.out]; exact h1) (by simp only; rw [← HQ.out]; exact h2)))
  have HNX := Lib.hid q4
  clear q1 q2 q3 q4 HTt
  go_enter Try.func12, Try.ntmps12
  go_upto_region 1 with (fail)
  obtain ⟨hu0, b0⟩ := one_box w (.cells #[.int .i64 cap, .slice ea n ec, .int .i64 nx, .slice ia q ic] 25)
  generalize w.alloc (.cells #[.int .i64 cap, .slice ea n ec, .int .i64 nx, .slice ia q ic] 25) = W0 at *
  have HU0 := Lib.hid hu0; have HB0 := Lib.hid b0
  clear hu0 b0
  generalize w.heap.size = P at *
  obtain ⟨x0, x1, x2, x3⟩ := cells4 HB0.out
  go_wp2_with fail
  clear x0 x1 x2 x3 g1 g2 g3 g4
  go_loopg [3] n (fun gk vi wr => ∃ k : Nat, vi = .int .i64 k ∧ k + gk = n ∧ Hid (GoodE nx is l k) ∧ Hid (Upd [] W0 wr))
  case atStart => exact ⟨0, rfl, by omega, GoodE.zero _ _ _, Upd.refl _ _⟩
  case round =>
    obtain ⟨k, rfl, hkg, HG, HUR⟩ := hrel
    obtain ⟨x0, x1, x2, x3⟩ := cells4 (HUR.out.at HB0.out (by simp))
    by_cases hlt : k < n
    · have hltz : (k : Int) < (n : Int) := by omega
      have hk1 : k < l.length := by have := HN.out; omega
      obtain ⟨bb, off, rfl, s0, s1, s2, s3⟩ := (HROW.out.stay (HU0.out.thn HUR.out)).ent k hk1
      have HBAD : Hid (BadE nx is l[k] → res = false) := Lib.hid (fun h => HFf.out (bad_no (m := ⟨cap, l, nx, is⟩) hk1 h))
      have HCL : Hid (∀ j (hj : j < l.length), j < k → ClashE l[j] l[k] → res = false) := Lib.hid (fun j hj h1 h => HFf.out (clash_no (m := ⟨cap, l, nx, is⟩) hk1 h1 h))
      have HSU : Hid (¬ BadE nx is l[k] → GoodC l l[k] k → GoodE nx is l (k + 1)) := Lib.hid (fun h1 h2 => HG.out.succ hk1 h1 h2)
      generalize l[k] = z at *
      obtain ⟨et, eq, eh, ed⟩ := z
      simp only at s0 s1 s2 s3
      clear hk1 HG
      have hwk : IntKind.i64.wrap ((k : Int) + 1) = (k : Int) + 1 := by rw [IntKind.wrap_i64]; omega
      go_upto_region 7 with (fail)
      have hal := (Upd.refl [] wr).alloc (.cells #[.int .i64 et, .int .i64 eq, .int .i64 eh, .bool ed] 49)
      have hb1 := heap_alloc1 wr (.cells #[.int .i64 et, .int .i64 eq, .int .i64 eh, .bool ed] 49)
      obtain ⟨W1, hW1⟩ : ∃ W1, W1 = wr.alloc (.cells #[.int .i64 et, .int .i64 eq, .int .i64 eh, .bool ed] 49) := ⟨_, rfl⟩
      rw [← hW1] at hal hb1 ⊢
      clear hW1
      have hsz := (HUR.out.size)
      generalize wr.heap.size = Q at *
      have HU1 := Lib.hid (HUR.out.thn hal)
      have HB1 := Lib.hid hb1
      clear x0 x1 x2 x3 s0 s1 s2 s3 hal hb1 hsz HUR
      obtain ⟨x0, x1, x2, x3⟩ := cells4 (HU1.out.at HB0.out (by simp))
      obtain ⟨y0, y1, y2, y3⟩ := cells4 HB1.out
      have HHK := Lib.hid (HHA.out W1 eh (HU0.out.thn HU1.out))
      obtain ⟨bm, hbm⟩ : ∃ b, b = decide (eh ∈ is) := ⟨_, rfl⟩
      rw [← hbm] at HHK
      have HBM := Lib.hid hbm
      clear hbm
      by_cases q1 : et < 0
      · have g1 : decide (et < 0) = true := decide_eq_true q1
        have HF := Lib.hid (HBAD.out (by unfold BadE MaxV; simp only; exact .inl q1))
        go_wp2_with (go_at_call 23; (with_reducible refine HHK.out.mono ?_); rintro e w1 ⟨rfl, rfl⟩)
        go_ret
        exact ⟨ret_bool HF.out.symm, HU0.out.thn HU1.out⟩
      have g1 : decide (et < 0) = false := decide_eq_false q1
      by_cases q2 : 1152921504606846976 < et
      · have g2 : decide (1152921504606846976 < et) = true := decide_eq_true q2
        have HF := Lib.hid (HBAD.out (by unfold BadE MaxV; simp only; exact .inr (.inl q2)))
        go_wp2_with (go_at_call 23; (with_reducible refine HHK.out.mono ?_); rintro e w1 ⟨rfl, rfl⟩)
        go_ret
        exact ⟨ret_bool HF.out.symm, HU0.out.thn HU1.out⟩
      have g2 : decide (1152921504606846976 < et) = false := decide_eq_false q2
      by_cases q3 : eq < 0
      · have g3 : decide (eq < 0) = true := decide_eq_true q3
        have HF := Lib.hid (HBAD.out (by unfold BadE MaxV; simp only; exact .inr (.inr (.inl q3))))
        go_wp2_with (go_at_call 23; (with_reducible refine HHK.out.mono ?_); rintro e w1 ⟨rfl, rfl⟩)
        go_ret
        exact ⟨ret_bool HF.out.symm, HU0.out.thn HU1.out⟩
      have g3 : decide (eq < 0) = false := decide_eq_false q3
      by_cases q4 : nx ≤ eq
      · have g4 : decide (nx ≤ eq) = true := decide_eq_true q4
        have HF := Lib.hid (HBAD.out (by unfold BadE MaxV; simp only; exact .inr (.inr (.inr (.inl q4)))))
        go_wp2_with (go_at_call 23; (with_reducible refine HHK.out.mono ?_); rintro e w1 ⟨rfl, rfl⟩)
        go_ret
        exact ⟨ret_bool HF.out.symm, HU0.out.thn HU1.out⟩
      have g4 : decide (nx ≤ eq) = false := decide_eq_false q4
      cases bm with
      | false =>
        have HF := Lib.hid (HBAD.out (by unfold BadE MaxV; simp only; exact .inr (.inr (.inr (.inr (of_decide_eq_false HBM.out.symm))))))
        go_wp2_with (go_at_call 23; (with_reducible refine HHK.out.mono ?_); rintro e w1 ⟨rfl, rfl⟩)
        go_ret
        exact ⟨ret_bool HF.out.symm, HU0.out.thn HU1.out⟩
      | true =>
        have HNB : Hid (¬ BadE nx is ⟨et, eq, eh, ed⟩) := Lib.hid (fun h => by unfold BadE MaxV at h; simp only at h; exact h.elim q1 (fun h => h.elim q2 (fun h => h.elim q3 (fun h => h.elim q4 (fun h => h (of_decide_eq_true HBM.out.symm))))))
        clear q1 q2 q3 q4 HBAD HBM
        go_upto_region 9 with (go_at_call 23; (with_reducible refine HHK.out.mono ?_); rintro e w1 ⟨rfl, rfl⟩)
        go_wp2_with fail
        clear g1 g2 g3 g4 x0 x1 x2 x3 y0 y1 y2 y3 HHK
        go_loopg [5] k (fun gk vi wr => ∃ j : Nat, vi = .int .i64 j ∧ j + gk = k ∧ Hid (GoodC l ⟨et, eq, eh, ed⟩ j) ∧ Hid (Upd [] W1 wr))
        case atStart => exact ⟨0, rfl, by omega, GoodC.zero _ _, Upd.refl _ _⟩
        case round =>
          obtain ⟨j, rfl, hjg, HC, HUJ⟩ := hrel
          obtain ⟨x0, x1, x2, x3⟩ := cells4 ((HU1.out.thn HUJ.out).at HB0.out (by simp))
          obtain ⟨y0, y1, y2, y3⟩ := cells4 (HUJ.out.at HB1.out (by simp))
          by_cases hjt : j < k
          · have hjz : (j : Int) < (k : Int) := by omega
            have hj1 : j < l.length := by have := HN.out; omega
            obtain ⟨b2, o2, e2, t0, t1, t2, t3⟩ := (HROW.out.stay (HU0.out.thn (HU1.out.thn HUJ.out))).ent j hj1
            simp only [Option.some.injEq, Addr.mk.injEq, and_true] at e2
            obtain ⟨rfl, rfl⟩ := e2
            have HC2 : Hid (ClashE l[j] ⟨et, eq, eh, ed⟩ → res = false) := Lib.hid (fun h => HCL.out j hj1 hjt h)
            have HSJ : Hid (¬ ClashE l[j] ⟨et, eq, eh, ed⟩ → GoodC l ⟨et, eq, eh, ed⟩ (j + 1)) := Lib.hid (fun h => HC.out.succ hj1 h)
            generalize l[j] = z2 at *
            obtain ⟨ft, fq, fh, fd⟩ := z2
            simp only at t0 t1 t2 t3
            clear hj1 HC
            have hwj : IntKind.i64.wrap ((j : Int) + 1) = (j : Int) + 1 := by rw [IntKind.wrap_i64]; omega
            have hjn : (j : Int) < (n : Int) := by omega
            go_upto_region 13 with (fail)
            have hal := (Upd.refl [] wr).alloc (.cells #[.int .i64 ft, .int .i64 fq, .int .i64 fh, .bool fd] 49)
            have hb2 := heap_alloc1 wr (.cells #[.int .i64 ft, .int .i64 fq, .int .i64 fh, .bool fd] 49)
            obtain ⟨W2, hW2⟩ : ∃ W2, W2 = wr.alloc (.cells #[.int .i64 ft, .int .i64 fq, .int .i64 fh, .bool fd] 49) := ⟨_, rfl⟩
            rw [← hW2] at hal hb2 ⊢
            clear hW2
            generalize wr.heap.size = R at *
            have HU2 := Lib.hid (HUJ.out.thn hal)
            clear x0 x1 x2 x3 y0 y1 y2 y3 t0 t1 t2 t3 HUJ hal
            obtain ⟨z0, z1, z2, z3⟩ := cells4 hb2
            obtain ⟨y0, y1, y2, y3⟩ := cells4 (HU2.out.at HB1.out (by simp))
            clear hb2
            by_cases q1 : fq = eq
            · have g1 : (fq == eq) = true := by simpa using q1
              have d1 : decide (fq = eq) = true := decide_eq_true q1
              have HF := Lib.hid (HC2.out (by unfold ClashE; simp only; exact .inl q1))
              go_wp2_with fail
              go_ret
              exact ⟨ret_bool HF.out.symm, HU0.out.thn (HU1.out.thn HU2.out)⟩
            have g1 : (fq == eq) = false := by simpa using q1
            have d1 : decide (fq = eq) = false := decide_eq_false q1
            by_cases q2 : fh = eh
            · have g2 : (fh == eh) = true := by simpa using q2
              have d2 : decide (fh = eh) = true := decide_eq_true q2
              have HF := Lib.hid (HC2.out (by unfold ClashE; simp only; exact .inr (.inl q2)))
              go_wp2_with fail
              go_ret
              exact ⟨ret_bool HF.out.symm, HU0.out.thn (HU1.out.thn HU2.out)⟩
            have g2 : (fh == eh) = false := by simpa using q2
            have d2 : decide (fh = eh) = false := decide_eq_false q2
            by_cases q3 : et < ft
            · have g3 : decide (et < ft) = true := decide_eq_true q3
              have HF := Lib.hid (HC2.out (by unfold ClashE; simp only; exact .inr (.inr (.inl q3))))
              go_wp2_with fail
              go_ret
              exact ⟨ret_bool HF.out.symm, HU0.out.thn (HU1.out.thn HU2.out)⟩
            have g3 : decide (et < ft) = false := decide_eq_false q3
            by_cases q4 : ft = et
            · have g4 : (ft == et) = true := by simpa using q4
              have d4 : decide (ft = et) = true := decide_eq_true q4
              by_cases q5 : eq < fq
              · have g5 : decide (eq < fq) = true := decide_eq_true q5
                have HF := Lib.hid (HC2.out (by unfold ClashE; simp only; exact .inr (.inr (.inr ⟨q4, q5⟩))))
                go_wp2_with fail
                go_ret
                exact ⟨ret_bool HF.out.symm, HU0.out.thn (HU1.out.thn HU2.out)⟩
              have g5 : decide (eq < fq) = false := decide_eq_false q5
              have HGJ := Lib.hid (HSJ.out (fun h => by unfold ClashE at h; simp only at h; omega))
              go_wp2_with fail
              go_roundg (k - (j + 1))
              case measure => omega
              case rel => exact ⟨j + 1, by go_num, by omega, HGJ, HU2⟩
            have g4 : (ft == et) = false := by simpa using q4
            have d4 : decide (ft = et) = false := decide_eq_false q4
            have HGJ := Lib.hid (HSJ.out (fun h => by unfold ClashE at h; simp only at h; omega))
            go_wp2_with fail
            go_roundg (k - (j + 1))
            case measure => omega
            case rel => exact ⟨j + 1, by go_num, by omega, HGJ, HU2⟩
          · have hjz : ¬ (j : Int) < (k : Int) := by omega
            obtain rfl : j = k := by omega
            have HGK := Lib.hid (HSU.out HNB.out HC.out)
            have HUF := Lib.hid (HU1.out.thn HUJ.out)
            clear HNB HC HCL HSU
            go_wp2_with fail
            go_roundg (n - (j + 1))
            case measure => omega
            case rel => exact ⟨j + 1, by go_num, by omega, HGK, HUF⟩
    · have hltz : ¬ (k : Int) < (n : Int) := by omega
      obtain rfl : k = n := by omega
      have HGN := Lib.hid (HOK.out HG.out)
      clear HG HOK
      go_wp2_with fail
      clear x0 x1 x2 x3
      obtain ⟨W1, hW1⟩ : ∃ W1, W1 = wr := ⟨_, rfl⟩
      rw [← hW1] at HUR ⊢
      clear hW1
      have HUA := HUR
      clear HUR
      go_loopg [7] q (fun gk vi wr => ∃ i : Nat, vi = .int .i64 i ∧ i + gk = q ∧ Hid (GoodI is i) ∧ Hid (Upd [] W0 wr))
      case atStart => exact ⟨0, rfl, by omega, GoodI.zero _, HUA⟩
      case round =>
        obtain ⟨i, rfl, hig, HI, HUR⟩ := hrel
        obtain ⟨x0, x1, x2, x3⟩ := cells4 (HUR.out.at HB0.out (by simp))
        by_cases hit : i < q
        · have hitz : (i : Int) < (q : Int) := by omega
          have hi1 : i < is.length := by have := HQ.out; omega
          obtain ⟨bb, off, rfl, s0⟩ := (HRI.out.stay (HU0.out.thn HUR.out)).num i hi1
          have HHV := Lib.hid (RHV_has (is[i]'hi1))
          have HHT : Hid (∀ W, Upd [] w W → Calls Try.prog 23 #[.slice (some ⟨bb, off, none⟩) i ic, .int .i64 (is[i]'hi1)] W fun e w' => e = .returned (.bool (decide (is[i]'hi1 ∈ is.take i))) ∧ W = w') := Lib.hid (fun W hu => by
            have h := RHas_has (some ⟨bb, off, none⟩) ic (is.take i) (is[i]'hi1) W (row_take i (HRI.out.stay hu)) (by rw [List.length_take]; omega)
            rw [List.length_take, Nat.min_eq_left (by omega)] at h
            exact h)
          have HB1 : Hid (okH (is[i]'hi1) = false → res = false) := Lib.hid (fun h => HFf.out (hand_no (m := ⟨cap, l, nx, is⟩) hi1 h))
          have HB2 : Hid (decide ((is[i]'hi1) ∈ is.take i) = true → res = false) := Lib.hid (fun h => HFf.out (dup_no (m := ⟨cap, l, nx, is⟩) hi1 (of_decide_eq_true h)))
          have HSI : Hid (okH (is[i]'hi1) = true → decide ((is[i]'hi1) ∈ is.take i) = false → GoodI is (i + 1)) := Lib.hid (fun h1 h2 => HI.out.succ hi1 h1 (of_decide_eq_false h2))
          generalize decide ((is[i]'hi1) ∈ is.take i) = u2 at *
          generalize okH (is[i]'hi1) = u1 at *
          generalize is[i]'hi1 = z at *
          clear hi1 HI
          have hwi : IntKind.i64.wrap ((i : Int) + 1) = (i : Int) + 1 := by rw [IntKind.wrap_i64]; omega
          have hicz : (i : Int) ≤ (ic : Int) := by omega
          have hicn : i ≤ ic := by omega
          have hi0 : (0 : Int) ≤ (i : Int) := by omega
          go_upto_region 18 with (fail)
          cases u1 with
          | false =>
            have HF := Lib.hid (HB1.out rfl)
            go_quiet ((first | (go_at_call 27; exact (HHV.out _).mono (fun _ _ h => ⟨h.1, _, h.2.symm⟩)) | (go_at_call 23; exact (HHT.out _ (HU0.out.thn (HUR.out.drewN _))).mono (fun _ _ h => ⟨h.1, _, h.2.symm⟩))))
            have HU2 : Hid (Upd [] W0 (wr.drewN nq)) := HUR.out.drewN nq
            generalize wr.drewN nq = w2 at HU2 ⊢
            go_wp2_with fail
            go_ret
            exact ⟨ret_bool HF.out.symm, HU0.out.thn HU2.out⟩
          | true =>
            go_quiet ((first | (go_at_call 27; exact (HHV.out _).mono (fun _ _ h => ⟨h.1, _, h.2.symm⟩)) | (go_at_call 23; exact (HHT.out _ (HU0.out.thn (HUR.out.drewN _))).mono (fun _ _ h => ⟨h.1, _, h.2.symm⟩))))
            have HU2 : Hid (Upd [] W0 (wr.drewN nq)) := HUR.out.drewN nq
            generalize wr.drewN nq = w2 at HU2 ⊢
            cases u2 with
            | true =>
              have HF := Lib.hid (HB2.out rfl)
              go_wp2_with fail
              go_ret
              exact ⟨ret_bool HF.out.symm, HU0.out.thn HU2.out⟩
            | false =>
              have HGI := Lib.hid (HSI.out rfl rfl)
              clear hicz hicn hi0 s0
              go_wp2_with fail
              go_roundg (q - (i + 1))
              case measure => omega
              case rel => exact ⟨i + 1, by go_num, by omega, HGI, HU2⟩
        · have hitz : ¬ (i : Int) < (q : Int) := by omega
          obtain rfl : i = q := by omega
          have HT := Lib.hid (HGN.out HI.out)
          go_wp2_with fail
          go_ret
          exact ⟨ret_bool HT.out.symm, HU0.out.thn HUR.out⟩
end Go.Proofs.Ytpneljhplbkdkaa
