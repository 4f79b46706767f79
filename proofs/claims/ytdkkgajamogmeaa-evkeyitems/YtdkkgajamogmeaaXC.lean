/- Contracts: the reference's comparisons. -/
import Derived.Test.YtdkkgajamogmeaaXB
namespace Go.Proofs.Ytdkkgajamogmeaa
open Go.RowKit Go.Sort Go.Lib

/-- Only draws. -/
def Drawn (w w' : World) : Prop := ∃ q, w' = w.drewN q
theorem Drawn.refl (w : World) : Drawn w w := ⟨0, rfl⟩
theorem Drawn.trans {a b c : World} (h : Drawn a b) (k : Drawn b c) : Drawn a c := by
  obtain ⟨q, rfl⟩ := h
  obtain ⟨r, rfl⟩ := k
  exact ⟨q + r, by rw [World.drewN_drewN]⟩
theorem Drawn.drewN {a b : World} (h : Drawn a b) (n : Nat) : Drawn a (b.drewN n) := h.trans ⟨n, rfl⟩
theorem Drawn.grown {a b : World} (h : Drawn a b) : Grown a b := by
  obtain ⟨q, rfl⟩ := h
  exact (Grown.refl a).drewN q
theorem cmpI_len {xs ys : List Int} {k : Nat} (h : KeyAt xs ys k) (hk : k = xs.length ∨ k = ys.length) (h1 : k ≤ xs.length) (h2 : k ≤ ys.length) : cmpK xs ys = cmpI (xs.length : Int) (ys.length : Int) := by
  by_cases c1 : k = xs.length
  · by_cases c2 : k = ys.length
    · rw [h.same c1 c2, ← c1, ← c2, cmpI_self]
    · rw [h.short c1 (by omega), cmpI_lt (by omega)]
  · rw [h.long (by omega) (by omega), cmpI_gt (by omega)]

set_option maxHeartbeats 2000000 in
theorem RCompareKeys_any (a b : Option Addr) (ca cb : Nat) (xs ys : List Int) (w : World) (ha : Ints w a xs) (hb : Ints w b ys) (_hx : xs.length ≤ 1000000) (hy : ys.length ≤ 1000000) :
    Calls Try.prog 16 #[.slice a xs.length ca, .slice b ys.length cb] w fun e w' => e = .returned (.int .i64 (cmpK xs ys)) ∧ Drawn w w' := by
  obtain ⟨r, hr⟩ : ∃ r, r = cmpK xs ys := ⟨_, rfl⟩
  rw [← hr]
  have HR := Lib.hid hr
  have HA := Lib.hid ha; have HB := Lib.hid hb
  clear hr ha hb
  obtain ⟨nx, hnx⟩ : ∃ n, n = xs.length := ⟨_, rfl⟩
  obtain ⟨ny, hny⟩ : ∃ n, n = ys.length := ⟨_, rfl⟩
  rw [← hnx, ← hny]
  rw [← hny] at hy
  have HNX := Lib.hid hnx; have HNY := Lib.hid hny
  clear hnx hny
  have HCI := Lib.hid RCompare_any
  go_enter Try.func16, Try.ntmps16
  go_wp2_with fail
  go_loopg [5] nx (fun gk vi wr => ∃ k : Nat, vi = .int .i64 k ∧ k + gk = nx ∧ k ≤ ny ∧ Hid (KeyAt xs ys k) ∧ Hid (Drawn w wr))
  case atStart => exact ⟨0, rfl, by omega, by omega, (show KeyAt xs ys 0 from rfl), Drawn.refl w⟩
  case round =>
    obtain ⟨k, rfl, hkg, hky, HK, HD⟩ := hrel
    have HX0 : Hid (Ints wr a xs) := HA.out.stay HD.out.grown.upd
    have HY0 : Hid (Ints wr b ys) := HB.out.stay HD.out.grown.upd
    clear HA HB
    by_cases hlt : k < nx
    · have hltz : (k : Int) < (nx : Int) := by omega
      have hk1 : k < xs.length := by have := HNX.out; omega
      obtain ⟨b1, o1, rfl, c1⟩ := HX0.out k hk1
      by_cases hlt2 : k < ny
      · have hltz2 : (k : Int) < (ny : Int) := by omega
        have hk2 : k < ys.length := by have := HNY.out; omega
        obtain ⟨b2, o2, rfl, c2⟩ := HY0.out k hk2
        obtain ⟨x, hx1⟩ : ∃ x, x = xs[k] := ⟨_, rfl⟩
        obtain ⟨y, hy1⟩ : ∃ y, y = ys[k] := ⟨_, rfl⟩
        rw [← hx1] at c1
        rw [← hy1] at c2
        have HX := Lib.hid hx1; have HY := Lib.hid hy1
        clear hx1 hy1
        by_cases hxy : x = y
        · subst hxy
          go_wp2_with fail
          go_quiet (fail)
          go_wp2_with fail
          go_roundg (gk - 1)
          case measure => omega
          case rel => exact ⟨k + 1, by go_num, by omega, by omega, HK.out.step hk1 hk2 (by rw [← HX.out, ← HY.out]), HD.out.drewN _⟩
        · have hz : (x == y) = false := by rw [beq_eq_false_iff_ne]; exact hxy
          have HRR : Hid (r = cmpI x y) := by
            show r = cmpI x y
            rw [HR.out, HK.out.part hk1 hk2 (by rw [← HX.out, ← HY.out]; exact hxy), ← HX.out, ← HY.out]
          have HC2 := Lib.hid (HCI.out x y)
          generalize cmpI x y = q at HRR HC2
          go_wp2_with fail
          go_quiet (fail)
          have c1' : (wr.drewN nq).cell? ⟨b1, o1 + k, none⟩ = some (.int .i64 x) := c1
          have c2' : (wr.drewN nq).cell? ⟨b2, o2 + k, none⟩ = some (.int .i64 y) := c2
          have HD2 : Hid (Drawn w (wr.drewN nq)) := HD.out.drewN _
          clear c1 c2
          generalize wr.drewN nq = w2 at c1' c2' HD2 ⊢
          go_wp2_with fail
          go_quiet ((go_at_call 23; exact Calls.quiet_of_same ((HC2.out _).mono (fun _ _ h => ⟨h.1, h.2.symm⟩))))
          go_wp2_with fail
          go_ret
          exact ⟨ret_int HRR.out.symm, HD2.out.drewN _⟩
      · have hltz2 : ¬ (k : Int) < (ny : Int) := by omega
        have HRR : Hid (r = cmpI (nx : Int) (ny : Int)) := by
          have h1 := HNX.out; have h2 := HNY.out
          show r = _
          rw [HR.out, cmpI_len HK.out (.inr (by omega)) (by omega) (by omega), h1, h2]
        clear c1
        go_wp2_with fail
        refine (HCI.out _ _ _).mono ?_
        rintro e w' ⟨rfl, rfl⟩
        go_wp2_with fail
        go_ret
        exact ⟨ret_int HRR.out.symm, HD.out⟩
    · have hltz : ¬ (k : Int) < (nx : Int) := by omega
      have HRR : Hid (r = cmpI (nx : Int) (ny : Int)) := by
        have h1 := HNX.out; have h2 := HNY.out
        show r = _
        rw [HR.out, cmpI_len HK.out (.inl (by omega)) (by omega) (by omega), h1, h2]
      go_wp2_with fail
      refine (HCI.out _ _ _).mono ?_
      rintro e w' ⟨rfl, rfl⟩
      go_wp2_with fail
      go_ret
      exact ⟨ret_int HRR.out.symm, HD.out⟩

set_option maxHeartbeats 400000 in
theorem SameKey_any (a b : Option Addr) (ca cb : Nat) (xs ys : List Int) (w : World) (ha : Ints w a xs) (hb : Ints w b ys) (hx : xs.length ≤ 1000000) (hy : ys.length ≤ 1000000) :
    Calls Try.prog 17 #[.slice a xs.length ca, .slice b ys.length cb] w fun e w' => e = .returned (.bool (decide (xs = ys))) ∧ Drawn w w' := by
  have hc := RCompareKeys_any a b ca cb xs ys w ha hb hx hy
  have HC := Lib.hid hc
  have hd : decide (xs = ys) = (cmpK xs ys == 0) := by
    by_cases h : xs = ys
    · rw [cmpK_zero.2 h, decide_eq_true h]; rfl
    · rw [decide_eq_false h, eq_comm, beq_eq_false_iff_ne]; exact fun k => h (cmpK_zero.1 k)
  rw [hd]
  clear hc ha hb hd
  generalize cmpK xs ys = q at *
  go_enter Try.func17, Try.ntmps17
  go_wp2_with fail
  refine HC.out.mono ?_
  rintro e w' ⟨rfl, hu⟩
  go_wp2_with fail
  go_ret
  exact ⟨rfl, hu⟩

set_option maxHeartbeats 2000000 in
theorem RCompareItems_any (i j : It) (w : World) :
    Calls Try.prog 14 #[encIt i, encIt j] w fun e w' => e = .returned (.int .i64 (cmpIt i j)) ∧ Grown w w' := by
  obtain ⟨t1, s1, q1⟩ := i
  obtain ⟨t2, s2, q2⟩ := j
  unfold encIt
  simp only
  by_cases h : t1 = t2
  · subst h
    have hz : cmpIt ⟨t1, s1, q1⟩ ⟨t1, s2, q2⟩ = cmpI s1 s2 := by simp [cmpIt, lex, cmpI_self]
    rw [hz]
    go_enter Try.func14, Try.ntmps14
    go_wp2_with fail
    refine (RCompare_any _ _ _).mono ?_
    rintro e w' ⟨rfl, rfl⟩
    go_wp2_with fail
    go_ret
    exact ⟨rfl, ((Grown.refl w).alloc _).alloc _⟩
  · have hz : cmpIt ⟨t1, s1, q1⟩ ⟨t2, s2, q2⟩ = cmpI t1 t2 := by
      simp only [cmpIt, lex]; rw [if_neg (fun k => h (cmpI_zero.1 k))]
    rw [hz]
    have hn : (t1 == t2) = false := by rw [beq_eq_false_iff_ne]; exact h
    go_enter Try.func14, Try.ntmps14
    go_wp2_with fail
    refine (RCompare_any _ _ _).mono ?_
    rintro e w' ⟨rfl, rfl⟩
    go_wp2_with fail
    go_ret
    exact ⟨rfl, ((Grown.refl w).alloc _).alloc _⟩

set_option maxHeartbeats 2000000 in
theorem RCompareEvents_any (r s : EvR) (w : World) (hr : Ints w r.ka r.ev.key) (hs : Ints w s.ka s.ev.key) (hrl : r.ev.key.length ≤ 1000000) (hsl : s.ev.key.length ≤ 1000000) :
    Calls Try.prog 12 #[.agg (encR r).toArray, .agg (encR s).toArray] w fun e w' => e = .returned (.int .i64 (cmpE r.ev s.ev)) ∧ Grown w w' := by
  obtain ⟨⟨t1, k1, l1, d1, p1, g1⟩, a1, c1⟩ := r
  obtain ⟨⟨t2, k2, l2, d2, p2, g2⟩, a2, c2⟩ := s
  unfold encR
  simp only at hr hs hrl hsl ⊢
  have h2 := fun W (hu : Upd [] w W) => RCompareKeys_any a1 a2 c1 c2 k1 k2 W (hr.stay hu) (hs.stay hu) hrl hsl
  have H2 := Lib.hid h2
  clear hr hs hrl hsl h2
  by_cases h : t1 = t2
  · subst h
    have hz : cmpE ⟨t1, k1, l1, d1, p1, g1⟩ ⟨t1, k2, l2, d2, p2, g2⟩ = cmpK k1 k2 := by simp [cmpE, lex, cmpI_self]
    rw [hz]
    generalize cmpK k1 k2 = ck at *
    generalize k1.length = n1 at *
    generalize k2.length = n2 at *
    go_enter Try.func12, Try.ntmps12
    go_wp2_with fail
    refine (H2.out _ (((Upd.refl [] w).alloc _).alloc _)).mono ?_
    rintro e w' ⟨rfl, hd⟩
    go_wp2_with fail
    go_ret
    exact ⟨rfl, (((Grown.refl w).alloc _).alloc _).trans hd.grown⟩
  · have hz : cmpE ⟨t1, k1, l1, d1, p1, g1⟩ ⟨t2, k2, l2, d2, p2, g2⟩ = cmpI t1 t2 := by
      simp only [cmpE, lex]; rw [if_neg (fun k => h (cmpI_zero.1 k))]
    rw [hz]
    have hn : (t1 == t2) = false := by rw [beq_eq_false_iff_ne]; exact h
    clear H2
    generalize k1.length = n1 at *
    generalize k2.length = n2 at *
    go_enter Try.func12, Try.ntmps12
    go_wp2_with fail
    refine (RCompare_any _ _ _).mono ?_
    rintro e w' ⟨rfl, rfl⟩
    go_wp2_with fail
    go_ret
    exact ⟨rfl, ((Grown.refl w).alloc _).alloc _⟩
end Go.Proofs.Ytdkkgajamogmeaa
