/- The reference memory's mutex: Touch, and an index that is none; Do in one contract. -/
import Derived.Test.YtbalfkdeemgclaaRC
namespace Go.Proofs.Ytbalfkdeemgclaa
open Go.RowKit
section
variable {F : List Nat} {p bw : Nat} {s : St} {w : World}

set_option maxRecDepth 100000 in
set_option maxHeartbeats 2000000 in
theorem Mu_out (h : RMem F p bw s w) (hs : s.Small) (kd t i a b : Int) (hkd : 5 ≤ kd ∧ kd ≤ 7) (hi : i < 0 ∨ (s.ms.length : Int) ≤ i) :
    Calls Try.prog 30 #[.pointer (some ⟨p, 0, none⟩), .agg #[.int .i64 kd, .int .i64 t, .int .i64 i, .int .i64 a, .int .i64 b]] w fun e w' =>
      e = .returned (.bool false) ∧ RMem F p bw { s with v := if kd = 7 then s.v + 1 else s.v } w' ∧ Upd F w w' := by
  have lp := h.lt p h.p_mem.1
  have hpF := h.p_mem.1
  have hms := hs.ms
  have hv0 := hs.v0
  have hv1 := hs.v1
  obtain ⟨ma, mc, c1⟩ := h.mlen
  obtain ⟨c0, c3⟩ := h.cells
  have f3 := (h.free 3).1
  have H := Lib.hid h; clear h
  have hi' : decide (0 ≤ i) = false ∨ (decide (0 ≤ i) = true ∧ decide (i < (s.ms.length : Int)) = false) := by simp; omega
  clear hi
  have hk' : kd = 7 ∨ (decide (6 < kd) = false ∧ kd ≤ 6) := by simp; omega
  obtain ⟨hk5, hk7⟩ := hkd
  rcases hk' with rfl | ⟨hk6, hk8⟩
  · rcases hi' with g0 | ⟨g0, g1⟩
    all_goals
      go_enter Try.func30, Try.ntmps30
      go_wp2_with fail
      go_quiet (fail)
      go_wp2_with fail
      go_quiet (fail)
      go_wp2_with fail
      go_ret
      exact ⟨rfl, (H.out.stay (((Upd.refl [] w).alloc _).drewN _)).setV _, (((Upd.refl F w).alloc _).drewN _).setCell (fun _ => hpF) _⟩
  · rcases hi' with g0 | ⟨g0, g1⟩
    all_goals
      go_enter Try.func30, Try.ntmps30
      go_wp2_with fail
      go_quiet (fail)
      go_wp2_with fail
      go_ret
      exact ⟨rfl, H.out.stay (((Upd.refl [] w).alloc _).drewN _), ((Upd.refl _ _).alloc _).drewN _⟩

set_option maxRecDepth 100000 in
set_option maxHeartbeats 2000000 in
theorem Mu7_in (h : RMem F p bw s w) (hs : s.Small) (t : Int) (j : Nat) (a b : Int) (hj : j < s.ms.length) (m : Bool × Int) (hm : s.ms[j] = m) (hheld : m.1 = true → 0 ≤ m.2) :
    Calls Try.prog 30 #[.pointer (some ⟨p, 0, none⟩), .agg #[.int .i64 7, .int .i64 t, .int .i64 j, .int .i64 a, .int .i64 b]] w fun e w' =>
      e = .returned (.bool (decide (m = (true, t)))) ∧ RMem F p bw { s with v := if m = (true, t) then s.v else s.v + 1 } w' ∧ Upd F w w' := by
  have lp := h.lt p h.p_mem.1
  have hpF := h.p_mem.1
  have hms := hs.ms
  have hv0 := hs.v0
  have hv1 := hs.v1
  obtain ⟨mg, mc, c1, c2, _, _, _⟩ := h.held hj
  have lg : mg < w.heap.size := World.block_lt_of_cell? w _ c2
  obtain ⟨c0, c3⟩ := h.cells
  have f3 := (h.free 3).1
  rw [hm] at c2
  have H := Lib.hid h; clear h
  have HB : Hid (∀ (wx : World), RMem F p bw s wx → ∀ n, Calls Try.prog 37 #[.pointer (some ⟨p, 0, none⟩), .int .i64 j] (wx.drewN n) fun e w' => e = .returned (.bool m.1) ∧ w' = wx.drewN n) := fun wx hx n =>
    (Held_any (hx.stay ((Upd.refl [] wx).drewN n)) j hj hms).mono fun e w' ⟨he, hw⟩ => ⟨by rw [he, hm, hold_ne hheld], hw.symm⟩
  have HM0 := Lib.hid hm
  have HH := Lib.hid hheld; clear hheld hm
  have hO := heap_alloc1 w (.cells #[.int .i64 7, .int .i64 t, .int .i64 j, .int .i64 a, .int .i64 b] 29)
  have HO := Lib.hid hO; clear hO
  have g0 : decide (0 ≤ (j : Int)) = true := by simp
  have g1 : decide (j < s.ms.length) = true := by simpa using hj
  go_enter Try.func30, Try.ntmps30
  go_wp2_with fail
  go_quiet (fail)
  go_wp2_with fail
  refine wp_at (fun wx => Boxed F p bw s 7 t j a b w wx) ⟨H.out.stay (((Upd.refl [] w).alloc _).drewN _), HO.out, ((Upd.refl F w).alloc _).drewN _⟩ ?_
  rintro wd ⟨hM, hbox, hU⟩
  clear c0 c1 c2 c3 f3 lg
  obtain ⟨mg, mc, c1, c2, _, _, _⟩ := hM.held hj
  rw [HM0.out] at c2
  obtain ⟨c0, c3⟩ := hM.cells
  have f3 := (hM.free 3).1
  have d1 := cell_block hbox 1
  have d2 := cell_block hbox 2
  simp only [List.getElem?_toArray, List.getElem?_cons_zero, List.getElem?_cons_succ] at d1 d2
  have HMc := Lib.hid hM; have HUc := Lib.hid hU; clear hM hU hbox
  obtain ⟨b1, u⟩ := m
  cases b1
  · go_quiet ((go_at_call 37; exact Calls.quiet_of_same (HB.out _ HMc.out _)))
    go_wp2_with fail
    go_ret
    exact ⟨by simp, by simpa using (HMc.out.stay ((Upd.refl [] wd).drewN _)).setV (s.v + 1), (HUc.out.drewN _).setCell (fun _ => hpF) _⟩
  · have e2 : hold (true, u) = u := rfl
    rw [e2] at c2
    clear e2
    by_cases hut : u = t
    · subst hut
      go_quiet ((go_at_call 37; exact Calls.quiet_of_same (HB.out _ HMc.out _)))
      go_wp2_with fail
      go_ret
      exact ⟨by simp, by simpa using HMc.out.stay ((Upd.refl [] wd).drewN _), HUc.out.drewN _⟩
    · have hut' : (u == t) = false := by simpa using hut
      go_quiet ((go_at_call 37; exact Calls.quiet_of_same (HB.out _ HMc.out _)))
      go_wp2_with fail
      go_ret
      exact ⟨by simp, by simpa [hut] using (HMc.out.stay ((Upd.refl [] wd).drewN _)).setV (s.v + 1), (HUc.out.drewN _).setCell (fun _ => hpF) _⟩

set_option maxHeartbeats 2000000 in
theorem Do_mutex (sx : St) (h : RMem F p bw s w) (k t i a b : Int) (hk : 5 ≤ k) (ok : Bool)
    (hc : ∀ w1, RMem F p bw s w1 → Calls Try.prog 30 #[.pointer (some ⟨p, 0, none⟩), .agg #[.int .i64 k, .int .i64 t, .int .i64 i, .int .i64 a, .int .i64 b]] w1 fun e w' => e = .returned (.bool ok) ∧ ∃ F', RMem F' p bw sx w' ∧ Goes F F' w1 w') :
    Calls Try.prog 14 #[.pointer (some ⟨p, 0, none⟩), .agg #[.int .i64 k, .int .i64 t, .int .i64 i, .int .i64 a, .int .i64 b]] w fun e w' =>
      e = .returned (.tuple #[.int .i64 0, .bool ok]) ∧ ∃ F', RMem F' p bw sx w' ∧ Goes F F' w w' := by
  have lp := h.lt p h.p_mem.1
  have H := Lib.hid h; have HC := Lib.hid hc; clear h hc
  go_enter Try.func14, Try.ntmps14
  go_wp2_with fail
  have hU := (Upd.refl [] w).alloc (.cells #[.int .i64 k, .int .i64 t, .int .i64 i, .int .i64 a, .int .i64 b] 29)
  refine (HC.out _ (H.out.stay hU)).mono ?_
  rintro e w' ⟨rfl, F', hM, hG⟩
  have HM := Lib.hid hM; clear hM
  go_wp2_with fail
  go_ret2
  exact ⟨rfl, F', HM.out, Goes.after hU hG⟩
end
end Go.Proofs.Ytbalfkdeemgclaa
