/- Op and do of the laws of layer 1. -/
import Derived.Test.YtbalfkdeemgclaaW
namespace Go.Proofs.Ytbalfkdeemgclaa
open Go.RowKit

/-- One operation as the laws have it. -/
structure Oq where
  (k t i a b : Int)
def Oq.val (o : Oq) : Value := .agg #[.int .i64 o.k, .int .i64 o.t, .int .i64 o.i, .int .i64 o.a, .int .i64 o.b]

set_option maxHeartbeats 400000 in
theorem Op_any (k t i a b : Int) (hk : 0 ≤ k ∧ k < 256) (ht : 0 ≤ t ∧ t < 256) (hi : 0 ≤ i ∧ i < 256) (w : World) :
    Calls Try.prog 12 #[.agg #[.int .u8 k, .int .u8 t, .int .u8 i, .int .i64 a, .int .i64 b]] w fun e w' =>
      e = .returned (.agg #[.int .i64 (k % 7 + 1), .int .i64 (t % 4), .int .i64 (i % 6 - 1), .int .i64 a, .int .i64 b]) ∧ Upd [] w w' := by
  obtain ⟨hk0, hk1⟩ := hk
  obtain ⟨ht0, ht1⟩ := ht
  obtain ⟨hi0, hi1⟩ := hi
  go_enter Try.func12, Try.ntmps12
  go_wp2
  exact bodyPost_ret (v := .agg #[.int .i64 (k % 7 + 1), .int .i64 (t % 4), .int .i64 (i % 6 - 1), .int .i64 a, .int .i64 b]) (by simp [results, Try.results12, go_sem]) rfl ⟨rfl, ((Upd.refl _ _).alloc _).alloc _⟩

def St.x (s : St) (i : Int) : Int := s.ws.getD i.toNat 0
def St.m (s : St) (i : Int) : Bool × Int := s.ms.getD i.toNat (false, 0)
/-- What an operation does and returns. -/
def St.step (s : St) (o : Oq) : St × Int × Bool :=
  if o.k ≤ 4 then
    if 0 ≤ o.i ∧ o.i < s.ws.length then
      if o.k = 1 then ({ s with log := s.log ++ [⟨o.t, 1, o.i, s.x o.i, s.x o.i, true⟩] }, s.x o.i, false)
      else if o.k = 2 then ({ s with ws := s.ws.set o.i.toNat (wrap64 (s.x o.i + o.a)), log := s.log ++ [⟨o.t, 2, o.i, s.x o.i, wrap64 (s.x o.i + o.a), true⟩] }, wrap64 (s.x o.i + o.a), false)
      else if o.k = 3 then
        if s.x o.i = o.a then ({ s with ws := s.ws.set o.i.toNat o.b, log := s.log ++ [⟨o.t, 3, o.i, s.x o.i, o.b, true⟩] }, 0, true)
        else ({ s with log := s.log ++ [⟨o.t, 3, o.i, s.x o.i, s.x o.i, false⟩] }, 0, false)
      else ({ s with ws := s.ws.set o.i.toNat o.a, log := s.log ++ [⟨o.t, 4, o.i, s.x o.i, o.a, true⟩] }, 0, false)
    else (s, 0, false)
  else if 0 ≤ o.i ∧ o.i < s.ms.length then
    if o.k = 5 then
      if (s.m o.i).1 then ({ s with log := s.log ++ [⟨o.t, 5, o.i, 1, 1, false⟩] }, 0, false)
      else ({ s with ms := s.ms.set o.i.toNat (true, o.t), log := s.log ++ [⟨o.t, 5, o.i, 0, 1, true⟩] }, 0, true)
    else if o.k = 6 then
      if s.m o.i = (true, o.t) then ({ s with ms := s.ms.set o.i.toNat (false, 0), log := s.log ++ [⟨o.t, 6, o.i, 1, 0, true⟩] }, 0, true)
      else ({ s with v := s.v + 1, log := s.log ++ [⟨o.t, 6, o.i, b2i (s.m o.i).1, b2i (s.m o.i).1, false⟩] }, 0, false)
    else if s.m o.i = (true, o.t) then (s, 0, true) else ({ s with v := s.v + 1 }, 0, false)
  else if o.k ≤ 6 then (s, 0, false) else ({ s with v := s.v + 1 }, 0, false)

theorem held_false {m : Bool × Int} {t : Int} (h : ¬ m = (true, t)) : (m.1 && (m.2 == t)) = false := by
  obtain ⟨b, u⟩ := m
  cases b
  · rfl
  · simpa using h

section
variable {F : List Nat} {p bw bm : Nat} {s : St} {w : World}
theorem x_at {k : Nat} (h : k < s.ws.length) : s.x k = s.ws[k] := by simp [St.x, h]
theorem m_at {k : Nat} (h : k < s.ms.length) : s.m k = s.ms[k] := by simp [St.m, h]

theorem Load_step (h : Mem F p bw bm s w) (hs : s.Small) (t i a b : Int) :
    Calls Try.prog 26 #[.pointer (some ⟨p, 0, none⟩), .int .i64 t, .int .i64 i] w fun e w' =>
      e = .returned (.int .i64 (s.step ⟨1, t, i, a, b⟩).2.1) ∧ ∃ F', Mem F' p bw bm (s.step ⟨1, t, i, a, b⟩).1 w' ∧ Goes F F' w w' := by
  by_cases hi : 0 ≤ i ∧ i < s.ws.length
  · obtain ⟨k, rfl⟩ := Int.eq_ofNat_of_zero_le hi.1
    have hk : k < s.ws.length := by omega
    simp only [St.step, hi, and_self, if_true, x_at hk, show (1 : Int) ≤ 4 from by decide]
    exact Load_in h hs t k hk
  · simp only [St.step, if_neg hi, if_true, show (1 : Int) ≤ 4 from by decide]
    exact (Load_out h hs t i (by omega)).mono fun e w' ⟨he, hw⟩ => ⟨he, F, hw ▸ h, hw ▸ Goes.refl _ _⟩
theorem Add_step (h : Mem F p bw bm s w) (hs : s.Small) (t i a b : Int) :
    Calls Try.prog 21 #[.pointer (some ⟨p, 0, none⟩), .int .i64 t, .int .i64 i, .int .i64 a] w fun e w' =>
      e = .returned (.int .i64 (s.step ⟨2, t, i, a, b⟩).2.1) ∧ ∃ F', Mem F' p bw bm (s.step ⟨2, t, i, a, b⟩).1 w' ∧ Goes F F' w w' := by
  by_cases hi : 0 ≤ i ∧ i < s.ws.length
  · obtain ⟨k, rfl⟩ := Int.eq_ofNat_of_zero_le hi.1
    have hk : k < s.ws.length := by omega
    simp only [St.step, hi, and_self, if_true, x_at hk, show (2 : Int) ≤ 4 from by decide, show ¬ (2 : Int) = 1 from by decide, if_false]
    exact Add_in h hs t k a hk
  · simp only [St.step, if_neg hi, if_true, show (2 : Int) ≤ 4 from by decide]
    exact (Add_out h hs t i a (by omega)).mono fun e w' ⟨he, hw⟩ => ⟨he, F, hw ▸ h, hw ▸ Goes.refl _ _⟩
theorem CAS_step (h : Mem F p bw bm s w) (hs : s.Small) (t i a b : Int) :
    Calls Try.prog 22 #[.pointer (some ⟨p, 0, none⟩), .int .i64 t, .int .i64 i, .int .i64 a, .int .i64 b] w fun e w' =>
      e = .returned (.bool (s.step ⟨3, t, i, a, b⟩).2.2) ∧ ∃ F', Mem F' p bw bm (s.step ⟨3, t, i, a, b⟩).1 w' ∧ Goes F F' w w' := by
  by_cases hi : 0 ≤ i ∧ i < s.ws.length
  · obtain ⟨k, rfl⟩ := Int.eq_ofNat_of_zero_le hi.1
    have hk : k < s.ws.length := by omega
    simp only [St.step, hi, and_self, if_true, x_at hk, show (3 : Int) ≤ 4 from by decide, show ¬ (3 : Int) = 1 from by decide, show ¬ (3 : Int) = 2 from by decide, if_false]
    by_cases hx : s.ws[k] = a
    · simp only [hx, if_true]
      have := CAS_yes h hs t k a b hk hx
      rw [hx] at this
      exact this
    · simp only [if_neg hx]
      exact CAS_no h hs t k a b hk (by simpa using hx)
  · simp only [St.step, if_neg hi, if_true, show (3 : Int) ≤ 4 from by decide]
    exact (CAS_out h hs t i a b (by omega)).mono fun e w' ⟨he, hw⟩ => ⟨he, F, hw ▸ h, hw ▸ Goes.refl _ _⟩
theorem Store_step (h : Mem F p bw bm s w) (hs : s.Small) (t i a b : Int) :
    Calls Try.prog 24 #[.pointer (some ⟨p, 0, none⟩), .int .i64 t, .int .i64 i, .int .i64 a] w fun e w' =>
      e = .returned (.tuple #[]) ∧ ∃ F', Mem F' p bw bm (s.step ⟨4, t, i, a, b⟩).1 w' ∧ Goes F F' w w' := by
  by_cases hi : 0 ≤ i ∧ i < s.ws.length
  · obtain ⟨k, rfl⟩ := Int.eq_ofNat_of_zero_le hi.1
    have hk : k < s.ws.length := by omega
    simp only [St.step, hi, and_self, if_true, x_at hk, show (4 : Int) ≤ 4 from by decide, show ¬ (4 : Int) = 1 from by decide, show ¬ (4 : Int) = 2 from by decide, show ¬ (4 : Int) = 3 from by decide, if_false]
    exact Store_in h hs t k a hk
  · simp only [St.step, if_neg hi, if_true, show (4 : Int) ≤ 4 from by decide]
    exact (Store_out h hs t i a (by omega)).mono fun e w' ⟨he, hw⟩ => ⟨he, F, hw ▸ h, hw ▸ Goes.refl _ _⟩
theorem TryLock_step (h : Mem F p bw bm s w) (hs : s.Small) (t i a b : Int) :
    Calls Try.prog 20 #[.pointer (some ⟨p, 0, none⟩), .int .i64 t, .int .i64 i] w fun e w' =>
      e = .returned (.bool (s.step ⟨5, t, i, a, b⟩).2.2) ∧ ∃ F', Mem F' p bw bm (s.step ⟨5, t, i, a, b⟩).1 w' ∧ Goes F F' w w' := by
  by_cases hi : 0 ≤ i ∧ i < s.ms.length
  · obtain ⟨k, rfl⟩ := Int.eq_ofNat_of_zero_le hi.1
    have hk : k < s.ms.length := by omega
    simp only [St.step, hi, and_self, if_true, m_at hk, show ¬ (5 : Int) ≤ 4 from by decide, if_false]
    by_cases hx : s.ms[k].1 = true
    · simp only [hx, if_true]
      exact TryLock_no h hs t k hk hx
    · simp only [if_neg hx]
      exact TryLock_yes h hs t k hk (by simpa using hx)
  · simp only [St.step, if_neg hi, if_true, show ¬ (5 : Int) ≤ 4 from by decide, if_false, show (5 : Int) ≤ 6 from by decide]
    exact (TryLock_out h hs t i (by omega)).mono fun e w' ⟨he, hw⟩ => ⟨he, F, h.stay hw, hw.mono (by simp), fun _ hx => .inl hx⟩
theorem Unlock_step (h : Mem F p bw bm s w) (hs : s.Small) (t i a b : Int) :
    Calls Try.prog 23 #[.pointer (some ⟨p, 0, none⟩), .int .i64 t, .int .i64 i] w fun e w' =>
      e = .returned (.bool (s.step ⟨6, t, i, a, b⟩).2.2) ∧ ∃ F', Mem F' p bw bm (s.step ⟨6, t, i, a, b⟩).1 w' ∧ Goes F F' w w' := by
  by_cases hi : 0 ≤ i ∧ i < s.ms.length
  · obtain ⟨k, rfl⟩ := Int.eq_ofNat_of_zero_le hi.1
    have hk : k < s.ms.length := by omega
    simp only [St.step, hi, and_self, if_true, m_at hk, show ¬ (6 : Int) ≤ 4 from by decide, show ¬ (6 : Int) = 5 from by decide, if_false]
    by_cases hx : s.ms[k] = (true, t)
    · simp only [hx, if_true]
      exact Unlock_yes h hs t k hk hx
    · simp only [if_neg hx]
      exact Unlock_no h hs t k hk (held_false hx)
  · simp only [St.step, if_neg hi, if_true, show ¬ (6 : Int) ≤ 4 from by decide, if_false, show (6 : Int) ≤ 6 from by decide]
    exact (Unlock_out h hs t i (by omega)).mono fun e w' ⟨he, hw⟩ => ⟨he, F, h.stay hw, hw.mono (by simp), fun _ hx => .inl hx⟩
theorem Touch_step (h : Mem F p bw bm s w) (hs : s.Small) (t i a b : Int) :
    Calls Try.prog 25 #[.pointer (some ⟨p, 0, none⟩), .int .i64 t, .int .i64 i] w fun e w' =>
      e = .returned (.bool (s.step ⟨7, t, i, a, b⟩).2.2) ∧ ∃ F', Mem F' p bw bm (s.step ⟨7, t, i, a, b⟩).1 w' ∧ Goes F F' w w' := by
  by_cases hi : 0 ≤ i ∧ i < s.ms.length
  · obtain ⟨k, rfl⟩ := Int.eq_ofNat_of_zero_le hi.1
    have hk : k < s.ms.length := by omega
    simp only [St.step, hi, and_self, if_true, m_at hk, show ¬ (7 : Int) ≤ 4 from by decide, show ¬ (7 : Int) = 5 from by decide, show ¬ (7 : Int) = 6 from by decide, if_false]
    by_cases hx : s.ms[k] = (true, t)
    · simp only [hx, if_true]
      exact (Touch_yes h hs t k hk hx).mono fun e w' ⟨he, hw⟩ => ⟨he, F, h.stay hw, hw.mono (by simp), fun _ hx => .inl hx⟩
    · simp only [if_neg hx]
      exact (Touch_no h hs t k hk (held_false hx)).mono fun e w' ⟨he, hm, hw⟩ => ⟨he, F, hm, hw, fun _ hx => .inl hx⟩
  · simp only [St.step, if_neg hi, show ¬ (7 : Int) ≤ 4 from by decide, if_false, show ¬ (7 : Int) ≤ 6 from by decide]
    exact (Touch_out h hs t i (by omega)).mono fun e w' ⟨he, hm, hw⟩ => ⟨he, F, hm, hw, fun _ hx => .inl hx⟩

/-- The integer of every operation but the first two is 0, the bool of the first, second and fourth is false. -/
theorem step_int (o : Oq) (h : o.k ≠ 1) (h2 : o.k ≠ 2) : (s.step o).2.1 = 0 := by
  unfold St.step
  repeat' split
  all_goals first | rfl | contradiction
theorem step_bool (o : Oq) (h : o.k = 1 ∨ o.k = 2 ∨ o.k = 4) : (s.step o).2.2 = false := by
  unfold St.step
  repeat' split
  all_goals first | rfl | omega

set_option maxHeartbeats 1000000 in
theorem do_any (h : Mem F p bw bm s w) (hs : s.Small) (k t i a b : Int) (hk : 1 ≤ k ∧ k ≤ 7) :
    Calls Try.prog 13 #[.pointer (some ⟨p, 0, none⟩), .agg #[.int .i64 k, .int .i64 t, .int .i64 i, .int .i64 a, .int .i64 b]] w fun e w' =>
      e = .returned (.tuple #[.int .i64 (s.step ⟨k, t, i, a, b⟩).2.1, .bool (s.step ⟨k, t, i, a, b⟩).2.2]) ∧ ∃ F', Mem F' p bw bm (s.step ⟨k, t, i, a, b⟩).1 w' ∧ Goes F F' w w' := by
  have lp := h.lt p (by obtain ⟨vl, rfl, _⟩ := h; simp)
  have hU := (Upd.refl [] w).alloc (.cells #[.int .i64 k, .int .i64 t, .int .i64 i, .int .i64 a, .int .i64 b] 29)
  have H := Lib.hid (h.stay hU)
  clear h
  have HU := Lib.hid hU
  clear hU
  rcases (show k = 1 ∨ k = 2 ∨ k = 3 ∨ k = 4 ∨ k = 5 ∨ k = 6 ∨ k = 7 from by omega) with rfl | rfl | rfl | rfl | rfl | rfl | rfl
  · have hb := Lib.hid (step_bool (s := s) ⟨1, t, i, a, b⟩ (by simp))
    go_enter Try.func13, Try.ntmps13
    go_wp2_with fail
    refine (Load_step H.out hs t i a b).mono ?_
    rintro e w' ⟨rfl, F', hM, hG⟩
    have HM := Lib.hid hM; clear hM
    go_wp2_with fail
    go_ret2
    exact ⟨by rw [hb.out]; rfl, F', HM.out, Goes.after HU.out hG⟩
  · have hb := Lib.hid (step_bool (s := s) ⟨2, t, i, a, b⟩ (by simp))
    go_enter Try.func13, Try.ntmps13
    go_wp2_with fail
    refine (Add_step H.out hs t i a b).mono ?_
    rintro e w' ⟨rfl, F', hM, hG⟩
    have HM := Lib.hid hM; clear hM
    go_wp2_with fail
    go_ret2
    exact ⟨by rw [hb.out]; rfl, F', HM.out, Goes.after HU.out hG⟩
  · have hb := Lib.hid (step_int (s := s) ⟨3, t, i, a, b⟩ (by simp) (by simp))
    go_enter Try.func13, Try.ntmps13
    go_wp2_with fail
    refine (CAS_step H.out hs t i a b).mono ?_
    rintro e w' ⟨rfl, F', hM, hG⟩
    have HM := Lib.hid hM; clear hM
    go_wp2_with fail
    go_ret2
    exact ⟨by rw [hb.out]; rfl, F', HM.out, Goes.after HU.out hG⟩
  · have hb := Lib.hid (step_int (s := s) ⟨4, t, i, a, b⟩ (by simp) (by simp))
    have hc := Lib.hid (step_bool (s := s) ⟨4, t, i, a, b⟩ (by simp))
    go_enter Try.func13, Try.ntmps13
    go_wp2_with fail
    refine (Store_step H.out hs t i a b).mono ?_
    rintro e w' ⟨rfl, F', hM, hG⟩
    have HM := Lib.hid hM; clear hM
    go_wp2_with fail
    go_ret2
    exact ⟨by rw [hb.out, hc.out]; rfl, F', HM.out, Goes.after HU.out hG⟩
  · have hb := Lib.hid (step_int (s := s) ⟨5, t, i, a, b⟩ (by simp) (by simp))
    go_enter Try.func13, Try.ntmps13
    go_wp2_with fail
    refine (TryLock_step H.out hs t i a b).mono ?_
    rintro e w' ⟨rfl, F', hM, hG⟩
    have HM := Lib.hid hM; clear hM
    go_wp2_with fail
    go_ret2
    exact ⟨by rw [hb.out]; rfl, F', HM.out, Goes.after HU.out hG⟩
  · have hb := Lib.hid (step_int (s := s) ⟨6, t, i, a, b⟩ (by simp) (by simp))
    go_enter Try.func13, Try.ntmps13
    go_wp2_with fail
    refine (Unlock_step H.out hs t i a b).mono ?_
    rintro e w' ⟨rfl, F', hM, hG⟩
    have HM := Lib.hid hM; clear hM
    go_wp2_with fail
    go_ret2
    exact ⟨by rw [hb.out]; rfl, F', HM.out, Goes.after HU.out hG⟩
  · have hb := Lib.hid (step_int (s := s) ⟨7, t, i, a, b⟩ (by simp) (by simp))
    go_enter Try.func13, Try.ntmps13
    go_wp2_with fail
    refine (Touch_step H.out hs t i a b).mono ?_
    rintro e w' ⟨rfl, F', hM, hG⟩
    have HM := Lib.hid hM; clear hM
    go_wp2_with fail
    go_ret2
    exact ⟨by rw [hb.out]; rfl, F', HM.out, Goes.after HU.out hG⟩
end
end Go.Proofs.Ytbalfkdeemgclaa
