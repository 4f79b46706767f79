/- Contracts of the public mutex methods of package shmem. -/
import Derived.Test.YtbalfkdeemgclaaP
namespace Go.Proofs.Ytbalfkdeemgclaa
open Go.RowKit
section
variable {F : List Nat} {p bw bm : Nat} {s : St} {w : World}

set_option maxHeartbeats 400000 in
theorem TryLock_out (h : Mem F p bw bm s w) (hs : s.Small) (t : Int) (k : Int) (hk : k < 0 ∨ (s.ms.length : Int) ≤ k) :
    Calls Try.prog 20 #[.pointer (some ⟨p, 0, none⟩), .int .i64 t, .int .i64 k] w fun e w' => e = .returned (.bool false) ∧ Upd [] w w' := by
  have H := Lib.hid h; clear h
  go_enter Try.func20, Try.ntmps20
  go_wp2_with fail
  refine (mutex_out H.out hs k hk).mono ?_
  rintro e w' ⟨rfl, hu⟩
  go_wp2_with fail
  go_ret
  exact ⟨rfl, hu.alloc _⟩
set_option maxHeartbeats 400000 in
theorem TryLock_yes (h : Mem F p bw bm s w) (hs : s.Small) (t : Int) (k : Nat) (hk : k < s.ms.length) (hf : s.ms[k].1 = false) :
    Calls Try.prog 20 #[.pointer (some ⟨p, 0, none⟩), .int .i64 t, .int .i64 k] w fun e w' =>
      e = .returned (.bool true) ∧ ∃ F', Mem F' p bw bm { s with ms := s.ms.set k (true, t), log := s.log ++ [⟨t, 5, k, 0, 1, true⟩] } w' ∧ Goes F F' w w' := by
  have H := Lib.hid h; clear h
  have HF := Lib.hid hf; clear hf
  go_enter Try.func20, Try.ntmps20
  go_wp2_with fail
  refine (mutex_in H.out hs k hk).mono ?_
  rintro e w' ⟨rfl, hu⟩
  rw [HF.out]
  go_wp2_with fail
  refine (accessMutex_mem (H.out.stay (hu.alloc _)) hs.big t 5 k true t true hk).mono ?_
  rintro e w'' ⟨rfl, F', hM, hG⟩
  have HM := Lib.hid hM; clear hM
  go_wp2_with fail
  go_ret
  refine ⟨rfl, F', ?_, Goes.after (hu.alloc _) hG⟩
  have := HM.out
  rw [HF.out] at this
  simpa [b2i] using this
set_option maxHeartbeats 400000 in
theorem TryLock_no (h : Mem F p bw bm s w) (hs : s.Small) (t : Int) (k : Nat) (hk : k < s.ms.length) (hf : s.ms[k].1 = true) :
    Calls Try.prog 20 #[.pointer (some ⟨p, 0, none⟩), .int .i64 t, .int .i64 k] w fun e w' =>
      e = .returned (.bool false) ∧ ∃ F', Mem F' p bw bm { s with log := s.log ++ [⟨t, 5, k, 1, 1, false⟩] } w' ∧ Goes F F' w w' := by
  have H := Lib.hid h; clear h
  have HF := Lib.hid hf; clear hf
  go_enter Try.func20, Try.ntmps20
  go_wp2_with fail
  refine (mutex_in H.out hs k hk).mono ?_
  rintro e w' ⟨rfl, hu⟩
  rw [HF.out]
  go_wp2_with fail
  refine (accessMutex_mem (H.out.stay (hu.alloc _)) hs.big t 5 k true _ false hk).mono ?_
  rintro e w'' ⟨rfl, F', hM, hG⟩
  have HM := Lib.hid hM; clear hM
  go_wp2_with fail
  go_ret
  refine ⟨rfl, F', ?_, Goes.after (hu.alloc _) hG⟩
  have := HM.out
  have e : (true, s.ms[k].2) = s.ms[k] := by rw [← HF.out]
  rw [e] at this
  rw [HF.out] at this
  simpa [b2i] using this
set_option maxHeartbeats 400000 in
theorem Unlock_out (h : Mem F p bw bm s w) (hs : s.Small) (t : Int) (k : Int) (hk : k < 0 ∨ (s.ms.length : Int) ≤ k) :
    Calls Try.prog 23 #[.pointer (some ⟨p, 0, none⟩), .int .i64 t, .int .i64 k] w fun e w' => e = .returned (.bool false) ∧ Upd [] w w' := by
  have H := Lib.hid h; clear h
  go_enter Try.func23, Try.ntmps23
  go_wp2_with fail
  refine (mutex_out H.out hs k hk).mono ?_
  rintro e w' ⟨rfl, hu⟩
  go_wp2_with fail
  go_ret
  exact ⟨rfl, hu.alloc _⟩
set_option maxHeartbeats 400000 in
theorem Unlock_yes (h : Mem F p bw bm s w) (hs : s.Small) (t : Int) (k : Nat) (hk : k < s.ms.length) (hf : s.ms[k] = (true, t)) :
    Calls Try.prog 23 #[.pointer (some ⟨p, 0, none⟩), .int .i64 t, .int .i64 k] w fun e w' =>
      e = .returned (.bool true) ∧ ∃ F', Mem F' p bw bm { s with ms := s.ms.set k (false, 0), log := s.log ++ [⟨t, 6, k, 1, 0, true⟩] } w' ∧ Goes F F' w w' := by
  have H := Lib.hid h; clear h
  have HF := Lib.hid hf; clear hf
  go_enter Try.func23, Try.ntmps23
  go_wp2_with fail
  refine (mutex_in H.out hs k hk).mono ?_
  rintro e w' ⟨rfl, hu⟩
  rw [HF.out]
  go_wp2_with fail
  refine (heldBy_any true t t _).mono ?_
  rintro e w2 ⟨rfl, rfl⟩
  rw [show (true && (t == t)) = true by simp]
  have lz : w'.heap.size < w'.heap.size + 1 := by omega
  go_wp2_with fail
  refine (accessMutex_mem (H.out.stay ((hu.alloc _).alloc _)) hs.big t 6 k false 0 true hk).mono ?_
  rintro e w'' ⟨rfl, F', hM, hG⟩
  have HM := Lib.hid hM; clear hM
  go_wp2_with fail
  go_ret
  refine ⟨rfl, F', ?_, Goes.after ((hu.alloc _).alloc _) hG⟩
  have := HM.out
  rw [HF.out] at this
  simpa [b2i] using this
set_option maxHeartbeats 400000 in
theorem Unlock_no (h : Mem F p bw bm s w) (hs : s.Small) (t : Int) (k : Nat) (hk : k < s.ms.length) (hf : (s.ms[k].1 && (s.ms[k].2 == t)) = false) :
    Calls Try.prog 23 #[.pointer (some ⟨p, 0, none⟩), .int .i64 t, .int .i64 k] w fun e w' =>
      e = .returned (.bool false) ∧ ∃ F', Mem F' p bw bm { s with v := s.v + 1, log := s.log ++ [⟨t, 6, k, b2i s.ms[k].1, b2i s.ms[k].1, false⟩] } w' ∧ Goes F F' w w' := by
  have lp := h.lt p (by obtain ⟨vl, rfl, _⟩ := h; simp)
  have hpF : p ∈ F := by obtain ⟨vl, rfl, _⟩ := h; simp
  have H := Lib.hid h; clear h
  have HF := Lib.hid hf; clear hf
  go_enter Try.func23, Try.ntmps23
  go_wp2_with fail
  refine (mutex_in H.out hs k hk).mono ?_
  rintro e w' ⟨rfl, hu⟩
  go_wp2_with fail
  refine (heldBy_any _ _ t _).mono ?_
  rintro e w2 ⟨rfl, rfl⟩
  rw [HF.out]
  have lz : w'.heap.size < w'.heap.size + 1 := by omega
  have h2 := H.out.stay hu
  have ls := hu.size
  have lp1 : p < w'.heap.size := by omega
  have lp2 : p < w'.heap.size + 1 := by omega
  obtain ⟨vl, c0, c1, c2, c3⟩ := h2.cells
  have f3 := (h2.free 3).1
  clear c0 c1 c2
  have H2 := Lib.hid h2; clear h2
  have hv0 := hs.v0
  have hv1 := hs.v1
  go_wp2_with fail
  have hU2 := ((Upd.refl [] (w'.setCell ⟨p, 3, none⟩ (.int .i64 (s.v + 1)))).alloc (.cells #[.bool s.ms[k].1, .int .i64 s.ms[k].2] 65)).alloc (.cells #[.bool s.ms[k].1, .int .i64 s.ms[k].2] 65)
  refine (accessMutex_mem ((H2.out.setV (s.v + 1)).stay hU2) hs.big t 6 k s.ms[k].1 s.ms[k].2 false hk).mono ?_
  rintro e w'' ⟨rfl, F', hM, hG⟩
  have HM := Lib.hid hM; clear hM
  go_wp2_with fail
  go_ret
  refine ⟨rfl, F', ?_, goes_of ((hu.mono (by simp)).setCell (fun _ => hpF) _) hU2 hG⟩
  have hm : Mem F' p bw bm { s with v := s.v + 1, ms := s.ms.set k s.ms[k], log := s.log ++ [⟨t, 6, k, b2i s.ms[k].1, b2i s.ms[k].1, false⟩] } w'' := HM.out
  simpa using hm
set_option maxHeartbeats 400000 in
theorem Holder_out (h : Mem F p bw bm s w) (hs : s.Small) (k : Int) (hk : k < 0 ∨ (s.ms.length : Int) ≤ k) :
    Calls Try.prog 16 #[.pointer (some ⟨p, 0, none⟩), .int .i64 k] w fun e w' => e = .returned (.int .i64 (-1)) ∧ Upd [] w w' := by
  have H := Lib.hid h; clear h
  go_enter Try.func16, Try.ntmps16
  go_wp2_with fail
  refine (mutex_out H.out hs k hk).mono ?_
  rintro e w' ⟨rfl, hu⟩
  go_wp2_with fail
  go_ret
  exact ⟨rfl, hu.alloc _⟩
def hold (o : Bool × Int) : Int := if o.1 then o.2 else -1
set_option maxHeartbeats 400000 in
theorem Holder_at (h : Mem F p bw bm s w) (hs : s.Small) (k : Nat) (hk : k < s.ms.length) (b : Bool) (u : Int) (ho : s.ms[k] = (b, u)) :
    Calls Try.prog 16 #[.pointer (some ⟨p, 0, none⟩), .int .i64 k] w fun e w' => e = .returned (.int .i64 (hold (b, u))) ∧ Upd [] w w' := by
  have H := Lib.hid h; clear h
  have HO := Lib.hid ho; clear ho
  cases b
  all_goals
    go_enter Try.func16, Try.ntmps16
    go_wp2_with fail
    refine (mutex_in H.out hs k hk).mono ?_
    rintro e w' ⟨rfl, hu⟩
    rw [HO.out]
    go_wp2_with fail
    go_ret
    exact ⟨rfl, hu.alloc _⟩
theorem Holder_in (h : Mem F p bw bm s w) (hs : s.Small) (k : Nat) (hk : k < s.ms.length) :
    Calls Try.prog 16 #[.pointer (some ⟨p, 0, none⟩), .int .i64 k] w fun e w' => e = .returned (.int .i64 (hold s.ms[k])) ∧ Upd [] w w' :=
  Holder_at h hs k hk s.ms[k].1 s.ms[k].2 rfl
set_option maxHeartbeats 400000 in
theorem Touch_yes (h : Mem F p bw bm s w) (hs : s.Small) (t : Int) (k : Nat) (hk : k < s.ms.length) (hf : s.ms[k] = (true, t)) :
    Calls Try.prog 25 #[.pointer (some ⟨p, 0, none⟩), .int .i64 t, .int .i64 k] w fun e w' => e = .returned (.bool true) ∧ Upd [] w w' := by
  have H := Lib.hid h; clear h
  have HF := Lib.hid hf; clear hf
  go_enter Try.func25, Try.ntmps25
  go_wp2_with fail
  refine (mutex_in H.out hs k hk).mono ?_
  rintro e w' ⟨rfl, hu⟩
  rw [HF.out]
  go_wp2_with fail
  refine (heldBy_any true t t _).mono ?_
  rintro e w2 ⟨rfl, rfl⟩
  rw [show (true && (t == t)) = true by simp]
  go_wp2_with fail
  go_ret
  exact ⟨rfl, (hu.alloc _).alloc _⟩
set_option maxHeartbeats 400000 in
theorem Touch_no (h : Mem F p bw bm s w) (hs : s.Small) (t : Int) (k : Nat) (hk : k < s.ms.length) (hf : (s.ms[k].1 && (s.ms[k].2 == t)) = false) :
    Calls Try.prog 25 #[.pointer (some ⟨p, 0, none⟩), .int .i64 t, .int .i64 k] w fun e w' =>
      e = .returned (.bool false) ∧ Mem F p bw bm { s with v := s.v + 1 } w' ∧ Upd F w w' := by
  have lp := h.lt p (by obtain ⟨vl, rfl, _⟩ := h; simp)
  have hpF : p ∈ F := by obtain ⟨vl, rfl, _⟩ := h; simp
  have H := Lib.hid h; clear h
  have HF := Lib.hid hf; clear hf
  go_enter Try.func25, Try.ntmps25
  go_wp2_with fail
  refine (mutex_in H.out hs k hk).mono ?_
  rintro e w' ⟨rfl, hu⟩
  go_wp2_with fail
  refine (heldBy_any _ _ t _).mono ?_
  rintro e w2 ⟨rfl, rfl⟩
  rw [HF.out]
  have h2 := H.out.stay hu
  have ls := hu.size
  have lp1 : p < w'.heap.size := by omega
  have lp2 : p < w'.heap.size + 1 := by omega
  obtain ⟨vl, c0, c1, c2, c3⟩ := h2.cells
  have f3 := (h2.free 3).1
  clear c0 c1 c2
  have H2 := Lib.hid h2; clear h2
  have hv0 := hs.v0
  have hv1 := hs.v1
  go_wp2_with fail
  go_ret
  have hU2 := ((Upd.refl [] (w'.setCell ⟨p, 3, none⟩ (.int .i64 (s.v + 1)))).alloc (.cells #[.bool s.ms[k].1, .int .i64 s.ms[k].2] 65)).alloc (.cells #[.bool s.ms[k].1, .int .i64 s.ms[k].2] 65)
  exact ⟨rfl, (H2.out.setV (s.v + 1)).stay hU2, ((hu.mono (by simp)).setCell (fun _ => hpF) _).trans hU2 (by simp)⟩
set_option maxHeartbeats 400000 in
theorem Touch_out (h : Mem F p bw bm s w) (hs : s.Small) (t : Int) (k : Int) (hk : k < 0 ∨ (s.ms.length : Int) ≤ k) :
    Calls Try.prog 25 #[.pointer (some ⟨p, 0, none⟩), .int .i64 t, .int .i64 k] w fun e w' =>
      e = .returned (.bool false) ∧ Mem F p bw bm { s with v := s.v + 1 } w' ∧ Upd F w w' := by
  have lp := h.lt p (by obtain ⟨vl, rfl, _⟩ := h; simp)
  have hpF : p ∈ F := by obtain ⟨vl, rfl, _⟩ := h; simp
  have H := Lib.hid h; clear h
  go_enter Try.func25, Try.ntmps25
  go_wp2_with fail
  refine (mutex_out H.out hs k hk).mono ?_
  rintro e w' ⟨rfl, hu⟩
  have h2 := H.out.stay hu
  have ls := hu.size
  have lp1 : p < w'.heap.size := by omega
  have lp2 : p < w'.heap.size + 1 := by omega
  obtain ⟨vl, c0, c1, c2, c3⟩ := h2.cells
  have f3 := (h2.free 3).1
  clear c0 c1 c2
  have H2 := Lib.hid h2; clear h2
  have hv0 := hs.v0
  have hv1 := hs.v1
  clear hk
  go_wp2_with fail
  go_ret
  have hU2 := (Upd.refl [] (w'.setCell ⟨p, 3, none⟩ (.int .i64 (s.v + 1)))).alloc (.cells #[.bool false, .int .i64 0] 65)
  exact ⟨rfl, (H2.out.setV (s.v + 1)).stay hU2, ((hu.mono (by simp)).setCell (fun _ => hpF) _).trans hU2 (by simp)⟩
end
end Go.Proofs.Ytbalfkdeemgclaa
