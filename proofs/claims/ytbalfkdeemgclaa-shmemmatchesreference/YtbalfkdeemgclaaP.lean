/- Contracts of the public methods of package shmem. -/
import Derived.Test.YtbalfkdeemgclaaN
namespace Go.Proofs.Ytbalfkdeemgclaa
open Go.RowKit
section
variable {F : List Nat} {p bw bm : Nat} {s : St} {w : World}

set_option maxHeartbeats 400000 in
theorem Load_in (h : Mem F p bw bm s w) (hs : s.Small) (t : Int) (k : Nat) (hk : k < s.ws.length) :
    Calls Try.prog 26 #[.pointer (some ⟨p, 0, none⟩), .int .i64 t, .int .i64 k] w fun e w' =>
      e = .returned (.int .i64 s.ws[k]) ∧ ∃ F', Mem F' p bw bm { s with log := s.log ++ [⟨t, 1, k, s.ws[k], s.ws[k], true⟩] } w' ∧ Goes F F' w w' := by
  have H := Lib.hid h; clear h
  go_enter Try.func26, Try.ntmps26
  go_wp2_with fail
  refine (word_in H.out hs k hk).mono ?_
  rintro e w' ⟨rfl, rfl⟩
  go_wp2_with fail
  refine (accessWord_mem H.out hs t 1 k _ true hk).mono ?_
  rintro e w' ⟨rfl, F', hM, hG⟩
  have HM := Lib.hid hM; clear hM
  go_wp2_with fail
  go_ret
  exact ⟨rfl, F', by simpa using HM.out, hG⟩
set_option maxHeartbeats 400000 in
theorem Load_out (h : Mem F p bw bm s w) (hs : s.Small) (t : Int) (k : Int) (hk : k < 0 ∨ (s.ws.length : Int) ≤ k) :
    Calls Try.prog 26 #[.pointer (some ⟨p, 0, none⟩), .int .i64 t, .int .i64 k] w fun e w' => e = .returned (.int .i64 0) ∧ w = w' := by
  have H := Lib.hid h; clear h
  go_enter Try.func26, Try.ntmps26
  go_wp2_with fail
  refine (word_out H.out hs k hk).mono ?_
  rintro e w' ⟨rfl, rfl⟩
  go_wp2_with fail
  go_ret
  exact ⟨rfl, rfl⟩
set_option maxHeartbeats 400000 in
theorem Store_in (h : Mem F p bw bm s w) (hs : s.Small) (t : Int) (k : Nat) (y : Int) (hk : k < s.ws.length) :
    Calls Try.prog 24 #[.pointer (some ⟨p, 0, none⟩), .int .i64 t, .int .i64 k, .int .i64 y] w fun e w' =>
      e = .returned (.tuple #[]) ∧ ∃ F', Mem F' p bw bm { s with ws := s.ws.set k y, log := s.log ++ [⟨t, 4, k, s.ws[k], y, true⟩] } w' ∧ Goes F F' w w' := by
  have H := Lib.hid h; clear h
  go_enter Try.func24, Try.ntmps24
  go_wp2_with fail
  refine (word_in H.out hs k hk).mono ?_
  rintro e w' ⟨rfl, rfl⟩
  go_wp2_with fail
  refine (accessWord_mem H.out hs t 4 k _ true hk).mono ?_
  rintro e w' ⟨rfl, F', hM, hG⟩
  have HM := Lib.hid hM; clear hM
  go_wp2_with fail
  go_end0
  exact ⟨rfl, F', HM.out, hG⟩
set_option maxHeartbeats 400000 in
theorem Store_out (h : Mem F p bw bm s w) (hs : s.Small) (t : Int) (k : Int) (y : Int) (hk : k < 0 ∨ (s.ws.length : Int) ≤ k) :
    Calls Try.prog 24 #[.pointer (some ⟨p, 0, none⟩), .int .i64 t, .int .i64 k, .int .i64 y] w fun e w' => e = .returned (.tuple #[]) ∧ w = w' := by
  have H := Lib.hid h; clear h
  go_enter Try.func24, Try.ntmps24
  go_wp2_with fail
  refine (word_out H.out hs k hk).mono ?_
  rintro e w' ⟨rfl, rfl⟩
  go_wp2_with fail
  go_end0
  exact ⟨rfl, rfl⟩
set_option maxHeartbeats 400000 in
theorem Add_in (h : Mem F p bw bm s w) (hs : s.Small) (t : Int) (k : Nat) (d : Int) (hk : k < s.ws.length) :
    Calls Try.prog 21 #[.pointer (some ⟨p, 0, none⟩), .int .i64 t, .int .i64 k, .int .i64 d] w fun e w' =>
      e = .returned (.int .i64 (wrap64 (s.ws[k] + d))) ∧ ∃ F', Mem F' p bw bm { s with ws := s.ws.set k (wrap64 (s.ws[k] + d)), log := s.log ++ [⟨t, 2, k, s.ws[k], wrap64 (s.ws[k] + d), true⟩] } w' ∧ Goes F F' w w' := by
  have H := Lib.hid h; clear h
  go_enter Try.func21, Try.ntmps21
  go_wp2_with fail
  refine (word_in H.out hs k hk).mono ?_
  rintro e w' ⟨rfl, rfl⟩
  go_wp2_with fail
  refine (accessWord_mem H.out hs t 2 k _ true hk).mono ?_
  rintro e w' ⟨rfl, F', hM, hG⟩
  have HM := Lib.hid hM; clear hM
  go_wp2_with fail
  go_ret
  exact ⟨rfl, F', HM.out, hG⟩
set_option maxHeartbeats 400000 in
theorem Add_out (h : Mem F p bw bm s w) (hs : s.Small) (t : Int) (k : Int) (y : Int) (hk : k < 0 ∨ (s.ws.length : Int) ≤ k) :
    Calls Try.prog 21 #[.pointer (some ⟨p, 0, none⟩), .int .i64 t, .int .i64 k, .int .i64 y] w fun e w' => e = .returned (.int .i64 0) ∧ w = w' := by
  have H := Lib.hid h; clear h
  go_enter Try.func21, Try.ntmps21
  go_wp2_with fail
  refine (word_out H.out hs k hk).mono ?_
  rintro e w' ⟨rfl, rfl⟩
  go_wp2_with fail
  go_ret
  exact ⟨rfl, rfl⟩
set_option maxHeartbeats 400000 in
theorem CAS_yes (h : Mem F p bw bm s w) (hs : s.Small) (t : Int) (k : Nat) (x y : Int) (hk : k < s.ws.length) (hx : s.ws[k] = x) :
    Calls Try.prog 22 #[.pointer (some ⟨p, 0, none⟩), .int .i64 t, .int .i64 k, .int .i64 x, .int .i64 y] w fun e w' =>
      e = .returned (.bool true) ∧ ∃ F', Mem F' p bw bm { s with ws := s.ws.set k y, log := s.log ++ [⟨t, 3, k, s.ws[k], y, true⟩] } w' ∧ Goes F F' w w' := by
  subst hx
  have H := Lib.hid h; clear h
  go_enter Try.func22, Try.ntmps22
  go_wp2_with fail
  refine (word_in H.out hs k hk).mono ?_
  rintro e w' ⟨rfl, rfl⟩
  go_wp2_with fail
  refine (accessWord_mem H.out hs t 3 k _ true hk).mono ?_
  rintro e w' ⟨rfl, F', hM, hG⟩
  have HM := Lib.hid hM; clear hM
  go_wp2_with fail
  go_ret
  exact ⟨rfl, F', HM.out, hG⟩
set_option maxHeartbeats 400000 in
theorem CAS_no (h : Mem F p bw bm s w) (hs : s.Small) (t : Int) (k : Nat) (x y : Int) (hk : k < s.ws.length) (hx : (s.ws[k] == x) = false) :
    Calls Try.prog 22 #[.pointer (some ⟨p, 0, none⟩), .int .i64 t, .int .i64 k, .int .i64 x, .int .i64 y] w fun e w' =>
      e = .returned (.bool false) ∧ ∃ F', Mem F' p bw bm { s with log := s.log ++ [⟨t, 3, k, s.ws[k], s.ws[k], false⟩] } w' ∧ Goes F F' w w' := by
  have H := Lib.hid h; clear h
  go_enter Try.func22, Try.ntmps22
  go_wp2_with fail
  refine (word_in H.out hs k hk).mono ?_
  rintro e w' ⟨rfl, rfl⟩
  go_wp2_with fail
  refine (accessWord_mem H.out hs t 3 k _ false hk).mono ?_
  rintro e w' ⟨rfl, F', hM, hG⟩
  have HM := Lib.hid hM; clear hM
  go_wp2_with fail
  go_ret
  exact ⟨rfl, F', by simpa using HM.out, hG⟩
set_option maxHeartbeats 400000 in
theorem CAS_out (h : Mem F p bw bm s w) (hs : s.Small) (t : Int) (k : Int) (x y : Int) (hk : k < 0 ∨ (s.ws.length : Int) ≤ k) :
    Calls Try.prog 22 #[.pointer (some ⟨p, 0, none⟩), .int .i64 t, .int .i64 k, .int .i64 x, .int .i64 y] w fun e w' => e = .returned (.bool false) ∧ w = w' := by
  have H := Lib.hid h; clear h
  go_enter Try.func22, Try.ntmps22
  go_wp2_with fail
  refine (word_out H.out hs k hk).mono ?_
  rintro e w' ⟨rfl, rfl⟩
  go_wp2_with fail
  go_ret
  exact ⟨rfl, rfl⟩
set_option maxHeartbeats 400000 in
theorem Word_in (h : Mem F p bw bm s w) (hs : s.Small) (k : Nat) (hk : k < s.ws.length) :
    Calls Try.prog 15 #[.pointer (some ⟨p, 0, none⟩), .int .i64 k] w fun e w' => e = .returned (.int .i64 s.ws[k]) ∧ w = w' := by
  have H := Lib.hid h; clear h
  go_enter Try.func15, Try.ntmps15
  go_wp2_with fail
  refine (word_in H.out hs k hk).mono ?_
  rintro e w' ⟨rfl, rfl⟩
  go_wp2_with fail
  go_ret
  exact ⟨rfl, rfl⟩
set_option maxHeartbeats 400000 in
theorem Word_out (h : Mem F p bw bm s w) (hs : s.Small) (k : Int) (hk : k < 0 ∨ (s.ws.length : Int) ≤ k) :
    Calls Try.prog 15 #[.pointer (some ⟨p, 0, none⟩), .int .i64 k] w fun e w' => e = .returned (.int .i64 0) ∧ w = w' := by
  have H := Lib.hid h; clear h
  go_enter Try.func15, Try.ntmps15
  go_wp2_with fail
  refine (word_out H.out hs k hk).mono ?_
  rintro e w' ⟨rfl, rfl⟩
  go_wp2_with fail
  go_ret
  exact ⟨rfl, rfl⟩
set_option maxHeartbeats 400000 in
theorem Violations_any (h : Mem F p bw bm s w) :
    Calls Try.prog 19 #[.pointer (some ⟨p, 0, none⟩)] w fun e w' => e = .returned (.int .i64 s.v) ∧ w = w' := by
  obtain ⟨vl, c0, c1, c2, c3⟩ := h.cells
  clear h c0 c1 c2
  go_enter Try.func19, Try.ntmps19
  go_wp2_with fail
  go_ret
  exact ⟨rfl, rfl⟩
end
end Go.Proofs.Ytbalfkdeemgclaa
