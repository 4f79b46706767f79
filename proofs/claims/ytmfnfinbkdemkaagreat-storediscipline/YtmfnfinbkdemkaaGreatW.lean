/- Contracts of the public mutex methods of package shmem. -/
/- New and Log of package shmem. -/
import Derived.Test.YtmfnfinbkdemkaaGreatP
import Derived.Laws.MakeOwn
namespace Go.Proofs.YtmfnfinbkdemkaaGreat
open Go.RowKit
section
variable {F : List Nat} {p bw bm : Nat} {s : St} {w : World}

set_option maxHeartbeats 400000 in
theorem TryLock_out (h : Mem F p bw bm s w) (hs : s.Small) (t : Int) (k : Int) (hk : k < 0 ∨ (s.ms.length : Int) ≤ k) :
    Calls Tryz.prog 30 #[.pointer (some ⟨p, 0, none⟩), .int .i64 t, .int .i64 k] w fun e w' => e = .returned (.bool false) ∧ Upd [] w w' := by
  have H := Lib.hid h; clear h
  go_enter Tryz.func30, Tryz.ntmps30
  go_wp2_with fail
  refine (mutex_out H.out hs k hk).mono ?_
  rintro e w' ⟨rfl, hu⟩
  go_wp2_with fail
  go_ret
  exact ⟨rfl, hu.alloc _⟩
set_option maxHeartbeats 400000 in
theorem TryLock_yes (h : Mem F p bw bm s w) (hs : s.Small) (t : Int) (k : Nat) (hk : k < s.ms.length) (hf : s.ms[k].1 = false) :
    Calls Tryz.prog 30 #[.pointer (some ⟨p, 0, none⟩), .int .i64 t, .int .i64 k] w fun e w' =>
      e = .returned (.bool true) ∧ ∃ F', Mem F' p bw bm { s with ms := s.ms.set k (true, t), log := s.log ++ [⟨t, 5, k, 0, 1, true⟩] } w' ∧ Goes F F' w w' := by
  have H := Lib.hid h; clear h
  have HF := Lib.hid hf; clear hf
  go_enter Tryz.func30, Tryz.ntmps30
  go_wp2_with fail
  refine (mutex_in H.out hs k hk).mono ?_
  rintro e w' ⟨rfl, hu⟩
  rw [HF.out]
  go_wp2_with fail
  refine (accessMutex_mem (H.out.stay (hu.alloc _)) hs.big t 5 k true t true hk).mono ?_
  rintro e w'' ⟨rfl, F', hM, hG⟩
  have HM := Lib.hid hM; clear hM
  go_wp2_with fail
  go_ret
  refine ⟨rfl, F', ?_, Goes.after (hu.alloc _) hG⟩
  have := HM.out
  rw [HF.out] at this
  simpa [b2i] using this
set_option maxHeartbeats 400000 in
theorem TryLock_no (h : Mem F p bw bm s w) (hs : s.Small) (t : Int) (k : Nat) (hk : k < s.ms.length) (hf : s.ms[k].1 = true) :
    Calls Tryz.prog 30 #[.pointer (some ⟨p, 0, none⟩), .int .i64 t, .int .i64 k] w fun e w' =>
      e = .returned (.bool false) ∧ ∃ F', Mem F' p bw bm { s with log := s.log ++ [⟨t, 5, k, 1, 1, false⟩] } w' ∧ Goes F F' w w' := by
  have H := Lib.hid h; clear h
  have HF := Lib.hid hf; clear hf
  go_enter Tryz.func30, Tryz.ntmps30
  go_wp2_with fail
  refine (mutex_in H.out hs k hk).mono ?_
  rintro e w' ⟨rfl, hu⟩
  rw [HF.out]
  go_wp2_with fail
  refine (accessMutex_mem (H.out.stay (hu.alloc _)) hs.big t 5 k true _ false hk).mono ?_
  rintro e w'' ⟨rfl, F', hM, hG⟩
  have HM := Lib.hid hM; clear hM
  go_wp2_with fail
  go_ret
  refine ⟨rfl, F', ?_, Goes.after (hu.alloc _) hG⟩
  have := HM.out
  have e : (true, s.ms[k].2) = s.ms[k] := by rw [← HF.out]
  rw [e] at this
  rw [HF.out] at this
  simpa [b2i] using this
def hold (o : Bool × Int) : Int := if o.1 then o.2 else -1
set_option maxHeartbeats 400000 in
theorem Touch_yes (h : Mem F p bw bm s w) (hs : s.Small) (t : Int) (k : Nat) (hk : k < s.ms.length) (hf : s.ms[k] = (true, t)) :
    Calls Tryz.prog 64 #[.pointer (some ⟨p, 0, none⟩), .int .i64 t, .int .i64 k] w fun e w' => e = .returned (.bool true) ∧ Upd [] w w' := by
  have H := Lib.hid h; clear h
  have HF := Lib.hid hf; clear hf
  go_enter Tryz.func64, Tryz.ntmps64
  go_wp2_with fail
  refine (mutex_in H.out hs k hk).mono ?_
  rintro e w' ⟨rfl, hu⟩
  rw [HF.out]
  go_wp2_with fail
  refine (heldBy_any true t t _).mono ?_
  rintro e w2 ⟨rfl, rfl⟩
  rw [show (true && (t == t)) = true by simp]
  go_wp2_with fail
  go_ret
  exact ⟨rfl, (hu.alloc _).alloc _⟩
set_option maxHeartbeats 400000 in
theorem Touch_no (h : Mem F p bw bm s w) (hs : s.Small) (t : Int) (k : Nat) (hk : k < s.ms.length) (hf : (s.ms[k].1 && (s.ms[k].2 == t)) = false) :
    Calls Tryz.prog 64 #[.pointer (some ⟨p, 0, none⟩), .int .i64 t, .int .i64 k] w fun e w' =>
      e = .returned (.bool false) ∧ Mem F p bw bm { s with v := s.v + 1 } w' ∧ Upd F w w' := by
  have lp := h.lt p (by obtain ⟨vl, rfl, _⟩ := h; simp)
  have hpF : p ∈ F := by obtain ⟨vl, rfl, _⟩ := h; simp
  have H := Lib.hid h; clear h
  have HF := Lib.hid hf; clear hf
  go_enter Tryz.func64, Tryz.ntmps64
  go_wp2_with fail
  refine (mutex_in H.out hs k hk).mono ?_
  rintro e w' ⟨rfl, hu⟩
  go_wp2_with fail
  refine (heldBy_any _ _ t _).mono ?_
  rintro e w2 ⟨rfl, rfl⟩
  rw [HF.out]
  have h2 := H.out.stay hu
  have ls := hu.size
  have lp1 : p < w'.heap.size := by omega
  have lp2 : p < w'.heap.size + 1 := by omega
  obtain ⟨vl, c0, c1, c2, c3⟩ := h2.cells
  have f3 := (h2.free 3).1
  clear c0 c1 c2
  have H2 := Lib.hid h2; clear h2
  have hv0 := hs.v0
  have hv1 := hs.v1
  go_wp2_with fail
  go_ret
  have hU2 := ((Upd.refl [] (w'.setCell ⟨p, 3, none⟩ (.int .i64 (s.v + 1)))).alloc (.cells #[.bool s.ms[k].1, .int .i64 s.ms[k].2] 107)).alloc (.cells #[.bool s.ms[k].1, .int .i64 s.ms[k].2] 107)
  exact ⟨rfl, (H2.out.setV (s.v + 1)).stay hU2, ((hu.mono (by simp)).setCell (fun _ => hpF) _).trans hU2 (by simp)⟩
set_option maxHeartbeats 400000 in
theorem Touch_out (h : Mem F p bw bm s w) (hs : s.Small) (t : Int) (k : Int) (hk : k < 0 ∨ (s.ms.length : Int) ≤ k) :
    Calls Tryz.prog 64 #[.pointer (some ⟨p, 0, none⟩), .int .i64 t, .int .i64 k] w fun e w' =>
      e = .returned (.bool false) ∧ Mem F p bw bm { s with v := s.v + 1 } w' ∧ Upd F w w' := by
  have lp := h.lt p (by obtain ⟨vl, rfl, _⟩ := h; simp)
  have hpF : p ∈ F := by obtain ⟨vl, rfl, _⟩ := h; simp
  have H := Lib.hid h; clear h
  go_enter Tryz.func64, Tryz.ntmps64
  go_wp2_with fail
  refine (mutex_out H.out hs k hk).mono ?_
  rintro e w' ⟨rfl, hu⟩
  have h2 := H.out.stay hu
  have ls := hu.size
  have lp1 : p < w'.heap.size := by omega
  have lp2 : p < w'.heap.size + 1 := by omega
  obtain ⟨vl, c0, c1, c2, c3⟩ := h2.cells
  have f3 := (h2.free 3).1
  clear c0 c1 c2
  have H2 := Lib.hid h2; clear h2
  have hv0 := hs.v0
  have hv1 := hs.v1
  clear hk
  go_wp2_with fail
  go_ret
  have hU2 := (Upd.refl [] (w'.setCell ⟨p, 3, none⟩ (.int .i64 (s.v + 1)))).alloc (.cells #[.bool false, .int .i64 0] 107)
  exact ⟨rfl, (H2.out.setV (s.v + 1)).stay hU2, ((hu.mono (by simp)).setCell (fun _ => hpF) _).trans hU2 (by simp)⟩
end
end Go.Proofs.YtmfnfinbkdemkaaGreat
namespace Go.Proofs.YtmfnfinbkdemkaaGreat
open Go.RowKit

theorem info3 : (Tryz.prog.info? 3).map (fun i => (i.zero, i.size, i.bytes)) = some (some (.int .i64 0), 1, 8) := by kernel_rfl
theorem info65 : (Tryz.prog.info? 107).map (fun i => (i.zero, i.size, i.bytes)) = some (some (.agg #[.bool false, .int .i64 0]), 2, 16) := by kernel_rfl

theorem made_ints (n : Nat) : madeCells #[Value.int .i64 0] (n * 1) = ((List.replicate n (0 : Int)).map (Value.int .i64)).toArray := by
  apply Array.ext
  · simp [madeCells]
  · intro i h1 h2
    simp [madeCells, Nat.mod_one]
theorem ocells_rep (n k : Nat) (h : k < n * 2) : ((List.replicate n ((false, 0) : Bool × Int)).flatMap ocells)[k]? = some (if k % 2 = 0 then .bool false else .int .i64 0) := by
  have h1 : k / 2 < (List.replicate n ((false, 0) : Bool × Int)).length := by simp; omega
  have := getElem_ocells (List.replicate n ((false, 0) : Bool × Int)) (k / 2) h1
  by_cases he : k % 2 = 0
  · rw [if_pos he, show k = k / 2 * 2 by omega, this.1]; simp
  · rw [if_neg he, show k = k / 2 * 2 + 1 by omega, this.2]; simp
theorem made_owners (n : Nat) : madeCells #[Value.bool false, Value.int .i64 0] (n * 2) = ((List.replicate n ((false, 0) : Bool × Int)).flatMap ocells).toArray := by
  apply Array.ext
  · simp [madeCells, List.length_flatMap, ocells]
  · intro i h1 h2
    have := ocells_rep n i (by simpa [madeCells] using h1)
    have h3 : ((List.replicate n ((false, 0) : Bool × Int)).flatMap ocells)[i]? = some (((List.replicate n ((false, 0) : Bool × Int)).flatMap ocells)[i]'(by simpa using h2)) := List.getElem?_eq_getElem _
    rw [this] at h3
    simp only [List.getElem_toArray]
    rw [← Option.some.inj h3]
    rcases (show i % 2 = 0 ∨ i % 2 = 1 from by omega) with he | he <;> simp [madeCells, he]

theorem mk_any (t e : TypeId) (z : Value) (size bytes : Nat) (ht : Tryz.prog.underlying t = some (.slice e)) (hi : (Tryz.prog.info? e).map (fun i => (i.zero, i.size, i.bytes)) = some (some z, size, bytes)) (n : Nat) (hb : bytes * n ≤ 281474976710656) (hn : n ≤ 100000000) (Z : Array Value) (hZ : madeCells z.cells (n * size) = Z) (w : World) :
    (Instr.makeSlice t (.int .i64 (n : Int)) (.int .i64 (n : Int))).run Tryz.prog w = .ok (.slice (some ⟨w.heap.size, 0, none⟩) n n) (w.alloc (.cells Z e)) := by
  obtain ⟨i, h1, h2, h3, h4⟩ := info_parts hi
  have hb' : (i.bytes : Int) * (n : Int) ≤ 281474976710656 := by
    rw [h4]
    have h : ((bytes * n : Nat) : Int) ≤ 281474976710656 := by omega
    rwa [Int.natCast_mul] at h
  have := run_make (P := Tryz.prog) w t e i z ht h1 h2 .i64 .i64 n n (by omega) (Int.le_refl _) hb' (by omega)
  rw [h3, Int.toNat_natCast, hZ] at this
  exact this

def zeroSt (m n : Nat) : St := ⟨List.replicate m 0, List.replicate n (false, 0), [], 0⟩

set_option maxHeartbeats 400000 in
theorem newCells_int (n : Nat) (hn : n ≤ 256) (w : World) :
    Calls Tryz.prog 84 #[.int .i64 n] w fun e w' => ∃ b, e = .returned (.agg #[.slice (some ⟨b, 0, none⟩) n n]) ∧ w'.heap[b]? = some (.cells ((List.replicate n (0 : Int)).map (Value.int .i64)).toArray 3 (0, 0)) ∧ w.heap.size ≤ b ∧ Upd [] w w' := by
  have hmk := mk_any 43 3 (.int .i64 0) 1 8 Tryz.underlying43 info3 n (by omega) (by omega) ((List.replicate n (0 : Int)).map (Value.int .i64)).toArray (made_ints n)
  generalize hZ : ((List.replicate n (0 : Int)).map (Value.int .i64)).toArray = Z at *
  have HZ := Lib.hid hZ; clear hZ
  go_enter Tryz.func84, Tryz.ntmps84
  go_wp2
  exact bodyPost_ret (v := .agg #[.slice (some ⟨w.heap.size + 1, 0, none⟩) n n]) (by simp [results, Tryz.results84, go_sem]) rfl ⟨w.heap.size + 1, rfl, heap_alloc2 _ _ _, by omega, ((Upd.refl _ _).alloc _).alloc _⟩
set_option maxHeartbeats 400000 in
theorem newCells_owner (n : Nat) (hn : n ≤ 256) (w : World) :
    Calls Tryz.prog 85 #[.int .i64 n] w fun e w' => ∃ b, e = .returned (.agg #[.slice (some ⟨b, 0, none⟩) n n]) ∧ w'.heap[b]? = some (.cells ((List.replicate n ((false, 0) : Bool × Int)).flatMap ocells).toArray 107 (0, 0)) ∧ w.heap.size ≤ b ∧ Upd [] w w' := by
  have hmk := mk_any 77 107 (.agg #[.bool false, .int .i64 0]) 2 16 Tryz.underlying77 info65 n (by omega) (by omega) ((List.replicate n ((false, 0) : Bool × Int)).flatMap ocells).toArray (made_owners n)
  generalize hZ : ((List.replicate n ((false, 0) : Bool × Int)).flatMap ocells).toArray = Z at *
  have HZ := Lib.hid hZ; clear hZ
  go_enter Tryz.func85, Tryz.ntmps85
  go_wp2
  exact bodyPost_ret (v := .agg #[.slice (some ⟨w.heap.size + 1, 0, none⟩) n n]) (by simp [results, Tryz.results85, go_sem]) rfl ⟨w.heap.size + 1, rfl, heap_alloc2 _ _ _, by omega, ((Upd.refl _ _).alloc _).alloc _⟩

set_option maxHeartbeats 400000 in
theorem New_yes (m n : Nat) (hm : m ≤ 256) (hn : n ≤ 256) (w : World) :
    Calls Tryz.prog 59 #[.int .i64 m, .int .i64 n] w fun e w' => ∃ p bw bm F, e = .returned (.pointer (some ⟨p, 0, none⟩)) ∧ Mem F p bw bm (zeroSt m n) w' ∧ (∀ x ∈ F, w.heap.size ≤ x) ∧ Upd [] w w' := by
  have v1 : (decide (0 ≤ (m : Int)) && decide ((m : Int) ≤ 256)) = true := by simp; omega
  have v2 : (decide (0 ≤ (n : Int)) && decide ((n : Int) ≤ 256)) = true := by simp; omega
  have V1 := Lib.hid v1; have V2 := Lib.hid v2; clear v1 v2
  go_enter Tryz.func59, Tryz.ntmps59
  go_wp2_with fail
  refine (validSize_any _ _).mono ?_
  rintro e w' ⟨rfl, rfl⟩
  rw [V1.out]
  go_wp2_with fail
  refine (validSize_any _ _).mono ?_
  rintro e w' ⟨rfl, rfl⟩
  rw [V2.out]
  go_wp2_with fail
  refine (newCells_int m hm _).mono ?_
  rintro e w1 ⟨b1, rfl, hb1, hl1, hu1⟩
  have HB1 := Lib.hid hb1; clear hb1
  go_wp2_with fail
  refine (newCells_owner n hn _).mono ?_
  rintro e w2 ⟨b2, rfl, hb2, hl2, hu2⟩
  have HB2 := Lib.hid hb2; clear hb2
  go_wp2_with fail
  go_ret
  have hu3 := (Upd.refl [] w2).alloc (.cells #[.slice none 0 0, .slice (some ⟨b1, 0, none⟩) m m, .slice (some ⟨b2, 0, none⟩) n n, .int .i64 0] 81)
  refine ⟨w2.heap.size, b1, b2, [w2.heap.size, b1, b2], rfl, ⟨.slice none 0 0, rfl, ?_, ?_, ?_, ?_⟩, ?_, (hu1.trans hu2 (by simp)).trans hu3 (by simp)⟩
  · rw [heap_alloc1]; simp [zeroSt]
  · exact hu3.at (hu2.at HB1.out (by simp)) (by simp)
  · exact hu3.at HB2.out (by simp)
  · exact World.ownsRow_nil _ _ _ _
  · have := hu1.size; have := hu2.size
    intro x hx
    simp only [List.mem_cons, List.not_mem_nil, or_false] at hx
    rcases hx with rfl | rfl | rfl <;> omega
set_option maxHeartbeats 400000 in
theorem New_no (m n : Int) (h : ¬ (0 ≤ m ∧ m ≤ 256 ∧ 0 ≤ n ∧ n ≤ 256)) (w : World) :
    Calls Tryz.prog 59 #[.int .i64 m, .int .i64 n] w fun e w' => e = .returned (.pointer none) ∧ w = w' := by
  by_cases h1 : 0 ≤ m ∧ m ≤ 256
  · have v1 : (decide (0 ≤ m) && decide (m ≤ 256)) = true := by simp; omega
    have v2 : (decide (0 ≤ n) && decide (n ≤ 256)) = false := by simp; omega
    have V1 := Lib.hid v1; have V2 := Lib.hid v2; clear v1 v2 h h1
    go_enter Tryz.func59, Tryz.ntmps59
    go_wp2_with fail
    refine (validSize_any _ _).mono ?_
    rintro e w' ⟨rfl, rfl⟩
    rw [V1.out]
    go_wp2_with fail
    refine (validSize_any _ _).mono ?_
    rintro e w' ⟨rfl, rfl⟩
    rw [V2.out]
    go_wp2_with fail
    go_ret
    exact ⟨rfl, rfl⟩
  · have v1 : (decide (0 ≤ m) && decide (m ≤ 256)) = false := by simp; omega
    have V1 := Lib.hid v1; clear v1 h h1
    go_enter Tryz.func59, Tryz.ntmps59
    go_wp2_with fail
    refine (validSize_any _ _).mono ?_
    rintro e w' ⟨rfl, rfl⟩
    rw [V1.out]
    go_wp2_with fail
    go_ret
    exact ⟨rfl, rfl⟩

theorem acc_one (l : List Acc) : ∀ u ∈ l.flatMap Acc.cells, u.oneCell' = true := by
  intro u hu
  simp only [List.mem_flatMap, Acc.cells] at hu
  obtain ⟨a, _, ha⟩ := hu
  simp only [List.mem_cons, List.not_mem_nil, or_false] at ha
  rcases ha with rfl | rfl | rfl | rfl | rfl | rfl <;> rfl

end Go.Proofs.YtmfnfinbkdemkaaGreat
