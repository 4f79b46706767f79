/- New and Log of package shmem. -/
import Derived.Test.YtbalfkdeemgclaaQ
import Derived.Laws.MakeOwn
namespace Go.Proofs.Ytbalfkdeemgclaa
open Go.RowKit

theorem info3 : (Try.prog.info? 3).map (fun i => (i.zero, i.size, i.bytes)) = some (some (.int .i64 0), 1, 8) := by kernel_rfl
theorem info65 : (Try.prog.info? 65).map (fun i => (i.zero, i.size, i.bytes)) = some (some (.agg #[.bool false, .int .i64 0]), 2, 16) := by kernel_rfl

theorem made_ints (n : Nat) : madeCells #[Value.int .i64 0] (n * 1) = ((List.replicate n (0 : Int)).map (Value.int .i64)).toArray := by
  apply Array.ext
  · simp [madeCells]
  · intro i h1 h2
    simp [madeCells, Nat.mod_one]
theorem ocells_rep (n k : Nat) (h : k < n * 2) : ((List.replicate n ((false, 0) : Bool × Int)).flatMap ocells)[k]? = some (if k % 2 = 0 then .bool false else .int .i64 0) := by
  have h1 : k / 2 < (List.replicate n ((false, 0) : Bool × Int)).length := by simp; omega
  have := getElem_ocells (List.replicate n ((false, 0) : Bool × Int)) (k / 2) h1
  by_cases he : k % 2 = 0
  · rw [if_pos he, show k = k / 2 * 2 by omega, this.1]; simp
  · rw [if_neg he, show k = k / 2 * 2 + 1 by omega, this.2]; simp
theorem made_owners (n : Nat) : madeCells #[Value.bool false, Value.int .i64 0] (n * 2) = ((List.replicate n ((false, 0) : Bool × Int)).flatMap ocells).toArray := by
  apply Array.ext
  · simp [madeCells, List.length_flatMap, ocells]
  · intro i h1 h2
    have := ocells_rep n i (by simpa [madeCells] using h1)
    have h3 : ((List.replicate n ((false, 0) : Bool × Int)).flatMap ocells)[i]? = some (((List.replicate n ((false, 0) : Bool × Int)).flatMap ocells)[i]'(by simpa using h2)) := List.getElem?_eq_getElem _
    rw [this] at h3
    simp only [List.getElem_toArray]
    rw [← Option.some.inj h3]
    rcases (show i % 2 = 0 ∨ i % 2 = 1 from by omega) with he | he <;> simp [madeCells, he]

theorem mk_any (t e : TypeId) (z : Value) (size bytes : Nat) (ht : Try.prog.underlying t = some (.slice e)) (hi : (Try.prog.info? e).map (fun i => (i.zero, i.size, i.bytes)) = some (some z, size, bytes)) (n : Nat) (hb : bytes * n ≤ 281474976710656) (hn : n ≤ 100000000) (Z : Array Value) (hZ : madeCells z.cells (n * size) = Z) (w : World) :
    (Instr.makeSlice t (.int .i64 (n : Int)) (.int .i64 (n : Int))).run Try.prog w = .ok (.slice (some ⟨w.heap.size, 0, none⟩) n n) (w.alloc (.cells Z e)) := by
  obtain ⟨i, h1, h2, h3, h4⟩ := info_parts hi
  have hb' : (i.bytes : Int) * (n : Int) ≤ 281474976710656 := by
    rw [h4]
    have h : ((bytes * n : Nat) : Int) ≤ 281474976710656 := by omega
    rwa [Int.natCast_mul] at h
  have := run_make (P := Try.prog) w t e i z ht h1 h2 .i64 .i64 n n (by omega) (Int.le_refl _) hb' (by omega)
  rw [h3, Int.toNat_natCast, hZ] at this
  exact this

def zeroSt (m n : Nat) : St := ⟨List.replicate m 0, List.replicate n (false, 0), [], 0⟩

set_option maxHeartbeats 400000 in
theorem newCells_int (n : Nat) (hn : n ≤ 256) (w : World) :
    Calls Try.prog 28 #[.int .i64 n] w fun e w' => ∃ b, e = .returned (.agg #[.slice (some ⟨b, 0, none⟩) n n]) ∧ w'.heap[b]? = some (.cells ((List.replicate n (0 : Int)).map (Value.int .i64)).toArray 3 (0, 0)) ∧ w.heap.size ≤ b ∧ Upd [] w w' := by
  have hmk := mk_any 37 3 (.int .i64 0) 1 8 Try.underlying37 info3 n (by omega) (by omega) ((List.replicate n (0 : Int)).map (Value.int .i64)).toArray (made_ints n)
  generalize hZ : ((List.replicate n (0 : Int)).map (Value.int .i64)).toArray = Z at *
  have HZ := Lib.hid hZ; clear hZ
  go_enter Try.func28, Try.ntmps28
  go_wp2
  exact bodyPost_ret (v := .agg #[.slice (some ⟨w.heap.size + 1, 0, none⟩) n n]) (by simp [results, Try.results28, go_sem]) rfl ⟨w.heap.size + 1, rfl, heap_alloc2 _ _ _, by omega, ((Upd.refl _ _).alloc _).alloc _⟩
set_option maxHeartbeats 400000 in
theorem newCells_owner (n : Nat) (hn : n ≤ 256) (w : World) :
    Calls Try.prog 29 #[.int .i64 n] w fun e w' => ∃ b, e = .returned (.agg #[.slice (some ⟨b, 0, none⟩) n n]) ∧ w'.heap[b]? = some (.cells ((List.replicate n ((false, 0) : Bool × Int)).flatMap ocells).toArray 65 (0, 0)) ∧ w.heap.size ≤ b ∧ Upd [] w w' := by
  have hmk := mk_any 60 65 (.agg #[.bool false, .int .i64 0]) 2 16 Try.underlying60 info65 n (by omega) (by omega) ((List.replicate n ((false, 0) : Bool × Int)).flatMap ocells).toArray (made_owners n)
  generalize hZ : ((List.replicate n ((false, 0) : Bool × Int)).flatMap ocells).toArray = Z at *
  have HZ := Lib.hid hZ; clear hZ
  go_enter Try.func29, Try.ntmps29
  go_wp2
  exact bodyPost_ret (v := .agg #[.slice (some ⟨w.heap.size + 1, 0, none⟩) n n]) (by simp [results, Try.results29, go_sem]) rfl ⟨w.heap.size + 1, rfl, heap_alloc2 _ _ _, by omega, ((Upd.refl _ _).alloc _).alloc _⟩

set_option maxHeartbeats 400000 in
theorem New_yes (m n : Nat) (hm : m ≤ 256) (hn : n ≤ 256) (w : World) :
    Calls Try.prog 10 #[.int .i64 m, .int .i64 n] w fun e w' => ∃ p bw bm F, e = .returned (.pointer (some ⟨p, 0, none⟩)) ∧ Mem F p bw bm (zeroSt m n) w' ∧ (∀ x ∈ F, w.heap.size ≤ x) ∧ Upd [] w w' := by
  have v1 : (decide (0 ≤ (m : Int)) && decide ((m : Int) ≤ 256)) = true := by simp; omega
  have v2 : (decide (0 ≤ (n : Int)) && decide ((n : Int) ≤ 256)) = true := by simp; omega
  have V1 := Lib.hid v1; have V2 := Lib.hid v2; clear v1 v2
  go_enter Try.func10, Try.ntmps10
  go_wp2_with fail
  refine (validSize_any _ _).mono ?_
  rintro e w' ⟨rfl, rfl⟩
  rw [V1.out]
  go_wp2_with fail
  refine (validSize_any _ _).mono ?_
  rintro e w' ⟨rfl, rfl⟩
  rw [V2.out]
  go_wp2_with fail
  refine (newCells_int m hm _).mono ?_
  rintro e w1 ⟨b1, rfl, hb1, hl1, hu1⟩
  have HB1 := Lib.hid hb1; clear hb1
  go_wp2_with fail
  refine (newCells_owner n hn _).mono ?_
  rintro e w2 ⟨b2, rfl, hb2, hl2, hu2⟩
  have HB2 := Lib.hid hb2; clear hb2
  go_wp2_with fail
  go_ret
  have hu3 := (Upd.refl [] w2).alloc (.cells #[.slice none 0 0, .slice (some ⟨b1, 0, none⟩) m m, .slice (some ⟨b2, 0, none⟩) n n, .int .i64 0] 69)
  refine ⟨w2.heap.size, b1, b2, [w2.heap.size, b1, b2], rfl, ⟨.slice none 0 0, rfl, ?_, ?_, ?_, ?_⟩, ?_, (hu1.trans hu2 (by simp)).trans hu3 (by simp)⟩
  · rw [heap_alloc1]; simp [zeroSt]
  · exact hu3.at (hu2.at HB1.out (by simp)) (by simp)
  · exact hu3.at HB2.out (by simp)
  · exact World.ownsRow_nil _ _ _ _
  · have := hu1.size; have := hu2.size
    intro x hx
    simp only [List.mem_cons, List.not_mem_nil, or_false] at hx
    rcases hx with rfl | rfl | rfl <;> omega
set_option maxHeartbeats 400000 in
theorem New_no (m n : Int) (h : ¬ (0 ≤ m ∧ m ≤ 256 ∧ 0 ≤ n ∧ n ≤ 256)) (w : World) :
    Calls Try.prog 10 #[.int .i64 m, .int .i64 n] w fun e w' => e = .returned (.pointer none) ∧ w = w' := by
  by_cases h1 : 0 ≤ m ∧ m ≤ 256
  · have v1 : (decide (0 ≤ m) && decide (m ≤ 256)) = true := by simp; omega
    have v2 : (decide (0 ≤ n) && decide (n ≤ 256)) = false := by simp; omega
    have V1 := Lib.hid v1; have V2 := Lib.hid v2; clear v1 v2 h h1
    go_enter Try.func10, Try.ntmps10
    go_wp2_with fail
    refine (validSize_any _ _).mono ?_
    rintro e w' ⟨rfl, rfl⟩
    rw [V1.out]
    go_wp2_with fail
    refine (validSize_any _ _).mono ?_
    rintro e w' ⟨rfl, rfl⟩
    rw [V2.out]
    go_wp2_with fail
    go_ret
    exact ⟨rfl, rfl⟩
  · have v1 : (decide (0 ≤ m) && decide (m ≤ 256)) = false := by simp; omega
    have V1 := Lib.hid v1; clear v1 h h1
    go_enter Try.func10, Try.ntmps10
    go_wp2_with fail
    refine (validSize_any _ _).mono ?_
    rintro e w' ⟨rfl, rfl⟩
    rw [V1.out]
    go_wp2_with fail
    go_ret
    exact ⟨rfl, rfl⟩

set_option maxHeartbeats 400000 in
theorem Clone_acc (vl : Value) (n : Nat) (xs : List Value) (w : World) (ho : w.ownsRow 0 47 6 vl n xs) (hn : n ≤ 1000000) (hx : ∀ u ∈ xs, u.oneCell' = true) :
    Calls Try.prog 33 #[vl] w fun e w' => ∃ v, e = .returned v ∧ w'.ownsRow w.heap.size 47 6 v n xs ∧ Upd [] w w' := by
  rcases ho.2 with ⟨rfl, rfl⟩ | ⟨g, cap, cur, rfl, hb, hgg, hnc, hcm, hcs, htk⟩
  · have hx0 : xs = [] := List.eq_nil_of_length_eq_zero (by simpa using ho.1)
    subst hx0
    clear ho hx
    have hq := @Lib.run_eql_slice_nil Try.prog
    go_enter Try.func33, Try.ntmps33
    go_wp2
    go_ret
    exact ⟨_, rfl, World.ownsRow_nil _ _ _ _, Upd.refl _ _⟩
  · have hq := @Lib.run_eql_slice_nil Try.prog
    have HO := Lib.hid ho; clear ho
    clear hgg hnc hcm hcs htk
    obtain ⟨i0, hi, hz0, hz1, hz2⟩ := info_parts info47
    go_enter Try.func33, Try.ntmps33
    go_wp2_with (at_builtin; refine wpList_append_own _ rfl _ _ 38 rfl w.heap.size 47 i0 _ 6 48 Try.underlying38 hi hz0 hz1 hz2 rfl (by decide) (.slice (some ⟨w.heap.size, 0, none⟩) 0 0) 0 [] rfl (by exact World.ownsRow_made w #[] 0 (Nat.le_refl _) (by decide) (by simp)) ⟨g, 0, none⟩ n cap xs rfl HO.out.1 (by exact (HO.out.alloc _).cells rfl) hx (by simp [maxLen]; omega) (by omega) (by simp) ?_; intro v1 w1 hown hgrow _)
    have HW := Lib.hid hown; clear hown
    go_wp2_with fail
    go_ret
    refine ⟨_, rfl, ?_, ?_⟩
    · have := HW.out
      simpa using this
    · exact ((Upd.refl [] w).alloc _).grown hgrow (by simp [Value.ownBlock])

theorem acc_one (l : List Acc) : ∀ u ∈ l.flatMap Acc.cells, u.oneCell' = true := by
  intro u hu
  simp only [List.mem_flatMap, Acc.cells] at hu
  obtain ⟨a, _, ha⟩ := hu
  simp only [List.mem_cons, List.not_mem_nil, or_false] at ha
  rcases ha with rfl | rfl | rfl | rfl | rfl | rfl <;> rfl

set_option maxHeartbeats 400000 in
theorem Log_any {F : List Nat} {p bw bm : Nat} {s : St} {w : World} (h : Mem F p bw bm s w) (hs : s.Small) :
    Calls Try.prog 18 #[.pointer (some ⟨p, 0, none⟩)] w fun e w' => ∃ v, e = .returned v ∧ w'.ownsRow w.heap.size 47 6 v s.log.length (s.log.flatMap Acc.cells) ∧ Upd [] w w' := by
  obtain ⟨vl, rfl, hp, hw, hm, hl⟩ := h
  have c0 : w.cell? ⟨p, 0, none⟩ = some vl := by simp [cell_block hp]
  have HL := Lib.hid hl
  clear hp hw hm hl
  go_enter Try.func18, Try.ntmps18
  go_wp2_with fail
  refine (Clone_acc vl _ _ _ HL.out hs.big (acc_one _)).mono ?_
  rintro e w' ⟨v, rfl, ho, hu⟩
  have HO := Lib.hid ho; clear ho
  go_wp2_with fail
  go_ret
  exact ⟨_, rfl, HO.out, hu⟩
end Go.Proofs.Ytbalfkdeemgclaa
