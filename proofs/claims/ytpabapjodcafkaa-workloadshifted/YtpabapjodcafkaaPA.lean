
/- Contracts: the program's comparison of items. -/
import Derived.Test.YtpabapjodcafkaaNG
namespace Go.Proofs.Ytpabapjodcafkaa
open Go.RowKit Go.Lib Go.Sort

set_option maxHeartbeats 400000 in
theorem isNaN_any (x : Int) (w : World) : Calls Try.prog 44 #[.int .i64 x] w fun e w' => e = .returned (.bool false) ∧ w = w' := by
  go_enter Try.func44, Try.ntmps44
  go_wp2
  go_ret
  exact ⟨by simp, rfl⟩
theorem cmpZ_lt {a b : Int} (h : a < b) : cmpZ a b = -1 := by simp [cmpZ, h]
theorem cmpZ_gt {a b : Int} (h : b < a) : cmpZ a b = 1 := by unfold cmpZ; rw [if_neg (by omega), if_pos h]
theorem cmpZ_self (a : Int) : cmpZ a a = 0 := by simp [cmpZ]
theorem cmpZ_zero {a b : Int} : cmpZ a b = 0 ↔ a = b := by
  unfold cmpZ
  constructor
  · intro h
    by_cases h1 : a < b
    · simp [h1] at h
    · by_cases h2 : b < a
      · simp [h1, h2] at h
      · omega
  · rintro rfl; simp
set_option maxHeartbeats 800000 in
theorem Compare_any (x y : Int) (w : World) : Calls Try.prog 32 #[.int .i64 x, .int .i64 y] w fun e w' => e = .returned (.int .i64 (cmpZ x y)) ∧ w = w' := by
  obtain ⟨r, hr⟩ : ∃ r, r = cmpZ x y := ⟨_, rfl⟩
  rw [← hr]
  have HR := Lib.hid hr
  clear hr
  rcases Int.lt_trichotomy x y with h | h | h
  · go_enter Try.func32, Try.ntmps32
    go_wp2_with fail
    refine (isNaN_any x _).mono ?_
    rintro e w' ⟨rfl, rfl⟩
    go_wp2_with fail
    refine (isNaN_any y _).mono ?_
    rintro e w' ⟨rfl, rfl⟩
    go_wp2_with fail
    go_ret
    exact ⟨ret_int (by rw [HR.out, cmpZ_lt h]), rfl⟩
  · subst h
    go_enter Try.func32, Try.ntmps32
    go_wp2_with fail
    refine (isNaN_any x _).mono ?_
    rintro e w' ⟨rfl, rfl⟩
    go_wp2_with fail
    refine (isNaN_any x _).mono ?_
    rintro e w' ⟨rfl, rfl⟩
    go_wp2_with fail
    go_ret
    exact ⟨ret_int (by rw [HR.out, cmpZ_self]), rfl⟩
  · have h2 : ¬ x < y := by omega
    go_enter Try.func32, Try.ntmps32
    go_wp2_with fail
    refine (isNaN_any x _).mono ?_
    rintro e w' ⟨rfl, rfl⟩
    go_wp2_with fail
    refine (isNaN_any y _).mono ?_
    rintro e w' ⟨rfl, rfl⟩
    go_wp2_with fail
    go_ret
    exact ⟨ret_int (by rw [HR.out, cmpZ_gt h]), rfl⟩
def lexZ (x y : Int) : Int := if x = 0 then y else x
set_option maxHeartbeats 1000000 in
theorem fd_pair (b : Nat) (x y : Int) (w : World) (h : w.heap[b]? = some (.cells #[.int .i64 x, .int .i64 y] 3 (0, 0))) :
    Calls Try.prog 31 #[.slice (some ⟨b, 0, none⟩) 2 2] w fun e w' => e = .returned (.int .i64 (lexZ x y)) ∧ w = w' := by
  obtain ⟨r, hr⟩ : ∃ r, r = lexZ x y := ⟨_, rfl⟩
  rw [← hr]
  have HR := Lib.hid hr
  have c0 := cell_block h 0
  have c1 := cell_block h 1
  simp only [List.getElem?_toArray, List.getElem?_cons_zero, List.getElem?_cons_succ] at c0 c1
  clear hr h
  go_enter Try.func31, Try.ntmps31
  go_wp2_with fail
  go_loopg [7] 2 (fun gk vi wr => ∃ k : Nat, vi = .int .i64 k ∧ k + gk = 2 ∧ Hid ((1 ≤ k → x = 0) ∧ (2 ≤ k → y = 0)) ∧ w = wr)
  case atStart => exact ⟨0, rfl, by omega, ⟨fun h => by omega, fun h => by omega⟩, rfl⟩
  case round =>
    obtain ⟨k, rfl, hkg, HK, rfl⟩ := hrel
    by_cases h0 : k = 0
    · subst h0
      by_cases hx0 : x = 0
      · have HX := Lib.hid hx0
        have hz : (x == 0) = true := by simp [hx0]
        clear hx0
        go_wp2_with fail
        go_roundg (gk - 1)
        case measure => omega
        case rel => exact ⟨1, by go_num, by omega, ⟨fun _ => HX.out, fun h => by omega⟩, rfl⟩
      · have hz : (x == 0) = false := by rw [beq_eq_false_iff_ne]; exact hx0
        go_wp2_with fail
        go_ret
        exact ⟨ret_int (by rw [HR.out, lexZ, if_neg hx0]), rfl⟩
    · by_cases h1 : k = 1
      · subst h1
        by_cases hx0 : y = 0
        · have HX := Lib.hid hx0
          have hz : (y == 0) = true := by simp [hx0]
          clear hx0
          go_wp2_with fail
          go_roundg (gk - 1)
          case measure => omega
          case rel => exact ⟨2, by go_num, by omega, ⟨fun _ => HK.out.1 (by omega), fun h => HX.out⟩, rfl⟩
        · have hz : (y == 0) = false := by rw [beq_eq_false_iff_ne]; exact hx0
          have HX := Lib.hid (HK.out.1 (by omega))
          go_wp2_with fail
          go_ret
          exact ⟨ret_int (by rw [HR.out, lexZ, if_pos HX.out]), rfl⟩
      · obtain rfl : k = 2 := by omega
        go_wp2_with fail
        go_ret
        exact ⟨ret_int (by rw [HR.out, lexZ, if_pos (HK.out.1 (by omega)), HK.out.2 (by omega)]), rfl⟩
theorem cmpI_lex (x y : It) : cmpI x y = lexZ (cmpZ x.t y.t) (cmpZ x.q y.q) := by
  rw [cmpI_eq, lexZ]
  by_cases h : x.t = y.t
  · rw [if_pos h, if_pos (cmpZ_zero.2 h)]
  · rw [if_neg h, if_neg (fun e => h (cmpZ_zero.1 e))]
set_option maxHeartbeats 4000000 in
set_option maxRecDepth 100000 in
theorem CompareItems_any (i j : It) (w : World) :
    Calls Try.prog 24 #[aggI i, aggI j] w fun e w' => e = .returned (.int .i64 (cmpI i j)) ∧ Grown w w' := by
  rw [cmpI_lex]
  obtain ⟨t1, s1, q1⟩ := i
  obtain ⟨t2, s2, q2⟩ := j
  unfold aggI
  simp only
  have h1 := Compare_any
  have h3 := fd_pair
  generalize cmpZ = ci at *
  generalize lexZ = lx at *
  have H1 := Lib.hid h1; have H3 := Lib.hid h3
  clear h1 h3
  go_enter Try.func24, Try.ntmps24
  go_wp2_with fail
  have hg : Grown w ((w.alloc (.cells #[.int .i64 t1, .int .i64 s1, .int .i64 q1] 38)).alloc (.cells #[.int .i64 t2, .int .i64 s2, .int .i64 q2] 38)) := ((Grown.refl w).alloc _).alloc _
  have hb1 := ((Upd.refl [] (w.alloc (.cells #[.int .i64 t1, .int .i64 s1, .int .i64 q1] 38))).alloc (.cells #[.int .i64 t2, .int .i64 s2, .int .i64 q2] 38)).at (heap_alloc1 w _) (by simp)
  have hb2 := heap_alloc2 w (.cells #[.int .i64 t1, .int .i64 s1, .int .i64 q1] 38) (.cells #[.int .i64 t2, .int .i64 s2, .int .i64 q2] 38)
  generalize ((w.alloc (.cells #[.int .i64 t1, .int .i64 s1, .int .i64 q1] 38)).alloc (.cells #[.int .i64 t2, .int .i64 s2, .int .i64 q2] 38)) = wq at *
  have a0 := cell_block hb1 0
  have a1 := cell_block hb1 1
  have b0 := cell_block hb2 0
  have b1 := cell_block hb2 1
  simp only [List.getElem?_toArray, List.getElem?_cons_zero, List.getElem?_cons_succ] at a0 a1 b0 b1
  have H4 : Hid (∀ x y : Int, Calls Try.prog 31 #[.slice (some ⟨wq.heap.size, 0, none⟩) 2 2] (wq.alloc (.cells #[.int .i64 x, .int .i64 y] 3)).drew fun e w' => e = .returned (.int .i64 (lx x y)) ∧ (wq.alloc (.cells #[.int .i64 x, .int .i64 y] 3)).drew = w') := fun x y => H3.out wq.heap.size x y _ (heap_alloc1 wq _)
  have HG := Lib.hid hg
  clear hg hb1 hb2
  go_region_held3 (fun wz => wz.cell? ⟨w.heap.size, 0, none⟩ = some (.int .i64 t1) ∧ wz.cell? ⟨w.heap.size, 1, none⟩ = some (.int .i64 s1) ∧ wz.cell? ⟨w.heap.size + 1, 0, none⟩ = some (.int .i64 t2) ∧ wz.cell? ⟨w.heap.size + 1, 1, none⟩ = some (.int .i64 s2)) (first | exact ⟨a0, a1, b0, b1⟩ | exact ⟨((Upd.refl [] wq).alloc _).drew.cell a0 (by simp), ((Upd.refl [] wq).alloc _).drew.cell a1 (by simp), ((Upd.refl [] wq).alloc _).drew.cell b0 (by simp), ((Upd.refl [] wq).alloc _).drew.cell b1 (by simp)⟩) (first | (go_at_call 32; refine (H1.out _ _ _).mono ?_; rintro e w' ⟨rfl, rfl⟩) | (go_at_call 31; refine (H4.out _ _).mono ?_; rintro e w' ⟨rfl, rfl⟩))
  all_goals go_wp2_with fail
  all_goals go_ret
  all_goals exact ⟨rfl, (HG.out.alloc _).drew⟩
end Go.Proofs.Ytpabapjodcafkaa
