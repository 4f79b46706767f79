
/- Contracts of the program's small functions of layer 10: bounds, the handle test, Contains, comparisons. -/
import Derived.Test.YtpneljhplbkdkaaAD
import Derived.Shelf.Abstract
namespace Go.Proofs.Ytpneljhplbkdkaa
open Go.RowKit Go.Lib

def inB (lo hi x : Int) : Bool := decide (lo ≤ x) && decide (x ≤ hi)
theorem inB_yes {lo hi x : Int} : inB lo hi x = true ↔ lo ≤ x ∧ x ≤ hi := by simp [inB]
theorem inB_no {lo hi x : Int} : inB lo hi x = false ↔ ¬ (lo ≤ x ∧ x ≤ hi) := by rw [← inB_yes]; simp
theorem PCap_has (h : Int) (w : World) : Calls Try.prog 24 #[.int .i64 h] w fun e w' => e = .returned (.bool (inB 1 64 h)) ∧ w = w' := by
  by_cases h0 : 1 ≤ h
  · by_cases h1 : h ≤ 64
    · rw [inB_yes.2 ⟨h0, h1⟩]
      go_enter Try.func24, Try.ntmps24
      go_wp2_with fail
      go_ret
      exact ⟨rfl, rfl⟩
    · rw [inB_no.2 (fun h => h1 h.2)]
      have d1 : decide (h ≤ 64) = false := decide_eq_false h1
      go_enter Try.func24, Try.ntmps24
      go_wp2_with fail
      go_ret
      exact ⟨rfl, rfl⟩
  · rw [inB_no.2 (fun h => h0 h.1)]
    have d0 : decide (1 ≤ h) = false := decide_eq_false h0
    go_enter Try.func24, Try.ntmps24
    go_wp2_with fail
    go_ret
    exact ⟨rfl, rfl⟩
theorem PTime_has (h : Int) (w : World) : Calls Try.prog 50 #[.int .i64 h] w fun e w' => e = .returned (.bool (inB 0 MaxV h)) ∧ w = w' := by
  unfold MaxV
  by_cases h0 : 0 ≤ h
  · by_cases h1 : h ≤ 1152921504606846976
    · rw [inB_yes.2 ⟨h0, h1⟩]
      go_enter Try.func50, Try.ntmps50
      go_wp2_with fail
      go_ret
      exact ⟨rfl, rfl⟩
    · rw [inB_no.2 (fun h => h1 h.2)]
      have d1 : decide (h ≤ 1152921504606846976) = false := decide_eq_false h1
      go_enter Try.func50, Try.ntmps50
      go_wp2_with fail
      go_ret
      exact ⟨rfl, rfl⟩
  · rw [inB_no.2 (fun h => h0 h.1)]
    have d0 : decide (0 ≤ h) = false := decide_eq_false h0
    go_enter Try.func50, Try.ntmps50
    go_wp2_with fail
    go_ret
    exact ⟨rfl, rfl⟩
theorem PHV_has (h : Int) (w : World) : Calls Try.prog 37 #[.int .i64 h] w fun e w' => e = .returned (.bool (okH h)) ∧ w = w' := by
  by_cases h0 : 0 ≤ h
  · by_cases h1 : h ≤ 70368744177727
    · have e1 : okH h = true := okH_yes.2 ⟨h0, h1⟩
      rw [e1]
      go_enter Try.func37, Try.ntmps37
      go_wp2_with fail
      go_ret
      exact ⟨rfl, rfl⟩
    · have e1 : okH h = false := by simp [okH, h1]
      rw [e1]
      have d1 : decide (h ≤ 70368744177727) = false := decide_eq_false h1
      go_enter Try.func37, Try.ntmps37
      go_wp2_with fail
      go_ret
      exact ⟨rfl, rfl⟩
  · have e1 : okH h = false := by simp [okH, h0]
    rw [e1]
    have d0 : decide (0 ≤ h) = false := decide_eq_false h0
    go_enter Try.func37, Try.ntmps37
    go_wp2_with fail
    go_ret
    exact ⟨rfl, rfl⟩
set_option maxRecDepth 100000 in
set_option maxHeartbeats 4000000 in
theorem PIndex_has (a : Option Addr) (c : Nat) (l : List Int) (x : Int) (w : World) (hr : Row LN w a l) (hl : l.length ≤ 1000000) :
    Calls Try.prog 61 #[.slice a l.length c, .int .i64 x] w fun e w' => (∃ i : Int, e = .returned (.int .i64 i) ∧ decide (0 ≤ i) = decide (x ∈ l)) ∧ w = w' := by
  have HR := Lib.hid hr
  obtain ⟨b, hb⟩ : ∃ b, b = decide (x ∈ l) := ⟨_, rfl⟩
  have HB := Lib.hid hb
  obtain ⟨n, hn⟩ : ∃ n, n = l.length := ⟨_, rfl⟩
  have HN := Lib.hid hn
  rw [← hn] at hl ⊢
  rw [← hb]
  clear hr hn hb
  go_enter Try.func61, Try.ntmps61
  go_wp2_with fail
  go_loopg [8] n (fun gk vi wr => ∃ k : Nat, vi = .int .i64 k ∧ k + gk = n ∧ w = wr ∧ Hid (x ∉ l.take k))
  case atStart => exact ⟨0, rfl, by omega, rfl, (by simp : x ∉ ([] : List Int))⟩
  case round =>
    obtain ⟨k, rfl, hkg, rfl, HK⟩ := hrel
    by_cases hlt : k < n
    · have hltz : (k : Int) < (n : Int) := by omega
      have hk1 : k < l.length := by have := HN.out; omega
      obtain ⟨b0, off, rfl, x0⟩ := HR.out.num k hk1
      have hwk : IntKind.i64.wrap ((k : Int) + 1) = (k : Int) + 1 := by rw [IntKind.wrap_i64]; omega
      by_cases he : l[k] = x
      · have HT : Hid (b = true) := by
          have hm : x ∈ l := he ▸ List.getElem_mem hk1
          show b = true
          rw [HB.out]; simpa using hm
        rw [he] at x0
        clear he hk1
        have d1 : (x == x) = true := by simp
        go_wp2_with fail
        go_ret
        exact ⟨⟨(k : Int), rfl, by rw [HT.out]; exact decide_eq_true (by omega)⟩, rfl⟩
      · have HNX : Hid (x ∉ l.take (k + 1)) := by
          show x ∉ l.take (k + 1)
          rw [List.take_succ_eq_append_getElem hk1]
          simp only [List.mem_append, List.mem_singleton, not_or]
          exact ⟨HK.out, fun h => he h.symm⟩
        have d1 : (x == l[k]) = false := by rw [beq_eq_false_iff_ne]; exact fun h => he h.symm
        generalize l[k] = y at *
        go_wp2_with fail
        go_roundg (gk - 1)
        case measure => omega
        case rel => exact ⟨k + 1, by go_num, by omega, rfl, HNX⟩
    · have hltz : ¬ (k : Int) < (n : Int) := by omega
      have HE : Hid (b = false) := by
        show b = false
        rw [HB.out]
        have h := HK.out
        rw [List.take_of_length_le (by have := HN.out; omega)] at h
        simpa using h
      go_wp2_with fail
      go_ret
      exact ⟨⟨-1, rfl, by rw [HE.out]; decide⟩, rfl⟩
set_option maxHeartbeats 1000000 in
theorem PContains_has (a : Option Addr) (c : Nat) (l : List Int) (x : Int) (w : World) (hr : Row LN w a l) (hl : l.length ≤ 1000000) :
    Calls Try.prog 51 #[.slice a l.length c, .int .i64 x] w fun e w' => e = .returned (.bool (decide (x ∈ l))) ∧ w = w' := by
  have HC := Lib.hid (PIndex_has a c l x w hr hl)
  generalize decide (x ∈ l) = b at *
  generalize l.length = n at *
  clear hr
  go_enter Try.func51, Try.ntmps51
  go_wp2_with (go_at_call 61; (with_reducible refine HC.out.mono ?_); rintro e w1 ⟨⟨i, rfl, hi⟩, rfl⟩)
  go_ret
  exact ⟨ret_bool (by first | rfl | exact hi), rfl⟩
/-- Comparison by time, then by number. -/
def cmpZ (a b : Int) : Int := if a < b then -1 else if b < a then 1 else 0
def lexZ (x y : Int) : Int := if x = 0 then y else x
def cmpE (a b : En) : Int := lexZ (cmpZ a.t b.t) (cmpZ a.q b.q)
theorem cmpZ_lt {a b : Int} (h : a < b) : cmpZ a b = -1 := by simp [cmpZ, h]
theorem cmpZ_gt {a b : Int} (h : b < a) : cmpZ a b = 1 := by unfold cmpZ; rw [if_neg (by omega), if_pos h]
theorem cmpZ_self (a : Int) : cmpZ a a = 0 := by simp [cmpZ]
theorem cmpE_lt {a b : En} : cmpE a b < 0 ↔ ltE a b := by
  unfold cmpE lexZ cmpZ ltE
  by_cases h1 : a.t < b.t
  · simp [h1]
  · by_cases h2 : b.t < a.t
    · simp [h1, h2]; omega
    · have h3 : a.t = b.t := by omega
      by_cases h4 : a.q < b.q
      · simp [h3, h4]
      · by_cases h5 : b.q < a.q
        · simp [h3, h4, h5]
        · simp [h3, h4, h5]
set_option maxHeartbeats 400000 in
theorem isNaN_any (x : Int) (w : World) : Calls Try.prog 68 #[.int .i64 x] w fun e w' => e = .returned (.bool false) ∧ w = w' := by
  go_enter Try.func68, Try.ntmps68
  go_wp2
  go_ret
  exact ⟨by simp, rfl⟩
set_option maxHeartbeats 800000 in
theorem Compare_any (x y : Int) (w : World) : Calls Try.prog 66 #[.int .i64 x, .int .i64 y] w fun e w' => e = .returned (.int .i64 (cmpZ x y)) ∧ w = w' := by
  obtain ⟨r, hr⟩ : ∃ r, r = cmpZ x y := ⟨_, rfl⟩
  rw [← hr]
  have HR := Lib.hid hr
  clear hr
  rcases Int.lt_trichotomy x y with h | h | h
  · go_enter Try.func66, Try.ntmps66
    go_wp2_with fail
    refine (isNaN_any x _).mono ?_
    rintro e w' ⟨rfl, rfl⟩
    go_wp2_with fail
    refine (isNaN_any y _).mono ?_
    rintro e w' ⟨rfl, rfl⟩
    go_wp2_with fail
    go_ret
    exact ⟨ret_int (by rw [HR.out, cmpZ_lt h]), rfl⟩
  · subst h
    go_enter Try.func66, Try.ntmps66
    go_wp2_with fail
    refine (isNaN_any x _).mono ?_
    rintro e w' ⟨rfl, rfl⟩
    go_wp2_with fail
    refine (isNaN_any x _).mono ?_
    rintro e w' ⟨rfl, rfl⟩
    go_wp2_with fail
    go_ret
    exact ⟨ret_int (by rw [HR.out, cmpZ_self]), rfl⟩
  · have h2 : ¬ x < y := by omega
    go_enter Try.func66, Try.ntmps66
    go_wp2_with fail
    refine (isNaN_any x _).mono ?_
    rintro e w' ⟨rfl, rfl⟩
    go_wp2_with fail
    refine (isNaN_any y _).mono ?_
    rintro e w' ⟨rfl, rfl⟩
    go_wp2_with fail
    go_ret
    exact ⟨ret_int (by rw [HR.out, cmpZ_gt h]), rfl⟩
set_option maxHeartbeats 1000000 in
theorem fd_pair (b : Nat) (x y : Int) (w : World) (h : w.heap[b]? = some (.cells #[.int .i64 x, .int .i64 y] 3 (0, 0))) :
    Calls Try.prog 65 #[.slice (some ⟨b, 0, none⟩) 2 2] w fun e w' => e = .returned (.int .i64 (lexZ x y)) ∧ w = w' := by
  obtain ⟨r, hr⟩ : ∃ r, r = lexZ x y := ⟨_, rfl⟩
  rw [← hr]
  have HR := Lib.hid hr
  have c0 := cell_block h 0
  have c1 := cell_block h 1
  simp only [List.getElem?_toArray, List.getElem?_cons_zero, List.getElem?_cons_succ] at c0 c1
  clear hr h
  go_enter Try.func65, Try.ntmps65
  go_wp2_with fail
  go_loopg [7] 2 (fun gk vi wr => ∃ k : Nat, vi = .int .i64 k ∧ k + gk = 2 ∧ Hid ((1 ≤ k → x = 0) ∧ (2 ≤ k → y = 0)) ∧ w = wr)
  case atStart => exact ⟨0, rfl, by omega, ⟨fun h => by omega, fun h => by omega⟩, rfl⟩
  case round =>
    obtain ⟨k, rfl, hkg, HK, rfl⟩ := hrel
    by_cases h0 : k = 0
    · subst h0
      by_cases hx0 : x = 0
      · have HX := Lib.hid hx0
        have hz : (x == 0) = true := by simp [hx0]
        clear hx0
        go_wp2_with fail
        go_roundg (gk - 1)
        case measure => omega
        case rel => exact ⟨1, by go_num, by omega, ⟨fun _ => HX.out, fun h => by omega⟩, rfl⟩
      · have hz : (x == 0) = false := by rw [beq_eq_false_iff_ne]; exact hx0
        go_wp2_with fail
        go_ret
        exact ⟨ret_int (by rw [HR.out, lexZ, if_neg hx0]), rfl⟩
    · by_cases h1 : k = 1
      · subst h1
        by_cases hx0 : y = 0
        · have HX := Lib.hid hx0
          have hz : (y == 0) = true := by simp [hx0]
          clear hx0
          go_wp2_with fail
          go_roundg (gk - 1)
          case measure => omega
          case rel => exact ⟨2, by go_num, by omega, ⟨fun _ => HK.out.1 (by omega), fun h => HX.out⟩, rfl⟩
        · have hz : (y == 0) = false := by rw [beq_eq_false_iff_ne]; exact hx0
          have HX := Lib.hid (HK.out.1 (by omega))
          go_wp2_with fail
          go_ret
          exact ⟨ret_int (by rw [HR.out, lexZ, if_pos HX.out]), rfl⟩
      · obtain rfl : k = 2 := by omega
        go_wp2_with fail
        go_ret
        exact ⟨ret_int (by rw [HR.out, lexZ, if_pos (HK.out.1 (by omega)), HK.out.2 (by omega)]), rfl⟩
set_option maxHeartbeats 4000000 in
set_option maxRecDepth 100000 in
theorem CompareItems_any (t1 s1 q1 t2 s2 q2 : Int) (w : World) :
    Calls Try.prog 60 #[.agg #[.int .i64 t1, .int .i64 s1, .int .i64 q1], .agg #[.int .i64 t2, .int .i64 s2, .int .i64 q2]] w fun e w' => e = .returned (.int .i64 (lexZ (cmpZ t1 t2) (cmpZ s1 s2))) ∧ Grown w w' := by
  have h1 := Compare_any
  have h3 := fd_pair
  generalize cmpZ = ci at *
  generalize lexZ = lx at *
  have H1 := Lib.hid h1; have H3 := Lib.hid h3
  clear h1 h3
  go_enter Try.func60, Try.ntmps60
  go_wp2_with fail
  have hg : Grown w ((w.alloc (.cells #[.int .i64 t1, .int .i64 s1, .int .i64 q1] 84)).alloc (.cells #[.int .i64 t2, .int .i64 s2, .int .i64 q2] 84)) := ((Grown.refl w).alloc _).alloc _
  have hb1 := ((Upd.refl [] (w.alloc (.cells #[.int .i64 t1, .int .i64 s1, .int .i64 q1] 84))).alloc (.cells #[.int .i64 t2, .int .i64 s2, .int .i64 q2] 84)).at (heap_alloc1 w _) (by simp)
  have hb2 := heap_alloc2 w (.cells #[.int .i64 t1, .int .i64 s1, .int .i64 q1] 84) (.cells #[.int .i64 t2, .int .i64 s2, .int .i64 q2] 84)
  generalize ((w.alloc (.cells #[.int .i64 t1, .int .i64 s1, .int .i64 q1] 84)).alloc (.cells #[.int .i64 t2, .int .i64 s2, .int .i64 q2] 84)) = wq at *
  have a0 := cell_block hb1 0
  have a1 := cell_block hb1 1
  have b0 := cell_block hb2 0
  have b1 := cell_block hb2 1
  simp only [List.getElem?_toArray, List.getElem?_cons_zero, List.getElem?_cons_succ] at a0 a1 b0 b1
  have H4 : Hid (∀ x y : Int, Calls Try.prog 65 #[.slice (some ⟨wq.heap.size, 0, none⟩) 2 2] (wq.alloc (.cells #[.int .i64 x, .int .i64 y] 3)).drew fun e w' => e = .returned (.int .i64 (lx x y)) ∧ (wq.alloc (.cells #[.int .i64 x, .int .i64 y] 3)).drew = w') := fun x y => H3.out wq.heap.size x y _ (heap_alloc1 wq _)
  have HG := Lib.hid hg
  clear hg hb1 hb2
  go_region_held3 (fun wz => wz.cell? ⟨w.heap.size, 0, none⟩ = some (.int .i64 t1) ∧ wz.cell? ⟨w.heap.size, 1, none⟩ = some (.int .i64 s1) ∧ wz.cell? ⟨w.heap.size + 1, 0, none⟩ = some (.int .i64 t2) ∧ wz.cell? ⟨w.heap.size + 1, 1, none⟩ = some (.int .i64 s2)) (first | exact ⟨a0, a1, b0, b1⟩ | exact ⟨((Upd.refl [] wq).alloc _).drew.cell a0 (by simp), ((Upd.refl [] wq).alloc _).drew.cell a1 (by simp), ((Upd.refl [] wq).alloc _).drew.cell b0 (by simp), ((Upd.refl [] wq).alloc _).drew.cell b1 (by simp)⟩) (first | (go_at_call 66; refine (H1.out _ _ _).mono ?_; rintro e w' ⟨rfl, rfl⟩) | (go_at_call 65; refine (H4.out _ _).mono ?_; rintro e w' ⟨rfl, rfl⟩))
  all_goals go_wp2_with fail
  all_goals go_ret
  all_goals exact ⟨rfl, (HG.out.alloc _).drew⟩

set_option maxRecDepth 100000 in
set_option maxHeartbeats 4000000 in
theorem PCmp_has (a b : En) (w : World) :
    Calls Try.prog 44 #[.agg #[.int .i64 a.t, .int .i64 a.q, .int .i64 a.h, .bool a.d], .agg #[.int .i64 b.t, .int .i64 b.q, .int .i64 b.h, .bool b.d]] w fun e w' => e = .returned (.int .i64 (cmpE a b)) ∧ Upd [] w w' := by
  have HC := Lib.hid (CompareItems_any a.t a.q 0 b.t b.q 0)
  unfold cmpE
  generalize lexZ (cmpZ a.t b.t) (cmpZ a.q b.q) = r at *
  obtain ⟨t1, q1, h1, d1⟩ := a
  obtain ⟨t2, q2, h2, d2⟩ := b
  simp only at HC ⊢
  go_enter Try.func44, Try.ntmps44
  go_upto_region 1 with (fail)
  obtain ⟨hu, b0, b1, -⟩ := two_boxes w (.cells #[.int .i64 t1, .int .i64 q1, .int .i64 h1, .bool d1] 49) (.cells #[.int .i64 t2, .int .i64 q2, .int .i64 h2, .bool d2] 49)
  generalize (w.alloc (.cells #[.int .i64 t1, .int .i64 q1, .int .i64 h1, .bool d1] 49)).alloc (.cells #[.int .i64 t2, .int .i64 q2, .int .i64 h2, .bool d2] 49) = W at *
  generalize w.heap.size = P at *
  obtain ⟨x0, x1, x2, x3⟩ := cells4 b0
  obtain ⟨y0, y1, y2, y3⟩ := cells4 b1
  have HU := Lib.hid hu
  clear hu b0 b1 x2 x3 y2 y3
  go_wp2_with (go_at_call 60; (with_reducible refine (HC.out _).mono ?_); rintro e w1 ⟨rfl, hg⟩; have HU1 := Lib.hid (HU.out.thn hg.upd); clear hg)
  go_ret
  exact ⟨rfl, HU1.out⟩
end Go.Proofs.Ytpneljhplbkdkaa
