/- Contracts: comparisons of ints, keys, items and events, the program's and the reference's. -/
import Derived.Test.YtdkkgajamogmeaaXM
namespace Go.Proofs.Ytdkkgajamogmeaa
open Go.RowKit Go.Sort

/-- Draws, and blocks laid behind: nothing old turned. -/
def Grown (w w' : World) : Prop := ∃ q os, w' = grow (w.drewN q) os
theorem Grown.refl (w : World) : Grown w w := ⟨0, #[], by rw [grow_empty]; rfl⟩
theorem Grown.trans {a b c : World} (h : Grown a b) (k : Grown b c) : Grown a c := by
  obtain ⟨q, os, rfl⟩ := h
  obtain ⟨r, os', rfl⟩ := k
  exact ⟨q + r, os ++ os', by show grow (grow ((a.drewN q).drewN r) os) os' = _; rw [grow_grow, World.drewN_drewN]⟩
theorem Grown.alloc {a b : World} (h : Grown a b) (o : Obj) : Grown a (b.alloc o) := h.trans ⟨0, #[o], by rw [alloc_eq_grow]; rfl⟩
theorem Grown.drew {a b : World} (h : Grown a b) : Grown a b.drew := h.trans ⟨1, #[], by rw [grow_empty]; rfl⟩
theorem Grown.drewN {a b : World} (h : Grown a b) (n : Nat) : Grown a (b.drewN n) := h.trans ⟨n, #[], by rw [grow_empty]⟩
theorem upd_grow (w : World) (os : Array Obj) : Upd [] w (grow w os) := ⟨rfl, rfl, rfl, by simp, fun k hk _ => by
  show (w.heap ++ os)[k]? = w.heap[k]?
  rw [Array.getElem?_append_left hk]⟩
theorem Grown.upd {a b : World} (h : Grown a b) : Upd [] a b := by
  obtain ⟨q, os, rfl⟩ := h
  exact ((Upd.refl [] a).drewN q).trans (upd_grow _ os) (by simp)

set_option maxHeartbeats 400000 in
theorem isNaN_any (x : Int) (w : World) : Calls Try.prog 31 #[.int .i64 x] w fun e w' => e = .returned (.bool false) ∧ w = w' := by
  go_enter Try.func31, Try.ntmps31
  go_wp2
  go_ret
  exact ⟨by simp, rfl⟩
set_option maxHeartbeats 800000 in
theorem Compare_any (x y : Int) (w : World) : Calls Try.prog 26 #[.int .i64 x, .int .i64 y] w fun e w' => e = .returned (.int .i64 (cmpI x y)) ∧ w = w' := by
  obtain ⟨r, hr⟩ : ∃ r, r = cmpI x y := ⟨_, rfl⟩
  rw [← hr]
  have HR := Lib.hid hr
  clear hr
  rcases Int.lt_trichotomy x y with h | h | h
  · go_enter Try.func26, Try.ntmps26
    go_wp2_with fail
    refine (isNaN_any x _).mono ?_
    rintro e w' ⟨rfl, rfl⟩
    go_wp2_with fail
    refine (isNaN_any y _).mono ?_
    rintro e w' ⟨rfl, rfl⟩
    go_wp2_with fail
    go_ret
    exact ⟨ret_int (by rw [HR.out, cmpI_lt h]), rfl⟩
  · subst h
    go_enter Try.func26, Try.ntmps26
    go_wp2_with fail
    refine (isNaN_any x _).mono ?_
    rintro e w' ⟨rfl, rfl⟩
    go_wp2_with fail
    refine (isNaN_any x _).mono ?_
    rintro e w' ⟨rfl, rfl⟩
    go_wp2_with fail
    go_ret
    exact ⟨ret_int (by rw [HR.out, cmpI_self]), rfl⟩
  · have h2 : ¬ x < y := by omega
    go_enter Try.func26, Try.ntmps26
    go_wp2_with fail
    refine (isNaN_any x _).mono ?_
    rintro e w' ⟨rfl, rfl⟩
    go_wp2_with fail
    refine (isNaN_any y _).mono ?_
    rintro e w' ⟨rfl, rfl⟩
    go_wp2_with fail
    go_ret
    exact ⟨ret_int (by rw [HR.out, cmpI_gt h]), rfl⟩
set_option maxHeartbeats 800000 in
theorem RCompare_any (x y : Int) (w : World) : Calls Try.prog 23 #[.int .i64 x, .int .i64 y] w fun e w' => e = .returned (.int .i64 (cmpI x y)) ∧ w = w' := by
  obtain ⟨r, hr⟩ : ∃ r, r = cmpI x y := ⟨_, rfl⟩
  rw [← hr]
  have HR := Lib.hid hr
  clear hr
  rcases Int.lt_trichotomy x y with h | h | h
  · go_enter Try.func23, Try.ntmps23
    go_wp2_with fail
    go_ret
    exact ⟨ret_int (by rw [HR.out, cmpI_lt h]), rfl⟩
  · subst h
    go_enter Try.func23, Try.ntmps23
    go_wp2_with fail
    go_ret
    exact ⟨ret_int (by rw [HR.out, cmpI_self]), rfl⟩
  · have h2 : ¬ x < y := by omega
    go_enter Try.func23, Try.ntmps23
    go_wp2_with fail
    go_ret
    exact ⟨ret_int (by rw [HR.out, cmpI_gt h]), rfl⟩

theorem drop_cons {xs : List Int} {k : Nat} (h : k < xs.length) : xs.drop k = xs[k] :: xs.drop (k + 1) := List.drop_eq_getElem_cons h
/-- The comparison from place k on is the whole's. -/
def KeyAt (a b : List Int) (k : Nat) : Prop := cmpK a b = cmpK (a.drop k) (b.drop k)
theorem KeyAt.step {a b : List Int} {k : Nat} (h : KeyAt a b k) (ha : k < a.length) (hb : k < b.length) (e : a[k] = b[k]) : KeyAt a b (k + 1) := by
  unfold KeyAt at *
  rw [h, drop_cons ha, drop_cons hb]
  show lex (cmpI a[k] b[k]) _ = _
  rw [e, cmpI_self, lex, if_pos rfl]
theorem KeyAt.part {a b : List Int} {k : Nat} (h : KeyAt a b k) (ha : k < a.length) (hb : k < b.length) (e : a[k] ≠ b[k]) : cmpK a b = cmpI a[k] b[k] := by
  unfold KeyAt at *
  rw [h, drop_cons ha, drop_cons hb]
  show lex (cmpI a[k] b[k]) _ = _
  rw [lex, if_neg (fun h => e (cmpI_zero.1 h))]
theorem KeyAt.long {a b : List Int} {k : Nat} (h : KeyAt a b k) (ha : k < a.length) (hb : k = b.length) : cmpK a b = 1 := by
  unfold KeyAt at *
  rw [h, drop_cons ha, show b.drop k = [] from List.drop_eq_nil_of_le (by omega)]; rfl
theorem KeyAt.short {a b : List Int} {k : Nat} (h : KeyAt a b k) (ha : k = a.length) (hb : k < b.length) : cmpK a b = -1 := by
  unfold KeyAt at *
  rw [h, drop_cons hb, show a.drop k = [] from List.drop_eq_nil_of_le (by omega)]; rfl
theorem KeyAt.same {a b : List Int} {k : Nat} (h : KeyAt a b k) (ha : k = a.length) (hb : k = b.length) : cmpK a b = 0 := by
  unfold KeyAt at *
  rw [h, show a.drop k = [] from List.drop_eq_nil_of_le (by omega), show b.drop k = [] from List.drop_eq_nil_of_le (by omega)]; rfl

set_option maxHeartbeats 2000000 in
theorem slicesCompare_any (a b : Option Addr) (ca cb : Nat) (xs ys : List Int) (w : World) (ha : Ints w a xs) (hb : Ints w b ys) (hx : xs.length ≤ 1000000) (hy : ys.length ≤ 1000000) :
    Calls Try.prog 27 #[.slice a xs.length ca, .slice b ys.length cb] w fun e w' => e = .returned (.int .i64 (cmpK xs ys)) ∧ w = w' := by
  obtain ⟨r, hr⟩ : ∃ r, r = cmpK xs ys := ⟨_, rfl⟩
  rw [← hr]
  have HR := Lib.hid hr
  have HA := Lib.hid ha; have HB := Lib.hid hb
  clear hr ha hb
  obtain ⟨nx, hnx⟩ : ∃ n, n = xs.length := ⟨_, rfl⟩
  obtain ⟨ny, hny⟩ : ∃ n, n = ys.length := ⟨_, rfl⟩
  rw [← hnx, ← hny]
  rw [← hnx] at hx
  rw [← hny] at hy
  have HNX := Lib.hid hnx; have HNY := Lib.hid hny
  clear hnx hny
  go_enter Try.func27, Try.ntmps27
  go_wp2_with fail
  go_loopg [11] nx (fun gk vi wr => ∃ k : Nat, vi = .int .i64 k ∧ k + gk = nx ∧ k ≤ ny ∧ Hid (KeyAt xs ys k) ∧ w = wr)
  case atStart => exact ⟨0, rfl, by omega, by omega, (show KeyAt xs ys 0 from rfl), rfl⟩
  case round =>
    obtain ⟨k, rfl, hkg, hky, HK, rfl⟩ := hrel
    by_cases hlt : k < nx
    · have hltz : (k : Int) < (nx : Int) := by omega
      have hk1 : k < xs.length := by have := HNX.out; omega
      obtain ⟨b1, o1, rfl, c1⟩ := HA.out k hk1
      by_cases hlt2 : k < ny
      · have hltz2 : ¬ (ny : Int) ≤ (k : Int) := by omega
        have hltz3 : (k : Int) < (ny : Int) := by omega
        have hk2 : k < ys.length := by have := HNY.out; omega
        obtain ⟨b2, o2, rfl, c2⟩ := HB.out k hk2
        obtain ⟨x, hx1⟩ : ∃ x, x = xs[k] := ⟨_, rfl⟩
        obtain ⟨y, hy1⟩ : ∃ y, y = ys[k] := ⟨_, rfl⟩
        rw [← hx1] at c1
        rw [← hy1] at c2
        have HX := Lib.hid hx1; have HY := Lib.hid hy1
        clear hx1 hy1
        go_wp2_with fail
        refine (Compare_any x y _).mono ?_
        rintro e w' ⟨rfl, rfl⟩
        by_cases hxy : x = y
        · subst hxy
          have hz : cmpI x x = 0 := cmpI_self x
          rw [hz]
          go_wp2_with fail
          go_roundg (gk - 1)
          case measure => omega
          case rel => exact ⟨k + 1, by go_num, by omega, by omega, HK.out.step hk1 hk2 (by rw [← HX.out, ← HY.out]), rfl⟩
        · have hz : (cmpI x y == 0) = false := by rw [beq_eq_false_iff_ne]; intro h; exact hxy (cmpI_zero.1 h)
          have HRR : Hid (r = cmpI x y) := by
            show r = cmpI x y
            rw [HR.out, HK.out.part (by have := HNX.out; omega) (by have := HNY.out; omega) (by rw [← HX.out, ← HY.out]; exact hxy), ← HX.out, ← HY.out]
          generalize cmpI x y = q at hz HRR ⊢
          go_wp2_with fail
          go_ret
          exact ⟨ret_int HRR.out.symm, rfl⟩
      · have hltz2 : (ny : Int) ≤ (k : Int) := by omega
        generalize xs[k] = x at c1
        go_wp2_with fail
        go_ret
        exact ⟨ret_int (by rw [HR.out, HK.out.long (by have := HNX.out; omega) (by have := HNY.out; omega)]), rfl⟩
    · have hltz : ¬ (k : Int) < (nx : Int) := by omega
      obtain rfl : k = nx := by omega
      by_cases hlt2 : k < ny
      · have hltz2 : (k : Int) < (ny : Int) := by omega
        go_wp2_with fail
        go_ret
        exact ⟨ret_int (by rw [HR.out, HK.out.short HNX.out (by have := HNY.out; omega)]), rfl⟩
      · have hltz2 : ¬ (k : Int) < (ny : Int) := by omega
        go_wp2_with fail
        go_ret
        exact ⟨ret_int (by rw [HR.out, HK.out.same HNX.out (by have := HNY.out; omega)]), rfl⟩
set_option maxHeartbeats 400000 in
theorem CompareKeys_any (a b : Option Addr) (ca cb : Nat) (xs ys : List Int) (w : World) (ha : Ints w a xs) (hb : Ints w b ys) (hx : xs.length ≤ 1000000) (hy : ys.length ≤ 1000000) :
    Calls Try.prog 15 #[.slice a xs.length ca, .slice b ys.length cb] w fun e w' => e = .returned (.int .i64 (cmpK xs ys)) ∧ w = w' := by
  have hc := slicesCompare_any a b ca cb xs ys w ha hb hx hy
  have HC := Lib.hid hc
  clear hc ha hb
  go_enter Try.func15, Try.ntmps15
  go_wp2_with fail
  refine HC.out.mono ?_
  rintro e w' ⟨rfl, rfl⟩
  go_wp2_with fail
  go_ret
  exact ⟨rfl, rfl⟩
end Go.Proofs.Ytdkkgajamogmeaa
