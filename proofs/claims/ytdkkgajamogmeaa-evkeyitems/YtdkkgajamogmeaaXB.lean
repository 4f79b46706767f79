/- Contracts: comparisons of items and events, the program's. -/
import Derived.Test.YtdkkgajamogmeaaXA
namespace Go.Proofs.Ytdkkgajamogmeaa
open Go.RowKit Go.Sort Go.Lib

def fd : List Int → Int
  | [] => 0
  | x :: xs => lex x (fd xs)
theorem fd_two (x y : Int) : fd [x, y] = lex x y := by
  show lex x (lex y 0) = lex x y
  unfold lex
  by_cases h : x = 0 <;> by_cases k : y = 0 <;> simp [h, k]
set_option maxHeartbeats 1000000 in
theorem firstDifference_any (a : Option Addr) (ca : Nat) (xs : List Int) (w : World) (ha : Ints w a xs) (hx : xs.length ≤ 1000000) :
    Calls Try.prog 25 #[.slice a xs.length ca] w fun e w' => e = .returned (.int .i64 (fd xs)) ∧ w = w' := by
  obtain ⟨r, hr⟩ : ∃ r, r = fd xs := ⟨_, rfl⟩
  rw [← hr]
  have HR := Lib.hid hr
  have HA := Lib.hid ha
  clear hr ha
  obtain ⟨nx, hnx⟩ : ∃ n, n = xs.length := ⟨_, rfl⟩
  rw [← hnx]
  rw [← hnx] at hx
  have HNX := Lib.hid hnx
  clear hnx
  go_enter Try.func25, Try.ntmps25
  go_wp2_with fail
  go_loopg [7] nx (fun gk vi wr => ∃ k : Nat, vi = .int .i64 k ∧ k + gk = nx ∧ Hid (r = fd (xs.drop k)) ∧ w = wr)
  case atStart => exact ⟨0, rfl, by omega, HR.out, rfl⟩
  case round =>
    obtain ⟨k, rfl, hkg, HK, rfl⟩ := hrel
    by_cases hlt : k < nx
    · have hltz : (k : Int) < (nx : Int) := by omega
      have hk1 : k < xs.length := by have := HNX.out; omega
      obtain ⟨b1, o1, rfl, c1⟩ := HA.out k hk1
      obtain ⟨x, hx1⟩ : ∃ x, x = xs[k] := ⟨_, rfl⟩
      rw [← hx1] at c1
      have HKK : Hid (r = lex x (fd (xs.drop (k + 1)))) := by
        show r = _
        rw [HK.out, drop_cons hk1, hx1]; rfl
      clear hx1
      by_cases hx0 : x = 0
      · subst hx0
        go_wp2_with fail
        go_roundg (gk - 1)
        case measure => omega
        case rel => exact ⟨k + 1, by go_num, by omega, by rw [HKK.out, lex, if_pos rfl]; exact Lib.hid rfl, rfl⟩
      · have hz : (x == 0) = false := by rw [beq_eq_false_iff_ne]; exact hx0
        go_wp2_with fail
        go_ret
        exact ⟨ret_int (by rw [HKK.out, lex, if_neg hx0]), rfl⟩
    · have hltz : ¬ (k : Int) < (nx : Int) := by omega
      go_wp2_with fail
      go_ret
      exact ⟨ret_int (by rw [HK.out, List.drop_eq_nil_of_le (by have := HNX.out; omega)]; rfl), rfl⟩

theorem ints_two {w : World} {g : Nat} {t : TypeId} {f : Nat × Nat} {x y : Int} (h : w.heap[g]? = some (.cells #[.int .i64 x, .int .i64 y] t f)) : Ints w (some ⟨g, 0, none⟩) [x, y] := ints_block (xs := [x, y]) h
set_option maxHeartbeats 1000000 in
theorem fd_pair (b : Nat) (x y : Int) (w : World) (h : w.heap[b]? = some (.cells #[.int .i64 x, .int .i64 y] 3 (0, 0))) :
    Calls Try.prog 25 #[.slice (some ⟨b, 0, none⟩) 2 2] w fun e w' => e = .returned (.int .i64 (lex x y)) ∧ w = w' := by
  have := firstDifference_any (some ⟨b, 0, none⟩) 2 [x, y] w (ints_two h) (by simp)
  rw [fd_two] at this
  exact this

def encIt (i : It) : Value := .agg #[.int .i64 i.time, .int .i64 i.seq, .int .i64 i.slot]
set_option maxHeartbeats 4000000 in
set_option maxRecDepth 100000 in
theorem CompareItems_any (i j : It) (w : World) :
    Calls Try.prog 13 #[encIt i, encIt j] w fun e w' => e = .returned (.int .i64 (cmpIt i j)) ∧ Grown w w' := by
  obtain ⟨t1, s1, q1⟩ := i
  obtain ⟨t2, s2, q2⟩ := j
  unfold encIt cmpIt
  simp only
  have h1 := Compare_any
  have h3 := fd_pair
  generalize cmpI = ci at *
  generalize lex = lx at *
  have H1 := Lib.hid h1; have H3 := Lib.hid h3
  clear h1 h3
  go_enter Try.func13, Try.ntmps13
  go_wp2_with fail
  have hg : Grown w ((w.alloc (.cells #[.int .i64 t1, .int .i64 s1, .int .i64 q1] 23)).alloc (.cells #[.int .i64 t2, .int .i64 s2, .int .i64 q2] 23)) := ((Grown.refl w).alloc _).alloc _
  have hb1 := ((Upd.refl [] (w.alloc (.cells #[.int .i64 t1, .int .i64 s1, .int .i64 q1] 23))).alloc (.cells #[.int .i64 t2, .int .i64 s2, .int .i64 q2] 23)).at (heap_alloc1 w _) (by simp)
  have hb2 := heap_alloc2 w (.cells #[.int .i64 t1, .int .i64 s1, .int .i64 q1] 23) (.cells #[.int .i64 t2, .int .i64 s2, .int .i64 q2] 23)
  generalize ((w.alloc (.cells #[.int .i64 t1, .int .i64 s1, .int .i64 q1] 23)).alloc (.cells #[.int .i64 t2, .int .i64 s2, .int .i64 q2] 23)) = wq at *
  have a0 := cell_block hb1 0
  have a1 := cell_block hb1 1
  have b0 := cell_block hb2 0
  have b1 := cell_block hb2 1
  simp only [List.getElem?_toArray, List.getElem?_cons_zero, List.getElem?_cons_succ] at a0 a1 b0 b1
  have H4 : Hid (∀ x y : Int, Calls Try.prog 25 #[.slice (some ⟨wq.heap.size, 0, none⟩) 2 2] (wq.alloc (.cells #[.int .i64 x, .int .i64 y] 3)).drew fun e w' => e = .returned (.int .i64 (lx x y)) ∧ (wq.alloc (.cells #[.int .i64 x, .int .i64 y] 3)).drew = w') := fun x y => H3.out wq.heap.size x y _ (heap_alloc1 wq _)
  have HG := Lib.hid hg
  clear hg hb1 hb2
  go_region_held3 (fun wz => wz.cell? ⟨w.heap.size, 0, none⟩ = some (.int .i64 t1) ∧ wz.cell? ⟨w.heap.size, 1, none⟩ = some (.int .i64 s1) ∧ wz.cell? ⟨w.heap.size + 1, 0, none⟩ = some (.int .i64 t2) ∧ wz.cell? ⟨w.heap.size + 1, 1, none⟩ = some (.int .i64 s2)) (first | exact ⟨a0, a1, b0, b1⟩ | exact ⟨((Upd.refl [] wq).alloc _).drew.cell a0 (by simp), ((Upd.refl [] wq).alloc _).drew.cell a1 (by simp), ((Upd.refl [] wq).alloc _).drew.cell b0 (by simp), ((Upd.refl [] wq).alloc _).drew.cell b1 (by simp)⟩) (first | (go_at_call 26; refine (H1.out _ _ _).mono ?_; rintro e w' ⟨rfl, rfl⟩) | (go_at_call 25; refine (H4.out _ _).mono ?_; rintro e w' ⟨rfl, rfl⟩))
  all_goals go_wp2_with fail
  all_goals go_ret
  all_goals exact ⟨rfl, (HG.out.alloc _).drew⟩

/-- An event as it lies: its key at ka, of capacity kc. -/
structure EvR where
  ev : Ev
  ka : Option Addr
  kc : Nat
  deriving Inhabited
def encR (r : EvR) : List Value := [.int .i64 r.ev.time, .slice r.ka r.ev.key.length r.kc, .int .i64 r.ev.lp, .int .i64 r.ev.kind, .int .i64 r.ev.proc, .int .i64 r.ev.arg]
theorem encR_len (r : EvR) : (encR r).length = 6 := rfl

set_option maxHeartbeats 4000000 in
set_option maxRecDepth 100000 in
theorem CompareEvents_any (r s : EvR) (w : World) (hr : Ints w r.ka r.ev.key) (hs : Ints w s.ka s.ev.key) (hrl : r.ev.key.length ≤ 1000000) (hsl : s.ev.key.length ≤ 1000000) :
    Calls Try.prog 11 #[.agg (encR r).toArray, .agg (encR s).toArray] w fun e w' => e = .returned (.int .i64 (cmpE r.ev s.ev)) ∧ Grown w w' := by
  obtain ⟨⟨t1, k1, l1, d1, p1, g1⟩, a1, c1⟩ := r
  obtain ⟨⟨t2, k2, l2, d2, p2, g2⟩, a2, c2⟩ := s
  unfold encR cmpE
  simp only at hr hs hrl hsl ⊢
  have h1 := Compare_any
  have h2 := fun W (hu : Upd [] w W) => CompareKeys_any a1 a2 c1 c2 k1 k2 W (hr.stay hu) (hs.stay hu) hrl hsl
  have h3 := fd_pair
  clear hr hs hrl hsl
  generalize cmpI = ci at *
  generalize lex = lx at *
  generalize cmpK k1 k2 = ck at *
  generalize k1.length = n1 at *
  generalize k2.length = n2 at *
  have H1 := Lib.hid h1; have H2 := Lib.hid h2; have H3 := Lib.hid h3
  clear h1 h2 h3
  go_enter Try.func11, Try.ntmps11
  go_wp2_with fail
  generalize hA : (Obj.cells #[.int .i64 t1, .slice a1 n1 c1, .int .i64 l1, .int .i64 d1, .int .i64 p1, .int .i64 g1] 30 : Obj) = A
  generalize hB : (Obj.cells #[.int .i64 t2, .slice a2 n2 c2, .int .i64 l2, .int .i64 d2, .int .i64 p2, .int .i64 g2] 30 : Obj) = B
  have hg : Grown w ((w.alloc A).alloc B) := ((Grown.refl w).alloc _).alloc _
  have hb1 := ((Upd.refl [] (w.alloc A)).alloc B).at (heap_alloc1 w A) (by simp)
  have hb2 := heap_alloc2 w A B
  generalize (w.alloc A).alloc B = wq at *
  rw [← hA] at hb1
  rw [← hB] at hb2
  have x0 := cell_block hb1 0
  have x1 := cell_block hb1 1
  have y0 := cell_block hb2 0
  have y1 := cell_block hb2 1
  simp only [List.getElem?_toArray, List.getElem?_cons_zero, List.getElem?_cons_succ] at x0 x1 y0 y1
  have H4 : Hid (∀ x y : Int, Calls Try.prog 25 #[.slice (some ⟨wq.heap.size, 0, none⟩) 2 2] (wq.alloc (.cells #[.int .i64 x, .int .i64 y] 3)).drew fun e w' => e = .returned (.int .i64 (lx x y)) ∧ (wq.alloc (.cells #[.int .i64 x, .int .i64 y] 3)).drew = w') := fun x y => H3.out wq.heap.size x y _ (heap_alloc1 wq _)
  have H5 : Hid (∀ W, Upd [] wq W → Calls Try.prog 15 #[.slice a1 n1 c1, .slice a2 n2 c2] W fun e w' => e = .returned (.int .i64 ck) ∧ W = w') := fun W hu => H2.out W (hg.upd.trans hu (by simp))
  have HG := Lib.hid hg
  clear hg hb1 hb2 hA hB A B
  go_region_held3 (fun wz => wz.cell? ⟨w.heap.size, 0, none⟩ = some (.int .i64 t1) ∧ wz.cell? ⟨w.heap.size, 1, none⟩ = some (.slice a1 n1 c1) ∧ wz.cell? ⟨w.heap.size + 1, 0, none⟩ = some (.int .i64 t2) ∧ wz.cell? ⟨w.heap.size + 1, 1, none⟩ = some (.slice a2 n2 c2)) (first | exact ⟨x0, x1, y0, y1⟩ | exact ⟨((Upd.refl [] wq).alloc _).drew.cell x0 (by simp), ((Upd.refl [] wq).alloc _).drew.cell x1 (by simp), ((Upd.refl [] wq).alloc _).drew.cell y0 (by simp), ((Upd.refl [] wq).alloc _).drew.cell y1 (by simp)⟩) (first | (go_at_call 26; refine (H1.out _ _ _).mono ?_; rintro e w' ⟨rfl, rfl⟩) | (go_at_call 15; refine (H5.out _ (by first | exact Upd.refl _ _ | exact (Upd.refl _ _).drew)).mono ?_; rintro e w' ⟨rfl, rfl⟩) | (go_at_call 25; refine (H4.out _ _).mono ?_; rintro e w' ⟨rfl, rfl⟩))
  all_goals go_wp2_with fail
  all_goals go_ret
  all_goals exact ⟨rfl, (HG.out.alloc _).drew⟩
end Go.Proofs.Ytdkkgajamogmeaa
