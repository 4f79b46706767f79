/- Contracts: the small functions of package sched, RoundRobin, Random, and Same and Threads of the laws. -/
import Derived.Test.YtbpkigdelfgafaaG
import Derived.Test.YtbpkigdelfgafaaSM
namespace Go.Proofs.Ytbpkigdelfgafaa
open Go.RowKit

set_option maxHeartbeats 400000 in
theorem validThreads_yes (n : Nat) (h1 : 1 ≤ n) (h2 : n ≤ 64) (w : World) :
    Calls Try.prog 21 #[.int .i64 n] w fun e w' => e = .returned (.bool true) ∧ w = w' := by
  have d1 : decide (1 ≤ (n : Int)) = true := by simp; omega
  have d2 : decide ((n : Int) ≤ 64) = true := by simp; omega
  go_enter Try.func21, Try.ntmps21
  go_wp2
  go_ret
  exact ⟨by simp, rfl⟩
set_option maxHeartbeats 400000 in
theorem validLength_yes (n : Nat) (h2 : n ≤ 65536) (w : World) :
    Calls Try.prog 22 #[.int .i64 n] w fun e w' => e = .returned (.bool true) ∧ w = w' := by
  have d1 : decide (0 ≤ (n : Int)) = true := by simp
  have d2 : decide ((n : Int) ≤ 65536) = true := by simp; omega
  go_enter Try.func22, Try.ntmps22
  go_wp2
  go_ret
  exact ⟨by simp, rfl⟩
set_option maxHeartbeats 400000 in
theorem isThread_yes (k n : Nat) (h2 : k < n) (w : World) :
    Calls Try.prog 24 #[.int .i64 k, .int .i64 n] w fun e w' => e = .returned (.bool true) ∧ w = w' := by
  have d1 : decide (0 ≤ (k : Int)) = true := by simp
  have d2 : decide ((k : Int) < (n : Int)) = true := by simp; omega
  go_enter Try.func24, Try.ntmps24
  go_wp2
  go_ret
  exact ⟨by simp, rfl⟩
set_option maxHeartbeats 400000 in
theorem Threads_any (x : Int) (h : 0 ≤ x ∧ x < 256) (w : World) :
    Calls Try.prog 10 #[.int .u8 x] w fun e w' => e = .returned (.int .i64 (((x % 8).toNat + 1 : Nat) : Int)) ∧ w = w' := by
  obtain ⟨h0, h1⟩ := h
  go_enter Try.func10, Try.ntmps10
  go_wp2
  go_ret
  exact ⟨ret_int (by omega), rfl⟩

def FillRel (xs : Nat → List Int) (w : World) (b m g : Nat) (i : Value) (wr : World) : Prop :=
  ∃ k, i = .int .i64 (k : Nat) ∧ k + g = m ∧ wr.heap[b]? = some (.cells (icells (xs k ++ List.replicate (m - k) 0)) 3 (0, 0)) ∧ Upd [] w wr
theorem fill_block {w wr : World} {b m k : Nat} {pre : List Int} {x : Int} (hp : pre.length = k) (hk : k < m) (h : wr.heap[b]? = some (.cells (icells (pre ++ List.replicate (m - k) 0)) 3 (0, 0))) (_hu : Upd [] w wr) :
    (wr.setCell ⟨b, k, none⟩ (.int .i64 x)).heap[b]? = some (.cells (icells ((pre ++ [x]) ++ List.replicate (m - (k + 1)) 0)) 3 (0, 0)) := by
  rw [setCell_block h, icells_set, fill_step pre m k x hp hk]

set_option maxRecDepth 100000 in
set_option maxHeartbeats 1000000 in
theorem RoundRobin_any (f n m : Nat) (hf : f < n) (hn : n ≤ 64) (hm : m ≤ 65536) (w : World) :
    Calls Try.prog 15 #[.int .i64 f, .int .i64 n, .int .i64 m] w (Gives (rrL f n m) w) := by
  have hmk := mkAny 26 3 (.int .i64 0) 1 8 Try.underlying26 infoInt m (by omega) (by omega) (icells (List.replicate m (0 : Int))) (madeInts m)
  generalize hZ : icells (List.replicate m (0 : Int)) = Z at *
  have HZ := Lib.hid hZ; clear hZ
  go_enter Try.func15, Try.ntmps15
  go_wp2_with fail
  refine (validThreads_yes n (by omega) hn _).mono ?_
  rintro e w' ⟨rfl, rfl⟩
  go_wp2_with fail
  refine (validLength_yes m hm _).mono ?_
  rintro e w' ⟨rfl, rfl⟩
  go_wp2_with fail
  refine (isThread_yes f n hf _).mono ?_
  rintro e w' ⟨rfl, rfl⟩
  go_wp2_with fail
  go_loopg [26] m (fun g i wr => FillRel (rrL f n) w w.heap.size m g i wr)
  case atStart =>
    refine ⟨0, rfl, by omega, ?_, (Upd.refl [] w).alloc _⟩
    rw [heap_alloc1, ← HZ.out]; rfl
  case round =>
    obtain ⟨k, rfl, hkg, hb, hU⟩ := hrel
    have HB := Lib.hid hb; have HU := Lib.hid hU
    by_cases hk : k < m
    · have hl := fill_length (rrL f n k) m k (rrL_length _ _ _) (by omega)
      obtain ⟨v, cc⟩ := icell_some hb k (by omega)
      have ff := free_block hb k
      clear hb hU hl
      go_wp2_with fail
      go_roundg (gk - 1)
      case measure => omega
      case rel =>
        refine ⟨k + 1, by go_num, by omega, ?_, HU.out.setCell (by simp) _⟩
        have := fill_block (x := (((f + k) % n : Nat) : Int)) (rrL_length _ _ _) hk HB.out HU.out
        rw [rrL_succ]
        rw [show (((f + k) % n : Nat) : Int) = ((f : Int) + k) % n by push_cast; rfl] at this ⊢
        exact this
    · obtain rfl : k = m := by omega
      clear hb hU
      go_wp2_with fail
      go_ret
      exact gives (rrL_length _ _ _).symm (Nat.le_refl _) (ints_block (by have := HB.out; rw [fill_end] at this; exact this)) HU.out

set_option maxHeartbeats 400000 in
theorem generator_any (s : Int) (w : World) :
    Calls Try.prog 23 #[.int .u32 s] w fun e w' => e = .returned (.func (.func 31) #[] #[.pointer (some ⟨w.heap.size, 0, none⟩)]) ∧ w'.heap[w.heap.size]? = some (.cells #[.int .u32 s] 22 (0, 0)) ∧ Upd [] w w' := by
  have hmf : ∀ (fn : Fn) (first cap : Array Value) (w : World), (Instr.makeFunc fn first cap).run Try.prog w = .ok (.func fn first cap) w := fun _ _ _ _ => rfl
  go_enter Try.func23, Try.ntmps23
  go_wp2
  go_ret
  exact ⟨rfl, heap_alloc1 _ _, (Upd.refl [] w).alloc _⟩

set_option maxHeartbeats 400000 in
theorem next_any (b : Nat) (x : Int) (_hx : 0 ≤ x ∧ x < 4294967296) (w : World) (hb : w.heap[b]? = some (.cells #[.int .u32 x] 22 (0, 0))) :
    Calls Try.prog 31 #[.pointer (some ⟨b, 0, none⟩)] w fun e w' => e = .returned (.int .u32 (lcg x)) ∧ w'.heap[b]? = some (.cells #[.int .u32 (lcg x)] 22 (0, 0)) ∧ Upd [b] w w' := by
  have c0 := cell_block hb 0
  have f0 := free_block hb 0
  have HB := Lib.hid hb; clear hb
  simp only [List.getElem?_toArray, List.getElem?_cons_zero] at c0
  go_enter Try.func31, Try.ntmps31
  go_wp2
  go_ret
  exact ⟨rfl, by rw [setCell_block HB.out]; rfl, (Upd.refl _ _).setCell (by simp) _⟩

def RndRel (s : Int) (n : Nat) (w : World) (gb b m g : Nat) (i : Value) (wr : World) : Prop :=
  ∃ k, i = .int .i64 (k : Nat) ∧ k + g = m ∧ wr.heap[b]? = some (.cells (icells (rndL s n k ++ List.replicate (m - k) 0)) 3 (0, 0)) ∧ wr.heap[gb]? = some (.cells #[.int .u32 (lcgN s k)] 22 (0, 0)) ∧ Upd [] w wr
theorem lcgN_bd (s : Int) (hs : 0 ≤ s ∧ s < 4294967296) (k : Nat) : 0 ≤ lcgN s k ∧ lcgN s k < 4294967296 := by
  cases k with
  | zero => exact hs
  | succ k => exact lcg_bd _

set_option maxRecDepth 100000 in
set_option maxHeartbeats 1000000 in
theorem Random_some (s : Int) (hs : 0 ≤ s ∧ s < 4294967296) (n m : Nat) (hn0 : 1 ≤ n) (hn : n ≤ 64) (hm : m ≤ 65536) (w : World) :
    Calls Try.prog 13 #[.int .u32 s, .int .i64 n, .int .i64 m] w fun e w' => ∃ b, e = .returned (.slice (some ⟨b, 0, none⟩) m m) ∧ Ints w' (some ⟨b, 0, none⟩) (rndL s n m) ∧ Upd [] w w' := by
  have hmk := mkAny 26 3 (.int .i64 0) 1 8 Try.underlying26 infoInt m (by omega) (by omega) (icells (List.replicate m (0 : Int))) (madeInts m)
  generalize hZ : icells (List.replicate m (0 : Int)) = Z at *
  have HZ := Lib.hid hZ; clear hZ
  go_enter Try.func13, Try.ntmps13
  go_wp2_with fail
  refine (validThreads_yes n (by omega) hn _).mono ?_
  rintro e w' ⟨rfl, rfl⟩
  go_wp2_with fail
  refine (validLength_yes m hm _).mono ?_
  rintro e w' ⟨rfl, rfl⟩
  go_wp2_with fail
  refine (generator_any s _).mono ?_
  rintro e w1 ⟨rfl, hg, hu1⟩
  have HG := Lib.hid hg; clear hg
  go_wp2_with fail
  have hgl := lt_block HG.out
  go_loopg [23] m (fun g i wr => RndRel s n w w.heap.size w1.heap.size m g i wr)
  case atStart =>
    refine ⟨0, rfl, by omega, ?_, ((Upd.refl [] w1).alloc _).at HG.out (by simp), hu1.alloc _⟩
    rw [heap_alloc1, ← HZ.out]; rfl
  case round =>
    obtain ⟨k, rfl, hkg, hb, hg, hU⟩ := hrel
    have HB := Lib.hid hb; have HU := Lib.hid hU; have HGG := Lib.hid hg
    by_cases hk : k < m
    · clear hb hU hg
      have hx := lcgN_bd s hs k
      go_wp2_with fail
      refine (next_any _ _ hx _ HGG.out).mono ?_
      rintro e w2 ⟨rfl, hg2, hu2⟩
      have hx2 := lcg_bd (lcgN s k)
      have hb2 := hu2.at HB.out (by simp; omega)
      obtain ⟨v, cc⟩ := icell_some hb2 k (by rw [fill_length _ m k (rndL_length _ _ _) (by omega)]; exact hk)
      have ff := free_block hb2 k
      have HG2 := Lib.hid hg2; have HB2 := Lib.hid hb2
      clear hg2 hb2
      have hx3 : 0 ≤ lcg (lcgN s k) := hx2.1
      have hx4 : lcg (lcgN s k) < 4294967296 := hx2.2
      go_wp2_with fail
      go_roundg (gk - 1)
      case measure => omega
      case rel =>
        refine ⟨k + 1, by go_num, by omega, ?_, ?_, (HU.out.trans hu2 (by simp)).setCell (by simp; omega) _⟩
        · rw [rndL_succ]
          exact fill_block (rndL_length _ _ _) hk HB2.out (HU.out.trans hu2 (by simp))
        · rw [Below.heap_setCell _ _ _ _ (show w.heap.size ≠ w1.heap.size by omega)]
          exact HG2.out
    · obtain rfl : k = m := by omega
      clear hb hU hg
      go_wp2_with fail
      go_ret
      exact ⟨_, rfl, ints_block (by have := HB.out; rw [fill_end] at this; exact this), HU.out⟩
theorem Random_any (s : Int) (hs : 0 ≤ s ∧ s < 4294967296) (n m : Nat) (hn0 : 1 ≤ n) (hn : n ≤ 64) (hm : m ≤ 65536) (w : World) :
    Calls Try.prog 13 #[.int .u32 s, .int .i64 n, .int .i64 m] w (Gives (rndL s n m) w) :=
  (Random_some s hs n m hn0 hn hm w).mono fun e w' ⟨b, he, hi, hu⟩ => by subst he; exact gives (rndL_length _ _ _).symm (Nat.le_refl _) hi hu

def eqL (xs ys : List Int) : Bool := decide (xs = ys)
def SameRel (xs ys : List Int) (w : World) (g : Nat) (i : Value) (wr : World) : Prop :=
  ∃ k, i = .int .i64 (k : Nat) ∧ k + g = xs.length ∧ xs.take k = ys.take k ∧ Upd [] w wr
set_option maxRecDepth 100000 in
set_option maxHeartbeats 1000000 in
theorem Same_any (a1 a2 : Option Addr) (c1 c2 : Nat) (xs ys : List Int) (w : World) (h1 : Ints w a1 xs) (h2 : Ints w a2 ys) (_l1 : xs.length ≤ 100000) (_l2 : ys.length ≤ 100000) :
    Calls Try.prog 12 #[.slice a1 xs.length c1, .slice a2 ys.length c2] w fun e w' => e = .returned (.bool (eqL xs ys)) ∧ Upd [] w w' := by
  have H1 := Lib.hid h1; have H2 := Lib.hid h2; clear h1 h2
  by_cases hl : xs.length = ys.length
  · have hd : ((xs.length : Int) != ys.length) = false := by simp; omega
    have HL := Lib.hid hl; clear hl
    go_enter Try.func12, Try.ntmps12
    go_wp2_with fail
    go_loopg [5] xs.length (fun g i wr => SameRel xs ys w g i wr)
    case atStart => exact ⟨0, rfl, by omega, by simp, Upd.refl _ _⟩
    case round =>
      obtain ⟨k, rfl, hkg, ht, hU⟩ := hrel
      have HT := Lib.hid ht; have HU := Lib.hid hU; clear ht hU
      by_cases hk : k < xs.length
      · have hk2 : k < ys.length := by have := HL.out; omega
        obtain ⟨b, off, rfl, cx⟩ := (H1.out.stay HU.out) k hk
        obtain ⟨b2, off2, rfl, cy⟩ := (H2.out.stay HU.out) k hk2
        generalize hx : xs[k] = x at *
        generalize hy : ys[k] = y at *
        have HX := Lib.hid hx; have HY := Lib.hid hy; clear hx hy
        by_cases hxy : x = y
        · have hne : (x != y) = false := by simpa using hxy
          have HXY := Lib.hid hxy; clear hxy
          go_wp2_with fail
          go_quiet (fail)
          all_goals go_wp2_with fail
          go_roundg (gk - 1)
          case measure => omega
          case rel => exact ⟨k + 1, by go_num, by omega, by rw [List.take_succ_eq_append_getElem hk, List.take_succ_eq_append_getElem hk2, HT.out, HX.out, HY.out, HXY.out], HU.out.drewN _⟩
        · have hne : (x != y) = true := by simpa using hxy
          have HXY := Lib.hid hxy; clear hxy
          go_wp2_with fail
          go_quiet (fail)
          all_goals go_wp2_with fail
          go_ret
          refine ⟨?_, HU.out.drewN _⟩
          have : eqL xs ys = false := by
            simp only [eqL, decide_eq_false_iff_not]
            intro he
            subst he
            exact HXY.out (HX.out.symm.trans HY.out)
          rw [this]
          rfl
      · go_wp2_with fail
        go_ret
        refine ⟨?_, HU.out⟩
        have : eqL xs ys = true := by
          simp only [eqL, decide_eq_true_eq]
          have := HT.out
          have := HL.out
          rwa [List.take_of_length_le (by omega), List.take_of_length_le (by omega)] at *
        rw [this]
        rfl
  · have hd : ((xs.length : Int) != ys.length) = true := by simp; omega
    have HL := Lib.hid hl; clear hl
    go_enter Try.func12, Try.ntmps12
    go_wp2_with fail
    go_ret
    refine ⟨?_, Upd.refl _ _⟩
    have : eqL xs ys = false := by
      simp only [eqL, decide_eq_false_iff_not]
      intro he
      exact HL.out (by rw [he])
    rw [this]
    rfl
end Go.Proofs.Ytbpkigdelfgafaa
