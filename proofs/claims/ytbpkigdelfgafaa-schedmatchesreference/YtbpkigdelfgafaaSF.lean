/- Contracts: the windows of package sched, a range function. -/
import Derived.Test.YtbpkigdelfgafaaSE
import Derived.RangeFuncNested
import Derived.RangeFuncBound
import Derived.RangeFuncCalls
import Derived.RangeFuncLeaves
import Derived.Shelf.Abstract
import Derived.Shelf.RegionOpen
import Derived.OwnWalkIn
import Derived.TacticsInMore
import Derived.LoopNIn
import Derived.LoopIn
import Derived.Sort.CutIn
namespace Go.Proofs.Ytbpkigdelfgafaa
open Go.RowKit Go.Shelf

set_option maxHeartbeats 400000 in
theorem windows_any (a : Option Addr) (len cap : Nat) (v : Int) (w : World) :
    Calls Try.prog 27 #[.slice a len cap, .int .i64 v] w fun e w' => e = .returned (.func (.func 32) #[] #[.pointer (some ⟨w.heap.size + 1, 0, none⟩), .pointer (some ⟨w.heap.size, 0, none⟩)]) ∧
      w' = (w.alloc (.cells #[.slice a len cap] 26)).alloc (.cells #[.int .i64 v] 3) := by
  have hmf : ∀ (fn : Fn) (first cap : Array Value) (w : World), (Instr.makeFunc fn first cap).run Try.prog w = .ok (.func fn first cap) w := fun _ _ _ _ => rfl
  go_enter Try.func27, Try.ntmps27
  go_wp2
  go_ret
  exact ⟨rfl, rfl⟩

/-- The places at which a window of v picks begins, among L picks. -/
abbrev Wx (L v : Nat) := { i : Nat // i + v ≤ L }
def wxs {L v : Nat} (pre : List (Wx L v)) (k : Nat) : Prop := pre.map (·.1) = List.range k
theorem wxs_succ {L v : Nat} {pre : List (Wx L v)} {k : Nat} (h : wxs pre k) (hk : k + v ≤ L) : wxs (pre ++ [⟨k, hk⟩]) (k + 1) := by
  unfold wxs at *
  rw [List.map_append, h, List.range_succ]; rfl
def wenc (b off cap L v : Nat) (x : Wx L v) : Array Value := #[.slice (some ⟨b, off + x.1, none⟩) v (cap - x.1)]

set_option maxRecDepth 100000 in
set_option maxHeartbeats 2000000 in
theorem windows1_in (n : Nat) (hn : 1 ≤ n) (l Bp Bv b off L cap v : Nat) (hv0 : 1 ≤ v) (hv : v ≤ L) (hL : L ≤ 65536) (hc : L ≤ cap) (Kp : World → World → Prop)
    (hK : ∀ A B, Kp A B → B.heap[Bp]? = A.heap[Bp]? ∧ B.heap[Bv]? = A.heap[Bv]?) (J Jx : List (Wx L v) → World → Prop)
    (hY : ∀ pre x W, J pre W → pre.length < L - v + 1 → YieldAt Fence.wide (n - 1) Try.prog l (wenc b off cap L v x) W fun e W' =>
      (e = .returned (.bool true) ∧ J (pre ++ [x]) W' ∧ Kp W W') ∨ (e = .returned (.bool false) ∧ Jx (pre ++ [x]) W'))
    (W : World) (hBp : W.heap[Bp]? = some (.cells #[.slice (some ⟨b, off, none⟩) L cap] 26 (0, 0))) (hBv : W.heap[Bv]? = some (.cells #[.int .i64 v] 3 (0, 0))) (h0 : J [] W) :
    CallsIn Fence.wide n Try.prog 32 #[.func (.yield l) #[] #[], .pointer (some ⟨Bv, 0, none⟩), .pointer (some ⟨Bp, 0, none⟩)] W fun e W' => (∃ v, e = .returned v) ∧
      ((∃ ys, wxs ys (L - v + 1) ∧ J ys W') ∨ (∃ pre, (∃ k, k ≤ L - v + 1 ∧ wxs pre k) ∧ Jx pre W')) := by
  have c0 := cell_block hBv 0
  simp only [List.getElem?_toArray, List.getElem?_cons_zero] at c0
  have HP := Lib.hid hBp; have HV := Lib.hid hBv; have HY := Lib.hid hY; have HK := Lib.hid hK
  clear hBp hBv hY hK
  refine callsIn_of_wp Try.func32 rfl trivial ?_ rfl
  simp only [Try.ntmps32, List.size_toArray, List.length_cons, List.length_nil, Nat.reduceAdd, Nat.reduceSub, Array.replicate_succ, Array.replicate_zero, List.push_toArray, List.append_toArray, List.nil_append, List.cons_append]
  gi_wp2
  gi_loopw [4] (fun i wr => ∃ (k : Nat) (pre : List (Wx L v)), k + v ≤ L + 1 ∧ i = .int .i64 (v + k : Nat) ∧ wxs pre k ∧ J pre wr ∧ wr.heap[Bp]? = some (.cells #[.slice (some ⟨b, off, none⟩) L cap] 26 (0, 0)) ∧ wr.heap[Bv]? = some (.cells #[.int .i64 v] 3 (0, 0)))
    (fun i _ => L + 1 - (intOf i).toNat)
  case atStart => exact ⟨0, [], by omega, rfl, rfl, h0, HP.out, HV.out⟩
  case round =>
    obtain ⟨k, pre, hk, rfl, hpre, hJs, hp, hvv⟩ := hrel
    have d0 := cell_block hp 0
    have d1 := cell_block hvv 0
    simp only [List.getElem?_toArray, List.getElem?_cons_zero] at d0 d1
    have HPR := Lib.hid hpre; have HP2 := Lib.hid hp; have HV2 := Lib.hid hvv; clear hpre hp hvv c0
    by_cases hlt : v + k ≤ L
    · have hx : k + v ≤ L := by omega
      obtain ⟨fn, tmps, assign, body, hy, hR⟩ := HY.out pre ⟨k, hx⟩ wr hJs (by have := congrArg List.length HPR.out; simp at this; omega)
      dsimp only [wenc] at hy
      gi_wp2
      refine hR.mono ?_
      rintro e W3 (⟨rfl, hJ3, hk3⟩ | ⟨rfl, hJx3⟩)
      · have HK3 := Lib.hid (HK.out _ _ hk3)
        clear hk3
        gi_wp2
        go_roundw
        case rel => exact ⟨k + 1, _, by omega, by go_num, wxs_succ HPR.out hx, hJ3, HK3.out.1.trans HP2.out, HK3.out.2.trans HV2.out⟩
        case measure => simp [intOf]; omega
      · gi_wp2
        refine bodyPost_ret (results_none rfl _ _ _) rfl ?_
        exact ⟨⟨_, rfl⟩, .inr ⟨_, ⟨k + 1, by omega, wxs_succ HPR.out hx⟩, hJx3⟩⟩
    · gi_wp2
      go_end0
      obtain rfl : L - v + 1 = k := by omega
      exact ⟨⟨_, rfl⟩, .inl ⟨_, HPR.out, hJs⟩⟩

theorem windows_stops (n : Nat) (hn : 1 ≤ n) (Bp Bv b off L cap v : Nat) (hv0 : 1 ≤ v) (hv : v ≤ L) (hL : L ≤ 65536) (hc : L ≤ cap) (Kp : World → World → Prop)
    (hK : ∀ A B, Kp A B → B.heap[Bp]? = A.heap[Bp]? ∧ B.heap[Bv]? = A.heap[Bv]?) (w : World) (hBp : w.heap[Bp]? = some (.cells #[.slice (some ⟨b, off, none⟩) L cap] 26 (0, 0))) (hBv : w.heap[Bv]? = some (.cells #[.int .i64 v] 3 (0, 0))) :
    SeqStopsK Fence.wide n Try.prog 32 #[.pointer (some ⟨Bv, 0, none⟩), .pointer (some ⟨Bp, 0, none⟩)] (wenc b off cap L v) Kp (fun ys => wxs ys (L - v + 1)) (fun pre => ∃ k, k ≤ L - v + 1 ∧ wxs pre k) (L - v + 1) w := fun l J Jx W hW _ _ hY h0 =>
  windows1_in n hn l Bp Bv b off L cap v hv0 hv hL hc Kp hK J Jx hY W ((hW.block Bp (lt_block hBp)).trans hBp) ((hW.block Bv (lt_block hBv)).trans hBv) h0

/-- The boxes of Fair: the threads, the window, the result, the tally's pointer. -/
def Boxes (B n v p q : Nat) (r : Bool) (w : World) : Prop :=
  w.heap[B]? = some (.cells #[.int .i64 n] 3 (0, 0)) ∧ w.heap[B + 1]? = some (.cells #[.int .i64 v] 3 (0, 0)) ∧ w.heap[B + 1 + 1]? = some (.cells #[.bool r] 4 (0, 0)) ∧ w.heap[q]? = some (.cells #[.pointer (some ⟨p, 0, none⟩)] 42 (0, 0))
theorem Boxes.keep {S : List Nat} {B n v p q : Nat} {r : Bool} {w w' : World} (h : Boxes B n v p q r w) (hu : Upd S w w') (h0 : B ∉ S) (h1 : B + 1 ∉ S) (h2 : B + 1 + 1 ∉ S) (h3 : q ∉ S) : Boxes B n v p q r w' :=
  ⟨hu.at h.1 h0, hu.at h.2.1 h1, hu.at h.2.2.1 h2, hu.at h.2.2.2 h3⟩

set_option maxRecDepth 100000 in
set_option maxHeartbeats 2000000 in
theorem Fair_short (ad : Option Addr) (cp : Nat) (l : List Int) (n v : Nat) (hn0 : 1 ≤ n) (hn : n ≤ 64) (hv0 : 1 ≤ v) (_hv : v ≤ 100000) (_hl : l.length ≤ 65536) (hlt : l.length < v) (w : World) :
    Calls Try.prog 17 #[.slice ad l.length cp, .int .i64 n, .int .i64 v] w fun e w' => e = .returned (.bool (fairB n v l)) ∧ Upd [] w w' := by
  have hf : fairB n v l = true := (fairB_iff _ _ _).2 (by intro i hi; omega)
  rw [hf]
  have hd : decide ((v : Int) < 1) = false := by simp; omega
  go_enter Try.func17, Try.ntmps17
  go_wp2_with fail
  refine (validThreads_yes n (by omega) hn _).mono ?_
  rintro e w' ⟨rfl, rfl⟩
  go_wp2_with fail
  exact bodyPost_ret (v := .bool true) (by simp [results, Try.results17, go_sem]) rfl ⟨rfl, (((Upd.refl [] w).alloc _).alloc _).alloc _⟩
end Go.Proofs.Ytbpkigdelfgafaa
