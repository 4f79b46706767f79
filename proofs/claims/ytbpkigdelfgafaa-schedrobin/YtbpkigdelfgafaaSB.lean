/- Contracts: the reference's Random and RoundRobin, Picks: loops that append. -/
import Derived.Test.YtbpkigdelfgafaaSA
namespace Go.Proofs.Ytbpkigdelfgafaa
open Go.RowKit

def AppRel (xs : Nat → List Int) (w : World) (m g : Nat) (v i : Value) (wr : World) : Prop :=
  ∃ k, i = .int .i64 (k : Nat) ∧ k + g = m ∧ wr.ownsRow w.heap.size 3 1 v k ((xs k).map (Value.int .i64)) ∧ Upd [] w wr

set_option maxRecDepth 100000 in
set_option maxHeartbeats 1000000 in
theorem RRR_any (f n m : Nat) (hf : f < n) (hn : n ≤ 64) (hm : m ≤ 65536) (w : World) :
    Calls Try.prog 16 #[.int .i64 f, .int .i64 n, .int .i64 m] w (Gives (rrL f n m) w) := by
  go_enter Try.func16, Try.ntmps16
  go_wp2_with fail
  go_loopg [7, 8] m (fun g v i wr => AppRel (rrL f n) w m g v i wr)
  case atStart => exact ⟨0, rfl, by omega, World.ownsRow_nil _ _ _ _, Upd.refl _ _⟩
  case round =>
    obtain ⟨k, rfl, hkg, hr, hU⟩ := hrel
    have HR := Lib.hid hr; have HU := Lib.hid hU
    by_cases hk : k < m
    · have hsz := hU.size
      clear hr hU
      go_wp2_with (at_builtin; refine app_int rfl _ _ rfl w.heap.size _ k (rrL f n k) rfl (by exact HR.out.alloc _) _ _ rfl (heap_alloc1 _ _) (by omega) (by simp; omega) ?_; intro g cap w1 hown hgrow hat hlt; have HO := Lib.hid hown; have HG := Lib.hid hgrow; clear hown hgrow hat)
      go_roundg (gk - 1)
      case measure => omega
      case rel =>
        refine ⟨k + 1, by go_num, by omega, ?_, app_upd HU.out HR.out HG.out⟩
        rw [rrL_succ]
        exact HO.out
    · obtain rfl : k = m := by omega
      clear hr hU
      go_wp2_with fail
      go_ret
      exact gives_row HR.out HU.out

def AppRelX (s : Int) (n : Nat) (w : World) (m g : Nat) (x v i : Value) (wr : World) : Prop :=
  ∃ k, i = .int .i64 (k : Nat) ∧ k + g = m ∧ x = .int .u32 (lcgN s k) ∧ wr.ownsRow w.heap.size 3 1 v k ((rndL s n k).map (Value.int .i64)) ∧ Upd [] w wr
set_option maxRecDepth 100000 in
set_option maxHeartbeats 1000000 in
theorem RRnd_any (s : Int) (hs : 0 ≤ s ∧ s < 4294967296) (n m : Nat) (hn0 : 1 ≤ n) (hn : n ≤ 64) (hm : m ≤ 65536) (w : World) :
    Calls Try.prog 14 #[.int .u32 s, .int .i64 n, .int .i64 m] w (Gives (rndL s n m) w) := by
  go_enter Try.func14, Try.ntmps14
  go_wp2_with fail
  go_loopg [7, 8, 9] m (fun g x v i wr => AppRelX s n w m g x v i wr)
  case atStart => exact ⟨0, rfl, by omega, rfl, World.ownsRow_nil _ _ _ _, Upd.refl _ _⟩
  case round =>
    obtain ⟨k, rfl, hkg, rfl, hr, hU⟩ := hrel
    have HR := Lib.hid hr; have HU := Lib.hid hU
    by_cases hk : k < m
    · have hsz := hU.size
      obtain ⟨hx0, hx1⟩ := lcgN_bd s hs k
      clear hr hU
      go_wp2_with (at_builtin; refine app_int rfl _ _ rfl w.heap.size _ k (rndL s n k) rfl (by exact HR.out.alloc _) _ _ rfl (heap_alloc1 _ _) (by omega) (by simp; omega) ?_; intro g cap w1 hown hgrow hat hlt; have HO := Lib.hid hown; have HG := Lib.hid hgrow; clear hown hgrow hat)
      go_roundg (gk - 1)
      case measure => omega
      case rel =>
        refine ⟨k + 1, by go_num, by omega, rfl, ?_, app_upd HU.out HR.out HG.out⟩
        rw [rndL_succ]
        exact HO.out
    · obtain rfl : k = m := by omega
      clear hr hU
      go_wp2_with fail
      go_ret
      exact gives_row HR.out HU.out

/-- A slice of bytes. -/
def Bytes (w : World) (ad : Option Addr) (rs : List Int) : Prop := ∀ j (h : j < rs.length), (0 ≤ rs[j] ∧ rs[j] < 256) ∧ ∃ b off, ad = some ⟨b, off, none⟩ ∧ w.cell? ⟨b, off + j, none⟩ = some (.int .u8 rs[j])
theorem Bytes.stay {w w' : World} {ad : Option Addr} {rs : List Int} (h : Bytes w ad rs) (hu : Upd [] w w') : Bytes w' ad rs := by
  intro j hj
  obtain ⟨h0, b, off, rfl, hc⟩ := h j hj
  exact ⟨h0, b, off, rfl, hu.cell hc (by simp)⟩
def pickL (n : Nat) (rs : List Int) : List Int := rs.map (· % (n : Int))
theorem pickL_length (n : Nat) (rs : List Int) : (pickL n rs).length = rs.length := by simp [pickL]
theorem pickL_succ (n : Nat) (rs : List Int) (k : Nat) (h : k < rs.length) : pickL n (rs.take (k + 1)) = pickL n (rs.take k) ++ [rs[k] % (n : Int)] := by
  rw [List.take_succ_eq_append_getElem h, pickL, List.map_append]; rfl
theorem pickL_thr (n : Nat) (rs : List Int) (hn : 0 < n) : Thr n (pickL n rs) := by
  intro x hx
  simp only [pickL, List.mem_map] at hx
  obtain ⟨y, _, rfl⟩ := hx
  have := Int.emod_nonneg y (show (n : Int) ≠ 0 by omega)
  have := Int.emod_lt_of_pos y (show (0 : Int) < n by omega)
  omega
set_option maxRecDepth 100000 in
set_option maxHeartbeats 1000000 in
theorem Picks_any (ad : Option Addr) (cp : Nat) (rs : List Int) (n : Nat) (hn0 : 1 ≤ n) (hn : n ≤ 64) (hm : rs.length ≤ 65536) (w : World) (hb : Bytes w ad rs) :
    Calls Try.prog 11 #[.slice ad rs.length cp, .int .i64 n] w (Gives (pickL n rs) w) := by
  have HB := Lib.hid hb; clear hb
  go_enter Try.func11, Try.ntmps11
  go_wp2_with fail
  go_loopg [5, 6] rs.length (fun g v i wr => AppRel (fun k => pickL n (rs.take k)) w rs.length g v i wr)
  case atStart => exact ⟨0, rfl, by omega, World.ownsRow_nil _ _ _ _, Upd.refl _ _⟩
  case round =>
    obtain ⟨k, rfl, hkg, hr, hU⟩ := hrel
    have HR := Lib.hid hr; have HU := Lib.hid hU
    by_cases hk : k < rs.length
    · have hsz := hU.size
      obtain ⟨⟨hx0, hx1⟩, b, off, rfl, hc⟩ := (HB.out.stay HU.out) k hk
      have HP := Lib.hid (pickL_succ n rs k hk)
      generalize rs[k] = x at *
      clear hr hU
      go_wp2_with (at_builtin; refine app_int rfl _ _ rfl w.heap.size _ k (pickL n (rs.take k)) rfl (by exact HR.out.alloc _) _ _ rfl (heap_alloc1 _ _) (by omega) (by simp; omega) ?_; intro g cap w1 hown hgrow hat hlt; have HO := Lib.hid hown; have HG := Lib.hid hgrow; clear hown hgrow hat)
      go_roundg (gk - 1)
      case measure => omega
      case rel =>
        refine ⟨k + 1, by go_num, by omega, ?_, app_upd HU.out HR.out HG.out⟩
        show w1.ownsRow _ _ _ _ _ ((pickL n (rs.take (k + 1))).map _)
        rw [HP.out]
        exact HO.out
    · obtain rfl : k = rs.length := by omega
      clear hr hU
      go_wp2_with fail
      go_ret
      have := HR.out
      rw [List.take_length] at this
      exact gives_row this HU.out
end Go.Proofs.Ytbpkigdelfgafaa
