/- The reference's Same on two slices that hold the same accesses. -/
import Derived.Test.YtbalfkdeemgclaaRF
namespace Go.Proofs.Ytbalfkdeemgclaa
open Go.RowKit

theorem getElem_ac (l : List Acc) (q c : Nat) (h : q < l.length) (hc : c < 6) : (l.flatMap Acc.cells)[q * 6 + c]? = l[q].cells[c]? := by
  induction l generalizing q with
  | nil => simp at h
  | cons a r ih =>
    have hl : a.cells.length = 6 := rfl
    cases q with
    | zero => simp only [List.flatMap_cons, Nat.zero_mul, Nat.zero_add, List.getElem_cons_zero]; rw [List.getElem?_append_left (by omega)]
    | succ q =>
      simp only [List.flatMap_cons, List.getElem_cons_succ]
      rw [List.getElem?_append_right (by omega), hl, show (q + 1) * 6 + c - 6 = q * 6 + c by omega]
      exact ih q (by simpa using h)
/-- A slice that holds these accesses. -/
def LgAt (a : Option Addr) (log : List Acc) (w : World) : Prop :=
  ∀ q (h : q < log.length), ∃ g, a = some ⟨g, 0, none⟩ ∧ ∀ c u, log[q].cells[c]? = some u → w.cell? ⟨g, q * 6 + c, none⟩ = some u
theorem lgAt_of {w : World} {base : Nat} {v : Value} {log : List Acc} (ho : w.ownsRow base 47 6 v log.length (log.flatMap Acc.cells)) : ∃ a c, v = .slice a log.length c ∧ LgAt a log w := by
  rcases ho.2 with ⟨rfl, hz⟩ | ⟨g, cap, cur, rfl, hb, _⟩
  · exact ⟨none, 0, by rw [hz], fun q h => absurd h (by omega)⟩
  · refine ⟨_, _, rfl, fun q h => ⟨g, rfl, fun c u hc => ?_⟩⟩
    have hc6 : c < 6 := (List.getElem?_eq_some_iff.1 hc).1
    have := ho.cells (g := g) rfl (q * 6 + c) u (by rw [getElem_ac _ _ _ h hc6]; exact hc)
    rwa [add0] at this
theorem LgAt.keep {a : Option Addr} {log : List Acc} {w w' : World} (h : LgAt a log w) (hu : Upd [] w w') : LgAt a log w' := by
  intro q hq
  obtain ⟨g, rfl, hc⟩ := h q hq
  exact ⟨g, rfl, fun c u hx => hu.cell (hc c u hx) (by simp)⟩

set_option maxRecDepth 100000 in
set_option maxHeartbeats 2000000 in
theorem Same_any (a b : Option Addr) (ca cb : Nat) (log : List Acc) (w : World) (ha : LgAt a log w) (hb : LgAt b log w) (hn : log.length ≤ 1000000) :
    Calls Try.prog 17 #[.slice a log.length ca, .slice b log.length cb] w fun e w' => e = .returned (.bool true) ∧ Upd [] w w' := by
  have HA := Lib.hid ha; have HB := Lib.hid hb; clear ha hb
  go_enter Try.func17, Try.ntmps17
  go_wp2_with fail
  go_loopg [5] log.length (fun g i wr => ∃ k : Nat, i = .int .i64 (k : Nat) ∧ k + g = log.length ∧ Upd [] w wr)
  case atStart => exact ⟨0, rfl, by omega, Upd.refl _ _⟩
  case round =>
    obtain ⟨k, rfl, hkg, hU⟩ := hrel
    by_cases hk : k < log.length
    · obtain ⟨g1, rfl, x⟩ := HA.out.keep hU k hk
      obtain ⟨g2, rfl, y⟩ := HB.out.keep hU k hk
      have a0 := x 0 _ rfl
      have a1 := x 1 _ rfl
      have a2 := x 2 _ rfl
      have a3 := x 3 _ rfl
      have a4 := x 4 _ rfl
      have a5 := x 5 _ rfl
      have b0 := y 0 _ rfl
      have b1 := y 1 _ rfl
      have b2 := y 2 _ rfl
      have b3 := y 3 _ rfl
      have b4 := y 4 _ rfl
      have b5 := y 5 _ rfl
      rw [Nat.add_zero] at a0 b0
      clear x y
      have HU := Lib.hid hU; clear hU
      go_wp2_with fail
      go_quiet (fail)
      go_wp2_with fail
      go_roundg (gk - 1)
      case measure => omega
      case rel => exact ⟨k + 1, by go_num, by omega, HU.out.drewN _⟩
    · go_wp2_with fail
      go_ret
      exact ⟨rfl, hU⟩
end Go.Proofs.Ytbalfkdeemgclaa
