
/- Contract of layer 10: the reference's New. -/
import Derived.Test.YtpneljhplbkdkaaAH
namespace Go.Proofs.Ytpneljhplbkdkaa
open Go.RowKit Go.Lib

theorem one_box (w : World) (A : Obj) : Upd [] w (w.alloc A) ∧ (w.alloc A).heap[w.heap.size]? = some A := ⟨(Upd.refl _ _).alloc _, heap_alloc1 w A⟩
/-- What New gives. -/
def GivesN (n : Int) (w : World) (e : Ending) (w' : World) : Prop := ∃ m : MdR, e = .returned (.tuple #[encM m, .int .i64 (newM n).2]) ∧ m.md = (newM n).1 ∧ HasM w' m ∧ (∀ b, AvM m b) ∧ Upd [] w w'
set_option maxRecDepth 100000 in
set_option maxHeartbeats 8000000 in
theorem RNew_has (n : Int) (w : World) :
    Calls Try.prog 19 #[.int .i64 n] w (GivesN n w) := by
  by_cases h0 : n < 1 ∨ 64 < n
  · have hres : newM n = (⟨0, [], 0, []⟩, 1) := by unfold newM; rw [if_pos h0]
    by_cases h1 : n < 1
    · have g1 : decide (n < 1) = true := decide_eq_true h1
      go_enter Try.func19, Try.ntmps19
      go_upto_region 1 with (fail)
      obtain ⟨hu0, b0⟩ := (one_box w (.cells #[.int .i64 0, .slice none 0 0, .int .i64 0, .slice none 0 0] 25))
      generalize w.alloc (.cells #[.int .i64 0, .slice none 0 0, .int .i64 0, .slice none 0 0] 25) = W0 at *
      have hP : w.heap.size ≤ w.heap.size := Nat.le_refl _
      generalize hPe : w.heap.size = P at b0 hP ⊢
      obtain ⟨d0, d1, d2, d3⟩ := cells4 b0
      obtain ⟨e0, e1, e2, e3⟩ := free4 b0
      go_wp2_with fail
      have k8 := stored4 b0 (.int .i64 0) (.slice none 0 0) (.int .i64 0) (.slice none 0 0)
      have u8 := upd_set4 W0 P (.int .i64 0) (.slice none 0 0) (.int .i64 0) (.slice none 0 0)
      with_reducible generalize (((W0.setCell ⟨P, 0, none⟩ (.int .i64 0)).setCell ⟨P, 1, none⟩ (.slice none 0 0)).setCell ⟨P, 2, none⟩ (.int .i64 0)).setCell ⟨P, 3, none⟩ (.slice none 0 0) = W8 at k8 u8 ⊢
      obtain ⟨r0, r1, r2, r3⟩ := cells4 k8
      have hU : Upd [] w W8 := hu0.trans u8 (fun x hx hl => by simp at hx; omega)
      exact bodyPost_ret (v := .tuple #[.agg #[.int .i64 0, .slice none 0 0, .int .i64 0, .slice none 0 0], .int .i64 1]) (by simp [results, Try.results19, go_sem, r0, r1, r2, r3]) rfl ⟨⟨0, ⟨[], none, 0⟩, 0, ⟨[], none, 0⟩⟩, by rw [hres]; rfl, by rw [hres]; rfl, ⟨hasS_nil LE _, hasS_nil LN _⟩, fun b => ⟨avS_nil _ _ _, avS_nil _ _ _⟩, hU⟩
    · have g1 : decide (n < 1) = false := decide_eq_false h1
      have g2 : decide (64 < n) = true := decide_eq_true (by omega)
      go_enter Try.func19, Try.ntmps19
      go_upto_region 1 with (fail)
      obtain ⟨hu0, b0⟩ := (one_box w (.cells #[.int .i64 0, .slice none 0 0, .int .i64 0, .slice none 0 0] 25))
      generalize w.alloc (.cells #[.int .i64 0, .slice none 0 0, .int .i64 0, .slice none 0 0] 25) = W0 at *
      have hP : w.heap.size ≤ w.heap.size := Nat.le_refl _
      generalize hPe : w.heap.size = P at b0 hP ⊢
      obtain ⟨d0, d1, d2, d3⟩ := cells4 b0
      obtain ⟨e0, e1, e2, e3⟩ := free4 b0
      go_wp2_with fail
      have k8 := stored4 b0 (.int .i64 0) (.slice none 0 0) (.int .i64 0) (.slice none 0 0)
      have u8 := upd_set4 W0 P (.int .i64 0) (.slice none 0 0) (.int .i64 0) (.slice none 0 0)
      with_reducible generalize (((W0.setCell ⟨P, 0, none⟩ (.int .i64 0)).setCell ⟨P, 1, none⟩ (.slice none 0 0)).setCell ⟨P, 2, none⟩ (.int .i64 0)).setCell ⟨P, 3, none⟩ (.slice none 0 0) = W8 at k8 u8 ⊢
      obtain ⟨r0, r1, r2, r3⟩ := cells4 k8
      have hU : Upd [] w W8 := hu0.trans u8 (fun x hx hl => by simp at hx; omega)
      exact bodyPost_ret (v := .tuple #[.agg #[.int .i64 0, .slice none 0 0, .int .i64 0, .slice none 0 0], .int .i64 1]) (by simp [results, Try.results19, go_sem, r0, r1, r2, r3]) rfl ⟨⟨0, ⟨[], none, 0⟩, 0, ⟨[], none, 0⟩⟩, by rw [hres]; rfl, by rw [hres]; rfl, ⟨hasS_nil LE _, hasS_nil LN _⟩, fun b => ⟨avS_nil _ _ _, avS_nil _ _ _⟩, hU⟩
  · have hres : newM n = (⟨n, [], 0, []⟩, 0) := by unfold newM; rw [if_neg h0]
    have g1 : decide (n < 1) = false := decide_eq_false (by omega)
    have g2 : decide (64 < n) = false := decide_eq_false (by omega)
    go_enter Try.func19, Try.ntmps19
    go_upto_region 1 with (fail)
    obtain ⟨hu0, b0⟩ := (one_box w (.cells #[.int .i64 0, .slice none 0 0, .int .i64 0, .slice none 0 0] 25))
    generalize w.alloc (.cells #[.int .i64 0, .slice none 0 0, .int .i64 0, .slice none 0 0] 25) = W0 at *
    have hP : w.heap.size ≤ w.heap.size := Nat.le_refl _
    generalize hPe : w.heap.size = P at b0 hP ⊢
    obtain ⟨d0, d1, d2, d3⟩ := cells4 b0
    obtain ⟨e0, e1, e2, e3⟩ := free4 b0
    go_wp2_with fail
    have k8 := stored4 b0 (.int .i64 n) (.slice none 0 0) (.int .i64 0) (.slice none 0 0)
    have u8 := upd_set4 W0 P (.int .i64 n) (.slice none 0 0) (.int .i64 0) (.slice none 0 0)
    with_reducible generalize (((W0.setCell ⟨P, 0, none⟩ (.int .i64 n)).setCell ⟨P, 1, none⟩ (.slice none 0 0)).setCell ⟨P, 2, none⟩ (.int .i64 0)).setCell ⟨P, 3, none⟩ (.slice none 0 0) = W8 at k8 u8 ⊢
    obtain ⟨r0, r1, r2, r3⟩ := cells4 k8
    have hU : Upd [] w W8 := hu0.trans u8 (fun x hx hl => by simp at hx; omega)
    exact bodyPost_ret (v := .tuple #[.agg #[.int .i64 n, .slice none 0 0, .int .i64 0, .slice none 0 0], .int .i64 0]) (by simp [results, Try.results19, go_sem, r0, r1, r2, r3]) rfl ⟨⟨n, ⟨[], none, 0⟩, 0, ⟨[], none, 0⟩⟩, by rw [hres]; rfl, by rw [hres]; rfl, ⟨hasS_nil LE _, hasS_nil LN _⟩, fun b => ⟨avS_nil _ _ _, avS_nil _ _ _⟩, hU⟩
end Go.Proofs.Ytpneljhplbkdkaa
