
/- Contracts of layer 10: the reference's Has, New, and the reference's handle test. -/
import Derived.Test.YtpneljhplbkdkaaAC
namespace Go.Proofs.Ytpneljhplbkdkaa
open Go.RowKit Go.Lib

theorem okH_yes {h : Int} : okH h = true ↔ 0 ≤ h ∧ h ≤ 70368744177727 := by simp [okH]
theorem RHV_has (h : Int) (w : World) : Calls Try.prog 27 #[.int .i64 h] w fun e w' => e = .returned (.bool (okH h)) ∧ w = w' := by
  by_cases h0 : 0 ≤ h
  · by_cases h1 : h ≤ 70368744177727
    · have e1 : okH h = true := okH_yes.2 ⟨h0, h1⟩
      rw [e1]
      go_enter Try.func27, Try.ntmps27
      go_wp2_with fail
      go_ret
      exact ⟨rfl, rfl⟩
    · have e1 : okH h = false := by simp [okH, h1]
      rw [e1]
      have d1 : decide (h ≤ 70368744177727) = false := decide_eq_false h1
      go_enter Try.func27, Try.ntmps27
      go_wp2_with fail
      go_ret
      exact ⟨rfl, rfl⟩
  · have e1 : okH h = false := by simp [okH, h0]
    rw [e1]
    have d0 : decide (0 ≤ h) = false := decide_eq_false h0
    go_enter Try.func27, Try.ntmps27
    go_wp2_with fail
    go_ret
    exact ⟨rfl, rfl⟩
set_option maxRecDepth 100000 in
set_option maxHeartbeats 4000000 in
theorem RHas_has (a : Option Addr) (c : Nat) (l : List Int) (x : Int) (w : World) (hr : Row LN w a l) (hl : l.length ≤ 1000000) :
    Calls Try.prog 23 #[.slice a l.length c, .int .i64 x] w fun e w' => e = .returned (.bool (decide (x ∈ l))) ∧ w = w' := by
  have HR := Lib.hid hr
  obtain ⟨b, hb⟩ : ∃ b, b = decide (x ∈ l) := ⟨_, rfl⟩
  have HB := Lib.hid hb
  obtain ⟨n, hn⟩ : ∃ n, n = l.length := ⟨_, rfl⟩
  have HN := Lib.hid hn
  rw [← hn] at hl ⊢
  rw [← hb]
  clear hr hn hb
  go_enter Try.func23, Try.ntmps23
  go_wp2_with fail
  go_loopg [5] n (fun gk vi wr => ∃ k : Nat, vi = .int .i64 k ∧ k + gk = n ∧ w = wr ∧ Hid (x ∉ l.take k))
  case atStart => exact ⟨0, rfl, by omega, rfl, (by simp : x ∉ ([] : List Int))⟩
  case round =>
    obtain ⟨k, rfl, hkg, rfl, HK⟩ := hrel
    by_cases hlt : k < n
    · have hltz : (k : Int) < (n : Int) := by omega
      have hk1 : k < l.length := by have := HN.out; omega
      obtain ⟨b0, off, rfl, x0⟩ := HR.out.num k hk1
      have hwk : IntKind.i64.wrap ((k : Int) + 1) = (k : Int) + 1 := by rw [IntKind.wrap_i64]; omega
      by_cases he : l[k] = x
      · have HT : Hid (b = true) := by
          have hm : x ∈ l := he ▸ List.getElem_mem hk1
          show b = true
          rw [HB.out]; simpa using hm
        rw [he] at x0
        clear he hk1
        go_wp2_with fail
        go_ret
        exact ⟨ret_bool HT.out.symm, rfl⟩
      · have hne : (l[k] == x) = false := by simpa using he
        have hnd : decide (l[k] = x) = false := decide_eq_false he
        have HK2 : Hid (x ∉ l.take (k + 1)) := by
          rw [List.take_succ_eq_append_getElem hk1]
          intro hm
          rcases List.mem_append.1 hm with hm | hm
          · exact HK.out hm
          · exact he (List.mem_singleton.1 hm).symm
        generalize l[k] = y at *
        clear he hk1
        go_wp2_with fail
        go_roundg (n - (k + 1))
        case measure => omega
        case rel => exact ⟨k + 1, by go_num, by omega, rfl, HK2⟩
    · have hltz : ¬ (k : Int) < (n : Int) := by omega
      obtain rfl : k = n := by omega
      have HF : Hid (b = false) := by
        have h := HK.out
        rw [HN.out, List.take_length] at h
        show b = false
        rw [HB.out]; simpa using h
      go_wp2_with fail
      go_ret
      exact ⟨ret_bool HF.out.symm, rfl⟩
theorem four_boxes (w : World) (A B C D : Obj) : Upd [] w ((((w.alloc A).alloc B).alloc C).alloc D) ∧ ((((w.alloc A).alloc B).alloc C).alloc D).heap[w.heap.size]? = some A ∧ ((((w.alloc A).alloc B).alloc C).alloc D).heap[w.heap.size + 1]? = some B ∧ ((((w.alloc A).alloc B).alloc C).alloc D).heap[w.heap.size + 1 + 1]? = some C ∧ ((((w.alloc A).alloc B).alloc C).alloc D).heap[w.heap.size + 1 + 1 + 1]? = some D ∧ ((((w.alloc A).alloc B).alloc C).alloc D).heap.size = w.heap.size + 4 := by
  obtain ⟨h1, h2, h3, h4, h5⟩ := three_boxes w A B C
  have hd := (Upd.refl [] (((w.alloc A).alloc B).alloc C)).alloc D
  refine ⟨h1.thn hd, hd.at h2 (by simp), hd.at h3 (by simp), hd.at h4 (by simp), ?_, by simp⟩
  have := heap_alloc1 (((w.alloc A).alloc B).alloc C) D
  rw [h5] at this
  exact this
theorem cells5 {w : World} {b : Nat} {x y z p q : Value} {t : TypeId} {f : Nat × Nat} (h : w.heap[b]? = some (.cells #[x, y, z, p, q] t f)) : w.cell? ⟨b, 0, none⟩ = some x ∧ w.cell? ⟨b, 1, none⟩ = some y ∧ w.cell? ⟨b, 2, none⟩ = some z ∧ w.cell? ⟨b, 3, none⟩ = some p ∧ w.cell? ⟨b, 4, none⟩ = some q := ⟨cell_block h 0, cell_block h 1, cell_block h 2, cell_block h 3, cell_block h 4⟩
end Go.Proofs.Ytpneljhplbkdkaa
