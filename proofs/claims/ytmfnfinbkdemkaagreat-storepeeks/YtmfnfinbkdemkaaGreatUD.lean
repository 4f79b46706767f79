
/- Contracts: the reference's SameItems and Same. -/
import Derived.Test.YtmfnfinbkdemkaaGreatUC
import Derived.Laws.StructEq
namespace Go.Proofs.YtmfnfinbkdemkaaGreat
open Go.RowKit Go.Lib

set_option maxRecDepth 100000 in
set_option maxHeartbeats 2000000 in
theorem SameItems_has (a b : SlR It) (w : World) (ha : Row LI w a.ad a.l) (hb : Row LI w b.ad b.l) (hl : a.l.length ≤ 1000000) :
    Calls Tryz.prog 19 #[.slice a.ad a.l.length a.cap, .slice b.ad b.l.length b.cap] w fun e w' => e = .returned (.bool (decide (a.l = b.l))) ∧ Upd [] w w' := by
  obtain ⟨l1, a1, c1⟩ := a
  obtain ⟨l2, a2, c2⟩ := b
  obtain ⟨res, hres⟩ : ∃ b, b = decide (l1 = l2) := ⟨_, rfl⟩
  have HRES := Lib.hid hres
  have HA := Lib.hid ha; have HB := Lib.hid hb
  simp only at hl HA HB ⊢
  rw [← hres]
  clear hres ha hb
  generalize hn1 : l1.length = n1 at hl ⊢
  generalize hn2 : l2.length = n2
  have HN1 := Lib.hid hn1; have HN2 := Lib.hid hn2
  clear hn1 hn2
  by_cases hn : n1 = n2
  · subst hn
    have HR0 : Hid (res = decide (l1.drop 0 = l2.drop 0)) := by
      show res = _
      rw [HRES.out, List.drop_zero, List.drop_zero]
    go_enter Tryz.func19, Tryz.ntmps19
    go_wp2_with fail
    go_loopg [5] n1 (fun gk vi wr => ∃ k : Nat, vi = .int .i64 k ∧ k + gk = n1 ∧ Hid (res = decide (l1.drop k = l2.drop k)) ∧ Hid (Upd [] w wr))
    case atStart => exact ⟨0, rfl, by omega, HR0, Lib.hid (Upd.refl _ _)⟩
    case round =>
      obtain ⟨k, rfl, hkg, HK, HUR⟩ := hrel
      by_cases hlt : k < n1
      · have hltz : (k : Int) < (n1 : Int) := by omega
        have hk1 : k < l1.length := by have := HN1.out; omega
        have hk2 : k < l2.length := by have := HN2.out; omega
        obtain ⟨b1, o1, rfl, k0, k1, k2⟩ := (HA.out.stay HUR.out).item k hk1
        obtain ⟨b2, o2, rfl, j0, j1, j2⟩ := (HB.out.stay HUR.out).item k hk2
        have HKK : Hid (res = (decide (l1[k] = l2[k]) && decide (l1.drop (k + 1) = l2.drop (k + 1)))) := by
          show res = _
          rw [HK.out, drop_dec hk1 hk2]
        generalize l1[k] = y1 at *
        generalize l2[k] = y2 at *
        have hgd := guardItem
        have hq := neqItem y1 y2
        generalize decide (y1 = y2) = bq at hq HKK
        go_wp2_with fail
        go_quiet (fail)
        have HU2 : Hid (Upd [] w (wr.drewN nq)) := HUR.out.drewN nq
        generalize wr.drewN nq = w2 at HU2 ⊢
        clear k0 k1 k2 j0 j1 j2
        cases bq with
        | true =>
          go_wp2_with fail
          go_roundg (gk - 1)
          case measure => omega
          case rel => exact ⟨k + 1, by go_num, by omega, by rw [HKK.out]; exact Lib.hid rfl, HU2⟩
        | false =>
          go_wp2_with fail
          go_ret
          exact ⟨ret_bool (by rw [HKK.out]; rfl), HU2.out⟩
      · have hltz : ¬ (k : Int) < (n1 : Int) := by omega
        go_wp2_with fail
        go_ret
        exact ⟨ret_bool (by rw [HK.out, List.drop_eq_nil_of_le (by have := HN1.out; omega), List.drop_eq_nil_of_le (by have := HN2.out; omega)]; simp), HUR.out⟩
  · have hnb : ((n1 : Int) != (n2 : Int)) = true := by simp; omega
    have HNN := Lib.hid hn
    clear hn
    go_enter Tryz.func19, Tryz.ntmps19
    go_wp2_with fail
    go_ret
    exact ⟨ret_bool (by rw [HRES.out, decide_eq_false]; intro e; exact HNN.out (by rw [← HN1.out, ← HN2.out, e])), Upd.refl _ _⟩

end Go.Proofs.YtmfnfinbkdemkaaGreat
