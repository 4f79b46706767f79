/- Contract: slices.Insert over items, of one item into a row of the call's own. -/
import Derived.Test.YtneodiemgemhfaaPE
import Derived.Test.YtneodiemgemhfaaPA
import Derived.Shelf.Spec.SlicesInsert
import Derived.Lib.AppendZerosOnto
import Derived.Laws.NewBlocks
namespace Go.Proofs.Ytneodiemgemhfaa
open Go.RowKit Go.Lib

def InsPost (s : SlR It) (it : It) (i b0 : Nat) (w : World) (e : Ending) (w' : World) : Prop := ∃ s' : SlR It, e = .returned (.slice s'.ad s'.l.length s'.cap) ∧ s'.l = s.l.take i ++ it :: s.l.drop i ∧ HasS LI w' s' ∧ (∀ b, b < b0 → AvS s' b) ∧ Upd s.v.ownBlock.toList w w'
set_option maxRecDepth 100000 in
set_option maxHeartbeats 4000000 in
theorem SInsert_end (s : SlR It) (it : It) (vb b0 : Nat) (w : World) (ho : w.ownsRow b0 34 3 s.v s.l.length (LI.flat s.l)) (hl : s.l.length ≤ 100000)
    (hvb : w.heap[vb]? = some (.cells #[.int .i64 it.t, .int .i64 it.q, .int .i64 it.s] 34 (0, 0))) (hb : b0 ≤ w.heap.size) :
    Calls Try.prog 18 #[.slice s.ad s.l.length s.cap, .int .i64 s.l.length, .slice (some ⟨vb, 0, none⟩) 1 1] w (InsPost s it s.l.length b0 w) := by
  have hle := (has_own ho).le
  have HRO := Lib.hid (row_one hvb)
  have HFN : Hid (∀ va vc W, W.ownsRow b0 34 3 (.slice va (s.l.length + 1) vc) (s.l.length + 1) (LI.flat (s.l ++ [it])) → w.grownBy W s.v.ownBlock → InsPost s it s.l.length b0 w (.returned (.slice va (s.l.length + 1) vc)) W) := fun va vc W h1 h2 => by
    have e : (s.l ++ [it]).length = s.l.length + 1 := by simp
    have h3 : W.ownsRow b0 34 3 (SlR.v ⟨s.l ++ [it], va, vc⟩) (s.l ++ [it]).length (LI.flat (s.l ++ [it])) := by simp only [SlR.v]; rw [e]; exact h1
    exact ⟨⟨s.l ++ [it], va, vc⟩, by simp only [e], by simp, has_own h3, fun b hb => av_own h3 hb, upd_grown h2⟩
  obtain ⟨l, sa, sc⟩ := s
  simp only [SlR.v] at ho hl hle HFN ⊢
  have HO := Lib.hid ho
  generalize hn : l.length = n at *
  clear ho hvb
  have hz : ((n : Int) == (n : Int)) = true := by simp
  by_cases hsc : sc = n
  · have hsc2 : n = sc := hsc.symm
    subst hsc2
    clear hsc
    go_enter Try.func18, Try.ntmps18
    go_wp2_with (at_builtin; refine app_row tyI rfl _ _ rfl b0 (.slice sa n _) n l rfl HO.out (some ⟨vb, 0, none⟩) 1 1 [it] rfl rfl HRO.out (fun e => by simp at e) (by omega) hb ?_; intro v' w1 hown hgrow)
    obtain ⟨va, vc, rfl⟩ := row_shape hown
    have HG := Lib.hid (HFN.out va vc w1 hown hgrow)
    clear hown hgrow
    go_wp2_with fail
    go_ret
    exact HG.out
  · have hsc2 : ¬ n = sc := fun e => hsc e.symm
    go_enter Try.func18, Try.ntmps18
    go_wp2_with (at_builtin; refine app_row tyI rfl _ _ rfl b0 (.slice sa n _) n l rfl HO.out (some ⟨vb, 0, none⟩) 1 1 [it] rfl rfl HRO.out (fun e => by simp at e) (by omega) hb ?_; intro v' w1 hown hgrow)
    obtain ⟨va, vc, rfl⟩ := row_shape hown
    have HG := Lib.hid (HFN.out va vc w1 hown hgrow)
    clear hown hgrow
    go_wp2_with fail
    go_ret
    exact HG.out
end Go.Proofs.Ytneodiemgemhfaa
