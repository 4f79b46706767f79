
/- For every script the ladder queue gives the items that a sorted list gives (WorkloadEquivalent). Contracts for the laws of layer 9. -/
import Derived.Test.YtpabapjodcafkaaGreatYV
import Derived.Test.YtpabapjodcafkaaGreatUD
namespace Go.Proofs.YtpabapjodcafkaaGreat
open Go.RowKit Go.Lib

theorem MadeW.out {w w' : World} {l : List Wo} {s : SlR Wo} (h : MadeW w l w' s) : Row LW w' s.ad l ∧ s.l.length = l.length ∧ Upd [] w w' := ⟨by have := h.has.row; rw [h.eq] at this; exact this, by rw [h.eq], h.upd⟩
theorem ops_bd (os : List Wo) : ∀ o ∈ os.map opW, 0 ≤ o.t ∧ o.t ≤ MaxT := fun o ho => by
  obtain ⟨x, _, rfl⟩ := List.mem_map.1 ho
  exact opW_bd x
theorem ops_call {la : Option Addr} {lc n : Nat} {os : List Wo} {w : World} (ho : Row LW w la os) (hl : os.length ≤ 1000) (hn : n = os.length) :
    Calls Tryz.prog 5 #[.slice la n lc] w fun e w' => ∃ a c, e = .returned (.slice a n c) ∧ Row LW w' a (os.map opW) ∧ Upd [] w w' := by
  subst hn
  refine (Ops_has la lc os w ho hl).mono ?_
  rintro e w' ⟨s', rfl, h⟩
  obtain ⟨h1, h2, h3⟩ := h.out
  exact ⟨s'.ad, s'.cap, by rw [h2, List.length_map], h1, h3⟩
/-- What Run gives, laid open. -/
def RanO (w : World) (s : Sw) (e : Ending) (w' : World) : Prop := ∃ oa oc, e = .returned (.tuple #[.slice oa s.out.length oc, .agg #[.int .i64 (s.ins : Nat), .int .i64 (s.out.length : Nat), .int .i64 s.l.mv, .int .i64 s.l.cp, .int .i64 (s.dep : Nat), .int .i64 (s.mx : Nat)]]) ∧ HasS LI w' ⟨s.out, oa, oc⟩ ∧ Upd [] w w'
theorem run_call {la : Option Addr} {lc n : Nat} {os : List Wo} {w : World} (ho : Row LW w la os) (hl : os.length ≤ 1000) (hb : ∀ o ∈ os, 0 ≤ o.t ∧ o.t ≤ MaxT) (hn : n = os.length) : Calls Tryz.prog 6 #[.slice la n lc] w (RanO w (runW os n)) := by
  subst hn
  refine (PRun_has la lc os w ho hl hb).mono ?_
  rintro e w' ⟨oa, oc, rfl, h1, _, h2⟩
  exact ⟨oa, oc, rfl, h1, h2⟩
def SorO (w : World) (l : List It) (e : Ending) (w' : World) : Prop := ∃ oa oc, e = .returned (.slice oa l.length oc) ∧ HasS LI w' ⟨l, oa, oc⟩ ∧ Upd [] w w'
theorem sorted_call {la : Option Addr} {lc n : Nat} {os : List Wo} {w : World} (ho : Row LW w la os) (hl : os.length ≤ 1000) (hb : ∀ o ∈ os, 0 ≤ o.t ∧ o.t ≤ MaxT) (hn : n = os.length) : Calls Tryz.prog 9 #[.slice la n lc] w (SorO w (runW os n).out) := by
  subst hn
  refine (PSorted_has la lc os w ho hl hb).mono ?_
  rintro e w' ⟨oa, oc, rfl, h1, _, h2⟩
  exact ⟨oa, oc, rfl, h1, h2⟩
theorem same_call {a b : List It} {oa ob : Option Addr} {m k ca cb : Nat} {w : World} (ha : Row LI w oa a) (hb : Row LI w ob b) (hm : m = a.length) (hk : k = b.length) (hl : m ≤ 1000000) (hab : a = b) :
    Calls Tryz.prog 8 #[.slice oa m ca, .slice ob k cb] w fun e w' => e = .returned (.bool true) ∧ Upd [] w w' := by
  subst hm; subst hk
  refine (SameItems_has ⟨a, oa, ca⟩ ⟨b, ob, cb⟩ w ha hb hl).mono ?_
  rintro e w' ⟨rfl, h⟩
  exact ⟨by simp only [hab, decide_true], h⟩
theorem out_le {os : List Wo} {n : Nat} (hb : ∀ o ∈ os, 0 ≤ o.t ∧ o.t ≤ MaxT) : (runW os n).out.length ≤ n := by
  have h := okW os hb n
  have h1 := h.cnt; have h2 := h.ik
  omega
end Go.Proofs.YtpabapjodcafkaaGreat
