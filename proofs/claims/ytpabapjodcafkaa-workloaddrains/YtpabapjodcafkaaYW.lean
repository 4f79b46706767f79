
/- For every script the ladder queue gives the items that a sorted list gives (WorkloadEquivalent). Contracts for the laws of layer 9. -/
import Derived.Test.YtpabapjodcafkaaYV
import Derived.Test.YtpabapjodcafkaaUD
namespace Go.Proofs.Ytpabapjodcafkaa
open Go.RowKit Go.Lib

theorem MadeW.out {w w' : World} {l : List Wo} {s : SlR Wo} (h : MadeW w l w' s) : Row LW w' s.ad l ∧ s.l.length = l.length ∧ Upd [] w w' := ⟨by have := h.has.row; rw [h.eq] at this; exact this, by rw [h.eq], h.upd⟩
theorem ops_bd (os : List Wo) : ∀ o ∈ os.map opW, 0 ≤ o.t ∧ o.t ≤ MaxT := fun o ho => by
  obtain ⟨x, _, rfl⟩ := List.mem_map.1 ho
  exact opW_bd x
theorem ops_call {la : Option Addr} {lc n : Nat} {os : List Wo} {w : World} (ho : Row LW w la os) (hl : os.length ≤ 1000) (hn : n = os.length) :
    Calls Try.prog 8 #[.slice la n lc] w fun e w' => ∃ a c, e = .returned (.slice a n c) ∧ Row LW w' a (os.map opW) ∧ Upd [] w w' := by
  subst hn
  refine (Ops_has la lc os w ho hl).mono ?_
  rintro e w' ⟨s', rfl, h⟩
  obtain ⟨h1, h2, h3⟩ := h.out
  exact ⟨s'.ad, s'.cap, by rw [h2, List.length_map], h1, h3⟩
/-- What Run gives, laid open. -/
def RanO (w : World) (s : Sw) (e : Ending) (w' : World) : Prop := ∃ oa oc, e = .returned (.tuple #[.slice oa s.out.length oc, .agg #[.int .i64 (s.ins : Nat), .int .i64 (s.out.length : Nat), .int .i64 s.l.mv, .int .i64 s.l.cp, .int .i64 (s.dep : Nat), .int .i64 (s.mx : Nat)]]) ∧ HasS LI w' ⟨s.out, oa, oc⟩ ∧ Upd [] w w'
theorem run_call {la : Option Addr} {lc n : Nat} {os : List Wo} {w : World} (ho : Row LW w la os) (hl : os.length ≤ 1000) (hb : ∀ o ∈ os, 0 ≤ o.t ∧ o.t ≤ MaxT) (hn : n = os.length) : Calls Try.prog 9 #[.slice la n lc] w (RanO w (runW os n)) := by
  subst hn
  refine (PRun_has la lc os w ho hl hb).mono ?_
  rintro e w' ⟨oa, oc, rfl, h1, _, h2⟩
  exact ⟨oa, oc, rfl, h1, h2⟩
def SorO (w : World) (l : List It) (e : Ending) (w' : World) : Prop := ∃ oa oc, e = .returned (.slice oa l.length oc) ∧ HasS LI w' ⟨l, oa, oc⟩ ∧ Upd [] w w'
theorem sorted_call {la : Option Addr} {lc n : Nat} {os : List Wo} {w : World} (ho : Row LW w la os) (hl : os.length ≤ 1000) (hb : ∀ o ∈ os, 0 ≤ o.t ∧ o.t ≤ MaxT) (hn : n = os.length) : Calls Try.prog 13 #[.slice la n lc] w (SorO w (runW os n).out) := by
  subst hn
  refine (PSorted_has la lc os w ho hl hb).mono ?_
  rintro e w' ⟨oa, oc, rfl, h1, _, h2⟩
  exact ⟨oa, oc, rfl, h1, h2⟩
theorem same_call {a b : List It} {oa ob : Option Addr} {m k ca cb : Nat} {w : World} (ha : Row LI w oa a) (hb : Row LI w ob b) (hm : m = a.length) (hk : k = b.length) (hl : m ≤ 1000000) (hab : a = b) :
    Calls Try.prog 12 #[.slice oa m ca, .slice ob k cb] w fun e w' => e = .returned (.bool true) ∧ Upd [] w w' := by
  subst hm; subst hk
  refine (SameItems_has ⟨a, oa, ca⟩ ⟨b, ob, cb⟩ w ha hb hl).mono ?_
  rintro e w' ⟨rfl, h⟩
  exact ⟨by simp only [hab, decide_true], h⟩
theorem out_le {os : List Wo} {n : Nat} (hb : ∀ o ∈ os, 0 ≤ o.t ∧ o.t ≤ MaxT) : (runW os n).out.length ≤ n := by
  have h := okW os hb n
  have h1 := h.cnt; have h2 := h.ik
  omega
set_option maxRecDepth 100000 in
set_option maxHeartbeats 8000000 in
theorem Equivalent_any (la : Option Addr) (lc : Nat) (os : List Wo) (w : World) (ho : Row LW w la os) :
    Calls Try.prog 4 #[.slice la os.length lc] w fun e w' => e = .returned (.bool true) ∧ Upd [] w w' := by
  have HHD := Lib.hid head_true
  obtain ⟨n, hn⟩ : ∃ n, n = os.length := ⟨_, rfl⟩
  by_cases hl : n ≤ 200
  · have hlz : ¬ (200 : Int) < (n : Int) := by omega
    have hL : n = (os.map opW).length := by rw [List.length_map]; exact hn
    have HOP := Lib.hid (fun W (hu : Upd [] w W) => ops_call (lc := lc) (ho.stay hu) (by omega) hn)
    have HRU := Lib.hid (fun a c W (h : Row LW W a (os.map opW)) => run_call (lc := c) h (by omega) (ops_bd os) hL)
    have HSO := Lib.hid (fun a c W (h : Row LW W a (os.map opW)) => sorted_call (lc := c) h (by omega) (ops_bd os) hL)
    have hol : (runW (os.map opW) n).out.length ≤ n := out_le (ops_bd os)
    rw [← hn]
    generalize os.map opW = L at *
    generalize runW L n = s at *
    unfold RanO at HRU
    unfold SorO at HSO
    obtain ⟨m, hm⟩ : ∃ m, m = s.out.length := ⟨_, rfl⟩
    rw [← hm] at hol HRU HSO
    have HM := Lib.hid hm
    clear hm hn hL ho
    go_enter Try.func4, Try.ntmps4
    go_upto_region 2 with (go_at_call 7; (with_reducible refine (HHD.out _).mono ?_); rintro e w1 ⟨rfl, hu1⟩)
    have HU1 := Lib.hid hu1
    clear hu1 HHD
    go_upto_region 5 with (go_at_call 8; (with_reducible refine (HOP.out _ HU1.out).mono ?_); rintro e w2 ⟨a, c, rfl, hr, hu⟩)
    have HR2 := Lib.hid hr; have HU2 := Lib.hid (HU1.out.thn hu)
    clear hr hu HU1 HOP
    go_upto_region 6 with (go_at_call 9; (with_reducible refine (HRU.out a c w2 HR2.out).mono ?_); rintro e w3 ⟨oa, oc, rfl, hh, hu⟩; simp only)
    have hal := (Upd.refl [] w3).alloc (.cells #[.int .i64 (s.ins : Nat), .int .i64 (m : Nat), .int .i64 s.l.mv, .int .i64 s.l.cp, .int .i64 (s.dep : Nat), .int .i64 (s.mx : Nat)] 27)
    generalize w3.alloc (.cells #[.int .i64 (s.ins : Nat), .int .i64 (m : Nat), .int .i64 s.l.mv, .int .i64 s.l.cp, .int .i64 (s.dep : Nat), .int .i64 (s.mx : Nat)] 27) = W3 at *
    generalize w3.heap.size = P3 at *
    have HR3 := Lib.hid (HR2.out.stay (hu.thn hal)); have HU3 := Lib.hid (HU2.out.thn (hu.thn hal)); have HH3 := Lib.hid (hh.stay hal)
    clear hh hu hal HR2 HU2 HRU
    have HSK := Lib.hid (HSO.out a c W3 HR3.out)
    clear HSO
    go_wp2_with (first
      | (go_at_call 13; (with_reducible refine HSK.out.mono ?_); rintro e w4 ⟨ob, ocb, rfl, hh4, hu4⟩; have HSA := Lib.hid (same_call (ca := oc) (cb := ocb) (HH3.out.row.stay hu4) hh4.row HM.out HM.out (by omega) rfl); have HU4 := Lib.hid (HU3.out.thn hu4); clear hh4 hu4)
      | (go_at_call 12; (with_reducible refine HSA.out.mono ?_); rintro e w5 ⟨rfl, hu5⟩; have HU5 := Lib.hid (HU4.out.thn hu5); clear hu5))
    go_ret
    exact ⟨rfl, HU5.out⟩
  · have hlz : (200 : Int) < (n : Int) := by omega
    rw [← hn]
    clear hn ho
    go_enter Try.func4, Try.ntmps4
    go_upto_region 2 with (go_at_call 7; (with_reducible refine (HHD.out _).mono ?_); rintro e w1 ⟨rfl, hu1⟩)
    have HU1 := Lib.hid hu1
    clear hu1 HHD
    go_wp2_with fail
    go_ret
    exact ⟨rfl, HU1.out⟩
end Go.Proofs.Ytpabapjodcafkaa
