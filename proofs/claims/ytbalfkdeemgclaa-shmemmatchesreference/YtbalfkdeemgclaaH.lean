/- head of the laws of layer 1: it returns true and turns nothing old. -/
import Derived.Test.YtbalfkdeemgclaaW
namespace Go.Proofs.Ytbalfkdeemgclaa
open Go.RowKit

def s1 : St := ⟨[5, 0], [(false, 0), (false, 0)], [⟨1, 2, 0, 0, 5, true⟩], 0⟩
def s2 : St := ⟨[9, 0], [(false, 0), (false, 0)], [⟨1, 2, 0, 0, 5, true⟩, ⟨2, 3, 0, 5, 9, true⟩], 0⟩
def s3 : St := ⟨[9, 0], [(false, 0), (false, 0)], [⟨1, 2, 0, 0, 5, true⟩, ⟨2, 3, 0, 5, 9, true⟩, ⟨2, 3, 0, 9, 9, false⟩], 0⟩
def s4 : St := ⟨[9, 0], [(false, 0), (true, 1)], [⟨1, 2, 0, 0, 5, true⟩, ⟨2, 3, 0, 5, 9, true⟩, ⟨2, 3, 0, 9, 9, false⟩, ⟨1, 5, 1, 0, 1, true⟩], 0⟩
def s5 : St := ⟨[9, 0], [(false, 0), (true, 1)], [⟨1, 2, 0, 0, 5, true⟩, ⟨2, 3, 0, 5, 9, true⟩, ⟨2, 3, 0, 9, 9, false⟩, ⟨1, 5, 1, 0, 1, true⟩, ⟨2, 5, 1, 1, 1, false⟩], 0⟩
def s6 : St := ⟨[9, 0], [(false, 0), (true, 1)], [⟨1, 2, 0, 0, 5, true⟩, ⟨2, 3, 0, 5, 9, true⟩, ⟨2, 3, 0, 9, 9, false⟩, ⟨1, 5, 1, 0, 1, true⟩, ⟨2, 5, 1, 1, 1, false⟩, ⟨2, 6, 1, 1, 1, false⟩], 1⟩
def s7 : St := ⟨[9, 4], [(false, 0), (true, 1)], [⟨1, 2, 0, 0, 5, true⟩, ⟨2, 3, 0, 5, 9, true⟩, ⟨2, 3, 0, 9, 9, false⟩, ⟨1, 5, 1, 0, 1, true⟩, ⟨2, 5, 1, 1, 1, false⟩, ⟨2, 6, 1, 1, 1, false⟩, ⟨3, 4, 1, 0, 4, true⟩], 1⟩
def s8 : St := { s7 with v := 2 }
def s9 : St := { s8 with log := s7.log ++ [⟨0, 1, 0, 9, 9, true⟩] }
theorem small0 : (zeroSt 2 2).Small := ⟨by decide, by decide, by decide, by decide, by decide⟩
theorem small1 : s1.Small := ⟨by decide, by decide, by decide, by decide, by decide⟩
theorem small2 : s2.Small := ⟨by decide, by decide, by decide, by decide, by decide⟩
theorem small3 : s3.Small := ⟨by decide, by decide, by decide, by decide, by decide⟩
theorem small4 : s4.Small := ⟨by decide, by decide, by decide, by decide, by decide⟩
theorem small5 : s5.Small := ⟨by decide, by decide, by decide, by decide, by decide⟩
theorem small6 : s6.Small := ⟨by decide, by decide, by decide, by decide, by decide⟩
theorem small7 : s7.Small := ⟨by decide, by decide, by decide, by decide, by decide⟩
theorem small8 : s8.Small := ⟨by decide, by decide, by decide, by decide, by decide⟩
theorem small9 : s9.Small := ⟨by decide, by decide, by decide, by decide, by decide⟩

/-- Fresh blocks: a memory all of whose blocks are new since w. -/
def Own (w : World) (p bw bm : Nat) (s : St) (w' : World) : Prop := ∃ F, Mem F p bw bm s w' ∧ (∀ x ∈ F, w.heap.size ≤ x) ∧ Upd [] w w'
theorem Own.goes {w w1 w2 : World} {p bw bm : Nat} {s' : St} {F F' : List Nat} (hF : ∀ x ∈ F, w.heap.size ≤ x) (hu : Upd [] w w1) (hM : Mem F' p bw bm s' w2) (hG : Goes F F' w1 w2) : Own w p bw bm s' w2 :=
  ⟨F', hM, fun x hx => (hG.2 x hx).elim (hF x) (fun h => Nat.le_trans hu.size h), hu.trans hG.1 (fun x hx hl => absurd (hF x hx) (by omega))⟩
theorem Own.upd {w w1 w2 : World} {p bw bm : Nat} {s : St} (h : Own w p bw bm s w1) (hu : Upd [] w1 w2) : Own w p bw bm s w2 := by
  obtain ⟨F, hM, hF, h0⟩ := h
  exact ⟨F, hM.stay hu, hF, h0.trans hu (by simp)⟩

/-- .. and beside it the copy of the log, of seven entries, in a block of its own. -/
def OwnL (w : World) (p bw bm : Nat) (s : St) (g cap : Nat) (w' : World) : Prop :=
  ∃ F, Mem F p bw bm s w' ∧ (∀ x ∈ F, w.heap.size ≤ x) ∧ Upd [] w w' ∧ g ∉ F ∧ w.heap.size ≤ g ∧ w'.ownsRow 0 47 6 (.slice (some ⟨g, 0, none⟩) 7 cap) 7 (s7.log.flatMap Acc.cells)
theorem row0 {w : World} {base : Nat} {e : TypeId} {size : Nat} {v : Value} {n : Nat} {xs : List Value} (h : w.ownsRow base e size v n xs) : w.ownsRow 0 e size v n xs := by
  refine ⟨h.1, ?_⟩
  rcases h.2 with hn | ⟨g, cap, cur, rfl, hb, hgg, rest⟩
  · exact .inl hn
  · exact .inr ⟨g, cap, cur, rfl, Nat.zero_le _, hgg, rest⟩
theorem OwnL.start {w w7 w8 : World} {p bw bm : Nat} {s : St} {F : List Nat} {g cap : Nat} (hM : Mem F p bw bm s w7) (hF : ∀ x ∈ F, w.heap.size ≤ x) (hu : Upd [] w w7) (hu8 : Upd [] w7 w8)
    (ho : w8.ownsRow w7.heap.size 47 6 (.slice (some ⟨g, 0, none⟩) 7 cap) 7 (s7.log.flatMap Acc.cells)) : OwnL w p bw bm s g cap w8 := by
  have hg := (ho.lt g rfl).1
  exact ⟨F, hM.stay hu8, hF, hu.trans hu8 (by simp), fun hx => by have := hM.lt g hx; omega, Nat.le_trans hu.size hg, row0 ho⟩
theorem OwnL.upd {w w1 w2 : World} {p bw bm : Nat} {s : St} {g cap : Nat} (h : OwnL w p bw bm s g cap w1) (hu : Upd [] w1 w2) : OwnL w p bw bm s g cap w2 := by
  obtain ⟨F, hM, hF, h0, hgF, hg, ho⟩ := h
  exact ⟨F, hM.stay hu, hF, h0.trans hu (by simp), hgF, hg, hu.row ho (by simp)⟩
theorem OwnL.goes {w w1 w2 : World} {p bw bm : Nat} {s' : St} {F F' : List Nat} {g cap : Nat} (hF : ∀ x ∈ F, w.heap.size ≤ x) (hu : Upd [] w w1) (hgF : g ∉ F) (hg : w.heap.size ≤ g)
    (ho : w1.ownsRow 0 47 6 (.slice (some ⟨g, 0, none⟩) 7 cap) 7 (s7.log.flatMap Acc.cells)) (hM : Mem F' p bw bm s' w2) (hG : Goes F F' w1 w2) : OwnL w p bw bm s' g cap w2 := by
  have hl := (ho.lt g rfl).2
  refine ⟨F', hM, fun x hx => (hG.2 x hx).elim (hF x) (fun h => Nat.le_trans hu.size h), hu.trans hG.1 (fun x hx hl => absurd (hF x hx) (by omega)), fun hx => ?_, hg, hG.1.row ho (fun k hk => ?_)⟩
  · rcases hG.2 g hx with h | h
    · exact hgF h
    · omega
  · simp [Value.ownBlock] at hk
    subst hk
    exact hgF
theorem OwnL.cell {w w1 : World} {p bw bm : Nat} {s : St} {g cap : Nat} (h : OwnL w p bw bm s g cap w1) (j : Nat) (u : Value) (hj : (s7.log.flatMap Acc.cells)[j]? = some u) : w1.cell? ⟨g, j, none⟩ = some u := by
  obtain ⟨F, hM, hF, h0, hgF, hg, ho⟩ := h
  have := ho.cells (g := g) rfl j u hj
  have hadd : (⟨g, 0, none⟩ : Addr).add j = ⟨g, j, none⟩ := by unfold Addr.add; split <;> simp_all
  rwa [hadd] at this

theorem add05 : wrap64 ((zeroSt 2 2).ws[0]'(by decide) + 5) = 5 := by simp [zeroSt, wrap64]

set_option maxHeartbeats 2000000 in
theorem head_any (w : World) : Calls Try.prog 9 #[] w fun e w' => e = .returned (.bool true) ∧ Upd [] w w' := by
  go_enter Try.func9, Try.ntmps9
  go_wp2_with fail
  refine (New_yes 2 2 (by omega) (by omega) _).mono ?_
  rintro e w0 ⟨p, bw, bm, F, rfl, hM, hF, hu⟩
  have H0 : Hid (Own w p bw bm (zeroSt 2 2) w0) := ⟨F, hM, hF, hu⟩
  clear hM hF hu
  go_wp2_with fail
  refine (New_no 257 0 (by omega) _).mono ?_
  rintro e w1 ⟨rfl, rfl⟩
  go_wp2_with fail
  refine (New_no 0 (-1) (by omega) _).mono ?_
  rintro e w1 ⟨rfl, rfl⟩
  go_wp2_with fail
  -- Add
  obtain ⟨F, hM, hF, hu⟩ := H0.out
  have HF := Lib.hid hF; have HU := Lib.hid hu
  refine (Add_in hM small0 1 0 5 (by decide)).mono ?_
  clear hM hF hu
  rintro e w1 ⟨rfl, F1, hM1, hG⟩
  rw [add05] at hM1 ⊢
  have H1 : Hid (Own w p bw bm s1 w1) := Own.goes HF.out HU.out hM1 hG
  clear hM1 hG HF HU H0
  go_wp2_with fail
  -- CompareAndSwap
  obtain ⟨F, hM, hF, hu⟩ := H1.out
  have HF := Lib.hid hF; have HU := Lib.hid hu
  refine (CAS_yes hM small1 2 0 5 9 (by decide) rfl).mono ?_
  clear hM hF hu
  rintro e w2 ⟨rfl, F2, hM2, hG⟩
  have H2 : Hid (Own w p bw bm s2 w2) := Own.goes HF.out HU.out hM2 hG
  clear hM2 hG HF HU H1
  go_wp2_with fail
  obtain ⟨F, hM, hF, hu⟩ := H2.out
  have HF := Lib.hid hF; have HU := Lib.hid hu
  refine (CAS_no hM small2 2 0 5 7 (by decide) (by decide)).mono ?_
  clear hM hF hu
  rintro e w3 ⟨rfl, F3, hM3, hG⟩
  have H3 : Hid (Own w p bw bm s3 w3) := Own.goes HF.out HU.out hM3 hG
  clear hM3 hG HF HU H2
  go_wp2_with fail
  -- TryLock
  obtain ⟨F, hM, hF, hu⟩ := H3.out
  have HF := Lib.hid hF; have HU := Lib.hid hu
  refine (TryLock_yes hM small3 1 1 (by decide) (by decide)).mono ?_
  clear hM hF hu
  rintro e w4 ⟨rfl, F4, hM4, hG⟩
  have H4 : Hid (Own w p bw bm s4 w4) := Own.goes HF.out HU.out hM4 hG
  clear hM4 hG HF HU H3
  go_wp2_with fail
  obtain ⟨F, hM, hF, hu⟩ := H4.out
  have HF := Lib.hid hF; have HU := Lib.hid hu
  refine (TryLock_no hM small4 2 1 (by decide) (by decide)).mono ?_
  clear hM hF hu
  rintro e w5 ⟨rfl, F5, hM5, hG⟩
  have H5 : Hid (Own w p bw bm s5 w5) := Own.goes HF.out HU.out hM5 hG
  clear hM5 hG HF HU H4
  go_wp2_with fail
  -- Unlock
  obtain ⟨F, hM, hF, hu⟩ := H5.out
  have HF := Lib.hid hF; have HU := Lib.hid hu
  refine (Unlock_no hM small5 2 1 (by decide) (by decide)).mono ?_
  clear hM hF hu
  rintro e w6 ⟨rfl, F6, hM6, hG⟩
  have H6 : Hid (Own w p bw bm s6 w6) := Own.goes HF.out HU.out hM6 hG
  clear hM6 hG HF HU H5
  go_wp2_with fail
  -- Store
  obtain ⟨F, hM, hF, hu⟩ := H6.out
  have HF := Lib.hid hF; have HU := Lib.hid hu
  refine (Store_in hM small6 3 1 4 (by decide)).mono ?_
  clear hM hF hu
  rintro e w7 ⟨rfl, F7, hM7, hG⟩
  have H7 : Hid (Own w p bw bm s7 w7) := Own.goes HF.out HU.out hM7 hG
  clear hM7 hG HF HU H6
  go_wp2_with fail
  -- Log
  obtain ⟨F, hM, hF, hu⟩ := H7.out
  have HF := Lib.hid hF; have HU := Lib.hid hu; have HM := Lib.hid hM
  refine (Log_any hM small7).mono ?_
  clear hM hF hu
  rintro e w8 ⟨v, rfl, ho, hu8⟩
  obtain ⟨g, cap, rfl, hg, hlt⟩ := ho.form (by decide)
  have H8 : Hid (OwnL w p bw bm s7 g cap w8) := OwnL.start HM.out HF.out HU.out hu8 ho
  clear ho hu8 HF HU HM H7 hg hlt
  rw [show s7.log.length = 7 from rfl]
  go_wp2_with fail
  obtain ⟨F, hM, hF, hu, hgF, hg, ho⟩ := H8.out
  refine (Holder_in hM small7 1 (by decide)).mono ?_
  clear hM hF hu hgF hg ho
  rintro e w9 ⟨rfl, hu9⟩
  have H9 := Lib.hid (H8.out.upd hu9)
  clear hu9 H8
  rw [show hold (s7.ms[1]'(by decide)) = 1 from rfl]
  go_wp2_with fail
  obtain ⟨F, hM, hF, hu, hgF, hg, ho⟩ := H9.out
  refine (Holder_in hM small7 0 (by decide)).mono ?_
  clear hM hF hu hgF hg ho
  rintro e w10 ⟨rfl, hu9⟩
  have H10 := Lib.hid (H9.out.upd hu9)
  clear hu9 H9
  rw [show hold (s7.ms[0]'(by decide)) = -1 from rfl]
  go_wp2_with fail
  obtain ⟨F, hM, hF, hu, hgF, hg, ho⟩ := H10.out
  refine (Touch_yes hM small7 1 1 (by decide) rfl).mono ?_
  clear hM hF hu hgF hg ho
  rintro e w11 ⟨rfl, hu9⟩
  have H11 := Lib.hid (H10.out.upd hu9)
  clear hu9 H10
  go_wp2_with fail
  obtain ⟨F, hM, hF, hu, hgF, hg, ho⟩ := H11.out
  have HK : Hid (OwnL w p bw bm s7 g cap w11 ∧ (∀ x ∈ F, w.heap.size ≤ x) ∧ Upd [] w w11 ∧ g ∉ F ∧ w.heap.size ≤ g ∧ w11.ownsRow 0 47 6 (.slice (some ⟨g, 0, none⟩) 7 cap) 7 (s7.log.flatMap Acc.cells)) := ⟨H11.out, hF, hu, hgF, hg, ho⟩
  refine (Touch_no hM small7 1 0 (by decide) rfl).mono ?_
  clear hM hF hu hgF hg ho
  rintro e w12 ⟨rfl, hM, hU⟩
  have H12 : Hid (OwnL w p bw bm s8 g cap w12) := OwnL.goes HK.out.2.1 HK.out.2.2.1 HK.out.2.2.2.1 HK.out.2.2.2.2.1 HK.out.2.2.2.2.2 hM ⟨hU, fun x hx => .inl hx⟩
  clear hM hU HK H11
  go_wp2_with fail
  obtain ⟨F, hM, hF, hu, hgF, hg, ho⟩ := H12.out
  refine (Violations_any hM).mono ?_
  clear hM hF hu hgF hg ho
  rintro e w13 ⟨rfl, rfl⟩
  rw [show s8.v = 2 from rfl]
  go_wp2_with fail
  obtain ⟨F, hM, hF, hu, hgF, hg, ho⟩ := H12.out
  have HK : Hid (OwnL w p bw bm s8 g cap w12 ∧ (∀ x ∈ F, w.heap.size ≤ x) ∧ Upd [] w w12 ∧ g ∉ F ∧ w.heap.size ≤ g ∧ w12.ownsRow 0 47 6 (.slice (some ⟨g, 0, none⟩) 7 cap) 7 (s7.log.flatMap Acc.cells)) := ⟨H12.out, hF, hu, hgF, hg, ho⟩
  refine (Load_in hM small8 0 0 (by decide)).mono ?_
  clear hM hF hu hgF hg ho
  rintro e w14 ⟨rfl, F', hM, hG⟩
  have H14 : Hid (OwnL w p bw bm s9 g cap w14) := OwnL.goes HK.out.2.1 HK.out.2.2.1 HK.out.2.2.2.1 HK.out.2.2.2.2.1 HK.out.2.2.2.2.2 hM hG
  clear hM hG HK H12
  rw [show (s8.ws[0]'(by decide)) = 9 from rfl]
  go_wp2_with fail
  obtain ⟨F, hM, hF, hu, hgF, hg, ho⟩ := H14.out
  refine (Word_in hM small9 1 (by decide)).mono ?_
  clear hM hF hu hgF hg ho
  rintro e w15 ⟨rfl, rfl⟩
  rw [show (s9.ws[1]'(by decide)) = 4 from rfl]
  have c6 := H14.out.cell 6 _ rfl
  have c7 := H14.out.cell 7 _ rfl
  have c8 := H14.out.cell 8 _ rfl
  have c9 := H14.out.cell 9 _ rfl
  have c10 := H14.out.cell 10 _ rfl
  have c11 := H14.out.cell 11 _ rfl
  have c24 := H14.out.cell 24 _ rfl
  have c25 := H14.out.cell 25 _ rfl
  have c26 := H14.out.cell 26 _ rfl
  have c27 := H14.out.cell 27 _ rfl
  have c28 := H14.out.cell 28 _ rfl
  have c29 := H14.out.cell 29 _ rfl
  go_wp2_with fail
  go_ret
  obtain ⟨_, _, _, h0, _⟩ := H14.out
  exact ⟨rfl, h0⟩
end Go.Proofs.Ytbalfkdeemgclaa
