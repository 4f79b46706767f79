/- The law's head. -/
/- Rows of operations, as the laws have them; what thread 1 does. -/
import Derived.Test.YtmfnfinbkdemkaaGreatIQ
namespace Go.Proofs.YtmfnfinbkdemkaaGreat
open Go.RowKit Go.Lib
open A5

/-- The call's own store: what is older than w has not turned. -/
structure Fre (w : World) (F : List Nat) (W : World) : Prop where
  upd : Upd [] w W
  ge : ∀ x ∈ F, w.heap.size ≤ x
theorem Fre.go {w : World} {F F' : List Nat} {W W' : World} (h : Fre w F W) (hg : Goes F F' W W') : Fre w F' W' :=
  ⟨h.upd.trans hg.1 (fun x hx hl => by have := h.ge x hx; omega), fun x hx => (hg.2 x hx).elim (h.ge x) (fun k => Nat.le_trans h.upd.size k)⟩
theorem Fre.up {w : World} {F : List Nat} {W W' : World} (h : Fre w F W) (hu : Upd [] W W') : Fre w F W' := ⟨h.upd.thn hu, h.ge⟩
/-- A block that is none of the store's. -/
structure Kb (F : List Nat) (W : World) (P : Nat) (O : Obj) : Prop where
  at_ : W.heap[P]? = some O
  nf : P ∉ F
theorem Kb.go {F F' : List Nat} {W W' : World} {P : Nat} {O : Obj} (h : Kb F W P O) (hg : Goes F F' W W') : Kb F' W' P O :=
  ⟨hg.1.at h.at_ h.nf, fun hm => (hg.2 _ hm).elim h.nf (fun k => by have := lt_block h.at_; omega)⟩
theorem Kb.up {F : List Nat} {W W' : World} {P : Nat} {O : Obj} (h : Kb F W P O) (hu : Upd [] W W') : Kb F W' P O := ⟨hu.at h.at_ (by simp), h.nf⟩
theorem Kb.new {F : List Nat} {W : World} (h : ∀ x ∈ F, x < W.heap.size) (O : Obj) : Kb F (W.alloc O) W.heap.size O := ⟨heap_alloc1 W O, fun hm => by have := h _ hm; omega⟩
def hA1 : Ar := takeA (newA 2) 5
def hA2 : Ar := takeA hA1 3
def hA3 : Ar := freeAt hA2 1
def hQ1 : Ld := ⟨0, [⟨5, 0, 0⟩], [], [], 1, 1⟩
def hQ2 : Ld := ⟨6, [], [], [⟨5, 0, 0⟩], 2, 1⟩
def hQ3 : Ld := ⟨6, [], [], [⟨3, 1, 1⟩, ⟨5, 0, 0⟩], 3, 2⟩
def hQ5 : Ld := ⟨6, [], [], [⟨5, 0, 0⟩], 3, 2⟩
theorem h_q1 : insertL newL (itA hA1 0) = hQ1 := by kernel_rfl
theorem h_q3 : insertL hQ2 (itA hA2 1) = hQ3 := by kernel_rfl
theorem h_ok1 : OkS 2 1 ⟨hA1, hQ1⟩ [0] := by
  have h := (okS_new (n := 2) (by decide) (by decide)).put (by decide) (by decide : (newA 2).id ≠ []) (t := 5) (by decide)
  have e : insertL newL (itA (takeA (newA 2) 5) (lastI (newA 2))) = hQ1 := h_q1
  simp only at h
  rw [e] at h
  exact h
theorem h_step : stepL hQ1 = hQ2 := by kernel_rfl
theorem h_ref : refillL hQ1 = hQ2 := by
  have m1 : More hQ1 := ⟨rfl, .inr (by simp [hQ1])⟩
  rw [refill_step h_ok1.good m1, h_step, refill_stop (fun h => by have := h.1; simp [hQ2] at this)]
theorem h_peek1 : peekL hQ1 = (hQ2, ⟨5, 0, 0⟩, true) := by
  have hb : (refillL hQ1).bot = ⟨5, 0, 0⟩ :: [] := by rw [h_ref]; rfl
  rw [(peek_yes hb).1, h_ref]
theorem h_ok2 : OkS 2 1 ⟨hA1, hQ2⟩ [0] := by have := h_ok1.refill; rw [h_ref] at this; exact this
theorem h_ok3 : OkS 2 2 ⟨hA2, hQ3⟩ [0, 1] := by
  have h := h_ok2.put (by decide) (by decide : hA1.id ≠ []) (t := 3) (by decide)
  have e : insertL hQ2 (itA (takeA hA1 3) (lastI hA1)) = hQ3 := h_q3
  simp only at h
  rw [e] at h
  exact h
theorem h_ref3 : refillL hQ3 = hQ3 := refill_stop (fun h => by have := h.1; simp [hQ3] at this)
theorem h_peek3 : peekL hQ3 = (hQ3, ⟨3, 1, 1⟩, true) := by
  have hb : (refillL hQ3).bot = ⟨3, 1, 1⟩ :: [⟨5, 0, 0⟩] := by rw [h_ref3]; rfl
  rw [(peek_yes hb).1, h_ref3]
theorem h_pop3 : popL hQ3 = (hQ5, ⟨3, 1, 1⟩, true) := by
  have hb : (refillL hQ3).bot = ⟨3, 1, 1⟩ :: [⟨5, 0, 0⟩] := by rw [h_ref3]; rfl
  rw [(peek_yes hb).2, h_ref3]
  rfl
theorem h_ok5 : OkS 2 3 ⟨hA3, hQ5⟩ [0, 1] := by
  obtain ⟨i, e, -, -, h, -⟩ := h_ok3.pop (by decide) h_pop3
  have hi : i = 1 := by
    have := congrArg It.s e
    simp only [itA] at this
    omega
  subst hi
  exact h
theorem h_sort : (sortI (itemsL hQ5)).length = 1 := by rw [(sortI_perm _).length_eq]; rfl
theorem h_good2 : A5.Good hA2 := h_ok3.reach.good
def hS0 : Sto := newS 2
def hS1 : Sto := ⟨hA1, newL⟩
def hS2 : Sto := ⟨hA1, hQ1⟩
def hS3 : Sto := ⟨hA1, hQ2⟩
def hS4 : Sto := ⟨hA2, hQ2⟩
def hS5 : Sto := ⟨hA2, hQ3⟩
def hS6 : Sto := ⟨hA2, hQ5⟩
def hS7 : Sto := ⟨hA3, hQ5⟩
theorem h_r {s : Sto} (h : A5.Good s.a) {c : Nat} (hc : c ≤ 100) : Rdy s hm 0 c := ⟨h, rfl, by omega, by omega, by omega⟩
def Goto (F : List Nat) (d : At) (s' : Sto) (c : Nat) (v : Value) (w : World) (e : Ending) (w' : World) : Prop := e = .returned v ∧ ∃ F', StaH F' d s' c w' ∧ Goes F F' w w'
section
variable {F : List Nat} {d : At} {c : Nat} {w : World}
theorem h_c1 (h : StaH F d hS0 c w) (hc : c ≤ 100) : Calls Tryz.prog 14 #[.pointer (some ⟨d.p, 0, none⟩), .int .i64 0, .int .i64 5] w (Goto F d hS1 (c + 1) (.tuple #[.int .i64 0, .bool true]) w) :=
  HAlloc_yes h (h_r (newA_good (by decide) (by decide)) hc) 5 (by decide) (by decide)
theorem h_c2 (h : StaH F d hS1 c w) (hc : c ≤ 100) : Calls Tryz.prog 22 #[.pointer (some ⟨d.p, 0, none⟩), .int .i64 0, .int .i64 0] w (Goto F d hS2 c (.tuple #[]) w) := by
  refine (VPut h (h_r (s := hS1) h_ok1.reach.good hc) 0 held0 0 (by decide) ⟨newL_good, by decide, by decide⟩ (by decide) (fun x hx => by simp [hS1, itemsL, newL, itsRs] at hx)).mono ?_
  rintro e w' ⟨rfl, h1, h2⟩
  refine ⟨rfl, F, ?_, h2⟩
  have e : (⟨hS1.a, insertL hS1.q (itA hS1.a 0)⟩ : Sto) = hS2 := by show (⟨hA1, insertL newL (itA hA1 0)⟩ : Sto) = _; rw [h_q1]; rfl
  rw [e] at h1; exact h1
theorem h_c3 (h : StaH F d hS2 c w) (hc : c ≤ 100) : Calls Tryz.prog 13 #[.pointer (some ⟨d.p, 0, none⟩), .int .i64 0] w (Goto F d hS3 (c + 1) (.tuple #[.agg #[.int .i64 5, .int .i64 0, .int .i64 0], .bool true]) w) := by
  have := HPeek h (h_r h_ok1.reach.good hc) (h_ok1.fitQ (by decide)).1
  rw [show hS2.q = hQ1 from rfl, h_peek1] at this
  exact this
theorem h_c5 (h : StaH F d hS3 c w) (hc : c ≤ 100) : Calls Tryz.prog 14 #[.pointer (some ⟨d.p, 0, none⟩), .int .i64 0, .int .i64 3] w (Goto F d hS4 (c + 1) (.tuple #[.int .i64 1, .bool true]) w) :=
  HAlloc_yes h (h_r h_ok2.reach.good hc) 3 (by decide) (by decide)
theorem h_c6 (h : StaH F d hS4 c w) (hc : c ≤ 100) : Calls Tryz.prog 14 #[.pointer (some ⟨d.p, 0, none⟩), .int .i64 0, .int .i64 9] w (Goto F d hS4 c (.tuple #[.int .i64 0, .bool false]) w) := by
  refine (HAlloc_no h (h_r h_good2 hc) 9 (by decide)).mono ?_
  rintro e w' ⟨rfl, h1, h2⟩
  exact ⟨rfl, F, h1, h2⟩
theorem h_c7 (h : StaH F d hS4 c w) (hc : c ≤ 100) : Calls Tryz.prog 22 #[.pointer (some ⟨d.p, 0, none⟩), .int .i64 0, .int .i64 1] w (Goto F d hS5 c (.tuple #[]) w) := by
  refine (VPut h (h_r h_good2 hc) 0 held0 1 (by decide) (h_ok2.fitQ (by decide)).1 (by decide) (fun x hx => by
    have hx : x = ⟨5, 0, 0⟩ := by simpa [hS4, itemsL, hQ2, itsRs] using hx
    subst hx
    exact fun he => absurd he.2 (by decide))).mono ?_
  rintro e w' ⟨rfl, h1, h2⟩
  refine ⟨rfl, F, ?_, h2⟩
  have e : (⟨hS4.a, insertL hS4.q (itA hS4.a 1)⟩ : Sto) = hS5 := by show (⟨hA2, insertL hQ2 (itA hA2 1)⟩ : Sto) = _; rw [h_q3]; rfl
  rw [e] at h1; exact h1
theorem h_c8 (h : StaH F d hS5 c w) (hc : c ≤ 100) : Calls Tryz.prog 13 #[.pointer (some ⟨d.p, 0, none⟩), .int .i64 0] w (Goto F d hS5 (c + 1) (.tuple #[.agg #[.int .i64 3, .int .i64 1, .int .i64 1], .bool true]) w) := by
  have := HPeek h (h_r h_good2 hc) (h_ok3.fitQ (by decide)).1
  rw [show hS5.q = hQ3 from rfl, h_peek3] at this
  exact this
theorem h_c9 (h : StaH F d hS5 c w) (hc : c ≤ 100) : Calls Tryz.prog 24 #[.pointer (some ⟨d.p, 0, none⟩), .int .i64 0] w (Goto F d hS6 (c + 1) (.tuple #[]) w) := by
  have := HDrop h (h_r h_good2 hc) (h_ok3.fitQ (by decide)).1
  rw [show hS5.q = hQ3 from rfl, h_pop3] at this
  exact this
theorem h_c10 (h : StaH F d hS6 c w) (hc : c ≤ 100) : Calls Tryz.prog 28 #[.pointer (some ⟨d.p, 0, none⟩), .int .i64 0, .int .i64 1] w (Goto F d hS7 (c + 1) (.tuple #[]) w) :=
  HFree h (h_r h_good2 hc) 1 (by decide) (by decide)
theorem h_c11 (h : StaH F d hS7 c w) (hc : c ≤ 100) : Calls Tryz.prog 15 #[.pointer (some ⟨d.p, 0, none⟩)] w fun e w' => ∃ g : ArR, e = .returned (.agg #[.slice g.sa 2 g.sc, .slice g.ia 1 g.ic, .int .i64 2]) ∧ Slots w' g.sa hA3.sl ∧ Upd [] w w' := by
  refine (VArena h (h_r h_ok5.reach.good hc)).mono ?_
  rintro e w' ⟨g, rfl, hg, hh, -, hu⟩
  refine ⟨g, ?_, ?_, hu⟩
  · unfold encA; rw [hg]; rfl
  · have := hh.sl; rw [hg] at this; exact this
theorem h_c12 (h : StaH F d hS7 c w) : Calls Tryz.prog 16 #[.pointer (some ⟨d.p, 0, none⟩)] w fun e w' => (∃ va vc, e = .returned (.slice va 1 vc)) ∧ Upd [] w w' := by
  refine (VItems h (h_ok5.fitQ (by decide)).1).mono ?_
  rintro e w' ⟨va, vc, rfl, -, -, hu⟩
  refine ⟨⟨va, vc, ?_⟩, hu⟩
  rw [show hS7.q = hQ5 from rfl, h_sort]
theorem h_c13 (h : StaH F d hS7 c w) (hc : c ≤ 100) : Calls Tryz.prog 12 #[.pointer (some ⟨d.p, 0, none⟩), .int .i64 1, .int .i64 5] w fun e w' => e = .returned (.bool false) ∧ Sta F d hS7 hm 1 c w' ∧ Goes F F w w' :=
  VAccepts h (h_r h_ok5.reach.good hc) h_ok5.good 1 5
end
theorem h_sl : hA3.sl = [⟨0, 1, 5, 0⟩, ⟨1, 0, 0, 0⟩] := rfl
set_option maxRecDepth 100000 in
set_option maxHeartbeats 8000000 in
theorem head_true (w : World) : Calls Tryz.prog 7 #[] w fun e w' => e = .returned (.bool true) ∧ Upd [] w w' := by
  have HH : Hid (Calls Tryz.prog 8 #[.int .i64 2] w fun e w' => ∃ d, e = .returned (.pointer (some ⟨d.p, 0, none⟩)) ∧ ∃ F, StaH F d hS0 4 w' ∧ (∀ x ∈ F, w.heap.size ≤ x) ∧ Upd [] w w') := Held_has 2 (by decide) (by decide) w
  have HN0 := Lib.hid (fun W => SNew_no 0 (by decide) W)
  have HN1 := Lib.hid (fun W => SNew_no 65 (by decide) W)
  go_enter Tryz.func7, Tryz.ntmps7
  go_wp2_with fail
  (with_reducible refine HH.out.mono ?_)
  rintro e w1 ⟨d, rfl, F, hs, hge, hu⟩
  have HS := Lib.hid hs
  have HF : Hid (Fre w F w1) := ⟨hu, hge⟩
  clear hs hge hu
  go_wp2_with fail
  (with_reducible refine (HN0.out _).mono ?_)
  rintro e wa ⟨rfl, hu⟩
  have HS := Lib.hid (Sta.stay HS.out hu)
  have HF := Lib.hid (HF.out.up hu)
  clear hu
  go_wp2_with fail
  (with_reducible refine (HN1.out _).mono ?_)
  rintro e wb ⟨rfl, hu⟩
  have HS := Lib.hid (Sta.stay HS.out hu)
  have HF := Lib.hid (HF.out.up hu)
  clear hu
  have HC := Lib.hid (h_c1 HS.out (by decide))
  go_wp2_with fail
  (with_reducible refine HC.out.mono ?_)
  rintro e w2 ⟨rfl, F2, hs, hg⟩
  have HS := Lib.hid hs; have HF := Lib.hid (HF.out.go hg)
  clear hs hg
  have HC := Lib.hid (h_c2 HS.out (by decide))
  go_wp2_with fail
  (with_reducible refine HC.out.mono ?_)
  rintro e w3 ⟨rfl, F3, hs, hg⟩
  have HS := Lib.hid hs; have HF := Lib.hid (HF.out.go hg)
  clear hs hg
  have HC := Lib.hid (h_c3 HS.out (by decide))
  go_wp2_with fail
  (with_reducible refine HC.out.mono ?_)
  rintro e w4 ⟨rfl, F4, hs, hg⟩
  have HS := Lib.hid hs; have HF := Lib.hid (HF.out.go hg)
  clear hs hg
  go_upto_region 7 with (fail)
  have hk := Kb.new (Sta.lt HS.out) (.cells #[.int .i64 5, .int .i64 0, .int .i64 0] 36)
  have hu := (Upd.refl [] w4).alloc (.cells #[.int .i64 5, .int .i64 0, .int .i64 0] 36)
  have HS := Lib.hid (Sta.stay HS.out hu); have HF := Lib.hid (HF.out.up hu)
  generalize w4.alloc (.cells #[.int .i64 5, .int .i64 0, .int .i64 0] 36) = w4a at *
  generalize w4.heap.size = P4 at *
  have HB4 := Lib.hid hk
  clear hk hu
  have HM := Lib.hid (VMemory HS.out)
  have HT := Lib.hid (VTop HS.out (h_r h_ok2.reach.good (by decide)))
  go_wp2_with fail
  (with_reducible refine HM.out.mono ?_)
  rintro e w' ⟨rfl, rfl⟩
  go_wp2_with fail
  (with_reducible refine HT.out.mono ?_)
  rintro e w' ⟨rfl, rfl⟩
  clear HM HT
  have HC := Lib.hid (h_c5 HS.out (by decide))
  go_wp2_with fail
  (with_reducible refine HC.out.mono ?_)
  rintro e w5 ⟨rfl, F5, hs, hg⟩
  have HS := Lib.hid hs; have HF := Lib.hid (HF.out.go hg)
  have HB4 := Lib.hid (HB4.out.go hg)
  clear hs hg
  have HC := Lib.hid (h_c6 HS.out (by decide))
  go_wp2_with fail
  (with_reducible refine HC.out.mono ?_)
  rintro e w6 ⟨rfl, F6, hs, hg⟩
  have HS := Lib.hid hs; have HF := Lib.hid (HF.out.go hg)
  have HB4 := Lib.hid (HB4.out.go hg)
  clear hs hg
  have HC := Lib.hid (h_c7 HS.out (by decide))
  go_wp2_with fail
  (with_reducible refine HC.out.mono ?_)
  rintro e w7 ⟨rfl, F7, hs, hg⟩
  have HS := Lib.hid hs; have HF := Lib.hid (HF.out.go hg)
  have HB4 := Lib.hid (HB4.out.go hg)
  clear hs hg
  have HC := Lib.hid (h_c8 HS.out (by decide))
  go_wp2_with fail
  (with_reducible refine HC.out.mono ?_)
  rintro e w8 ⟨rfl, F8, hs, hg⟩
  have HS := Lib.hid hs; have HF := Lib.hid (HF.out.go hg)
  have HB4 := Lib.hid (HB4.out.go hg)
  clear hs hg
  go_upto_region 12 with (fail)
  have hk := Kb.new (Sta.lt HS.out) (.cells #[.int .i64 3, .int .i64 1, .int .i64 1] 36)
  have hu := (Upd.refl [] w8).alloc (.cells #[.int .i64 3, .int .i64 1, .int .i64 1] 36)
  have HS := Lib.hid (Sta.stay HS.out hu); have HF := Lib.hid (HF.out.up hu)
  have HB4 := Lib.hid (HB4.out.up hu)
  generalize w8.alloc (.cells #[.int .i64 3, .int .i64 1, .int .i64 1] 36) = w8a at *
  generalize w8.heap.size = P8 at *
  have HB8 := Lib.hid hk
  clear hk hu
  have HC := Lib.hid (h_c9 HS.out (by decide))
  go_wp2_with fail
  (with_reducible refine HC.out.mono ?_)
  rintro e w9 ⟨rfl, F9, hs, hg⟩
  have HS := Lib.hid hs; have HF := Lib.hid (HF.out.go hg)
  have HB4 := Lib.hid (HB4.out.go hg)
  have HB8 := Lib.hid (HB8.out.go hg)
  clear hs hg
  have HC := Lib.hid (h_c10 HS.out (by decide))
  go_wp2_with fail
  (with_reducible refine HC.out.mono ?_)
  rintro e w10 ⟨rfl, F10, hs, hg⟩
  have HS := Lib.hid hs; have HF := Lib.hid (HF.out.go hg)
  have HB4 := Lib.hid (HB4.out.go hg)
  have HB8 := Lib.hid (HB8.out.go hg)
  clear hs hg
  have HC := Lib.hid (h_c11 HS.out (by decide))
  go_wp2_with fail
  (with_reducible refine HC.out.mono ?_)
  rintro e w11 ⟨g, rfl, hsl, hu⟩
  have HS := Lib.hid (Sta.stay HS.out hu); have HF := Lib.hid (HF.out.up hu); have HB4 := Lib.hid (HB4.out.up hu); have HB8 := Lib.hid (HB8.out.up hu)
  rw [h_sl] at hsl
  have HSL := Lib.hid hsl
  clear hsl hu
  go_upto_region 15 with (fail)
  have hk := Kb.new (Sta.lt HS.out) (.cells #[.slice g.sa 2 g.sc, .slice g.ia 1 g.ic, .int .i64 2] 45)
  have hu := (Upd.refl [] w11).alloc (.cells #[.slice g.sa 2 g.sc, .slice g.ia 1 g.ic, .int .i64 2] 45)
  have HS := Lib.hid (Sta.stay HS.out hu); have HF := Lib.hid (HF.out.up hu)
  have HSL := Lib.hid (HSL.out.stay hu)
  have HB4 := Lib.hid (HB4.out.up hu)
  have HB8 := Lib.hid (HB8.out.up hu)
  generalize w11.alloc (.cells #[.slice g.sa 2 g.sc, .slice g.ia 1 g.ic, .int .i64 2] 45) = w11a at *
  generalize w11.heap.size = P11 at *
  have HB11 := Lib.hid hk
  clear hk hu
  obtain ⟨a0, a1, a2⟩ := cells3 HB11.out.at_
  obtain ⟨b0, b1, b2⟩ := cells3 HB4.out.at_
  obtain ⟨d0, d1, d2⟩ := cells3 HB8.out.at_
  obtain ⟨bs, off, hga, -, s1, -, -⟩ := HSL.out 0 (by decide)
  obtain ⟨bs', off', hga', t0, -, -, -⟩ := HSL.out 1 (by decide)
  rw [hga] at hga'
  simp only [Option.some.injEq, Addr.mk.injEq, and_true] at hga'
  obtain ⟨rfl, rfl⟩ := hga'
  simp only [List.getElem_cons_zero, List.getElem_cons_succ, Nat.zero_mul, Nat.add_zero, Nat.one_mul] at s1 t0
  rw [hga] at a0
  have e1 : ∀ w : World, (binOp .eql 36 (.agg #[.int .i64 5, .int .i64 0, .int .i64 0]) (.agg #[.int .i64 5, .int .i64 0, .int .i64 0])).run Tryz.prog w = .ok (.bool true) w := fun w => eqlItem ⟨5, 0, 0⟩ ⟨5, 0, 0⟩ w
  have e2 : ∀ w : World, (binOp .eql 36 (.agg #[.int .i64 3, .int .i64 1, .int .i64 1]) (.agg #[.int .i64 3, .int .i64 1, .int .i64 1])).run Tryz.prog w = .ok (.bool true) w := fun w => eqlItem ⟨3, 1, 1⟩ ⟨3, 1, 1⟩ w
  have HC12 := Lib.hid (h_c12 HS.out)
  clear a1 a2 hga
  go_wp2_with fail
  (with_reducible refine HC12.out.mono ?_)
  rintro e w12 ⟨⟨va, vc, rfl⟩, hu⟩
  have HS := Lib.hid (Sta.stay HS.out hu); have HF := Lib.hid (HF.out.up hu)
  have HM := Lib.hid (VMemory HS.out)
  have HV := Lib.hid (VViol HS.out)
  have HCP := Lib.hid (VCapacity HS.out)
  have HAC := Lib.hid (h_c13 HS.out (by decide))
  clear hu a0 b0 b1 b2 d0 d1 d2 s1 t0
  go_wp2_with fail
  (with_reducible refine HM.out.mono ?_)
  rintro e w' ⟨rfl, rfl⟩
  go_wp2_with fail
  (with_reducible refine HV.out.mono ?_)
  rintro e w' ⟨rfl, rfl⟩
  go_wp2_with fail
  (with_reducible refine HCP.out.mono ?_)
  rintro e w' ⟨rfl, rfl⟩
  go_wp2_with fail
  (with_reducible refine HAC.out.mono ?_)
  rintro e w13 ⟨rfl, hs, hg⟩
  have HF := Lib.hid (HF.out.go hg)
  have HM := Lib.hid (VMemory hs)
  have HV := Lib.hid (VViol hs)
  clear hs hg
  go_wp2_with fail
  (with_reducible refine HM.out.mono ?_)
  rintro e w' ⟨rfl, rfl⟩
  go_wp2_with fail
  (with_reducible refine HV.out.mono ?_)
  rintro e w' ⟨rfl, rfl⟩
  go_wp2_with fail
  go_ret
  exact ⟨rfl, HF.out.upd⟩
end Go.Proofs.YtmfnfinbkdemkaaGreat
namespace Go.Proofs.YtmfnfinbkdemkaaGreat
open Go.RowKit Go.Lib
open A5

def LO : Lay Oq := ⟨3, fun o => [.int .u8 o.k, .int .u64 o.t, .bool o.near], fun _ => rfl, fun x v hv => by
  simp only [List.mem_cons, List.not_mem_nil, or_false] at hv
  rcases hv with rfl | rfl | rfl <;> rfl, by decide⟩
theorem Row.op {w : World} {ad : Option Addr} {l : List Oq} (h : Row LO w ad l) (j : Nat) (hj : j < l.length) : ∃ b off, ad = some ⟨b, off, none⟩ ∧ w.cell? ⟨b, off + j * 3, none⟩ = some (.int .u8 l[j].k) ∧ w.cell? ⟨b, off + j * 3 + 1, none⟩ = some (.int .u64 l[j].t) ∧ w.cell? ⟨b, off + j * 3 + 2, none⟩ = some (.bool l[j].near) := by
  obtain ⟨b, off, e, c⟩ := h j hj
  exact ⟨b, off, e, c 0 _ rfl, c 1 _ rfl, c 2 _ rfl⟩
/-- A script's state. -/
theorem run_next {n : Nat} {os : List Oq} {k : Nat} (h : k < os.length) : runS n (os.take (k + 1)) = (stepS n (runS n (os.take k)) os[k]).1 := by
  rw [List.take_succ_eq_append_getElem h, runS_snoc]
section
variable {F : List Nat} {d : At} {s : Sto} {c : Nat} {w : World}
theorem D_accepts (h : StaH F d s c w) (hr : Rdy s hm 0 c) (hg : GoodL s.q) (t : Int) :
    Calls Tryz.prog 12 #[.pointer (some ⟨d.p, 0, none⟩), .int .i64 1, .int .i64 t] w fun e w' => (∃ b, e = .returned (.bool b)) ∧ Sta F d s hm 1 c w' ∧ Goes F F w w' := by
  refine (VAccepts h hr hg 1 t).mono ?_
  rintro e w' ⟨rfl, h1, h2⟩
  exact ⟨⟨_, rfl⟩, h1, h2⟩
theorem D_peek (h : Sta F d s hm 1 c w) (hr : Rdy s hm 1 c) (hf : FitQ s.q) :
    Calls Tryz.prog 13 #[.pointer (some ⟨d.p, 0, none⟩), .int .i64 1] w fun e w' => (∃ (x y z : Int) (b : Bool), e = .returned (.tuple #[.agg #[.int .i64 x, .int .i64 y, .int .i64 z], .bool b])) ∧ ∃ F', Sta F' d ⟨s.a, (peekL s.q).1⟩ hm 4 (c + 1) w' ∧ Goes F F' w w' := by
  refine (VPeek h hr 1 hf).mono ?_
  rintro e w' ⟨rfl, F', h1, h2⟩
  exact ⟨⟨_, _, _, _, rfl⟩, F', h1, h2⟩
theorem D_alloc (h : Sta F d s hm 4 c w) (hr : Rdy s hm 4 c) (t : Int) (hnx : s.a.nx ≤ 1000000000000) :
    Calls Tryz.prog 14 #[.pointer (some ⟨d.p, 0, none⟩), .int .i64 1, .int .i64 t] w fun e w' => (∃ x b, e = .returned (.tuple #[.int .i64 x, .bool b])) ∧ ∃ F' s', Sta F' d s' hm 5 (c + 1) w' ∧ Goes F F' w w' := by
  by_cases he : s.a.id = []
  · refine (VAlloc_no h hr 1 t he).mono ?_
    rintro e w' ⟨rfl, h1, h2⟩
    exact ⟨⟨_, _, rfl⟩, F, s, Sta.more h1 (by omega), h2⟩
  · refine (VAlloc_yes h hr 1 t he hnx).mono ?_
    rintro e w' ⟨rfl, F', h1, h2⟩
    exact ⟨⟨_, _, rfl⟩, F', _, h1, h2⟩
end
end Go.Proofs.YtmfnfinbkdemkaaGreat
