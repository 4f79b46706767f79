
/- The law's time and Step. -/
import Derived.Test.YtmfnfinbkdemkaaGreatIP
namespace Go.Proofs.YtmfnfinbkdemkaaGreat
open Go.RowKit Go.Lib
open A5

/-- An operation as the law has it. -/
structure OkO (o : Oq) : Prop where
  k0 : 0 ≤ o.k
  k1 : o.k < 256
  t0 : 0 ≤ o.t
  t1 : o.t < 18446744073709551616
def encO (o : Oq) : Value := .agg #[.int .u8 o.k, .int .u64 o.t, .bool o.near]
set_option maxHeartbeats 2000000 in
theorem time_has (o : Oq) (h : OkO o) (w : World) : Calls Tryz.prog 31 #[encO o] w fun e w' => e = .returned (.int .i64 (timeO o)) ∧ Upd [] w w' := by
  obtain ⟨k, t, near⟩ := o
  obtain ⟨-, -, t0, t1⟩ := h
  simp only at t0 t1
  unfold encO timeO
  have hU : Upd [] w (w.alloc (.cells #[.int .u8 k, .int .u64 t, .bool near] 30)) := (Upd.refl [] w).alloc _
  have HU := Lib.hid hU
  clear hU
  cases near with
  | true =>
    have h1 : t.tmod 40 = t % 40 := Int.tmod_eq_emod_of_nonneg t0
    have h2 : IntKind.i64.wrap (t % 40) = t % 40 := by rw [IntKind.wrap_i64]; omega
    go_enter Tryz.func31, Tryz.ntmps31
    go_wp2_with fail
    go_ret
    exact ⟨by first | rfl | simp, HU.out⟩
  | false =>
    have h1 : t.tmod 1152921504606846977 = t % 1152921504606846977 := Int.tmod_eq_emod_of_nonneg t0
    have h2 : IntKind.i64.wrap (t % 1152921504606846977) = t % 1152921504606846977 := by rw [IntKind.wrap_i64]; omega
    go_enter Tryz.func31, Tryz.ntmps31
    go_wp2_with fail
    go_ret
    exact ⟨by first | rfl | simp, HU.out⟩
theorem held0 (k : Nat) (h : k < 4) : hm[k]? = some (true, 0) := by
  rcases (by omega : k = 0 ∨ k = 1 ∨ k = 2 ∨ k = 3) with rfl | rfl | rfl | rfl <;> rfl
theorem OkS.fitQ {n k : Nat} {s : Sto} {is : List Int} (h : OkS n k s is) (hk : k ≤ 10000) : FitQ s.q ∧ s.q.cp ≤ 100000000000 ∧ lenD s.q ≤ 64 := by
  have h1 := h.its.length_eq
  rw [← lenD_its, itemsA_length] at h1
  have h2 : liveL s.a.sl ≤ s.a.sl.length := liveTo_le _ _
  have h3 := h.reach.good.len1
  have h4 := mv_pot s.q
  have h5 := h.pot; have h6 := h.cp
  exact ⟨⟨h.good, by omega, by omega⟩, by omega, by omega⟩
theorem OkS.rdy {n k : Nat} {s : Sto} {is : List Int} (h : OkS n k s is) {c : Nat} (hc : c ≤ 40000) : Rdy s hm 0 c := ⟨h.reach.good, rfl, hc, by omega, by omega⟩
section
variable {F : List Nat} {d : At} {s : Sto} {c n k : Nat} {w : World} {is : List Int}
/-- The methods, called by the thread that holds all. -/
theorem HAlloc_no (h : StaH F d s c w) (hr : Rdy s hm 0 c) (t : Int) (he : s.a.id = []) :
    Calls Tryz.prog 14 #[.pointer (some ⟨d.p, 0, none⟩), .int .i64 0, .int .i64 t] w fun e w' => e = .returned (.tuple #[.int .i64 0, .bool false]) ∧ StaH F d s c w' ∧ Goes F F w w' := VAlloc_no h hr 0 t he
theorem HAlloc_yes (h : StaH F d s c w) (hr : Rdy s hm 0 c) (t : Int) (he : s.a.id ≠ []) (hnx : s.a.nx ≤ 1000000000000) :
    Calls Tryz.prog 14 #[.pointer (some ⟨d.p, 0, none⟩), .int .i64 0, .int .i64 t] w fun e w' => e = .returned (.tuple #[.int .i64 (takeH s.a), .bool true]) ∧ ∃ F', StaH F' d ⟨takeA s.a t, s.q⟩ (c + 1) w' ∧ Goes F F' w w' := VAlloc_yes h hr 0 t he hnx
theorem HPeek (h : StaH F d s c w) (hr : Rdy s hm 0 c) (hf : FitQ s.q) :
    Calls Tryz.prog 13 #[.pointer (some ⟨d.p, 0, none⟩), .int .i64 0] w fun e w' => e = .returned (.tuple #[aggI (peekL s.q).2.1, .bool (peekL s.q).2.2]) ∧ ∃ F', StaH F' d ⟨s.a, (peekL s.q).1⟩ (c + 1) w' ∧ Goes F F' w w' := VPeek h hr 0 hf
theorem HDrop (h : StaH F d s c w) (hr : Rdy s hm 0 c) (hf : FitQ s.q) :
    Calls Tryz.prog 24 #[.pointer (some ⟨d.p, 0, none⟩), .int .i64 0] w fun e w' => e = .returned (.tuple #[]) ∧ ∃ F', StaH F' d ⟨s.a, (popL s.q).1⟩ (c + 1) w' ∧ Goes F F' w w' := VDrop h hr 0 hf
theorem HFree (h : StaH F d s c w) (hr : Rdy s hm 0 c) (i : Nat) (hi : i < s.a.sl.length) (hg : (slAt s.a.sl i).g < 1099511627776) :
    Calls Tryz.prog 28 #[.pointer (some ⟨d.p, 0, none⟩), .int .i64 0, .int .i64 i] w fun e w' => e = .returned (.tuple #[]) ∧ ∃ F', StaH F' d ⟨freeAt s.a i, s.q⟩ (c + 1) w' ∧ Goes F F' w w' := VFree h hr 0 i hi hg
end
/-- What a step gives. -/
def Stepd (F : List Nat) (d : At) (s' : Sto) (c : Nat) (r : Int) (w : World) (e : Ending) (w' : World) : Prop := e = .returned (.int .i64 r) ∧ ∃ F', StaH F' d s' c w' ∧ Goes F F' w w'
def StepdN (F : List Nat) (d : At) (s' : Sto) (c : Nat) (r : Int) (w : World) (e : Ending) (w' : World) : Prop := e = .returned (.int .i64 r) ∧ ∃ F', StaN F' d s' hm 0 c w w' ∧ Goes F F' w w'
theorem StepdN.old {F : List Nat} {d : At} {s' : Sto} {c : Nat} {r : Int} {w : World} {e : Ending} {w' : World} (h : StepdN F d s' c r w e w') : Stepd F d s' c r w e w' := by
  obtain ⟨h1, F', h2, h3⟩ := h
  exact ⟨h1, F', h2.sta, h3⟩
theorem peek_some {l : Ld} (hg : GoodL l) {l' : Ld} {x : It} (h : popL l = (l', x, true)) : peekL l = (refillL l, x, true) := by
  cases pop_ok hg with
  | no e p kk => rw [p] at h; simp at h
  | yes y m p kk => rw [p] at h; simp only [Prod.mk.injEq, and_true] at h; rw [kk, h.2]
theorem FitQ.refill {q : Ld} (h : FitQ q) (hc : q.mv + 5 * lenD q ≤ 100000000000) : FitQ (refillL q) := by
  have hr := refill_ok h.good
  have hl := hr.its.length_eq
  rw [← lenD_its, ← lenD_its] at hl
  have h1 := mv_pot (refillL q)
  have h2 := pot_len q
  have h3 := hr.pot
  exact ⟨hr.good, by have := h.len; omega, by omega⟩


set_option maxRecDepth 100000 in
set_option maxHeartbeats 4000000 in
theorem Step_full0 {F : List Nat} {d : At} {s : Sto} {c n k : Nat} {w : World} {is : List Int} (h : StaH F d s c w) (ho : OkS n k s is) (hk : k ≤ 1000) (hc : c ≤ 30000) (_hn : 1 ≤ n) (_hn2 : n ≤ 64) (o : Oq) (hoo : OkO o) (h5 : o.k % 5 = 0) (he : s.a.id = []) :
    Calls Tryz.prog 9 #[.pointer (some ⟨d.p, 0, none⟩), encO o, .int .i64 n] w (Stepd F d (stepS n s o).1 (c + 3) (stepS n s o).2 w) := by

  rw [stepS_full (by omega) he]
  have HST := Lib.hid h
  have hrd := ho.rdy (c := c) (by omega)
  obtain ⟨hfq, hcp, hl64⟩ := ho.fitQ (by omega)
  have hnl := ho.reach.len
  have HT := Lib.hid (fun W => time_has o hoo W)
  have HAL := Lib.hid (fun t W (hi : StaH F d s c W) => HAlloc_no hi hrd t he)
  generalize timeO o = tt at *
  obtain ⟨ok, ot, near⟩ := o
  obtain ⟨hk0, hk1, ht0, ht1⟩ := hoo
  simp only at hk0 hk1 ht0 ht1 h5
  unfold encO
  unfold encO at HT
  have hm5 : ok.tmod 5 = 0 := by rw [Int.tmod_eq_emod_of_nonneg hk0]; exact h5
  clear h ho hrd hfq hcp hl64 hnl he
  go_enter Tryz.func9, Tryz.ntmps9
  go_upto_region 1 with (fail)
  have hu := (Upd.refl [] w).alloc (.cells #[.int .u8 ok, .int .u64 ot, .bool near] 30)
  have b0 := heap_alloc1 w (.cells #[.int .u8 ok, .int .u64 ot, .bool near] 30)
  have h1 := HST.out.stay hu
  generalize w.alloc (.cells #[.int .u8 ok, .int .u64 ot, .bool near] 30) = W at *
  generalize w.heap.size = P at *
  have HU := Lib.hid hu; have HS1 := Lib.hid h1; have HB := Lib.hid b0
  obtain ⟨c0, c1, c2⟩ := cells3 b0
  clear hu h1 b0
  go_wp2_with fail
  (with_reducible refine (HT.out _).mono ?_)
  rintro e w1 ⟨rfl, hu1⟩
  have HA := Lib.hid (HAL.out tt _ (HS1.out.stay hu1))
  have HU1 := Lib.hid (HU.out.thn hu1)
  clear hu1
  go_wp2_with fail
  (with_reducible refine HA.out.mono ?_)
  rintro e w2 ⟨rfl, hs2, hg2⟩
  have HS2 := Lib.hid hs2; have HG2 := Lib.hid (Goes.after HU1.out hg2)
  clear hs2 hg2
  go_wp2_with fail
  go_ret
  exact ⟨rfl, F, HS2.out.more (by omega), HG2.out⟩

set_option maxRecDepth 100000 in
set_option maxHeartbeats 4000000 in
theorem Step_put0 {F : List Nat} {d : At} {s : Sto} {c n k : Nat} {w : World} {is : List Int} (h : StaH F d s c w) (ho : OkS n k s is) (hk : k ≤ 1000) (hc : c ≤ 30000) (hn : 1 ≤ n) (_hn2 : n ≤ 64) (o : Oq) (hoo : OkO o) (h5 : o.k % 5 = 0) (he : s.a.id ≠ []) :
    Calls Tryz.prog 9 #[.pointer (some ⟨d.p, 0, none⟩), encO o, .int .i64 n] w (StepdN F d (stepS n s o).1 (c + 3) (stepS n s o).2 w) := by

  rw [stepS_put (by omega) he]
  have HST := Lib.hid h
  have hrd := ho.rdy (c := c) (by omega)
  obtain ⟨hfq, hcp, hl64⟩ := ho.fitQ (by omega)
  have hnl := ho.reach.len
  have HT := Lib.hid (fun W => time_has o hoo W)
  have hto := timeO_ok o
  have hreach := ho.reach.nx
  have HAL := Lib.hid (fun W (hi : StaH F d s c W) => HAlloc_yes hi hrd (timeO o) he (by omega))
  obtain ⟨hl, h00, hid⟩ := ho.reach.good.last he
  obtain ⟨t1, t2, t3⟩ := takeH_hnd ho.reach.good (ho.room (by omega) he)
  have hsl : slotZ (takeH s.a) = (lastI s.a : Int) := by
    have hv : validB (takeH s.a) = true := A5.validB_yes.2 t1
    rw [slotZ_yes hv, ← hS_cast, t2]
  have HSL : Hid (∀ W, Calls Tryz.prog 23 #[.int .i64 (takeH s.a)] W fun e w' => e = .returned (.int .i64 (lastI s.a : Int)) ∧ W = w') := fun W => by
    have := RSlot_any (takeH s.a) W
    rw [hsl] at this; exact this
  have hg2 : A5.Good (takeA s.a (timeO o)) := (ho.take (by omega) he hto).1.good
  have hlt2 : lastI s.a < (takeA s.a (timeO o)).sl.length := by simpa [takeA] using hl
  have hdis : ∀ x ∈ itemsL s.q, ¬ eqK (itA (takeA s.a (timeO o)) (lastI s.a)) x := fun x hx hee => by
    obtain ⟨i, i1, i2, rfl⟩ := mem_itemsA.1 (ho.its.mem_iff.1 hx)
    have h3 := ((ho.reach.good.ok i i1).2.2 i2).2.2.2
    rw [itA_take ho.reach.good he] at hee
    have := hee.2
    simp only [itA] at this
    omega
  have HPUT := Lib.hid (fun F' W (hi : StaH F' d ⟨takeA s.a (timeO o), s.q⟩ (c + 1) W) => VPutN hi ⟨hg2, rfl, by omega, by omega, by omega⟩ 0 held0 (lastI s.a) hlt2 hfq hcp hdis)
  have hmn : ((lastI s.a : Nat) : Int).tmod (n : Int) = (lastI s.a : Nat) := by rw [Int.tmod_eq_emod_of_nonneg (by omega), Int.emod_eq_of_lt (by omega) (by omega)]
  simp only at HPUT
  generalize insertL s.q (itA (takeA s.a (timeO o)) (lastI s.a)) = q2 at *
  generalize takeA s.a (timeO o) = a2 at *
  generalize takeH s.a = th at *
  generalize lastI s.a = li at *
  generalize timeO o = tt at *
  obtain ⟨ok, ot, near⟩ := o
  obtain ⟨hk0, hk1, ht0, ht1⟩ := hoo
  simp only at hk0 hk1 ht0 ht1 h5
  unfold encO
  unfold encO at HT
  have hm5 : ok.tmod 5 = 0 := by rw [Int.tmod_eq_emod_of_nonneg hk0]; exact h5
  clear h ho hrd hfq hcp hl64 hnl he hto hreach hl h00 hid t1 t2 t3 hsl hg2 hlt2 hdis
  go_enter Tryz.func9, Tryz.ntmps9
  go_upto_region 1 with (fail)
  have hu := (Upd.refl [] w).alloc (.cells #[.int .u8 ok, .int .u64 ot, .bool near] 30)
  have b0 := heap_alloc1 w (.cells #[.int .u8 ok, .int .u64 ot, .bool near] 30)
  have h1 := HST.out.stay hu
  generalize w.alloc (.cells #[.int .u8 ok, .int .u64 ot, .bool near] 30) = W at *
  generalize w.heap.size = P at *
  have HU := Lib.hid hu; have HS1 := Lib.hid h1; have HB := Lib.hid b0
  obtain ⟨c0, c1, c2⟩ := cells3 b0
  clear hu h1 b0
  go_wp2_with fail
  (with_reducible refine (HT.out _).mono ?_)
  rintro e w1 ⟨rfl, hu1⟩
  have HA := Lib.hid (HAL.out _ (HS1.out.stay hu1))
  have HU1 := Lib.hid (HU.out.thn hu1)
  clear hu1
  go_wp2_with fail
  (with_reducible refine HA.out.mono ?_)
  rintro e w2 ⟨rfl, F2, hs2, hg2⟩
  have HS2 := Lib.hid hs2; have HG2 := Lib.hid (Goes.after HU1.out hg2)
  have HP2 := Lib.hid (HPUT.out _ _ hs2)
  have HW2 : Hid (w.heap.size ≤ w2.heap.size) := HG2.out.1.size
  clear hs2 hg2
  go_wp2_with fail
  (with_reducible refine (HSL.out _).mono ?_)
  rintro e w' ⟨rfl, rfl⟩
  go_wp2_with fail
  (with_reducible refine HP2.out.mono ?_)
  rintro e w3 ⟨rfl, hs3, hg3⟩
  have HS3 := Lib.hid hs3; have HG3 := Lib.hid (HG2.out.trans hg3)
  clear hs3 hg3
  go_wp2_with fail
  go_ret
  exact ⟨rfl, _, StaN.more HS3.out (by omega) HW2.out, HG3.out⟩

set_option maxRecDepth 100000 in
set_option maxHeartbeats 4000000 in
theorem Step_full1 {F : List Nat} {d : At} {s : Sto} {c n k : Nat} {w : World} {is : List Int} (h : StaH F d s c w) (ho : OkS n k s is) (hk : k ≤ 1000) (hc : c ≤ 30000) (_hn : 1 ≤ n) (_hn2 : n ≤ 64) (o : Oq) (hoo : OkO o) (h5 : o.k % 5 = 1) (he : s.a.id = []) :
    Calls Tryz.prog 9 #[.pointer (some ⟨d.p, 0, none⟩), encO o, .int .i64 n] w (Stepd F d (stepS n s o).1 (c + 3) (stepS n s o).2 w) := by

  rw [stepS_full (by omega) he]
  have HST := Lib.hid h
  have hrd := ho.rdy (c := c) (by omega)
  obtain ⟨hfq, hcp, hl64⟩ := ho.fitQ (by omega)
  have hnl := ho.reach.len
  have HT := Lib.hid (fun W => time_has o hoo W)
  have HAL := Lib.hid (fun t W (hi : StaH F d s c W) => HAlloc_no hi hrd t he)
  generalize timeO o = tt at *
  obtain ⟨ok, ot, near⟩ := o
  obtain ⟨hk0, hk1, ht0, ht1⟩ := hoo
  simp only at hk0 hk1 ht0 ht1 h5
  unfold encO
  unfold encO at HT
  have hm5 : ok.tmod 5 = 1 := by rw [Int.tmod_eq_emod_of_nonneg hk0]; exact h5
  clear h ho hrd hfq hcp hl64 hnl he
  go_enter Tryz.func9, Tryz.ntmps9
  go_upto_region 1 with (fail)
  have hu := (Upd.refl [] w).alloc (.cells #[.int .u8 ok, .int .u64 ot, .bool near] 30)
  have b0 := heap_alloc1 w (.cells #[.int .u8 ok, .int .u64 ot, .bool near] 30)
  have h1 := HST.out.stay hu
  generalize w.alloc (.cells #[.int .u8 ok, .int .u64 ot, .bool near] 30) = W at *
  generalize w.heap.size = P at *
  have HU := Lib.hid hu; have HS1 := Lib.hid h1; have HB := Lib.hid b0
  obtain ⟨c0, c1, c2⟩ := cells3 b0
  clear hu h1 b0
  go_wp2_with fail
  (with_reducible refine (HT.out _).mono ?_)
  rintro e w1 ⟨rfl, hu1⟩
  have HA := Lib.hid (HAL.out tt _ (HS1.out.stay hu1))
  have HU1 := Lib.hid (HU.out.thn hu1)
  clear hu1
  go_wp2_with fail
  (with_reducible refine HA.out.mono ?_)
  rintro e w2 ⟨rfl, hs2, hg2⟩
  have HS2 := Lib.hid hs2; have HG2 := Lib.hid (Goes.after HU1.out hg2)
  clear hs2 hg2
  go_wp2_with fail
  go_ret
  exact ⟨rfl, F, HS2.out.more (by omega), HG2.out⟩

set_option maxRecDepth 100000 in
set_option maxHeartbeats 4000000 in
theorem Step_put1 {F : List Nat} {d : At} {s : Sto} {c n k : Nat} {w : World} {is : List Int} (h : StaH F d s c w) (ho : OkS n k s is) (hk : k ≤ 1000) (hc : c ≤ 30000) (hn : 1 ≤ n) (_hn2 : n ≤ 64) (o : Oq) (hoo : OkO o) (h5 : o.k % 5 = 1) (he : s.a.id ≠ []) :
    Calls Tryz.prog 9 #[.pointer (some ⟨d.p, 0, none⟩), encO o, .int .i64 n] w (StepdN F d (stepS n s o).1 (c + 3) (stepS n s o).2 w) := by

  rw [stepS_put (by omega) he]
  have HST := Lib.hid h
  have hrd := ho.rdy (c := c) (by omega)
  obtain ⟨hfq, hcp, hl64⟩ := ho.fitQ (by omega)
  have hnl := ho.reach.len
  have HT := Lib.hid (fun W => time_has o hoo W)
  have hto := timeO_ok o
  have hreach := ho.reach.nx
  have HAL := Lib.hid (fun W (hi : StaH F d s c W) => HAlloc_yes hi hrd (timeO o) he (by omega))
  obtain ⟨hl, h00, hid⟩ := ho.reach.good.last he
  obtain ⟨t1, t2, t3⟩ := takeH_hnd ho.reach.good (ho.room (by omega) he)
  have hsl : slotZ (takeH s.a) = (lastI s.a : Int) := by
    have hv : validB (takeH s.a) = true := A5.validB_yes.2 t1
    rw [slotZ_yes hv, ← hS_cast, t2]
  have HSL : Hid (∀ W, Calls Tryz.prog 23 #[.int .i64 (takeH s.a)] W fun e w' => e = .returned (.int .i64 (lastI s.a : Int)) ∧ W = w') := fun W => by
    have := RSlot_any (takeH s.a) W
    rw [hsl] at this; exact this
  have hg2 : A5.Good (takeA s.a (timeO o)) := (ho.take (by omega) he hto).1.good
  have hlt2 : lastI s.a < (takeA s.a (timeO o)).sl.length := by simpa [takeA] using hl
  have hdis : ∀ x ∈ itemsL s.q, ¬ eqK (itA (takeA s.a (timeO o)) (lastI s.a)) x := fun x hx hee => by
    obtain ⟨i, i1, i2, rfl⟩ := mem_itemsA.1 (ho.its.mem_iff.1 hx)
    have h3 := ((ho.reach.good.ok i i1).2.2 i2).2.2.2
    rw [itA_take ho.reach.good he] at hee
    have := hee.2
    simp only [itA] at this
    omega
  have HPUT := Lib.hid (fun F' W (hi : StaH F' d ⟨takeA s.a (timeO o), s.q⟩ (c + 1) W) => VPutN hi ⟨hg2, rfl, by omega, by omega, by omega⟩ 0 held0 (lastI s.a) hlt2 hfq hcp hdis)
  have hmn : ((lastI s.a : Nat) : Int).tmod (n : Int) = (lastI s.a : Nat) := by rw [Int.tmod_eq_emod_of_nonneg (by omega), Int.emod_eq_of_lt (by omega) (by omega)]
  simp only at HPUT
  generalize insertL s.q (itA (takeA s.a (timeO o)) (lastI s.a)) = q2 at *
  generalize takeA s.a (timeO o) = a2 at *
  generalize takeH s.a = th at *
  generalize lastI s.a = li at *
  generalize timeO o = tt at *
  obtain ⟨ok, ot, near⟩ := o
  obtain ⟨hk0, hk1, ht0, ht1⟩ := hoo
  simp only at hk0 hk1 ht0 ht1 h5
  unfold encO
  unfold encO at HT
  have hm5 : ok.tmod 5 = 1 := by rw [Int.tmod_eq_emod_of_nonneg hk0]; exact h5
  clear h ho hrd hfq hcp hl64 hnl he hto hreach hl h00 hid t1 t2 t3 hsl hg2 hlt2 hdis
  go_enter Tryz.func9, Tryz.ntmps9
  go_upto_region 1 with (fail)
  have hu := (Upd.refl [] w).alloc (.cells #[.int .u8 ok, .int .u64 ot, .bool near] 30)
  have b0 := heap_alloc1 w (.cells #[.int .u8 ok, .int .u64 ot, .bool near] 30)
  have h1 := HST.out.stay hu
  generalize w.alloc (.cells #[.int .u8 ok, .int .u64 ot, .bool near] 30) = W at *
  generalize w.heap.size = P at *
  have HU := Lib.hid hu; have HS1 := Lib.hid h1; have HB := Lib.hid b0
  obtain ⟨c0, c1, c2⟩ := cells3 b0
  clear hu h1 b0
  go_wp2_with fail
  (with_reducible refine (HT.out _).mono ?_)
  rintro e w1 ⟨rfl, hu1⟩
  have HA := Lib.hid (HAL.out _ (HS1.out.stay hu1))
  have HU1 := Lib.hid (HU.out.thn hu1)
  clear hu1
  go_wp2_with fail
  (with_reducible refine HA.out.mono ?_)
  rintro e w2 ⟨rfl, F2, hs2, hg2⟩
  have HS2 := Lib.hid hs2; have HG2 := Lib.hid (Goes.after HU1.out hg2)
  have HP2 := Lib.hid (HPUT.out _ _ hs2)
  have HW2 : Hid (w.heap.size ≤ w2.heap.size) := HG2.out.1.size
  clear hs2 hg2
  go_wp2_with fail
  (with_reducible refine (HSL.out _).mono ?_)
  rintro e w' ⟨rfl, rfl⟩
  go_wp2_with fail
  (with_reducible refine HP2.out.mono ?_)
  rintro e w3 ⟨rfl, hs3, hg3⟩
  have HS3 := Lib.hid hs3; have HG3 := Lib.hid (HG2.out.trans hg3)
  clear hs3 hg3
  go_wp2_with fail
  go_ret
  exact ⟨rfl, _, StaN.more HS3.out (by omega) HW2.out, HG3.out⟩

set_option maxRecDepth 100000 in
set_option maxHeartbeats 4000000 in
theorem Step_none {F : List Nat} {d : At} {s : Sto} {c n k : Nat} {w : World} {is : List Int} (h : StaH F d s c w) (ho : OkS n k s is) (hk : k ≤ 1000) (hc : c ≤ 30000) (_hn : 1 ≤ n) (_hn2 : n ≤ 64) (o : Oq) (hoo : OkO o) (h5 : o.k % 5 = 2) (hp : (popL s.q).2.2 = false) :
    Calls Tryz.prog 9 #[.pointer (some ⟨d.p, 0, none⟩), encO o, .int .i64 n] w (Stepd F d (stepS n s o).1 (c + 3) (stepS n s o).2 w) := by

  rw [stepS_none h5 hp]
  have HST := Lib.hid h
  have hrd := ho.rdy (c := c) (by omega)
  obtain ⟨hfq, hcp, hl64⟩ := ho.fitQ (by omega)
  have hnl := ho.reach.len
  have HPK := Lib.hid (fun W (hi : StaH F d s c W) => HPeek hi hrd hfq)
  rw [(peek_none ho.good hp).1] at HPK
  unfold aggI zeroI at HPK
  simp only at HPK
  obtain ⟨ok, ot, near⟩ := o
  obtain ⟨hk0, hk1, ht0, ht1⟩ := hoo
  simp only at hk0 hk1 ht0 ht1 h5
  unfold encO
  have hm5 : ok.tmod 5 = 2 := by rw [Int.tmod_eq_emod_of_nonneg hk0]; exact h5
  clear h ho hrd hfq hcp hl64 hnl hp
  go_enter Tryz.func9, Tryz.ntmps9
  go_upto_region 1 with (fail)
  have hu := (Upd.refl [] w).alloc (.cells #[.int .u8 ok, .int .u64 ot, .bool near] 30)
  have b0 := heap_alloc1 w (.cells #[.int .u8 ok, .int .u64 ot, .bool near] 30)
  have h1 := HST.out.stay hu
  generalize w.alloc (.cells #[.int .u8 ok, .int .u64 ot, .bool near] 30) = W at *
  generalize w.heap.size = P at *
  have HU := Lib.hid hu; have HS1 := Lib.hid h1; have HB := Lib.hid b0
  obtain ⟨c0, c1, c2⟩ := cells3 b0
  clear hu h1 b0
  have HA := Lib.hid (HPK.out _ HS1.out)
  go_wp2_with fail
  (with_reducible refine HA.out.mono ?_)
  rintro e w2 ⟨rfl, F2, hs2, hg2⟩
  have HS2 := Lib.hid hs2; have HG2 := Lib.hid (Goes.after HU.out hg2)
  clear hs2 hg2
  go_wp2_with fail
  go_ret
  exact ⟨rfl, _, Sta.more ((HS2.out).stay ((Upd.refl [] w2).alloc _)) (by omega), HG2.out.upd ((Upd.refl [] w2).alloc _)⟩

set_option maxRecDepth 100000 in
set_option maxHeartbeats 4000000 in
theorem Step_pop {F : List Nat} {d : At} {s : Sto} {c n k : Nat} {w : World} {is : List Int} (h : StaH F d s c w) (ho : OkS n k s is) (hk : k ≤ 1000) (hc : c ≤ 30000) (_hn : 1 ≤ n) (_hn2 : n ≤ 64) (o : Oq) (hoo : OkO o) (h5 : o.k % 5 = 2) (hp : (popL s.q).2.2 = true) :
    Calls Tryz.prog 9 #[.pointer (some ⟨d.p, 0, none⟩), encO o, .int .i64 n] w (Stepd F d (stepS n s o).1 (c + 3) (stepS n s o).2 w) := by

  obtain ⟨i, hxi, i1, i2, hok2, hpk, hpr, -⟩ := ho.pop (by omega) (pop_some hp)
  rw [stepS_pop h5 (pop_some hp)]
  have HST := Lib.hid h
  have hrd := ho.rdy (c := c) (by omega)
  obtain ⟨hfq, hcp, hl64⟩ := ho.fitQ (by omega)
  have hnl := ho.reach.len
  have hgen := ho.gen i i1
  have HPK := Lib.hid (fun W (hi : StaH F d s c W) => HPeek hi hrd hfq)
  rw [hpk] at HPK
  have hrd2 : Rdy ⟨s.a, refillL s.q⟩ hm 0 (c + 1) := ⟨ho.reach.good, rfl, by omega, by omega, by omega⟩
  have hfq2 : FitQ (refillL s.q) := hfq.refill (by have := mv_pot s.q; have := ho.pot; omega)
  have HDR := Lib.hid (fun F' W (hi : StaH F' d ⟨s.a, refillL s.q⟩ (c + 1) W) => HDrop hi hrd2 hfq2)
  simp only at HDR
  rw [hpr] at HDR
  have hrd3 : Rdy ⟨s.a, (popL s.q).1⟩ hm 0 (c + 2) := ⟨ho.reach.good, rfl, by omega, by omega, by omega⟩
  have HFR := Lib.hid (fun F' W (hi : StaH F' d ⟨s.a, (popL s.q).1⟩ (c + 2) W) => HFree hi hrd3 i i1 (by simp only; omega))
  simp only at HFR HPK
  rw [hxi] at HPK ⊢
  have hin : i < n := by omega
  have e1 : (itA s.a i).s.toNat = i := by simp [itA]
  rw [e1]
  unfold aggI itA at HPK
  unfold itA
  simp only at HPK ⊢
  generalize freeAt s.a i = a2 at *
  generalize (popL s.q).1 = q2 at *
  generalize refillL s.q = q1 at *
  generalize (slAt s.a.sl i).t = xt at *
  generalize (slAt s.a.sl i).q = xq at *
  obtain ⟨ok, ot, near⟩ := o
  obtain ⟨hk0, hk1, ht0, ht1⟩ := hoo
  simp only at hk0 hk1 ht0 ht1 h5
  unfold encO
  have hm5 : ok.tmod 5 = 2 := by rw [Int.tmod_eq_emod_of_nonneg hk0]; exact h5
  have hg0 : decide ((i : Int) < 0) = false := decide_eq_false (by omega)
  have hg1 : decide ((n : Int) ≤ (i : Int)) = false := decide_eq_false (by omega)
  have hg2 : decide (n ≤ i) = false := decide_eq_false (by omega)
  clear h ho hrd hfq hcp hl64 hnl hp hxi i1 i2 hok2 hpk hpr hgen hrd2 hfq2 hrd3 e1
  go_enter Tryz.func9, Tryz.ntmps9
  go_upto_region 1 with (fail)
  have hu := (Upd.refl [] w).alloc (.cells #[.int .u8 ok, .int .u64 ot, .bool near] 30)
  have b0 := heap_alloc1 w (.cells #[.int .u8 ok, .int .u64 ot, .bool near] 30)
  have h1 := HST.out.stay hu
  generalize w.alloc (.cells #[.int .u8 ok, .int .u64 ot, .bool near] 30) = W at *
  generalize w.heap.size = P at *
  have HU := Lib.hid hu; have HS1 := Lib.hid h1; have HB := Lib.hid b0
  obtain ⟨c0, c1, c2⟩ := cells3 b0
  clear hu h1 b0
  have HA := Lib.hid (HPK.out _ HS1.out)
  go_wp2_with fail
  (with_reducible refine HA.out.mono ?_)
  rintro e w2 ⟨rfl, F2, hs2, hg2⟩
  have HG2 := Lib.hid (Goes.after HU.out hg2)
  have hb2 := heap_alloc1 w2 (.cells #[.int .i64 xt, .int .i64 xq, .int .i64 (i : Int)] 36)
  have hu2 := (Upd.refl [] w2).alloc (.cells #[.int .i64 xt, .int .i64 xq, .int .i64 (i : Int)] 36)
  have HU2 := Lib.hid hu2
  have HNF : Hid (w2.heap.size ∉ F2) := fun hx => by have := Sta.lt hs2 _ hx; omega
  have HS2 := Lib.hid (Sta.stay hs2 hu2)
  clear hs2 hg2
  go_upto_region 11 with (fail)
  generalize w2.alloc (.cells #[.int .i64 xt, .int .i64 xq, .int .i64 (i : Int)] 36) = W2 at *
  generalize w2.heap.size = P2 at *
  have HB2 := Lib.hid hb2
  obtain ⟨d0, d1, d2⟩ := cells3 hb2
  have HD2 := Lib.hid (HDR.out _ _ HS2.out)
  clear hb2 hu2
  go_wp2_with fail
  (with_reducible refine HD2.out.mono ?_)
  rintro e w3 ⟨rfl, F3, hs3, hg3⟩
  have HNF3 : Hid (P2 ∉ F3) := fun hx => (hg3.2 _ hx).elim HNF.out (fun hl => by have := lt_block HB2.out; omega)
  have hb3 := hg3.1.at HB2.out HNF.out
  have HF3 := Lib.hid (HFR.out _ _ hs3)
  have HB3 := Lib.hid hb3
  have HG3 := Lib.hid ((HG2.out.upd HU2.out).trans hg3)
  clear d0 d1 d2
  obtain ⟨d0, d1, d2⟩ := cells3 hb3
  clear hs3 hg3 hb3
  go_wp2_with fail
  (with_reducible refine HF3.out.mono ?_)
  rintro e w4 ⟨rfl, F4, hs4, hg4⟩
  have hb4 := hg4.1.at HB3.out HNF3.out
  have HS4 := Lib.hid hs4; have HG4 := Lib.hid (HG3.out.trans hg4)
  clear d0 d1 d2
  obtain ⟨d0, d1, d2⟩ := cells3 hb4
  clear hs4 hg4 hb4
  go_wp2_with fail
  go_ret
  exact ⟨rfl, _, Sta.more HS4.out (by omega), HG4.out⟩

set_option maxRecDepth 100000 in
set_option maxHeartbeats 4000000 in
theorem Step_mark {F : List Nat} {d : At} {s : Sto} {c n k : Nat} {w : World} {is : List Int} (h : StaH F d s c w) (ho : OkS n k s is) (hk : k ≤ 1000) (hc : c ≤ 30000) (hn : 1 ≤ n) (hn2 : n ≤ 64) (o : Oq) (hoo : OkO o) (h5 : o.k % 5 = 3) (hs1 : (slAt s.a.sl (o.t % n).toNat).s = 1) :
    Calls Tryz.prog 9 #[.pointer (some ⟨d.p, 0, none⟩), encO o, .int .i64 n] w (Stepd F d (stepS n s o).1 (c + 3) (stepS n s o).2 w) := by

  rw [stepS_mark h5 hs1]
  have HST := Lib.hid h
  have hrd := ho.rdy (c := c) (by omega)
  obtain ⟨hfq, hcp, hl64⟩ := ho.fitQ (by omega)
  have hnl := ho.reach.len
  have hmz : 0 ≤ o.t % (n : Int) ∧ o.t % (n : Int) < n := ⟨Int.emod_nonneg _ (by omega), Int.emod_lt_of_pos _ (by omega)⟩
  obtain ⟨i, hi⟩ : ∃ i, i = (o.t % (n : Int)).toNat := ⟨_, rfl⟩
  have him : o.t % (n : Int) = (i : Int) := by omega
  rw [← hi] at hs1 ⊢
  have hil : i < s.a.sl.length := by omega
  have hokk := (ho.reach.good.ok i hil).1
  have hz1 : IntKind.i64.wrap (1 + (i : Int)) = ((i + 1 : Nat) : Int) := by rw [IntKind.wrap_i64]; omega
  have HWD := Lib.hid (fun W (hi : StaH F d s c W) => VWord hi hrd i hil ((i : Int) + 1) (by omega))
  have HCA := Lib.hid (fun W (hi : StaH F d s c W) => VCAS_yes hi hrd 0 i hil ((i : Int) + 1) (by omega) hs1)
  have HMM := Lib.hid (fun W (hi : StaH F d s c W) => VMemory hi)
  have hgs : 0 ≤ (slAt s.a.sl i).g ∧ (slAt s.a.sl i).g ≤ 1099511627776 ∧ 0 ≤ (slAt s.a.sl i).s ∧ (slAt s.a.sl i).s ≤ 3 := hokk
  have HGN := Lib.hid (fun W => A4.RGen_in (wordS (slAt s.a.sl i)) (by unfold wordS; omega) W)
  rw [show wordS (slAt s.a.sl i) / 4 = (slAt s.a.sl i).g by unfold wordS; omega] at HGN
  have HW1 := Lib.hid (fun W => A4.RWord_in (slAt s.a.sl i).g 1 ⟨hgs.1, hgs.2.1⟩ (by decide) W)
  have HW3 := Lib.hid (fun W => A4.RWord_in (slAt s.a.sl i).g 3 ⟨hgs.1, hgs.2.1⟩ (by decide) W)
  generalize wordS (slAt s.a.sl i) = wd at *
  generalize (slAt s.a.sl i).g = gg at *
  generalize markA s.a i = a2 at *
  obtain ⟨ok, ot, near⟩ := o
  obtain ⟨hk0, hk1, ht0, ht1⟩ := hoo
  simp only at hk0 hk1 ht0 ht1 h5
  unfold encO
  simp only at him hmz
  have hm5 : ok.tmod 5 = 3 := by rw [Int.tmod_eq_emod_of_nonneg hk0]; exact h5
  have hcv : IntKind.u64.wrap (n : Int) = (n : Int) := by rw [IntKind.wrap_u64]; omega
  have htm : ot.tmod (n : Int) = (i : Int) := by rw [Int.tmod_eq_emod_of_nonneg ht0]; exact him
  have hcw : IntKind.i64.wrap (i : Int) = (i : Int) := by rw [IntKind.wrap_i64]; omega
  have hz1 : IntKind.i64.wrap (1 + (i : Int)) = (i : Int) + 1 := by rw [IntKind.wrap_i64]; omega
  have hn0 : ((n : Int) == 0) = false := by simp; omega
  clear h ho hrd hfq hcp hl64 hnl hs1 hi him hil hokk hgs hmz
  go_enter Tryz.func9, Tryz.ntmps9
  go_upto_region 1 with (fail)
  have hu := (Upd.refl [] w).alloc (.cells #[.int .u8 ok, .int .u64 ot, .bool near] 30)
  have b0 := heap_alloc1 w (.cells #[.int .u8 ok, .int .u64 ot, .bool near] 30)
  have h1 := HST.out.stay hu
  generalize w.alloc (.cells #[.int .u8 ok, .int .u64 ot, .bool near] 30) = W at *
  generalize w.heap.size = P at *
  have HU := Lib.hid hu; have HS1 := Lib.hid h1; have HB := Lib.hid b0
  obtain ⟨c0, c1, c2⟩ := cells3 b0
  clear hu h1 b0
  have HM1 := Lib.hid (HMM.out _ HS1.out)
  have HW0 := Lib.hid (HWD.out _ HS1.out)
  have HC1 := Lib.hid (HCA.out _ HS1.out)
  go_wp2_with fail
  (with_reducible refine HM1.out.mono ?_)
  rintro e w' ⟨rfl, rfl⟩
  go_wp2_with fail
  (with_reducible refine HW0.out.mono ?_)
  rintro e w' ⟨rfl, rfl⟩
  go_wp2_with fail
  (with_reducible refine HM1.out.mono ?_)
  rintro e w' ⟨rfl, rfl⟩
  go_wp2_with fail
  (with_reducible refine (HGN.out _).mono ?_)
  rintro e w' ⟨rfl, rfl⟩
  go_wp2_with fail
  (with_reducible refine (HW1.out _).mono ?_)
  rintro e w' ⟨rfl, rfl⟩
  go_wp2_with fail
  (with_reducible refine (HGN.out _).mono ?_)
  rintro e w' ⟨rfl, rfl⟩
  go_wp2_with fail
  (with_reducible refine (HW3.out _).mono ?_)
  rintro e w' ⟨rfl, rfl⟩
  go_wp2_with fail
  (with_reducible refine HC1.out.mono ?_)
  rintro e w2 ⟨rfl, F2, hs2, hg2⟩
  have HS2 := Lib.hid hs2; have HG2 := Lib.hid (Goes.after HU.out hg2)
  clear hs2 hg2
  go_wp2_with fail
  go_ret
  exact ⟨rfl, _, Sta.more HS2.out (by omega), HG2.out⟩

set_option maxRecDepth 100000 in
set_option maxHeartbeats 4000000 in
theorem Step_miss {F : List Nat} {d : At} {s : Sto} {c n k : Nat} {w : World} {is : List Int} (h : StaH F d s c w) (ho : OkS n k s is) (hk : k ≤ 1000) (hc : c ≤ 30000) (hn : 1 ≤ n) (hn2 : n ≤ 64) (o : Oq) (hoo : OkO o) (h5 : o.k % 5 = 3) (hs1 : (slAt s.a.sl (o.t % n).toNat).s ≠ 1) :
    Calls Tryz.prog 9 #[.pointer (some ⟨d.p, 0, none⟩), encO o, .int .i64 n] w (Stepd F d (stepS n s o).1 (c + 3) (stepS n s o).2 w) := by

  rw [stepS_miss h5 hs1]
  have HST := Lib.hid h
  have hrd := ho.rdy (c := c) (by omega)
  obtain ⟨hfq, hcp, hl64⟩ := ho.fitQ (by omega)
  have hnl := ho.reach.len
  have hmz : 0 ≤ o.t % (n : Int) ∧ o.t % (n : Int) < n := ⟨Int.emod_nonneg _ (by omega), Int.emod_lt_of_pos _ (by omega)⟩
  obtain ⟨i, hi⟩ : ∃ i, i = (o.t % (n : Int)).toNat := ⟨_, rfl⟩
  have him : o.t % (n : Int) = (i : Int) := by omega
  rw [← hi] at hs1
  have hil : i < s.a.sl.length := by omega
  have hokk := (ho.reach.good.ok i hil).1
  have hz1 : IntKind.i64.wrap (1 + (i : Int)) = ((i + 1 : Nat) : Int) := by rw [IntKind.wrap_i64]; omega
  have HWD := Lib.hid (fun W (hi : StaH F d s c W) => VWord hi hrd i hil ((i : Int) + 1) (by omega))
  have HCA := Lib.hid (fun W (hi : StaH F d s c W) => VCAS_no hi hrd 0 i hil ((i : Int) + 1) (by omega) hs1)
  have HMM := Lib.hid (fun W (hi : StaH F d s c W) => VMemory hi)
  have hgs : 0 ≤ (slAt s.a.sl i).g ∧ (slAt s.a.sl i).g ≤ 1099511627776 ∧ 0 ≤ (slAt s.a.sl i).s ∧ (slAt s.a.sl i).s ≤ 3 := hokk
  have HGN := Lib.hid (fun W => A4.RGen_in (wordS (slAt s.a.sl i)) (by unfold wordS; omega) W)
  rw [show wordS (slAt s.a.sl i) / 4 = (slAt s.a.sl i).g by unfold wordS; omega] at HGN
  have HW1 := Lib.hid (fun W => A4.RWord_in (slAt s.a.sl i).g 1 ⟨hgs.1, hgs.2.1⟩ (by decide) W)
  have HW3 := Lib.hid (fun W => A4.RWord_in (slAt s.a.sl i).g 3 ⟨hgs.1, hgs.2.1⟩ (by decide) W)
  generalize wordS (slAt s.a.sl i) = wd at *
  generalize (slAt s.a.sl i).g = gg at *
  obtain ⟨ok, ot, near⟩ := o
  obtain ⟨hk0, hk1, ht0, ht1⟩ := hoo
  simp only at hk0 hk1 ht0 ht1 h5
  unfold encO
  simp only at him hmz
  have hm5 : ok.tmod 5 = 3 := by rw [Int.tmod_eq_emod_of_nonneg hk0]; exact h5
  have hcv : IntKind.u64.wrap (n : Int) = (n : Int) := by rw [IntKind.wrap_u64]; omega
  have htm : ot.tmod (n : Int) = (i : Int) := by rw [Int.tmod_eq_emod_of_nonneg ht0]; exact him
  have hcw : IntKind.i64.wrap (i : Int) = (i : Int) := by rw [IntKind.wrap_i64]; omega
  have hz1 : IntKind.i64.wrap (1 + (i : Int)) = (i : Int) + 1 := by rw [IntKind.wrap_i64]; omega
  have hn0 : ((n : Int) == 0) = false := by simp; omega
  clear h ho hrd hfq hcp hl64 hnl hs1 hi him hil hokk hgs hmz
  go_enter Tryz.func9, Tryz.ntmps9
  go_upto_region 1 with (fail)
  have hu := (Upd.refl [] w).alloc (.cells #[.int .u8 ok, .int .u64 ot, .bool near] 30)
  have b0 := heap_alloc1 w (.cells #[.int .u8 ok, .int .u64 ot, .bool near] 30)
  have h1 := HST.out.stay hu
  generalize w.alloc (.cells #[.int .u8 ok, .int .u64 ot, .bool near] 30) = W at *
  generalize w.heap.size = P at *
  have HU := Lib.hid hu; have HS1 := Lib.hid h1; have HB := Lib.hid b0
  obtain ⟨c0, c1, c2⟩ := cells3 b0
  clear hu h1 b0
  have HM1 := Lib.hid (HMM.out _ HS1.out)
  have HW0 := Lib.hid (HWD.out _ HS1.out)
  have HC1 := Lib.hid (HCA.out _ HS1.out)
  go_wp2_with fail
  (with_reducible refine HM1.out.mono ?_)
  rintro e w' ⟨rfl, rfl⟩
  go_wp2_with fail
  (with_reducible refine HW0.out.mono ?_)
  rintro e w' ⟨rfl, rfl⟩
  go_wp2_with fail
  (with_reducible refine HM1.out.mono ?_)
  rintro e w' ⟨rfl, rfl⟩
  go_wp2_with fail
  (with_reducible refine (HGN.out _).mono ?_)
  rintro e w' ⟨rfl, rfl⟩
  go_wp2_with fail
  (with_reducible refine (HW1.out _).mono ?_)
  rintro e w' ⟨rfl, rfl⟩
  go_wp2_with fail
  (with_reducible refine (HGN.out _).mono ?_)
  rintro e w' ⟨rfl, rfl⟩
  go_wp2_with fail
  (with_reducible refine (HW3.out _).mono ?_)
  rintro e w' ⟨rfl, rfl⟩
  go_wp2_with fail
  (with_reducible refine HC1.out.mono ?_)
  rintro e w2 ⟨rfl, F2, hs2, hg2⟩
  have HS2 := Lib.hid hs2; have HG2 := Lib.hid (Goes.after HU.out hg2)
  clear hs2 hg2
  go_wp2_with fail
  go_ret
  exact ⟨rfl, _, Sta.more HS2.out (by omega), HG2.out⟩

set_option maxRecDepth 100000 in
set_option maxHeartbeats 4000000 in
theorem Step_peek {F : List Nat} {d : At} {s : Sto} {c n k : Nat} {w : World} {is : List Int} (h : StaH F d s c w) (ho : OkS n k s is) (hk : k ≤ 1000) (hc : c ≤ 30000) (_hn : 1 ≤ n) (_hn2 : n ≤ 64) (o : Oq) (hoo : OkO o) (h5 : o.k % 5 = 4) :
    Calls Tryz.prog 9 #[.pointer (some ⟨d.p, 0, none⟩), encO o, .int .i64 n] w (Stepd F d (stepS n s o).1 (c + 3) (stepS n s o).2 w) := by

  rw [stepS_peek h5]
  have HST := Lib.hid h
  have hrd := ho.rdy (c := c) (by omega)
  obtain ⟨hfq, hcp, hl64⟩ := ho.fitQ (by omega)
  have hnl := ho.reach.len
  have HPK := Lib.hid (fun W (hi : StaH F d s c W) => HPeek hi hrd hfq)
  have hp1 : (peekL s.q).1 = refillL s.q := by
    unfold peekL
    split <;> rfl
  rw [hp1] at HPK
  unfold aggI at HPK
  generalize peekL s.q = pk at *
  obtain ⟨q0, ⟨xt, xq, xs⟩, b⟩ := pk
  simp only at HPK ⊢
  obtain ⟨ok, ot, near⟩ := o
  obtain ⟨hk0, hk1, ht0, ht1⟩ := hoo
  simp only at hk0 hk1 ht0 ht1 h5
  unfold encO
  have hm5 : ok.tmod 5 = 4 := by rw [Int.tmod_eq_emod_of_nonneg hk0]; exact h5
  clear h ho hrd hfq hcp hl64 hnl hp1
  go_enter Tryz.func9, Tryz.ntmps9
  go_upto_region 1 with (fail)
  have hu := (Upd.refl [] w).alloc (.cells #[.int .u8 ok, .int .u64 ot, .bool near] 30)
  have b0 := heap_alloc1 w (.cells #[.int .u8 ok, .int .u64 ot, .bool near] 30)
  have h1 := HST.out.stay hu
  generalize w.alloc (.cells #[.int .u8 ok, .int .u64 ot, .bool near] 30) = W at *
  generalize w.heap.size = P at *
  have HU := Lib.hid hu; have HS1 := Lib.hid h1; have HB := Lib.hid b0
  obtain ⟨c0, c1, c2⟩ := cells3 b0
  clear hu h1 b0
  have HA := Lib.hid (HPK.out _ HS1.out)
  go_wp2_with fail
  (with_reducible refine HA.out.mono ?_)
  rintro e w2 ⟨rfl, F2, hs2, hg2⟩
  have HS2 := Lib.hid hs2; have HG2 := Lib.hid (Goes.after HU.out hg2)
  clear hs2 hg2
  go_wp2_with fail
  go_ret
  exact ⟨rfl, _, Sta.more ((HS2.out).stay ((Upd.refl [] w2).alloc _)) (by omega), HG2.out.upd ((Upd.refl [] w2).alloc _)⟩

set_option maxRecDepth 100000 in
set_option maxHeartbeats 4000000 in
theorem Step_has {F : List Nat} {d : At} {s : Sto} {c n k : Nat} {w : World} {is : List Int} (h : StaH F d s c w) (ho : OkS n k s is) (hk : k ≤ 1000) (hc : c ≤ 30000) (hn : 1 ≤ n) (hn2 : n ≤ 64) (o : Oq) (hoo : OkO o) :
    Calls Tryz.prog 9 #[.pointer (some ⟨d.p, 0, none⟩), encO o, .int .i64 n] w (Stepd F d (stepS n s o).1 (c + 3) (stepS n s o).2 w) := by

  rcases (by omega : o.k % 5 = 0 ∨ o.k % 5 = 1 ∨ o.k % 5 = 2 ∨ o.k % 5 = 3 ∨ o.k % 5 = 4) with h5 | h5 | h5 | h5 | h5
  · by_cases he : s.a.id = []
    · exact Step_full0 h ho hk hc hn hn2 o hoo h5 he
    · exact (Step_put0 h ho hk hc hn hn2 o hoo h5 he).mono fun _ _ k => k.old
  · by_cases he : s.a.id = []
    · exact Step_full1 h ho hk hc hn hn2 o hoo h5 he
    · exact (Step_put1 h ho hk hc hn hn2 o hoo h5 he).mono fun _ _ k => k.old
  · cases hp : (popL s.q).2.2 with
    | false => exact Step_none h ho hk hc hn hn2 o hoo h5 hp
    | true => exact Step_pop h ho hk hc hn hn2 o hoo h5 hp
  · by_cases hs : (slAt s.a.sl (o.t % n).toNat).s = 1
    · exact Step_mark h ho hk hc hn hn2 o hoo h5 hs
    · exact Step_miss h ho hk hc hn hn2 o hoo h5 hs
  · exact Step_peek h ho hk hc hn hn2 o hoo h5
/-- A successful allocation. -/
theorem Step_room {F : List Nat} {d : At} {s : Sto} {c n k : Nat} {w : World} {is : List Int} (h : StaH F d s c w) (ho : OkS n k s is) (hk : k ≤ 1000) (hc : c ≤ 30000) (hn : 1 ≤ n) (hn2 : n ≤ 64) (o : Oq) (hoo : OkO o) (h5 : o.k % 5 < 2) (he : s.a.id ≠ []) :
    Calls Tryz.prog 9 #[.pointer (some ⟨d.p, 0, none⟩), encO o, .int .i64 n] w (StepdN F d (stepS n s o).1 (c + 3) (stepS n s o).2 w) := by
  have := hoo.k0
  rcases (by omega : o.k % 5 = 0 ∨ o.k % 5 = 1) with h5 | h5
  · exact Step_put0 h ho hk hc hn hn2 o hoo h5 he
  · exact Step_put1 h ho hk hc hn hn2 o hoo h5 he
end Go.Proofs.YtmfnfinbkdemkaaGreat
