
/- Contracts of layer 10: the program's distinct, over handles and over entries. -/
import Derived.Test.YtpneljhplbkdkaaHF
import Derived.Maps.OwnSet
import Derived.Maps.OwnOps
import Derived.Maps.Views
namespace Go.Proofs.Ytpneljhplbkdkaa
open Go.RowKit Go.Lib Go.Maps

def InR (x : Int) : Prop := -9223372036854775808 ≤ x ∧ x ≤ 9223372036854775807
theorem inR_wf {x : Int} (h : InR x) : (Lit.int .i64 x).wf = true := by
  obtain ⟨h1, h2⟩ := h
  have e1 : IntKind.i64.min = -9223372036854775808 := by decide
  have e2 : IntKind.i64.max = 9223372036854775807 := by decide
  simp [Lit.wf, e1, e2, h1, h2]
/-- Block b is a map that holds just the ints xs; whether they differ, its size tells. -/
def SetAt (w : World) (b k : Nat) (xs : List Int) : Prop := ∃ D : DataW Unit, w.ownsMap Try.prog 3 (plainElem Try.prog 4) b k D ∧ Tidy D ∧ (∀ x, InR x → Maps.has D (.int .i64 x) = decide (x ∈ xs)) ∧ Maps.size D ≤ k ∧ (Maps.size D = k ↔ xs.Nodup)
theorem set_made (w : World) : SetAt (w.alloc (.map #[] 0)) w.heap.size 0 [] := ⟨_, World.ownsMap_made _ _ _ _, tidy_empty, fun x _ => by rfl, Nat.le_refl _, by simp [Maps.size]⟩
theorem SetAt.put {w : World} {b k : Nat} {xs : List Int} (h : SetAt w b k xs) {x : Int} (hx : InR x) (hk : k ≤ 1000000) : ∃ w', (Instr.mapUpdate 81 (.map (some b)) (.int .i64 x) (.bool true)).run Try.prog w = .ok () w' ∧ SetAt w' b (k + 1) (xs ++ [x]) ∧ Upd [b] w w' := by
  obtain ⟨D, ho, ht, hh, hs, hn⟩ := h
  obtain ⟨w', hrun, ho', hg⟩ := ho.update (int_keyed Try.underlying3) Try.underlying81 (by unfold maxLen; omega) (keyOf_int_mk Try.underlying3 (inR_wf hx)) (plainElem_bool Try.underlying4 true)
  have hsz := size_put ht (k := .int .i64 x) (.lit (.bool true))
  rw [hh x hx] at hsz
  refine ⟨w', hrun, ⟨_, ho', ht.put (by trivial) _, fun y hy => ?_, ?_, ?_⟩, ⟨hg.os, hg.tape, hg.output, hg.size, fun i hi hni => hg.block i hi (fun e => hni (by simp at e; simp [e]))⟩⟩
  · by_cases hyx : y = x
    · subst hyx
      rw [has_put_same ht.isMap (by trivial)]; simp
    · rw [has_put_other (by simp [hyx]), hh y hy]; simp [hyx]
  · rw [hsz]; split <;> omega
  · have hnd : (xs ++ [x]).Nodup ↔ xs.Nodup ∧ x ∉ xs := by
      rw [List.nodup_append]
      constructor
      · rintro ⟨h1, _, h3⟩
        exact ⟨h1, fun hm => h3 x hm x (by simp) rfl⟩
      · rintro ⟨h1, h2⟩
        exact ⟨h1, by simp, fun a ha b hb e => by simp at hb; exact h2 (hb ▸ e ▸ ha)⟩
    rw [hsz, hnd]
    by_cases hm : x ∈ xs
    · rw [if_pos (by simpa using hm)]
      constructor
      · intro e; omega
      · rintro ⟨_, h2⟩; exact absurd hm h2
    · rw [if_neg (by simpa using hm), ← hn]
      constructor
      · intro e; exact ⟨by omega, hm⟩
      · rintro ⟨e, _⟩; omega
theorem SetAt.len {w : World} {b k : Nat} {xs : List Int} (h : SetAt w b k xs) : ∃ n : Nat, (∀ ty, (Builtin.len_ #[81] ty #[.map (some b)]).run Try.prog w = .ok (.int .i64 n) w) ∧ (n = k ↔ xs.Nodup) := by
  obtain ⟨D, ho, ht, hh, hs, hn⟩ := h
  exact ⟨Maps.size D, fun ty => ho.len Try.underlying81 ty, hn⟩
theorem SetAt.stay {w w' : World} {b k : Nat} {xs : List Int} (h : SetAt w b k xs) (hu : Upd [] w w') : SetAt w' b k xs := by
  obtain ⟨D, ⟨es, clock, hb, hf, h2, h3⟩, ht⟩ := h
  exact ⟨D, ⟨es, clock, hu.at hb (by simp), hf, h2, h3⟩, ht⟩
theorem PId_has (x : Int) (w : World) : Calls Try.prog 39 #[.int .i64 x] w fun e w' => e = .returned (.int .i64 x) ∧ Upd [] w w' := by
  go_enter Try.func39, Try.ntmps39
  go_wp2_with fail
  go_ret
  exact ⟨rfl, Upd.refl _ _⟩
set_option maxRecDepth 100000 in
theorem PSeq_has (x : En) (w : World) : Calls Try.prog 46 #[aggE x] w fun e w' => e = .returned (.int .i64 x.q) ∧ Upd [] w w' := by
  obtain ⟨i0, i1, i2, i3⟩ := x
  unfold aggE
  simp only
  go_enter Try.func46, Try.ntmps46
  go_upto_region 1 with (fail)
  have hu := (Upd.refl [] w).alloc (.cells #[.int .i64 i0, .int .i64 i1, .int .i64 i2, .bool i3] 49)
  have b0 := heap_alloc1 w (.cells #[.int .i64 i0, .int .i64 i1, .int .i64 i2, .bool i3] 49)
  generalize w.alloc (.cells #[.int .i64 i0, .int .i64 i1, .int .i64 i2, .bool i3] 49) = W at *
  generalize w.heap.size = P at *
  obtain ⟨c0, c1, c2, c3⟩ := cells4 b0
  have HU := Lib.hid hu
  clear hu b0
  go_wp2_with fail
  go_ret
  exact ⟨rfl, HU.out⟩
set_option maxRecDepth 100000 in
theorem PHan_has (x : En) (w : World) : Calls Try.prog 47 #[aggE x] w fun e w' => e = .returned (.int .i64 x.h) ∧ Upd [] w w' := by
  obtain ⟨i0, i1, i2, i3⟩ := x
  unfold aggE
  simp only
  go_enter Try.func47, Try.ntmps47
  go_upto_region 1 with (fail)
  have hu := (Upd.refl [] w).alloc (.cells #[.int .i64 i0, .int .i64 i1, .int .i64 i2, .bool i3] 49)
  have b0 := heap_alloc1 w (.cells #[.int .i64 i0, .int .i64 i1, .int .i64 i2, .bool i3] 49)
  generalize w.alloc (.cells #[.int .i64 i0, .int .i64 i1, .int .i64 i2, .bool i3] 49) = W at *
  generalize w.heap.size = P at *
  obtain ⟨c0, c1, c2, c3⟩ := cells4 b0
  have HU := Lib.hid hu
  clear hu b0
  go_wp2_with fail
  go_ret
  exact ⟨rfl, HU.out⟩
set_option maxRecDepth 100000 in
set_option maxHeartbeats 4000000 in
theorem DistN_has (a : Option Addr) (ca : Nat) (l : List Int) (w : World) (ha : Row LN w a l) (hl : l.length ≤ 1000000) (hr : ∀ x ∈ l, InR x) :
    Calls Try.prog 38 #[.slice a l.length ca, .func (.func 39) #[] #[]] w fun e w' => e = .returned (.bool (decide ((l.map (fun x => x)).Nodup))) ∧ Upd [] w w' := by
  have hmm := @run_makeMap Try.prog
  have HA := Lib.hid ha; have HR := Lib.hid hr
  have HC := Lib.hid (fun (x : Int) W => PId_has x W)
  clear ha hr
  obtain ⟨r, hr⟩ : ∃ r, r = decide ((l.map (fun x => x)).Nodup) := ⟨_, rfl⟩
  rw [← hr]
  have HD := Lib.hid hr
  clear hr
  obtain ⟨n, hn⟩ : ∃ n, n = l.length := ⟨_, rfl⟩
  rw [← hn] at hl ⊢
  have HN := Lib.hid hn
  clear hn
  have eg : ∀ args w, (callFunc 39 args).run Try.prog w = .ok (.enter 39 args) w := enters_of Try.func39 (by kernel_rfl) rfl
  go_enter Try.func38, Try.ntmps38
  go_wp2_with fail
  have HS0 := Lib.hid (set_made w)
  have HU0 : Hid (Upd [] w (w.alloc (.map #[] 0))) := (Upd.refl _ _).alloc _
  generalize w.alloc (.map #[] 0) = W0 at *
  generalize hH : w.heap.size = H at *
  have HH := Lib.hid hH
  clear hH
  go_loopg [11] n (fun gk vi wr => ∃ k : Nat, vi = .int .i64 k ∧ k + gk = n ∧ Hid (SetAt wr H k ((l.map (fun x => x)).take k)) ∧ Hid (Upd [] w wr))
  case atStart => exact ⟨0, rfl, by omega, HS0, HU0⟩
  case round =>
    obtain ⟨k, rfl, hkg, HSE, HU⟩ := hrel
    by_cases hlt : k < n
    · have hltz : (k : Int) < (n : Int) := by omega
      have hk1 : k < l.length := by have := HN.out; omega
      obtain ⟨b1, o1, rfl, x0⟩ := (HA.out.stay HU.out).num k hk1
      have hin : InR l[k] := HR.out _ (List.getElem_mem hk1)
      have HTK : Hid ((l.map (fun x => x)).take (k + 1) = (l.map (fun x => x)).take k ++ [l[k]]) := Lib.hid (by rw [List.take_succ_eq_append_getElem (by simpa using hk1)]; simp)
      have hcl := fun W => HC.out l[k] W
      skip
      have HCL := Lib.hid hcl
      clear hcl
      have hwk : IntKind.i64.wrap ((k : Int) + 1) = (k : Int) + 1 := by rw [IntKind.wrap_i64]; omega
      generalize l[k] = y0 at *
      have HIN := Lib.hid hin
      clear hin hk1
      go_wp2_with (go_at_call 39; (with_reducible refine (HCL.out _).mono ?_); rintro e w2 ⟨rfl, hu2⟩; obtain ⟨w3, hput, hse3, hu3⟩ := (HSE.out.stay hu2).put HIN.out (by omega); have HSE3 := Lib.hid hse3; have HU3 : Hid (Upd [] w w3) := (HU.out.thn hu2).trans hu3 (fun x hx hl => by have := HH.out; simp at hx; omega); clear hse3 hu3 hu2)
      go_roundg (gk - 1)
      case measure => omega
      case rel => exact ⟨k + 1, by go_num, by omega, Lib.hid (by rw [HTK.out]; exact HSE3.out), HU3⟩
    · have hltz : ¬ (k : Int) < (n : Int) := by omega
      obtain rfl : n = k := by omega
      obtain ⟨m, hlen, hiff⟩ := HSE.out.len
      have hiff2 : m = n ↔ (l.map (fun x => x)).Nodup := by
        rw [hiff, List.take_of_length_le (by have := HN.out; simp; omega)]
      clear hiff
      by_cases hmn : m = n
      · have HB : Hid (r = true) := Lib.hid (by rw [HD.out]; exact decide_eq_true (hiff2.1 hmn))
        subst hmn
        clear hiff2
        go_wp2_with fail
        go_ret
        exact ⟨ret_bool (by rw [HB.out]), HU.out⟩
      · have HB : Hid (r = false) := Lib.hid (by rw [HD.out]; exact decide_eq_false (fun h => hmn (hiff2.2 h)))
        have d1 : ((m : Int) == (n : Int)) = false := by simp; omega
        clear hiff2
        go_wp2_with fail
        go_ret
        exact ⟨ret_bool HB.out.symm, HU.out⟩
set_option maxRecDepth 100000 in
set_option maxHeartbeats 4000000 in
theorem DistQ_has (a : Option Addr) (ca : Nat) (l : List En) (w : World) (ha : Row LE w a l) (hl : l.length ≤ 1000000) (hr : ∀ x ∈ l, InR x.q) :
    Calls Try.prog 45 #[.slice a l.length ca, .func (.func 46) #[] #[]] w fun e w' => e = .returned (.bool (decide ((l.map (fun x => x.q)).Nodup))) ∧ Upd [] w w' := by
  have hmm := @run_makeMap Try.prog
  have HA := Lib.hid ha; have HR := Lib.hid hr
  have HC := Lib.hid (fun (x : En) W => PSeq_has x W)
  clear ha hr
  obtain ⟨r, hr⟩ : ∃ r, r = decide ((l.map (fun x => x.q)).Nodup) := ⟨_, rfl⟩
  rw [← hr]
  have HD := Lib.hid hr
  clear hr
  obtain ⟨n, hn⟩ : ∃ n, n = l.length := ⟨_, rfl⟩
  rw [← hn] at hl ⊢
  have HN := Lib.hid hn
  clear hn
  have eg : ∀ args w, (callFunc 46 args).run Try.prog w = .ok (.enter 46 args) w := enters_of Try.func46 (by kernel_rfl) rfl
  go_enter Try.func45, Try.ntmps45
  go_wp2_with fail
  have HS0 := Lib.hid (set_made w)
  have HU0 : Hid (Upd [] w (w.alloc (.map #[] 0))) := (Upd.refl _ _).alloc _
  generalize w.alloc (.map #[] 0) = W0 at *
  generalize hH : w.heap.size = H at *
  have HH := Lib.hid hH
  clear hH
  go_loopg [11] n (fun gk vi wr => ∃ k : Nat, vi = .int .i64 k ∧ k + gk = n ∧ Hid (SetAt wr H k ((l.map (fun x => x.q)).take k)) ∧ Hid (Upd [] w wr))
  case atStart => exact ⟨0, rfl, by omega, HS0, HU0⟩
  case round =>
    obtain ⟨k, rfl, hkg, HSE, HU⟩ := hrel
    by_cases hlt : k < n
    · have hltz : (k : Int) < (n : Int) := by omega
      have hk1 : k < l.length := by have := HN.out; omega
      obtain ⟨b1, o1, rfl, x0, x1, x2, x3⟩ := (HA.out.stay HU.out).ent k hk1
      have hin : InR l[k].q := HR.out _ (List.getElem_mem hk1)
      have HTK : Hid ((l.map (fun x => x.q)).take (k + 1) = (l.map (fun x => x.q)).take k ++ [l[k].q]) := Lib.hid (by rw [List.take_succ_eq_append_getElem (by simpa using hk1)]; simp)
      have hcl := fun W => HC.out l[k] W
      simp only [aggE_eq] at hcl
      have HCL := Lib.hid hcl
      clear hcl
      have hwk : IntKind.i64.wrap ((k : Int) + 1) = (k : Int) + 1 := by rw [IntKind.wrap_i64]; omega
      obtain ⟨⟨y0, y1, y2, y3⟩, hy⟩ : ∃ y, y = l[k]'hk1 := ⟨_, rfl⟩
      rw [← hy] at x0 x1 x2 x3 hin HTK HCL
      simp only at x0 x1 x2 x3 hin HTK HCL
      clear hy hk1
      have HIN := Lib.hid hin
      clear hin
      go_upto_region 5 with (fail)
      have hu1 := (Upd.refl [] wr).alloc (.cells #[.int .i64 y0, .int .i64 y1, .int .i64 y2, .bool y3] 49)
      have b0 := heap_alloc1 wr (.cells #[.int .i64 y0, .int .i64 y1, .int .i64 y2, .bool y3] 49)
      have HSE1 := Lib.hid (HSE.out.stay hu1)
      have HU1 := Lib.hid (HU.out.thn hu1)
      generalize wr.alloc (.cells #[.int .i64 y0, .int .i64 y1, .int .i64 y2, .bool y3] 49) = W1 at *
      generalize wr.heap.size = P1 at *
      clear x0 x1 x2 x3 hu1 HSE HU
      obtain ⟨x0, x1, x2, x3⟩ := cells4 b0
      clear b0
      go_wp2_with (go_at_call 46; (with_reducible refine (HCL.out _).mono ?_); rintro e w2 ⟨rfl, hu2⟩; obtain ⟨w3, hput, hse3, hu3⟩ := (HSE1.out.stay hu2).put HIN.out (by omega); have HSE3 := Lib.hid hse3; have HU3 : Hid (Upd [] w w3) := (HU1.out.thn hu2).trans hu3 (fun x hx hl => by have := HH.out; simp at hx; omega); clear hse3 hu3 hu2)
      go_roundg (gk - 1)
      case measure => omega
      case rel => exact ⟨k + 1, by go_num, by omega, Lib.hid (by rw [HTK.out]; exact HSE3.out), HU3⟩
    · have hltz : ¬ (k : Int) < (n : Int) := by omega
      obtain rfl : n = k := by omega
      obtain ⟨m, hlen, hiff⟩ := HSE.out.len
      have hiff2 : m = n ↔ (l.map (fun x => x.q)).Nodup := by
        rw [hiff, List.take_of_length_le (by have := HN.out; simp; omega)]
      clear hiff
      by_cases hmn : m = n
      · have HB : Hid (r = true) := Lib.hid (by rw [HD.out]; exact decide_eq_true (hiff2.1 hmn))
        subst hmn
        clear hiff2
        go_wp2_with fail
        go_ret
        exact ⟨ret_bool (by rw [HB.out]), HU.out⟩
      · have HB : Hid (r = false) := Lib.hid (by rw [HD.out]; exact decide_eq_false (fun h => hmn (hiff2.2 h)))
        have d1 : ((m : Int) == (n : Int)) = false := by simp; omega
        clear hiff2
        go_wp2_with fail
        go_ret
        exact ⟨ret_bool HB.out.symm, HU.out⟩
set_option maxRecDepth 100000 in
set_option maxHeartbeats 4000000 in
theorem DistH_has (a : Option Addr) (ca : Nat) (l : List En) (w : World) (ha : Row LE w a l) (hl : l.length ≤ 1000000) (hr : ∀ x ∈ l, InR x.h) :
    Calls Try.prog 45 #[.slice a l.length ca, .func (.func 47) #[] #[]] w fun e w' => e = .returned (.bool (decide ((l.map (fun x => x.h)).Nodup))) ∧ Upd [] w w' := by
  have hmm := @run_makeMap Try.prog
  have HA := Lib.hid ha; have HR := Lib.hid hr
  have HC := Lib.hid (fun (x : En) W => PHan_has x W)
  clear ha hr
  obtain ⟨r, hr⟩ : ∃ r, r = decide ((l.map (fun x => x.h)).Nodup) := ⟨_, rfl⟩
  rw [← hr]
  have HD := Lib.hid hr
  clear hr
  obtain ⟨n, hn⟩ : ∃ n, n = l.length := ⟨_, rfl⟩
  rw [← hn] at hl ⊢
  have HN := Lib.hid hn
  clear hn
  have eg : ∀ args w, (callFunc 47 args).run Try.prog w = .ok (.enter 47 args) w := enters_of Try.func47 (by kernel_rfl) rfl
  go_enter Try.func45, Try.ntmps45
  go_wp2_with fail
  have HS0 := Lib.hid (set_made w)
  have HU0 : Hid (Upd [] w (w.alloc (.map #[] 0))) := (Upd.refl _ _).alloc _
  generalize w.alloc (.map #[] 0) = W0 at *
  generalize hH : w.heap.size = H at *
  have HH := Lib.hid hH
  clear hH
  go_loopg [11] n (fun gk vi wr => ∃ k : Nat, vi = .int .i64 k ∧ k + gk = n ∧ Hid (SetAt wr H k ((l.map (fun x => x.h)).take k)) ∧ Hid (Upd [] w wr))
  case atStart => exact ⟨0, rfl, by omega, HS0, HU0⟩
  case round =>
    obtain ⟨k, rfl, hkg, HSE, HU⟩ := hrel
    by_cases hlt : k < n
    · have hltz : (k : Int) < (n : Int) := by omega
      have hk1 : k < l.length := by have := HN.out; omega
      obtain ⟨b1, o1, rfl, x0, x1, x2, x3⟩ := (HA.out.stay HU.out).ent k hk1
      have hin : InR l[k].h := HR.out _ (List.getElem_mem hk1)
      have HTK : Hid ((l.map (fun x => x.h)).take (k + 1) = (l.map (fun x => x.h)).take k ++ [l[k].h]) := Lib.hid (by rw [List.take_succ_eq_append_getElem (by simpa using hk1)]; simp)
      have hcl := fun W => HC.out l[k] W
      simp only [aggE_eq] at hcl
      have HCL := Lib.hid hcl
      clear hcl
      have hwk : IntKind.i64.wrap ((k : Int) + 1) = (k : Int) + 1 := by rw [IntKind.wrap_i64]; omega
      obtain ⟨⟨y0, y1, y2, y3⟩, hy⟩ : ∃ y, y = l[k]'hk1 := ⟨_, rfl⟩
      rw [← hy] at x0 x1 x2 x3 hin HTK HCL
      simp only at x0 x1 x2 x3 hin HTK HCL
      clear hy hk1
      have HIN := Lib.hid hin
      clear hin
      go_upto_region 5 with (fail)
      have hu1 := (Upd.refl [] wr).alloc (.cells #[.int .i64 y0, .int .i64 y1, .int .i64 y2, .bool y3] 49)
      have b0 := heap_alloc1 wr (.cells #[.int .i64 y0, .int .i64 y1, .int .i64 y2, .bool y3] 49)
      have HSE1 := Lib.hid (HSE.out.stay hu1)
      have HU1 := Lib.hid (HU.out.thn hu1)
      generalize wr.alloc (.cells #[.int .i64 y0, .int .i64 y1, .int .i64 y2, .bool y3] 49) = W1 at *
      generalize wr.heap.size = P1 at *
      clear x0 x1 x2 x3 hu1 HSE HU
      obtain ⟨x0, x1, x2, x3⟩ := cells4 b0
      clear b0
      go_wp2_with (go_at_call 47; (with_reducible refine (HCL.out _).mono ?_); rintro e w2 ⟨rfl, hu2⟩; obtain ⟨w3, hput, hse3, hu3⟩ := (HSE1.out.stay hu2).put HIN.out (by omega); have HSE3 := Lib.hid hse3; have HU3 : Hid (Upd [] w w3) := (HU1.out.thn hu2).trans hu3 (fun x hx hl => by have := HH.out; simp at hx; omega); clear hse3 hu3 hu2)
      go_roundg (gk - 1)
      case measure => omega
      case rel => exact ⟨k + 1, by go_num, by omega, Lib.hid (by rw [HTK.out]; exact HSE3.out), HU3⟩
    · have hltz : ¬ (k : Int) < (n : Int) := by omega
      obtain rfl : n = k := by omega
      obtain ⟨m, hlen, hiff⟩ := HSE.out.len
      have hiff2 : m = n ↔ (l.map (fun x => x.h)).Nodup := by
        rw [hiff, List.take_of_length_le (by have := HN.out; simp; omega)]
      clear hiff
      by_cases hmn : m = n
      · have HB : Hid (r = true) := Lib.hid (by rw [HD.out]; exact decide_eq_true (hiff2.1 hmn))
        subst hmn
        clear hiff2
        go_wp2_with fail
        go_ret
        exact ⟨ret_bool (by rw [HB.out]), HU.out⟩
      · have HB : Hid (r = false) := Lib.hid (by rw [HD.out]; exact decide_eq_false (fun h => hmn (hiff2.2 h)))
        have d1 : ((m : Int) == (n : Int)) = false := by simp; omega
        clear hiff2
        go_wp2_with fail
        go_ret
        exact ⟨ret_bool HB.out.symm, HU.out⟩
end Go.Proofs.Ytpneljhplbkdkaa
