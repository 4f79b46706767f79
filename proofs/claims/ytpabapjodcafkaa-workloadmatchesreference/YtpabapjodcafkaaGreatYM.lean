/- Contracts: the laws' Ops of layer 9; operations in memory. -/
/- Contract: the program's execute: a workload handed to two functions by a map of the call's own. -/
import Derived.Test.YtpabapjodcafkaaGreatYB
import Derived.Test.YtpabapjodcafkaaGreatNG
import Derived.MapKept
import Derived.Shelf.Abstract
namespace Go.Proofs.YtpabapjodcafkaaGreat
open Go.RowKit Go.Lib

def LW : Lay Wo := ⟨2, fun x => [.bool x.p, .int .i64 x.t], fun _ => rfl, fun x v hv => by
  simp only [List.mem_cons, List.not_mem_nil, or_false] at hv
  rcases hv with rfl | rfl <;> rfl, by decide⟩
theorem infoWork : (Tryz.prog.info? 36).map (fun i => (i.zero, i.size, i.bytes)) = some (some (.agg #[.bool false, .int .i64 0]), 2, 16) := by kernel_rfl
theorem tyW : RowTy LW 22 36 := rowTy Tryz.underlying22 _ 16 infoWork rfl (by decide)
theorem Row.work {w : World} {ad : Option Addr} {l : List Wo} (h : Row LW w ad l) (j : Nat) (hj : j < l.length) : ∃ b off, ad = some ⟨b, off, none⟩ ∧ w.cell? ⟨b, off + j * 2, none⟩ = some (.bool l[j].p) ∧ w.cell? ⟨b, off + j * 2 + 1, none⟩ = some (.int .i64 l[j].t) := by
  obtain ⟨b, off, e, c⟩ := h j hj
  exact ⟨b, off, e, c 0 _ rfl, c 1 _ rfl⟩
theorem work_cells {w : World} {b : Nat} {x : Wo} {e : TypeId} {f : Nat × Nat} (h : w.heap[b]? = some (.cells #[.bool x.p, .int .i64 x.t] e f)) : Row LW w (some ⟨b, 0, none⟩) [x] := by
  intro j hj
  obtain rfl : j = 0 := by simp at hj; omega
  refine ⟨b, 0, rfl, fun t u hu => ?_⟩
  rw [cell_block h]
  simp only [List.getElem_cons_zero] at hu
  have ht := LW.lt hu
  rw [show 0 + 0 * LW.k + t = t by omega]
  simpa [LW] using hu
/-- A row that a call made, as a slice. -/
structure MadeW (w : World) (l : List Wo) (w' : World) (s : SlR Wo) : Prop where
  eq : s.l = l
  has : HasS LW w' s
  ge : ∀ a, s.ad = some a → w.heap.size ≤ a.block
  upd : Upd [] w w'
def opW (x : Wo) : Wo := ⟨x.p, max (x.t.tmod 1152921504606846977) (-(x.t.tmod 1152921504606846977))⟩
theorem tmod_bd (t : Int) : -1152921504606846976 ≤ t.tmod 1152921504606846977 ∧ t.tmod 1152921504606846977 ≤ 1152921504606846976 := by
  rcases Int.le_total 0 t with h | h
  · rw [Int.tmod_eq_emod_of_nonneg h]; omega
  · have h2 : (-t).tmod 1152921504606846977 = (-t) % 1152921504606846977 := Int.tmod_eq_emod_of_nonneg (by omega)
    rw [Int.neg_tmod] at h2
    omega
theorem opW_bd (x : Wo) : 0 ≤ (opW x).t ∧ (opW x).t ≤ MaxT := by
  have h := tmod_bd x.t
  have hM : MaxT = 1152921504606846976 := rfl
  rw [hM]
  unfold opW
  simp only
  omega
theorem flat_nil_row {w : World} (base : Nat) (e : TypeId) : w.ownsRow base e LW.k (.slice none 0 0) 0 (LW.flat []) := ⟨rfl, .inl ⟨rfl, rfl⟩⟩
set_option maxRecDepth 100000 in
set_option maxHeartbeats 4000000 in
theorem Ops_has (la : Option Addr) (lc : Nat) (os : List Wo) (w : World) (ho : Row LW w la os) (hl : os.length ≤ 1000) :
    Calls Tryz.prog 5 #[.slice la os.length lc] w fun e w' => ∃ s', e = .returned (.slice s'.ad s'.l.length s'.cap) ∧ MadeW w (os.map opW) w' s' := by
  have HO := Lib.hid ho
  obtain ⟨n, hn⟩ : ∃ n, n = os.length := ⟨_, rfl⟩
  have HN := Lib.hid hn
  have HSU : Hid (∀ k (h : k < os.length), (os.take (k + 1)).map opW = (os.take k).map opW ++ [opW os[k]]) := fun k h => by rw [List.take_succ_eq_append_getElem h, List.map_append]; rfl
  have HZ : Hid ((os.take 0).map opW = []) := rfl
  have HAL : Hid ((os.take n).map opW = os.map opW) := by rw [hn, List.take_length]; rfl
  obtain ⟨g, hg⟩ : ∃ g : Nat → List Wo, g = fun k => (os.take k).map opW := ⟨_, rfl⟩
  have HSU : Hid (∀ k (h : k < os.length), g (k + 1) = g k ++ [opW os[k]]) := by rw [hg]; exact HSU
  have HZ : Hid (g 0 = []) := by rw [hg]; exact HZ
  have HAL : Hid (g n = os.map opW) := by rw [hg]; exact HAL
  rw [← hn] at hl ⊢
  rw [← HAL.out]
  clear ho hn hg
  go_enter Tryz.func5, Tryz.ntmps5
  go_wp2_with fail
  go_loopg [3, 4] n (fun gk vs vi wr => ∃ (k : Nat) (va : Option Addr) (vc : Nat), vs = .slice va k vc ∧ vi = .int .i64 k ∧ k + gk = n ∧ Hid (wr.ownsRow w.heap.size 36 LW.k (.slice va k vc) k (LW.flat (g k))) ∧ Hid (Upd [] w wr))
  case atStart => exact ⟨0, none, 0, rfl, rfl, by omega, by rw [HZ.out]; exact flat_nil_row _ _, Upd.refl [] w⟩
  case round =>
    obtain ⟨k, va, vc, rfl, rfl, hkg, HOW, HUR⟩ := hrel
    by_cases hlt : k < n
    · have hltz : (k : Int) < (n : Int) := by omega
      have hk1 : k < os.length := by have := HN.out; omega
      obtain ⟨b, off, hb, x0, x1⟩ := (HO.out.stay HUR.out).work k hk1
      have HSK := Lib.hid (HSU.out k hk1)
      obtain ⟨⟨p, t⟩, hx⟩ : ∃ x, x = os[k]'hk1 := ⟨_, rfl⟩
      rw [← hx] at x0 x1 HSK
      simp only at x0 x1
      subst hb
      have hbd := tmod_bd t
      obtain ⟨m, hm⟩ : ∃ m, m = t.tmod 1152921504606846977 := ⟨_, rfl⟩
      have HSK2 : Hid (g (k + 1) = g k ++ [⟨p, max m (-m)⟩]) := by rw [hm]; exact HSK
      rw [← hm] at hbd
      have hm2 : t.tmod 1152921504606846977 = m := hm.symm
      have hwm : IntKind.i64.wrap (-m) = -m := by rw [IntKind.wrap_i64]; omega
      have hwk : IntKind.i64.wrap ((k : Int) + 1) = (k : Int) + 1 := by rw [IntKind.wrap_i64]; omega
      clear hx hk1 HSK hm
      have hsz := HUR.out.size
      obtain ⟨u, hu⟩ : ∃ u, u = max m (-m) := ⟨_, rfl⟩
      rw [← hu] at HSK2
      have hmx : max m (-m) = u := hu.symm
      have hu5 := (Upd.refl [] wr).alloc (.cells #[.bool p, .int .i64 u] 36)
      have HR2 := Lib.hid (work_cells (x := ⟨p, u⟩) (heap_alloc1 wr (.cells #[.bool p, .int .i64 u] 36)))
      have HO2 := Lib.hid (hu5.row HOW.out (by simp))
      have HU5 := Lib.hid (HUR.out.thn hu5)
      clear hu hu5
      go_upto_region 6 with (fail)
      go_upto_region 4 with (at_builtin; refine app_row tyW rfl _ _ rfl w.heap.size (.slice va k vc) k (g k) rfl HO2.out (some ⟨wr.heap.size, 0, none⟩) 1 1 [⟨p, u⟩] rfl rfl HR2.out (fun e => by simp at e) (by omega) (by simp; omega) ?_; intro v2 w2 hown2 hgrow2; obtain ⟨va2, vc2, rfl⟩ := row_shape hown2)
      have HO3 := Lib.hid hown2
      have HU6 : Hid (Upd [] w w2) := HU5.out.grown hgrow2 (fun x hx hl => by have := own_ge HOW.out x hx; omega)
      clear hown2 hgrow2 x0 x1
      go_wp2_with fail
      go_roundg (n - (k + 1))
      case measure => omega
      case rel => exact ⟨k + 1, va2, vc2, rfl, by go_num, by omega, by rw [HSK2.out]; exact HO3, HU6⟩
    · have hltz : ¬ (k : Int) < (n : Int) := by omega
      obtain rfl : k = n := by omega
      have hs := hasS_row HOW.out
      obtain ⟨hnn, ad3, cap3, e3, hS3, hge3⟩ := hs
      have HFIN : Hid (MadeW w (g k) wr ⟨g k, ad3, cap3⟩) := ⟨rfl, hS3, hge3, HUR.out⟩
      have HE3 := Lib.hid e3
      have HNN := Lib.hid hnn
      clear hnn e3 hS3 hge3
      go_wp2_with fail
      go_ret
      refine ⟨_, ?_, HFIN.out⟩
      rw [HE3.out]
      simp only
      exact ret_slice HNN.out
end Go.Proofs.YtpabapjodcafkaaGreat
namespace Go.Proofs.YtpabapjodcafkaaGreat
open Go.RowKit Go.Lib

/-- The block b is a map of the two bools. -/
def MapB (w : World) (b : Nat) (u v : Value) : Prop := w.heap[b]? = some (.map #[{ key := .bool false, val := u, born := 0 }, { key := .bool true, val := v, born := 1 }] 2)
theorem upd_map (w : World) (b : Nat) (o : Obj) : Upd [b] w { w with heap := w.heap.setIfInBounds b o } :=
  ⟨rfl, rfl, rfl, by simp, fun k _ hn => by
    simp only [List.mem_singleton] at hn
    rw [Array.getElem?_setIfInBounds_ne (fun e => hn e.symm)]⟩
theorem map_put0 {w : World} {b : Nat} (v : Value) (hb : w.heap[b]? = some (.map #[] 0)) :
    (Instr.mapUpdate 55 (.map (some b)) (.bool false) v).run Tryz.prog w = .ok () { w with heap := w.heap.setIfInBounds b (.map #[{ key := .bool false, val := v, born := 0 }] 1) } := by
  have hf : Instr.findNow .bool (.bool false) ([] : List MapEntry) 0 = some none := rfl
  have hc : (Instr.checkKey false 10000 4 (.bool false)).run Tryz.prog w = .ok () w := MapKept.run_checkKey (k := .bool false) Tryz.underlying4 (by simp [MapKept.IsKey]) false 9999
  simp [Instr.mapUpdate, run_underlying Tryz.underlying55, MapKept.run_getObj_map hb, hc, MapKept.run_findKey Tryz.underlying4 hf, MapKept.run_setObj_map _ hb, Result.andThen]
theorem map_put1 {w : World} {b : Nat} (u v : Value) (hb : w.heap[b]? = some (.map #[{ key := .bool false, val := u, born := 0 }] 1)) :
    (Instr.mapUpdate 55 (.map (some b)) (.bool true) v).run Tryz.prog w = .ok () { w with heap := w.heap.setIfInBounds b (.map #[{ key := .bool false, val := u, born := 0 }, { key := .bool true, val := v, born := 1 }] 2) } := by
  have hf : Instr.findNow .bool (.bool true) ([{ key := .bool false, val := u, born := 0 }] : List MapEntry) 0 = some none := rfl
  have hc : (Instr.checkKey false 10000 4 (.bool true)).run Tryz.prog w = .ok () w := MapKept.run_checkKey (k := .bool true) Tryz.underlying4 (by simp [MapKept.IsKey]) false 9999
  simp [Instr.mapUpdate, run_underlying Tryz.underlying55, MapKept.run_getObj_map hb, hc, MapKept.run_findKey Tryz.underlying4 hf, MapKept.run_setObj_map _ hb, Result.andThen]
theorem map_look {w : World} {b : Nat} {u v : Value} (h : MapB w b u v) (p : Bool) :
    (Instr.lookup 55 (.map (some b)) (.bool p) false).run Tryz.prog w = .ok (if p = true then v else u) w := by
  have hc : (Instr.checkKey false 10000 4 (.bool p)).run Tryz.prog w = .ok () w := MapKept.run_checkKey (k := .bool p) Tryz.underlying4 (by simp [MapKept.IsKey]) false 9999
  cases p with
  | false =>
    have hf : Instr.findNow .bool (.bool false) ([{ key := .bool false, val := u, born := 0 }, { key := .bool true, val := v, born := 1 }] : List MapEntry) 0 = some (some (0, u)) := rfl
    simp [Instr.lookup, run_underlying Tryz.underlying55, MapKept.run_getObj_map h, hc, MapKept.run_findKey Tryz.underlying4 hf, Result.andThen]
  | true =>
    have hf : Instr.findNow .bool (.bool true) ([{ key := .bool false, val := u, born := 0 }, { key := .bool true, val := v, born := 1 }] : List MapEntry) 0 = some (some (1, v)) := rfl
    simp [Instr.lookup, run_underlying Tryz.underlying55, MapKept.run_getObj_map h, hc, MapKept.run_findKey Tryz.underlying4 hf, Result.andThen]
theorem map_make (w : World) (u v : Value) : ∃ W1 W2, (Instr.mapUpdate 55 (.map (some w.heap.size)) (.bool false) u).run Tryz.prog (w.alloc (.map #[] 0)) = .ok () W1 ∧
    (Instr.mapUpdate 55 (.map (some w.heap.size)) (.bool true) v).run Tryz.prog W1 = .ok () W2 ∧ MapB W2 w.heap.size u v ∧ Upd [] w W2 := by
  have q0 := heap_alloc1 w (.map #[] 0)
  have hp0 := map_put0 u q0
  have hu0 := ((Upd.refl [] w).alloc (.map #[] 0)).new (upd_map (w.alloc (.map #[] 0)) w.heap.size (.map #[{ key := .bool false, val := u, born := 0 }] 1)) (Nat.le_refl _)
  have q1 := (MapKept.heap_set (w := w.alloc (.map #[] 0)) (o' := .map #[{ key := .bool false, val := u, born := 0 }] 1) q0).1
  generalize hg : ({ w.alloc (.map #[] 0) with heap := (w.alloc (.map #[] 0)).heap.setIfInBounds w.heap.size (.map #[{ key := .bool false, val := u, born := 0 }] 1) } : World) = W1 at hp0 hu0
  have q1 : W1.heap[w.heap.size]? = some (.map #[{ key := .bool false, val := u, born := 0 }] 1) := by rw [← hg]; exact q1
  refine ⟨W1, _, hp0, map_put1 u v q1, ?_, hu0.new (upd_map W1 w.heap.size _) (Nat.le_refl _)⟩
  exact (MapKept.heap_set (w := W1) (o' := .map #[{ key := .bool false, val := u, born := 0 }, { key := .bool true, val := v, born := 1 }] 2) q1).1
/-- Maps stay as they are. -/
def MapsKept (a b : World) : Prop := ∀ (i : Nat) (es : Array MapEntry) (c : Nat), a.heap[i]? = some (Obj.map es c) → b.heap[i]? = some (Obj.map es c)
theorem mapsKept_of {S : List Nat} {a b : World} (h : Upd S a b) (hS : ∀ x ∈ S, ∃ cs t f, a.heap[x]? = some (.cells cs t f)) : MapsKept a b := fun i es c hi =>
  h.at hi (fun hm => by
    obtain ⟨cs, t, f, hx⟩ := hS i hm
    rw [hi] at hx
    cases hx)
theorem cells2 {w : World} {b : Nat} {x y : Value} {t : TypeId} {f : Nat × Nat} (h : w.heap[b]? = some (.cells #[x, y] t f)) : w.cell? ⟨b, 0, none⟩ = some x ∧ w.cell? ⟨b, 1, none⟩ = some y := ⟨cell_block h 0, cell_block h 1⟩
/-- What execute asks of the two functions: I k holds behind k operations. -/
structure Doer (os : List Wo) (la : Option Addr) (g1 g2 P : Nat) (I : Nat → World → Prop) : Prop where
  stay : ∀ {k a b}, I k a → Upd [] a b → I k b
  row : ∀ {k a}, I k a → Row LW a la os
  e1 : ∀ args w, (callFunc g1 args).run Tryz.prog w = .ok (.enter g1 args) w
  e2 : ∀ args w, (callFunc g2 args).run Tryz.prog w = .ok (.enter g2 args) w
  ins : ∀ k (h : k < os.length) a, I k a → os[k].p = false → Calls Tryz.prog g1 #[.pointer (some ⟨P, 0, none⟩), .agg #[.int .i64 os[k].t, .int .i64 (k : Nat), .int .i64 0]] a fun e b => e = .returned (.tuple #[]) ∧ I (k + 1) b ∧ MapsKept a b
  del : ∀ k (h : k < os.length) a, I k a → os[k].p = true → Calls Tryz.prog g2 #[.pointer (some ⟨P, 0, none⟩), .agg #[.int .i64 os[k].t, .int .i64 (k : Nat), .int .i64 0]] a fun e b => e = .returned (.tuple #[]) ∧ I (k + 1) b ∧ MapsKept a b
set_option maxRecDepth 100000 in
set_option maxHeartbeats 4000000 in
theorem execute_has (la : Option Addr) (lc : Nat) (os : List Wo) (g1 g2 P : Nat) (I : Nat → World → Prop) (hd : Doer os la g1 g2 P I) (w : World) (h0 : I 0 w) (hl : os.length ≤ 100000) :
    Calls Tryz.prog 16 #[.slice la os.length lc, .func (.func g1) #[.pointer (some ⟨P, 0, none⟩)] #[], .func (.func g2) #[.pointer (some ⟨P, 0, none⟩)] #[]] w fun e w' => e = .returned (.tuple #[]) ∧ I os.length w' := by
  have hmm := @run_makeMap Tryz.prog
  have he1 := hd.e1; have he2 := hd.e2
  have HD := Lib.hid hd; have H0 := Lib.hid h0
  obtain ⟨n, hn⟩ : ∃ n, n = os.length := ⟨_, rfl⟩
  have HN := Lib.hid hn
  rw [← hn] at hl ⊢
  clear hd h0 hn
  obtain ⟨W1, W2, hp0, hp1, q2, hu1⟩ := map_make w (.func (.func g1) #[.pointer (some ⟨P, 0, none⟩)] #[]) (.func (.func g2) #[.pointer (some ⟨P, 0, none⟩)] #[])
  have HM := Lib.hid q2
  have HI0 : Hid (I 0 W2) := HD.out.stay H0.out hu1
  clear q2 hu1 H0
  go_enter Tryz.func16, Tryz.ntmps16
  go_wp2_with fail
  clear hp0 hp1
  generalize w.heap.size = H at *
  go_loopg [15] n (fun gk vi wr => ∃ k : Nat, vi = .int .i64 k ∧ k + gk = n ∧ Hid (I k wr) ∧ Hid (MapB wr H (.func (.func g1) #[.pointer (some ⟨P, 0, none⟩)] #[]) (.func (.func g2) #[.pointer (some ⟨P, 0, none⟩)] #[])))
  case atStart => exact ⟨0, rfl, by omega, HI0, HM⟩
  case round =>
    obtain ⟨k, rfl, hkg, HI, HMK⟩ := hrel
    by_cases hlt : k < n
    · have hltz : (k : Int) < (n : Int) := by omega
      have hk1 : k < os.length := by have := HN.out; omega
      obtain ⟨b, off, hb, x0, x1⟩ := (HD.out.row HI.out).work k hk1
      have hin := HD.out.ins k hk1
      have hde := HD.out.del k hk1
      obtain ⟨⟨p, t⟩, hx⟩ : ∃ x, x = os[k]'hk1 := ⟨_, rfl⟩
      rw [← hx] at x0 x1 hin hde
      simp only at x0 x1 hin hde
      subst hb
      clear hx hk1
      have hwk : IntKind.i64.wrap ((k : Int) + 1) = (k : Int) + 1 := by rw [IntKind.wrap_i64]; omega
      go_upto_region 4 with (fail)
      have hu5 := (Upd.refl [] wr).alloc (.cells #[.bool p, .int .i64 t] 36)
      have b5 := heap_alloc1 wr (.cells #[.bool p, .int .i64 t] 36)
      have HI5 : Hid (I k _) := HD.out.stay HI.out hu5
      have hm5 : MapB _ H _ _ := hu5.at HMK.out (by simp)
      clear x0 x1
      generalize wr.alloc (.cells #[.bool p, .int .i64 t] 36) = W5 at *
      generalize wr.heap.size = P5 at *
      clear hu5
      obtain ⟨x0, x1⟩ := cells2 b5
      have HM5 := Lib.hid hm5
      have hlk := map_look hm5 p
      clear hm5 b5
      cases p with
      | false =>
        have HCI := Lib.hid (hin W5 HI5.out rfl)
        simp only [Bool.false_eq_true, if_false] at hlk
        clear hin hde
        go_wp2_with fail
        refine HCI.out.mono ?_
        rintro e W6 ⟨rfl, h6, h7⟩
        have HI6 := Lib.hid h6
        have HM6 : Hid (MapB W6 H _ _) := Lib.hid (h7 _ _ _ HM5.out)
        clear h6 h7 hlk x0 x1
        go_wp2_with fail
        go_roundg (n - (k + 1))
        case measure => omega
        case rel => exact ⟨k + 1, by go_num, by omega, HI6, HM6⟩
      | true =>
        have HCI := Lib.hid (hde W5 HI5.out rfl)
        simp only [if_true] at hlk
        clear hin hde
        go_wp2_with fail
        refine HCI.out.mono ?_
        rintro e W6 ⟨rfl, h6, h7⟩
        have HI6 := Lib.hid h6
        have HM6 : Hid (MapB W6 H _ _) := Lib.hid (h7 _ _ _ HM5.out)
        clear h6 h7 hlk x0 x1
        go_wp2_with fail
        go_roundg (n - (k + 1))
        case measure => omega
        case rel => exact ⟨k + 1, by go_num, by omega, HI6, HM6⟩
    · have hltz : ¬ (k : Int) < (n : Int) := by omega
      obtain rfl : k = n := by omega
      go_wp2_with fail
      go_end0
      exact ⟨rfl, HI.out⟩
end Go.Proofs.YtpabapjodcafkaaGreat
