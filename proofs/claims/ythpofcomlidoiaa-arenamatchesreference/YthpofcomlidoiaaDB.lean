/- Contract: the program's distinct, a set of ints in a map of its own. -/
import Derived.Test.YthpofcomlidoiaaCB
import Derived.Maps.OwnOps
import Derived.Maps.Views
namespace Go.Proofs.Ythpofcomlidoiaa
open Go.RowKit Go.Lib Go.Maps

def InR (x : Int) : Prop := -9223372036854775808 ≤ x ∧ x ≤ 9223372036854775807
theorem inR_wf {x : Int} (h : InR x) : (Lit.int .i64 x).wf = true := by
  obtain ⟨h1, h2⟩ := h
  have e1 : IntKind.i64.min = -9223372036854775808 := by decide
  have e2 : IntKind.i64.max = 9223372036854775807 := by decide
  simp [Lit.wf, e1, e2, h1, h2]
/-- Block b is a map of at most n entries that holds just the ints xs. -/
def SeenAt (w : World) (b n : Nat) (xs : List Int) : Prop := ∃ D : DataW Unit, w.ownsMap Try.prog 3 (plainElem Try.prog 4) b n D ∧ ∀ x, InR x → D.atKey (.int .i64 x) (.lit (.bool false)) = .lit (.bool (decide (x ∈ xs)))
theorem zeroBool (w : World) : (zeroValue 4).run Try.prog w = .ok (.bool false) w := by kernel_rfl
theorem seen_made (w : World) : SeenAt (w.alloc (.map #[] 0)) w.heap.size 0 [] := ⟨_, World.ownsMap_made _ _ _ _, fun x _ => by rw [atKey_of_not_has (by rfl)]; simp⟩
theorem plainElem_bool_inv {v : Value} {z : DataW Unit × List MemPlace} (h : plainElem Try.prog 4 v = some z) : ∃ x, v = .bool x ∧ z = (.lit (.bool x), []) := by
  unfold plainElem at h
  rw [Try.underlying4] at h
  cases v <;> simp at h
  exact ⟨_, rfl, h.symm⟩
theorem SeenAt.look {w : World} {b n : Nat} {xs : List Int} (h : SeenAt w b n xs) {x : Int} (hx : InR x) : (Instr.lookup 70 (.map (some b)) (.int .i64 x) false).run Try.prog w = .ok (.bool (decide (x ∈ xs))) w := by
  obtain ⟨D, ho, hk⟩ := h
  obtain ⟨v, ps, hrun, hv⟩ := ho.lookup (int_keyed Try.underlying3) Try.underlying70 (zeroBool w) (plainElem_bool Try.underlying4 false) (keyOf_int_mk Try.underlying3 (inR_wf hx))
  obtain ⟨c, rfl, hc⟩ := plainElem_bool_inv hv
  rw [hk x hx] at hc
  simp only [Prod.mk.injEq, DataW.lit.injEq, Lit.bool.injEq] at hc
  rw [hc.1]; exact hrun
theorem SeenAt.put {w : World} {b n : Nat} {xs : List Int} (h : SeenAt w b n xs) {x : Int} (hx : InR x) (hn : n ≤ 1000000) : ∃ w', (Instr.mapUpdate 70 (.map (some b)) (.int .i64 x) (.bool true)).run Try.prog w = .ok () w' ∧ SeenAt w' b (n + 1) (xs ++ [x]) ∧ Upd [b] w w' := by
  obtain ⟨D, ho, hk⟩ := h
  have hm : IsMap D := by obtain ⟨es, clock, _, _, _, rfl⟩ := ho; exact ⟨_, rfl⟩
  obtain ⟨w', hrun, ho', hg⟩ := ho.update (int_keyed Try.underlying3) Try.underlying70 (by unfold maxLen; omega) (keyOf_int_mk Try.underlying3 (inR_wf hx)) (plainElem_bool Try.underlying4 true)
  refine ⟨w', hrun, ⟨_, ho', fun y hy => ?_⟩, ⟨hg.os, hg.tape, hg.output, hg.size, fun k hk hn => hg.block k hk (fun e => hn (by simp at e; simp [e]))⟩⟩
  by_cases hyx : y = x
  · subst hyx
    rw [atKey_put_same hm (by trivial)]; simp
  · rw [atKey_put_other (by simp [hyx]), hk y hy]; simp [hyx]
theorem SeenAt.lt {w : World} {b n : Nat} {xs : List Int} (h : SeenAt w b n xs) : b < w.heap.size := by
  obtain ⟨D, ho, _⟩ := h
  exact ho.lt

theorem nodup_take_succ {xs : List Int} {k : Nat} (h : k < xs.length) (hn : (xs.take k).Nodup) (hx : xs[k] ∉ xs.take k) : (xs.take (k + 1)).Nodup := by
  rw [List.take_succ_eq_append_getElem h, List.nodup_append]
  exact ⟨hn, by simp, fun a ha b hb e => by simp at hb; exact hx (hb ▸ e ▸ ha)⟩
theorem nodup_bad {xs : List Int} {k : Nat} (h : k < xs.length) (hx : xs[k] ∈ xs.take k) : ¬ xs.Nodup := by
  intro hn
  rw [← List.take_append_drop k xs, List.nodup_append] at hn
  exact hn.2.2 _ hx _ (by rw [List.drop_eq_getElem_cons h]; exact List.mem_cons_self) rfl

set_option maxHeartbeats 2000000 in
theorem distinct_any (a : Option Addr) (ca : Nat) (xs : List Int) (w : World) (ha : Ints w a xs) (hx : xs.length ≤ 1000) (hr : ∀ x ∈ xs, InR x) :
    Calls Try.prog 46 #[.slice a xs.length ca] w fun e w' => e = .returned (.bool (decide xs.Nodup)) ∧ Upd [] w w' := by
  have hmm := @run_makeMap Try.prog
  have HA := Lib.hid ha; have HR := Lib.hid hr
  clear ha hr
  obtain ⟨r, hr⟩ : ∃ r, r = decide xs.Nodup := ⟨_, rfl⟩
  rw [← hr]
  have HD := Lib.hid hr
  clear hr
  obtain ⟨nx, hnx⟩ : ∃ n, n = xs.length := ⟨_, rfl⟩
  rw [← hnx]
  rw [← hnx] at hx
  have HNX := Lib.hid hnx
  clear hnx
  go_enter Try.func46, Try.ntmps46
  go_wp2_with fail
  have HS0 := Lib.hid (seen_made w)
  have HU0 : Hid (Upd [] w (w.alloc (.map #[] 0))) := (Upd.refl _ _).alloc _
  generalize w.alloc (.map #[] 0) = W0 at *
  generalize hH : w.heap.size = H at *
  have HH := Lib.hid hH
  clear hH
  go_loopg [9] nx (fun gk vi wr => ∃ k : Nat, vi = .int .i64 k ∧ k + gk = nx ∧ Hid (SeenAt wr H k (xs.take k)) ∧ Hid ((xs.take k).Nodup) ∧ Hid (Upd [] w wr))
  case atStart => exact ⟨0, rfl, by omega, HS0, (by simp : ([] : List Int).Nodup), HU0⟩
  case round =>
    obtain ⟨k, rfl, hkg, HSE, HND, HU⟩ := hrel
    by_cases hlt : k < nx
    · have hltz : (k : Int) < (nx : Int) := by omega
      have hk1 : k < xs.length := by have := HNX.out; omega
      obtain ⟨b1, o1, rfl, c1⟩ := (HA.out.stay HU.out) k hk1
      have hin : InR xs[k] := HR.out _ (List.getElem_mem hk1)
      have hlook := HSE.out.look hin
      obtain ⟨w2, hput, hse2, hu2⟩ := HSE.out.put hin (by omega)
      by_cases hm : xs[k] ∈ xs.take k
      · have hd : decide (xs[k] ∈ xs.take k) = true := by simpa using hm
        rw [hd] at hlook
        have HB := Lib.hid (nodup_bad hk1 hm)
        clear hd hm hput hse2 hu2 hin
        generalize xs[k] = y at *
        go_wp2_with fail
        go_ret
        exact ⟨ret_bool (by rw [HD.out]; simpa using HB.out), HU.out⟩
      · have hd : decide (xs[k] ∈ xs.take k) = false := by simpa using hm
        rw [hd] at hlook
        have HN2 := Lib.hid (nodup_take_succ hk1 HND.out hm)
        rw [← List.take_succ_eq_append_getElem hk1] at hse2
        have HSE2 := Lib.hid hse2
        have HU2 : Hid (Upd [] w w2) := HU.out.trans hu2 (fun x hx hl => by have := HH.out; simp at hx; omega)
        clear hd hm hin hse2 hu2
        generalize xs[k] = y at *
        go_wp2_with fail
        go_roundg (gk - 1)
        case measure => omega
        case rel => exact ⟨k + 1, by go_num, by omega, HSE2, HN2, HU2⟩
    · have hltz : ¬ (k : Int) < (nx : Int) := by omega
      obtain rfl : nx = k := by omega
      have HB := HND.out
      rw [List.take_of_length_le (by have := HNX.out; omega)] at HB
      have HB := Lib.hid HB
      go_wp2_with fail
      go_ret
      exact ⟨ret_bool (by rw [HD.out]; simpa using HB.out), HU.out⟩
end Go.Proofs.Ythpofcomlidoiaa
