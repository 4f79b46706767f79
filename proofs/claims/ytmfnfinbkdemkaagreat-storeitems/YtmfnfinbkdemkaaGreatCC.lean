/- Contracts: the reference's contains, slot and Live. -/
/- Contracts: the reference's find and with. -/
import Derived.Test.YtmfnfinbkdemkaaGreatCA
import Derived.Shelf.SlSortCmp.QuietGrown
import Derived.Laws.AppendOwnNone
namespace Go.Proofs.YtmfnfinbkdemkaaGreat.A5
open Go.RowKit Go.Lib Go.Sort

/-- Draws, and blocks laid behind: nothing old turned. -/
def Grown (w w' : World) : Prop := ∃ q os, w' = grow (w.drewN q) os
theorem Grown.refl (w : World) : Grown w w := ⟨0, #[], by rw [grow_empty]; rfl⟩
theorem Grown.trans {a b c : World} (h : Grown a b) (k : Grown b c) : Grown a c := by
  obtain ⟨q, os, rfl⟩ := h
  obtain ⟨r, os', rfl⟩ := k
  exact ⟨q + r, os ++ os', by show grow (grow ((a.drewN q).drewN r) os) os' = _; rw [grow_grow, World.drewN_drewN]⟩
theorem Grown.alloc {a b : World} (h : Grown a b) (o : Obj) : Grown a (b.alloc o) := h.trans ⟨0, #[o], by rw [alloc_eq_grow]; rfl⟩
theorem Grown.drew {a b : World} (h : Grown a b) : Grown a b.drew := h.trans ⟨1, #[], by rw [grow_empty]; rfl⟩
theorem Grown.drewN {a b : World} (h : Grown a b) (n : Nat) : Grown a (b.drewN n) := h.trans ⟨n, #[], by rw [grow_empty]⟩
theorem upd_grow (w : World) (os : Array Obj) : Upd [] w (grow w os) := ⟨rfl, rfl, rfl, by simp, fun k hk _ => by
  show (w.heap ++ os)[k]? = w.heap[k]?
  rw [Array.getElem?_append_left hk]⟩
theorem Grown.upd {a b : World} (h : Grown a b) : Upd [] a b := by
  obtain ⟨q, os, rfl⟩ := h
  exact ((Upd.refl [] a).drewN q).trans (upd_grow _ os) (by simp)

theorem drop_mem {xs : List Int} {k : Nat} (h : k < xs.length) (x : Int) : (x ∈ xs.drop k) = (x = xs[k] ∨ x ∈ xs.drop (k + 1)) := by
  rw [List.drop_eq_getElem_cons h, List.mem_cons]
set_option maxHeartbeats 1000000 in
theorem contains_any (a : Option Addr) (ca : Nat) (xs : List Int) (x : Int) (w : World) (ha : Ints w a xs) (hx : xs.length ≤ 1000000) :
    Calls Tryz.prog 51 #[.slice a xs.length ca, .int .i64 x] w fun e w' => e = .returned (.bool (decide (x ∈ xs))) ∧ w = w' := by
  obtain ⟨r, hr⟩ : ∃ r, r = decide (x ∈ xs) := ⟨_, rfl⟩
  rw [← hr]
  have HR := Lib.hid hr
  have HA := Lib.hid ha
  clear hr ha
  obtain ⟨nx, hnx⟩ : ∃ n, n = xs.length := ⟨_, rfl⟩
  rw [← hnx]
  rw [← hnx] at hx
  have HNX := Lib.hid hnx
  clear hnx
  go_enter Tryz.func51, Tryz.ntmps51
  go_wp2_with fail
  go_loopg [5] nx (fun gk vi wr => ∃ k : Nat, vi = .int .i64 k ∧ k + gk = nx ∧ Hid (r = decide (x ∈ xs.drop k)) ∧ w = wr)
  case atStart => exact ⟨0, rfl, by omega, HR.out, rfl⟩
  case round =>
    obtain ⟨k, rfl, hkg, HK, rfl⟩ := hrel
    by_cases hlt : k < nx
    · have hltz : (k : Int) < (nx : Int) := by omega
      have hk1 : k < xs.length := by have := HNX.out; omega
      obtain ⟨b1, o1, rfl, c1⟩ := HA.out k hk1
      obtain ⟨y, hy⟩ : ∃ x, x = xs[k] := ⟨_, rfl⟩
      rw [← hy] at c1
      have HKK : Hid (r = decide (x = y ∨ x ∈ xs.drop (k + 1))) := by
        show r = _
        rw [HK.out]; exact decide_eq_decide.2 (by rw [drop_mem hk1, hy])
      clear hy
      by_cases hx0 : y = x
      · subst hx0
        go_wp2_with fail
        go_ret
        exact ⟨ret_bool (by rw [HKK.out]; simp), rfl⟩
      · have hz : (y == x) = false := by rw [beq_eq_false_iff_ne]; exact hx0
        go_wp2_with fail
        go_roundg (gk - 1)
        case measure => omega
        case rel => exact ⟨k + 1, by go_num, by omega, (by rw [HKK.out]; exact Lib.hid (decide_eq_decide.2 ⟨fun h => h.resolve_left (fun e => hx0 e.symm), .inr⟩)), rfl⟩
    · have hltz : ¬ (k : Int) < (nx : Int) := by omega
      go_wp2_with fail
      go_ret
      exact ⟨ret_bool (by rw [HK.out, List.drop_eq_nil_of_le (by have := HNX.out; omega)]; simp), rfl⟩

noncomputable section
open Classical in
def slotA (s : Sl) (nx : Int) : Bool := decide (SlotOk s nx)
end
theorem slotA_yes {s : Sl} {nx : Int} (h : SlotOk s nx) : slotA s nx = true := by simp [slotA, h]
theorem slotA_no {s : Sl} {nx : Int} (h : ¬ SlotOk s nx) : slotA s nx = false := by simp [slotA, h]
theorem slotA_iff {s : Sl} {nx : Int} : slotA s nx = true ↔ SlotOk s nx := by simp [slotA]

set_option maxHeartbeats 4000000 in
theorem slot_any (g s t q nx : Int) (w : World) :
    Calls Tryz.prog 50 #[.agg #[.int .i64 g, .int .i64 s, .int .i64 t, .int .i64 q], .int .i64 nx] w fun e w' => e = .returned (.bool (slotA ⟨g, s, t, q⟩ nx)) ∧ Grown w w' := by
  obtain ⟨r, hr⟩ : ∃ r, r = slotA ⟨g, s, t, q⟩ nx := ⟨_, rfl⟩
  rw [← hr]
  have HR := Lib.hid hr
  clear hr
  by_cases h1 : g < 0
  · have dh1 : decide (g < 0) = true := by simpa using h1
    go_enter Tryz.func50, Tryz.ntmps50
    go_wp2_with fail
    go_ret
    exact ⟨ret_bool (by rw [HR.out]; exact (slotA_no (by simp only [SlotOk]; omega)).symm), (Grown.refl _).alloc _⟩
  · have dh1 : decide (g < 0) = false := by simpa using h1
    by_cases h2 : 1099511627776 < g
    · have dh2 : decide (1099511627776 < g) = true := by simpa using h2
      go_enter Tryz.func50, Tryz.ntmps50
      go_wp2_with fail
      go_ret
      exact ⟨ret_bool (by rw [HR.out]; exact (slotA_no (by simp only [SlotOk]; omega)).symm), (Grown.refl _).alloc _⟩
    · have dh2 : decide (1099511627776 < g) = false := by simpa using h2
      by_cases h3 : s < 0
      · have dh3 : decide (s < 0) = true := by simpa using h3
        go_enter Tryz.func50, Tryz.ntmps50
        go_wp2_with fail
        go_ret
        exact ⟨ret_bool (by rw [HR.out]; exact (slotA_no (by simp only [SlotOk]; omega)).symm), (Grown.refl _).alloc _⟩
      · have dh3 : decide (s < 0) = false := by simpa using h3
        by_cases h4 : 3 < s
        · have dh4 : decide (3 < s) = true := by simpa using h4
          go_enter Tryz.func50, Tryz.ntmps50
          go_wp2_with fail
          go_ret
          exact ⟨ret_bool (by rw [HR.out]; exact (slotA_no (by simp only [SlotOk]; omega)).symm), (Grown.refl _).alloc _⟩
        · have dh4 : decide (3 < s) = false := by simpa using h4
          by_cases h5 : s = 0
          · have dh5 : (s == 0) = true := by simpa using h5
            by_cases h6 : t = 0
            · have dh6 : (t == 0) = true := by simpa using h6
              by_cases h7 : q = 0
              · have dh7 : (q == 0) = true := by simpa using h7
                go_enter Tryz.func50, Tryz.ntmps50
                go_wp2_with fail
                go_ret
                exact ⟨ret_bool (by rw [HR.out]; exact (slotA_yes (by simp only [SlotOk]; omega)).symm), (Grown.refl _).alloc _⟩
              · have dh7 : (q == 0) = false := by simpa using h7
                go_enter Tryz.func50, Tryz.ntmps50
                go_wp2_with fail
                go_ret
                exact ⟨ret_bool (by rw [HR.out]; exact (slotA_no (by simp only [SlotOk]; omega)).symm), (Grown.refl _).alloc _⟩
            · have dh6 : (t == 0) = false := by simpa using h6
              go_enter Tryz.func50, Tryz.ntmps50
              go_wp2_with fail
              go_ret
              exact ⟨ret_bool (by rw [HR.out]; exact (slotA_no (by simp only [SlotOk]; omega)).symm), (Grown.refl _).alloc _⟩
          · have dh5 : (s == 0) = false := by simpa using h5
            by_cases h8 : 0 ≤ t
            · have dh8 : decide (0 ≤ t) = true := by simpa using h8
              by_cases h9 : t ≤ 1152921504606846976
              · have dh9 : decide (t ≤ 1152921504606846976) = true := by simpa using h9
                by_cases h10 : 0 ≤ q
                · have dh10 : decide (0 ≤ q) = true := by simpa using h10
                  by_cases h11 : q < nx
                  · have dh11 : decide (q < nx) = true := by simpa using h11
                    go_enter Tryz.func50, Tryz.ntmps50
                    go_wp2_with fail
                    go_ret
                    exact ⟨ret_bool (by rw [HR.out]; exact (slotA_yes (by simp only [SlotOk]; omega)).symm), (Grown.refl _).alloc _⟩
                  · have dh11 : decide (q < nx) = false := by simpa using h11
                    go_enter Tryz.func50, Tryz.ntmps50
                    go_wp2_with fail
                    go_ret
                    exact ⟨ret_bool (by rw [HR.out]; exact (slotA_no (by simp only [SlotOk]; omega)).symm), (Grown.refl _).alloc _⟩
                · have dh10 : decide (0 ≤ q) = false := by simpa using h10
                  go_enter Tryz.func50, Tryz.ntmps50
                  go_wp2_with fail
                  go_ret
                  exact ⟨ret_bool (by rw [HR.out]; exact (slotA_no (by simp only [SlotOk]; omega)).symm), (Grown.refl _).alloc _⟩
              · have dh9 : decide (t ≤ 1152921504606846976) = false := by simpa using h9
                go_enter Tryz.func50, Tryz.ntmps50
                go_wp2_with fail
                go_ret
                exact ⟨ret_bool (by rw [HR.out]; exact (slotA_no (by simp only [SlotOk]; omega)).symm), (Grown.refl _).alloc _⟩
            · have dh8 : decide (0 ≤ t) = false := by simpa using h8
              go_enter Tryz.func50, Tryz.ntmps50
              go_wp2_with fail
              go_ret
              exact ⟨ret_bool (by rw [HR.out]; exact (slotA_no (by simp only [SlotOk]; omega)).symm), (Grown.refl _).alloc _⟩

set_option maxHeartbeats 2000000 in
theorem Live_has (r : ArR) (w : World) (h : HasA w r) (hl : r.ar.sl.length ≤ 1000000) :
    Calls Tryz.prog 18 #[encA r] w fun e w' => e = .returned (.int .i64 (liveL r.ar.sl : Nat)) ∧ Grown w w' := by
  obtain ⟨⟨l, id, nx⟩, sa, sc, ia, ic⟩ := r
  have HA := Lib.hid h.sl
  simp only at hl HA
  unfold encA
  simp only
  clear h
  obtain ⟨n, hn⟩ : ∃ n, n = l.length := ⟨_, rfl⟩
  obtain ⟨v, hv⟩ : ∃ v, v = liveL l := ⟨_, rfl⟩
  rw [← hn, ← hv]
  rw [← hn] at hl
  have HN := Lib.hid hn
  have HV := Lib.hid hv
  clear hn hv
  generalize id.length = ni
  go_enter Tryz.func18, Tryz.ntmps18
  go_wp2_with fail
  generalize hO : (Obj.cells #[.slice sa n sc, .slice ia ni ic, .int .i64 nx] 45 : Obj) = O
  have HU : Hid (Upd [] w (w.alloc O)) := (Upd.refl _ _).alloc _
  have HGR : Hid (Grown w (w.alloc O)) := (Grown.refl _).alloc _
  have hb := box_at w hO
  have c0 := cell_block hb 0
  simp only [List.getElem?_toArray, List.getElem?_cons_zero] at c0
  have HA2 := Lib.hid (HA.out.stay HU.out)
  generalize hW : w.alloc O = W at *
  generalize hB : w.heap.size = B at *
  clear hb hO hW hB
  go_loopg [3, 4] n (fun gk vc vi wr => ∃ k : Nat, vi = .int .i64 k ∧ vc = .int .i64 (liveTo l k : Nat) ∧ k + gk = n ∧ W = wr)
  case atStart => exact ⟨0, rfl, rfl, by omega, rfl⟩
  case round =>
    obtain ⟨k, rfl, rfl, hkg, rfl⟩ := hrel
    have hle := liveTo_le l k
    by_cases hlt : k < n
    · have hltz : (k : Int) < (n : Int) := by omega
      have hk1 : k < l.length := by have := HN.out; omega
      obtain ⟨b1, o1, rfl, _, c1, _, _⟩ := HA2.out k hk1
      have HS := Lib.hid (liveTo_succ l k)
      rw [slAt_get hk1] at HS
      by_cases hz : l[k].s = 0
      · have hz2 : (l[k].s == 0) = true := by simpa using hz
        generalize l[k].s = y at *
        generalize liveTo l k = m at *
        go_wp2_with fail
        go_roundg (gk - 1)
        case measure => omega
        case rel => exact ⟨k + 1, by go_num, by rw [HS.out, if_pos hz]; rfl, by omega, rfl⟩
      · have hz2 : (l[k].s == 0) = false := by simpa using hz
        generalize l[k].s = y at *
        generalize liveTo l k = m at *
        go_wp2_with fail
        go_roundg (gk - 1)
        case measure => omega
        case rel => exact ⟨k + 1, by go_num, by rw [HS.out, if_neg hz]; go_num, by omega, rfl⟩
    · have hltz : ¬ (k : Int) < (n : Int) := by omega
      obtain rfl : k = n := by omega
      go_wp2_with fail
      go_ret
      exact ⟨ret_int (by rw [HV.out, HN.out]; rfl), HGR.out⟩
end Go.Proofs.YtmfnfinbkdemkaaGreat.A5
namespace Go.Proofs.YtmfnfinbkdemkaaGreat.A5
open Go.RowKit Go.Lib

def findZ (a : Ar) (h : Int) : Int := if Refers a h then (hS h : Int) else -1
theorem findZ_yes {a : Ar} {h : Int} (k : Refers a h) : findZ a h = (hS h : Int) := by rw [findZ, if_pos k]
theorem findZ_no {a : Ar} {h : Int} (k : ¬ Refers a h) : findZ a h = -1 := by rw [findZ, if_neg k]
theorem hnd_of {h : Int} (k : validB h = true) : Hnd h := validB_yes.1 k

end Go.Proofs.YtmfnfinbkdemkaaGreat.A5
