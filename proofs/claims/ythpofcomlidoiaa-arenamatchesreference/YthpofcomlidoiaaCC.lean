/- Contracts: the reference's find and with. -/
import Derived.Test.YthpofcomlidoiaaCB
import Derived.Laws.AppendOwnNone
namespace Go.Proofs.Ythpofcomlidoiaa
open Go.RowKit Go.Lib

def findZ (a : Ar) (h : Int) : Int := if Refers a h then (hS h : Int) else -1
theorem findZ_yes {a : Ar} {h : Int} (k : Refers a h) : findZ a h = (hS h : Int) := by rw [findZ, if_pos k]
theorem findZ_no {a : Ar} {h : Int} (k : ¬ Refers a h) : findZ a h = -1 := by rw [findZ, if_neg k]
theorem hnd_of {h : Int} (k : validB h = true) : Hnd h := validB_yes.1 k

set_option maxHeartbeats 4000000 in
theorem find_has (r : ArR) (h : Int) (w : World) (ha : HasA w r) :
    Calls Try.prog 43 #[encA r, .int .i64 h] w fun e w' => e = .returned (.int .i64 (findZ r.ar h)) ∧ Upd [] w w' := by
  obtain ⟨a, sa, sc, ia, ic⟩ := r
  have HA := Lib.hid ha.sl
  simp only at HA
  unfold encA
  simp only
  clear ha
  have e1 := fun W => (RSlot_any h W)
  have e2 := fun W => (RGeneration_any h W)
  obtain ⟨f, hf⟩ : ∃ f, f = findZ a h := ⟨_, rfl⟩
  rw [← hf]
  obtain ⟨n, hn⟩ : ∃ n, n = a.sl.length := ⟨_, rfl⟩
  rw [← hn]
  have HF := Lib.hid hf
  have HN := Lib.hid hn
  clear hf hn
  generalize a.id.length = ni
  generalize a.nx = nx
  rcases hv : validB h with _ | _
  · rw [slotZ_no hv] at e1
    have E1 := Lib.hid e1
    have HV := Lib.hid hv
    clear e1 e2 hv
    go_enter Try.func43, Try.ntmps43
    go_wp2_with fail
    generalize hO : (Obj.cells #[.slice sa n sc, .slice ia ni ic, .int .i64 nx] 25 : Obj) = O
    have HU : Hid (Upd [] w (w.alloc O)) := (Upd.refl _ _).alloc _
    have hb := box_at w hO
    have cb := cell_block hb 0
    simp only [List.getElem?_toArray, List.getElem?_cons_zero] at cb
    generalize w.alloc O = W at *
    generalize w.heap.size = B at *
    clear hb hO
    refine (E1.out _).mono ?_
    rintro e w' ⟨rfl, rfl⟩
    go_wp2_with fail
    go_quiet (fail)
    go_wp2_with fail
    go_ret
    exact ⟨ret_int (by rw [HF.out, findZ_no (fun k => validB_no.1 HV.out k.1)]), HU.out.drewN _⟩
  · rw [slotZ_yes hv] at e1
    rw [genZ_yes hv] at e2
    have HV := Lib.hid hv
    rw [← hS_cast h] at e1
    generalize hi : hS h = i at e1
    have HI := Lib.hid hi
    clear hi hv
    have E1 := Lib.hid e1
    have hz0 : decide ((i : Int) < 0) = false := by simp
    by_cases hlt : i < n
    · have hk1 : i < a.sl.length := by have := HN.out; omega
      obtain ⟨b1, o1, rfl, c0, c1, _, _⟩ := HA.out i hk1
      have HG := Lib.hid (slAt_get hk1)
      have HL := Lib.hid hk1
      generalize a.sl[i] = y at *
      have hd1 : decide ((n : Int) ≤ (i : Int)) = false := by simp; omega
      have hd1n : decide (n ≤ i) = false := by simp; omega
      have hlz : (i : Int) < (n : Int) := by omega
      have E2 := Lib.hid e2
      clear e1 e2 HA hk1
      by_cases hg : y.g = h / 64
      · have hgz : (y.g != h / 64) = false := by simpa using hg
        have HGG := Lib.hid hg
        by_cases hs : y.s = 0
        · have hsz : (y.s == 0) = true := by simpa using hs
          have HSS := Lib.hid hs
          generalize h / 64 = gz at hgz E2
          generalize y.g = yg at c0 hgz
          generalize y.s = ys at c1 hsz
          clear hg hs
          go_enter Try.func43, Try.ntmps43
          go_wp2_with fail
          generalize hO : (Obj.cells #[.slice (some ⟨b1, o1, none⟩) n sc, .slice ia ni ic, .int .i64 nx] 25 : Obj) = O
          have HU : Hid (Upd [] w (w.alloc O)) := (Upd.refl _ _).alloc _
          have hb := box_at w hO
          have cb := cell_block hb 0
          simp only [List.getElem?_toArray, List.getElem?_cons_zero] at cb
          have k0 := HU.out.cell c0 (by simp)
          have k1 := HU.out.cell c1 (by simp)
          clear c0 c1
          generalize w.alloc O = W at *
          generalize w.heap.size = B at *
          clear hb hO
          refine (E1.out _).mono ?_
          rintro e w' ⟨rfl, rfl⟩
          go_wp2_with fail
          go_quiet ((go_at_call 53; exact Calls.quiet_of_same ((E2.out _).mono (fun _ _ h => ⟨h.1, h.2.symm⟩))))
          go_wp2_with fail
          go_ret
          exact ⟨ret_int (by rw [HF.out, findZ_no (fun k => by have := k.2.2.2; rw [HI.out, HG.out] at this; exact this HSS.out)]), HU.out.drewN _⟩
        · have hsz : (y.s == 0) = false := by simpa using hs
          have HSS := Lib.hid hs
          generalize h / 64 = gz at hgz E2
          generalize y.g = yg at c0 hgz
          generalize y.s = ys at c1 hsz
          clear hg hs
          go_enter Try.func43, Try.ntmps43
          go_wp2_with fail
          generalize hO : (Obj.cells #[.slice (some ⟨b1, o1, none⟩) n sc, .slice ia ni ic, .int .i64 nx] 25 : Obj) = O
          have HU : Hid (Upd [] w (w.alloc O)) := (Upd.refl _ _).alloc _
          have hb := box_at w hO
          have cb := cell_block hb 0
          simp only [List.getElem?_toArray, List.getElem?_cons_zero] at cb
          have k0 := HU.out.cell c0 (by simp)
          have k1 := HU.out.cell c1 (by simp)
          clear c0 c1
          generalize w.alloc O = W at *
          generalize w.heap.size = B at *
          clear hb hO
          refine (E1.out _).mono ?_
          rintro e w' ⟨rfl, rfl⟩
          go_wp2_with fail
          go_quiet ((go_at_call 53; exact Calls.quiet_of_same ((E2.out _).mono (fun _ _ h => ⟨h.1, h.2.symm⟩))))
          go_wp2_with fail
          go_ret
          exact ⟨ret_int (by rw [HF.out, findZ_yes ⟨hnd_of HV.out, by rw [HI.out]; exact HL.out, by rw [HI.out, HG.out]; exact HGG.out, by rw [HI.out, HG.out]; exact HSS.out⟩, HI.out]), HU.out.drewN _⟩
      · have hgz : (y.g != h / 64) = true := by simpa using hg
        have HGG := Lib.hid hg
        generalize h / 64 = gz at hgz E2
        generalize y.g = yg at c0 hgz
        generalize y.s = ys at c1
        clear hg
        go_enter Try.func43, Try.ntmps43
        go_wp2_with fail
        generalize hO : (Obj.cells #[.slice (some ⟨b1, o1, none⟩) n sc, .slice ia ni ic, .int .i64 nx] 25 : Obj) = O
        have HU : Hid (Upd [] w (w.alloc O)) := (Upd.refl _ _).alloc _
        have hb := box_at w hO
        have cb := cell_block hb 0
        simp only [List.getElem?_toArray, List.getElem?_cons_zero] at cb
        have k0 := HU.out.cell c0 (by simp)
        have k1 := HU.out.cell c1 (by simp)
        clear c0 c1
        generalize w.alloc O = W at *
        generalize w.heap.size = B at *
        clear hb hO
        refine (E1.out _).mono ?_
        rintro e w' ⟨rfl, rfl⟩
        go_wp2_with fail
        go_quiet ((go_at_call 53; exact Calls.quiet_of_same ((E2.out _).mono (fun _ _ h => ⟨h.1, h.2.symm⟩))))
        go_wp2_with fail
        go_ret
        exact ⟨ret_int (by rw [HF.out, findZ_no (fun k => by have := k.2.2.1; rw [HI.out, HG.out] at this; exact HGG.out this)]), HU.out.drewN _⟩
    · have hd1 : decide ((n : Int) ≤ (i : Int)) = true := by simp; omega
      have hd1n : decide (n ≤ i) = true := by simp; omega
      clear e1 e2
      go_enter Try.func43, Try.ntmps43
      go_wp2_with fail
      generalize hO : (Obj.cells #[.slice sa n sc, .slice ia ni ic, .int .i64 nx] 25 : Obj) = O
      have HU : Hid (Upd [] w (w.alloc O)) := (Upd.refl _ _).alloc _
      have hb := box_at w hO
      have cb := cell_block hb 0
      simp only [List.getElem?_toArray, List.getElem?_cons_zero] at cb
      generalize w.alloc O = W at *
      generalize w.heap.size = B at *
      clear hb hO
      refine (E1.out _).mono ?_
      rintro e w' ⟨rfl, rfl⟩
      go_wp2_with fail
      go_quiet (fail)
      go_wp2_with fail
      go_ret
      exact ⟨ret_int (by rw [HF.out, findZ_no (fun k => by have := k.2.1; rw [HI.out, ← HN.out] at this; exact hlt this)]), HU.out.drewN _⟩
end Go.Proofs.Ythpofcomlidoiaa
