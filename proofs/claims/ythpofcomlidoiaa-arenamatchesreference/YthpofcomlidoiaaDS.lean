/- Contract: the program's New; all contracts together. -/
import Derived.Test.YthpofcomlidoiaaDR
import Derived.Test.YthpofcomlidoiaaCV
namespace Go.Proofs.Ythpofcomlidoiaa
open Go.RowKit Go.Lib

theorem flatS_zs (n : Nat) : ∀ v ∈ flatS (zs n), v = Value.int .i64 0 := by
  intro v hv
  obtain ⟨s, hs, h⟩ := List.mem_flatMap.1 hv
  obtain rfl : s = ⟨0, 0, 0, 0⟩ := (List.mem_replicate.1 hs).2
  simp only [encS, List.mem_cons, List.not_mem_nil, or_false] at h
  rcases h with rfl | rfl | rfl | rfl <;> rfl
theorem madeSlots (n : Nat) : madeCells #[Value.int .i64 0, .int .i64 0, .int .i64 0, .int .i64 0] (n * 4) = (flatS (zs n)).toArray := by
  apply Array.ext
  · simp [madeCells, flatS_length, zs_length]
  · intro i h1 h2
    have e : (flatS (zs n)).toArray[i] = .int .i64 0 := flatS_zs n _ (by rw [List.getElem_toArray]; exact List.getElem_mem _)
    rw [e]
    have hm : i % 4 = 0 ∨ i % 4 = 1 ∨ i % 4 = 2 ∨ i % 4 = 3 := by omega
    rcases hm with hm | hm | hm | hm <;> simp [madeCells, hm]
theorem cells_slot : (Value.agg #[.int .i64 0, .int .i64 0, .int .i64 0, .int .i64 0]).cells = #[Value.int .i64 0, .int .i64 0, .int .i64 0, .int .i64 0] := by kernel_rfl

set_option maxHeartbeats 2000000 in
theorem PNew_no (c : Int) (hc : ¬ (1 ≤ c ∧ c ≤ 64)) (w : World) :
    Calls Try.prog 10 #[.int .i64 c] w fun e w' => ∃ r', e = .returned (.tuple #[encA r', .int .i64 1]) ∧ Born w hZ w' r' := by
  have HC := Lib.hid (validCapacity_any c)
  rw [show capB c = false from by unfold capB; rw [decide_eq_false_iff_not]; exact hc] at HC
  clear hc
  go_enter Try.func10, Try.ntmps10
  go_wp2_with fail
  refine (HC.out _).mono ?_
  rintro e w' ⟨rfl, rfl⟩
  have hb := heap_alloc1 w (.cells #[.slice none 0 0, .slice none 0 0, .int .i64 0] 25)
  have HU : Hid (Upd [] w (w.alloc (.cells #[.slice none 0 0, .slice none 0 0, .int .i64 0] 25))) := (Upd.refl [] w).alloc _
  generalize w.alloc (.cells #[.slice none 0 0, .slice none 0 0, .int .i64 0] 25) = W at *
  generalize hH : w.heap.size = H at *
  have HB := Lib.hid hb; have HH := Lib.hid hH
  obtain ⟨c0, c1, c2⟩ := cells3 hb
  obtain ⟨z0, z1, z2⟩ := free3 hb
  clear hb hH
  go_wp2_with fail
  have p1 := stored3 HB.out (.slice none 0 0) (.slice none 0 0) (.int .i64 0)
  have hU5 := upd_set3 W H (.slice none 0 0) (.slice none 0 0) (.int .i64 0)
  generalize (((W.setCell ⟨H, 0, none⟩ (.slice none 0 0)).setCell ⟨H, 1, none⟩ (.slice none 0 0)).setCell ⟨H, 2, none⟩ (.int .i64 0)) = w5 at *
  obtain ⟨r0, r1, r2⟩ := cells3 p1
  have hh := HH.out
  exact bodyPost_ret (v := .tuple #[.agg #[.slice none 0 0, .slice none 0 0, .int .i64 0], .int .i64 1]) (by simp [results, Try.results10, go_sem, r0, r1, r2]) rfl ⟨⟨hZ, none, 0, none, 0⟩, rfl, ⟨rfl, zero_has _, fun b _ => ⟨fun _ ad e => by simp at e, fun _ ad e => by simp at e⟩, HU.out.trans hU5 (fun x hx hl => by simp at hx; omega)⟩⟩

set_option maxHeartbeats 4000000 in
theorem PNew_yes (n : Nat) (h1 : 1 ≤ n) (h2 : n ≤ 64) (w : World) :
    Calls Try.prog 10 #[.int .i64 n] w fun e w' => ∃ r', e = .returned (.tuple #[encA r', .int .i64 0]) ∧ Born w (newA n) w' r' := by
  have HC := Lib.hid (validCapacity_any (n : Nat))
  rw [show capB (n : Nat) = true from by unfold capB; rw [decide_eq_true_iff]; omega] at HC
  have hmk := mkAny 23 3 (.int .i64 0) 1 8 Try.underlying23 infoInt n (by omega) (by omega) (icells (List.replicate n (0 : Int))) (madeInts n)
  have hms := mkAny 22 44 _ 4 32 Try.underlying22 infoSlot n (by omega) (by omega) (flatS (zs n)).toArray (by rw [cells_slot]; exact madeSlots n)
  generalize hZ1 : icells (List.replicate n (0 : Int)) = Z1 at *
  generalize hZ2 : (flatS (zs n)).toArray = Z2 at *
  have HZ1 := Lib.hid hZ1; have HZ2 := Lib.hid hZ2
  clear hZ1 hZ2
  go_enter Try.func10, Try.ntmps10
  go_wp2_with fail
  refine (HC.out _).mono ?_
  rintro e w' ⟨rfl, rfl⟩
  go_wp2_with fail
  obtain ⟨hu, b0, b1, hsz⟩ := two_boxes w (.cells #[.slice none 0 0, .slice none 0 0, .int .i64 0] 25) (.cells Z1 3)
  generalize (w.alloc (.cells #[.slice none 0 0, .slice none 0 0, .int .i64 0] 25)).alloc (.cells Z1 3) = W at *
  generalize hH : w.heap.size = H at *
  have HU := Lib.hid hu; have HB0 := Lib.hid b0; have HH := Lib.hid hH; have HSZ := Lib.hid hsz
  rw [← HZ1.out] at b1
  have HB1 := Lib.hid b1
  clear hu b0 b1 hH hsz
  go_loopg [14] n (fun gk vi wr => ∃ k : Nat, vi = .int .i64 k ∧ k + gk = n ∧ Hid (wr.heap[H + 1]? = some (.cells (icells (ids n k ++ List.replicate (n - k) 0)) 3 (0, 0))) ∧ Hid (Upd [H + 1] W wr))
  case atStart => exact ⟨0, rfl, by omega, (by have := HB1.out; show _ = _; simpa [ids] using this), Upd.refl _ _⟩
  case round =>
    obtain ⟨k, rfl, hkg, HB, HUR⟩ := hrel
    by_cases hlt : k < n
    · have hltz : (k : Int) < (n : Int) := by omega
      have hw1 : IntKind.i64.wrap ((n : Int) - 1) = (n : Int) - 1 := by rw [IntKind.wrap_i64]; omega
      have hw2 : IntKind.i64.wrap ((n : Int) - 1 - (k : Int)) = (n : Int) - 1 - (k : Int) := by rw [IntKind.wrap_i64]; omega
      obtain ⟨v, hv⟩ := icell_some HB.out k (by rw [fill_length _ _ _ (ids_length n k) (by omega)]; exact hlt)
      have hf := free_block HB.out k
      go_wp2_with fail
      go_roundg (gk - 1)
      case measure => omega
      case rel =>
        refine ⟨k + 1, by go_num, by omega, ?_, HUR.out.setCell (p := ⟨H + 1, k, none⟩) (fun _ => by simp) _⟩
        show _ = _
        rw [setCell_block HB.out, icells_set, fill_step _ n k _ (ids_length n k) hlt, ids_succ]
    · have hltz : ¬ (k : Int) < (n : Int) := by omega
      obtain rfl : n = k := by omega
      have hb := HB.out
      rw [fill_end] at hb
      have HBF := Lib.hid hb
      have hrb := HUR.out.at HB0.out (by simp)
      have hsz := HSZ.out; have hh := HH.out
      have hus := HUR.out.size
      have HAL : Hid (Upd [] wr (wr.alloc (.cells Z2 44))) := (Upd.refl [] wr).alloc _
      have HBS := Lib.hid (heap_alloc1 wr (.cells Z2 44))
      have hr2 := HAL.out.at hrb (by simp)
      have HR2 := Lib.hid hr2
      obtain ⟨c0, c1, c2⟩ := cells3 hr2
      obtain ⟨z0, z1, z2⟩ := free3 hr2
      clear hb hrb hr2
      go_wp2_with fail
      generalize wr.alloc (.cells Z2 44) = W2 at *
      generalize hG : wr.heap.size = G at *
      have p1 := stored3 HR2.out (.slice (some ⟨G, 0, none⟩) n n) (.slice (some ⟨H + 1, 0, none⟩) n n) (.int .i64 0)
      have hU5 := upd_set3 W2 H (.slice (some ⟨G, 0, none⟩) n n) (.slice (some ⟨H + 1, 0, none⟩) n n) (.int .i64 0)
      generalize (((W2.setCell ⟨H, 0, none⟩ (.slice (some ⟨G, 0, none⟩) n n)).setCell ⟨H, 1, none⟩ (.slice (some ⟨H + 1, 0, none⟩) n n)).setCell ⟨H, 2, none⟩ (.int .i64 0)) = w5 at *
      obtain ⟨r0, r1, r2⟩ := cells3 p1
      have hsl : HeldS W2 G n (zs n) := by
        refine ⟨⟨Z2, HBS.out, ?_, ?_⟩, by rw [zs_length]; exact Nat.le_refl _⟩
        · rw [← HZ2.out, List.size_toArray, flatS_length, zs_length]
        · rw [← HZ2.out]
          exact List.take_of_length_le (by rw [List.toList_toArray, flatS_length, zs_length]; exact Nat.le_refl _)
      have hs5 : Slots w5 (some ⟨G, 0, none⟩) (zs n) := (hsl.keep hU5 (by simp; omega)).slots
      have hi5 : Ints w5 (some ⟨H + 1, 0, none⟩) (ids n n) := (ints_block (HAL.out.at HBF.out (by simp))).keep hU5 (fun ad e => by rw [← Option.some.inj e]; simp)
      exact bodyPost_ret (v := .tuple #[.agg #[.slice (some ⟨G, 0, none⟩) n n, .slice (some ⟨H + 1, 0, none⟩) n n, .int .i64 0], .int .i64 0]) (by simp [results, Try.results10, go_sem, r0, r1, r2]) rfl ⟨⟨newA n, some ⟨G, 0, none⟩, n, some ⟨H + 1, 0, none⟩, n⟩, by simp [encA, newA], ⟨rfl, ⟨hs5, hi5, by simp [newA], by simp [newA], fun e => by simp at e, fun e => by simp at e⟩, fun b hb => ⟨fun _ ad e => by rw [← Option.some.inj e]; simp only; omega, fun _ ad e => by rw [← Option.some.inj e]; simp only; omega⟩, ((HU.out.trans HUR.out (fun x hx hl => by simp at hx; omega)).trans HAL.out (by simp)).trans hU5 (fun x hx hl => by simp at hx; omega)⟩⟩

theorem arenaOk : ArenaOk where
  newYes := PNew_yes
  newNo := PNew_no
  valid := PValid_has
  live := fun r w h hg => (PLive_has r w h (by have := hg.len1; omega)).mono (fun _ _ k => ⟨k.1, k.2.upd⟩)
  look := fun r h w ha _ => PLookup_has r h w ha
  alloc := PAlloc_has
  trans := PTransition_has
  rel := PRelease_has
end Go.Proofs.Ythpofcomlidoiaa
