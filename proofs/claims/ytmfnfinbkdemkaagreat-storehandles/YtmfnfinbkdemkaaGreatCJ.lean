/- Contract: the store's New. -/
/- Contract: the reference's Same. -/
import Derived.Test.YtmfnfinbkdemkaaGreatIK
import Derived.Test.YtmfnfinbkdemkaaGreatLE
import Derived.Test.YtmfnfinbkdemkaaGreatCI
import Derived.Laws.StructEq
namespace Go.Proofs.YtmfnfinbkdemkaaGreat
open Go.RowKit Go.Lib
open A5

def capB (c : Int) : Bool := decide (1 ≤ c ∧ c ≤ 64)
set_option maxHeartbeats 400000 in
theorem validCapacity_any (c : Int) (w : World) : Calls Tryz.prog 82 #[.int .i64 c] w fun e w' => e = .returned (.bool (capB c)) ∧ w = w' := by
  by_cases h1 : 1 ≤ c
  · by_cases h2 : c ≤ 64
    · have d1 : decide (1 ≤ c) = true := by simpa using h1
      have d2 : decide (c ≤ 64) = true := by simpa using h2
      go_enter Tryz.func82, Tryz.ntmps82
      go_wp2
      go_ret
      exact ⟨by simp [capB, h1, h2], rfl⟩
    · have d1 : decide (1 ≤ c) = true := by simpa using h1
      have d2 : decide (c ≤ 64) = false := by simpa using h2
      go_enter Tryz.func82, Tryz.ntmps82
      go_wp2
      go_ret
      exact ⟨by simp [capB, h2], rfl⟩
  · have d1 : decide (1 ≤ c) = false := by simpa using h1
    go_enter Tryz.func82, Tryz.ntmps82
    go_wp2
    go_ret
    exact ⟨ret_bool (by symm; unfold capB; rw [decide_eq_false_iff_not]; omega), rfl⟩
theorem flatS_zs (n : Nat) : ∀ v ∈ flatS (zs n), v = Value.int .i64 0 := by
  intro v hv
  obtain ⟨s, hs, h⟩ := List.mem_flatMap.1 hv
  obtain rfl : s = ⟨0, 0, 0, 0⟩ := (List.mem_replicate.1 hs).2
  simp only [encS, List.mem_cons, List.not_mem_nil, or_false] at h
  rcases h with rfl | rfl | rfl | rfl <;> rfl
theorem madeSlots (n : Nat) : madeCells #[Value.int .i64 0, .int .i64 0, .int .i64 0, .int .i64 0] (n * 4) = (flatS (zs n)).toArray := by
  apply Array.ext
  · simp [madeCells, flatS_length, zs_length]
  · intro i h1 h2
    have e : (flatS (zs n)).toArray[i] = .int .i64 0 := flatS_zs n _ (by rw [List.getElem_toArray]; exact List.getElem_mem _)
    rw [e]
    have hm : i % 4 = 0 ∨ i % 4 = 1 ∨ i % 4 = 2 ∨ i % 4 = 3 := by omega
    rcases hm with hm | hm | hm | hm <;> simp [madeCells, hm]
theorem cells_slot : (Value.agg #[.int .i64 0, .int .i64 0, .int .i64 0, .int .i64 0]).cells = #[Value.int .i64 0, .int .i64 0, .int .i64 0, .int .i64 0] := by kernel_rfl

set_option maxHeartbeats 2000000 in
theorem arenaNew_no (c : Int) (hc : ¬ (1 ≤ c ∧ c ≤ 64)) (w : World) :
    Calls Tryz.prog 58 #[.int .i64 c] w fun e w' => e = .returned (.tuple #[.agg #[.slice none 0 0, .slice none 0 0, .int .i64 0], .int .i64 1]) ∧ Upd [] w w' := by
  have HC := Lib.hid (validCapacity_any c)
  rw [show capB c = false from by unfold capB; rw [decide_eq_false_iff_not]; exact hc] at HC
  clear hc
  go_enter Tryz.func58, Tryz.ntmps58
  go_wp2_with fail
  refine (HC.out _).mono ?_
  rintro e w' ⟨rfl, rfl⟩
  have hb := heap_alloc1 w (.cells #[.slice none 0 0, .slice none 0 0, .int .i64 0] 45)
  have HU : Hid (Upd [] w (w.alloc (.cells #[.slice none 0 0, .slice none 0 0, .int .i64 0] 45))) := (Upd.refl [] w).alloc _
  generalize w.alloc (.cells #[.slice none 0 0, .slice none 0 0, .int .i64 0] 45) = W at *
  generalize hH : w.heap.size = H at *
  have HB := Lib.hid hb; have HH := Lib.hid hH
  obtain ⟨c0, c1, c2⟩ := cells3 hb
  obtain ⟨z0, z1, z2⟩ := free3 hb
  clear hb hH
  go_wp2_with fail
  have p1 := stored3 HB.out (.slice none 0 0) (.slice none 0 0) (.int .i64 0)
  have hU5 := upd_set3 W H (.slice none 0 0) (.slice none 0 0) (.int .i64 0)
  generalize (((W.setCell ⟨H, 0, none⟩ (.slice none 0 0)).setCell ⟨H, 1, none⟩ (.slice none 0 0)).setCell ⟨H, 2, none⟩ (.int .i64 0)) = w5 at *
  obtain ⟨r0, r1, r2⟩ := cells3 p1
  have hh := HH.out
  exact bodyPost_ret (v := .tuple #[.agg #[.slice none 0 0, .slice none 0 0, .int .i64 0], .int .i64 1]) (by simp [results, Tryz.results58, go_sem, r0, r1, r2]) rfl ⟨rfl, HU.out.trans hU5 (fun x hx hl => by simp at hx; omega)⟩

set_option maxHeartbeats 4000000 in
theorem arenaNew_yes (n : Nat) (h1 : 1 ≤ n) (h2 : n ≤ 64) (w : World) :
    Calls Tryz.prog 58 #[.int .i64 n] w fun e w' => ∃ G g, e = .returned (.tuple #[.agg #[.slice (some ⟨G, 0, none⟩) n n, .slice (some ⟨g, 0, none⟩) n n, .int .i64 0], .int .i64 0]) ∧ HeldS w' G n (zs n) ∧ w'.ownsRow w.heap.size 3 1 (.slice (some ⟨g, 0, none⟩) n n) n ((ids n n).map (Value.int .i64)) ∧ w.heap.size ≤ G ∧ Upd [] w w' := by
  have HC := Lib.hid (validCapacity_any (n : Nat))
  rw [show capB (n : Nat) = true from by unfold capB; rw [decide_eq_true_iff]; omega] at HC
  have hmk := A5.mkAny 43 3 (.int .i64 0) 1 8 Tryz.underlying43 infoInt n (by omega) (by omega) (icells (List.replicate n (0 : Int))) (madeInts n)
  have hms := A5.mkAny 42 52 _ 4 32 Tryz.underlying42 infoSlot n (by omega) (by omega) (flatS (zs n)).toArray (by rw [cells_slot]; exact madeSlots n)
  generalize hZ1 : icells (List.replicate n (0 : Int)) = Z1 at *
  generalize hZ2 : (flatS (zs n)).toArray = Z2 at *
  have HZ1 := Lib.hid hZ1; have HZ2 := Lib.hid hZ2
  clear hZ1 hZ2
  go_enter Tryz.func58, Tryz.ntmps58
  go_wp2_with fail
  refine (HC.out _).mono ?_
  rintro e w' ⟨rfl, rfl⟩
  go_wp2_with fail
  obtain ⟨hu, b0, b1, hsz⟩ := two_boxes w (.cells #[.slice none 0 0, .slice none 0 0, .int .i64 0] 45) (.cells Z1 3)
  generalize (w.alloc (.cells #[.slice none 0 0, .slice none 0 0, .int .i64 0] 45)).alloc (.cells Z1 3) = W at *
  generalize hH : w.heap.size = H at *
  have HU := Lib.hid hu; have HB0 := Lib.hid b0; have HH := Lib.hid hH; have HSZ := Lib.hid hsz
  rw [← HZ1.out] at b1
  have HB1 := Lib.hid b1
  clear hu b0 b1 hH hsz
  go_loopg [14] n (fun gk vi wr => ∃ k : Nat, vi = .int .i64 k ∧ k + gk = n ∧ Hid (wr.heap[H + 1]? = some (.cells (icells (ids n k ++ List.replicate (n - k) 0)) 3 (0, 0))) ∧ Hid (Upd [H + 1] W wr))
  case atStart => exact ⟨0, rfl, by omega, (by have := HB1.out; show _ = _; simpa [ids] using this), Upd.refl _ _⟩
  case round =>
    obtain ⟨k, rfl, hkg, HB, HUR⟩ := hrel
    by_cases hlt : k < n
    · have hltz : (k : Int) < (n : Int) := by omega
      have hw1 : IntKind.i64.wrap ((n : Int) - 1) = (n : Int) - 1 := by rw [IntKind.wrap_i64]; omega
      have hw2 : IntKind.i64.wrap ((n : Int) - 1 - (k : Int)) = (n : Int) - 1 - (k : Int) := by rw [IntKind.wrap_i64]; omega
      obtain ⟨v, hv⟩ := icell_some HB.out k (by rw [fill_length _ _ _ (ids_length n k) (by omega)]; exact hlt)
      have hf := free_block HB.out k
      go_wp2_with fail
      go_roundg (gk - 1)
      case measure => omega
      case rel =>
        refine ⟨k + 1, by go_num, by omega, ?_, HUR.out.setCell (p := ⟨H + 1, k, none⟩) (fun _ => by simp) _⟩
        show _ = _
        rw [setCell_block HB.out, icells_set, fill_step _ n k _ (ids_length n k) hlt, ids_succ]
    · have hltz : ¬ (k : Int) < (n : Int) := by omega
      obtain rfl : n = k := by omega
      have hb := HB.out
      rw [fill_end] at hb
      have HBF := Lib.hid hb
      have hrb := HUR.out.at HB0.out (by simp)
      have hsz := HSZ.out; have hh := HH.out
      have hus := HUR.out.size
      have HAL : Hid (Upd [] wr (wr.alloc (.cells Z2 52))) := (Upd.refl [] wr).alloc _
      have HBS := Lib.hid (heap_alloc1 wr (.cells Z2 52))
      have hr2 := HAL.out.at hrb (by simp)
      have HR2 := Lib.hid hr2
      obtain ⟨c0, c1, c2⟩ := cells3 hr2
      obtain ⟨z0, z1, z2⟩ := free3 hr2
      clear hb hrb hr2
      go_wp2_with fail
      generalize wr.alloc (.cells Z2 52) = W2 at *
      generalize hG : wr.heap.size = G at *
      have p1 := stored3 HR2.out (.slice (some ⟨G, 0, none⟩) n n) (.slice (some ⟨H + 1, 0, none⟩) n n) (.int .i64 0)
      have hU5 := upd_set3 W2 H (.slice (some ⟨G, 0, none⟩) n n) (.slice (some ⟨H + 1, 0, none⟩) n n) (.int .i64 0)
      generalize (((W2.setCell ⟨H, 0, none⟩ (.slice (some ⟨G, 0, none⟩) n n)).setCell ⟨H, 1, none⟩ (.slice (some ⟨H + 1, 0, none⟩) n n)).setCell ⟨H, 2, none⟩ (.int .i64 0)) = w5 at *
      obtain ⟨r0, r1, r2⟩ := cells3 p1
      have hsl : HeldS W2 G n (zs n) := by
        refine ⟨⟨Z2, HBS.out, ?_, ?_⟩, by rw [zs_length]; exact Nat.le_refl _⟩
        · rw [← HZ2.out, List.size_toArray, flatS_length, zs_length]
        · rw [← HZ2.out]
          exact List.take_of_length_le (by rw [List.toList_toArray, flatS_length, zs_length]; exact Nat.le_refl _)
      have hb5 := hU5.at (HAL.out.at HBF.out (by simp)) (by simp)
      have hrow : w5.ownsRow H 3 1 (.slice (some ⟨H + 1, 0, none⟩) n n) n ((ids n n).map (Value.int .i64)) :=
        ⟨by simp [ids_length], .inr ⟨H + 1, n, _, rfl, by omega, hb5, Nat.le_refl _, by simp [maxLen]; omega, by simp [icells, ids_length], by rw [Nat.mul_one]; exact List.take_of_length_le (by simp [icells, ids_length])⟩⟩
      exact bodyPost_ret (v := .tuple #[.agg #[.slice (some ⟨G, 0, none⟩) n n, .slice (some ⟨H + 1, 0, none⟩) n n, .int .i64 0], .int .i64 0]) (by simp [results, Tryz.results58, go_sem, r0, r1, r2]) rfl ⟨G, H + 1, rfl, hsl.keep hU5 (by simp; omega), hrow, by omega, (HU.out.trans HUR.out (fun x hx hl => by simp at hx; omega)).trans ((HAL.out.mono (T := [H]) (by simp)).trans hU5 (fun x hx _ => hx)) (fun x hx hl => by simp at hx; omega)⟩

/-- What a new store holds. -/
def newRw (n : Nat) : Rw := ⟨List.replicate (n + 1) 0, ⟨zs n, ids n n, 0⟩, newL, List.replicate 4 (false, 0), [], 0⟩
set_option maxHeartbeats 2000000 in
theorem SNew_no (c : Int) (hc : ¬ (1 ≤ c ∧ c ≤ 64)) (w : World) : Calls Tryz.prog 27 #[.int .i64 c] w fun e w' => e = .returned (.pointer none) ∧ Upd [] w w' := by
  have HC := Lib.hid (arenaNew_no c hc w)
  clear hc
  go_enter Tryz.func27, Tryz.ntmps27
  go_wp2_with fail
  (with_reducible refine HC.out.mono ?_)
  rintro e w1 ⟨rfl, hu1⟩
  have HU1 := Lib.hid hu1
  clear hu1
  go_wp2_with fail
  go_ret
  exact ⟨rfl, HU1.out.alloc _⟩
set_option maxRecDepth 100000 in
set_option maxHeartbeats 4000000 in
theorem SNew_yes (n : Nat) (h1 : 1 ≤ n) (h2 : n ≤ 64) (w : World) : Calls Tryz.prog 27 #[.int .i64 n] w fun e w' => ∃ d F, e = .returned (.pointer (some ⟨d.p, 0, none⟩)) ∧ InR F d (newRw n) w' ∧ (∀ x ∈ F, w.heap.size ≤ x) ∧ Upd [] w w' := by
  have HC := Lib.hid (arenaNew_yes n h1 h2 w)
  have HM : Hid (∀ W, Calls Tryz.prog 59 #[.int .i64 ((n : Int) + 1), .int .i64 4] W fun e w' => ∃ p bw bm F, e = .returned (.pointer (some ⟨p, 0, none⟩)) ∧ Mem F p bw bm (zeroSt (n + 1) 4) w' ∧ (∀ x ∈ F, W.heap.size ≤ x) ∧ Upd [] W w') := fun W => by
    have h := New_yes (n + 1) 4 (by omega) (by omega) W
    rw [show ((n + 1 : Nat) : Int) = (n : Int) + 1 by omega] at h
    exact h
  have HL := Lib.hid (fun W => LNew_has W)
  have hw : IntKind.i64.wrap (1 + (n : Int)) = (n : Int) + 1 := by rw [IntKind.wrap_i64]; omega
  go_enter Tryz.func27, Tryz.ntmps27
  go_wp2_with fail
  (with_reducible refine HC.out.mono ?_)
  rintro e w1 ⟨G, g, rfl, hsl, hrow, hG, hu1⟩
  have HSL := Lib.hid hsl; have HROW := Lib.hid hrow; have HGG := Lib.hid hG
  have hA := heap_alloc1 w1 (.cells #[.slice (some ⟨G, 0, none⟩) n n, .slice (some ⟨g, 0, none⟩) n n, .int .i64 0] 45)
  have HUA : Hid (Upd [] w1 (w1.alloc (.cells #[.slice (some ⟨G, 0, none⟩) n n, .slice (some ⟨g, 0, none⟩) n n, .int .i64 0] 45))) := (Upd.refl [] w1).alloc _
  have HU1 := Lib.hid hu1
  have HA := Lib.hid hA
  clear hsl hrow hA hu1
  go_upto_region 2 with (fail)
  generalize w1.alloc (.cells #[.slice (some ⟨G, 0, none⟩) n n, .slice (some ⟨g, 0, none⟩) n n, .int .i64 0] 45) = W2 at *
  generalize w1.heap.size = A at *
  go_wp2_with fail
  (with_reducible refine (HM.out _).mono ?_)
  rintro e w3 ⟨m, bw, bm, FM, rfl, hm, hfm, hu3⟩
  have HMM := Lib.hid hm; have HFM := Lib.hid hfm; have HU3 := Lib.hid hu3
  obtain ⟨c0, c1, c2⟩ := cells3 (hu3.at HA.out (by simp))
  clear hm hfm hu3
  go_upto_region 5 with (fail)
  have HKP : Hid (∀ V, Upd [] w3 V → (V.cell? ⟨A, 0, none⟩ = some (.slice (some ⟨G, 0, none⟩) n n) ∧ V.cell? ⟨A, 1, none⟩ = some (.slice (some ⟨g, 0, none⟩) n n) ∧ V.cell? ⟨A, 2, none⟩ = some (.int .i64 0))) := fun V hv => ⟨hv.cell c0 (by simp), hv.cell c1 (by simp), hv.cell c2 (by simp)⟩
  have HL3 := Lib.hid (HL.out w3.drew)
  unfold GaveD encD cellsD at HL3
  go_region_held3 (fun wz => wz.cell? ⟨A, 0, none⟩ = some (.slice (some ⟨G, 0, none⟩) n n) ∧ wz.cell? ⟨A, 1, none⟩ = some (.slice (some ⟨g, 0, none⟩) n n) ∧ wz.cell? ⟨A, 2, none⟩ = some (.int .i64 0)) (first | exact ⟨c0, c1, c2⟩ | exact HKP.out _ HU4.out | exact HKP.out _ (HU4.out.alloc _)) (first | (go_at_call 60; (with_reducible refine HL3.out.mono ?_); rintro e w4 ⟨l, rfl, hbn⟩; have HBN := Lib.hid hbn; have HU4 := Lib.hid ((Upd.refl [] w3).drew.thn hbn.upd); clear hbn))
  all_goals
    go_wp2_with fail
    go_ret
    have hb := heap_alloc1 w4 (.cells #[.pointer (some ⟨m, 0, none⟩), .slice (some ⟨G, 0, none⟩) n n, .slice (some ⟨g, 0, none⟩) n n, .int .i64 0, .int .i64 l.ts, .slice l.top.ad l.top.l.length l.top.cap, .slice l.rs.ad l.rs.l.length l.rs.cap, .slice l.bot.ad l.bot.l.length l.bot.cap, .int .i64 l.mv, .int .i64 l.cp] 70)
    have hu5 : Upd [] w4 (w4.alloc (.cells #[.pointer (some ⟨m, 0, none⟩), .slice (some ⟨G, 0, none⟩) n n, .slice (some ⟨g, 0, none⟩) n n, .int .i64 0, .int .i64 l.ts, .slice l.top.ad l.top.l.length l.top.cap, .slice l.rs.ad l.rs.l.length l.rs.cap, .slice l.bot.ad l.bot.l.length l.bot.cap, .int .i64 l.mv, .int .i64 l.cp] 70)) := (Upd.refl [] w4).alloc _
    generalize w4.alloc (.cells #[.pointer (some ⟨m, 0, none⟩), .slice (some ⟨G, 0, none⟩) n n, .slice (some ⟨g, 0, none⟩) n n, .int .i64 0, .int .i64 l.ts, .slice l.top.ad l.top.l.length l.top.cap, .slice l.rs.ad l.rs.l.length l.rs.cap, .slice l.bot.ad l.bot.l.length l.bot.cap, .int .i64 l.mv, .int .i64 l.cp] 70) = w5 at hb hu5 ⊢
    have hbn := HBN.out
    have s1 := HU1.out.size; have s2 := HUA.out.size; have s3 := HU3.out.size; have s4 := HU4.out.size
    have u13 := HUA.out.thn HU3.out
    have u15 := (u13.thn HU4.out).thn hu5
    have gl := HSL.out.lt
    have il := HROW.out.lt g rfl
    have hmm := HMM.out.stay (HU4.out.thn hu5)
    have hml := HMM.out.lt
    have hin : InT ⟨w4.heap.size, m, bw, bm, G, n⟩ FM (.slice (some ⟨g, 0, none⟩) n n) l (newRw n) w5 := by
      refine ⟨hmm, ?_, HSL.out.keep u15 (by simp), ?_, hbn.eq, hbn.has.stay hu5, ?_, ?_⟩
      · rw [hb]; simp only [cellsT, newRw, zs_length]
      · have := row_base (HROW.out) (Nat.zero_le w.heap.size)
        have := u15.row this (by simp)
        simp only [newRw, ids_length]; exact this
      · intro b hbf
        by_cases he : b < w3.drew.heap.size
        · exact hbn.av b he
        · rcases mem_foot.1 hbf with e | e | e | e
          · simp only at e; exact hbn.has.avoids (by omega)
          · simp only at e; simp at he; omega
          · simp only [Value.ownBlock, Option.some.injEq] at e; simp at he; omega
          · have := hml b e; simp at he; omega
      · intro b hbf hm
        have h3 := HFM.out b hm
        have h4 := hml b hm
        rcases mem_own.1 hbf with e | e | e
        · simp only at e; omega
        · simp only at e; omega
        · simp only [Value.ownBlock, Option.some.injEq] at e; omega
    refine ⟨⟨w4.heap.size, m, bw, bm, G, n⟩, _, rfl, ⟨FM, _, l, rfl, hin⟩, ?_, HU1.out.thn u15⟩
    intro b hbf
    rcases mem_foot.1 hbf with e | e | e | e
    · simp only at e; omega
    · simp only at e; have := HGG.out; omega
    · simp only [Value.ownBlock, Option.some.injEq] at e; omega
    · have := HFM.out b e; omega
end Go.Proofs.YtmfnfinbkdemkaaGreat
namespace Go.Proofs.YtmfnfinbkdemkaaGreat.A5
open Go.RowKit Go.Lib

theorem drop_eq {α : Type} {xs ys : List α} {k : Nat} (h : k < xs.length) (h' : k < ys.length) : (xs.drop k = ys.drop k) = (xs[k] = ys[k] ∧ xs.drop (k + 1) = ys.drop (k + 1)) := by
  rw [List.drop_eq_getElem_cons h, List.drop_eq_getElem_cons h', List.cons.injEq]

theorem drop_dec {α : Type} [DecidableEq α] {xs ys : List α} {k : Nat} (h : k < xs.length) (h' : k < ys.length) : decide (xs.drop k = ys.drop k) = (decide (xs[k] = ys[k]) && decide (xs.drop (k + 1) = ys.drop (k + 1))) := by
  rw [← Bool.decide_and]
  have := drop_eq h h'
  exact decide_eq_decide.2 (by rw [this])
theorem guardSlot : Tryz.prog.eqGuardType Tryz.prog.depth 52 = false := by kernel_rfl
theorem eqlSlot (x y : Sl) (w : World) : (binOp .eql 52 (.agg #[.int .i64 x.g, .int .i64 x.s, .int .i64 x.t, .int .i64 x.q]) (.agg #[.int .i64 y.g, .int .i64 y.s, .int .i64 y.t, .int .i64 y.q])).run Tryz.prog w = .ok (.bool (decide (x = y))) w := by
  have u3 := Tryz.underlying3
  have a3 := Tryz.isAgg3
  have z3 := Tryz.sizeOf3
  have hS : Tryz.prog.underlying 52 = some (.struct (Tryz.prog.fieldsOf 52)) := by kernel_rfl
  have hp : Tryz.prog.stoodInHeld 52 = false := by kernel_rfl
  obtain ⟨g, s, t, q⟩ := x
  obtain ⟨g', s', t', q'⟩ := y
  rw [run_eql_struct, show (10000 : Nat) = 9999 + 1 from rfl, run_equalIn_agg w 9999 52 _ _ hS hp]
  simp only [Program.fieldsOf, Tryz.underlying52]
  go_simp
  by_cases h1 : g = g' <;> by_cases h2 : s = s' <;> by_cases h3 : t = t' <;> by_cases h4 : q = q' <;> simp [h1, h2, h3, h4]
theorem neqSlot (x y : Sl) (w : World) : (binOp .neq 52 (.agg #[.int .i64 x.g, .int .i64 x.s, .int .i64 x.t, .int .i64 x.q]) (.agg #[.int .i64 y.g, .int .i64 y.s, .int .i64 y.t, .int .i64 y.q])).run Tryz.prog w = .ok (.bool (!decide (x = y))) w := by
  have h := eqlSlot x y w
  rw [run_eql_struct] at h
  rw [run_neq_struct]
  generalize (Op.equalIn 10000 52 (.agg #[.int .i64 x.g, .int .i64 x.s, .int .i64 x.t, .int .i64 x.q]) (.agg #[.int .i64 y.g, .int .i64 y.s, .int .i64 y.t, .int .i64 y.q])).run Tryz.prog w = r at h ⊢
  cases r with
  | ok b w' => simp only [Result.andThen_ok, Result.ok.injEq, Value.bool.injEq] at h ⊢; obtain ⟨rfl, rfl⟩ := h; simp
  | halt e w' => simp [Result.andThen] at h

set_option maxRecDepth 100000 in
set_option maxHeartbeats 4000000 in
theorem Same_has (r s : ArR) (w : World) (hr : HasA w r) (hs : HasA w s) (hb1 : r.ar.sl.length ≤ 1000000) (hb2 : r.ar.id.length ≤ 1000000) :
    Calls Tryz.prog 20 #[encA r, encA s] w fun e w' => e = .returned (.bool (decide (r.ar = s.ar))) ∧ Upd [] w w' := by
  obtain ⟨⟨l1, i1, x1⟩, sa1, sc1, ia1, ic1⟩ := r
  obtain ⟨⟨l2, i2, x2⟩, sa2, sc2, ia2, ic2⟩ := s
  obtain ⟨res, hres⟩ : ∃ b, b = decide ((⟨l1, i1, x1⟩ : Ar) = ⟨l2, i2, x2⟩) := ⟨_, rfl⟩
  have HRES := Lib.hid hres
  have HR := Lib.hid hr; have HS := Lib.hid hs
  unfold encA
  simp only at hb1 hb2 ⊢
  rw [← hres]
  clear hres hr hs
  generalize hn1 : l1.length = n1 at hb1 ⊢
  generalize hn2 : l2.length = n2
  generalize hm1 : i1.length = m1 at hb2 ⊢
  generalize hm2 : i2.length = m2
  have HN1 := Lib.hid hn1; have HN2 := Lib.hid hn2; have HM1 := Lib.hid hm1; have HM2 := Lib.hid hm2
  clear hn1 hn2 hm1 hm2
  go_enter Tryz.func20, Tryz.ntmps20
  go_upto_region 1 with (fail)
  generalize hA : (Obj.cells #[.slice sa1 n1 sc1, .slice ia1 m1 ic1, .int .i64 x1] 45 : Obj) = A
  generalize hB : (Obj.cells #[.slice sa2 n2 sc2, .slice ia2 m2 ic2, .int .i64 x2] 45 : Obj) = B
  obtain ⟨hu, b0, b1, hsz⟩ := two_boxes w A B
  generalize (w.alloc A).alloc B = W at *
  generalize hH : w.heap.size = H at *
  rw [← hA] at b0
  rw [← hB] at b1
  have HU := Lib.hid hu; have HH := Lib.hid hH
  obtain ⟨c0, c1, c2⟩ := cells3 b0
  obtain ⟨e0, e1, e2⟩ := cells3 b1
  clear hu hA hB b0 b1 hH hsz
  by_cases hx : x1 = x2
  · have hxb : (x1 != x2) = false := by simpa using hx
    have HX := Lib.hid hx
    clear hx
    by_cases hn : n1 = n2
    · subst hn
      by_cases hm : m1 = m2
      · subst hm
        have HR0 : Hid (res = (decide (l1.drop 0 = l2.drop 0) && decide (i1 = i2))) := by
          show res = _
          rw [HRES.out, List.drop_zero, List.drop_zero, ← Bool.decide_and]
          exact decide_eq_decide.2 (by rw [Ar.mk.injEq]; exact ⟨fun h => ⟨h.1, h.2.1⟩, fun h => ⟨h.1, h.2, HX.out⟩⟩)
        go_wp2_with fail
        go_loopg [5] n1 (fun gk vi wr => ∃ k : Nat, vi = .int .i64 k ∧ k + gk = n1 ∧ Hid (res = (decide (l1.drop k = l2.drop k) && decide (i1 = i2))) ∧ Hid (Upd [] W wr))
        case atStart => exact ⟨0, rfl, by omega, HR0, Lib.hid (Upd.refl _ _)⟩
        case round =>
          obtain ⟨k, rfl, hkg, HK, HUR⟩ := hrel
          have c0r := HUR.out.cell c0 (by simp)
          have c1r := HUR.out.cell c1 (by simp)
          have e0r := HUR.out.cell e0 (by simp)
          have e1r := HUR.out.cell e1 (by simp)
          by_cases hlt : k < n1
          · have hltz : (k : Int) < (n1 : Int) := by omega
            have hk1 : k < l1.length := by have := HN1.out; omega
            have hk2 : k < l2.length := by have := HN2.out; omega
            obtain ⟨b1, o1, rfl, k0, k1, k2, k3⟩ := (HR.out.stay (HU.out.trans HUR.out (by simp))).sl k hk1
            obtain ⟨b2, o2, rfl, j0, j1, j2, j3⟩ := (HS.out.stay (HU.out.trans HUR.out (by simp))).sl k hk2
            simp only at k0 k1 k2 k3 j0 j1 j2 j3
            have HKK : Hid (res = (decide (l1[k] = l2[k]) && (decide (l1.drop (k + 1) = l2.drop (k + 1)) && decide (i1 = i2)))) := by
              show res = _
              rw [HK.out, drop_dec hk1 hk2, Bool.and_assoc]
            generalize l1[k] = y1 at *
            generalize l2[k] = y2 at *
            have hgd := guardSlot
            have hq := neqSlot y1 y2
            clear c0 c1 c2 e0 e1 e2
            generalize decide (y1 = y2) = bq at hq HKK
            go_wp2_with fail
            go_quiet (fail)
            have HU2 : Hid (Upd [] W (wr.drewN nq)) := HUR.out.drewN nq
            generalize wr.drewN nq = w2 at HU2 ⊢
            clear c0r c1r e0r e1r k0 k1 k2 k3 j0 j1 j2 j3
            cases bq with
            | true =>
              go_wp2_with fail
              go_roundg (gk - 1)
              case measure => omega
              case rel => exact ⟨k + 1, by go_num, by omega, by rw [HKK.out]; exact Lib.hid rfl, HU2⟩
            | false =>
              go_wp2_with fail
              go_ret
              exact ⟨ret_bool (by rw [HKK.out]; rfl), HU.out.trans HU2.out (by simp)⟩
          · have hltz : ¬ (k : Int) < (n1 : Int) := by omega
            have HR1 : Hid (res = decide (i1.drop 0 = i2.drop 0)) := by
              show res = _
              rw [HK.out, List.drop_eq_nil_of_le (by have := HN1.out; omega), List.drop_eq_nil_of_le (by have := HN2.out; omega)]
              simp
            clear HK c0 c1 c2 e0 e1 e2
            go_wp2_with fail
            clear c0r e0r
            generalize wr = w0 at *
            go_loopg [6] m1 (fun gk vi wx => ∃ k : Nat, vi = .int .i64 k ∧ k + gk = m1 ∧ Hid (res = decide (i1.drop k = i2.drop k)) ∧ Hid (Upd [] w0 wx))
            case atStart => exact ⟨0, rfl, by omega, HR1, Lib.hid (Upd.refl _ _)⟩
            case round =>
            obtain ⟨k, rfl, hkg, HK, HUX⟩ := hrel
            have HUW : Hid (Upd [] W wr) := HUR.out.trans HUX.out (by simp)
            have c1s := HUX.out.cell c1r (by simp)
            have e1s := HUX.out.cell e1r (by simp)
            clear c1r e1r
            by_cases hlt : k < m1
            · have hltz : (k : Int) < (m1 : Int) := by omega
              have hk1 : k < i1.length := by have := HM1.out; omega
              have hk2 : k < i2.length := by have := HM2.out; omega
              obtain ⟨b1, o1, rfl, k0⟩ := (HR.out.stay (HU.out.trans HUW.out (by simp))).id k hk1
              obtain ⟨b2, o2, rfl, j0⟩ := (HS.out.stay (HU.out.trans HUW.out (by simp))).id k hk2
              simp only at k0 j0
              have HKK : Hid (res = (decide (i1[k] = i2[k]) && decide (i1.drop (k + 1) = i2.drop (k + 1)))) := by
                show res = _
                rw [HK.out, drop_dec hk1 hk2]
              generalize i1[k] = y1 at *
              generalize i2[k] = y2 at *
              by_cases hq : y1 = y2
              · have hqb : (y1 != y2) = false := by simpa using hq
                have HQ := Lib.hid hq
                clear hq
                go_wp2_with fail
                go_quiet (fail)
                have HU2 : Hid (Upd [] w0 (wr.drewN nq)) := HUX.out.drewN nq
                generalize wr.drewN nq = w2 at HU2 ⊢
                go_wp2_with fail
                go_roundg (gk - 1)
                case measure => omega
                case rel => exact ⟨k + 1, by go_num, by omega, by rw [HKK.out, decide_eq_true HQ.out]; exact Lib.hid rfl, HU2⟩
              · have hqb : (y1 != y2) = true := by simpa using hq
                have HQ := Lib.hid hq
                clear hq
                go_wp2_with fail
                go_quiet (fail)
                go_wp2_with fail
                go_ret
                exact ⟨ret_bool (by rw [HKK.out, decide_eq_false HQ.out]; rfl), HU.out.trans (HUW.out.drewN _) (by simp)⟩
            · have hltz : ¬ (k : Int) < (m1 : Int) := by omega
              go_wp2_with fail
              go_ret
              exact ⟨ret_bool (by rw [HK.out, List.drop_eq_nil_of_le (by have := HM1.out; omega), List.drop_eq_nil_of_le (by have := HM2.out; omega)]; simp), HU.out.trans HUW.out (by simp)⟩
      · have hmb : ((m1 : Int) != (m2 : Int)) = true := by simp; omega
        have HM := Lib.hid hm
        clear hm
        go_wp2_with fail
        go_ret
        exact ⟨ret_bool (by rw [HRES.out, decide_eq_false]; intro e; rw [Ar.mk.injEq] at e; exact HM.out (by rw [← HM1.out, ← HM2.out, e.2.1])), HU.out⟩
    · have hnb : ((n1 : Int) != (n2 : Int)) = true := by simp; omega
      have HNN := Lib.hid hn
      clear hn
      go_wp2_with fail
      go_ret
      exact ⟨ret_bool (by rw [HRES.out, decide_eq_false]; intro e; rw [Ar.mk.injEq] at e; exact HNN.out (by rw [← HN1.out, ← HN2.out, e.1])), HU.out⟩
  · have hxb : (x1 != x2) = true := by simpa using hx
    have HX := Lib.hid hx
    clear hx
    go_wp2_with fail
    go_ret
    exact ⟨ret_bool (by rw [HRES.out, decide_eq_false]; intro e; rw [Ar.mk.injEq] at e; exact HX.out e.2.2), HU.out⟩
end Go.Proofs.YtmfnfinbkdemkaaGreat.A5
