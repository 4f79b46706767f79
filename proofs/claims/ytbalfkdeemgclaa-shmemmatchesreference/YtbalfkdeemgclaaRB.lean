/- The reference memory's Do on words. -/
import Derived.Test.YtbalfkdeemgclaaRA
namespace Go.Proofs.Ytbalfkdeemgclaa
open Go.RowKit
section
variable {F : List Nat} {p bw : Nat} {s : St} {w : World}
theorem RMem.log (h : RMem F p bw s w) : ∃ vl, w.cell? ⟨p, 2, none⟩ = some vl ∧ w.ownsRow 0 47 6 vl s.log.length (s.log.flatMap Acc.cells) := by
  obtain ⟨vm, vl, rfl, hne, hp, hw, hm, hl⟩ := h
  exact ⟨vl, by simp [cell_block hp], hl⟩
theorem rlog_cell {W0 w1 : World} (h : RMem F p bw s w) (hU : Upd [] w W0) {vl : Value} (hvl : w.cell? ⟨p, 2, none⟩ = some vl) (hg : W0.grownBy w1 vl.ownBlock) : w1.cell? ⟨p, 2, none⟩ = some vl ∧ w1.frozen? ⟨p, 2, none⟩ = false := by
  obtain ⟨vm, vl', rfl, hne, hp, hw, hm, hl⟩ := h
  have hv : vl' = vl := by simpa [cell_block hp] using hvl
  subst hv
  have hpo := ne_own hp hl (by decide)
  have hU1 : Upd vl'.ownBlock.toList w w1 := (hU.mono (by simp)).grown hg (fun k hk _ => by simp [hk])
  have hp1 := hU1.at hp (fun hx => hpo (toList_of hx))
  exact ⟨by simp [cell_block hp1], free_block hp1 _⟩
theorem rlog_box {W0 w1 : World} {vl : Value} {n m : Nat} {xs : List Value} {x0 x1 x2 x3 x4 : Value} (hb : w.heap[m]? = some (.cells #[x0, x1, x2, x3, x4] 29 (0, 0))) (hl : w.ownsRow 0 47 6 vl n xs) (hU : Upd [] w W0) (hg : W0.grownBy w1 vl.ownBlock) :
    w1.cell? ⟨m, 0, none⟩ = some x0 ∧ w1.cell? ⟨m, 1, none⟩ = some x1 ∧ w1.cell? ⟨m, 2, none⟩ = some x2 := by
  have hpo := ne_own hb hl (by decide)
  have hU1 : Upd vl.ownBlock.toList w w1 := (hU.mono (by simp)).grown hg (fun k hk _ => by simp [hk])
  have hp1 := hU1.at hb (fun hx => hpo (toList_of hx))
  exact ⟨by simp [cell_block hp1], by simp [cell_block hp1], by simp [cell_block hp1]⟩
/-- What the append of one access leaves. -/
def AppR (H : Nat) (W : World) (vl : Value) (n : Nat) (xs : List Value) (v : Value) (w' : World) : Prop :=
  ∃ g cap, v = .slice (some ⟨g, 0, none⟩) (n + 1) cap ∧ w'.ownsRow 0 47 6 (.slice (some ⟨g, 0, none⟩) (n + 1) cap) (n + 1) xs ∧ W.grownBy w' vl.ownBlock ∧ (vl.ownBlock = some g ∨ g = H + 1)
theorem rlog_end {W0 w1 : World} (h : RMem F p bw s w) (hU : Upd [] w W0) {vl v' : Value} (hvl : w.cell? ⟨p, 2, none⟩ = some vl) (hg : W0.grownBy w1 vl.ownBlock) (a : Acc) {g cap H : Nat} (hv' : v' = .slice (some ⟨g, 0, none⟩) (s.log.length + 1) cap)
    (ho : w1.ownsRow 0 47 6 v' (s.log.length + 1) (s.log.flatMap Acc.cells ++ a.cells)) (hat : vl.ownBlock = some g ∨ g = H) (hH : w.heap.size ≤ H) :
    ∃ F', RMem F' p bw { s with log := s.log ++ [a] } (w1.setCell ⟨p, 2, none⟩ v') ∧ Goes F F' w (w1.setCell ⟨p, 2, none⟩ v') := by
  obtain ⟨vm, vl', rfl, hne, hp, hw, hm, hl⟩ := h
  have hv : vl' = vl := by simpa [cell_block hp] using hvl
  subst hv
  have hpo := ne_own hp hl (by decide)
  have hwo := ne_own hw hl (by decide)
  have hmo : ∀ k, vm.ownBlock = some k → vl'.ownBlock ≠ some k := by
    intro k hk he
    rcases hm.2 with ⟨rfl, _⟩ | ⟨g2, cap2, cur2, rfl, _, hg2, _⟩
    · simp [Value.ownBlock] at hk
    · simp only [Value.ownBlock, Option.some.injEq] at hk
      exact ne_own hg2 hl (by decide) (by rw [he, ← hk])
  have hU1 : Upd vl'.ownBlock.toList w w1 := (hU.mono (by simp)).grown hg (fun k hk _ => by simp [hk])
  have hp1 : w1.heap[p]? = some (.cells #[.slice (some ⟨bw, 0, none⟩) s.ws.length s.ws.length, vm, vl', .int .i64 s.v] 40 (0, 0)) := hU1.at hp (fun hx => hpo (toList_of hx))
  have hw1 := hU1.at hw (fun hx => hwo (toList_of hx))
  have hm1 := hU1.row hm (fun k hk hx => hmo k hk (toList_of hx))
  have hpo1 := ne_own hp1 ho (by decide)
  refine ⟨p :: bw :: (vm.ownBlock.toList ++ v'.ownBlock.toList), ⟨vm, v', rfl, hne, ?_, ?_, ?_, ?_⟩, ?_, ?_⟩
  · rw [setCell_block hp1]; simp
  · rw [Below.heap_setCell _ _ _ _ (ne_block hw1 hp1 (by decide)), hw1]
  · exact row_setCell hm1 (ne_own hp1 hm1 (by decide)) _
  · have := row_setCell ho hpo1 v' (a := ⟨p, 2, none⟩)
    simpa [List.flatMap_append] using this
  · refine ((hU1.mono ?_).setCell (by simp) _)
    intro x hx
    simp only [List.mem_cons, List.mem_append]
    exact .inr (.inr (.inr hx))
  · intro x hx
    simp only [List.mem_cons, List.mem_append] at hx ⊢
    rcases hx with rfl | rfl | hx | hx
    · simp
    · simp
    · exact .inl (.inr (.inr (.inl hx)))
    · have hg' : x = g := by simpa [hv', Value.ownBlock] using hx
      subst hg'
      rcases hat with hat | hat
      · exact .inl (.inr (.inr (.inr (by simp [hat]))))
      · exact .inr (by omega)

set_option maxRecDepth 100000 in
set_option maxHeartbeats 2000000 in
theorem Do_out (h : RMem F p bw s w) (hs : s.Small) (k t i a b : Int) (hk : 1 ≤ k ∧ k ≤ 4) (hi : i < 0 ∨ (s.ws.length : Int) ≤ i) :
    Calls Try.prog 14 #[.pointer (some ⟨p, 0, none⟩), .agg #[.int .i64 k, .int .i64 t, .int .i64 i, .int .i64 a, .int .i64 b]] w fun e w' =>
      e = .returned (.tuple #[.int .i64 0, .bool false]) ∧ Upd [] w w' := by
  have lp := h.lt p h.p_mem.1
  obtain ⟨c0, c3⟩ := h.cells
  have hw := hs.ws
  obtain ⟨hk0, hk1⟩ := hk
  have hi' : decide (i < 0) = true ∨ (decide (i < 0) = false ∧ (s.ws.length : Int) ≤ i) := by simp; omega
  clear h hi
  rcases hi' with hi | ⟨hi, hj⟩
  all_goals
    go_enter Try.func14, Try.ntmps14
    go_wp2_with fail
    go_quiet (fail)
    go_wp2_with fail
    go_ret2
    exact ⟨rfl, ((Upd.refl _ _).alloc _).drewN _⟩

set_option maxRecDepth 100000 in
set_option maxHeartbeats 2000000 in
theorem Do_word (h : RMem F p bw s w) (hs : s.Small) (k t : Int) (j : Nat) (a b : Int) (hk : 1 ≤ k ∧ k ≤ 4) (hj : j < s.ws.length) (x : Int) (hx : s.ws[j] = x) (y n : Int) (ok res : Bool)
    (hy : y = if k = 2 then wrap64 (x + a) else if k = 4 then a else if k = 3 ∧ x = a then b else x) (hok : ok = if k = 3 then decide (x = a) else true) (hn : n = if k ≤ 2 then y else 0) (hres : res = if k = 3 then ok else false) :
    Calls Try.prog 14 #[.pointer (some ⟨p, 0, none⟩), .agg #[.int .i64 k, .int .i64 t, .int .i64 j, .int .i64 a, .int .i64 b]] w fun e w' =>
      e = .returned (.tuple #[.int .i64 n, .bool res]) ∧ ∃ F', RMem F' p bw { s with ws := s.ws.set j y, log := s.log ++ [⟨t, k, j, x, y, ok⟩] } w' ∧ Goes F F' w w' := by
  have lp := h.lt p h.p_mem.1
  have lb := h.lt bw h.p_mem.2
  have hbF := h.p_mem.2
  obtain ⟨c0, c3⟩ := h.cells
  have hx' := h.word hj
  rw [hx] at hx'
  have hf := (h.free j).2
  have hw := hs.ws
  have hlog := hs.log
  have H := Lib.hid h; have HX := Lib.hid hx
  clear h hx
  obtain ⟨hk0, hk1⟩ := hk
  have HY := Lib.hid hy; have HOK := Lib.hid hok; have HN := Lib.hid hn; have HRES := Lib.hid hres
  clear hy hok hn hres
  have hi : decide ((j : Int) < 0) = false := by simp
  have hi2 : decide (s.ws.length ≤ j) = false := by simp; omega
  have hO := heap_alloc1 w (.cells #[.int .i64 k, .int .i64 t, .int .i64 j, .int .i64 a, .int .i64 b] 29)
  have HO := Lib.hid hO; clear hO
  have hk5 : decide (5 ≤ k) = false := by simp; omega
  have hk6 : decide (k < 1) = false := by simp; omega
  go_enter Try.func14, Try.ntmps14
  go_wp2_with fail
  go_quiet (fail)
  go_wp2_with fail
  go_quiet (fail)
  go_upto_block 0 with (fail)
  have HB : Hid (∀ m, RMem F p bw s ((w.alloc (.cells #[.int .i64 k, .int .i64 t, .int .i64 j, .int .i64 a, .int .i64 b] 29)).drewN m) ∧ ((w.alloc (.cells #[.int .i64 k, .int .i64 t, .int .i64 j, .int .i64 a, .int .i64 b] 29)).drewN m).heap[w.heap.size]? = some (.cells #[.int .i64 k, .int .i64 t, .int .i64 j, .int .i64 a, .int .i64 b] 29 (0, 0)) ∧ Upd [] w ((w.alloc (.cells #[.int .i64 k, .int .i64 t, .int .i64 j, .int .i64 a, .int .i64 b] 29)).drewN m)) :=
    fun m => ⟨H.out.stay (((Upd.refl [] w).alloc _).drewN m), HO.out, ((Upd.refl [] w).alloc _).drewN m⟩
  go_cut [8, 9] (fun v8 v9 wx => v8 = .int .i64 y ∧ v9 = .bool ok ∧ RMem F p bw s wx ∧ wx.heap[w.heap.size]? = some (.cells #[.int .i64 k, .int .i64 t, .int .i64 j, .int .i64 a, .int .i64 b] 29 (0, 0)) ∧ Upd [] w wx)
  case first =>
    rcases (show k = 1 ∨ k = 2 ∨ k = 3 ∨ k = 4 from by omega) with rfl | rfl | rfl | rfl
    · go_wp2_with fail
      go_meet
      case rel => exact ⟨by rw [HY.out]; simp, by rw [HOK.out]; simp, HB.out _⟩
    · go_wp2_with fail
      go_meet
      case rel => exact ⟨by rw [HY.out]; simp, by rw [HOK.out]; simp, HB.out _⟩
    · by_cases hxa : x = a
      · subst hxa
        go_wp2_with fail
        go_meet
        case rel => exact ⟨by rw [HY.out]; simp, by rw [HOK.out]; simp, HB.out _⟩
      · have hxa' : (x == a) = false := by simpa using hxa
        go_wp2_with fail
        go_meet
        case rel => exact ⟨by rw [HY.out]; simp [hxa], by rw [HOK.out]; simp [hxa], HB.out _⟩
    · go_wp2_with fail
      go_meet
      case rel => exact ⟨by rw [HY.out]; simp, by rw [HOK.out]; simp, HB.out _⟩
  case rest =>
    obtain ⟨rfl, rfl, hM, hbox, hU⟩ := hcut
    clear c0 c3 hx' hf HB
    obtain ⟨c0, c3⟩ := hM.cells
    have hx' := hM.word hj
    have hf := (hM.free j).2
    have d0 := cell_block hbox 0
    have d1 := cell_block hbox 1
    have d2 := cell_block hbox 2
    simp only [List.getElem?_toArray, List.getElem?_cons_zero, List.getElem?_cons_succ] at d0 d1 d2
    have HM := Lib.hid hM; have HU := Lib.hid hU; have HBOX := Lib.hid hbox
    clear hM hU hbox
    go_wp2_with fail
    go_region
    go_wp2_with fail
    refine wp_at (fun wx => RMem F p bw { s with ws := s.ws.set j y } wx ∧ wx.heap[w.heap.size]? = some (.cells #[.int .i64 k, .int .i64 t, .int .i64 j, .int .i64 a, .int .i64 b] 29 (0, 0)) ∧ Upd F w wx) ?_ ?_
    · exact ⟨(HM.out.setWord j y).stay (Upd.refl [] _).drew, ((Upd.refl [bw] wc).setCell (by simp) _).drew.at HBOX.out (by simp; omega), ((HU.out.mono (by simp)).setCell (fun _ => hbF) _).drew⟩
    · rintro wd ⟨hM, hbox, hU⟩
      obtain ⟨vl, hvl, hol⟩ := hM.log
      clear c0 c3 hx' hf d0 d1 d2
      have d0 := cell_block hbox 0
      have d1 := cell_block hbox 1
      have d2 := cell_block hbox 2
      simp only [List.getElem?_toArray, List.getElem?_cons_zero, List.getElem?_cons_succ] at d0 d1 d2
      have fp := (hM.free 2).1
      have lw := lt_block hbox
      have lpc := hM.lt p hM.p_mem.1
      have HM2 := Lib.hid hM; have HOL := Lib.hid hol; have HU2 := Lib.hid hU; have HBOX2 := Lib.hid hbox
      clear hM hol hU hbox
      have Hhk : Hid (1 ≤ k ∧ k ≤ 4) := ⟨hk0, hk1⟩
      clear hk0 hk1 hk5 hk6 hi hi2 HM HU HBOX HO H
      obtain ⟨i0, hi0, hz0, hz1, hz2⟩ := info_parts info47
      have hS : wd.drew.cell? ⟨p, 2, none⟩ = some vl ∧ wd.drew.cell? ⟨w.heap.size, 0, none⟩ = some (.int .i64 k) ∧ wd.drew.cell? ⟨w.heap.size, 1, none⟩ = some (.int .i64 t) ∧ wd.drew.cell? ⟨w.heap.size, 2, none⟩ = some (.int .i64 j) := ⟨hvl, d0, d1, d2⟩
      refine wp_region_K (fun wy => wy.cell? ⟨p, 2, none⟩ = some vl ∧ wy.cell? ⟨w.heap.size, 0, none⟩ = some (.int .i64 k) ∧ wy.cell? ⟨w.heap.size, 1, none⟩ = some (.int .i64 t) ∧ wy.cell? ⟨w.heap.size, 2, none⟩ = some (.int .i64 j)) 19 (by kernel_rfl) ?_
      refine wpAnyK_take (i := 0) (d := some 73) rfl rfl (by kernel_rfl) (fun _ _ _ h => h) (.inl ⟨rfl, fun wz hz => rfl⟩) hS ?_
      refine wpAnyK_take (i := 1) (d := some 74) rfl rfl (by kernel_rfl) (fun _ _ _ h => h) (.inl ⟨rfl, fun wz hz => rfl⟩) hS ?_
      refine wpAnyK_take (i := 2) (d := some 75) rfl rfl (by kernel_rfl) (fun _ _ _ h => h) (.inl ⟨rfl, fun wz hz => rfl⟩) hS ?_
      refine wpAnyK_take (i := 3) (d := some 76) (v := .pointer (some ⟨p, 2, none⟩)) rfl rfl (by kernel_rfl) (fun _ _ _ h => h) (.inl ⟨rfl, fun wz hz => by simp [execOp, Act.eval, Act.put, go_sem]⟩) hS ?_
      refine wpAnyK_take (i := 4) (d := some 77) (v := vl) rfl rfl (by kernel_rfl) (fun _ _ _ h => h) (.inl ⟨rfl, fun wz hz => by simp [execOp, Act.eval, Act.put, go_sem, hz.1]⟩) hS ?_
      refine wpAnyK_take (i := 5) (d := some 78) (v := .pointer (some ⟨w.heap.size, 1, none⟩)) rfl rfl (by kernel_rfl) (fun _ _ _ h => h) (.inl ⟨rfl, fun wz hz => by simp [execOp, Act.eval, Act.put, go_sem]⟩) hS ?_
      refine wpAnyK_take (i := 6) (d := some 79) (v := .int .i64 t) rfl rfl (by kernel_rfl) (fun _ _ _ h => h) (.inl ⟨rfl, fun wz hz => by simp [execOp, Act.eval, Act.put, go_sem, hz.2.2.1]⟩) hS ?_
      refine wpAnyK_take (i := 7) (d := some 80) (v := .pointer (some ⟨w.heap.size, 0, none⟩)) rfl rfl (by kernel_rfl) (fun _ _ _ h => h) (.inl ⟨rfl, fun wz hz => by simp [execOp, Act.eval, Act.put, go_sem]⟩) hS ?_
      refine wpAnyK_take (i := 8) (d := some 81) (v := .int .i64 k) rfl rfl (by kernel_rfl) (fun _ _ _ h => h) (.inl ⟨rfl, fun wz hz => by simp [execOp, Act.eval, Act.put, go_sem, hz.2.1]⟩) hS ?_
      refine wpAnyK_take (i := 9) (d := some 82) (v := .pointer (some ⟨w.heap.size, 2, none⟩)) rfl rfl (by kernel_rfl) (fun _ _ _ h => h) (.inl ⟨rfl, fun wz hz => by simp [execOp, Act.eval, Act.put, go_sem]⟩) hS ?_
      refine wpAnyK_take (i := 10) (d := some 83) (v := .int .i64 j) rfl rfl (by kernel_rfl) (fun _ _ _ h => h) (.inl ⟨rfl, fun wz hz => by simp [execOp, Act.eval, Act.put, go_sem, hz.2.2.2]⟩) hS ?_
      refine wpAnyK_take (i := 11) (d := some 84) rfl rfl (by kernel_rfl) (fun _ _ _ h => h) (.inl ⟨rfl, fun wz hz => rfl⟩) hS ?_
      refine wpAnyK_take (i := 12) (d := some 85) rfl rfl (by kernel_rfl) (fun _ _ _ h => h) (.inl ⟨rfl, fun wz hz => rfl⟩) hS ?_
      refine wpAnyK_take (i := 13) (d := some 86) rfl rfl (by kernel_rfl) (fun _ _ _ h => h) (.inl ⟨rfl, fun wz hz => rfl⟩) hS ?_
      refine wpAnyK_take (i := 14) (d := some 87) (v := .agg #[.int .i64 t, .int .i64 k, .int .i64 j, .int .i64 x, .int .i64 y, .bool ok]) rfl rfl (by kernel_rfl) (fun _ _ _ h => h) (.inl ⟨rfl, fun wz hz => by simp [execOp, Act.eval, Act.put, go_sem]⟩) hS ?_
      have hUd := ((Upd.refl [] wd).alloc (.cells #[.int .i64 t, .int .i64 k, .int .i64 j, .int .i64 x, .int .i64 y, .bool ok] 47)).drew
      have hS1 : (wd.alloc (.cells #[.int .i64 t, .int .i64 k, .int .i64 j, .int .i64 x, .int .i64 y, .bool ok] 47)).drew.cell? ⟨p, 2, none⟩ = some vl ∧ (wd.alloc (.cells #[.int .i64 t, .int .i64 k, .int .i64 j, .int .i64 x, .int .i64 y, .bool ok] 47)).drew.cell? ⟨w.heap.size, 0, none⟩ = some (.int .i64 k) ∧ (wd.alloc (.cells #[.int .i64 t, .int .i64 k, .int .i64 j, .int .i64 x, .int .i64 y, .bool ok] 47)).drew.cell? ⟨w.heap.size, 1, none⟩ = some (.int .i64 t) ∧ (wd.alloc (.cells #[.int .i64 t, .int .i64 k, .int .i64 j, .int .i64 x, .int .i64 y, .bool ok] 47)).drew.cell? ⟨w.heap.size, 2, none⟩ = some (.int .i64 j) :=
        ⟨hUd.cell hvl (by simp), hUd.cell d0 (by simp), hUd.cell d1 (by simp), hUd.cell d2 (by simp)⟩
      refine wpAnyK_value (i := 15) (d := some 88) (v := .slice (some ⟨wd.heap.size, 0, none⟩) 1 1) (w' := (wd.alloc (.cells #[.int .i64 t, .int .i64 k, .int .i64 j, .int .i64 x, .int .i64 y, .bool ok] 47)).drew) rfl rfl (by kernel_rfl) rfl (by simp [execOp, Act.eval, Act.put, go_sem]) (.inr hS1) ?_
      refine wpAnyK_law (i := 16) (d := some 89) rfl rfl (by kernel_rfl) rfl (AppR wd.heap.size (wd.alloc (.cells #[.int .i64 t, .int .i64 k, .int .i64 j, .int .i64 x, .int .i64 y, .bool ok] 47)).drew vl s.log.length (s.log.flatMap Acc.cells ++ [.int .i64 t, .int .i64 k, .int .i64 j, .int .i64 x, .int .i64 y, .bool ok])) (fun K hK => ?_) ?_
      · refine wp_append_lies _ (.tmp 77) (.tmp 88) 38 rfl 0 47 i0 _ 6 48 Try.underlying38 hi0 hz0 hz1 hz2 rfl (by decide) vl s.log.length _ (by simp [Act.eval, Act.put]) (HOL.out.alloc _).drew ⟨wd.heap.size, 0, none⟩ 1 1 [.int .i64 t, .int .i64 k, .int .i64 j, .int .i64 x, .int .i64 y, .bool ok] (by simp [Act.eval, Act.put]) rfl (World.news_of_block (cs := #[.int .i64 t, .int .i64 k, .int .i64 j, .int .i64 x, .int .i64 y, .bool ok]) (heap_alloc1 _ _)) (by simp [Value.oneCell']) (by decide) (by simp [maxLen]; omega) (by omega) (Nat.zero_le _) _ rfl ?_
        intro g cap w1 hown hgrow hat hlt
        exact hK _ _ ⟨g, cap, rfl, hown, hgrow, hat.imp id (fun h => by rw [h]; simp [World.drew])⟩
      rintro v w1 ⟨g, cap, rfl, hown, hgrow, hat⟩
      obtain ⟨hp1, hf1⟩ := rlog_cell HM2.out hUd hvl hgrow
      have hx1 := rlog_box HBOX2.out HOL.out hUd hgrow
      refine ⟨.inr ⟨hp1, hx1⟩, ?_⟩
      refine wpAnyK_value (i := 17) (d := some 90) (v := .pointer (some ⟨p, 0, none⟩)) (w' := w1) rfl rfl (by kernel_rfl) rfl (by simp [execOp, Act.eval, Act.put, go_sem]) (.inr ⟨hp1, hx1⟩) ?_
      refine wpAnyK_value (i := 18) (d := some 91) (v := .pointer (some ⟨p, 2, none⟩)) (w' := w1) rfl rfl (by kernel_rfl) rfl (by simp [execOp, Act.eval, Act.put, go_sem]) (.inr ⟨hp1, hx1⟩) ?_
      refine wpAnyK_skip (i := 19) (d := none) (w' := w1.setCell ⟨p, 2, none⟩ (.slice (some ⟨g, 0, none⟩) (s.log.length + 1) cap)) rfl rfl (by kernel_rfl) rfl (by simp [execOp, Act.eval, Act.put, go_sem, hp1, hf1]) (.inl rfl) ?_
      refine wpAnyK_done (by kernel_rfl) ?_ _
      obtain ⟨F', hM', hG'⟩ := rlog_end HM2.out hUd hvl hgrow ⟨t, k, j, x, y, ok⟩ rfl hown hat (by omega)
      simp only [Act.put, List.setIfInBounds_toArray, List.set_cons_succ, List.set_cons_zero]
      have hx2 := hx1.1
      have hbox1 : (w1.setCell ⟨p, 2, none⟩ (.slice (some ⟨g, 0, none⟩) (s.log.length + 1) cap)).cell? ⟨w.heap.size, 0, none⟩ = some (.int .i64 k) := ((Upd.refl [p] w1).setCell (by simp) _).cell hx2 (by simp; omega)
      have hMG : Hid (RMem F' p bw { s with ws := s.ws.set j y, log := s.log ++ [⟨t, k, j, x, y, ok⟩] } (w1.setCell ⟨p, 2, none⟩ (.slice (some ⟨g, 0, none⟩) (s.log.length + 1) cap)) ∧ Goes F F' w (w1.setCell ⟨p, 2, none⟩ (.slice (some ⟨g, 0, none⟩) (s.log.length + 1) cap))) :=
        ⟨hM', HU2.out.trans hG'.1 (fun _ hx _ => hx), fun z hz => (hG'.2 z hz).imp id (fun h => Nat.le_trans HU2.out.size h)⟩
      clear hM' hG' hown hat hgrow hp1 hf1 hx1 hx2 hS hS1 hUd hvl fp
      generalize w1.setCell ⟨p, 2, none⟩ (.slice (some ⟨g, 0, none⟩) (s.log.length + 1) cap) = w6 at *
      rcases (show k = 1 ∨ k = 2 ∨ k = 3 ∨ k = 4 from by have := Hhk.out; omega) with rfl | rfl | rfl | rfl
      · obtain rfl : n = y := by rw [HN.out]; simp
        obtain rfl : res = false := by rw [HRES.out]; simp
        go_wp2_with fail
        go_ret2
        exact ⟨rfl, F', hMG.out⟩
      · obtain rfl : n = y := by rw [HN.out]; simp
        obtain rfl : res = false := by rw [HRES.out]; simp
        go_wp2_with fail
        go_ret2
        exact ⟨rfl, F', hMG.out⟩
      · obtain rfl : n = 0 := by rw [HN.out]; simp
        obtain rfl : res = ok := by rw [HRES.out]; simp
        go_wp2_with fail
        go_ret2
        exact ⟨rfl, F', hMG.out⟩
      · obtain rfl : n = 0 := by rw [HN.out]; simp
        obtain rfl : res = false := by rw [HRES.out]; simp
        go_wp2_with fail
        go_ret2
        exact ⟨rfl, F', hMG.out⟩
end
end Go.Proofs.Ytbalfkdeemgclaa
