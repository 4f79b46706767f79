/- The reference memory's mutex. -/
import Derived.Test.YtbalfkdeemgclaaRB
namespace Go.Proofs.Ytbalfkdeemgclaa
open Go.RowKit
section
variable {F : List Nat} {p bw : Nat} {s : St} {w : World}

def msNew (ms : List (Bool × Int)) (ok : Bool) (j : Nat) (o : Bool × Int) : List (Bool × Int) := if ok then ms.set j o else ms
theorem set_any (h : RMem F p bw s w) (k : Nat) (hk : k < s.ms.length) (hs : s.ms.length ≤ 256) (t : Int) (b ok : Bool) (o : Bool × Int) (ho : ok = true → hold o = if b then t else -1) :
    Calls Try.prog 38 #[.pointer (some ⟨p, 0, none⟩), .int .i64 k, .bool b, .bool ok, .int .i64 t] w fun e w' => e = .returned (.tuple #[]) ∧ RMem F p bw { s with ms := msNew s.ms ok k o } w' ∧ Upd F w w' := by
  cases ok
  · exact (set_no p w k t b).mono fun e w' ⟨he, hw⟩ => ⟨he, hw ▸ h, hw ▸ Upd.refl _ _⟩
  · exact set_yes h k hk hs t b o (ho rfl)

/-- The reference memory, beside it the operation in its box. -/
def Boxed (F : List Nat) (p bw : Nat) (s : St) (kd t : Int) (j : Nat) (a b : Int) (w wx : World) : Prop :=
  RMem F p bw s wx ∧ wx.heap[w.heap.size]? = some (.cells #[.int .i64 kd, .int .i64 t, .int .i64 j, .int .i64 a, .int .i64 b] 29 (0, 0)) ∧ Upd F w wx
theorem hold_ne {m : Bool × Int} (h : m.1 = true → 0 ≤ m.2) : (hold m != -1) = m.1 := by
  obtain ⟨b, u⟩ := m
  cases b
  · simp [hold]
  · have : 0 ≤ u := h rfl
    simp [hold]; omega

set_option maxRecDepth 100000 in
set_option maxHeartbeats 4000000 in
theorem Mu_in (h : RMem F p bw s w) (hs : s.Small) (kd t : Int) (j : Nat) (a b : Int) (hkd : kd = 5 ∨ kd = 6) (hj : j < s.ms.length) (m : Bool × Int) (hm : s.ms[j] = m) (hheld : m.1 = true → 0 ≤ m.2) (ht : 0 ≤ t)
    (ok : Bool) (hok : ok = if kd = 6 then decide (m = (true, t)) else !m.1) (now : Int) (hnow : now = if ok then 1 - b2i m.1 else b2i m.1) (v : Int) (hv : v = if kd = 6 ∧ ok = false then s.v + 1 else s.v) (o : Bool × Int) (ho : o = if kd = 6 then (false, 0) else (true, t)) :
    Calls Try.prog 30 #[.pointer (some ⟨p, 0, none⟩), .agg #[.int .i64 kd, .int .i64 t, .int .i64 j, .int .i64 a, .int .i64 b]] w fun e w' =>
      e = .returned (.bool ok) ∧ ∃ F', RMem F' p bw { s with ms := msNew s.ms ok j o, v := v, log := s.log ++ [⟨t, kd, j, b2i m.1, now, ok⟩] } w' ∧ Goes F F' w w' := by
  have lp := h.lt p h.p_mem.1
  have hpF := h.p_mem.1
  have hms := hs.ms
  have hlog := hs.log
  have hv0 := hs.v0
  have hv1 := hs.v1
  obtain ⟨mg, mc, c1, c2, _, _, _⟩ := h.held hj
  have lg : mg < w.heap.size := World.block_lt_of_cell? w _ c2
  obtain ⟨c0, c3⟩ := h.cells
  have f3 := (h.free 3).1
  rw [hm] at c2
  have H := Lib.hid h; have HM0 := Lib.hid hm; have HHELD := Lib.hid hheld; have HOK := Lib.hid hok; have HNOW := Lib.hid hnow; have HV := Lib.hid hv; have HOO := Lib.hid ho
  clear h hm hheld hok hnow hv ho
  have hO := heap_alloc1 w (.cells #[.int .i64 kd, .int .i64 t, .int .i64 j, .int .i64 a, .int .i64 b] 29)
  have HO := Lib.hid hO; clear hO
  have g0 : decide (0 ≤ (j : Int)) = true := by simp
  have g1 : decide (j < s.ms.length) = true := by simpa using hj
  have g2 : decide (6 < kd) = false := by simp; omega
  have hne := Lib.hid (hold_ne HHELD.out)
  have hBX : ∀ n, Boxed F p bw s kd t j a b w ((w.alloc (.cells #[.int .i64 kd, .int .i64 t, .int .i64 j, .int .i64 a, .int .i64 b] 29)).drewN n) := fun n => ⟨H.out.stay (((Upd.refl [] w).alloc _).drewN n), HO.out, ((Upd.refl F w).alloc _).drewN n⟩
  have HBX := Lib.hid hBX; clear hBX
  have hB : ∀ n, RMem F p bw s ((w.alloc (.cells #[.int .i64 kd, .int .i64 t, .int .i64 j, .int .i64 a, .int .i64 b] 29)).drewN n) := fun n => H.out.stay (((Upd.refl [] w).alloc _).drewN n)
  have HB := Lib.hid hB; clear hB
  go_enter Try.func30, Try.ntmps30
  go_wp2_with fail
  go_quiet (fail)
  go_wp2_with fail
  refine (Held_any (HB.out _) j hj hms).mono ?_
  rintro e w' ⟨rfl, rfl⟩
  rw [HM0.out, hne.out]
  go_upto_if 62 with (fail)
  go_cut [7] (fun v7 wx => v7 = .int .i64 (b2i m.1) ∧ Boxed F p bw s kd t j a b w wx)
  case first =>
    obtain ⟨b1, u⟩ := m
    cases b1
    all_goals
      go_wp2_with fail
      go_meet
      case rel => exact ⟨rfl, HBX.out _⟩
  case rest =>
    obtain ⟨rfl, hBx⟩ := hcut
    clear c0 c1 c2 c3 f3 lg
    obtain ⟨hM, hbox, hU⟩ := hBx
    obtain ⟨mg, mc, c1, c2, _, _, _⟩ := hM.held hj
    rw [HM0.out] at c2
    obtain ⟨c0, c3⟩ := hM.cells
    have f3 := (hM.free 3).1
    have d0 := cell_block hbox 0
    have d1 := cell_block hbox 1
    have d2 := cell_block hbox 2
    simp only [List.getElem?_toArray, List.getElem?_cons_zero, List.getElem?_cons_succ] at d0 d1 d2
    have HMc := Lib.hid hM; have HUc := Lib.hid hU; have HBXc := Lib.hid hbox
    clear hM hU hbox
    go_upto_if 67 with (fail)
    go_cut [8] (fun v8 wx => v8 = .bool ok ∧ Boxed F p bw { s with v := v } kd t j a b w wx)
    case first =>
      rcases hkd with rfl | rfl
      · have hok : ok = !m.1 := by rw [HOK.out]; simp
        have hv' : v = s.v := by rw [HV.out]; simp
        subst hok; subst hv'
        have hz : ((b2i m.1 == 0) : Bool) = !m.1 := by cases m.1 <;> rfl
        go_wp2_with fail
        go_meet
        case rel => exact ⟨by rw [hz], HMc.out, HBXc.out, HUc.out⟩
      · have hok : ok = decide (m = (true, t)) := by rw [HOK.out]; simp
        obtain ⟨b1, u⟩ := m
        cases b1
        · obtain rfl : ok = false := by rw [hok]; simp
          obtain rfl : v = s.v + 1 := by rw [HV.out]; simp
          clear hok
          have e1 : (b2i (false, u).1 == 1) = false := rfl
          go_wp2_with fail
          go_quiet (fail)
          go_wp2_with fail
          go_meet
          case rel => exact ⟨rfl, (HMc.out.stay ((Upd.refl [] wc).drewN _)).setV _, (((Upd.refl [p] wc).drewN _).setCell (by simp) _).at HBXc.out (by simp; omega), ((HUc.out.drewN _).setCell (fun _ => hpF) _)⟩
        · have e1 : (b2i (true, u).1 == 1) = true := rfl
          have e2 : hold (true, u) = u := rfl
          rw [e2] at c2
          clear e2
          by_cases hut : u = t
          · subst hut
            obtain rfl : ok = true := by rw [hok]; simp
            obtain rfl : v = s.v := by rw [HV.out]; simp
            clear hok
            go_wp2_with fail
            go_quiet (fail)
            go_wp2_with fail
            go_meet
            case rel => exact ⟨rfl, HMc.out.stay ((Upd.refl [] wc).drewN _), HBXc.out, HUc.out.drewN _⟩
          · obtain rfl : ok = false := by rw [hok]; simp [hut]
            obtain rfl : v = s.v + 1 := by rw [HV.out]; simp
            clear hok
            have hut' : (u == t) = false := by simpa using hut
            go_wp2_with fail
            go_quiet (fail)
            go_wp2_with fail
            go_meet
            case rel => exact ⟨rfl, (HMc.out.stay ((Upd.refl [] wc).drewN _)).setV _, (((Upd.refl [p] wc).drewN _).setCell (by simp) _).at HBXc.out (by simp; omega), ((HUc.out.drewN _).setCell (fun _ => hpF) _)⟩
    case rest =>
      rename_i wc1
      obtain ⟨rfl, hBx⟩ := hcut
      clear c0 c1 c2 c3 f3 d0 d1 d2 HMc HUc HBXc
      obtain ⟨hM, hbox, hU⟩ := hBx
      have d0 := cell_block hbox 0
      have d1 := cell_block hbox 1
      have d2 := cell_block hbox 2
      simp only [List.getElem?_toArray, List.getElem?_cons_zero, List.getElem?_cons_succ] at d0 d1 d2
      have HMc := Lib.hid hM; have HUc := Lib.hid hU; have HBXc := Lib.hid hbox
      clear hM hU hbox
      go_upto_if 94 with (fail)
      go_cut [9] (fun v9 wx => v9 = .int .i64 now ∧ wc = wx)
      case first =>
        generalize hbm : b2i m.1 = old at *
        have hol : old = 0 ∨ old = 1 := by rw [← hbm]; cases m.1 <;> simp [b2i]
        clear hbm
        cases ok
        · obtain rfl : now = old := HNOW.out
          go_wp2_with fail
          go_meet
          case rel => exact ⟨rfl, rfl⟩
        · obtain rfl : now = 1 - old := HNOW.out
          go_wp2_with fail
          go_meet
          case rel => exact ⟨rfl, rfl⟩
      case rest =>
        obtain ⟨rfl, rfl⟩ := hcut
        go_wp2_with fail
        have hset : ok = true → hold o = if (now == 1) = true then t else -1 := by
          intro h1
          have hnw := HNOW.out
          rw [h1, if_pos rfl] at hnw
          rcases hkd with h5 | h6
          · have hk1 := HOK.out
            rw [h1, if_neg (by omega)] at hk1
            have hm1 : m.1 = false := by simpa using hk1.symm
            rw [hnw, hm1, HOO.out, if_neg (by omega)]
            simp [b2i, hold]
          · have hk1 := HOK.out
            rw [h1, if_pos h6] at hk1
            have hm1 : m = (true, t) := by simpa using hk1.symm
            rw [hnw, hm1, HOO.out, if_pos h6]
            simp [b2i, hold]
        refine (set_any HMc.out j hj hms t _ ok o hset).mono ?_
        rintro e wd ⟨rfl, hM, hU5⟩
        have hbox := hU5.at HBXc.out (fun hx => by have := H.out.lt _ hx; omega)
        have hU : Upd F w wd := HUc.out.trans hU5 (fun _ hx _ => hx)
        go_wp2_with fail
        obtain ⟨vl, hvl, hol⟩ := hM.log
        clear d0 d1 d2
        have d0 := cell_block hbox 0
        have d1 := cell_block hbox 1
        have d2 := cell_block hbox 2
        simp only [List.getElem?_toArray, List.getElem?_cons_zero, List.getElem?_cons_succ] at d0 d1 d2
        have fp := (hM.free 2).1
        have lw := lt_block hbox
        have lpc := hM.lt p hM.p_mem.1
        have HM2 := Lib.hid hM; have HOL := Lib.hid hol; have HU2 := Lib.hid hU; have HBOX2 := Lib.hid hbox
        clear hM hol hU hbox
        obtain ⟨i0, hi0, hz0, hz1, hz2⟩ := info_parts info47
        have hS : wd.drew.cell? ⟨p, 2, none⟩ = some vl ∧ wd.drew.cell? ⟨w.heap.size, 0, none⟩ = some (.int .i64 kd) ∧ wd.drew.cell? ⟨w.heap.size, 1, none⟩ = some (.int .i64 t) ∧ wd.drew.cell? ⟨w.heap.size, 2, none⟩ = some (.int .i64 j) := ⟨hvl, d0, d1, d2⟩
        refine wp_region_K (fun wy => wy.cell? ⟨p, 2, none⟩ = some vl ∧ wy.cell? ⟨w.heap.size, 0, none⟩ = some (.int .i64 kd) ∧ wy.cell? ⟨w.heap.size, 1, none⟩ = some (.int .i64 t) ∧ wy.cell? ⟨w.heap.size, 2, none⟩ = some (.int .i64 j)) 19 (by kernel_rfl) ?_
        refine wpAnyK_take (i := 0) (d := some 106) rfl rfl (by kernel_rfl) (fun _ _ _ h => h) (.inl ⟨rfl, fun wz hz => rfl⟩) hS ?_
        refine wpAnyK_take (i := 1) (d := some 107) rfl rfl (by kernel_rfl) (fun _ _ _ h => h) (.inl ⟨rfl, fun wz hz => rfl⟩) hS ?_
        refine wpAnyK_take (i := 2) (d := some 108) rfl rfl (by kernel_rfl) (fun _ _ _ h => h) (.inl ⟨rfl, fun wz hz => rfl⟩) hS ?_
        refine wpAnyK_take (i := 3) (d := some 109) (v := .pointer (some ⟨p, 2, none⟩)) rfl rfl (by kernel_rfl) (fun _ _ _ h => h) (.inl ⟨rfl, fun wz hz => by simp [execOp, Act.eval, Act.put, go_sem]⟩) hS ?_
        refine wpAnyK_take (i := 4) (d := some 110) (v := vl) rfl rfl (by kernel_rfl) (fun _ _ _ h => h) (.inl ⟨rfl, fun wz hz => by simp [execOp, Act.eval, Act.put, go_sem, hz.1]⟩) hS ?_
        refine wpAnyK_take (i := 5) (d := some 111) (v := .pointer (some ⟨w.heap.size, 1, none⟩)) rfl rfl (by kernel_rfl) (fun _ _ _ h => h) (.inl ⟨rfl, fun wz hz => by simp [execOp, Act.eval, Act.put, go_sem]⟩) hS ?_
        refine wpAnyK_take (i := 6) (d := some 112) (v := .int .i64 t) rfl rfl (by kernel_rfl) (fun _ _ _ h => h) (.inl ⟨rfl, fun wz hz => by simp [execOp, Act.eval, Act.put, go_sem, hz.2.2.1]⟩) hS ?_
        refine wpAnyK_take (i := 7) (d := some 113) (v := .pointer (some ⟨w.heap.size, 0, none⟩)) rfl rfl (by kernel_rfl) (fun _ _ _ h => h) (.inl ⟨rfl, fun wz hz => by simp [execOp, Act.eval, Act.put, go_sem]⟩) hS ?_
        refine wpAnyK_take (i := 8) (d := some 114) (v := .int .i64 kd) rfl rfl (by kernel_rfl) (fun _ _ _ h => h) (.inl ⟨rfl, fun wz hz => by simp [execOp, Act.eval, Act.put, go_sem, hz.2.1]⟩) hS ?_
        refine wpAnyK_take (i := 9) (d := some 115) (v := .pointer (some ⟨w.heap.size, 2, none⟩)) rfl rfl (by kernel_rfl) (fun _ _ _ h => h) (.inl ⟨rfl, fun wz hz => by simp [execOp, Act.eval, Act.put, go_sem]⟩) hS ?_
        refine wpAnyK_take (i := 10) (d := some 116) (v := .int .i64 j) rfl rfl (by kernel_rfl) (fun _ _ _ h => h) (.inl ⟨rfl, fun wz hz => by simp [execOp, Act.eval, Act.put, go_sem, hz.2.2.2]⟩) hS ?_
        refine wpAnyK_take (i := 11) (d := some 117) rfl rfl (by kernel_rfl) (fun _ _ _ h => h) (.inl ⟨rfl, fun wz hz => rfl⟩) hS ?_
        refine wpAnyK_take (i := 12) (d := some 118) rfl rfl (by kernel_rfl) (fun _ _ _ h => h) (.inl ⟨rfl, fun wz hz => rfl⟩) hS ?_
        refine wpAnyK_take (i := 13) (d := some 119) rfl rfl (by kernel_rfl) (fun _ _ _ h => h) (.inl ⟨rfl, fun wz hz => rfl⟩) hS ?_
        refine wpAnyK_take (i := 14) (d := some 120) (v := .agg #[.int .i64 t, .int .i64 kd, .int .i64 j, .int .i64 (b2i m.1), .int .i64 now, .bool ok]) rfl rfl (by kernel_rfl) (fun _ _ _ h => h) (.inl ⟨rfl, fun wz hz => by simp [execOp, Act.eval, Act.put, go_sem]⟩) hS ?_
        have hUd := ((Upd.refl [] wd).alloc (.cells #[.int .i64 t, .int .i64 kd, .int .i64 j, .int .i64 (b2i m.1), .int .i64 now, .bool ok] 47)).drew
        have hS1 : (wd.alloc (.cells #[.int .i64 t, .int .i64 kd, .int .i64 j, .int .i64 (b2i m.1), .int .i64 now, .bool ok] 47)).drew.cell? ⟨p, 2, none⟩ = some vl ∧ (wd.alloc (.cells #[.int .i64 t, .int .i64 kd, .int .i64 j, .int .i64 (b2i m.1), .int .i64 now, .bool ok] 47)).drew.cell? ⟨w.heap.size, 0, none⟩ = some (.int .i64 kd) ∧ (wd.alloc (.cells #[.int .i64 t, .int .i64 kd, .int .i64 j, .int .i64 (b2i m.1), .int .i64 now, .bool ok] 47)).drew.cell? ⟨w.heap.size, 1, none⟩ = some (.int .i64 t) ∧ (wd.alloc (.cells #[.int .i64 t, .int .i64 kd, .int .i64 j, .int .i64 (b2i m.1), .int .i64 now, .bool ok] 47)).drew.cell? ⟨w.heap.size, 2, none⟩ = some (.int .i64 j) :=
          ⟨hUd.cell hvl (by simp), hUd.cell d0 (by simp), hUd.cell d1 (by simp), hUd.cell d2 (by simp)⟩
        refine wpAnyK_value (i := 15) (d := some 121) (v := .slice (some ⟨wd.heap.size, 0, none⟩) 1 1) (w' := (wd.alloc (.cells #[.int .i64 t, .int .i64 kd, .int .i64 j, .int .i64 (b2i m.1), .int .i64 now, .bool ok] 47)).drew) rfl rfl (by kernel_rfl) rfl (by simp [execOp, Act.eval, Act.put, go_sem]) (.inr hS1) ?_
        refine wpAnyK_law (i := 16) (d := some 122) rfl rfl (by kernel_rfl) rfl (AppR wd.heap.size (wd.alloc (.cells #[.int .i64 t, .int .i64 kd, .int .i64 j, .int .i64 (b2i m.1), .int .i64 now, .bool ok] 47)).drew vl s.log.length (s.log.flatMap Acc.cells ++ [.int .i64 t, .int .i64 kd, .int .i64 j, .int .i64 (b2i m.1), .int .i64 now, .bool ok])) (fun K hK => ?_) ?_
        · refine wp_append_lies _ (.tmp 110) (.tmp 121) 38 rfl 0 47 i0 _ 6 48 Try.underlying38 hi0 hz0 hz1 hz2 rfl (by decide) vl s.log.length _ (by simp [Act.eval, Act.put]) (HOL.out.alloc _).drew ⟨wd.heap.size, 0, none⟩ 1 1 [.int .i64 t, .int .i64 kd, .int .i64 j, .int .i64 (b2i m.1), .int .i64 now, .bool ok] (by simp [Act.eval, Act.put]) rfl (World.news_of_block (cs := #[.int .i64 t, .int .i64 kd, .int .i64 j, .int .i64 (b2i m.1), .int .i64 now, .bool ok]) (heap_alloc1 _ _)) (by simp [Value.oneCell']) (by decide) (by simp [maxLen]; omega) (by omega) (Nat.zero_le _) _ rfl ?_
          intro g cap w1 hown hgrow hat hlt
          exact hK _ _ ⟨g, cap, rfl, hown, hgrow, hat.imp id (fun h => by rw [h]; simp [World.drew])⟩
        rintro v w1 ⟨g, cap, rfl, hown, hgrow, hat⟩
        obtain ⟨hp1, hf1⟩ := rlog_cell HM2.out hUd hvl hgrow
        have hx1 := rlog_box HBOX2.out HOL.out hUd hgrow
        refine ⟨.inr ⟨hp1, hx1⟩, ?_⟩
        refine wpAnyK_value (i := 17) (d := some 123) (v := .pointer (some ⟨p, 0, none⟩)) (w' := w1) rfl rfl (by kernel_rfl) rfl (by simp [execOp, Act.eval, Act.put, go_sem]) (.inr ⟨hp1, hx1⟩) ?_
        refine wpAnyK_value (i := 18) (d := some 124) (v := .pointer (some ⟨p, 2, none⟩)) (w' := w1) rfl rfl (by kernel_rfl) rfl (by simp [execOp, Act.eval, Act.put, go_sem]) (.inr ⟨hp1, hx1⟩) ?_
        refine wpAnyK_skip (i := 19) (d := none) (w' := w1.setCell ⟨p, 2, none⟩ (.slice (some ⟨g, 0, none⟩) (s.log.length + 1) cap)) rfl rfl (by kernel_rfl) rfl (by simp [execOp, Act.eval, Act.put, go_sem, hp1, hf1]) (.inl rfl) ?_
        refine wpAnyK_done (by kernel_rfl) ?_ _
        obtain ⟨F', hM', hG'⟩ := rlog_end HM2.out hUd hvl hgrow ⟨t, kd, j, b2i m.1, now, ok⟩ rfl hown hat (by omega)
        simp only [Act.put, List.setIfInBounds_toArray, List.set_cons_succ, List.set_cons_zero]
        have hMG : Hid (RMem F' p bw { s with ms := msNew s.ms ok j o, v := v, log := s.log ++ [⟨t, kd, j, b2i m.1, now, ok⟩] } (w1.setCell ⟨p, 2, none⟩ (.slice (some ⟨g, 0, none⟩) (s.log.length + 1) cap)) ∧ Goes F F' w (w1.setCell ⟨p, 2, none⟩ (.slice (some ⟨g, 0, none⟩) (s.log.length + 1) cap))) :=
          ⟨hM', HU2.out.trans hG'.1 (fun _ hx _ => hx), fun z hz => (hG'.2 z hz).imp id (fun h => Nat.le_trans HU2.out.size h)⟩
        clear hM' hG' hown hat hgrow hp1 hf1 hx1 hS hS1 hUd hvl fp
        generalize w1.setCell ⟨p, 2, none⟩ (.slice (some ⟨g, 0, none⟩) (s.log.length + 1) cap) = w6 at *
        go_wp2_with fail
        go_ret
        exact ⟨rfl, F', hMG.out⟩
end
end Go.Proofs.Ytbalfkdeemgclaa
