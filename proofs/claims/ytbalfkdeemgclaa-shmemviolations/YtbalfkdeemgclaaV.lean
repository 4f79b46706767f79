/- ShmemViolations: the walk. -/
import Derived.Test.YtbalfkdeemgclaaL
namespace Go.Proofs.Ytbalfkdeemgclaa
open Go.RowKit

theorem v_step (s : St) (o : Oq) (h4w : s.ws.length = 4) (h4m : s.ms.length = 4) : (s.step o).1.v = if (s.step o).2.2 = false ∧ (7 ≤ o.k ∨ o.k = 6 ∧ 0 ≤ o.i ∧ o.i < 4) then s.v + 1 else s.v := by
  by_cases c4 : o.k ≤ 4
  · rw [if_neg (fun h => by have := h.2; omega)]
    unfold St.step
    rw [if_pos c4]
    repeat' split
    all_goals rfl
  · unfold St.step
    rw [h4w, h4m, if_neg c4]
    by_cases hi : 0 ≤ o.i ∧ o.i < 4
    · have hi' : 0 ≤ o.i ∧ o.i < ((4 : Nat) : Int) := by omega
      rw [if_pos hi']
      by_cases h5 : o.k = 5
      · rw [if_pos h5]
        by_cases hm : (s.m o.i).1 = true <;> simp [hm, h5]
      · rw [if_neg h5]
        by_cases h6 : o.k = 6
        · rw [if_pos h6]
          by_cases hm : s.m o.i = (true, o.t) <;> simp [hm, h6, hi]
        · rw [if_neg h6]
          have h7 : 7 ≤ o.k := by omega
          by_cases hm : s.m o.i = (true, o.t) <;> simp [hm, h7]
    · have hi' : ¬ (0 ≤ o.i ∧ o.i < ((4 : Nat) : Int)) := by omega
      rw [if_neg hi']
      by_cases h6 : o.k ≤ 6
      · rw [if_pos h6]
        have : ¬ (7 ≤ o.k ∨ o.k = 6 ∧ 0 ≤ o.i ∧ o.i < 4) := by omega
        simp [this]
      · have h7 : 7 ≤ o.k := by omega
        simp [h6, h7]
theorem l_step (s : St) (o : Oq) (h4w : s.ws.length = 4) (h4m : s.ms.length = 4) : (s.step o).1.log.length = if (0 ≤ o.i ∧ o.i < 4) ∧ o.k ≤ 6 then s.log.length + 1 else s.log.length := by
  by_cases hi : 0 ≤ o.i ∧ o.i < 4
  · have hi' : 0 ≤ o.i ∧ o.i < ((4 : Nat) : Int) := by omega
    by_cases c6 : o.k ≤ 6
    · have e : (if (0 ≤ o.i ∧ o.i < 4) ∧ o.k ≤ 6 then s.log.length + 1 else s.log.length) = s.log.length + 1 := if_pos ⟨hi, c6⟩
      rw [e]
      unfold St.step
      rw [h4w, h4m]
      simp only [if_pos hi']
      repeat' split
      all_goals first | (exfalso; omega) | simp
    · have e : (if (0 ≤ o.i ∧ o.i < 4) ∧ o.k ≤ 6 then s.log.length + 1 else s.log.length) = s.log.length := if_neg (fun h => c6 h.2)
      rw [e]
      unfold St.step
      rw [h4w, h4m]
      simp only [if_pos hi']
      rw [if_neg (by omega), if_neg (by omega), if_neg (by omega)]
      split <;> rfl
  · have hi' : ¬ (0 ≤ o.i ∧ o.i < ((4 : Nat) : Int)) := by omega
    have e : (if (0 ≤ o.i ∧ o.i < 4) ∧ o.k ≤ 6 then s.log.length + 1 else s.log.length) = s.log.length := if_neg (fun h => hi h.1)
    rw [e]
    unfold St.step
    rw [h4w, h4m]
    simp only [if_neg hi']
    repeat' split
    all_goals rfl

/-- What holds at the loop's head of ShmemViolations after k operations. -/
def ViRel (w : World) (p bw bm : Nat) (n g : Nat) (b l i : Value) (wr : World) : Prop :=
  ∃ k F s, i = .int .i64 (k : Nat) ∧ b = .int .i64 s.v ∧ l = .int .i64 (s.log.length : Nat) ∧ k + g = n ∧ Mem F p bw bm s wr ∧ Four k s ∧ (∀ x ∈ F, w.heap.size ≤ x) ∧ Upd [] w wr

theorem vi_next {w wr w2 w3 w4 : World} {p bw bm n k g : Nat} {F2 F3 : List Nat} {s s' : St} {b l i : Value} (hi : i = .int .i64 ((k + 1 : Nat) : Int)) (hb : b = .int .i64 s'.v) (hl : l = .int .i64 (s'.log.length : Nat)) (hkg : k + 1 + g = n) (h4 : Four k s) (o : Oq) (ho : 0 ≤ o.t) (hs' : (s.step o).1 = s') (hF2 : ∀ x ∈ F2, w.heap.size ≤ x) (hU : Upd [] w wr)
    (hu2 : Upd [] wr w2) (hG3 : Goes F2 F3 w2 w3) (hM3 : Mem F3 p bw bm s' w3) (hu4 : Upd [] w3 w4) : ViRel w p bw bm n g b l i w4 := by
  refine ⟨k + 1, F3, s', hi, hb, hl, hkg, hM3.stay hu4, hs' ▸ h4.step o ho, fun x hx => (hG3.2 x hx).elim (hF2 x) (fun h => Nat.le_trans (Nat.le_trans hU.size hu2.size) h), ?_⟩
  exact ((hU.trans hu2 (by simp)).trans hG3.1 (fun x hx hl => absurd (hF2 x hx) (by omega))).trans hu4 (by simp)

theorem Log_len {F : List Nat} {p bw bm : Nat} {s : St} {w : World} (h : Mem F p bw bm s w) (hs : s.Small) (n : Nat) (hn : s.log.length = n) :
    Calls Try.prog 18 #[.pointer (some ⟨p, 0, none⟩)] w fun e w' => ∃ a c, e = .returned (.slice a n c) ∧ Upd [] w w' := by
  refine (Log_any h hs).mono ?_
  rintro e w' ⟨v, rfl, ho, hu⟩
  subst hn
  rcases ho.2 with ⟨rfl, hz⟩ | ⟨g, cap, cur, rfl, _⟩
  · exact ⟨none, 0, by rw [hz], hu⟩
  · exact ⟨_, _, rfl, hu⟩

set_option maxHeartbeats 4000000 in
theorem Violations_law (ad : Option Addr) (rs : List Rw) (cap : Nat) (w : World) (hr : Raws w ad rs) (hlen : rs.length ≤ maxLen) :
    Calls Try.prog 7 #[.slice ad rs.length cap] w fun e w' => e = .returned (.bool true) ∧ Upd [] w w' := by
  unfold maxLen at hlen
  have HR := Lib.hid hr; clear hr
  by_cases hn : 200 < rs.length
  · go_enter Try.func7, Try.ntmps7
    go_wp2_with fail
    refine (head_any _).mono ?_
    rintro e w0 ⟨rfl, hu0⟩
    go_wp2_with fail
    refine (New_yes 4 4 (by omega) (by omega) _).mono ?_
    rintro e w1 ⟨p, bw, bm, F, rfl, hM, hF, hu1⟩
    clear hM hF
    go_wp2_with fail
    go_ret
    exact ⟨rfl, hu0.trans hu1 (by simp)⟩
  · have hn0 : decide (200 < (rs.length : Int)) = false := by simp; omega
    go_enter Try.func7, Try.ntmps7
    go_wp2_with fail
    refine (head_any _).mono ?_
    rintro e w0 ⟨rfl, hu0⟩
    go_wp2_with fail
    refine (New_yes 4 4 (by omega) (by omega) _).mono ?_
    rintro e w1 ⟨p, bw, bm, F, rfl, hM, hF, hu1⟩
    have HM := Lib.hid hM; have HF := Lib.hid hF; clear hM hF
    go_wp2_with fail
    go_loopg [5, 6, 7] rs.length (fun g b l i wr => ViRel w p bw bm rs.length g b l i wr)
    case atStart =>
      exact ⟨0, F, zeroSt 4 4, rfl, rfl, rfl, by omega, HM.out, four_zero, fun x hx => Nat.le_trans hu0.size (HF.out x hx), (hu0.trans hu1 (by simp))⟩
    case round =>
      obtain ⟨k, F2, s, rfl, rfl, rfl, hkg, hM, h4, hF2, hU⟩ := hrel
      have HM := Lib.hid hM; have H4 := Lib.hid h4; have HF2 := Lib.hid hF2; have HU := Lib.hid hU
      have hv0 := h4.v0
      have hv1 := h4.v1
      have hl1 := h4.log
      clear hM h4 hF2 hU
      by_cases hk : k < rs.length
      · obtain ⟨hok, bl, off, rfl, c0, c1, c2, c3, c4⟩ := (HR.out.keep HU.out) k hk
        obtain ⟨k0, k1, t0, t1, i0, i1⟩ := hok
        go_wp2_with fail
        refine (Op_any _ _ _ _ _ ⟨k0, k1⟩ ⟨t0, t1⟩ ⟨i0, i1⟩ _).mono ?_
        rintro e w2 ⟨rfl, hu2⟩
        clear c0 c1 c2 c3 c4
        have kk0 : 1 ≤ rs[k].k % 7 + 1 ∧ rs[k].k % 7 + 1 ≤ 7 := by omega
        have tt0 : 0 ≤ rs[k].t % 4 := by omega
        have ii0 : -1 ≤ rs[k].i % 6 - 1 ∧ rs[k].i % 6 - 1 ≤ 4 := by omega
        clear k0 k1 t0 t1 i0 i1
        generalize rs[k].k % 7 + 1 = kk at *
        generalize rs[k].t % 4 = tt at *
        generalize rs[k].i % 6 - 1 = ii at *
        generalize rs[k].a = aa at *
        generalize rs[k].b = bb at *
        obtain ⟨kk0, kk1⟩ := kk0
        obtain ⟨ii0, ii1⟩ := ii0
        go_wp2_with fail
        have hu2' := hu2.alloc (.cells #[.int .i64 kk, .int .i64 tt, .int .i64 ii, .int .i64 aa, .int .i64 bb] 29)
        have hob := heap_alloc1 w2 (.cells #[.int .i64 kk, .int .i64 tt, .int .i64 ii, .int .i64 aa, .int .i64 bb] 29)
        refine (do_any (HM.out.stay hu2') (H4.out.small (by omega)) kk tt ii aa bb ⟨kk0, kk1⟩).mono ?_
        rintro e w3 ⟨rfl, F3, hM3, hG3⟩
        have hob3 := hG3.1.at hob (fun hx => by have := HM.out.lt _ hx; have := hu2.size; omega)
        have d0 := cell_block hob3 0
        have d2 := cell_block hob3 2
        simp only [List.getElem?_toArray, List.getElem?_cons_zero, List.getElem?_cons_succ] at d0 d2
        clear hob hob3
        have hvs := v_step s ⟨kk, tt, ii, aa, bb⟩ H4.out.ws H4.out.ms
        have hls := l_step s ⟨kk, tt, ii, aa, bb⟩ H4.out.ws H4.out.ms
        have hout : ¬ (0 ≤ ii ∧ ii < 4) → (s.step ⟨kk, tt, ii, aa, bb⟩).2.2 = false := fun hi => ok_out s ⟨kk, tt, ii, aa, bb⟩ (fun _ => by rw [H4.out.ms]; exact hi) (fun _ => by rw [H4.out.ws]; exact hi)
        have hsm := (H4.out.step ⟨kk, tt, ii, aa, bb⟩ tt0).small (by omega)
        generalize hso : (s.step ⟨kk, tt, ii, aa, bb⟩).2.2 = ok at *
        generalize hsx : (s.step ⟨kk, tt, ii, aa, bb⟩).2.1 = xx at *
        generalize hs1 : (s.step ⟨kk, tt, ii, aa, bb⟩).1 = s1 at *
        have HSO := Lib.hid hso; have HS1 := Lib.hid hs1; have HM3 := Lib.hid hM3; have HVS := Lib.hid hvs; have HLS := Lib.hid hls; have HSM := Lib.hid hsm
        clear hso hsx hs1 hM3 hvs hls hsm
        by_cases hi : 0 ≤ ii ∧ ii < 4
        · clear hout
          have g0 : decide (0 ≤ ii) = true := by simpa using hi.1
          have g1 : decide (ii < 4) = true := by simpa using hi.2
          have HI := Lib.hid hi; clear hi
          rcases (show kk ≤ 5 ∨ kk = 6 ∨ kk = 7 from by omega) with h5 | rfl | rfl
          · have hv : s1.v = s.v := by rw [HVS.out, if_neg (fun h => by have := h.2; simp only at this; omega)]
            have hl : s1.log.length = s.log.length + 1 := by rw [HLS.out, if_pos ⟨HI.out, by simp only; omega⟩]
            have HV := Lib.hid hv; have HL := Lib.hid hl; clear hv hl
            cases ok
            all_goals
              go_wp2_with fail
              refine (Violations_any HM3.out).mono ?_
              rintro e w4 ⟨rfl, rfl⟩
              rw [HV.out]
              go_wp2_with fail
              refine (Log_len HM3.out HSM.out _ HL.out).mono ?_
              rintro e w4 ⟨va, vc, rfl, hu4⟩
              go_wp2_with fail
              go_roundg (gk - 1)
              case measure => omega
              case rel => exact vi_next (by go_num) (by rw [HV.out]) (by rw [HL.out]; go_num) (by omega) H4.out ⟨kk, tt, ii, aa, bb⟩ tt0 HS1.out HF2.out HU.out hu2' hG3 HM3.out hu4
          · have hl : s1.log.length = s.log.length + 1 := by rw [HLS.out, if_pos ⟨HI.out, by simp⟩]
            have HL := Lib.hid hl; clear hl
            cases ok
            · have hv : s1.v = s.v + 1 := by rw [HVS.out, if_pos ⟨rfl, .inr ⟨rfl, HI.out⟩⟩]
              have HV := Lib.hid hv; clear hv
              go_wp2_with fail
              refine (Violations_any HM3.out).mono ?_
              rintro e w4 ⟨rfl, rfl⟩
              rw [HV.out]
              go_wp2_with fail
              refine (Log_len HM3.out HSM.out _ HL.out).mono ?_
              rintro e w4 ⟨va, vc, rfl, hu4⟩
              go_wp2_with fail
              go_roundg (gk - 1)
              case measure => omega
              case rel => exact vi_next (by go_num) (by rw [HV.out]) (by rw [HL.out]; go_num) (by omega) H4.out ⟨6, tt, ii, aa, bb⟩ tt0 HS1.out HF2.out HU.out hu2' hG3 HM3.out hu4
            · have hv : s1.v = s.v := by rw [HVS.out, if_neg (by simp)]
              have HV := Lib.hid hv; clear hv
              go_wp2_with fail
              refine (Violations_any HM3.out).mono ?_
              rintro e w4 ⟨rfl, rfl⟩
              rw [HV.out]
              go_wp2_with fail
              refine (Log_len HM3.out HSM.out _ HL.out).mono ?_
              rintro e w4 ⟨va, vc, rfl, hu4⟩
              go_wp2_with fail
              go_roundg (gk - 1)
              case measure => omega
              case rel => exact vi_next (by go_num) (by rw [HV.out]) (by rw [HL.out]; go_num) (by omega) H4.out ⟨6, tt, ii, aa, bb⟩ tt0 HS1.out HF2.out HU.out hu2' hG3 HM3.out hu4
          · have hl : s1.log.length = s.log.length := by rw [HLS.out, if_neg (by simp)]
            have HL := Lib.hid hl; clear hl
            cases ok
            · have hv : s1.v = s.v + 1 := by rw [HVS.out, if_pos ⟨rfl, .inl (by simp)⟩]
              have HV := Lib.hid hv; clear hv
              go_wp2_with fail
              refine (Violations_any HM3.out).mono ?_
              rintro e w4 ⟨rfl, rfl⟩
              rw [HV.out]
              go_wp2_with fail
              refine (Log_len HM3.out HSM.out _ HL.out).mono ?_
              rintro e w4 ⟨va, vc, rfl, hu4⟩
              go_wp2_with fail
              go_roundg (gk - 1)
              case measure => omega
              case rel => exact vi_next (by go_num) (by rw [HV.out]) (by rw [HL.out]) (by omega) H4.out ⟨7, tt, ii, aa, bb⟩ tt0 HS1.out HF2.out HU.out hu2' hG3 HM3.out hu4
            · have hv : s1.v = s.v := by rw [HVS.out, if_neg (by simp)]
              have HV := Lib.hid hv; clear hv
              go_wp2_with fail
              refine (Violations_any HM3.out).mono ?_
              rintro e w4 ⟨rfl, rfl⟩
              rw [HV.out]
              go_wp2_with fail
              refine (Log_len HM3.out HSM.out _ HL.out).mono ?_
              rintro e w4 ⟨va, vc, rfl, hu4⟩
              go_wp2_with fail
              go_roundg (gk - 1)
              case measure => omega
              case rel => exact vi_next (by go_num) (by rw [HV.out]) (by rw [HL.out]) (by omega) H4.out ⟨7, tt, ii, aa, bb⟩ tt0 HS1.out HF2.out HU.out hu2' hG3 HM3.out hu4
        · obtain rfl : ok = false := hout hi
          have hl : s1.log.length = s.log.length := by rw [HLS.out, if_neg (fun h => hi h.1)]
          have HL := Lib.hid hl; clear hl hout
          have HI := Lib.hid hi; clear hi
          have hg : decide (0 ≤ ii) = false ∨ (decide (0 ≤ ii) = true ∧ decide (ii < 4) = false) := by
            have := HI.out
            simp; omega
          by_cases h7 : kk = 7
          · subst h7
            have hv : s1.v = s.v + 1 := by rw [HVS.out, if_pos ⟨rfl, .inl (by simp)⟩]
            have HV := Lib.hid hv; clear hv
            rcases hg with g0 | ⟨g0, g1⟩
            all_goals
              go_wp2_with fail
              refine (Violations_any HM3.out).mono ?_
              rintro e w4 ⟨rfl, rfl⟩
              rw [HV.out]
              go_wp2_with fail
              refine (Log_len HM3.out HSM.out _ HL.out).mono ?_
              rintro e w4 ⟨va, vc, rfl, hu4⟩
              go_wp2_with fail
              go_roundg (gk - 1)
              case measure => omega
              case rel => exact vi_next (by go_num) (by rw [HV.out]) (by rw [HL.out]) (by omega) H4.out ⟨7, tt, ii, aa, bb⟩ tt0 HS1.out HF2.out HU.out hu2' hG3 HM3.out hu4
          · have hv : s1.v = s.v := by
              have := HI.out
              rw [HVS.out, if_neg (fun h => by have := h.2; simp only at this; omega)]
            have HV := Lib.hid hv; clear hv
            have h7' : (kk == 7) = false := by simpa using h7
            have h67 : (kk == 6) = true ∨ (kk == 6) = false := by cases (kk == 6) <;> simp
            clear h7
            rcases h67 with h6 | h6
            all_goals
              rcases hg with g0 | ⟨g0, g1⟩
              all_goals
                go_wp2_with fail
                refine (Violations_any HM3.out).mono ?_
                rintro e w4 ⟨rfl, rfl⟩
                rw [HV.out]
                go_wp2_with fail
                refine (Log_len HM3.out HSM.out _ HL.out).mono ?_
                rintro e w4 ⟨va, vc, rfl, hu4⟩
                go_wp2_with fail
                go_roundg (gk - 1)
                case measure => omega
                case rel => exact vi_next (by go_num) (by rw [HV.out]) (by rw [HL.out]) (by omega) H4.out ⟨kk, tt, ii, aa, bb⟩ tt0 HS1.out HF2.out HU.out hu2' hG3 HM3.out hu4
      · go_wp2_with fail
        go_ret
        exact ⟨rfl, HU.out⟩
end Go.Proofs.Ytbalfkdeemgclaa
