/- ShmemExclusive: the walk. -/
import Derived.Test.YtbalfkdeemgclaaL
namespace Go.Proofs.Ytbalfkdeemgclaa
open Go.RowKit

/-- What holds at the loop's head of ShmemExclusive after k operations. -/
def ExRel (w : World) (p bw bm hb : Nat) (n g : Nat) (i : Value) (wr : World) : Prop :=
  ∃ k F s, i = .int .i64 (k : Nat) ∧ k + g = n ∧ Mem F p bw bm s wr ∧ Four k s ∧ (∀ x ∈ F, w.heap.size ≤ x) ∧ Upd [] w wr ∧ hb ∉ F ∧ w.heap.size ≤ hb ∧
    wr.heap[hb]? = some (.cells (s.ms.map fun o => Value.int .i64 (hold o)).toArray 45 (0, 0))

theorem ex_next {w wr w2 w3 w4 : World} {p bw bm hb n k g : Nat} {F2 F3 : List Nat} {s s' : St} {i : Value} (hi : i = .int .i64 ((k + 1 : Nat) : Int)) (hkg : k + 1 + g = n) (h4 : Four k s) (o : Oq) (ho : 0 ≤ o.t) (hs' : (s.step o).1 = s') (hF2 : ∀ x ∈ F2, w.heap.size ≤ x) (hU : Upd [] w wr) (hbF : hb ∉ F2) (hbw : w.heap.size ≤ hb) (hbl : hb < wr.heap.size)
    (hu2 : Upd [] wr w2) (hG3 : Goes F2 F3 w2 w3) (hM3 : Mem F3 p bw bm s' w3) (hu4 : Upd [hb] w3 w4) (hH : w4.heap[hb]? = some (.cells (s'.ms.map fun o => Value.int .i64 (hold o)).toArray 45 (0, 0))) : ExRel w p bw bm hb n g i w4 := by
  have hb3 : hb ∉ F3 := fun hx => (hG3.2 hb hx).elim hbF (fun h => by have := hu2.size; omega)
  refine ⟨k + 1, F3, s', hi, hkg, hM3.keep hu4 (fun x hx hx' => ?_), hs' ▸ h4.step o ho, fun x hx => (hG3.2 x hx).elim (hF2 x) (fun h => Nat.le_trans (Nat.le_trans hU.size hu2.size) h), ?_, hb3, hbw, hH⟩
  · simp at hx'
    subst hx'
    exact hb3 hx
  · exact ((hU.trans hu2 (by simp)).trans hG3.1 (fun x hx hl => absurd (hF2 x hx) (by omega))).trans hu4 (by simp; omega)
theorem hold_cells (s : St) (j : Nat) (hj : j < s.ms.length) : (s.ms.map fun o => Value.int .i64 (hold o)).toArray[j]? = some (.int .i64 (hold (s.m j))) := by
  simp [St.m, hj]
theorem hold_set (ms : List (Bool × Int)) (j : Nat) (o : Bool × Int) (x : Int) (h : hold o = x) : ((ms.map fun o => Value.int .i64 (hold o)).toArray.setIfInBounds j (.int .i64 x)) = ((ms.set j o).map fun o => Value.int .i64 (hold o)).toArray := by
  simp [h]

set_option maxRecDepth 100000 in
set_option maxHeartbeats 2000000 in
theorem Exclusive_any (ad : Option Addr) (rs : List Rw) (cap : Nat) (w : World) (hr : Raws w ad rs) (hlen : rs.length ≤ maxLen) :
    Calls Try.prog 5 #[.slice ad rs.length cap] w fun e w' => e = .returned (.bool true) ∧ Upd [] w w' := by
  unfold maxLen at hlen
  have HR := Lib.hid hr; clear hr
  by_cases hn : 200 < rs.length
  · go_enter Try.func5, Try.ntmps5
    go_wp2_with fail
    refine (head_any _).mono ?_
    rintro e w0 ⟨rfl, hu0⟩
    go_wp2_with fail
    refine (New_yes 4 4 (by omega) (by omega) _).mono ?_
    rintro e w1 ⟨p, bw, bm, F, rfl, hM, hF, hu1⟩
    clear hM hF
    go_wp2_with fail
    go_ret
    exact ⟨rfl, hu0.trans hu1 (by simp)⟩
  · have hn0 : decide (200 < (rs.length : Int)) = false := by simp; omega
    go_enter Try.func5, Try.ntmps5
    go_wp2_with fail
    refine (head_any _).mono ?_
    rintro e w0 ⟨rfl, hu0⟩
    go_wp2_with fail
    refine (New_yes 4 4 (by omega) (by omega) _).mono ?_
    rintro e w1 ⟨p, bw, bm, F, rfl, hM, hF, hu1⟩
    have HM := Lib.hid hM; have HF := Lib.hid hF; clear hM hF
    go_wp2_with fail
    go_loopg [6] rs.length (fun g i wr => ExRel w p bw bm w1.heap.size rs.length g i wr)
    case atStart =>
      refine ⟨0, F, zeroSt 4 4, rfl, by omega, HM.out.stay ((Upd.refl [] w1).alloc _), four_zero, fun x hx => Nat.le_trans hu0.size (HF.out x hx), (hu0.trans hu1 (by simp)).alloc _, fun hx => ?_, Nat.le_trans hu0.size hu1.size, heap_alloc1 _ _⟩
      have := HM.out.lt _ hx
      omega
    case round =>
      obtain ⟨k, F2, s, rfl, hkg, hM, h4, hF2, hU, hbF, hbw, hH⟩ := hrel
      have HM := Lib.hid hM; have H4 := Lib.hid h4; have HF2 := Lib.hid hF2; have HBF := Lib.hid hbF; have HH := Lib.hid hH; have HU := Lib.hid hU
      clear hM h4 hF2 hbF hH hU
      by_cases hk : k < rs.length
      · obtain ⟨hok, bl, off, rfl, c0, c1, c2, c3, c4⟩ := (HR.out.keep HU.out) k hk
        obtain ⟨k0, k1, t0, t1, i0, i1⟩ := hok
        go_wp2_with fail
        refine (Op_any _ _ _ _ _ ⟨k0, k1⟩ ⟨t0, t1⟩ ⟨i0, i1⟩ _).mono ?_
        rintro e w2 ⟨rfl, hu2⟩
        clear c0 c1 c2 c3 c4
        have kk0 : 1 ≤ rs[k].k % 7 + 1 ∧ rs[k].k % 7 + 1 ≤ 7 := by omega
        have tt0 : 0 ≤ rs[k].t % 4 := by omega
        have ii0 : -1 ≤ rs[k].i % 6 - 1 ∧ rs[k].i % 6 - 1 ≤ 4 := by omega
        clear k0 k1 t0 t1 i0 i1
        generalize rs[k].k % 7 + 1 = kk at *
        generalize rs[k].t % 4 = tt at *
        generalize rs[k].i % 6 - 1 = ii at *
        generalize rs[k].a = aa at *
        generalize rs[k].b = bb at *
        obtain ⟨kk0, kk1⟩ := kk0
        obtain ⟨ii0, ii1⟩ := ii0
        go_wp2_with fail
        have hu2' := hu2.alloc (.cells #[.int .i64 kk, .int .i64 tt, .int .i64 ii, .int .i64 aa, .int .i64 bb] 29)
        have hob := heap_alloc1 w2 (.cells #[.int .i64 kk, .int .i64 tt, .int .i64 ii, .int .i64 aa, .int .i64 bb] 29)
        refine (do_any (HM.out.stay hu2') (H4.out.small (by omega)) kk tt ii aa bb ⟨kk0, kk1⟩).mono ?_
        rintro e w3 ⟨rfl, F3, hM3, hG3⟩
        have hbl := lt_block HH.out
        have hob3 := hG3.1.at hob (fun hx => by have := HM.out.lt _ hx; have := hu2.size; omega)
        have hh3 := hG3.1.at (hu2'.at HH.out (by simp)) HBF.out
        have d0 := cell_block hob3 0
        have d1 := cell_block hob3 1
        have d2 := cell_block hob3 2
        simp only [List.getElem?_toArray, List.getElem?_cons_zero, List.getElem?_cons_succ] at d0 d1 d2
        clear hob hob3
        generalize hso : (s.step ⟨kk, tt, ii, aa, bb⟩).2.2 = ok at *
        generalize hsx : (s.step ⟨kk, tt, ii, aa, bb⟩).2.1 = xx at *
        generalize hs1 : (s.step ⟨kk, tt, ii, aa, bb⟩).1 = s1 at *
        have HSO := Lib.hid hso; have HS1 := Lib.hid hs1; have HM3 := Lib.hid hM3; have HH3 := Lib.hid hh3
        clear hso hsx hs1 hM3 hh3
        by_cases hi : 0 ≤ ii ∧ ii < 4
        · obtain ⟨j, rfl⟩ := Int.eq_ofNat_of_zero_le hi.1
          have hj : j < 4 := by omega
          have hjs : j < s.ms.length := by rw [H4.out.ms]; exact hj
          have hin : 0 ≤ (j : Int) ∧ (j : Int) < s.ms.length := by omega
          have hheld := H4.out.held j
          have e0 := (cell_block HH3.out j).trans (hold_cells s j hjs)
          have f0 := free_block HH3.out j
          have HIN := Lib.hid hin
          have HHELD := Lib.hid hheld
          have g0 : decide ((j : Int) < 0) = false := by simp
          clear hi hin hheld
          rcases (show kk ≤ 4 ∨ kk = 5 ∨ kk = 6 ∨ kk = 7 from by omega) with h4k | rfl | rfl | rfl
          · have hms : s1.ms = s.ms := by rw [← HS1.out, ms_step]; rw [if_neg (fun h => by have := h.1; simp at this; omega), if_neg (fun h => by have := h.1; simp at this; omega)]
            have HMS := Lib.hid hms; clear hms
            go_wp2_with fail
            go_roundg (gk - 1)
            case measure => omega
            case rel => exact ex_next (by go_num) (by omega) H4.out ⟨kk, tt, j, aa, bb⟩ tt0 HS1.out HF2.out HU.out HBF.out hbw hbl hu2' hG3 HM3.out (Upd.refl _ _) (by rw [HMS.out]; exact HH3.out)
          · have ho : ok = !(s.m j).1 := HSO.out ▸ ok5 s ⟨5, tt, j, aa, bb⟩ rfl HIN.out
            by_cases hm : (s.m j).1 = true
            · have hd : hold (s.m j) = (s.m j).2 := by simp [hold, hm]
              have hp := HHELD.out hm
              rw [hm] at ho
              obtain rfl : ok = false := ho
              have hms : s1.ms = s.ms := by rw [← HS1.out, ms_step, HSO.out]; simp
              have HMS := Lib.hid hms; have HD := Lib.hid hd; clear hms hd hm
              rw [HD.out] at e0
              have hne : ((s.m j).2 == -1) = false := by simp; omega
              go_wp2_with fail
              go_roundg (gk - 1)
              case measure => omega
              case rel => exact ex_next (by go_num) (by omega) H4.out ⟨5, tt, j, aa, bb⟩ tt0 HS1.out HF2.out HU.out HBF.out hbw hbl hu2' hG3 HM3.out (Upd.refl _ _) (by rw [HMS.out]; exact HH3.out)
            · have hd : hold (s.m j) = -1 := by simp [hold, hm]
              have ho' : ok = true := by rw [ho]; simpa using hm
              clear ho
              obtain rfl := ho'
              have hms : s1.ms = s.ms.set j (true, tt) := by rw [← HS1.out, ms_step, HSO.out]; simp
              have HMS := Lib.hid hms; have HD := Lib.hid hd; clear hms hd hm
              rw [HD.out] at e0
              go_wp2_with fail
              go_roundg (gk - 1)
              case measure => omega
              case rel => exact ex_next (by go_num) (by omega) H4.out ⟨5, tt, j, aa, bb⟩ tt0 HS1.out HF2.out HU.out HBF.out hbw hbl hu2' hG3 HM3.out ((Upd.refl _ _).setCell (by simp) _) (by rw [HMS.out, setCell_block HH3.out, hold_set s.ms j (true, tt) tt rfl])
          · have ho : ok = decide (s.m j = (true, tt)) := HSO.out ▸ ok67 s ⟨6, tt, j, aa, bb⟩ (.inl rfl) HIN.out
            by_cases hm : s.m j = (true, tt)
            · have hd : hold (s.m j) = tt := by simp [hold, hm]
              obtain rfl : ok = true := by rw [ho]; simpa using hm
              have hms : s1.ms = s.ms.set j (false, 0) := by rw [← HS1.out, ms_step, HSO.out]; simp
              have HMS := Lib.hid hms; have HD := Lib.hid hd; clear hms hd hm ho
              rw [HD.out] at e0
              go_wp2_with fail
              go_roundg (gk - 1)
              case measure => omega
              case rel => exact ex_next (by go_num) (by omega) H4.out ⟨6, tt, j, aa, bb⟩ tt0 HS1.out HF2.out HU.out HBF.out hbw hbl hu2' hG3 HM3.out ((Upd.refl _ _).setCell (by simp) _) (by rw [HMS.out, setCell_block HH3.out, hold_set s.ms j (false, 0) (-1) rfl])
            · have hd : (hold (s.m j) == tt) = false := by
                generalize s.m j = mj at *
                obtain ⟨b, u⟩ := mj
                cases b
                · simp [hold]; omega
                · simpa [hold] using hm
              obtain rfl : ok = false := by rw [ho]; simpa using hm
              have hms : s1.ms = s.ms := by rw [← HS1.out, ms_step, HSO.out]; simp
              have HMS := Lib.hid hms; clear hms hm ho
              go_wp2_with fail
              go_roundg (gk - 1)
              case measure => omega
              case rel => exact ex_next (by go_num) (by omega) H4.out ⟨6, tt, j, aa, bb⟩ tt0 HS1.out HF2.out HU.out HBF.out hbw hbl hu2' hG3 HM3.out (Upd.refl _ _) (by rw [HMS.out]; exact HH3.out)
          · have ho : ok = decide (s.m j = (true, tt)) := HSO.out ▸ ok67 s ⟨7, tt, j, aa, bb⟩ (.inr rfl) HIN.out
            have hms : s1.ms = s.ms := by rw [← HS1.out, ms_step]; simp
            have HMS := Lib.hid hms; clear hms
            have hd : (hold (s.m j) == tt) = ok := by
              rw [ho]
              generalize s.m j = mj at *
              obtain ⟨b, u⟩ := mj
              cases b
              · simp [hold]; omega
              · by_cases hu : u = tt <;> simp [hold, hu]
            clear ho
            cases ok
            all_goals
              go_wp2_with fail
              go_roundg (gk - 1)
              case measure => omega
              case rel => exact ex_next (by go_num) (by omega) H4.out ⟨7, tt, j, aa, bb⟩ tt0 HS1.out HF2.out HU.out HBF.out hbw hbl hu2' hG3 HM3.out (Upd.refl _ _) (by rw [HMS.out]; exact HH3.out)
        · have hok : ok = false := HSO.out ▸ ok_out s ⟨kk, tt, ii, aa, bb⟩ (fun _ => by rw [H4.out.ms]; exact hi) (fun _ => by rw [H4.out.ws]; exact hi)
          subst hok
          have hms : s1.ms = s.ms := by rw [← HS1.out, ms_step, HSO.out]; simp
          have HMS := Lib.hid hms; clear hms
          have hii : decide (ii < 0) = true ∨ (decide (ii < 0) = false ∧ 4 ≤ ii) := by simp; omega
          rcases hii with hii | ⟨hii, hij⟩
          all_goals
            go_wp2_with fail
            go_roundg (gk - 1)
            case measure => omega
            case rel => exact ex_next (by go_num) (by omega) H4.out ⟨kk, tt, ii, aa, bb⟩ tt0 HS1.out HF2.out HU.out HBF.out hbw hbl hu2' hG3 HM3.out (Upd.refl _ _) (by rw [HMS.out]; exact HH3.out)
      · go_wp2_with fail
        go_ret
        exact ⟨rfl, HU.out⟩
end Go.Proofs.Ytbalfkdeemgclaa
