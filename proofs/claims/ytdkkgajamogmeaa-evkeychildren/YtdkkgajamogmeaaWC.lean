/- EvkeyChildren, walked. -/
import Derived.Test.YtdkkgajamogmeaaXP
namespace Go.Proofs.Ytdkkgajamogmeaa
open Go.Shelf Go.RowKit Go.Sort Go.Lib

/-- Whether xs is no longer than ys and agrees with it before place k. -/
def prefTo (xs ys : List Int) (k : Nat) : Bool := decide (xs.length ≤ ys.length) && decide (xs.take k = ys.take k)
theorem prefTo_step (xs ys : List Int) (k : Nat) (h1 : k < xs.length) (h2 : k < ys.length) (h : prefTo xs ys k = true) : prefTo xs ys (k + 1) = (xs[k] == ys[k]) := by
  simp only [prefTo, Bool.and_eq_true, decide_eq_true_eq] at h
  unfold prefTo
  rw [decide_eq_true h.1, Bool.true_and, List.take_succ_eq_append_getElem h1, List.take_succ_eq_append_getElem h2, h.2]
  by_cases e : xs[k] = ys[k]
  · rw [e]; simp
  · have : (xs[k] == ys[k]) = false := by rw [beq_eq_false_iff_ne]; exact e
    rw [this]; exact decide_eq_false (fun h => e (by have := List.append_cancel_left h; simpa using this))
theorem prefB_append : ∀ {xs ys : List Int}, prefB xs ys = true → ∃ t, ys = xs ++ t
  | [], ys, _ => ⟨ys, rfl⟩
  | _ :: _, [], h => by simp [prefB] at h
  | x :: xs, y :: ys, h => by
    simp only [prefB, Bool.and_eq_true, beq_iff_eq] at h
    obtain ⟨t, rfl⟩ := prefB_append h.2
    exact ⟨t, by rw [h.1]; rfl⟩
theorem prefTo_false {xs ys : List Int} {k : Nat} (hk : k ≤ xs.length) (h : prefTo xs ys k = false) : prefB xs ys = false := by
  cases hp : prefB xs ys with
  | false => rfl
  | true =>
    obtain ⟨t, rfl⟩ := prefB_append hp
    simp [prefTo, List.take_append_of_le_length hk] at h

set_option maxHeartbeats 8000000 in
set_option maxRecDepth 100000 in
theorem EvkeyChildren_any (a b : Option Addr) (ca cb : Nat) (xs ys : List Int) (i j : Int) (w : World) (ha : Ints w a xs) (hb : Ints w b ys) :
    Calls Try.prog 6 #[.slice a xs.length ca, .slice b ys.length cb, .int .i64 i, .int .i64 j] w fun e w' => e = .returned (.bool true) ∧ Upd [] w w' := by
  obtain ⟨nx, enx⟩ : ∃ n, n = xs.length := ⟨_, rfl⟩
  obtain ⟨ny, eny⟩ : ∃ n, n = ys.length := ⟨_, rfl⟩
  by_cases hg : nx ≤ 100 ∧ ny ≤ 100
  · obtain ⟨g1, g2⟩ := hg
    have lx : (xs ++ [i]).length = nx + 1 := by rw [List.length_append, ← enx]; rfl
    have ly : (xs ++ [j]).length = nx + 1 := by rw [List.length_append, ← enx]; rfl
    have lz : (ys ++ [j]).length = ny + 1 := by rw [List.length_append, ← eny]; rfl
    have h18a := fun W (hu : Upd [] w W) => Child_any a ca xs i W (ha.stay hu) (by omega)
    have h18b := fun W (hu : Upd [] w W) => Child_any a ca xs j W (ha.stay hu) (by omega)
    have h18c := fun W (hu : Upd [] w W) => Child_any b cb ys j W (hb.stay hu) (by omega)
    have hc1 := fun W (hu : Upd [] w W) ad cap (h : Ints W ad (xs ++ [i])) => CompareKeys_any a ad ca cap xs (xs ++ [i]) W (ha.stay hu) h (by omega) (by omega)
    have hc2 := fun W ad cap ad' cap' (h : Ints W ad (xs ++ [i])) (h' : Ints W ad' (xs ++ [j])) => CompareKeys_any ad ad' cap cap' (xs ++ [i]) (xs ++ [j]) W h h' (by omega) (by omega)
    have hc3 := fun W (hu : Upd [] w W) => CompareKeys_any a b ca cb xs ys W (ha.stay hu) (hb.stay hu) (by omega) (by omega)
    have hc4 := fun W (hu : Upd [] w W) ad cap (h : Ints W ad (xs ++ [i])) => CompareKeys_any ad b cap cb (xs ++ [i]) ys W h (hb.stay hu) (by omega) (by omega)
    have hc5 := fun W ad cap ad' cap' (h : Ints W ad (xs ++ [i])) (h' : Ints W ad' (ys ++ [j])) => CompareKeys_any ad ad' cap cap' (xs ++ [i]) (ys ++ [j]) W h h' (by omega) (by omega)
    have hRC := RCompare_any i j
    unfold Gives at h18a h18b h18c
    rw [cmpK_child] at hc1
    rw [cmpK_children] at hc2
    rw [lx, ← enx] at h18a hc1
    rw [ly, ← enx] at h18b
    rw [lz, ← eny] at h18c
    rw [lx, ly] at hc2
    rw [← enx, ← eny] at hc3
    rw [lx, ← eny] at hc4
    rw [lx, lz] at hc5
    have hv := three _ (ordK.range xs ys)
    have hah : prefB xs ys = false → cmpK xs ys = -1 → cmpK (xs ++ [i]) ys = -1 ∧ cmpK (xs ++ [i]) (ys ++ [j]) = -1 := fun h1 h2 => ⟨by have := cmpK_ahead xs ys [i] [] h1 h2; rwa [List.append_nil] at this, cmpK_ahead xs ys [i] [j] h1 h2⟩
    obtain ⟨q, eq⟩ : ∃ q, q = cmpI i j := ⟨_, rfl⟩
    rw [← eq] at hc2 hRC
    obtain ⟨v, ev⟩ : ∃ v, v = cmpK xs ys := ⟨_, rfl⟩
    obtain ⟨p4, ep4⟩ : ∃ v, v = cmpK (xs ++ [i]) ys := ⟨_, rfl⟩
    obtain ⟨p5, ep5⟩ : ∃ v, v = cmpK (xs ++ [i]) (ys ++ [j]) := ⟨_, rfl⟩
    rw [← ev] at hv hah hc3
    rw [← ep4] at hah hc4
    rw [← ep5] at hah hc5
    rw [← enx, ← eny]
    have HV := Lib.hid hv; have HAH := Lib.hid hah; have HA := Lib.hid ha; have HB := Lib.hid hb; have HNX := Lib.hid enx; have HNY := Lib.hid eny
    have C1 := Lib.hid h18a; have C2 := Lib.hid h18b; have C3 := Lib.hid h18c; have K1 := Lib.hid hc1; have K2 := Lib.hid hc2; have K3 := Lib.hid hc3; have K4 := Lib.hid hc4; have K5 := Lib.hid hc5; have KR := Lib.hid hRC
    clear hv hah ha hb enx eny h18a h18b h18c hc1 hc2 hc3 hc4 hc5 hRC lx ly lz eq ev ep4 ep5
    have k1 : decide ((100 : Int) < (nx : Int)) = false := by simp; omega
    have k2 : decide ((100 : Int) < (ny : Int)) = false := by simp; omega
    go_enter Try.func6, Try.ntmps6
    go_wp2_with fail
    refine (head_any _).mono ?_
    rintro e w1 ⟨rfl, hu⟩
    have HU1 := Lib.hid hu
    clear hu
    go_wp2_with fail
    refine (C1.out _ HU1.out).mono ?_
    rintro e w2 ⟨ad1, cap1, rfl, hi1, hu, _⟩
    have HU2 := Lib.hid (HU1.out.trans hu (by simp)); have HI1 := Lib.hid hi1
    clear hu hi1 HU1
    go_wp2_with fail
    refine (C2.out _ HU2.out).mono ?_
    rintro e w3 ⟨ad2, cap2, rfl, hi2, hu, _⟩
    have HU3 := Lib.hid (HU2.out.trans hu (by simp)); have HI2 := Lib.hid hi2; have HI3 := Lib.hid (HI1.out.stay hu)
    clear hu hi2 HU2 HI1
    go_wp2_with fail
    refine (K1.out _ HU3.out _ _ HI3.out).mono ?_
    rintro e w4 ⟨rfl, rfl⟩
    go_wp2_with fail
    refine (K2.out _ _ _ _ _ HI3.out HI2.out).mono ?_
    rintro e w4 ⟨rfl, rfl⟩
    go_wp2_with fail
    refine (KR.out _).mono ?_
    rintro e w4 ⟨rfl, rfl⟩
    go_wp2_with fail
    go_loopg [12, 13] nx (fun gk vs vi wr => ∃ (k : Nat) (s : Bool), vs = .bool s ∧ vi = .int .i64 k ∧ k + gk = nx ∧ Hid (s = prefTo xs ys k) ∧ Hid (Upd [] w wr) ∧ Hid (Ints wr ad1 (xs ++ [i])))
    case atStart => exact ⟨0, _, rfl, rfl, by omega, by
      show _ = _
      simp only [prefTo, List.take_zero, decide_true, Bool.and_true]
      rw [← HNX.out, ← HNY.out], HU3, HI3⟩
    case round =>
      clear HU3 HI3 HI2
      obtain ⟨k, s, rfl, rfl, hkg, HS, HU, HI⟩ := hrel
      by_cases hgo : k < nx ∧ s = true
      · obtain ⟨hk, rfl⟩ := hgo
        have hkz : (k : Int) < (nx : Int) := by omega
        have hk1 : k < xs.length := by rw [← HNX.out]; exact hk
        have hsm := HS.out
        have hll : xs.length ≤ ys.length := by
          simp only [prefTo, eq_comm (a := true), Bool.and_eq_true, decide_eq_true_eq] at hsm; exact hsm.1
        have hk2 : k < ys.length := by omega
        have hkz2 : (k : Int) < (ny : Int) := by have := HNY.out; omega
        obtain ⟨b1, o1, rfl, c1⟩ := (HA.out.stay HU.out) k hk1
        obtain ⟨b2, o2, rfl, c2⟩ := (HB.out.stay HU.out) k hk2
        have HST := Lib.hid (prefTo_step xs ys k hk1 hk2 hsm.symm)
        clear hsm hll
        generalize xs[k] = p at c1 HST
        generalize ys[k] = q' at c2 HST
        go_wp2_with fail
        go_quiet (fail)
        go_wp2_with fail
        go_roundg (gk - 1)
        case measure => omega
        case rel => exact ⟨k + 1, _, rfl, by go_num, by omega, HST.out.symm, HU.out.drewN _, HI.out.stay ((Upd.refl [] _).drewN _)⟩
      · cases s with
        | true =>
          have hkz : ¬ (k : Int) < (nx : Int) := by
            have : ¬ k < nx := fun h => hgo ⟨h, rfl⟩
            omega
          go_wp2_with fail
          go_ret
          exact ⟨rfl, HU.out⟩
        | false =>
          have HPF := Lib.hid (prefTo_false (by have := HNX.out; omega) HS.out.symm)
          by_cases hk : k < nx
          · have hkz : (k : Int) < (nx : Int) := by omega
            rcases HV.out with rfl | rfl | rfl
            · obtain ⟨rfl, rfl⟩ := HAH.out HPF.out rfl
              go_wp2_with fail
              refine (K3.out _ HU.out).mono ?_
              rintro e w5 ⟨rfl, rfl⟩
              go_wp2_with fail
              refine (K4.out _ HU.out _ _ HI.out).mono ?_
              rintro e w5 ⟨rfl, rfl⟩
              go_wp2_with fail
              refine (C3.out _ HU.out).mono ?_
              rintro e w6 ⟨ad3, cap3, rfl, hi3, hu, _⟩
              have HU6 := Lib.hid (HU.out.trans hu (by simp)); have HI4 := Lib.hid hi3; have HI5 := Lib.hid (HI.out.stay hu)
              clear hu hi3
              go_wp2_with fail
              refine (K5.out _ _ _ _ _ HI5.out HI4.out).mono ?_
              rintro e w7 ⟨rfl, rfl⟩
              go_wp2_with fail
              go_ret
              exact ⟨by simp, HU6.out⟩
            · go_wp2_with fail
              refine (K3.out _ HU.out).mono ?_
              rintro e w5 ⟨rfl, rfl⟩
              go_wp2_with fail
              go_ret
              exact ⟨rfl, HU.out⟩
            · go_wp2_with fail
              refine (K3.out _ HU.out).mono ?_
              rintro e w5 ⟨rfl, rfl⟩
              go_wp2_with fail
              go_ret
              exact ⟨rfl, HU.out⟩
          · have hkz : ¬ (k : Int) < (nx : Int) := by omega
            rcases HV.out with rfl | rfl | rfl
            · obtain ⟨rfl, rfl⟩ := HAH.out HPF.out rfl
              go_wp2_with fail
              refine (K3.out _ HU.out).mono ?_
              rintro e w5 ⟨rfl, rfl⟩
              go_wp2_with fail
              refine (K4.out _ HU.out _ _ HI.out).mono ?_
              rintro e w5 ⟨rfl, rfl⟩
              go_wp2_with fail
              refine (C3.out _ HU.out).mono ?_
              rintro e w6 ⟨ad3, cap3, rfl, hi3, hu, _⟩
              have HU6 := Lib.hid (HU.out.trans hu (by simp)); have HI4 := Lib.hid hi3; have HI5 := Lib.hid (HI.out.stay hu)
              clear hu hi3
              go_wp2_with fail
              refine (K5.out _ _ _ _ _ HI5.out HI4.out).mono ?_
              rintro e w7 ⟨rfl, rfl⟩
              go_wp2_with fail
              go_ret
              exact ⟨by simp, HU6.out⟩
            · go_wp2_with fail
              refine (K3.out _ HU.out).mono ?_
              rintro e w5 ⟨rfl, rfl⟩
              go_wp2_with fail
              go_ret
              exact ⟨rfl, HU.out⟩
            · go_wp2_with fail
              refine (K3.out _ HU.out).mono ?_
              rintro e w5 ⟨rfl, rfl⟩
              go_wp2_with fail
              go_ret
              exact ⟨rfl, HU.out⟩
  · rw [← enx, ← eny]
    clear ha hb enx eny
    by_cases c1 : 100 < nx
    · have k1 : (100 : Int) < (nx : Int) := by omega
      go_enter Try.func6, Try.ntmps6
      go_wp2_with fail
      refine (head_any _).mono ?_
      rintro e w1 ⟨rfl, hu⟩
      go_wp2_with fail
      go_ret
      exact ⟨rfl, hu⟩
    · have k1 : ¬ (100 : Int) < (nx : Int) := by omega
      have k2 : (100 : Int) < (ny : Int) := by omega
      go_enter Try.func6, Try.ntmps6
      go_wp2_with fail
      refine (head_any _).mono ?_
      rintro e w1 ⟨rfl, hu⟩
      go_wp2_with fail
      go_ret
      exact ⟨rfl, hu⟩
end Go.Proofs.Ytdkkgajamogmeaa
