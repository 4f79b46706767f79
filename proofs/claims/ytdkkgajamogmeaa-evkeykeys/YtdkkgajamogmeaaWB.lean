/- EvkeyKeys, walked. -/
import Derived.Test.YtdkkgajamogmeaaXP
namespace Go.Proofs.Ytdkkgajamogmeaa
open Go.Shelf Go.RowKit Go.Sort Go.Lib

/-- Whether two keys agree before place k (and are as long as each other). -/
def sameTo (xs ys : List Int) (k : Nat) : Bool := decide (xs.length = ys.length) && decide (xs.take k = ys.take k)
theorem sameTo_step (xs ys : List Int) (k : Nat) (h1 : k < xs.length) (h2 : k < ys.length) (h : sameTo xs ys k = true) : sameTo xs ys (k + 1) = (xs[k] == ys[k]) := by
  simp only [sameTo, Bool.and_eq_true, decide_eq_true_eq] at h
  unfold sameTo
  rw [decide_eq_true h.1, Bool.true_and, List.take_succ_eq_append_getElem h1, List.take_succ_eq_append_getElem h2, h.2]
  by_cases e : xs[k] = ys[k]
  · rw [e]; simp
  · have : (xs[k] == ys[k]) = false := by rw [beq_eq_false_iff_ne]; exact e
    rw [this]; exact decide_eq_false (fun h => e (by have := List.append_cancel_left h; simpa using this))
theorem sameTo_end {xs ys : List Int} {k : Nat} (h : sameTo xs ys k = true) (hk : xs.length ≤ k) : xs = ys := by
  simp only [sameTo, Bool.and_eq_true, decide_eq_true_eq] at h
  have := h.2
  rwa [List.take_of_length_le hk, List.take_of_length_le (by omega)] at this
theorem sameTo_false {xs ys : List Int} {k : Nat} (h : sameTo xs ys k = false) : xs ≠ ys := by
  intro e
  subst e
  simp [sameTo] at h

set_option maxHeartbeats 8000000 in
set_option maxRecDepth 100000 in
theorem EvkeyKeys_any (a b c : Option Addr) (ca cb cc : Nat) (xs ys zs : List Int) (w : World) (ha : Ints w a xs) (hb : Ints w b ys) (hc : Ints w c zs) :
    Calls Try.prog 5 #[.slice a xs.length ca, .slice b ys.length cb, .slice c zs.length cc] w fun e w' => e = .returned (.bool true) ∧ Upd [] w w' := by
  obtain ⟨nx, enx⟩ : ∃ n, n = xs.length := ⟨_, rfl⟩
  obtain ⟨ny, eny⟩ : ∃ n, n = ys.length := ⟨_, rfl⟩
  obtain ⟨nz, enz⟩ : ∃ n, n = zs.length := ⟨_, rfl⟩
  rw [← enx, ← eny, ← enz]
  by_cases hg : nx ≤ 100 ∧ ny ≤ 100 ∧ nz ≤ 100
  · obtain ⟨g1, g2, g3⟩ := hg
    have hcx := fun W (hu : Upd [] w W) => CompareKeys_any a b ca cb xs ys W (ha.stay hu) (hb.stay hu) (by omega) (by omega)
    have hcy := fun W (hu : Upd [] w W) => CompareKeys_any b c cb cc ys zs W (hb.stay hu) (hc.stay hu) (by omega) (by omega)
    have hcz := fun W (hu : Upd [] w W) => CompareKeys_any b a cb ca ys xs W (hb.stay hu) (ha.stay hu) (by omega) (by omega)
    have hcu := fun W (hu : Upd [] w W) => CompareKeys_any a c ca cc xs zs W (ha.stay hu) (hc.stay hu) (by omega) (by omega)
    have hx := three _ (ordK.range xs ys)
    have hy := three _ (ordK.range ys zs)
    have hz := ordK.neg xs ys
    have ht := ordK.trans xs ys zs
    have h0 : cmpK xs ys = 0 ↔ xs = ys := cmpK_zero
    obtain ⟨x, ex⟩ : ∃ x, x = cmpK xs ys := ⟨_, rfl⟩
    obtain ⟨y, ey⟩ : ∃ y, y = cmpK ys zs := ⟨_, rfl⟩
    obtain ⟨z, ez⟩ : ∃ z, z = cmpK ys xs := ⟨_, rfl⟩
    obtain ⟨u, eu⟩ : ∃ u, u = cmpK xs zs := ⟨_, rfl⟩
    rw [← ex] at hx hz ht h0 hcx
    rw [← ey] at hy ht hcy
    rw [← ez] at hz hcz
    rw [← eu] at ht hcu
    rw [← enx] at hcx hcz hcu
    rw [← eny] at hcx hcy hcz
    rw [← enz] at hcy hcu
    have HX := Lib.hid hx; have HY := Lib.hid hy; have HZ := Lib.hid hz; have HT := Lib.hid ht; have H0 := Lib.hid h0
    have H1 := Lib.hid hcx; have H2 := Lib.hid hcy; have H3 := Lib.hid hcz; have H4 := Lib.hid hcu
    have HA := Lib.hid ha; have HB := Lib.hid hb; have HNX := Lib.hid enx; have HNY := Lib.hid eny
    clear hx hy hz ht h0 hcx hcy hcz hcu ex ey ez eu ha hb hc enx eny enz
    have k1 : decide ((100 : Int) < (nx : Int)) = false := by simp; omega
    have k2 : decide ((100 : Int) < (ny : Int)) = false := by simp; omega
    have k3 : decide ((100 : Int) < (nz : Int)) = false := by simp; omega
    go_enter Try.func5, Try.ntmps5
    go_wp2_with fail
    refine (head_any _).mono ?_
    rintro e w1 ⟨rfl, hu⟩
    have HU1 := Lib.hid hu
    clear hu
    go_wp2_with fail
    refine (H1.out _ HU1.out).mono ?_
    rintro e w2 ⟨rfl, rfl⟩
    go_wp2_with fail
    refine (H2.out _ HU1.out).mono ?_
    rintro e w2 ⟨rfl, rfl⟩
    go_wp2_with fail
    go_loopg [10, 11] nx (fun gk vs vi wr => ∃ (k : Nat) (s : Bool), vs = .bool s ∧ vi = .int .i64 k ∧ k + gk = nx ∧ Hid (s = sameTo xs ys k) ∧ Hid (Upd [] w wr))
    case atStart => exact ⟨0, _, rfl, rfl, by omega, by
      show _ = _
      simp only [sameTo, List.take_zero, decide_true, Bool.and_true]
      rw [← HNX.out, ← HNY.out]
      by_cases h : nx = ny
      · subst h; simp
      · rw [decide_eq_false h]; simp; omega, HU1⟩
    case round =>
      clear HU1
      obtain ⟨k, s, rfl, rfl, hkg, HS, HU⟩ := hrel
      by_cases hgo : k < nx ∧ s = true
      · obtain ⟨hk, rfl⟩ := hgo
        have hkz : (k : Int) < (nx : Int) := by omega
        have hk1 : k < xs.length := by rw [← HNX.out]; exact hk
        have hsm := HS.out
        have hll : xs.length = ys.length := by
          simp only [sameTo, eq_comm (a := true), Bool.and_eq_true, decide_eq_true_eq] at hsm; exact hsm.1
        have hk2 : k < ys.length := by omega
        have hkz2 : (k : Int) < (ny : Int) := by have := HNY.out; omega
        obtain ⟨b1, o1, rfl, c1⟩ := (HA.out.stay HU.out) k hk1
        obtain ⟨b2, o2, rfl, c2⟩ := (HB.out.stay HU.out) k hk2
        have HST := Lib.hid (sameTo_step xs ys k hk1 hk2 hsm.symm)
        clear hsm hll
        generalize xs[k] = p at c1 HST
        generalize ys[k] = q at c2 HST
        go_wp2_with fail
        go_quiet (fail)
        go_wp2_with fail
        go_roundg (gk - 1)
        case measure => omega
        case rel => exact ⟨k + 1, _, rfl, by go_num, by omega, HST.out.symm, HU.out.drewN _⟩
      · have HEQ : Hid (s = true ↔ xs = ys) := by
          show s = true ↔ xs = ys
          have hs := HS.out
          cases s with
          | true => exact ⟨fun _ => sameTo_end hs.symm (by have := HNX.out; have : ¬ k < nx := fun h => hgo ⟨h, rfl⟩; omega), fun _ => rfl⟩
          | false => exact ⟨fun h => by simp at h, fun h => absurd h (sameTo_false hs.symm)⟩
        have hz : z = -x := HZ.out
        subst hz
        clear HS
        rcases HX.out with rfl | rfl | rfl
        · obtain rfl : s = false := by
            cases s with
            | false => rfl
            | true => have := H0.out.2 (HEQ.out.1 rfl); omega
          by_cases hk : k < nx
          · have hkz : (k : Int) < (nx : Int) := by omega
            rcases HY.out with rfl | rfl | rfl
            · have hu4 : u = -1 := HT.out (by omega) (by omega)
              subst hu4
              go_wp2_with fail
              refine (H3.out _ HU.out).mono ?_
              rintro e w5 ⟨rfl, rfl⟩
              go_wp2_with fail
              refine (H4.out _ HU.out).mono ?_
              rintro e w6 ⟨rfl, rfl⟩
              go_wp2_with fail
              go_ret
              exact ⟨by first | (simp; done) | (simp; decide), HU.out⟩
            · have hu4 : u = -1 := HT.out (by omega) (by omega)
              subst hu4
              go_wp2_with fail
              refine (H3.out _ HU.out).mono ?_
              rintro e w5 ⟨rfl, rfl⟩
              go_wp2_with fail
              refine (H4.out _ HU.out).mono ?_
              rintro e w6 ⟨rfl, rfl⟩
              go_wp2_with fail
              go_ret
              exact ⟨by first | (simp; done) | (simp; decide), HU.out⟩
            · go_wp2_with fail
              refine (H3.out _ HU.out).mono ?_
              rintro e w5 ⟨rfl, rfl⟩
              go_wp2_with fail
              go_ret
              exact ⟨by simp, HU.out⟩
          · have hkz : ¬ (k : Int) < (nx : Int) := by omega
            rcases HY.out with rfl | rfl | rfl
            · have hu4 : u = -1 := HT.out (by omega) (by omega)
              subst hu4
              go_wp2_with fail
              refine (H3.out _ HU.out).mono ?_
              rintro e w5 ⟨rfl, rfl⟩
              go_wp2_with fail
              refine (H4.out _ HU.out).mono ?_
              rintro e w6 ⟨rfl, rfl⟩
              go_wp2_with fail
              go_ret
              exact ⟨by first | (simp; done) | (simp; decide), HU.out⟩
            · have hu4 : u = -1 := HT.out (by omega) (by omega)
              subst hu4
              go_wp2_with fail
              refine (H3.out _ HU.out).mono ?_
              rintro e w5 ⟨rfl, rfl⟩
              go_wp2_with fail
              refine (H4.out _ HU.out).mono ?_
              rintro e w6 ⟨rfl, rfl⟩
              go_wp2_with fail
              go_ret
              exact ⟨by first | (simp; done) | (simp; decide), HU.out⟩
            · go_wp2_with fail
              refine (H3.out _ HU.out).mono ?_
              rintro e w5 ⟨rfl, rfl⟩
              go_wp2_with fail
              go_ret
              exact ⟨by simp, HU.out⟩
        · obtain rfl : s = true := HEQ.out.2 (H0.out.1 rfl)
          have hkz : ¬ (k : Int) < (nx : Int) := by
            have : ¬ k < nx := fun h => hgo ⟨h, rfl⟩
            omega
          rcases HY.out with rfl | rfl | rfl
          · have hu4 : u = -1 := HT.out (by omega) (by omega)
            subst hu4
            go_wp2_with fail
            refine (H3.out _ HU.out).mono ?_
            rintro e w5 ⟨rfl, rfl⟩
            go_wp2_with fail
            refine (H4.out _ HU.out).mono ?_
            rintro e w6 ⟨rfl, rfl⟩
            go_wp2_with fail
            go_ret
            exact ⟨by first | (simp; done) | (simp; decide), HU.out⟩
          · have hu4 : u = 0 := HT.out (by omega) (by omega)
            subst hu4
            go_wp2_with fail
            refine (H3.out _ HU.out).mono ?_
            rintro e w5 ⟨rfl, rfl⟩
            go_wp2_with fail
            refine (H4.out _ HU.out).mono ?_
            rintro e w6 ⟨rfl, rfl⟩
            go_wp2_with fail
            go_ret
            exact ⟨by first | (simp; done) | (simp; decide), HU.out⟩
          · go_wp2_with fail
            refine (H3.out _ HU.out).mono ?_
            rintro e w5 ⟨rfl, rfl⟩
            go_wp2_with fail
            go_ret
            exact ⟨by simp, HU.out⟩
        · obtain rfl : s = false := by
            cases s with
            | false => rfl
            | true => have := H0.out.2 (HEQ.out.1 rfl); omega
          by_cases hk : k < nx
          · have hkz : (k : Int) < (nx : Int) := by omega
            go_wp2_with fail
            refine (H3.out _ HU.out).mono ?_
            rintro e w5 ⟨rfl, rfl⟩
            go_wp2_with fail
            go_ret
            exact ⟨by simp, HU.out⟩
          · have hkz : ¬ (k : Int) < (nx : Int) := by omega
            go_wp2_with fail
            refine (H3.out _ HU.out).mono ?_
            rintro e w5 ⟨rfl, rfl⟩
            go_wp2_with fail
            go_ret
            exact ⟨by simp, HU.out⟩
  · have hor : 100 < nx ∨ 100 < ny ∨ 100 < nz := by omega
    clear ha hb hc enx eny enz hg
    by_cases c1 : 100 < nx
    · have k1 : (100 : Int) < (nx : Int) := by omega
      go_enter Try.func5, Try.ntmps5
      go_wp2_with fail
      refine (head_any _).mono ?_
      rintro e w1 ⟨rfl, hu⟩
      go_wp2_with fail
      go_ret
      exact ⟨rfl, hu⟩
    · have k1 : ¬ (100 : Int) < (nx : Int) := by omega
      by_cases c2 : 100 < ny
      · have k2 : (100 : Int) < (ny : Int) := by omega
        go_enter Try.func5, Try.ntmps5
        go_wp2_with fail
        refine (head_any _).mono ?_
        rintro e w1 ⟨rfl, hu⟩
        go_wp2_with fail
        go_ret
        exact ⟨rfl, hu⟩
      · have k2 : ¬ (100 : Int) < (ny : Int) := by omega
        have k3 : (100 : Int) < (nz : Int) := by omega
        go_enter Try.func5, Try.ntmps5
        go_wp2_with fail
        refine (head_any _).mono ?_
        rintro e w1 ⟨rfl, hu⟩
        go_wp2_with fail
        go_ret
        exact ⟨rfl, hu⟩
end Go.Proofs.Ytdkkgajamogmeaa
