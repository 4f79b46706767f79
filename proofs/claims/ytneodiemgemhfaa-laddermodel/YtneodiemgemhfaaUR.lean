/- Contracts: the program's validShape, inBucket, Valid. -/
import Derived.Test.YtneodiemgemhfaaUQ
namespace Go.Proofs.Ytneodiemgemhfaa
open Go.RowKit Go.Shelf

theorem shp_iff (r : RgR) : Shp r.rg ↔ (0 ≤ r.fr ∧ r.fr ≤ 1152921504606846976 ∧ 1 ≤ r.wd ∧ r.wd ≤ 144115188075855873 ∧ 0 ≤ r.cu ∧ r.cu ≤ 8 ∧ r.bk.l.length = 8) :=
  ⟨fun h => ⟨h.fr0, h.fr1, h.wd0, h.wd1, h.cu0, h.cu1, by have := h.len; simpa [RgR.rg, rowsOf_length] using this⟩, fun ⟨h1, h2, h3, h4, h5, h6, h7⟩ => ⟨h1, h2, h3, h4, h5, h6, by simpa [RgR.rg, rowsOf_length] using h7⟩⟩
open Classical in
noncomputable def shpB (r : Rg) : Bool := decide (Shp r)
theorem shpB_yes {r : Rg} (h : Shp r) : shpB r = true := by simp [shpB, h]
theorem shpB_no {r : Rg} (h : ¬ Shp r) : shpB r = false := by simp [shpB, h]
set_option maxRecDepth 100000 in
set_option maxHeartbeats 4000000 in
theorem validShape_has (r : RgR) (w : World) (hl : r.bk.l.length ≤ 1000000) :
    Calls Try.prog 57 #[encR r] w fun e w' => e = .returned (.bool (shpB r.rg)) ∧ Upd [] w w' := by
  have HI := Lib.hid (shp_iff r)
  have HY : Hid (Shp r.rg → true = shpB r.rg) := fun h => (shpB_yes h).symm
  have HN : Hid (¬ Shp r.rg → false = shpB r.rg) := fun h => (shpB_no h).symm
  generalize shpB r.rg = sb at *
  generalize Shp r.rg = Sp at *
  obtain ⟨fr, wd, cu, bl, ba, bc⟩ := r
  unfold encR
  simp only at HI hl ⊢
  generalize bl.length = n at *
  go_enter Try.func57, Try.ntmps57
  go_upto_region 1 with (fail)
  have hu := (Upd.refl [] w).alloc (.cells #[.int .i64 fr, .int .i64 wd, .int .i64 cu, .slice ba n bc] 43)
  obtain ⟨c0, c1, c2, c3⟩ := cells4 (heap_alloc1 w (.cells #[.int .i64 fr, .int .i64 wd, .int .i64 cu, .slice ba n bc] 43))
  generalize w.alloc (.cells #[.int .i64 fr, .int .i64 wd, .int .i64 cu, .slice ba n bc] 43) = W at *
  generalize w.heap.size = H at *
  have HU := Lib.hid hu
  clear hu
  by_cases q0 : 0 ≤ fr
  case neg =>
    have d0 : decide (0 ≤ fr) = false := by simpa using q0
    have HX := Lib.hid (HN.out (fun h => by have := HI.out.1 h; omega))
    go_wp2_with fail
    go_ret
    exact ⟨ret_bool HX.out, HU.out⟩
  have d0 : decide (0 ≤ fr) = true := by simpa using q0
  by_cases q1 : fr ≤ 1152921504606846976
  case neg =>
    have d1 : decide (fr ≤ 1152921504606846976) = false := by simpa using q1
    have HX := Lib.hid (HN.out (fun h => by have := HI.out.1 h; omega))
    go_wp2_with fail
    go_ret
    exact ⟨ret_bool HX.out, HU.out⟩
  have d1 : decide (fr ≤ 1152921504606846976) = true := by simpa using q1
  by_cases q2 : 1 ≤ wd
  case neg =>
    have d2 : decide (1 ≤ wd) = false := by simpa using q2
    have HX := Lib.hid (HN.out (fun h => by have := HI.out.1 h; omega))
    go_wp2_with fail
    go_ret
    exact ⟨ret_bool HX.out, HU.out⟩
  have d2 : decide (1 ≤ wd) = true := by simpa using q2
  by_cases q3 : wd ≤ 144115188075855873
  case neg =>
    have d3 : decide (wd ≤ 144115188075855873) = false := by simpa using q3
    have HX := Lib.hid (HN.out (fun h => by have := HI.out.1 h; omega))
    go_wp2_with fail
    go_ret
    exact ⟨ret_bool HX.out, HU.out⟩
  have d3 : decide (wd ≤ 144115188075855873) = true := by simpa using q3
  by_cases q4 : 0 ≤ cu
  case neg =>
    have d4 : decide (0 ≤ cu) = false := by simpa using q4
    have HX := Lib.hid (HN.out (fun h => by have := HI.out.1 h; omega))
    go_wp2_with fail
    go_ret
    exact ⟨ret_bool HX.out, HU.out⟩
  have d4 : decide (0 ≤ cu) = true := by simpa using q4
  by_cases q5 : cu ≤ 8
  case neg =>
    have d5 : decide (cu ≤ 8) = false := by simpa using q5
    have HX := Lib.hid (HN.out (fun h => by have := HI.out.1 h; omega))
    go_wp2_with fail
    go_ret
    exact ⟨ret_bool HX.out, HU.out⟩
  have d5 : decide (cu ≤ 8) = true := by simpa using q5
  by_cases q6 : n = 8
  · have d6 : ((n : Int) == 8) = true := by simp; omega
    have HX := Lib.hid (HY.out (HI.out.2 (by omega)))
    go_wp2_with fail
    go_ret
    exact ⟨ret_bool HX.out, HU.out⟩
  · have d6 : ((n : Int) == 8) = false := by simp; omega
    have HX := Lib.hid (HN.out (fun h => by have := HI.out.1 h; omega))
    go_wp2_with fail
    go_ret
    exact ⟨ret_bool HX.out, HU.out⟩

def inB (fr wd i t : Int) : Bool := decide (fr + i * wd ≤ t) && decide (t < fr + (i + 1) * wd)
set_option maxRecDepth 100000 in
set_option maxHeartbeats 2000000 in
theorem inBucket_has (r : RgR) (i t : Int) (w : World) (hf : 0 ≤ r.fr ∧ r.fr ≤ 1152921504606846976) (hd : 1 ≤ r.wd ∧ r.wd ≤ 144115188075855873) (hi : 0 ≤ i ∧ i < 8) :
    Calls Try.prog 58 #[encR r, .int .i64 i, .int .i64 t] w fun e w' => e = .returned (.bool (inB r.fr r.wd i t)) ∧ Upd [] w w' := by
  have hp0 : 0 ≤ i * r.wd := Int.mul_nonneg hi.1 (by omega)
  have hp1 : i * r.wd ≤ 8 * r.wd := mul_mono (by omega) (by omega)
  have hp2 : (i + 1) * r.wd = i * r.wd + r.wd := by rw [Int.add_mul]; omega
  have E0 := Lib.hid (fun W => start_has r i W hf (by omega))
  have E1 := Lib.hid (fun W => start_has r (i + 1) W hf (by omega))
  have hw : IntKind.i64.wrap (i + 1) = i + 1 := by rw [IntKind.wrap_i64]; omega
  unfold inB
  obtain ⟨fr, wd, cu, bl, ba, bc⟩ := r
  unfold encR at E0 E1 ⊢
  simp only at E0 E1 ⊢
  clear hf hd hp0 hp1 hp2
  generalize bl.length = n at *
  generalize fr + i * wd = s0 at *
  generalize fr + (i + 1) * wd = s1 at *
  go_enter Try.func58, Try.ntmps58
  go_upto_region 1 with (fail)
  have hu := (Upd.refl [] w).alloc (.cells #[.int .i64 fr, .int .i64 wd, .int .i64 cu, .slice ba n bc] 43)
  have b0 := heap_alloc1 w (.cells #[.int .i64 fr, .int .i64 wd, .int .i64 cu, .slice ba n bc] 43)
  generalize w.alloc (.cells #[.int .i64 fr, .int .i64 wd, .int .i64 cu, .slice ba n bc] 43) = W at *
  generalize w.heap.size = H at *
  obtain ⟨c0, c1, c2, c3⟩ := cells4 b0
  have HU := Lib.hid hu; have HB0 := Lib.hid b0
  clear hu b0
  by_cases h0 : s0 ≤ t
  · have d0 : decide (s0 ≤ t) = true := by simpa using h0
    go_wp2_with fail
    (with_reducible refine (E0.out _).mono ?_)
    rintro e w1 ⟨rfl, hu1⟩
    obtain ⟨x0, x1, x2, x3⟩ := cells4 (hu1.at HB0.out (by simp))
    have HU1 := Lib.hid hu1
    clear c0 c1 c2 c3 hu1
    go_wp2_with fail
    (with_reducible refine (E1.out _).mono ?_)
    rintro e w2 ⟨rfl, hu2⟩
    go_wp2_with fail
    go_ret
    exact ⟨ret_bool (by simp [h0]), (HU.out.thn HU1.out).thn hu2⟩
  · have d0 : decide (s0 ≤ t) = false := by simpa using h0
    go_wp2_with fail
    (with_reducible refine (E0.out _).mono ?_)
    rintro e w1 ⟨rfl, hu1⟩
    go_wp2_with fail
    go_ret
    exact ⟨ret_bool (by simp; omega), HU.out.thn hu1⟩
end Go.Proofs.Ytneodiemgemhfaa
