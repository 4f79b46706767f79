/- Contract: the program's Valid, a range over a function. -/
import Derived.Test.YtneodiemgemhfaaGreatUR
namespace Go.Proofs.YtneodiemgemhfaaGreat
open Go.RowKit Go.Shelf

def okP (r : Rg) (p : Nat × It) : Prop := r.cu ≤ (p.1 : Int) ∧ inB r.fr r.wd p.1 p.2.t = true
theorem inB_iff (r : Rg) (i : Nat) (it : It) : inB r.fr r.wd i it.t = true ↔ InB r i it := by
  simp only [inB, InB, Bool.and_eq_true, decide_eq_true_eq]
theorem good_okP {r : Rg} (h : Shp r) : GoodR r ↔ ∀ p ∈ allP r.bs 8, okP r p := by
  rw [good_iff]
  constructor
  · rintro ⟨_, hb⟩ ⟨i, it⟩ hp
    obtain ⟨hi, hm⟩ := mem_allP.1 hp
    obtain ⟨h1, h2⟩ := hb i hi
    refine ⟨?_, (inB_iff r i it).2 (h2 it hm)⟩
    have : ¬ (i : Int) < r.cu := fun hc => by rw [h1 hc] at hm; simp at hm
    simp only; omega
  · intro hp
    refine ⟨h, fun i hi => ⟨fun hc => ?_, fun it hm => (inB_iff r i it).1 (hp (i, it) (mem_allP.2 ⟨hi, hm⟩)).2⟩⟩
    cases hb : bAt r.bs i with
    | nil => rfl
    | cons x xs =>
      have := (hp (i, x) (mem_allP.2 ⟨hi, by rw [hb]; simp⟩)).1
      simp only at this
      omega
def VI (w : World) (r : RgR) (A C H0 : Nat) (n : Nat) (pre : List (Px n)) (W : World) : Prop :=
  W.heap[A]? = some (.cells (cellsR r) 53 (0, 0)) ∧ W.heap[C]? = some (.cells #[.bool false] 4 (0, 0)) ∧ Upd [] w W ∧ H0 ≤ W.heap.size ∧ ∀ p ∈ pvs pre, okP r.rg p
theorem vi_own (w : World) (r : RgR) (A C H0 n : Nat) (hw : w.heap.size ≤ H0) : OwnFrom H0 (VI w r A C H0 n) := by
  intro pre A W' row ⟨h0, h1, h2, h3, h4⟩ hg hr
  exact ⟨own_at h0 hg hr, own_at h1 hg hr, own_upd h2 hw hg hr, Nat.le_trans h3 hg.size, h4⟩
def VX (w : World) (r : RgR) (C : Nat) (n : Nat) (c : Code) (pre : List (Px n)) (W : World) : Prop :=
  c = .ret ∧ W.heap[C]? = some (.cells #[.bool false] 4 (0, 0)) ∧ Upd [] w W ∧ ∃ p ∈ pvs pre, ¬ okP r.rg p
theorem vx_own (w : World) (r : RgR) (C H0 n : Nat) (hw : w.heap.size ≤ H0) (c : Code) : OwnFrom H0 (VX w r C n c) := by
  intro pre A W' row ⟨h0, h1, h2, h3⟩ hg hr
  exact ⟨h0, own_at h1 hg hr, own_upd h2 hw hg hr, h3⟩

set_option maxRecDepth 100000 in
set_option maxHeartbeats 4000000 in
theorem Valid_no (r : RgR) (w : World) (hl : r.bk.l.length ≤ 1000000) (hn : ¬ Shp r.rg) :
    Calls Tryz.prog 64 #[encR r] w fun e w' => e = .returned (.bool (validR r.rg)) ∧ Upd [] w w' := by
  have HS := Lib.hid (fun W => validShape_has r W hl)
  rw [shpB_no hn] at HS
  rw [← bad_shp hn]
  obtain ⟨fr, wd, cu, bl, ba, bc⟩ := r
  unfold encR at HS ⊢
  simp only at HS ⊢
  generalize bl.length = n at *
  clear hn
  go_enter Tryz.func64, Tryz.ntmps64
  go_upto_region 1 with (fail)
  generalize hA : (Obj.cells #[.int .i64 fr, .int .i64 wd, .int .i64 cu, .slice ba n bc] 53 : Obj) = A
  generalize hC : (Obj.cells #[.bool false] 4 : Obj) = C
  obtain ⟨hu, b0, b2, hsz⟩ := two_boxes w A C
  generalize (w.alloc A).alloc C = W at *
  generalize hH : w.heap.size = H at *
  rw [← hA] at b0
  rw [← hC] at b2
  have HU := Lib.hid hu; have HB2 := Lib.hid b2; have HH := Lib.hid hH
  obtain ⟨c0, c1, c2, c3⟩ := cells4 b0
  clear hu hA hC b0 b2 hH hsz
  go_wp2_with fail
  (with_reducible refine (HS.out _).mono ?_)
  rintro e w1 ⟨rfl, hu1⟩
  have q2 := hu1.at HB2.out (by simp)
  have HU1 := Lib.hid hu1; have HQ2 := Lib.hid q2
  have e0 : w1.cell? ⟨H + 1, 0, none⟩ = some (.bool false) := cell_block q2 0
  have z0 := free_block q2 0
  clear c0 c1 c2 c3 hu1 q2
  go_wp2_with fail
  have p2 : (w1.setCell ⟨H + 1, 0, none⟩ (.bool false)).heap[H + 1]? = some (.cells #[.bool false] 4 (0, 0)) := setCell_block HQ2.out _
  have hU5 := upd_set1 w1 (H + 1) 0 (.bool false)
  generalize w1.setCell ⟨H + 1, 0, none⟩ (.bool false) = w4 at p2 hU5 ⊢
  have r0 : w4.cell? ⟨H + 1, 0, none⟩ = some (.bool false) := cell_block p2 0
  have hh := HH.out
  exact bodyPost_ret (v := .bool false) (by simp [results, Tryz.results64, go_sem, r0]) rfl ⟨rfl, (HU.out.thn HU1.out).new hU5 (by omega)⟩

set_option maxRecDepth 100000 in
set_option maxHeartbeats 4000000 in
theorem Valid_yes (r : RgR) (w : World) (h : HasR w r) (hsh : Shp r.rg) (hm : ∀ s ∈ r.bk.l, s.l.length ≤ 1000000) :
    Calls Tryz.prog 64 #[encR r] w fun e w' => e = .returned (.bool (validR r.rg)) ∧ Upd [] w w' := by
  have hl8 : r.bk.l.length = 8 := ((shp_iff r).1 hsh).2.2.2.2.2.2
  have HS := Lib.hid (fun W => validShape_has r W (by omega))
  rw [shpB_yes hsh] at HS
  have HIN := Lib.hid (fun (i t : Int) W (hi : 0 ≤ i ∧ i < 8) => inBucket_has r i t W ⟨hsh.fr0, hsh.fr1⟩ ⟨hsh.wd0, hsh.wd1⟩ hi)
  have HIT := Lib.hid (fun W => items_has r W)
  have HST := Lib.hid (fun n hn Bp Kp => items_stops n hn Bp r (by omega) hm Kp)
  have HGY : Hid ((∀ p ∈ allP (rowsOf r.bk.l) r.bk.l.length, okP r.rg p) → true = validR r.rg) := fun hp => (validR_yes.2 ((good_okP hsh).2 (by rw [hl8] at hp; exact hp))).symm
  have HGN : Hid ((∃ p ∈ allP (rowsOf r.bk.l) r.bk.l.length, ¬ okP r.rg p) → false = validR r.rg) := fun ⟨p, hp, hn⟩ => (validR_no.2 (fun hg => hn ((good_okP hsh).1 hg p (by rw [hl8] at hp; exact hp)))).symm
  have HR := Lib.hid h
  have HL8 := Lib.hid hl8
  have HSH : Hid (0 ≤ r.cu ∧ r.cu ≤ 8) := ⟨hsh.cu0, hsh.cu1⟩
  generalize validR r.rg = vb at *
  obtain ⟨fr, wd, cu, bl, ba, bc⟩ := r
  simp only at HST HGY HGN HL8
  unfold encR at HS HIN HIT ⊢
  simp only [cellsR] at HIT
  simp only at HS HIN
  have HOK : Hid (∀ p : Nat × It, okP (⟨fr, wd, cu, ⟨bl, ba, bc⟩⟩ : RgR).rg p ↔ cu ≤ (p.1 : Int) ∧ inB fr wd p.1 p.2.t = true) := fun p => Iff.rfl
  clear h hsh hm hl8
  refine (callsIn_wide (n := 6)).1 ?_
  refine callsIn_of_wp_marks Tryz.func64 rfl trivial ?_ rfl
  simp only [Tryz.ntmps64, List.size_toArray, List.length_cons, List.length_nil, Nat.reduceAdd, Nat.reduceSub, Array.replicate_succ, Array.replicate_zero, List.push_toArray, List.append_toArray, List.nil_append, List.cons_append]
  refine wpIn_wide.2 ?_
  go_upto_region 1 with (fail)
  generalize hA : (Obj.cells #[.int .i64 fr, .int .i64 wd, .int .i64 cu, .slice ba bl.length bc] 53 : Obj) = A
  generalize hC : (Obj.cells #[.bool false] 4 : Obj) = C
  obtain ⟨hu, b0, b2, hsz⟩ := two_boxes w A C
  generalize (w.alloc A).alloc C = W at *
  generalize hH : w.heap.size = H at *
  rw [← hA] at b0
  rw [← hC] at b2
  have HU := Lib.hid hu; have HB0 := Lib.hid b0; have HB2 := Lib.hid b2; have HH := Lib.hid hH; have HSZ := Lib.hid hsz
  obtain ⟨c0, c1, c2, c3⟩ := cells4 b0
  clear hu hA hC b0 b2 hH hsz
  go_wp2_with fail
  (with_reducible refine (HS.out _).mono ?_)
  rintro e w1 ⟨rfl, hu1⟩
  have q0 := hu1.at HB0.out (by simp); have q2 := hu1.at HB2.out (by simp)
  have HU1 := Lib.hid hu1; have HQ0 := Lib.hid q0; have HQ2 := Lib.hid q2
  clear c0 c1 c2 c3 hu1 q2
  obtain ⟨c0, c1, c2, c3⟩ := cells4 q0
  clear q0
  go_wp2_with fail
  (with_reducible refine (HIT.out _).mono ?_)
  rintro e w2 ⟨rfl, rfl⟩
  go_wp2_with fail
  have hu2 := (Upd.refl [] w1).alloc (.cells #[.int .i64 fr, .int .i64 wd, .int .i64 cu, .slice ba bl.length bc] 53)
  have b2 := heap_alloc1 w1 (.cells #[.int .i64 fr, .int .i64 wd, .int .i64 cu, .slice ba bl.length bc] 53)
  have hsz2 : (w1.alloc (.cells #[.int .i64 fr, .int .i64 wd, .int .i64 cu, .slice ba bl.length bc] 53)).heap.size = w1.heap.size + 1 := by simp
  have q0 := hu2.at HQ0.out (by simp); have q2 := hu2.at HQ2.out (by simp)
  have hsz1 : H + 2 ≤ w1.heap.size := by have h1 := HU1.out.size; have h2 := HSZ.out; omega
  generalize w1.alloc (.cells #[.int .i64 fr, .int .i64 wd, .int .i64 cu, .slice ba bl.length bc] 53) = W0 at *
  generalize w1.heap.size = B at *
  have hUW : Upd [] w W0 := (HU.out.thn HU1.out).thn hu2
  have hib : InBox B ⟨fr, wd, cu, ⟨bl, ba, bc⟩⟩ W0 := ⟨b2, HR.out.stay hUW⟩
  have hhw := HH.out
  have HIB := Lib.hid hib; have HUW := Lib.hid hUW
  clear c0 c1 c2 c3 hu2 b2 hib
  have hge : B + 1 ≤ W0.heap.size := by omega
  have hle : W0.heap.size ≤ B + 1 := by omega
  clear hsz2
  refine (wpIn_wide (n := 6)).1 ?_
  refine wpIn_rangeFunc_ownH rfl (by omega) (gf := 101) (lb := #[.pointer (some ⟨B, 0, none⟩)]) rfl trivial (enters_of Tryz.func101 (by kernel_rfl) rfl)
    (HST.out _ (by omega) B (KpB B ⟨fr, wd, cu, ⟨bl, ba, bc⟩⟩) (fun A B h => h) W0 HIB.out)
    KpB.trans (fun W l o o' hl _ _ _ => KpB.put HIB.out.2 (by omega) hl o') (Below.refl _ _) (fun _ => rfl)
    (VI w ⟨fr, wd, cu, ⟨bl, ba, bc⟩⟩ H (H + 1) W0.heap.size bl.length) (VX w ⟨fr, wd, cu, ⟨bl, ba, bc⟩⟩ (H + 1) bl.length) (vi_own w _ H (H + 1) W0.heap.size bl.length HUW.out.size) (vx_own w _ (H + 1) W0.heap.size bl.length HUW.out.size) ⟨q0, q2, HUW.out, Nat.le_refl _, fun p hp => by simp [pvs] at hp⟩
    (fun x a' W => ∃ Q, a' = { tmps := #[.agg #[.int .i64 fr, .int .i64 wd, .int .i64 cu, .slice ba bl.length bc], .pointer (some ⟨H, 0, none⟩), .pointer (some ⟨H + 1, 0, none⟩), .int .i64 x.1.1, .pointer (some ⟨Q, 0, none⟩), .agg #[.int .i64 fr, .int .i64 wd, .int .i64 cu, .slice ba bl.length bc], .bool true, .bool false, .agg #[.int .i64 fr, .int .i64 wd, .int .i64 cu, .slice ba bl.length bc], .func (.func 101) #[] #[.pointer (some ⟨B, 0, none⟩)], .int .i64 x.1.1, aggI x.1.2, undef, undef, undef, undef, undef, undef, undef, undef, undef, undef, undef, undef], defers := [] } ∧ W.heap[Q]? = some (.cells #[.int .i64 x.1.2.t, .int .i64 x.1.2.q, .int .i64 x.1.2.s] 36 (0, 0))) ?ax ?assign ?body ?done ?stop
  case ax =>
    rintro x a' _ A W' row ⟨Q, e, hq⟩ hg hr
    exact ⟨Q, e, own_at hq hg hr⟩
  case assign =>
    rintro l pre x W K ⟨hi0, hi1, hi2, hi3, hi4⟩ hK
    have hsa := @Oper.semAt_some
    dsimp only [penc]
    have hz : (#[10, 11] : Array Tmp).zip #[.int .i64 (x.1.1 : Int), aggI x.1.2] = #[(10, .int .i64 (x.1.1 : Int)), (11, aggI x.1.2)] := by simp
    rw [hz]
    have hal := (Upd.refl [] W).alloc (.cells #[.int .i64 x.1.2.t, .int .i64 x.1.2.q, .int .i64 x.1.2.s] 36)
    have hkk := hK { tmps := #[.agg #[.int .i64 fr, .int .i64 wd, .int .i64 cu, .slice ba bl.length bc], .pointer (some ⟨H, 0, none⟩), .pointer (some ⟨H + 1, 0, none⟩), .int .i64 x.1.1, .pointer (some ⟨W.heap.size, 0, none⟩), .agg #[.int .i64 fr, .int .i64 wd, .int .i64 cu, .slice ba bl.length bc], .bool true, .bool false, .agg #[.int .i64 fr, .int .i64 wd, .int .i64 cu, .slice ba bl.length bc], .func (.func 101) #[] #[.pointer (some ⟨B, 0, none⟩)], .int .i64 x.1.1, aggI x.1.2, undef, undef, undef, undef, undef, undef, undef, undef, undef, undef, undef, undef], defers := [] } (W.alloc (.cells #[.int .i64 x.1.2.t, .int .i64 x.1.2.q, .int .i64 x.1.2.s] 36)) (hal.keepsFrom (by simp)) (fun h => h.stay hal) ⟨hal.at hi0 (by simp), hal.at hi1 (by simp), hi2.thn hal, Nat.le_trans hi3 hal.size, hi4⟩ ⟨W.heap.size, rfl, heap_alloc1 _ _⟩
    have HKK := Lib.hid hkk
    clear hkk hK hal hi0 hi1 hi2 hi3 hi4
    unfold aggI
    unfold aggI at HKK
    gi_wp2
    exact HKK.out
  case body =>
    rintro ll pre x a' W hll hlo ⟨hi0, hi1, hi2, hi3, hi4⟩ ⟨Q, rfl, hq⟩ hpl
    have hsa := @Oper.semAt_some
    have hx8 : x.1.1 < 8 := by have h1 := x.2; have h2 := HL8.out; omega
    obtain ⟨c0, c1, c2, c3⟩ := cells4 (show W.heap[H]? = some (.cells #[.int .i64 fr, .int .i64 wd, .int .i64 cu, .slice ba bl.length bc] 53 (0, 0)) from hi0)
    obtain ⟨d0, d1, d2⟩ := cells3 hq
    have HI0 := Lib.hid hi0; have HI1 := Lib.hid hi1; have HI2 := Lib.hid hi2; have HI3 := Lib.hid hi3; have HI4 := Lib.hid hi4
    have HOKX := Lib.hid (HOK.out x.1)
    have hin := HIN.out x.1.1 x.1.2.t W (by omega)
    have HSN : Hid (∀ p, p ∈ pvs (pre ++ [x]) ↔ p ∈ pvs pre ∨ p = x.1) := fun p => by rw [pvs_snoc]; simp
    generalize hxi : x.1.1 = xi at *
    generalize x.1.2.t = xt at *
    clear hi0 hi1 hi2 hi3 hi4 hq hlo hpl hxi
    by_cases hlt : (xi : Int) < cu
    · have g0 : decide ((xi : Int) < cu) = true := by simpa using hlt
      have e0 : W.cell? ⟨H + 1, 0, none⟩ = some (.bool false) := cell_block HI1.out 0
      have z0 := free_block HI1.out 0
      have HBAD : Hid (¬ okP (⟨fr, wd, cu, ⟨bl, ba, bc⟩⟩ : RgR).rg x.1) := fun h => by have := (HOKX.out.1 h).1; omega
      clear hlt hin
      gi_wp2
      refine ⟨trivial, ?_⟩
      gi_wp2
      have hU := upd_set1 W (H + 1) 0 (.bool false)
      refine ⟨hU.keepsFrom (by simp; omega), rfl, ?_, HI2.out.new hU (by omega), x.1, (HSN.out _).2 (.inr rfl), HBAD.out⟩
      rw [setCell_block HI1.out]; rfl
    · have g0 : decide ((xi : Int) < cu) = false := by simpa using hlt
      have HIND := Lib.hid hin
      clear hin
      gi_wp2
      refine ⟨trivial, ?_⟩
      refine CallsIn.inRound ll (callsIn_wide.2 (HIND.out.mono ?_))
      rintro e W1 ⟨rfl, hu1⟩
      have q1 := hu1.at HI1.out (by simp)
      have q0 := hu1.at HI0.out (by simp)
      have e0 : W1.cell? ⟨H + 1, 0, none⟩ = some (.bool false) := cell_block q1 0
      have z0 := free_block q1 0
      have HQ1 := Lib.hid q1; have HQ0' := Lib.hid q0; have HU1' := Lib.hid hu1
      have HCU := Lib.hid hlt
      clear q1 q0 hu1 c0 c1 c2 c3 d0 d1 d2 hlt
      generalize hib : inB fr wd (xi : Int) xt = ib at *
      clear hib
      cases ib with
      | true =>
        gi_wp2
        have hok : okP (⟨fr, wd, cu, ⟨bl, ba, bc⟩⟩ : RgR).rg x.1 := HOKX.out.2 ⟨by have := HCU.out; omega, by first | rfl | trivial⟩
        refine ⟨HU1'.out.keepsFrom (by simp), fun h => h.stay HU1'.out, HQ0'.out, HQ1.out, HI2.out.thn HU1'.out, Nat.le_trans HI3.out HU1'.out.size, fun p hp => ?_⟩
        rcases (HSN.out p).1 hp with h | h
        · exact HI4.out p h
        · rw [h]; exact hok
      | false =>
        gi_wp2
        have hU := upd_set1 W1 (H + 1) 0 (.bool false)
        refine ⟨(HU1'.out.mono (by simp)).trans hU (fun _ h _ => h) |>.keepsFrom (by simp; omega), rfl, ?_, (HI2.out.thn HU1'.out).new hU (by omega), x.1, (HSN.out _).2 (.inr rfl), fun h => ?_⟩
        · rw [setCell_block HQ1.out]; rfl
        · exact absurd (HOKX.out.1 h).2 (by simp)
  case done =>
    rintro D ys W hD hS ⟨hi0, hi1, hi2, hi3, hi4⟩ hK
    have hv := HGY.out (fun p hp => hi4 p (by rw [hS]; exact hp))
    have e0 : W.cell? ⟨H + 1, 0, none⟩ = some (.bool false) := cell_block hi1 0
    have z0 := free_block hi1 0
    have HI1 := Lib.hid hi1; have HI2 := Lib.hid hi2; have HK := Lib.hid hK; have HV := Lib.hid hv
    clear hi0 hi1 hi2 hi3 hi4 hK hS hv
    go_wp2_with fail
    have hK' := (KeepsOthers.setCell W ⟨H + 1, 0, none⟩ (.bool true)).same D _ HK.out rfl
    refine ⟨by simp, .inl ⟨_, _, rfl, run_takeDeferred hK', ?_⟩⟩
    have hb6 : (W.setCell ⟨H + 1, 0, none⟩ (.bool true)).heap[H + 1]? = some (.cells #[.bool true] 4 (0, 0)) := by rw [setCell_block HI1.out]; rfl
    have hb7 := own_at (H := 0) hb6 (grownBy_putObj' _ D (.deferred none)) (fun r e => by cases e; exact ⟨Nat.zero_le _, _, hK', rfl⟩)
    have hc6 : ((W.setCell ⟨H + 1, 0, none⟩ (.bool true)).putObj D (.deferred none)).cell? ⟨H + 1, 0, none⟩ = some (.bool true) := cell_block hb7 0
    refine ⟨.bool true, ?_, by rw [← HV.out], (HI2.out.new (upd_set1 W (H + 1) 0 (.bool true)) (by omega)).putObj (by omega) _⟩
    simp [results, Tryz.f64, go_sem, hc6]
  case stop =>
    rintro D c pre W hD ⟨rest, hw⟩ ⟨rfl, hi1, hi2, p, hp, hno⟩ hK
    have hv := HGN.out ⟨p, by rw [← hw]; exact List.mem_append_left _ hp, hno⟩
    have HI1 := Lib.hid hi1; have HI2 := Lib.hid hi2; have HK := Lib.hid hK; have HV := Lib.hid hv
    clear hi1 hi2 hK hv hw hp hno
    gi_wp2
    refine ⟨by simp, .inl ⟨_, _, rfl, run_takeDeferred HK.out, ?_⟩⟩
    have hb7 := own_at (H := 0) HI1.out (grownBy_putObj' _ D (.deferred none)) (fun r e => by cases e; exact ⟨Nat.zero_le _, _, HK.out, rfl⟩)
    have hc6 : (W.putObj D (.deferred none)).cell? ⟨H + 1, 0, none⟩ = some (.bool false) := cell_block hb7 0
    refine ⟨.bool false, ?_, by rw [← HV.out], HI2.out.putObj (by omega) _⟩
    simp [results, Tryz.f64, go_sem, hc6]

theorem Valid_has (r : RgR) (w : World) (h : HasR w r) (hl : r.bk.l.length ≤ 1000000) (hm : ∀ s ∈ r.bk.l, s.l.length ≤ 1000000) :
    Calls Tryz.prog 64 #[encR r] w fun e w' => e = .returned (.bool (validR r.rg)) ∧ Upd [] w w' := by
  by_cases hs : Shp r.rg
  · exact Valid_yes r w h hs hm
  · exact Valid_no r w hl hs
end Go.Proofs.YtneodiemgemhfaaGreat
