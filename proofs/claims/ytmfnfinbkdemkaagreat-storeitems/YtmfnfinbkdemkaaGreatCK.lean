
/- Contract: the reference's Valid. -/
import Derived.Test.YtmfnfinbkdemkaaGreatCJ
namespace Go.Proofs.YtmfnfinbkdemkaaGreat.A5
open Go.RowKit Go.Lib Go.Sort

theorem grown3 {w : World} {b : Nat} {x y z : Value} {t : TypeId} {f : Nat × Nat} (h : w.heap[b]? = some (.cells #[x, y, z] t f)) : (∀ n os, (grow (w.drewN n) os).cell? ⟨b, 0, none⟩ = some x) ∧ (∀ n os, (grow (w.drewN n) os).cell? ⟨b, 1, none⟩ = some y) ∧ (∀ n os, (grow (w.drewN n) os).cell? ⟨b, 2, none⟩ = some z) :=
  ⟨fun n os => cell_grown (lt_block h) (cell_block h 0) n os, fun n os => cell_grown (lt_block h) (cell_block h 1) n os, fun n os => cell_grown (lt_block h) (cell_block h 2) n os⟩
theorem grown4 {w : World} {b : Nat} {x y z p : Value} {t : TypeId} {f : Nat × Nat} (h : w.heap[b]? = some (.cells #[x, y, z, p] t f)) : (∀ n os, (grow (w.drewN n) os).cell? ⟨b, 0, none⟩ = some x) ∧ (∀ n os, (grow (w.drewN n) os).cell? ⟨b, 1, none⟩ = some y) ∧ (∀ n os, (grow (w.drewN n) os).cell? ⟨b, 2, none⟩ = some z) ∧ (∀ n os, (grow (w.drewN n) os).cell? ⟨b, 3, none⟩ = some p) :=
  ⟨fun n os => cell_grown (lt_block h) (cell_block h 0) n os, fun n os => cell_grown (lt_block h) (cell_block h 1) n os, fun n os => cell_grown (lt_block h) (cell_block h 2) n os, fun n os => cell_grown (lt_block h) (cell_block h 3) n os⟩
theorem grow_upd (w : World) (n : Nat) (os : Array Obj) : Upd [] w (grow (w.drewN n) os) := Grown.upd ⟨n, os, rfl⟩

set_option maxHeartbeats 4000000 in
theorem Valid_has (r : ArR) (w : World) (ha : HasA w r) (hb1 : r.ar.sl.length ≤ 1000000) (hb2 : r.ar.id.length ≤ 1000000) :
    Calls Tryz.prog 17 #[encA r] w fun e w' => e = .returned (.bool (validA r.ar)) ∧ Upd [] w w' := by
  have mixed : Tryz.prog.follows .mixedOrders = true := by kernel_rfl
  have hlive := fun W (hu : Upd [] w W) => Live_has r W (ha.stay hu) hb1
  obtain ⟨a, sa, sc, ia, ic⟩ := r
  have HA := Lib.hid ha
  rw [show encA ⟨a, sa, sc, ia, ic⟩ = .agg #[.slice sa a.sl.length sc, .slice ia a.id.length ic, .int .i64 a.nx] from rfl] at hlive ⊢
  simp only at hlive hb1 hb2 ⊢
  have hcont := fun W (hu : Upd [] w W) (x : Int) => contains_any ia ic a.id x W (ha.stay hu).id hb2
  obtain ⟨res, hres⟩ : ∃ b, b = validA a := ⟨_, rfl⟩
  rw [← hres]
  have HRES := Lib.hid hres
  obtain ⟨lv, hlv⟩ : ∃ v, v = liveL a.sl := ⟨_, rfl⟩
  rw [← hlv] at hlive
  have hlvn : lv ≤ a.sl.length := by rw [hlv]; exact liveTo_le _ _
  have HLV := Lib.hid hlv
  have HLI := Lib.hid hlive
  have HCO := Lib.hid hcont
  have HLEN : Hid (HeadOk a ↔ 1 ≤ a.sl.length ∧ a.sl.length ≤ 64 ∧ 0 ≤ a.nx ∧ a.nx ≤ 1099511627776 ∧ a.id.length + lv = a.sl.length) := by show _ ↔ _; rw [HeadOk, hlv]
  clear ha hlive hcont hres hlv
  generalize hn : a.sl.length = n at HLI HLEN hb1 hlvn ⊢
  generalize hm : a.id.length = m at HLI HCO HLEN hb2 ⊢
  generalize hnx : a.nx = nx at HLI HLEN ⊢
  have HN := Lib.hid hn; have HM := Lib.hid hm; have HNX := Lib.hid hnx
  clear hn hm hnx
  have hws : IntKind.i64.wrap ((n : Int) - (lv : Int)) = (n : Int) - (lv : Int) := by rw [IntKind.wrap_i64]; omega
  have HNO : Hid (¬ HeadOk a → res = false) := fun h => by rw [HRES.out, validA_no]; exact fun k => h k.1
  go_enter Tryz.func17, Tryz.ntmps17
  go_upto_region 1 with (fail)
  generalize hA : (Obj.cells #[.slice sa n sc, .slice ia m ic, .int .i64 nx] 45 : Obj) = A
  have hu : Upd [] w (w.alloc A) := (Upd.refl [] w).alloc _
  have b0 := box_at w hA
  generalize w.alloc A = W at *
  generalize w.heap.size = H at *
  have HU := Lib.hid hu; have HB0 := Lib.hid b0
  obtain ⟨c0, c1, c2⟩ := grown3 b0
  clear hu hA b0
  have HLC : Hid (∀ k os, Calls Tryz.prog 18 #[.agg #[.slice sa n sc, .slice ia m ic, .int .i64 nx]] (grow (W.drewN k) os) fun e w' => e = .returned (.int .i64 (lv : Nat)) ∧ Grown (grow (W.drewN k) os) w') := fun k os => HLI.out _ (HU.out.trans (grow_upd W k os) (by simp))
  by_cases h1 : n < 1
  · have hd1 : decide ((n : Int) < 1) = true := by simp; omega
    refine wp_region_quiet_grown mixed (by kernel_rfl) ?_
    repeat (go_big_quiet_step (fail))
    refine wpQuiet_nil ?_
    intro _ hw'
    obtain ⟨⟨nq, osq⟩, hw''⟩ := hw'
    subst hw''
    go_wp2_with fail
    go_ret
    exact ⟨ret_bool (HNO.out (fun k => by have := HLEN.out.1 k; omega)).symm, HU.out.trans (grow_upd W nq osq) (by simp)⟩
  have hd1 : decide ((n : Int) < 1) = false := by simp; omega
  by_cases h2 : 64 < n
  · have hd2 : decide (64 < (n : Int)) = true := by simp; omega
    refine wp_region_quiet_grown mixed (by kernel_rfl) ?_
    repeat (go_big_quiet_step (fail))
    refine wpQuiet_nil ?_
    intro _ hw'
    obtain ⟨⟨nq, osq⟩, hw''⟩ := hw'
    subst hw''
    go_wp2_with fail
    go_ret
    exact ⟨ret_bool (HNO.out (fun k => by have := HLEN.out.1 k; omega)).symm, HU.out.trans (grow_upd W nq osq) (by simp)⟩
  have hd2 : decide (64 < (n : Int)) = false := by simp; omega
  by_cases h3 : nx < 0
  · have hd3 : decide (nx < 0) = true := by simpa using h3
    refine wp_region_quiet_grown mixed (by kernel_rfl) ?_
    repeat (go_big_quiet_step (fail))
    refine wpQuiet_nil ?_
    intro _ hw'
    obtain ⟨⟨nq, osq⟩, hw''⟩ := hw'
    subst hw''
    go_wp2_with fail
    go_ret
    exact ⟨ret_bool (HNO.out (fun k => by have := HLEN.out.1 k; omega)).symm, HU.out.trans (grow_upd W nq osq) (by simp)⟩
  have hd3 : decide (nx < 0) = false := by simpa using h3
  by_cases h4 : 1099511627776 < nx
  · have hd4 : decide (1099511627776 < nx) = true := by simpa using h4
    refine wp_region_quiet_grown mixed (by kernel_rfl) ?_
    repeat (go_big_quiet_step (fail))
    refine wpQuiet_nil ?_
    intro _ hw'
    obtain ⟨⟨nq, osq⟩, hw''⟩ := hw'
    subst hw''
    go_wp2_with fail
    go_ret
    exact ⟨ret_bool (HNO.out (fun k => by have := HLEN.out.1 k; omega)).symm, HU.out.trans (grow_upd W nq osq) (by simp)⟩
  have hd4 : decide (1099511627776 < nx) = false := by simpa using h4
  by_cases h5 : m + lv = n
  · have hd5 : ((m : Int) != (n : Int) - (lv : Int)) = false := by simp; omega
    have HHD : Hid (HeadOk a) := HLEN.out.2 ⟨by omega, by omega, by omega, by omega, h5⟩
    refine wp_region_quiet_grown mixed (by kernel_rfl) ?_
    repeat (go_big_quiet_step ((go_at_call 18; exact Calls.grown_of (HLC.out _ _))))
    refine wpQuiet_nil ?_
    intro _ hw'
    obtain ⟨⟨nq, osq⟩, hw''⟩ := hw'
    subst hw''
    have HU1 : Hid (Upd [] W (grow (W.drewN nq) osq)) := grow_upd W nq osq
    generalize hW1 : grow (W.drewN { n := nq, os := osq : GrownBy }.n) { n := nq, os := osq : GrownBy }.os = W1
    have HU1 : Hid (Upd [] W W1) := by show Upd [] W W1; rw [← hW1]; exact grow_upd W nq osq
    clear hW1 c0 c1 c2
    go_wp2_with fail
    go_loopg [3] n (fun gk vi wr => ∃ k : Nat, vi = .int .i64 k ∧ k + gk = n ∧ Hid (∀ j, j < k → RowOk a j) ∧ Hid (Upd [] W wr))
    case atStart => exact ⟨0, rfl, by omega, fun j hj => by omega, HU1⟩
    case round =>
      obtain ⟨k, rfl, hkg, HK, HUR⟩ := hrel
      have HBR := Lib.hid (HUR.out.at HB0.out (by simp))
      obtain ⟨c0, c1, c2⟩ := cells3 HBR.out
      by_cases hlt : k < n
      · have hltz : (k : Int) < (n : Int) := by omega
        have hk1 : k < a.sl.length := by have := HN.out; omega
        obtain ⟨bb, oo, hsa, k0, k1, k2, k3⟩ := (HA.out.stay (HU.out.trans HUR.out (by simp))).sl k hk1
        simp only at hsa k0 k1 k2 k3
        subst hsa
        have HY := Lib.hid (slAt_get hk1)
        have HBAD : Hid (¬ RowOk a k → res = false) := fun h => by rw [HRES.out, validA_no]; exact fun q => h (q.2 k hk1)
        generalize a.sl[k] = y at *
        go_upto_region 7 with (fail)
        generalize hS : (Obj.cells #[.int .i64 y.g, .int .i64 y.s, .int .i64 y.t, .int .i64 y.q] 52 : Obj) = S
        have bq := box_at wr hS
        have hu2 : Upd [] wr (wr.alloc S) := (Upd.refl [] wr).alloc _
        have b0 := hu2.at HBR.out (by simp)
        generalize wr.alloc S = W2 at bq hu2 b0 ⊢
        generalize wr.heap.size = Q at bq ⊢
        have HBQ := Lib.hid bq; have HB02 := Lib.hid b0
        have HUZ : Hid (Upd [] w W2) := (HU.out.trans HUR.out (by simp)).trans hu2 (by simp)
        have HU2 : Hid (Upd [] W W2) := HUR.out.trans hu2 (by simp)
        clear k0 k1 k2 k3 c0 c1 c2 hS
        obtain ⟨c0, c1, c2⟩ := grown3 b0
        obtain ⟨y0, y1, y2, y3⟩ := grown4 bq
        clear bq b0 hu2
        have HSC : Hid (∀ j os, Calls Tryz.prog 50 #[.agg #[.int .i64 y.g, .int .i64 y.s, .int .i64 y.t, .int .i64 y.q], .int .i64 nx] (grow (W2.drewN j) os) fun e w' => e = .returned (.bool (slotA y nx)) ∧ Grown (grow (W2.drewN j) os) w') := fun j os => slot_any y.g y.s y.t y.q nx _
        obtain ⟨ct, hct⟩ : ∃ ct, ct = decide ((k : Int) ∈ a.id) := ⟨_, rfl⟩
        have HCT := Lib.hid hct
        have HCC : Hid (∀ j os, Calls Tryz.prog 51 #[.slice ia m ic, .int .i64 (k : Nat)] (grow (W2.drewN j) os) fun e w' => e = .returned (.bool ct) ∧ Grown (grow (W2.drewN j) os) w') := fun j os => (HCO.out _ (HUZ.out.trans (grow_upd W2 j os) (by simp)) (k : Int)).mono (fun e w' h => ⟨by rw [h.1, hct], by rw [← h.2]; exact Grown.refl _⟩)
        clear hct
        by_cases hso : SlotOk y nx
        · have HSO := Lib.hid hso
          have hsl : slotA y nx = true := slotA_yes hso
          rw [hsl] at HSC
          clear hso hsl
          by_cases hq : ct = (y.s == 0)
          · have HQ : Hid ((slAt a.sl k).s = 0 ↔ (k : Int) ∈ a.id) := by
              show _ ↔ _
              rw [HY.out]
              have h1 := HCT.out
              rw [hq] at h1
              have h2 : (y.s == 0) = true ↔ decide ((k : Int) ∈ a.id) = true := by rw [h1]
              simpa using h2
            subst hq
            clear HCT
            refine wp_region_quiet_grown mixed (by kernel_rfl) ?_
            repeat (go_big_quiet_step (first | (go_at_call 50; exact Calls.grown_of (HSC.out _ _)) | (go_at_call 51; exact Calls.grown_of (HCC.out _ _))))
            refine wpQuiet_nil ?_
            intro _ hw'
            obtain ⟨p, hw''⟩ := hw'
            subst hw''
            have HU3 : Hid (Upd [] W (grow (W2.drewN p.n) p.os)) := HU2.out.trans (grow_upd W2 p.n p.os) (by simp)
            have hq3 := (grow_upd W2 p.n p.os).at HBQ.out (by simp)
            have hb3 := (grow_upd W2 p.n p.os).at HB02.out (by simp)
            have hu23 := grow_upd W2 p.n p.os
            generalize grow (W2.drewN p.n) p.os = W3 at HU3 hq3 hb3 hu23 ⊢
            have HQ3 := Lib.hid hq3; have HB3 := Lib.hid hb3; have HU23 := Lib.hid hu23
            clear hq3 hb3 hu23 c0 c1 c2 y0 y1 y2 y3 HSC HCC
            go_wp2_with fail
            go_loopg [5] k (fun gj vi wx => ∃ d : Nat, vi = .int .i64 d ∧ d + gj = k ∧ Hid (∀ j, j < d → ¬ ((slAt a.sl k).s ≠ 0 ∧ (slAt a.sl j).s ≠ 0 ∧ (slAt a.sl k).q = (slAt a.sl j).q)) ∧ Hid (Upd [] W3 wx))
            case atStart => exact ⟨0, rfl, by omega, fun j hj => by omega, Lib.hid (Upd.refl _ _)⟩
            case round =>
            obtain ⟨d, rfl, hdg, HD, HU3X⟩ := hrel
            have HUX : Hid (Upd [] W3 wr) := HU3X
            have bH := HUX.out.at HB3.out (by simp)
            have bQ := HUX.out.at HQ3.out (by simp)
            obtain ⟨c0, _, _⟩ := cells3 bH
            obtain ⟨_, y1, _, y3⟩ := cells4 bQ
            clear bH bQ
            by_cases hdk : d < k
            · have hdz : (d : Int) < (k : Int) := by omega
              have hdn : (d : Int) < (n : Int) := by omega
              have hd1 : d < a.sl.length := by have := HN.out; omega
              obtain ⟨bb2, oo2, hsa, k0, k1, k2, k3⟩ := (HA.out.stay ((HU.out.trans HU3.out (by simp)).trans HUX.out (by simp))).sl d hd1
              simp only at hsa k0 k1 k2 k3
              obtain ⟨rfl, rfl⟩ : bb = bb2 ∧ oo = oo2 := by simpa using hsa
              have HZ := Lib.hid (slAt_get hd1)
              generalize a.sl[d] = z at *
              clear hsa k0 k2
              by_cases hs : y.s = 0
              · have hsb : (y.s != 0) = false := by simpa using hs
                have HS0 := Lib.hid hs
                clear hs
                go_wp2_with fail
                go_quiet (fail)
                have HU4 : Hid (Upd [] W3 (wr.drewN nq)) := HUX.out.drewN nq
                generalize wr.drewN nq = w4 at HU4 ⊢
                go_wp2_with fail
                go_roundg (k - (d + 1))
                case measure => omega
                case rel => exact ⟨d + 1, by go_num, by omega, fun j hj => (by
                  by_cases hjd : j = d
                  · subst hjd; rw [HY.out]; exact fun q => q.1 HS0.out
                  · exact HD.out j (by omega)), HU4⟩
              · have hsb : (y.s != 0) = true := by simpa using hs
                have HS0 := Lib.hid hs
                clear hs
                by_cases hz : z.s = 0
                · have hzb : (z.s != 0) = false := by simpa using hz
                  have HZ0 := Lib.hid hz
                  clear hz
                  go_wp2_with fail
                  go_quiet (fail)
                  have HU4 : Hid (Upd [] W3 (wr.drewN nq)) := HUX.out.drewN nq
                  generalize wr.drewN nq = w4 at HU4 ⊢
                  go_wp2_with fail
                  go_roundg (k - (d + 1))
                  case measure => omega
                  case rel => exact ⟨d + 1, by go_num, by omega, fun j hj => (by
                    by_cases hjd : j = d
                    · subst hjd; rw [HZ.out]; exact fun q => q.2.1 HZ0.out
                    · exact HD.out j (by omega)), HU4⟩
                · have hzb : (z.s != 0) = true := by simpa using hz
                  have HZ0 := Lib.hid hz
                  clear hz
                  by_cases he : y.q = z.q
                  · have heb : (y.q == z.q) = true := by simpa using he
                    have HE := Lib.hid he
                    clear he
                    go_wp2_with fail
                    go_quiet (fail)
                    go_wp2_with fail
                    go_ret
                    exact ⟨ret_bool (HBAD.out (fun q => q.2.2 d hdk (by rw [HY.out, HZ.out]; exact ⟨HS0.out, HZ0.out, HE.out⟩))).symm, (HU.out.trans HU3.out (by simp)).trans (HUX.out.drewN nq) (by simp)⟩
                  · have heb : (y.q == z.q) = false := by simpa using he
                    have HE := Lib.hid he
                    clear he
                    go_wp2_with fail
                    go_quiet (fail)
                    have HU4 : Hid (Upd [] W3 (wr.drewN nq)) := HUX.out.drewN nq
                    generalize wr.drewN nq = w4 at HU4 ⊢
                    go_wp2_with fail
                    go_roundg (k - (d + 1))
                    case measure => omega
                    case rel => exact ⟨d + 1, by go_num, by omega, fun j hj => (by
                      by_cases hjd : j = d
                      · subst hjd; rw [HY.out, HZ.out]; exact fun q => HE.out q.2.2
                      · exact HD.out j (by omega)), HU4⟩
            · have hdz : ¬ (d : Int) < (k : Int) := by omega
              obtain rfl : k = d := by omega
              go_wp2_with fail
              go_roundg (n - (k + 1))
              case measure => omega
              case rel => exact ⟨k + 1, by go_num, by omega, fun j hj => (by
                by_cases hjk : j = k
                · subst hjk; exact ⟨by rw [HY.out, HNX.out]; exact HSO.out, HQ.out, HD.out⟩
                · exact HK.out j (by omega)), HU3.out.trans HUX.out (by simp)⟩
          · by_cases hs : y.s = 0
            · have hsb : (y.s == 0) = true := by simpa using hs
              have hcf : ct = false := by rw [hsb] at hq; simpa using hq
              have HS0 := Lib.hid hs
              subst hcf
              clear hq hs
              refine wp_region_quiet_grown mixed (by kernel_rfl) ?_
              repeat (go_big_quiet_step (first | (go_at_call 50; exact Calls.grown_of (HSC.out _ _)) | (go_at_call 51; exact Calls.grown_of (HCC.out _ _))))
              refine wpQuiet_nil ?_
              intro _ hw'
              obtain ⟨⟨nq, osq⟩, hw''⟩ := hw'
              subst hw''
              go_wp2_with fail
              go_ret
              exact ⟨ret_bool (HBAD.out (fun q => by have h1 := q.2.1.1 (by rw [HY.out]; exact HS0.out); have h2 := HCT.out; simp [h1] at h2)).symm, HUZ.out.trans (grow_upd W2 nq osq) (by simp)⟩
            · have hsb : (y.s == 0) = false := by simpa using hs
              have hcf : ct = true := by rw [hsb] at hq; simpa using hq
              have HS0 := Lib.hid hs
              subst hcf
              clear hq hs
              refine wp_region_quiet_grown mixed (by kernel_rfl) ?_
              repeat (go_big_quiet_step (first | (go_at_call 50; exact Calls.grown_of (HSC.out _ _)) | (go_at_call 51; exact Calls.grown_of (HCC.out _ _))))
              refine wpQuiet_nil ?_
              intro _ hw'
              obtain ⟨⟨nq, osq⟩, hw''⟩ := hw'
              subst hw''
              go_wp2_with fail
              go_ret
              exact ⟨ret_bool (HBAD.out (fun q => by have h2 := HCT.out; have h1 := q.2.1.2 (by simpa using h2.symm); rw [HY.out] at h1; exact HS0.out h1)).symm, HUZ.out.trans (grow_upd W2 nq osq) (by simp)⟩
        · have HSO := Lib.hid hso
          have hsl : slotA y nx = false := slotA_no hso
          rw [hsl] at HSC
          clear hso hsl
          refine wp_region_quiet_grown mixed (by kernel_rfl) ?_
          repeat (go_big_quiet_step (first | (go_at_call 50; exact Calls.grown_of (HSC.out _ _)) | (go_at_call 51; exact Calls.grown_of (HCC.out _ _))))
          refine wpQuiet_nil ?_
          intro _ hw'
          obtain ⟨⟨nq, osq⟩, hw''⟩ := hw'
          subst hw''
          go_wp2_with fail
          go_ret
          exact ⟨ret_bool (HBAD.out (fun q => by have h1 := q.1; rw [HY.out, HNX.out] at h1; exact HSO.out h1)).symm, HUZ.out.trans (grow_upd W2 nq osq) (by simp)⟩
      · have hltz : ¬ (k : Int) < (n : Int) := by omega
        go_wp2_with fail
        go_ret
        exact ⟨ret_bool (by rw [HRES.out]; exact (validA_yes.2 ⟨HHD.out, fun i hi => HK.out i (by have := HN.out; omega)⟩).symm), HU.out.trans HUR.out (by simp)⟩
  · have hd5 : ((m : Int) != (n : Int) - (lv : Int)) = true := by simp; omega
    refine wp_region_quiet_grown mixed (by kernel_rfl) ?_
    repeat (go_big_quiet_step ((go_at_call 18; exact Calls.grown_of (HLC.out _ _))))
    refine wpQuiet_nil ?_
    intro _ hw'
    obtain ⟨⟨nq, osq⟩, hw''⟩ := hw'
    subst hw''
    go_wp2_with fail
    go_ret
    exact ⟨ret_bool (HNO.out (fun k => by have := HLEN.out.1 k; omega)).symm, HU.out.trans (grow_upd W nq osq) (by simp)⟩
end Go.Proofs.YtmfnfinbkdemkaaGreat.A5
