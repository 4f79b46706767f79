/- Contracts: the program's validIdle and Valid. -/
import Derived.Test.YthpofcomlidoiaaDE
namespace Go.Proofs.Ythpofcomlidoiaa
open Go.RowKit Go.Lib

def IdxOk (l : List Sl) (x : Int) : Prop := 0 ≤ x ∧ x < (l.length : Int) ∧ (slAt l x.toNat).s = 0
def VIdle (a : Ar) : Prop := (∀ x ∈ a.id, IdxOk a.sl x) ∧ a.id.length + liveL a.sl = a.sl.length ∧ a.id.Nodup
open Classical in
noncomputable def viB (a : Ar) : Bool := decide (VIdle a)
theorem viB_yes {a : Ar} : viB a = true ↔ VIdle a := by simp [viB]
theorem viB_no {a : Ar} : viB a = false ↔ ¬ VIdle a := by simp [viB]

set_option maxHeartbeats 4000000 in
theorem validIdle_has (r : ArR) (w : World) (h : HasA w r) (hl : r.ar.sl.length ≤ 1000) (hi : r.ar.id.length ≤ 1000) :
    Calls Try.prog 30 #[encA r] w fun e w' => e = .returned (.bool (viB r.ar)) ∧ Upd [] w w' := by
  have mixed : Try.prog.follows .mixedOrders = true := by kernel_rfl
  have HLI := Lib.hid (fun W (hu : Upd [] w W) => PLive_has r W (h.stay hu) (by omega))
  obtain ⟨a, sa, sc, ia, ic⟩ := r
  have HA := Lib.hid h
  rw [show encA ⟨a, sa, sc, ia, ic⟩ = .agg #[.slice sa a.sl.length sc, .slice ia a.id.length ic, .int .i64 a.nx] from rfl] at HLI ⊢
  simp only at hl hi HLI ⊢
  clear h
  obtain ⟨v, hv⟩ : ∃ v, v = viB a := ⟨_, rfl⟩
  rw [← hv]
  have HV := Lib.hid hv
  obtain ⟨lv, hlv⟩ : ∃ v, v = liveL a.sl := ⟨_, rfl⟩
  rw [← hlv] at HLI
  have hlvn : lv ≤ a.sl.length := by rw [hlv]; exact liveTo_le _ _
  have HLV := Lib.hid hlv
  clear hv hlv
  generalize hn : a.sl.length = n at HLI hl hlvn ⊢
  generalize hm : a.id.length = m at HLI hi ⊢
  generalize a.nx = nx at HLI ⊢
  have HN := Lib.hid hn; have HM := Lib.hid hm
  clear hn hm
  go_enter Try.func30, Try.ntmps30
  go_wp2_with fail
  generalize hO : (Obj.cells #[.slice sa n sc, .slice ia m ic, .int .i64 nx] 25 : Obj) = O
  have HU0 : Hid (Upd [] w (w.alloc O)) := (Upd.refl _ _).alloc _
  have hb := box_at w hO
  generalize hW : w.alloc O = W at *
  generalize hB : w.heap.size = B at *
  have HB := Lib.hid hb
  clear hb hO hW hB
  go_loopg [8] m (fun gk vi wr => ∃ k : Nat, vi = .int .i64 k ∧ k + gk = m ∧ Hid (∀ j (hj : j < a.id.length), j < k → IdxOk a.sl a.id[j]) ∧ Hid (Upd [] W wr))
  case atStart => exact ⟨0, rfl, by omega, fun j hj hk => by omega, Upd.refl _ _⟩
  case round =>
    obtain ⟨k, rfl, hkg, HK, HU⟩ := hrel
    have HBR := Lib.hid (HU.out.at HB.out (by simp))
    have HUR : Hid (Upd [] w wr) := HU0.out.trans HU.out (by simp)
    by_cases hlt : k < m
    · have hltz : (k : Int) < (m : Int) := by omega
      have hk1 : k < a.id.length := by have := HM.out; omega
      obtain ⟨b1, o1, rfl, c1⟩ := (HA.out.stay HUR.out).id k hk1
      simp only at c1
      obtain ⟨d0, d1, d2⟩ := cells3 HBR.out
      have HII := Lib.hid (isIndex_any sa (some ⟨b1, o1, none⟩) n sc m ic nx a.id[k])
      have HBAD : Hid (¬ IdxOk a.sl a.id[k] → v = false) := fun h => by
        rw [HV.out, viB_no]
        exact fun q => h (q.1 _ (List.getElem_mem hk1))
      have HGOOD : Hid (IdxOk a.sl a.id[k] → ∀ j (hj : j < a.id.length), j < k + 1 → IdxOk a.sl a.id[j]) := fun h j hj hk => by
        by_cases hjk : j < k
        · exact HK.out j hj hjk
        · obtain rfl : j = k := by omega
          exact h
      generalize a.id[k] = y at *
      rcases hb : idxB n y with _ | _
      · rw [hb] at HII
        have HF := HBAD.out (fun q => by
          unfold idxB at hb
          rw [decide_eq_false_iff_not] at hb
          exact hb ⟨q.1, by have := q.2.1; rw [HN.out] at this; exact this⟩)
        clear hb
        go_wp2_with fail
        refine (HII.out _).mono ?_
        rintro e w1 ⟨rfl, hg⟩
        go_wp2_with fail
        go_ret
        exact ⟨ret_bool HF.symm, HUR.out.trans hg.upd (by simp)⟩
      · rw [hb] at HII
        unfold idxB at hb
        rw [decide_eq_true_iff] at hb
        obtain ⟨i, rfl⟩ := Int.eq_ofNat_of_zero_le hb.1
        have hin : i < n := by omega
        have hil : i < a.sl.length := by rw [HN.out]; exact hin
        have hiz : (i : Int) < (n : Int) := hb.2
        clear hb
        by_cases hs : a.sl[i].s = 0
        · have hsz : (a.sl[i].s != 0) = false := by simpa using hs
          have HOK := Lib.hid (HGOOD.out ⟨by omega, by rw [HN.out]; exact hiz, by rw [Int.toNat_natCast, slAt_get hil]; exact hs⟩)
          clear hs HGOOD HBAD
          go_wp2_with fail
          refine (HII.out _).mono ?_
          rintro e w1 ⟨rfl, hg⟩
          obtain ⟨bb, oo, hsa, k0, k1, k2, k3⟩ := (HA.out.stay (HUR.out.trans hg.upd (by simp))).sl i hil
          simp only at hsa k0 k1 k2 k3
          subst hsa
          generalize a.sl[i] = z at *
          obtain ⟨d0, d1, d2⟩ := cells3 (hg.upd.at HBR.out (by simp))
          have HU3 : Hid (Upd [] W w1) := HU.out.trans hg.upd (by simp)
          clear hg k0 k2 k3
          go_wp2_with fail
          go_roundg (gk - 1)
          case measure => omega
          case rel => exact ⟨k + 1, by go_num, by omega, HOK, HU3⟩
        · have hsz : (a.sl[i].s != 0) = true := by simpa using hs
          have HF := HBAD.out (fun q => by have := q.2.2; rw [Int.toNat_natCast, slAt_get hil] at this; exact hs this)
          clear hs HGOOD HBAD
          go_wp2_with fail
          refine (HII.out _).mono ?_
          rintro e w1 ⟨rfl, hg⟩
          obtain ⟨bb, oo, hsa, k0, k1, k2, k3⟩ := (HA.out.stay (HUR.out.trans hg.upd (by simp))).sl i hil
          simp only at hsa k0 k1 k2 k3
          subst hsa
          generalize a.sl[i] = z at *
          obtain ⟨d0, d1, d2⟩ := cells3 (hg.upd.at HBR.out (by simp))
          have HU3 : Hid (Upd [] w w1) := HUR.out.trans hg.upd (by simp)
          clear hg k0 k2 k3
          go_wp2_with fail
          go_ret
          exact ⟨ret_bool HF.symm, HU3.out⟩
    · have hltz : ¬ (k : Int) < (m : Int) := by omega
      obtain rfl : m = k := by omega
      have hall : ∀ x ∈ a.id, IdxOk a.sl x := fun x hx => by
        obtain ⟨j, hj, rfl⟩ := List.mem_iff_getElem.1 hx
        exact HK.out j hj (by have := HM.out; omega)
      have hDI := fun W' (hu : Upd [] w W') => distinct_any ia ic a.id W' (HA.out.stay hu).id (by rw [HM.out]; exact hi) (fun x hx => by have h1 := hall x hx; have h2 := h1.1; have h3 := h1.2.1; rw [HN.out] at h3; exact ⟨by omega, by omega⟩)
      rw [HM.out] at hDI
      have hws : IntKind.i64.wrap ((n : Int) - (lv : Int)) = (n : Int) - (lv : Int) := by rw [IntKind.wrap_i64]; omega
      have HALL := Lib.hid hall
      have HDI : Hid (∀ p : Kept wr, Calls Try.prog 46 #[.slice ia m ic] p.x fun e w' => e = .returned (.bool (decide a.id.Nodup)) ∧ Upd [] p.x w') := fun p => hDI _ (HUR.out.trans p.up (by simp))
      have HLC : Hid (∀ p : Kept wr, Calls Try.prog 25 #[.agg #[.slice sa n sc, .slice ia m ic, .int .i64 nx]] p.x fun e w' => e = .returned (.int .i64 (lv : Nat)) ∧ Upd [] p.x w') := fun p => (HLI.out _ (HUR.out.trans p.up (by simp))).mono (fun e w' h => ⟨h.1, h.2.upd⟩)
      obtain ⟨c0, c1, c2⟩ := kept3 HBR.out
      clear hall hDI HLI
      go_upto_region 7 with (fail)
      by_cases h5 : m + lv = n
      · have hd5 : ((m : Int) == (n : Int) - (lv : Int)) = true := by simp; omega
        refine wp_region_quiet_kept mixed (by kernel_rfl) ?_
        repeat (go_big_quiet_step (first | (go_at_call 25; exact calls_kept (HLC.out _)) | (go_at_call 46; exact calls_kept (HDI.out _))))
        refine wpQuiet_nil ?_
        intro _ hw'
        obtain ⟨p, hw''⟩ := hw'
        subst hw''
        go_wp2_with fail
        go_ret
        exact ⟨ret_bool (by
          rw [HV.out]
          by_cases hnd : a.id.Nodup
          · rw [viB_yes.2 ⟨HALL.out, by rw [HM.out, HN.out, ← HLV.out]; exact h5, hnd⟩]; simp [hnd]
          · rw [viB_no.2 (fun q => hnd q.2.2)]; simp [hnd]), HUR.out.trans p.up (by simp)⟩
      · have hd5 : ((m : Int) == (n : Int) - (lv : Int)) = false := by simp; omega
        refine wp_region_quiet_kept mixed (by kernel_rfl) ?_
        repeat (go_big_quiet_step (first | (go_at_call 25; exact calls_kept (HLC.out _))))
        refine wpQuiet_nil ?_
        intro _ hw'
        obtain ⟨p, hw''⟩ := hw'
        subst hw''
        go_wp2_with fail
        go_ret
        exact ⟨ret_bool (by rw [HV.out, viB_no.2 (fun q => h5 (by have := q.2.1; rw [HM.out, HN.out, ← HLV.out] at this; exact this))]), HUR.out.trans p.up (by simp)⟩
end Go.Proofs.Ythpofcomlidoiaa
