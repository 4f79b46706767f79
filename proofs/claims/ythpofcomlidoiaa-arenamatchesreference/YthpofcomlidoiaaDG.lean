/- Contract: the program's Valid. -/
import Derived.Test.YthpofcomlidoiaaDF
namespace Go.Proofs.Ythpofcomlidoiaa
open Go.RowKit Go.Lib

theorem lq_pair {l : List Sl} : (lq l).Nodup ↔ ∀ i k (hi : i < l.length) (hk : k < l.length), i < k → liveB l[i].s = true → liveB l[k].s = true → l[i].q ≠ l[k].q := by
  unfold lq List.Nodup
  rw [List.pairwise_map, List.pairwise_filter, List.pairwise_iff_getElem]
theorem liveB_iff {s : Sl} {nx : Int} (h : SlotOk s nx) : liveB s.s = true ↔ s.s ≠ 0 := by
  have := h.1
  unfold liveB
  rw [decide_eq_true_iff]
  omega
theorem valid_parts {a : Ar} : ValidOk a ↔ capB (a.sl.length : Nat) = true ∧ 0 ≤ a.nx ∧ a.nx ≤ 1099511627776 ∧ vsB a.sl a.nx = true ∧ viB a = true := by
  constructor
  · intro h
    have g := h.good
    refine ⟨by unfold capB; rw [decide_eq_true_iff]; have := g.len0; have := g.len1; omega, g.nx0, g.nx1, vsB_yes.2 ⟨fun i hi => slotA_yes (g.ok i hi), ?_⟩, viB_yes.2 ⟨?_, g.count, ?_⟩⟩
    · rw [lq_pair]
      intro i k hi hk hik h1 h2
      have o1 := g.ok i hi
      have o2 := g.ok k hk
      have := g.dist i k hi hk (by omega)
      rw [slAt_get hi] at o1 this
      rw [slAt_get hk] at o2 this
      exact this ((liveB_iff o1).1 h1) ((liveB_iff o2).1 h2)
    · intro x hx
      obtain ⟨i, rfl, hi, h0⟩ := g.mem.1 hx
      exact ⟨by omega, by omega, by rw [Int.toNat_natCast]; exact h0⟩
    · exact g.perm.nodup_iff.2 (List.Pairwise.map Int.ofNat (fun a b hne e => hne (Int.ofNat.inj e)) (nodup_free _))
  · rintro ⟨hc, h0, h1, hs, hi⟩
    unfold capB at hc
    rw [decide_eq_true_iff] at hc
    obtain ⟨s1, s2⟩ := vsB_yes.1 hs
    obtain ⟨i1, i2, i3⟩ := viB_yes.1 hi
    have hok : ∀ i, i < a.sl.length → SlotOk (slAt a.sl i) a.nx := fun i hi => slotA_iff.1 (s1 i hi)
    have hp : ((free a.sl).map Int.ofNat).Perm a.id := by
      apply perm_of_sub a.id _ i3
      · intro x hx
        obtain ⟨x0, x1, x2⟩ := i1 x hx
        exact List.mem_map.2 ⟨x.toNat, mem_free.2 ⟨by omega, x2⟩, by simp only [Int.ofNat_eq_natCast]; omega⟩
      · rw [List.length_map]
        have := free_live a.sl
        omega
    refine ⟨⟨by omega, by omega, h0, h1, i2⟩, fun i hi => ⟨hok i hi, ?_, ?_⟩⟩
    · rw [← hp.mem_iff, List.mem_map]
      constructor
      · intro hz
        exact ⟨i, mem_free.2 ⟨hi, hz⟩, rfl⟩
      · rintro ⟨j, hj, e⟩
        obtain rfl : j = i := Int.ofNat.inj e
        exact (mem_free.1 hj).2
    · intro k hk e
      have hkl : k < a.sl.length := by omega
      have o1 := hok i hi
      have o2 := hok k hkl
      rw [slAt_get hi, slAt_get hkl] at e
      rw [slAt_get hi] at o1
      rw [slAt_get hkl] at o2
      exact lq_pair.1 s2 k i hkl hi hk ((liveB_iff o2).2 e.2.1) ((liveB_iff o1).2 e.1) e.2.2.symm

set_option maxHeartbeats 4000000 in
theorem PValid_has (r : ArR) (w : World) (h : HasA w r) (hl : r.ar.sl.length ≤ 80) (hi : r.ar.id.length ≤ 80) :
    Calls Try.prog 13 #[encA r] w fun e w' => e = .returned (.bool (validA r.ar)) ∧ Upd [] w w' := by
  have HVS := Lib.hid (fun W (hu : Upd [] w W) (hx : r.ar.nx ≤ 1099511627776) => validSlots_has r W (h.stay hu) (by omega) hx)
  have HVI := Lib.hid (fun W (hu : Upd [] w W) => validIdle_has r W (h.stay hu) (by omega) (by omega))
  obtain ⟨a, sa, sc, ia, ic⟩ := r
  rw [show encA ⟨a, sa, sc, ia, ic⟩ = .agg #[.slice sa a.sl.length sc, .slice ia a.id.length ic, .int .i64 a.nx] from rfl] at HVS HVI ⊢
  simp only at hl hi HVS HVI ⊢
  clear h
  have HC := Lib.hid (validCapacity_any (a.sl.length : Nat))
  have HYES : Hid (capB (a.sl.length : Nat) = true → 0 ≤ a.nx → a.nx ≤ 1099511627776 → vsB a.sl a.nx = true → viB a = true → validA a = true) := fun h1 h2 h3 h4 h5 => validA_yes.2 (valid_parts.2 ⟨h1, h2, h3, h4, h5⟩)
  have HNO : Hid (¬ (capB (a.sl.length : Nat) = true ∧ 0 ≤ a.nx ∧ a.nx ≤ 1099511627776 ∧ vsB a.sl a.nx = true ∧ viB a = true) → validA a = false) := fun h => validA_no.2 (fun q => h (valid_parts.1 q))
  generalize validA a = v at *
  generalize viB a = v5 at *
  generalize a.sl.length = n at *
  generalize a.id.length = m at *
  generalize vsB a.sl a.nx = v4 at *
  generalize a.nx = nx at *
  generalize capB (n : Nat) = v1 at *
  have hbox := fun O => heap_alloc1 w (.cells #[.slice sa n sc, .slice ia m ic, .int .i64 nx] 25 O)
  have HB := Lib.hid (heap_alloc1 w (.cells #[.slice sa n sc, .slice ia m ic, .int .i64 nx] 25))
  have HU : Hid (Upd [] w (w.alloc (.cells #[.slice sa n sc, .slice ia m ic, .int .i64 nx] 25))) := (Upd.refl _ _).alloc _
  clear hbox
  go_enter Try.func13, Try.ntmps13
  go_wp2_with fail
  generalize w.alloc (.cells #[.slice sa n sc, .slice ia m ic, .int .i64 nx] 25) = W at *
  generalize w.heap.size = H at *
  refine (HC.out _).mono ?_
  rintro e w' ⟨rfl, rfl⟩
  obtain ⟨c0, c1, c2⟩ := cells3 HB.out
  rcases h1 : v1 with _ | _
  · have HF := HNO.out (by simp [h1])
    go_wp2_with fail
    go_ret
    exact ⟨ret_bool HF.symm, HU.out⟩
  by_cases h2 : 0 ≤ nx
  · have hd2 : decide (0 ≤ nx) = true := by simpa using h2
    by_cases h3 : nx ≤ 1099511627776
    · have hd3 : decide (nx ≤ 1099511627776) = true := by simpa using h3
      go_wp2_with fail
      refine (HVS.out _ HU.out h3).mono ?_
      rintro e w1 ⟨rfl, hu1⟩
      obtain ⟨c0, c1, c2⟩ := cells3 (hu1.at HB.out (by simp))
      have HU1 : Hid (Upd [] w w1) := HU.out.trans hu1 (by simp)
      rcases h4 : v4 with _ | _
      · have HF := HNO.out (by simp [h4])
        clear hu1
        go_wp2_with fail
        go_ret
        exact ⟨ret_bool HF.symm, HU1.out⟩
      · clear hu1
        have HV : Hid (v = v5) := by
          show v = v5
          rcases h5 : v5 with _ | _
          · exact HNO.out (by simp [h5])
          · exact HYES.out h1 h2 h3 h4 h5
        clear HYES HNO
        go_wp2_with fail
        refine (HVI.out _ HU1.out).mono ?_
        rintro e w2 ⟨rfl, hu2⟩
        go_wp2_with fail
        go_ret
        exact ⟨ret_bool HV.out.symm, HU1.out.trans hu2 (by simp)⟩
    · have hd3 : decide (nx ≤ 1099511627776) = false := by simpa using h3
      have HF := HNO.out (fun q => h3 q.2.2.1)
      go_wp2_with fail
      go_ret
      exact ⟨ret_bool HF.symm, HU.out⟩
  · have hd2 : decide (0 ≤ nx) = false := by simpa using h2
    have HF := HNO.out (fun q => h2 q.2.1)
    go_wp2_with fail
    go_ret
    exact ⟨ret_bool HF.symm, HU.out⟩
end Go.Proofs.Ythpofcomlidoiaa
