/- Contract: the program's validSlots. -/
import Derived.Test.YthpofcomlidoiaaDD
import Derived.Test.YthpofcomlidoiaaDK
import Derived.Test.YthpofcomlidoiaaCG
namespace Go.Proofs.Ythpofcomlidoiaa
open Go.RowKit Go.Lib

/-- The sequence numbers of the slots that are live. -/
def lq (l : List Sl) : List Int := (l.filter (fun s => liveB s.s)).map (fun s => s.q)
theorem lq_yes {l : List Sl} {k : Nat} (h : k < l.length) (hb : liveB l[k].s = true) : lq (l.take (k + 1)) = lq (l.take k) ++ [l[k].q] := by
  rw [List.take_succ_eq_append_getElem h]; simp only [lq, List.filter_append, List.map_append, List.filter_cons, List.filter_nil, hb, if_true, List.map_cons, List.map_nil]
theorem lq_no {l : List Sl} {k : Nat} (h : k < l.length) (hb : liveB l[k].s = false) : lq (l.take (k + 1)) = lq (l.take k) := by
  rw [List.take_succ_eq_append_getElem h]; simp only [lq, List.filter_append, List.filter_cons, List.filter_nil, hb, Bool.false_eq_true, if_false, List.append_nil]
theorem lq_len (l : List Sl) (k : Nat) : (lq (l.take k)).length ≤ k := by
  unfold lq
  rw [List.length_map]
  exact Nat.le_trans (List.length_filter_le _ _) (by simp; omega)
def VSlots (l : List Sl) (nx : Int) : Prop := (∀ i, i < l.length → slotA (slAt l i) nx = true) ∧ (lq l).Nodup
open Classical in
noncomputable def vsB (l : List Sl) (nx : Int) : Bool := decide (VSlots l nx)
theorem vsB_yes {l : List Sl} {nx : Int} : vsB l nx = true ↔ VSlots l nx := by simp [vsB]
theorem vsB_no {l : List Sl} {nx : Int} : vsB l nx = false ↔ ¬ VSlots l nx := by simp [vsB]
theorem lq_inR {l : List Sl} {nx : Int} (h : ∀ i, i < l.length → slotA (slAt l i) nx = true) (hnx : nx ≤ 1099511627776) : ∀ x ∈ lq l, InR x := by
  intro x hx
  obtain ⟨s, hs, rfl⟩ := List.mem_map.1 hx
  obtain ⟨hm, hb⟩ := List.mem_filter.1 hs
  obtain ⟨i, hi, rfl⟩ := List.mem_iff_getElem.1 hm
  have h1 := slotA_iff.1 (h i hi)
  rw [slAt_get hi] at h1
  unfold liveB at hb
  rw [decide_eq_true_iff] at hb
  have h2 := h1.2.2 (by omega)
  exact ⟨by omega, by omega⟩

set_option maxHeartbeats 4000000 in
theorem validSlots_has (r : ArR) (w : World) (h : HasA w r) (hl : r.ar.sl.length ≤ 1000) (hnx : r.ar.nx ≤ 1099511627776) :
    Calls Try.prog 29 #[encA r] w fun e w' => e = .returned (.bool (vsB r.ar.sl r.ar.nx)) ∧ Upd [] w w' := by
  obtain ⟨⟨l, id, nx⟩, sa, sc, ia, ic⟩ := r
  have HA := Lib.hid h.sl
  simp only at hl hnx HA
  unfold encA
  simp only
  clear h
  obtain ⟨n, hn⟩ : ∃ n, n = l.length := ⟨_, rfl⟩
  obtain ⟨v, hv⟩ : ∃ v, v = vsB l nx := ⟨_, rfl⟩
  rw [← hn, ← hv]
  rw [← hn] at hl
  have HN := Lib.hid hn
  have HV := Lib.hid hv
  have HX := Lib.hid hnx
  clear hn hv hnx
  generalize id.length = ni
  go_enter Try.func29, Try.ntmps29
  go_wp2_with fail
  generalize hO : (Obj.cells #[.slice sa n sc, .slice ia ni ic, .int .i64 nx] 25 : Obj) = O
  have HU0 : Hid (Upd [] w (w.alloc O)) := (Upd.refl _ _).alloc _
  have hb := box_at w hO
  generalize hW : w.alloc O = W at *
  generalize hB : w.heap.size = B at *
  have HB := Lib.hid hb
  clear hb hO hW hB
  go_loopg [3, 9] n (fun gk vq vi wr => ∃ k : Nat, vi = .int .i64 k ∧ k + gk = n ∧ Hid (wr.ownsRow W.heap.size 3 1 vq (lq (l.take k)).length ((lq (l.take k)).map (Value.int .i64))) ∧ Hid (∀ i, i < k → slotA (slAt l i) nx = true) ∧ Hid (Upd [] W wr))
  case atStart => exact ⟨0, rfl, by omega, World.ownsRow_nil _ _ _ _, fun i hi => by omega, Upd.refl _ _⟩
  case round =>
    obtain ⟨k, rfl, hkg, HRW, HK, HU⟩ := hrel
    by_cases hlt : k < n
    · have hltz : (k : Int) < (n : Int) := by omega
      have hk1 : k < l.length := by have := HN.out; omega
      obtain ⟨b1, o1, rfl, c0, c1, c2, c3⟩ := (HA.out.stay (HU0.out.trans HU.out (by simp))) k hk1
      obtain ⟨d0, d1, d2⟩ := cells3 (HU.out.at HB.out (by simp))
      have d2 := Lib.cell?_alloc_some (.cells #[.int .i64 l[k].g, .int .i64 l[k].s, .int .i64 l[k].t, .int .i64 l[k].q] 44) d2
      have hyes := lq_yes hk1
      have hno := lq_no hk1
      have hlen := lq_len l k
      have hat := slAt_get hk1
      have HBAD : Hid (slotA l[k] nx = false → v = false) := fun h => by
        rw [HV.out, vsB_no]
        intro q
        have := q.1 k hk1
        rw [slAt_get hk1, h] at this
        simp at this
      have hvs := validSlot_any l[k].g l[k].s l[k].t l[k].q nx
      rw [show (⟨l[k].g, l[k].s, l[k].t, l[k].q⟩ : Sl) = l[k] from rfl] at hvs
      have hlv := isLive_any l[k].s
      have HYES := Lib.hid hyes; have HNO := Lib.hid hno; have HAT := Lib.hid hat; have HVS := Lib.hid hvs; have HLV := Lib.hid hlv
      clear hyes hno hat hvs hlv
      generalize l[k] = y at *
      have hu2 : Upd [] wr (wr.alloc (.cells #[.int .i64 y.g, .int .i64 y.s, .int .i64 y.t, .int .i64 y.q] 44)) := (Upd.refl [] wr).alloc _
      have hby := heap_alloc1 wr (.cells #[.int .i64 y.g, .int .i64 y.s, .int .i64 y.t, .int .i64 y.q] 44)
      have HU2 := Lib.hid hu2; have HBY := Lib.hid hby
      clear hu2 hby
      rcases hb : slotA y nx with _ | _
      · rw [hb] at HVS
        have HF := HBAD.out hb
        clear hb
        go_wp2_with fail
        refine (HVS.out _).mono ?_
        rintro e w1 ⟨rfl, hg⟩
        go_wp2_with fail
        go_ret
        exact ⟨ret_bool HF.symm, ((HU0.out.trans HU.out (by simp)).trans HU2.out (by simp)).trans hg.upd (by simp)⟩
      · rw [hb] at HVS
        have HK2 : Hid (∀ i, i < k + 1 → slotA (slAt l i) nx = true) := fun i hi => by
          by_cases hik : i < k
          · exact HK.out i hik
          · obtain rfl : i = k := by omega
            rw [HAT.out]; exact hb
        clear hb HBAD HAT HK
        rcases hlb : liveB y.s with _ | _
        · rw [hlb] at HLV
          have HE := Lib.hid (HNO.out hlb)
          clear hlb HNO HYES
          go_wp2_with fail
          refine (HVS.out _).mono ?_
          rintro e w1 ⟨rfl, hg⟩
          obtain ⟨y0, y1, y2, y3⟩ := cells4 (hg.upd.at HBY.out (by simp))
          have HU3 : Hid (Upd [] wr w1) := HU2.out.trans hg.upd (by simp)
          clear hg
          go_wp2_with fail
          refine (HLV.out _).mono ?_
          rintro e w2 ⟨rfl, rfl⟩
          go_wp2_with fail
          go_roundg (gk - 1)
          case measure => omega
          case rel => exact ⟨k + 1, by go_num, by omega, (by rw [HE.out]; exact HU3.out.row HRW.out (by simp)), HK2, HU.out.trans HU3.out (by simp)⟩
        · rw [hlb] at HLV
          have HE := Lib.hid (HYES.out hlb)
          clear hlb HNO HYES
          go_wp2_with fail
          refine (HVS.out _).mono ?_
          rintro e w1 ⟨rfl, hg⟩
          obtain ⟨y0, y1, y2, y3⟩ := cells4 (hg.upd.at HBY.out (by simp))
          have HU3 : Hid (Upd [] wr w1) := HU2.out.trans hg.upd (by simp)
          have HR3 := Lib.hid (HU3.out.row HRW.out (by simp))
          clear hg
          go_wp2_with fail
          refine (HLV.out _).mono ?_
          rintro e w2 ⟨rfl, rfl⟩
          go_wp2_with (at_builtin; refine app_int rfl _ _ rfl W.heap.size _ _ (lq (l.take k)) rfl (HR3.out.alloc _) w1.heap.size y.q rfl (heap_alloc1 _ _) (by omega) (by have := HU.out.size; have := HU3.out.size; simp; omega) ?_; intro g cap w4 hown hgrow hat hlt; have HO4 := Lib.hid hown; have HU4 : Hid (Upd [] W w4) := app_upd (HU.out.trans HU3.out (by simp)) HR3.out hgrow; clear hown hgrow hat hlt)
          go_roundg (gk - 1)
          case measure => omega
          case rel => exact ⟨k + 1, by go_num, by omega, (by rw [HE.out, List.length_append]; exact HO4.out), HK2, HU4⟩
    · have hltz : ¬ (k : Int) < (n : Int) := by omega
      obtain rfl : n = k := by omega
      have hta : l.take n = l := List.take_of_length_le (by have := HN.out; omega)
      rw [hta] at HRW
      obtain ⟨va, vc, rfl, hvi, hvc, hvn, hvb⟩ := row_ints HRW.out
      have hll := lq_len l n
      rw [hta] at hll
      have hall : ∀ i, i < l.length → slotA (slAt l i) nx = true := fun i hi => HK.out i (by have := HN.out; omega)
      have HDI := Lib.hid (distinct_any va vc (lq l) wr hvi (by omega) (lq_inR hall HX.out))
      have HEQ : Hid (v = decide (lq l).Nodup) := by
        show v = _
        rw [HV.out]
        by_cases hnd : (lq l).Nodup
        · rw [vsB_yes.2 ⟨hall, hnd⟩]; simp [hnd]
        · rw [vsB_no.2 (fun q => hnd q.2)]; simp [hnd]
      clear hvi hvc hvn hvb hall hta
      generalize (lq l).length = m at *
      generalize decide (lq l).Nodup = dd at *
      go_wp2_with fail
      refine (HDI.out).mono ?_
      rintro e w2 ⟨rfl, hu⟩
      go_wp2_with fail
      go_ret
      exact ⟨ret_bool HEQ.out.symm, (HU0.out.trans HU.out (by simp)).trans hu (by simp)⟩
end Go.Proofs.Ythpofcomlidoiaa
