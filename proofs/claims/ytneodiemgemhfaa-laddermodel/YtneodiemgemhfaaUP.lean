/- Contracts: the program's items, a range function over the items of all buckets. -/
import Derived.Test.YtneodiemgemhfaaUO
import Derived.RangeFuncNested
import Derived.RangeFuncBound
import Derived.RangeFuncCalls
import Derived.RangeFuncLeaves
import Derived.Shelf.Abstract
import Derived.Shelf.RegionOpen
import Derived.OwnWalkIn
import Derived.TacticsInMore
import Derived.LoopNIn
import Derived.LoopIn
import Derived.Sort.CutIn
namespace Go.Proofs.Ytneodiemgemhfaa
open Go.RowKit Go.Shelf

/-- All items of the first k buckets, each with its bucket's number. -/
def allP (bs : List (List It)) : Nat → List (Nat × It)
  | 0 => []
  | k + 1 => allP bs k ++ (bAt bs k).map (fun it => (k, it))
def allTo (bs : List (List It)) (k j : Nat) : List (Nat × It) := allP bs k ++ ((bAt bs k).take j).map (fun it => (k, it))
theorem allTo_zero (bs : List (List It)) (k : Nat) : allTo bs k 0 = allP bs k := by simp [allTo]
theorem allTo_all {bs : List (List It)} {k j : Nat} (h : (bAt bs k).length ≤ j) : allTo bs k j = allP bs (k + 1) := by rw [allTo, List.take_of_length_le h]; rfl
theorem allTo_succ {bs : List (List It)} {k j : Nat} (h : j < (bAt bs k).length) : allTo bs k (j + 1) = allTo bs k j ++ [(k, (bAt bs k)[j])] := by
  rw [allTo, allTo, List.take_succ_eq_append_getElem h, List.map_append, ← List.append_assoc]
  rfl
theorem allP_length (bs : List (List It)) : ∀ k, k ≤ bs.length → (allP bs k).length = lenTo bs k
  | 0, _ => by rw [lenTo_zero]; rfl
  | k + 1, h => by
    rw [lenTo_succ (show k < bs.length by omega), allP, List.length_append, allP_length bs k (by omega), List.length_map, bAt_get (by omega)]
theorem allTo_length {bs : List (List It)} {k j : Nat} (hk : k < bs.length) (hj : j < (bAt bs k).length) : (allTo bs k j).length < lenL bs := by
  have h1 := lenTo_succ hk
  have h2 := lenTo_le bs (k + 1)
  rw [allTo, List.length_append, allP_length bs k (by omega), List.length_map, List.length_take]
  rw [bAt_get hk] at hj ⊢
  omega
theorem allP_mono {bs : List (List It)} {k : Nat} : ∀ m, k ≤ m → ∃ rest, allP bs k ++ rest = allP bs m
  | m, h => by
    by_cases e : k = m
    · subst e; exact ⟨[], by simp⟩
    · obtain ⟨m', rfl⟩ : ∃ m', m = m' + 1 := ⟨m - 1, by omega⟩
      obtain ⟨rest, hr⟩ := allP_mono (bs := bs) (k := k) m' (by omega)
      exact ⟨rest ++ (bAt bs m').map (fun it => (m', it)), by rw [← List.append_assoc, hr]; rfl⟩
theorem allTo_pre {bs : List (List It)} {k j : Nat} (hk : k < bs.length) : ∃ rest, allTo bs k j ++ rest = allP bs bs.length := by
  obtain ⟨rest, hr⟩ := allP_mono (bs := bs) (k := k + 1) bs.length (by omega)
  refine ⟨((bAt bs k).drop j).map (fun it => (k, it)) ++ rest, ?_⟩
  rw [allTo, ← List.append_assoc, List.append_assoc (allP bs k), ← List.map_append, List.take_append_drop]
  exact hr
theorem mem_allP {bs : List (List It)} {i : Nat} {it : It} : ∀ {k : Nat}, (i, it) ∈ allP bs k ↔ i < k ∧ it ∈ bAt bs i
  | 0 => by simp [allP]
  | k + 1 => by
    rw [allP, List.mem_append, mem_allP (k := k)]
    simp only [List.mem_map, Prod.mk.injEq]
    constructor
    · rintro (⟨h1, h2⟩ | ⟨x, hx, rfl, rfl⟩)
      · exact ⟨by omega, h2⟩
      · exact ⟨by omega, hx⟩
    · rintro ⟨h1, h2⟩
      by_cases e : i = k
      · subst e; exact .inr ⟨it, h2, rfl, rfl⟩
      · exact .inl ⟨by omega, h2⟩

/-- What the range function hands over. -/
abbrev Px (n : Nat) := { p : Nat × It // p.1 < n }
def penc {n : Nat} (x : Px n) : Array Value := #[.int .i64 x.1.1, aggI x.1.2]
def pvs {n : Nat} (pre : List (Px n)) : List (Nat × It) := pre.map (·.1)
theorem pvs_snoc {n : Nat} (pre : List (Px n)) (x : Px n) : pvs (pre ++ [x]) = pvs pre ++ [x.1] := by simp [pvs]
theorem pvs_length {n : Nat} (pre : List (Px n)) : (pvs pre).length = pre.length := by simp [pvs]

/-- The rung r lies in w, and the box B holds it. -/
def InBox (B : Nat) (r : RgR) (w : World) : Prop := w.heap[B]? = some (.cells (cellsR r) 43 (0, 0)) ∧ HasR w r
theorem InBox.stay {B : Nat} {r : RgR} {w w' : World} (h : InBox B r w) (hu : Upd [] w w') : InBox B r w' := ⟨hu.at h.1 (by simp), h.2.stay hu⟩

set_option maxRecDepth 100000 in
set_option maxHeartbeats 400000 in
theorem items_has (r : RgR) (w : World) :
    Calls Try.prog 40 #[encR r] w fun e w' => e = .returned (.func (.func 54) #[] #[.pointer (some ⟨w.heap.size, 0, none⟩)]) ∧ w' = w.alloc (.cells (cellsR r) 43) := by
  have hmf : ∀ (fn : Fn) (first cap : Array Value) (w : World), (Instr.makeFunc fn first cap).run Try.prog w = .ok (.func fn first cap) w := fun _ _ _ _ => rfl
  unfold encR cellsR
  obtain ⟨fr, wd, cu, bl, ba, bc⟩ := r
  simp only
  generalize bl.length = n
  go_enter Try.func40, Try.ntmps40
  go_wp2
  go_ret
  exact ⟨rfl, rfl⟩

set_option maxRecDepth 100000 in
set_option maxHeartbeats 4000000 in
theorem items1_in (n : Nat) (hn : 1 ≤ n) (l Bp : Nat) (r : RgR) (hb1 : r.bk.l.length ≤ 1000000) (hb2 : ∀ s ∈ r.bk.l, s.l.length ≤ 1000000) (Kp : World → World → Prop) (B0 : Nat)
    (hK : ∀ A B, Kp A B → InBox Bp r A → InBox Bp r B) (J Jx : List (Px r.bk.l.length) → World → Prop) (hJ : AbidesFrom B0 J)
    (hY : ∀ pre x W, J pre W → pre.length < lenL (rowsOf r.bk.l) → YieldAt Fence.wide (n - 1) Try.prog l (penc x) W fun e W' =>
      (e = .returned (.bool true) ∧ J (pre ++ [x]) W' ∧ Kp W W') ∨ (e = .returned (.bool false) ∧ Jx (pre ++ [x]) W'))
    (W : World) (hB : InBox Bp r W) (h0 : J [] W) :
    CallsIn Fence.wide n Try.prog 54 #[.func (.yield l) #[] #[], .pointer (some ⟨Bp, 0, none⟩)] W fun e W' => (∃ v, e = .returned v) ∧
      ((∃ ys, pvs ys = allP (rowsOf r.bk.l) r.bk.l.length ∧ J ys W') ∨ (∃ pre, (∃ rest, pvs pre ++ rest = allP (rowsOf r.bk.l) r.bk.l.length) ∧ Jx pre W')) := by
  have HJA : Hid (∀ pre w0 o, J pre w0 → J pre (w0.alloc o)) := fun pre w0 o h => hJ pre w0 _ none h (World.grownBy_alloc w0 o none) (fun r e => by cases e)
  have HB := Lib.hid hB; have HY := Lib.hid hY; have HK := Lib.hid hK; have HB2 := Lib.hid hb2
  have HRL : Hid ((rowsOf r.bk.l).length = r.bk.l.length) := rowsOf_length _
  obtain ⟨fr, wd, cu, bl, ba, bc⟩ := r
  simp only at *
  have HCR : Hid (cellsR ⟨fr, wd, cu, ⟨bl, ba, bc⟩⟩ = #[.int .i64 fr, .int .i64 wd, .int .i64 cu, .slice ba bl.length bc]) := Lib.hid rfl
  obtain ⟨c0, c1, c2, c3⟩ := cells4 (show W.heap[Bp]? = some (.cells #[.int .i64 fr, .int .i64 wd, .int .i64 cu, .slice ba bl.length bc] 43 (0, 0)) from hB.1)
  clear hB hY hK hb2 hJ c0 c1 c2
  obtain ⟨N, hN⟩ : ∃ N, N = bl.length := ⟨_, rfl⟩
  have HN := Lib.hid hN
  rw [← hN] at hb1 c3
  clear hN
  refine callsIn_of_wp Try.func54 rfl trivial ?_ rfl
  simp only [Try.ntmps54, List.size_toArray, List.length_cons, List.length_nil, Nat.reduceAdd, Nat.reduceSub, Array.replicate_succ, Array.replicate_zero, List.push_toArray, List.append_toArray, List.nil_append, List.cons_append]
  gi_wp2
  clear c3
  gi_loopw [10] (fun i wr => ∃ (k : Nat) (pre : List (Px bl.length)), k ≤ N ∧ i = .int .i64 k ∧ Hid (pvs pre = allP (rowsOf bl) k) ∧ Hid (J pre wr) ∧ Hid (InBox Bp ⟨fr, wd, cu, ⟨bl, ba, bc⟩⟩ wr)) (fun i _ => N - (intOf i).toNat)
  case atStart => exact ⟨0, [], by omega, rfl, Lib.hid rfl, Lib.hid h0, HB⟩
  case round =>
    obtain ⟨k, pre, hk, rfl, HPR, HJS, HIB⟩ := hrel
    by_cases hlt : k < N
    · have hltz : (k : Int) < (N : Int) := by omega
      have hk1 : k < bl.length := by have := HN.out; omega
      obtain ⟨b, off, hbo, bk0⟩ := HIB.out.2.bk.row.bucket k hk1
      simp only at hbo bk0
      subst hbo
      have hro := rowsOf_at hk1
      have hbl := HB2.out _ (List.getElem_mem hk1)
      have hats := fun w0 (h : InBox Bp ⟨fr, wd, cu, ⟨bl, some ⟨b, off, none⟩, bc⟩⟩ w0) => h.2.at (j := k) hk1
      simp only at hats
      obtain ⟨bi, hbi⟩ : ∃ x, x = bl[k]'hk1 := ⟨_, rfl⟩
      rw [← hbi] at hro bk0 hbl hats
      obtain ⟨il, am, cm⟩ := bi
      have HRO := Lib.hid hro; have HAT := Lib.hid hats
      simp only at bk0 hbl HRO
      have HKB : Hid (k < (rowsOf bl).length) := by show _ < _; rw [HRL.out]; exact hk1
      generalize hlm : il.length = m at *
      have HLM := Lib.hid hlm
      clear hro hats hbi hlm
      gi_wp2
      clear bk0
      have HPR0 : Hid (pvs pre = allTo (rowsOf bl) k 0) := by show _ = _; rw [allTo_zero]; exact HPR.out
      gi_loopw [17] (fun v wi => ∃ (j : Nat) (p2 : List (Px bl.length)), j ≤ m ∧ v = .int .i64 j ∧ Hid (pvs p2 = allTo (rowsOf bl) k j) ∧ Hid (J p2 wi) ∧ Hid (InBox Bp ⟨fr, wd, cu, ⟨bl, some ⟨b, off, none⟩, bc⟩⟩ wi)) (fun v _ => m - (intOf v).toNat)
      case atStart => exact ⟨0, pre, by omega, rfl, HPR0, HJS, HIB⟩
      case round =>
        obtain ⟨j, p2, hj, rfl, HPR2, HJS2, HIB2⟩ := hrel
        by_cases hjm : j < m
        · have hjz : (j : Int) < (m : Int) := by omega
          have hj1 : j < il.length := by have := HLM.out; omega
          obtain ⟨b1, o1, hbo1, a0, a1, a2⟩ := (HAT.out _ HIB2.out).row.item j hj1
          simp only at hbo1 a0 a1 a2
          subst hbo1
          have HSU : Hid (allTo (rowsOf bl) k (j + 1) = allTo (rowsOf bl) k j ++ [(k, il[j]'hj1)]) := by
            show _ = _
            have h1 := allTo_succ (bs := rowsOf bl) (k := k) (j := j) (by rw [HRO.out]; exact hj1)
            rw [h1]
            simp only [HRO.out]
          have HLT : Hid (p2.length < lenL (rowsOf bl)) := by
            show _ < _
            rw [← pvs_length, HPR2.out]
            exact allTo_length HKB.out (by rw [HRO.out]; exact hj1)
          generalize il[j]'hj1 = it at *
          have hal := (Upd.refl [] wr).alloc (.cells #[.int .i64 it.t, .int .i64 it.q, .int .i64 it.s] 34)
          obtain ⟨fn, tmps, assign, body, hy, hR⟩ := HY.out p2 ⟨(k, it), hk1⟩ (wr.alloc (.cells #[.int .i64 it.t, .int .i64 it.q, .int .i64 it.s] 34)) (HJA.out _ _ _ HJS2.out) HLT.out
          dsimp only [penc, aggI] at hy
          have HIB3 := Lib.hid (HIB2.out.stay hal)
          clear hal
          gi_wp2
          clear a0 a1 a2 hy
          refine hR.mono ?_
          rintro e W3 (⟨rfl, hJ3, hk3⟩ | ⟨rfl, hJx3⟩)
          · have HIB4 := Lib.hid (HK.out _ _ hk3 HIB3.out)
            have HJ3 := Lib.hid hJ3
            clear hk3 hJ3 hR
            gi_wp2
            go_roundw
            case rel => exact ⟨j + 1, _, by omega, by go_num, by show _ = _; rw [pvs_snoc, HSU.out, HPR2.out], HJ3, HIB4⟩
            case measure => simp [intOf]; omega
          · have HJX := Lib.hid hJx3
            clear hJx3 hR
            gi_wp2
            refine bodyPost_ret (results_none rfl _ _ _) rfl ?_
            refine ⟨⟨_, rfl⟩, .inr ⟨_, ?_, HJX.out⟩⟩
            rw [pvs_snoc, HPR2.out]
            have h1 := allTo_pre (bs := rowsOf bl) (k := k) (j := j + 1) HKB.out
            rw [HSU.out, HRL.out] at h1
            exact h1
        · have hjz : ¬ (j : Int) < (m : Int) := by omega
          have HPR3 : Hid (pvs p2 = allP (rowsOf bl) (k + 1)) := by
            show _ = _
            rw [HPR2.out]
            exact allTo_all (by rw [HRO.out, HLM.out]; omega)
          gi_wp2
          go_roundw
          case rel => exact ⟨k + 1, p2, by omega, by go_num, HPR3, HJS2, HIB2⟩
          case measure => simp [intOf]; omega
    · have hltz : ¬ (k : Int) < (N : Int) := by omega
      have HKN : Hid (k = bl.length) := by show k = bl.length; have := HN.out; omega
      gi_wp2
      go_end0
      exact ⟨⟨_, rfl⟩, .inl ⟨pre, by rw [HPR.out, HKN.out], HJS.out⟩⟩

theorem items_stops (n : Nat) (hn : 1 ≤ n) (Bp : Nat) (r : RgR) (hb1 : r.bk.l.length ≤ 1000000) (hb2 : ∀ s ∈ r.bk.l, s.l.length ≤ 1000000) (Kp : World → World → Prop)
    (hK : ∀ A B, Kp A B → InBox Bp r A → InBox Bp r B) (w : World) (hB : InBox Bp r w) :
    SeqStopsK Fence.wide n Try.prog 54 #[.pointer (some ⟨Bp, 0, none⟩)] (penc (n := r.bk.l.length)) Kp (fun ys => pvs ys = allP (rowsOf r.bk.l) r.bk.l.length) (fun pre => ∃ rest, pvs pre ++ rest = allP (rowsOf r.bk.l) r.bk.l.length) (lenL (rowsOf r.bk.l)) w := fun l J Jx W hW hJ _ hY h0 =>
  items1_in n hn l Bp r hb1 hb2 Kp W.heap.size hK J Jx hJ hY W (hB.stay (Upd.of_below hW)) h0
end Go.Proofs.Ytneodiemgemhfaa
