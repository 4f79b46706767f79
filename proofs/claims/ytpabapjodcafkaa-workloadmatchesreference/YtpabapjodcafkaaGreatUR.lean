/- Contracts: the program's items, a range function over the items of all buckets. -/
/- Contract: the program's Len, a range over a function. -/
/- Contracts: the program's validShape, inBucket, Valid. -/
import Derived.Test.YtpabapjodcafkaaGreatUO
import Derived.RangeFuncNested
import Derived.RangeFuncBound
import Derived.RangeFuncCalls
import Derived.RangeFuncLeaves
import Derived.Shelf.Abstract
import Derived.Shelf.RegionOpen
import Derived.OwnWalkIn
import Derived.TacticsInMore
import Derived.LoopNIn
import Derived.LoopIn
import Derived.Sort.CutIn
namespace Go.Proofs.YtpabapjodcafkaaGreat
open Go.RowKit Go.Shelf

/-- All items of the first k buckets, each with its bucket's number. -/
def allP (bs : List (List It)) : Nat → List (Nat × It)
  | 0 => []
  | k + 1 => allP bs k ++ (bAt bs k).map (fun it => (k, it))
def allTo (bs : List (List It)) (k j : Nat) : List (Nat × It) := allP bs k ++ ((bAt bs k).take j).map (fun it => (k, it))
theorem allTo_zero (bs : List (List It)) (k : Nat) : allTo bs k 0 = allP bs k := by simp [allTo]
theorem allTo_all {bs : List (List It)} {k j : Nat} (h : (bAt bs k).length ≤ j) : allTo bs k j = allP bs (k + 1) := by rw [allTo, List.take_of_length_le h]; rfl
theorem allTo_succ {bs : List (List It)} {k j : Nat} (h : j < (bAt bs k).length) : allTo bs k (j + 1) = allTo bs k j ++ [(k, (bAt bs k)[j])] := by
  rw [allTo, allTo, List.take_succ_eq_append_getElem h, List.map_append, ← List.append_assoc]
  rfl
theorem allP_length (bs : List (List It)) : ∀ k, k ≤ bs.length → (allP bs k).length = lenTo bs k
  | 0, _ => by rw [lenTo_zero]; rfl
  | k + 1, h => by
    rw [lenTo_succ (show k < bs.length by omega), allP, List.length_append, allP_length bs k (by omega), List.length_map, bAt_get (by omega)]
theorem allTo_length {bs : List (List It)} {k j : Nat} (hk : k < bs.length) (hj : j < (bAt bs k).length) : (allTo bs k j).length < lenL bs := by
  have h1 := lenTo_succ hk
  have h2 := lenTo_le bs (k + 1)
  rw [allTo, List.length_append, allP_length bs k (by omega), List.length_map, List.length_take]
  rw [bAt_get hk] at hj ⊢
  omega
theorem allP_mono {bs : List (List It)} {k : Nat} : ∀ m, k ≤ m → ∃ rest, allP bs k ++ rest = allP bs m
  | m, h => by
    by_cases e : k = m
    · subst e; exact ⟨[], by simp⟩
    · obtain ⟨m', rfl⟩ : ∃ m', m = m' + 1 := ⟨m - 1, by omega⟩
      obtain ⟨rest, hr⟩ := allP_mono (bs := bs) (k := k) m' (by omega)
      exact ⟨rest ++ (bAt bs m').map (fun it => (m', it)), by rw [← List.append_assoc, hr]; rfl⟩
theorem allTo_pre {bs : List (List It)} {k j : Nat} (hk : k < bs.length) : ∃ rest, allTo bs k j ++ rest = allP bs bs.length := by
  obtain ⟨rest, hr⟩ := allP_mono (bs := bs) (k := k + 1) bs.length (by omega)
  refine ⟨((bAt bs k).drop j).map (fun it => (k, it)) ++ rest, ?_⟩
  rw [allTo, ← List.append_assoc, List.append_assoc (allP bs k), ← List.map_append, List.take_append_drop]
  exact hr
theorem mem_allP {bs : List (List It)} {i : Nat} {it : It} : ∀ {k : Nat}, (i, it) ∈ allP bs k ↔ i < k ∧ it ∈ bAt bs i
  | 0 => by simp [allP]
  | k + 1 => by
    rw [allP, List.mem_append, mem_allP (k := k)]
    simp only [List.mem_map, Prod.mk.injEq]
    constructor
    · rintro (⟨h1, h2⟩ | ⟨x, hx, rfl, rfl⟩)
      · exact ⟨by omega, h2⟩
      · exact ⟨by omega, hx⟩
    · rintro ⟨h1, h2⟩
      by_cases e : i = k
      · subst e; exact .inr ⟨it, h2, rfl, rfl⟩
      · exact .inl ⟨by omega, h2⟩

/-- What the range function hands over. -/
abbrev Px (n : Nat) := { p : Nat × It // p.1 < n }
def penc {n : Nat} (x : Px n) : Array Value := #[.int .i64 x.1.1, aggI x.1.2]
def pvs {n : Nat} (pre : List (Px n)) : List (Nat × It) := pre.map (·.1)
theorem pvs_snoc {n : Nat} (pre : List (Px n)) (x : Px n) : pvs (pre ++ [x]) = pvs pre ++ [x.1] := by simp [pvs]
theorem pvs_length {n : Nat} (pre : List (Px n)) : (pvs pre).length = pre.length := by simp [pvs]

/-- The rung r lies in w, and the box B holds it. -/
def InBox (B : Nat) (r : RgR) (w : World) : Prop := w.heap[B]? = some (.cells (cellsR r) 59 (0, 0)) ∧ HasR w r
theorem InBox.stay {B : Nat} {r : RgR} {w w' : World} (h : InBox B r w) (hu : Upd [] w w') : InBox B r w' := ⟨hu.at h.1 (by simp), h.2.stay hu⟩

set_option maxRecDepth 100000 in
set_option maxHeartbeats 400000 in
theorem items_has (r : RgR) (w : World) :
    Calls Tryz.prog 69 #[encR r] w fun e w' => e = .returned (.func (.func 78) #[] #[.pointer (some ⟨w.heap.size, 0, none⟩)]) ∧ w' = w.alloc (.cells (cellsR r) 59) := by
  have hmf : ∀ (fn : Fn) (first cap : Array Value) (w : World), (Instr.makeFunc fn first cap).run Tryz.prog w = .ok (.func fn first cap) w := fun _ _ _ _ => rfl
  unfold encR cellsR
  obtain ⟨fr, wd, cu, bl, ba, bc⟩ := r
  simp only
  generalize bl.length = n
  go_enter Tryz.func69, Tryz.ntmps69
  go_wp2
  go_ret
  exact ⟨rfl, rfl⟩

set_option maxRecDepth 100000 in
set_option maxHeartbeats 4000000 in
theorem items1_in (n : Nat) (hn : 1 ≤ n) (l Bp : Nat) (r : RgR) (hb1 : r.bk.l.length ≤ 1000000) (hb2 : ∀ s ∈ r.bk.l, s.l.length ≤ 1000000) (Kp : World → World → Prop) (B0 : Nat)
    (hK : ∀ A B, Kp A B → InBox Bp r A → InBox Bp r B) (J Jx : List (Px r.bk.l.length) → World → Prop) (hJ : AbidesFrom B0 J)
    (hY : ∀ pre x W, J pre W → pre.length < lenL (rowsOf r.bk.l) → YieldAt Fence.wide (n - 1) Tryz.prog l (penc x) W fun e W' =>
      (e = .returned (.bool true) ∧ J (pre ++ [x]) W' ∧ Kp W W') ∨ (e = .returned (.bool false) ∧ Jx (pre ++ [x]) W'))
    (W : World) (hB : InBox Bp r W) (h0 : J [] W) :
    CallsIn Fence.wide n Tryz.prog 78 #[.func (.yield l) #[] #[], .pointer (some ⟨Bp, 0, none⟩)] W fun e W' => (∃ v, e = .returned v) ∧
      ((∃ ys, pvs ys = allP (rowsOf r.bk.l) r.bk.l.length ∧ J ys W') ∨ (∃ pre, (∃ rest, pvs pre ++ rest = allP (rowsOf r.bk.l) r.bk.l.length) ∧ Jx pre W')) := by
  have HJA : Hid (∀ pre w0 o, J pre w0 → J pre (w0.alloc o)) := fun pre w0 o h => hJ pre w0 _ none h (World.grownBy_alloc w0 o none) (fun r e => by cases e)
  have HB := Lib.hid hB; have HY := Lib.hid hY; have HK := Lib.hid hK; have HB2 := Lib.hid hb2
  have HRL : Hid ((rowsOf r.bk.l).length = r.bk.l.length) := rowsOf_length _
  obtain ⟨fr, wd, cu, bl, ba, bc⟩ := r
  simp only at *
  have HCR : Hid (cellsR ⟨fr, wd, cu, ⟨bl, ba, bc⟩⟩ = #[.int .i64 fr, .int .i64 wd, .int .i64 cu, .slice ba bl.length bc]) := Lib.hid rfl
  obtain ⟨c0, c1, c2, c3⟩ := cells4 (show W.heap[Bp]? = some (.cells #[.int .i64 fr, .int .i64 wd, .int .i64 cu, .slice ba bl.length bc] 59 (0, 0)) from hB.1)
  clear hB hY hK hb2 hJ c0 c1 c2
  obtain ⟨N, hN⟩ : ∃ N, N = bl.length := ⟨_, rfl⟩
  have HN := Lib.hid hN
  rw [← hN] at hb1 c3
  clear hN
  refine callsIn_of_wp Tryz.func78 rfl trivial ?_ rfl
  simp only [Tryz.ntmps78, List.size_toArray, List.length_cons, List.length_nil, Nat.reduceAdd, Nat.reduceSub, Array.replicate_succ, Array.replicate_zero, List.push_toArray, List.append_toArray, List.nil_append, List.cons_append]
  gi_wp2
  clear c3
  gi_loopw [10] (fun i wr => ∃ (k : Nat) (pre : List (Px bl.length)), k ≤ N ∧ i = .int .i64 k ∧ Hid (pvs pre = allP (rowsOf bl) k) ∧ Hid (J pre wr) ∧ Hid (InBox Bp ⟨fr, wd, cu, ⟨bl, ba, bc⟩⟩ wr)) (fun i _ => N - (intOf i).toNat)
  case atStart => exact ⟨0, [], by omega, rfl, Lib.hid rfl, Lib.hid h0, HB⟩
  case round =>
    obtain ⟨k, pre, hk, rfl, HPR, HJS, HIB⟩ := hrel
    by_cases hlt : k < N
    · have hltz : (k : Int) < (N : Int) := by omega
      have hk1 : k < bl.length := by have := HN.out; omega
      obtain ⟨b, off, hbo, bk0⟩ := HIB.out.2.bk.row.bucket k hk1
      simp only at hbo bk0
      subst hbo
      have hro := rowsOf_at hk1
      have hbl := HB2.out _ (List.getElem_mem hk1)
      have hats := fun w0 (h : InBox Bp ⟨fr, wd, cu, ⟨bl, some ⟨b, off, none⟩, bc⟩⟩ w0) => h.2.at (j := k) hk1
      simp only at hats
      obtain ⟨bi, hbi⟩ : ∃ x, x = bl[k]'hk1 := ⟨_, rfl⟩
      rw [← hbi] at hro bk0 hbl hats
      obtain ⟨il, am, cm⟩ := bi
      have HRO := Lib.hid hro; have HAT := Lib.hid hats
      simp only at bk0 hbl HRO
      have HKB : Hid (k < (rowsOf bl).length) := by show _ < _; rw [HRL.out]; exact hk1
      generalize hlm : il.length = m at *
      have HLM := Lib.hid hlm
      clear hro hats hbi hlm
      gi_wp2
      clear bk0
      have HPR0 : Hid (pvs pre = allTo (rowsOf bl) k 0) := by show _ = _; rw [allTo_zero]; exact HPR.out
      gi_loopw [17] (fun v wi => ∃ (j : Nat) (p2 : List (Px bl.length)), j ≤ m ∧ v = .int .i64 j ∧ Hid (pvs p2 = allTo (rowsOf bl) k j) ∧ Hid (J p2 wi) ∧ Hid (InBox Bp ⟨fr, wd, cu, ⟨bl, some ⟨b, off, none⟩, bc⟩⟩ wi)) (fun v _ => m - (intOf v).toNat)
      case atStart => exact ⟨0, pre, by omega, rfl, HPR0, HJS, HIB⟩
      case round =>
        obtain ⟨j, p2, hj, rfl, HPR2, HJS2, HIB2⟩ := hrel
        by_cases hjm : j < m
        · have hjz : (j : Int) < (m : Int) := by omega
          have hj1 : j < il.length := by have := HLM.out; omega
          obtain ⟨b1, o1, hbo1, a0, a1, a2⟩ := (HAT.out _ HIB2.out).row.item j hj1
          simp only at hbo1 a0 a1 a2
          subst hbo1
          have HSU : Hid (allTo (rowsOf bl) k (j + 1) = allTo (rowsOf bl) k j ++ [(k, il[j]'hj1)]) := by
            show _ = _
            have h1 := allTo_succ (bs := rowsOf bl) (k := k) (j := j) (by rw [HRO.out]; exact hj1)
            rw [h1]
            simp only [HRO.out]
          have HLT : Hid (p2.length < lenL (rowsOf bl)) := by
            show _ < _
            rw [← pvs_length, HPR2.out]
            exact allTo_length HKB.out (by rw [HRO.out]; exact hj1)
          generalize il[j]'hj1 = it at *
          have hal := (Upd.refl [] wr).alloc (.cells #[.int .i64 it.t, .int .i64 it.q, .int .i64 it.s] 38)
          obtain ⟨fn, tmps, assign, body, hy, hR⟩ := HY.out p2 ⟨(k, it), hk1⟩ (wr.alloc (.cells #[.int .i64 it.t, .int .i64 it.q, .int .i64 it.s] 38)) (HJA.out _ _ _ HJS2.out) HLT.out
          dsimp only [penc, aggI] at hy
          have HIB3 := Lib.hid (HIB2.out.stay hal)
          clear hal
          gi_wp2
          clear a0 a1 a2 hy
          refine hR.mono ?_
          rintro e W3 (⟨rfl, hJ3, hk3⟩ | ⟨rfl, hJx3⟩)
          · have HIB4 := Lib.hid (HK.out _ _ hk3 HIB3.out)
            have HJ3 := Lib.hid hJ3
            clear hk3 hJ3 hR
            gi_wp2
            go_roundw
            case rel => exact ⟨j + 1, _, by omega, by go_num, by show _ = _; rw [pvs_snoc, HSU.out, HPR2.out], HJ3, HIB4⟩
            case measure => simp [intOf]; omega
          · have HJX := Lib.hid hJx3
            clear hJx3 hR
            gi_wp2
            refine bodyPost_ret (results_none rfl _ _ _) rfl ?_
            refine ⟨⟨_, rfl⟩, .inr ⟨_, ?_, HJX.out⟩⟩
            rw [pvs_snoc, HPR2.out]
            have h1 := allTo_pre (bs := rowsOf bl) (k := k) (j := j + 1) HKB.out
            rw [HSU.out, HRL.out] at h1
            exact h1
        · have hjz : ¬ (j : Int) < (m : Int) := by omega
          have HPR3 : Hid (pvs p2 = allP (rowsOf bl) (k + 1)) := by
            show _ = _
            rw [HPR2.out]
            exact allTo_all (by rw [HRO.out, HLM.out]; omega)
          gi_wp2
          go_roundw
          case rel => exact ⟨k + 1, p2, by omega, by go_num, HPR3, HJS2, HIB2⟩
          case measure => simp [intOf]; omega
    · have hltz : ¬ (k : Int) < (N : Int) := by omega
      have HKN : Hid (k = bl.length) := by show k = bl.length; have := HN.out; omega
      gi_wp2
      go_end0
      exact ⟨⟨_, rfl⟩, .inl ⟨pre, by rw [HPR.out, HKN.out], HJS.out⟩⟩

theorem items_stops (n : Nat) (hn : 1 ≤ n) (Bp : Nat) (r : RgR) (hb1 : r.bk.l.length ≤ 1000000) (hb2 : ∀ s ∈ r.bk.l, s.l.length ≤ 1000000) (Kp : World → World → Prop)
    (hK : ∀ A B, Kp A B → InBox Bp r A → InBox Bp r B) (w : World) (hB : InBox Bp r w) :
    SeqStopsK Fence.wide n Tryz.prog 78 #[.pointer (some ⟨Bp, 0, none⟩)] (penc (n := r.bk.l.length)) Kp (fun ys => pvs ys = allP (rowsOf r.bk.l) r.bk.l.length) (fun pre => ∃ rest, pvs pre ++ rest = allP (rowsOf r.bk.l) r.bk.l.length) (lenL (rowsOf r.bk.l)) w := fun l J Jx W hW hJ _ hY h0 =>
  items1_in n hn l Bp r hb1 hb2 Kp W.heap.size hK J Jx hJ hY W (hB.stay (Upd.of_below hW)) h0
end Go.Proofs.YtpabapjodcafkaaGreat
namespace Go.Proofs.YtpabapjodcafkaaGreat
open Go.RowKit Go.Shelf

theorem Upd.keepsFrom {S : List Nat} {W W' : World} {H : Nat} (hu : Upd S W W') (hS : ∀ x ∈ S, x < H) : KeepsFrom H W W' :=
  ⟨hu.size, fun i _ hB hi _ => hu.at hi (fun hx => by have := hS i hx; omega)⟩
theorem own_at {A B : World} {row : Option Nat} {H j : Nat} {c : Array Value} {e : TypeId} {f : Nat × Nat} (h : A.heap[j]? = some (.cells c e f)) (hg : A.grownBy B row) (hr : ∀ r, row = some r → H ≤ r ∧ ∃ o : Obj, A.heap[r]? = some o ∧ o.isCells = false) : B.heap[j]? = some (.cells c e f) := by
  rw [hg.block j (lt_block h) (fun he => ?_)]
  · exact h
  · obtain ⟨_, o, ho, hc⟩ := hr j he.symm
    rw [h] at ho
    cases ho
    simp [Obj.isCells] at hc
theorem own_upd {w A B : World} {row : Option Nat} {H : Nat} (h : Upd [] w A) (hw : w.heap.size ≤ H) (hg : A.grownBy B row) (hr : ∀ r, row = some r → H ≤ r ∧ ∃ o : Obj, A.heap[r]? = some o ∧ o.isCells = false) : Upd [] w B :=
  h.grown hg (fun k hk hl => by have := (hr k hk).1; omega)
theorem Upd.putObj {w A : World} {D : Nat} (h : Upd [] w A) (hD : w.heap.size ≤ D) (o : Obj) : Upd [] w (A.putObj D o) := h.grown (grownBy_putObj' A D o) (fun k hk hl => by cases hk; omega)
theorem upd_putObj (A : World) (D : Nat) (o : Obj) : Upd [D] A (A.putObj D o) := (Upd.refl [D] A).grown (grownBy_putObj' A D o) (fun k hk _ => by cases hk; simp)
theorem InBox.keep1 {B : Nat} {r : RgR} {w w' : World} {b : Nat} (h : InBox B r w) (hu : Upd [b] w w') (hB : B ≠ b) (ha : AvR r b) : InBox B r w' := ⟨hu.at h.1 (by simpa using hB), h.2.keep1 hu ha⟩
/-- The rung in its box is kept. -/
def KpB (B : Nat) (r : RgR) (A C : World) : Prop := InBox B r A → InBox B r C
theorem KpB.trans {B : Nat} {r : RgR} {A C D : World} (h : KpB B r A C) (k : KpB B r C D) : KpB B r A D := fun x => k (h x)
theorem KpB.put {B : Nat} {r : RgR} {w W : World} {l : Nat} (hr : HasR w r) (hB : B < w.heap.size) (hl : w.heap.size ≤ l) (o : Obj) : KpB B r W (W.putObj l o) := fun h => h.keep1 (upd_putObj W l o) (by omega) (hr.avoids hl)

def LI2 (w : World) (C H : Nat) (n : Nat) (pre : List (Px n)) (W : World) : Prop := W.heap[C]? = some (.cells #[.int .i64 (pre.length : Nat)] 3 (0, 0)) ∧ Upd [] w W ∧ H ≤ W.heap.size
theorem li_own (w : World) (C H n : Nat) (hw : w.heap.size ≤ H) : OwnFrom H (LI2 w C H n) := by
  intro pre A W' row ⟨h1, h2, h3⟩ hg hr
  exact ⟨own_at h1 hg hr, own_upd h2 hw hg hr, Nat.le_trans h3 hg.size⟩
def LX2 (n : Nat) (_ : Code) (_ : List (Px n)) (_ : World) : Prop := False
theorem lx_own (H n : Nat) (c : Code) : OwnFrom H (LX2 n c) := fun _ _ _ _ h _ _ => h
theorem ps_len {n : Nat} {bs : List (List It)} (hn : n = bs.length) {ys : List (Px n)} (h : pvs ys = allP bs n) : ys.length = lenL bs := by
  rw [← pvs_length, h, hn, allP_length bs _ (Nat.le_refl _), lenTo_all]

set_option maxRecDepth 100000 in
set_option maxHeartbeats 4000000 in
theorem Len_has (r : RgR) (w : World) (h : HasR w r) (hl : r.bk.l.length ≤ 1000000) (hs : lenL r.rg.bs ≤ 1000000) (hm : ∀ s ∈ r.bk.l, s.l.length ≤ 1000000) :
    Calls Tryz.prog 59 #[encR r] w fun e w' => e = .returned (.int .i64 (lenL r.rg.bs : Nat)) ∧ Upd [] w w' := by
  have HIT := Lib.hid (fun W => items_has r W)
  have HST := Lib.hid (fun n hn Bp Kp => items_stops n hn Bp r hl hm Kp)
  have HR := Lib.hid h
  have HPL := Lib.hid (fun (ys : List (Px r.bk.l.length)) => ps_len (bs := rowsOf r.bk.l) (rowsOf_length r.bk.l).symm (ys := ys))
  obtain ⟨fr, wd, cu, bl, ba, bc⟩ := r
  simp only at hl HST HPL
  unfold encR at HIT ⊢
  simp only [cellsR] at HIT
  simp only [RgR.rg] at hs ⊢
  have HCR : Hid (cellsR ⟨fr, wd, cu, ⟨bl, ba, bc⟩⟩ = #[.int .i64 fr, .int .i64 wd, .int .i64 cu, .slice ba bl.length bc]) := Lib.hid rfl
  generalize lenL (rowsOf bl) = M at *
  clear h hm
  refine (callsIn_wide (n := 6)).1 ?_
  refine callsIn_of_wp_marks Tryz.func59 rfl trivial ?_ rfl
  simp only [Tryz.ntmps59, List.size_toArray, List.length_cons, List.length_nil, Nat.reduceAdd, Nat.reduceSub, Array.replicate_succ, Array.replicate_zero, List.push_toArray, List.append_toArray, List.nil_append, List.cons_append]
  refine wpIn_wide.2 ?_
  go_upto_region 1 with (fail)
  have hu := (Upd.refl [] w).alloc (.cells #[.int .i64 fr, .int .i64 wd, .int .i64 cu, .slice ba bl.length bc] 59)
  have b0 := heap_alloc1 w (.cells #[.int .i64 fr, .int .i64 wd, .int .i64 cu, .slice ba bl.length bc] 59)
  have hsz : (w.alloc (.cells #[.int .i64 fr, .int .i64 wd, .int .i64 cu, .slice ba bl.length bc] 59)).heap.size = w.heap.size + 1 := by simp
  generalize w.alloc (.cells #[.int .i64 fr, .int .i64 wd, .int .i64 cu, .slice ba bl.length bc] 59) = W at *
  generalize hH : w.heap.size = H at *
  have HU := Lib.hid hu; have HB0 := Lib.hid b0; have HH := Lib.hid hH; have HSZ := Lib.hid hsz
  clear hu b0 hH hsz
  go_upto_region 2 with (fail)
  have hu1 := (Upd.refl [] W).alloc (.cells #[.int .i64 0] 3)
  have b1 := heap_alloc1 W (.cells #[.int .i64 0] 3)
  have b0 := hu1.at HB0.out (by simp)
  have hsz1 : (W.alloc (.cells #[.int .i64 0] 3)).heap.size = H + 2 := by simp [HSZ.out]
  have hC : W.heap.size = H + 1 := HSZ.out
  generalize W.alloc (.cells #[.int .i64 0] 3) = W1 at *
  rw [hC] at b1 ⊢
  have HU1 := Lib.hid hu1; have HB1 := Lib.hid b1; have HSZ1 := Lib.hid hsz1
  obtain ⟨c0, c1, c2, c3⟩ := cells4 b0
  clear hu1 b0 b1 hsz1 hC
  go_wp2_with fail
  (with_reducible refine (HIT.out _).mono ?_)
  rintro e w2 ⟨rfl, rfl⟩
  go_wp2_with fail
  have hu2 := (Upd.refl [] W1).alloc (.cells #[.int .i64 fr, .int .i64 wd, .int .i64 cu, .slice ba bl.length bc] 59)
  have b2 := heap_alloc1 W1 (.cells #[.int .i64 fr, .int .i64 wd, .int .i64 cu, .slice ba bl.length bc] 59)
  have hsz2 : (W1.alloc (.cells #[.int .i64 fr, .int .i64 wd, .int .i64 cu, .slice ba bl.length bc] 59)).heap.size = H + 3 := by simp [HSZ1.out]
  have b1 := hu2.at HB1.out (by simp)
  have hP : W1.heap.size = H + 2 := HSZ1.out
  generalize W1.alloc (.cells #[.int .i64 fr, .int .i64 wd, .int .i64 cu, .slice ba bl.length bc] 59) = W0 at *
  rw [hP] at b2 ⊢
  have hUW : Upd [] w W0 := (HU.out.thn HU1.out).thn hu2
  have hib : InBox (H + 2) ⟨fr, wd, cu, ⟨bl, ba, bc⟩⟩ W0 := ⟨b2, HR.out.stay hUW⟩
  have hhw := HH.out
  have HIB := Lib.hid hib; have HUW := Lib.hid hUW
  have havC : AvR ⟨fr, wd, cu, ⟨bl, ba, bc⟩⟩ (H + 1) := HR.out.avoids (by omega)
  clear c0 c1 c2 c3 hu2 b2 hP hib
  have hge : H + 3 ≤ W0.heap.size := by omega
  have hle : W0.heap.size ≤ H + 3 := by omega
  clear hsz2
  refine (wpIn_wide (n := 6)).1 ?_
  refine wpIn_rangeFunc_ownG rfl (by omega) (gf := 78) (lb := #[.pointer (some ⟨H + 2, 0, none⟩)]) rfl trivial (enters_of Tryz.func78 (by kernel_rfl) rfl)
    (HST.out _ (by omega) (H + 2) (KpB (H + 2) ⟨fr, wd, cu, ⟨bl, ba, bc⟩⟩) (fun A B h => h) W0 HIB.out)
    KpB.trans (fun W l o o' hl _ _ _ => KpB.put HIB.out.2 (by omega) hl o') (Below.refl _ _) (fun _ => rfl)
    (LI2 w (H + 1) W0.heap.size bl.length) (LX2 bl.length) (li_own w (H + 1) W0.heap.size bl.length HUW.out.size) (lx_own W0.heap.size bl.length) ⟨b1, HUW.out, Nat.le_refl _⟩
    (fun x => { tmps := #[.agg #[.int .i64 fr, .int .i64 wd, .int .i64 cu, .slice ba bl.length bc], .pointer (some ⟨H, 0, none⟩), .int .i64 0, .pointer (some ⟨H + 1, 0, none⟩), .agg #[.int .i64 fr, .int .i64 wd, .int .i64 cu, .slice ba bl.length bc],
      .func (.func 78) #[] #[.pointer (some ⟨H + 2, 0, none⟩)], .int .i64 x.1.1, aggI x.1.2, undef, undef, undef], defers := [] }) ?assign ?body ?done ?stop
  case assign =>
    intro l x W K hK
    have hsa := @Oper.semAt_some
    dsimp only [penc]
    gi_wp2
    exact Eq.mp (congrArg (fun t => K { tmps := t, defers := [] } W) (by simp)) hK
  case body =>
    rintro ll pre x W ⟨hc, hUw, hHw⟩ hpl
    have hsa := @Oper.semAt_some
    have d0 : W.cell? ⟨H + 1, 0, none⟩ = some (.int .i64 (pre.length : Nat)) := cell_block hc 0
    have z0 := free_block hc 0
    have hw1 : IntKind.i64.wrap ((pre.length : Int) + 1) = (pre.length : Int) + 1 := by rw [IntKind.wrap_i64]; omega
    have HC := Lib.hid hc; have HUw := Lib.hid hUw
    clear hc hUw
    gi_wp2
    have hU := upd_set1 W (H + 1) 0 (.int .i64 ((pre.length : Int) + 1))
    refine ⟨hU.keepsFrom (by simp; omega), fun h => h.keep1 hU (by omega) havC, ?_, HUw.out.new hU (by omega), Nat.le_trans hHw hU.size⟩
    rw [setCell_block HC.out, List.length_append, List.length_singleton]
    simp
  case done =>
    rintro D ys W hD hS ⟨hc, hUw, hHw⟩ hK
    have hlen := HPL.out ys hS
    rw [hlen] at hc
    have d0 : W.cell? ⟨H + 1, 0, none⟩ = some (.int .i64 (M : Nat)) := cell_block hc 0
    have HUw := Lib.hid hUw; have HK := Lib.hid hK
    clear hc hUw hK hS hlen
    go_wp2_with fail
    refine ⟨by simp, .inl ⟨_, _, rfl, run_takeDeferred HK.out, ?_⟩⟩
    refine ⟨.int .i64 (M : Nat), ?_, rfl, HUw.out.putObj (by omega) _⟩
    simp [results, Tryz.f59, go_sem]
  case stop =>
    rintro D c pre W hD hS hX hK
    exact hX.elim
end Go.Proofs.YtpabapjodcafkaaGreat
namespace Go.Proofs.YtpabapjodcafkaaGreat
open Go.RowKit Go.Shelf

theorem shp_iff (r : RgR) : Shp r.rg ↔ (0 ≤ r.fr ∧ r.fr ≤ 1152921504606846976 ∧ 1 ≤ r.wd ∧ r.wd ≤ 144115188075855873 ∧ 0 ≤ r.cu ∧ r.cu ≤ 8 ∧ r.bk.l.length = 8) :=
  ⟨fun h => ⟨h.fr0, h.fr1, h.wd0, h.wd1, h.cu0, h.cu1, by have := h.len; simpa [RgR.rg, rowsOf_length] using this⟩, fun ⟨h1, h2, h3, h4, h5, h6, h7⟩ => ⟨h1, h2, h3, h4, h5, h6, by simpa [RgR.rg, rowsOf_length] using h7⟩⟩
open Classical in
noncomputable def shpB (r : Rg) : Bool := decide (Shp r)
theorem shpB_yes {r : Rg} (h : Shp r) : shpB r = true := by simp [shpB, h]
theorem shpB_no {r : Rg} (h : ¬ Shp r) : shpB r = false := by simp [shpB, h]
def inB (fr wd i t : Int) : Bool := decide (fr + i * wd ≤ t) && decide (t < fr + (i + 1) * wd)
end Go.Proofs.YtpabapjodcafkaaGreat
