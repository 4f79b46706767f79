/- Contract: Fair of package sched. -/
import Derived.Test.YtbpkigdelfgafaaSF
namespace Go.Proofs.Ytbpkigdelfgafaa
open Go.RowKit Go.Shelf

theorem Upd.keepsFrom {S : List Nat} {W W' : World} {H : Nat} (hu : Upd S W W') (hS : ∀ x ∈ S, x < H) : KeepsFrom H W W' :=
  ⟨hu.size, fun i _ hB hi _ => hu.at hi (fun hx => by have := hS i hx; omega)⟩
def KpS (H : Nat) (S : List Nat) (A B : World) : Prop := ∀ k, k < H → k ∉ S → B.heap[k]? = A.heap[k]?
theorem KpS.trans {H : Nat} {S : List Nat} {A B C : World} (h : KpS H S A B) (k : KpS H S B C) : KpS H S A C := fun i hi hS => (k i hi hS).trans (h i hi hS)
theorem Upd.kpS {S : List Nat} {W W' : World} {H : Nat} (hu : Upd S W W') (hH : H ≤ W.heap.size) : KpS H S W W' := fun k hk hS => hu.block k (by omega) hS
theorem own_at {A B : World} {row : Option Nat} {H j : Nat} {c : Array Value} {e : TypeId} {f : Nat × Nat} (h : A.heap[j]? = some (.cells c e f)) (hg : A.grownBy B row) (hr : ∀ r, row = some r → H ≤ r ∧ ∃ o : Obj, A.heap[r]? = some o ∧ o.isCells = false) : B.heap[j]? = some (.cells c e f) := by
  rw [hg.block j (lt_block h) (fun he => ?_)]
  · exact h
  · obtain ⟨_, o, ho, hc⟩ := hr j he.symm
    rw [h] at ho
    cases ho
    simp [Obj.isCells] at hc
theorem own_upd {w A B : World} {row : Option Nat} {H : Nat} (h : Upd [] w A) (hw : w.heap.size ≤ H) (hg : A.grownBy B row) (hr : ∀ r, row = some r → H ≤ r ∧ ∃ o : Obj, A.heap[r]? = some o ∧ o.isCells = false) : Upd [] w B :=
  h.grown hg (fun k hk hl => by have := (hr k hk).1; omega)
theorem Upd.putObj {w A : World} {D : Nat} (h : Upd [] w A) (hD : w.heap.size ≤ D) (o : Obj) : Upd [] w (A.putObj D o) := h.grown (grownBy_putObj' A D o) (fun k hk hl => by cases hk; omega)

def FI (l : List Int) (n v : Nat) (w : World) (B p bc q H : Nat) (pre : List (Wx l.length v)) (W : World) : Prop :=
  ∃ s, Tally p bc n s W ∧ Boxes B n v p q false W ∧ Upd [] w W ∧ H ≤ W.heap.size ∧ ∀ k, wxs pre k → s = Tl.of n ((l.drop k).take (v - 1)) ∧ ∀ i, i < k → ∀ t : Nat, t < n → (t : Int) ∈ (l.drop i).take v
def FX (l : List Int) (n v : Nat) (w : World) (B : Nat) (c : Code) (pre : List (Wx l.length v)) (W : World) : Prop :=
  c = .ret ∧ W.heap[B + 1 + 1]? = some (.cells #[.bool false] 4 (0, 0)) ∧ Upd [] w W ∧ ∀ k, wxs pre k → fairB n v l = false
theorem fi_own (l : List Int) (n v : Nat) (w : World) (B p bc q H : Nat) (hw : w.heap.size ≤ H) : OwnFrom H (FI l n v w B p bc q H) := by
  intro pre A W' row ⟨s, hT, hB, hU, hH, hG⟩ hg hr
  exact ⟨s, ⟨hT.1, own_at hT.2.1 hg hr, own_at hT.2.2 hg hr⟩, ⟨own_at hB.1 hg hr, own_at hB.2.1 hg hr, own_at hB.2.2.1 hg hr, own_at hB.2.2.2 hg hr⟩, own_upd hU hw hg hr, Nat.le_trans hH hg.size, hG⟩
theorem fx_own (l : List Int) (n v : Nat) (w : World) (B H : Nat) (hw : w.heap.size ≤ H) (c : Code) : OwnFrom H (FX l n v w B c) := by
  intro pre A W' row ⟨hc, hB, hU, hG⟩ hg hr
  exact ⟨hc, own_at hB hg hr, own_upd hU hw hg hr, hG⟩
theorem wxs_inv {L v : Nat} {pre : List (Wx L v)} {x : Wx L v} {k' : Nat} (h : wxs (pre ++ [x]) k') : k' = x.1 + 1 ∧ wxs pre x.1 := by
  unfold wxs at *
  have hl : k' = pre.length + 1 := by have := congrArg List.length h; simp at this; omega
  subst hl
  rw [List.map_append, List.range_succ] at h
  have h1 := List.append_inj h (by simp)
  have h2 : x.1 = pre.length := by simpa using h1.2
  rw [h2]
  exact ⟨rfl, h1.1⟩
theorem win_snoc (l : List Int) (v k : Nat) (hv : 1 ≤ v) (hk : k + v ≤ l.length) : (l.drop k).take (v - 1) ++ [l[k + (v - 1)]] = (l.drop k).take v := by
  have h := List.take_succ_eq_append_getElem (l := l.drop k) (i := v - 1) (by simp; omega)
  rw [show v - 1 + 1 = v by omega] at h
  rw [h]; simp
theorem win_cons (l : List Int) (v k : Nat) (hv : 1 ≤ v) (hk : k + v ≤ l.length) : (l.drop k).take v = l[k] :: (l.drop (k + 1)).take (v - 1) := by
  obtain ⟨u, rfl⟩ : ∃ u, v = u + 1 := ⟨v - 1, by omega⟩
  rw [List.drop_eq_getElem_cons (show k < l.length by omega), List.take_succ_cons]; simp
/-- What a round that goes on leaves. -/
theorem fi_next {l : List Int} {n v : Nat} {w W W1 W2 : World} {B p bc q H : Nat} {pre : List (Wx l.length v)} {x : Wx l.length v} {s : Tl} {y z : Nat} (hn : n ≤ 64) (hl : l.length ≤ 65536) (hv0 : 1 ≤ v) (hy : l[x.1 + (v - 1)]'(by have := x.2; omega) = (y : Int)) (hyn : y < n) (hz : l[x.1]'(by have := x.2; omega) = (z : Int)) (hzn : z < n)
    (hG : ∀ k, wxs pre k → s = Tl.of n ((l.drop k).take (v - 1)) ∧ ∀ i, i < k → ∀ t : Nat, t < n → (t : Int) ∈ (l.drop i).take v) (hpr : ¬ (s.add y).pr < n)
    (hU : Upd [] w W) (hH : H ≤ W.heap.size) (hB : Boxes B n v p q false W) (hu1 : Upd [p, bc] W W1) (hu2 : Upd [p, bc] W1 W2) (hT2 : Tally p bc n ((s.add y).rem z) W2) (hp : w.heap.size ≤ p) (hbc : w.heap.size ≤ bc) (hpH : p < H) (hbH : bc < H)
    (hd : B ∉ [p, bc] ∧ B + 1 ∉ [p, bc] ∧ B + 1 + 1 ∉ [p, bc] ∧ q ∉ [p, bc]) :
    KeepsFrom H W W2 ∧ KpS H [p, bc] W W2 ∧ FI l n v w B p bc q H (pre ++ [x]) W2 := by
  have hu : Upd [p, bc] W W2 := hu1.trans hu2 (fun _ h _ => h)
  refine ⟨hu.keepsFrom (by simp; omega), hu.kpS hH, _, hT2, hB.keep hu hd.1 hd.2.1 hd.2.2.1 hd.2.2.2, hU.trans hu (by simp; omega), Nat.le_trans hH hu.size, ?_⟩
  intro k' hk'
  obtain ⟨rfl, hw⟩ := wxs_inv hk'
  obtain ⟨rfl, hfull⟩ := hG _ hw
  have hx := x.2
  have e1 : (Tl.of n ((l.drop x.1).take (v - 1))).add y = Tl.of n ((l.drop x.1).take v) := by
    rw [Tl.of_add n _ y hyn hn (by simp; omega), ← hy, win_snoc l v x.1 hv0 hx]
  rw [e1] at hpr ⊢
  refine ⟨?_, ?_⟩
  · rw [win_cons l v x.1 hv0 hx, hz, Tl.of_rem n _ z hzn hn (by simp; omega)]
  · intro i hi
    by_cases e : i = x.1
    · subst e
      exact Classical.byContradiction fun h => hpr ((pr_full n _).2 h)
    · exact hfull i (by omega)
theorem fx_next {l : List Int} {n v : Nat} {w W W1 W2 : World} {B p bc H : Nat} {pre : List (Wx l.length v)} {x : Wx l.length v} {s : Tl} {y : Nat} (hn : n ≤ 64) (hl : l.length ≤ 65536) (hv0 : 1 ≤ v) (hy : l[x.1 + (v - 1)]'(by have := x.2; omega) = (y : Int)) (hyn : y < n)
    (hG : ∀ k, wxs pre k → s = Tl.of n ((l.drop k).take (v - 1)) ∧ ∀ i, i < k → ∀ t : Nat, t < n → (t : Int) ∈ (l.drop i).take v) (hpr : (s.add y).pr < n)
    (hU : Upd [] w W) (hu1 : Upd [p, bc] W W1) (hu2 : Upd [B + 1 + 1] W1 W2) (hr : W2.heap[B + 1 + 1]? = some (.cells #[.bool false] 4 (0, 0))) (hp : w.heap.size ≤ p) (hbc : w.heap.size ≤ bc) (hBw : w.heap.size ≤ B) (hpH : p < H) (hbH : bc < H) (hBH : B + 1 + 1 < H) :
    KeepsFrom H W W2 ∧ FX l n v w B .ret (pre ++ [x]) W2 := by
  have hu : Upd [p, bc, B + 1 + 1] W W2 := (hu1.mono (by simp)).trans hu2 (by simp)
  refine ⟨hu.keepsFrom (by simp; omega), rfl, hr, hU.trans hu (by simp; omega), ?_⟩
  intro k' hk'
  obtain ⟨rfl, hw⟩ := wxs_inv hk'
  obtain ⟨rfl, hfull⟩ := hG _ hw
  have hx := x.2
  have e1 : (Tl.of n ((l.drop x.1).take (v - 1))).add y = Tl.of n ((l.drop x.1).take v) := by
    rw [Tl.of_add n _ y hyn hn (by simp; omega), ← hy, win_snoc l v x.1 hv0 hx]
  rw [e1] at hpr
  have hnf := (pr_full n _).1 hpr
  cases ef : fairB n v l with
  | false => rfl
  | true => exact absurd (fun t ht => (fairB_iff _ _ _).1 ef x.1 hx t ht) hnf
theorem fi_done {l : List Int} {n v : Nat} {w W : World} {B p bc q H : Nat} {pre : List (Wx l.length v)} (hv : v ≤ l.length) (h : wxs pre (l.length - v + 1)) (hI : FI l n v w B p bc q H pre W) : fairB n v l = true := by
  obtain ⟨s, _, _, _, _, hG⟩ := hI
  obtain ⟨_, hf⟩ := hG _ h
  exact (fairB_iff _ _ _).2 (fun i hi t ht => hf i (by omega) t ht)

/-- The loop that adds the first picks. -/
def AddRel (l : List Int) (n v : Nat) (w : World) (B p bc q : Nat) (g : Nat) (iv : Value) (wr : World) : Prop :=
  ∃ k, iv = .int .i64 (k : Nat) ∧ k + g = v - 1 ∧ Tally p bc n (Tl.of n (l.take k)) wr ∧ Boxes B n v p q false wr ∧ Upd [] w wr

set_option maxRecDepth 100000 in
set_option maxHeartbeats 2000000 in
theorem Fair_long (ad : Option Addr) (cp : Nat) (l : List Int) (n v : Nat) (hn0 : 1 ≤ n) (hn : n ≤ 64) (hv0 : 1 ≤ v) (_hv : v ≤ 100000) (hl : l.length ≤ 65536) (hlt : v ≤ l.length) (hcp : l.length ≤ cp) (hT : Thr n l) (w : World) (hi : Ints w ad l) :
    Calls Try.prog 17 #[.slice ad l.length cp, .int .i64 n, .int .i64 v] w fun e w' => e = .returned (.bool (fairB n v l)) ∧ Upd [] w w' := by
  have hd : decide ((v : Int) < 1) = false := by simp; omega
  have hd2 : decide (l.length < v) = false := by simp; omega
  obtain ⟨b, off, rfl, hc0⟩ := hi 0 (by omega)
  have hbw : b < w.heap.size := World.block_lt_of_cell? w _ hc0
  clear hc0
  have HI := Lib.hid hi; have HT := Lib.hid hT; clear hi hT
  refine (callsIn_wide (n := 6)).1 ?_
  refine callsIn_of_wp_marks Try.func17 rfl trivial ?_ rfl
  simp only [Try.ntmps17, List.size_toArray, List.length_cons, List.length_nil, Nat.reduceAdd, Nat.reduceSub, Array.replicate_succ, Array.replicate_zero, List.push_toArray, List.append_toArray, List.nil_append, List.cons_append]
  refine wpIn_wide.2 ?_
  go_wp2_with fail
  refine (validThreads_yes n (by omega) hn _).mono ?_
  rintro e w' ⟨rfl, rfl⟩
  go_wp2_with fail
  refine (newTally_any n hn _).mono ?_
  rintro e w1 ⟨p, bc, rfl, hTa, hp, hbc, hu⟩
  simp at hp hbc
  have HTA := Lib.hid hTa; clear hTa
  have b0 : w1.heap[w.heap.size]? = some (.cells #[.int .i64 n] 3 (0, 0)) := hu.at (((Upd.refl [] _).alloc _).at (((Upd.refl [] _).alloc _).at (heap_alloc1 w _) (by simp)) (by simp)) (by simp)
  have b1 : w1.heap[w.heap.size + 1]? = some (.cells #[.int .i64 v] 3 (0, 0)) := hu.at (((Upd.refl [] _).alloc _).at (heap_alloc2 w _ _) (by simp)) (by simp)
  have b2 : w1.heap[w.heap.size + 1 + 1]? = some (.cells #[.bool false] 4 (0, 0)) := hu.at (heap_alloc3 w _ _ _) (by simp)
  have hU1 : Upd [] w w1 := ((((Upd.refl [] w).alloc _).alloc _).alloc _).trans hu (by simp)
  clear hu
  have c5 := cell_block b1 0
  simp only [List.getElem?_toArray, List.getElem?_cons_zero] at c5
  have l1 := lt_block b1
  have HB0 := Lib.hid b0; have HB1 := Lib.hid b1; have HB2 := Lib.hid b2; have HU1 := Lib.hid hU1
  clear b0 b1 b2 hU1
  go_wp2_with fail
  go_loopg [29] (v - 1) (fun g iv wr => AddRel l n v w w.heap.size p bc w1.heap.size g iv wr)
  case atStart =>
    refine ⟨0, rfl, by omega, ?_, ⟨?_, ?_, ?_, heap_alloc1 _ _⟩, HU1.out.alloc _⟩
    · rw [List.take_zero, Tl.of_nil]; exact HTA.out.stay ((Upd.refl [] _).alloc _)
    · exact ((Upd.refl [] _).alloc _).at HB0.out (by simp)
    · exact ((Upd.refl [] _).alloc _).at HB1.out (by simp)
    · exact ((Upd.refl [] _).alloc _).at HB2.out (by simp)
  case round =>
    obtain ⟨k, rfl, hkg, hTa, hBx, hU⟩ := hrel
    have lq := lt_block hBx.2.2.2
    have cq := cell_block hBx.2.2.2 0
    have c5' := cell_block hBx.2.1 0
    simp only [List.getElem?_toArray, List.getElem?_cons_zero] at cq c5'
    have HTK := Lib.hid hTa; have HBX := Lib.hid hBx; have HUK := Lib.hid hU; clear hTa hBx hU
    by_cases hk : k < v - 1
    · obtain ⟨b', off', hbo, hc⟩ := (HI.out.stay HUK.out) k (by omega)
      cases hbo
      have hth := HT.out _ (List.getElem_mem (show k < l.length by omega))
      have htk := List.take_succ_eq_append_getElem (show k < l.length by omega)
      generalize l[k]'(by omega) = y at *
      obtain ⟨y, rfl⟩ := Int.eq_ofNat_of_zero_le hth.1
      have hy : y < n := by omega
      have HTK' := Lib.hid htk; clear htk hth
      go_wp2_with fail
      refine (add_any p bc n y _ hy hn _ HTK.out).mono ?_
      rintro e w2 ⟨rfl, hT2, hu2⟩
      rw [Tl.of_add n _ y hy hn (by simp; omega), ← HTK'.out] at hT2
      have HT2 := Lib.hid hT2; have HU2 := Lib.hid hu2; clear hT2 hu2
      go_wp2_with fail
      go_roundg (gk - 1)
      case measure => omega
      case rel =>
        refine ⟨k + 1, by go_num, by omega, HT2.out, HBX.out.keep HU2.out ?_ ?_ ?_ ?_, HUK.out.trans HU2.out (by simp; omega)⟩
        · simp; omega
        · simp; omega
        · simp; omega
        · have h1 := ne_block HBX.out.2.2.2 HTK.out.2.1 (by decide)
          have h2 := ne_block HBX.out.2.2.2 HTK.out.2.2 (by decide)
          simp; exact ⟨h1, h2⟩
    · obtain rfl : v - 1 = k := by omega
      go_wp2_with fail
      refine (windows_any _ _ _ _ _).mono ?_
      rintro e w2 ⟨rfl, rfl⟩
      go_wp2_with fail
      have hq1 := ne_block HBX.out.2.2.2 HTK.out.2.1 (by decide)
      have hq2 := ne_block HBX.out.2.2.2 HTK.out.2.2 (by decide)
      have hpl := lt_block HTK.out.2.1
      have hbl := lt_block HTK.out.2.2
      have hsz := HUK.out.size
      have e0 := heap_alloc2 wr (.cells #[.slice (some ⟨b, off, none⟩) l.length cp] 26) (.cells #[.int .i64 v] 3)
      have e1 := ((Upd.refl [] _).alloc (.cells #[.int .i64 v] 3)).at (heap_alloc1 wr (.cells #[.slice (some ⟨b, off, none⟩) l.length cp] 26)) (by simp)
      have hUW : Upd [] wr ((wr.alloc (.cells #[.slice (some ⟨b, off, none⟩) l.length cp] 26)).alloc (.cells #[.int .i64 v] 3)) := ((Upd.refl [] wr).alloc _).alloc _
      have hszW : ((wr.alloc (.cells #[.slice (some ⟨b, off, none⟩) l.length cp] 26)).alloc (.cells #[.int .i64 v] 3)).heap.size = wr.heap.size + 2 := by simp
      have hs1 := Nat.le_of_eq hszW
      have hs2 := Nat.le_of_eq hszW.symm
      clear hszW
      generalize ((wr.alloc (.cells #[.slice (some ⟨b, off, none⟩) l.length cp] 26)).alloc (.cells #[.int .i64 v] 3)) = W0 at *
      refine (wpIn_wide (n := 6)).1 ?_
      refine wpIn_rangeFunc_ownG rfl (by omega) (gf := 32) (lb := #[.pointer (some ⟨wr.heap.size + 1, 0, none⟩), .pointer (some ⟨wr.heap.size, 0, none⟩)]) rfl trivial (enters_of Try.func32 (by kernel_rfl) rfl)
        (windows_stops _ (by omega) wr.heap.size (wr.heap.size + 1) b off l.length cp v hv0 hlt hl hcp (KpS W0.heap.size [p, bc]) (fun A B hK => ⟨hK _ (by omega) (by simp; omega), hK _ (by omega) (by simp; omega)⟩) W0 e1 e0)
        KpS.trans (fun W l o o' hl _ _ _ k hk _ => World.putObj_heap_other (by omega)) (Below.refl _ _) (fun _ => rfl)
        (FI l n v w w.heap.size p bc w1.heap.size W0.heap.size) (FX l n v w w.heap.size)
        (fi_own l n v w w.heap.size p bc w1.heap.size W0.heap.size (by omega)) (fx_own l n v w w.heap.size W0.heap.size (by omega)) ?start
        (fun x => { tmps := #[.slice (some ⟨b, off, none⟩) l.length cp, .int .i64 n, .int .i64 v, undef, .pointer (some ⟨w.heap.size, 0, none⟩), .pointer (some ⟨w.heap.size + 1, 0, none⟩), .pointer (some ⟨w.heap.size + 1 + 1, 0, none⟩), .pointer (some ⟨w1.heap.size, 0, none⟩), undef, u9,
          .slice (some ⟨b, off + x.1, none⟩) v (cp - x.1), .int .i64 n, .bool true, .bool false, .bool false, .int .i64 v, .bool false, .bool false, .slice (some ⟨b, off, none⟩) l.length cp, .int .i64 l.length, .int .i64 v, .bool false, .int .i64 n, .pointer (some ⟨p, 0, none⟩), .slice (some ⟨b, off, none⟩) l.length cp,
          .int .i64 v, .int .i64 (v - 1), .slice (some ⟨b, off, none⟩) (v - 1) cp, .int .i64 ((v - 1 : Nat) : Int), .int .i64 ((v - 1 : Nat) : Int), .bool false, u31, u32, u33, u34, u35, u36, .slice (some ⟨b, off, none⟩) l.length cp, .int .i64 v,
          .func (.func 32) #[] #[.pointer (some ⟨wr.heap.size + 1, 0, none⟩), .pointer (some ⟨wr.heap.size, 0, none⟩)], .slice (some ⟨b, off + x.1, none⟩) v (cp - x.1),
          undef, undef, undef, undef, undef, undef, undef, undef, undef, undef, undef, undef, undef, undef, undef, undef, undef, undef], defers := [] }) ?assign ?body ?done ?stop
      case start =>
        refine ⟨_, HTK.out.stay hUW, HBX.out.keep hUW (by simp) (by simp) (by simp) (by simp), HUK.out.trans hUW (by simp), Nat.le_refl _, ?_⟩
        intro k hk
        have : k = 0 := by have := congrArg List.length hk; simpa using this.symm
        subst this
        exact ⟨by simp, fun i hi => by omega⟩
      case assign =>
        intro l x W K hK
        have hsa := @Oper.semAt_some
        dsimp only [wenc]
        gi_wp2
        exact hK
      case body =>
        rintro ll pre x W ⟨s, hTw, hBw, hUw, hHw, hG⟩ _
        have hsa := @Oper.semAt_some
        have hmx : Try.prog.follows .mixedOrders = true := by kernel_rfl
        have hx := x.2
        obtain ⟨b', off', hbo, hc⟩ := (HI.out.stay hUw) (x.1 + (v - 1)) (by omega)
        cases hbo
        obtain ⟨b', off', hbo, hc2⟩ := (HI.out.stay hUw) x.1 (by omega)
        cases hbo
        have hth := HT.out _ (List.getElem_mem (show x.1 + (v - 1) < l.length by omega))
        have hth2 := HT.out _ (List.getElem_mem (show x.1 < l.length by omega))
        obtain ⟨y, hy⟩ := Int.eq_ofNat_of_zero_le hth.1
        obtain ⟨z, hz⟩ := Int.eq_ofNat_of_zero_le hth2.1
        have hyn : y < n := by omega
        have hzn : z < n := by omega
        rw [hy] at hc
        rw [hz] at hc2
        have lq := lt_block hBw.2.2.2
        have cq := cell_block hBw.2.2.2 0
        have c5' := cell_block hBw.2.1 0
        have c4' := cell_block hBw.1 0
        simp only [List.getElem?_toArray, List.getElem?_cons_zero] at cq c5' c4'
        rw [← Nat.add_assoc] at hc
        have HY := Lib.hid hy; have HZ := Lib.hid hz; have HTW := Lib.hid hTw; have HBW := Lib.hid hBw; have HUW := Lib.hid hUw; have HGW := Lib.hid hG
        clear hy hz hTw hBw hUw hG hth hth2
        have hdis : w.heap.size ∉ [p, bc] ∧ w.heap.size + 1 ∉ [p, bc] ∧ w.heap.size + 1 + 1 ∉ [p, bc] ∧ w1.heap.size ∉ [p, bc] := by
          refine ⟨?_, ?_, ?_, ?_⟩
          · simp; omega
          · simp; omega
          · simp; omega
          · simp; exact ⟨hq1, hq2⟩
        obtain ⟨s1, hs⟩ : ∃ s1, s.add y = s1 := ⟨_, rfl⟩
        have HS := Lib.hid hs; clear hs
        have hadd := add_any p bc n y s hyn hn W.drew (HTW.out.stay (Upd.refl [] W).drew)
        rw [HS.out] at hadd
        have HADD : Hid (∀ {R : Ending → World → Prop}, (∀ W1, Tally p bc n s1 W1 → Upd [p, bc] W W1 → R (.returned (.tuple #[])) W1) → Calls Try.prog 26 #[.pointer (some ⟨p, 0, none⟩), .int .i64 y] W.drew R) := fun hR => hadd.mono (by rintro e W1 ⟨rfl, h1, h2⟩; exact hR W1 h1 (((Upd.refl _ W).drew).trans h2 (fun _ h _ => h)))
        clear hadd
        have hlt1 : v - 1 < v := by omega
        have hw1 : IntKind.i64.wrap ((v : Int) - 1) = ((v - 1 : Nat) : Int) := by rw [IntWalk.i64_in _ (by omega)]; omega
        gi_wp2
        gi_cut [] from 41 (fun wx => Tally p bc n s1 wx ∧ Upd [p, bc] W wx)
        case first =>
          gi_region_with_o ((refine ⟨trivial, ?_⟩; gi_at_call 26; refine (CallsIn.inRound ll (callsIn_wide.2 (HADD.out ?_))); intro W1 hT1 hu1))
          all_goals (gi_wp2; gi_meet)
          all_goals exact ⟨hT1, hu1⟩
        case rest =>
          obtain ⟨hT1, hu1⟩ := hcut
          have HBW1 := Lib.hid (HBW.out.keep hu1 hdis.1 hdis.2.1 hdis.2.2.1 hdis.2.2.2)
          have HT1 := Lib.hid hT1; have HU1' := Lib.hid hu1
          have dq := cell_block HBW1.out.2.2.2 0
          have d4 := cell_block HBW1.out.1 0
          have dp := cell_block HT1.out.2.1 1
          have lp := lt_block HT1.out.2.1
          simp only [List.getElem?_toArray, List.getElem?_cons_zero, List.getElem?_cons_succ] at dq d4 dp
          clear hT1 hu1 HADD hw1
          obtain ⟨W1, hW1⟩ : ∃ W1, W1 = wc := ⟨_, rfl⟩
          subst hW1
          gi_wp2
          gi_cut [53] from 41 (fun u wx => u = .bool (decide (s1.pr < (n : Int))) ∧ Upd [] W1 wx)
          case first =>
            gi_region_with_o (fail)
            all_goals (gi_wp2; gi_meet)
            all_goals exact ⟨rfl, (Upd.refl [] _).drew⟩
          case rest =>
            obtain ⟨rfl, hu2⟩ := hcut
            have HU2 := Lib.hid hu2; clear hu2
            by_cases hpr : s1.pr < n
            · rw [decide_eq_true hpr]
              have HB2' := Lib.hid (HU2.out.at HBW1.out.2.2.1 (by simp))
              have d6 := cell_block HB2'.out 0
              have g6 := free_block HB2'.out 0
              simp only [List.getElem?_toArray, List.getElem?_cons_zero] at d6
              gi_wp2
              refine fx_next hn hl hv0 HY.out hyn HGW.out (by rw [HS.out]; exact hpr) HUW.out (HU1'.out.trans HU2.out (by simp)) ((Upd.refl [w.heap.size + 1 + 1] _).setCell (by simp) _) ?_ (by omega) (by omega) (Nat.le_refl _) (by omega) (by omega) (by omega)
              rw [setCell_block HB2'.out]
              rfl
            · rw [decide_eq_false hpr]
              have HBW2 := Lib.hid (HBW1.out.keep HU2.out (by simp) (by simp) (by simp) (by simp))
              have HT2 := Lib.hid (HT1.out.stay HU2.out)
              have eq := cell_block HBW2.out.2.2.2 0
              simp only [List.getElem?_toArray, List.getElem?_cons_zero] at eq
              have hc3 := HU2.out.cell (HU1'.out.cell hc2 (by simp; omega)) (by simp)
              have hrem := rem_any p bc n z s1 hzn hn wc.drew (HT2.out.stay (Upd.refl [] wc).drew)
              have HREM : Hid (∀ {R : Ending → World → Prop}, (∀ W2, Tally p bc n (s1.rem z) W2 → Upd [p, bc] wc W2 → R (.returned (.tuple #[])) W2) → Calls Try.prog 28 #[.pointer (some ⟨p, 0, none⟩), .int .i64 z] wc.drew R) := fun hR => hrem.mono (by rintro e W1 ⟨rfl, h1, h2⟩; exact hR W1 h1 (((Upd.refl _ _).drew).trans h2 (fun _ h _ => h)))
              clear hrem
              gi_wp2
              gi_region_with_o ((refine ⟨trivial, ?_⟩; gi_at_call 28; refine (CallsIn.inRound ll (callsIn_wide.2 (HREM.out ?_))); intro W2 hT3 hu3))
              all_goals gi_wp2
              all_goals exact fi_next hn hl hv0 HY.out hyn HZ.out hzn HGW.out (by rw [HS.out]; omega) HUW.out hHw HBW.out (HU1'.out.trans HU2.out (by simp)) hu3 (by rw [HS.out]; exact hT3) (by omega) (by omega) (by omega) (by omega) hdis
      case done =>
        rintro D ys W hD hS hI hK
        have hfair := fi_done hlt hS hI
        obtain ⟨s, hTw, hBw, hUw, hHw, hG⟩ := hI
        have d6 := cell_block hBw.2.2.1 0
        have g6 := free_block hBw.2.2.1 0
        simp only [List.getElem?_toArray, List.getElem?_cons_zero] at d6
        have HB := Lib.hid hBw; have HU := Lib.hid hUw; have HF := Lib.hid hfair; have HK := Lib.hid hK
        clear hBw hUw hG hTw hfair hK hS
        go_wp2_with fail
        have hK' := (KeepsOthers.setCell W ⟨w.heap.size + 1 + 1, 0, none⟩ (.bool true)).same D _ HK.out rfl
        refine ⟨by simp, .inl ⟨_, _, rfl, run_takeDeferred hK', ?_⟩⟩
        have hb6 : (W.setCell ⟨w.heap.size + 1 + 1, 0, none⟩ (.bool true)).heap[w.heap.size + 1 + 1]? = some (.cells #[.bool true] 4 (0, 0)) := by rw [setCell_block HB.out.2.2.1]; rfl
        have hb7 := own_at (H := 0) hb6 (grownBy_putObj' _ D (.deferred none)) (fun r e => by cases e; exact ⟨Nat.zero_le _, _, hK', rfl⟩)
        have hc6 := cell_block hb7 0
        simp only [List.getElem?_toArray, List.getElem?_cons_zero] at hc6
        refine ⟨.bool true, ?_, by rw [HF.out], (HU.out.setCell (by simp; omega) _).putObj (by omega) _⟩
        simp [results, Try.f17, go_sem, hc6]
      case stop =>
        rintro D c pre W hD ⟨k, hk, hw⟩ ⟨rfl, hr, hU, hG⟩ hK
        have hfair := hG k hw
        have HB := Lib.hid hr; have HU := Lib.hid hU; have HF := Lib.hid hfair; have HK := Lib.hid hK
        clear hr hU hG hfair hK
        gi_wp2
        refine ⟨by simp, .inl ⟨_, _, rfl, run_takeDeferred HK.out, ?_⟩⟩
        have hb7 := own_at (H := 0) HB.out (grownBy_putObj' _ D (.deferred none)) (fun r e => by cases e; exact ⟨Nat.zero_le _, _, HK.out, rfl⟩)
        have hc6 := cell_block hb7 0
        simp only [List.getElem?_toArray, List.getElem?_cons_zero] at hc6
        refine ⟨.bool false, ?_, by rw [HF.out], HU.out.putObj (by omega) _⟩
        simp [results, Try.f17, go_sem, hc6]

theorem Fair_any (ad : Option Addr) (cp : Nat) (l : List Int) (n v : Nat) (hn0 : 1 ≤ n) (hn : n ≤ 64) (hv0 : 1 ≤ v) (hv : v ≤ 100000) (hl : l.length ≤ 65536) (hcp : l.length ≤ cp) (hT : Thr n l) (w : World) (hi : Ints w ad l) :
    Calls Try.prog 17 #[.slice ad l.length cp, .int .i64 n, .int .i64 v] w fun e w' => e = .returned (.bool (fairB n v l)) ∧ Upd [] w w' := by
  by_cases h : l.length < v
  · exact Fair_short ad cp l n v hn0 hn hv0 hv hl h w
  · exact Fair_long ad cp l n v hn0 hn hv0 hv hl (by omega) hcp hT w hi
end Go.Proofs.Ytbpkigdelfgafaa
