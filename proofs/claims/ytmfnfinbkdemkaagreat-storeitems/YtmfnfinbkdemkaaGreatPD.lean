/- Contract: the store's Alloc. -/
/- Contract: the store's Free. -/
/- Contract: the program's clone of a queue: all its rows are new. -/
import Derived.Test.YtmfnfinbkdemkaaGreatIG
import Derived.Test.YtmfnfinbkdemkaaGreatID
namespace Go.Proofs.YtmfnfinbkdemkaaGreat
open Go.RowKit Go.Lib
open A5

def Rw.add (r : Rw) (n : Nat) : Rw := { r with v := r.v + n }
theorem declare_in {F : List Nat} {d : At} {r : Rw} {w : World} (h : InR F d r w) (hs : Sm r.mem) (t : Int) (b : Nat) (xs : List Nat) {O : Obj} (hx : w.heap[b]? = some O) (hO : O = .cells (xs.map (fun k : Nat => Value.int .i64 k)).toArray 3 (0, 0)) (hb : b ∉ F) (hk : ∀ k ∈ xs, k < 4) (hn : xs.length ≤ 4) {n : Nat} (hnn : n = xs.length) :
    Calls Tryz.prog 35 #[.agg #[.pointer (some ⟨d.m, 0, none⟩)], .int .i64 t, .slice (some ⟨b, 0, none⟩) n n] w fun e w' => e = .returned (.tuple #[]) ∧ InR F d (r.add (missK r.ms t xs)) w' ∧ Goes F F w w' := by
  subst hnn hO
  obtain ⟨FM, iv, l, rfl, h⟩ := h
  refine (declare_has h.mem hs t b xs hx (fun hm => hb (mem_foot.2 (.inr (.inr (.inr hm))))) hk hn).mono ?_
  rintro e w' ⟨rfl, hm, hu⟩
  obtain ⟨h1, h2⟩ := h.memory (r' := r.add (missK r.ms t xs)) hm ⟨hu, fun x hx => .inl hx⟩ rfl rfl
  exact ⟨rfl, ⟨FM, iv, l, rfl, h1⟩, h2⟩
/-- The mutexes in a slice built for the call. -/
theorem declare_new {F : List Nat} {d : At} {r : Rw} {w : World} (h : InR F d r w) (hs : Sm r.mem) (t : Int) (xs : List Nat) (hk : ∀ k ∈ xs, k < 4) (hn : xs.length ≤ 4) {O : Obj} (hO : O = .cells (xs.map (fun k : Nat => Value.int .i64 k)).toArray 3 (0, 0)) {n : Nat} (hnn : n = xs.length) :
    Calls Tryz.prog 35 #[.agg #[.pointer (some ⟨d.m, 0, none⟩)], .int .i64 t, .slice (some ⟨w.heap.size, 0, none⟩) n n] (w.alloc O) fun e w' => e = .returned (.tuple #[]) ∧ InR F d (r.add (missK r.ms t xs)) w' ∧ Goes F F w w' := by
  refine (declare_in (h.stay ((Upd.refl [] w).alloc O)) hs t w.heap.size xs (heap_alloc1 w O) hO (fun hm => by have := h.lt _ hm; omega) hk hn hnn).mono ?_
  rintro e w' ⟨rfl, h1, h2⟩
  exact ⟨rfl, h1, Goes.after ((Upd.refl [] w).alloc O) h2⟩
theorem own_cut {w : World} {base g cap n : Nat} {e : TypeId} {xs : List Value} {x : Value} (h : w.ownsRow base e 1 (.slice (some ⟨g, 0, none⟩) (n + 1) cap) (n + 1) (xs ++ [x])) : w.ownsRow base e 1 (.slice (some ⟨g, 0, none⟩) n cap) n xs := by
  have h1 := h.1
  refine ⟨by simp at h1; omega, ?_⟩
  rcases h.2 with ⟨hn, _⟩ | ⟨g', cap', cur, ev, hb, hg, hc, hm, hs, ht⟩
  · simp at hn
  · simp only [Value.slice.injEq, Option.some.injEq, Addr.mk.injEq, and_true, true_and] at ev
    obtain ⟨rfl, rfl⟩ := ev
    refine .inr ⟨g, cap, cur, rfl, hb, hg, by omega, hm, hs, ?_⟩
    have hl : xs.length = n := by simp at h1; omega
    have := congrArg (List.take n) ht
    rw [List.take_take, Nat.min_eq_left (by omega), show (xs ++ [x]).take n = xs from by rw [← hl]; simp] at this
    rw [Nat.mul_one]; exact this
theorem own_cells {w : World} {base n : Nat} {e : TypeId} {v : Value} {xs : List Value} (h : w.ownsRow base e 1 v n xs) (h0 : 0 < n) : ∃ g cap, v = .slice (some ⟨g, 0, none⟩) n cap ∧ n ≤ cap ∧ ∀ (k : Nat) (u : Value), xs[k]? = some u → w.cell? ⟨g, k, none⟩ = some u := by
  rcases h.2 with ⟨_, h1⟩ | ⟨g, cap, cur, rfl, hb, hg, hc, _, hs, ht⟩
  · omega
  · refine ⟨g, cap, rfl, hc, fun k u hu => ?_⟩
    have := h.cells (g := g) rfl k u hu
    rw [Addr.add_lit, Nat.zero_add] at this
    exact this
/-- What Alloc does where a slot is free. -/
def Rw.took (r : Rw) (i : Nat) (ids : List Int) (g t : Int) (lg : List Acc) : Rw := ⟨r.ws.set (i + 1) (4 * g + 1), ⟨r.ar.sl.set i ⟨0, 0, t, r.ar.nx⟩, ids, r.ar.nx + 1⟩, r.q, r.ms, lg, r.v⟩
theorem add_sm {r : Rw} (h : Sm r.mem) (n : Nat) (hn : r.v + n ≤ 50000) : Sm (r.add n).mem := ⟨h.ws, h.ms, h.log, by have := h.v0; simp only [Rw.mem, Rw.add] at *; omega, by simp only [Rw.mem, Rw.add]; omega⟩
set_option maxRecDepth 100000 in
set_option maxHeartbeats 2000000 in
theorem Alloc_no {F : List Nat} {d : At} {r : Rw} {w : World} (h : InR F d r w) (hs : Sm r.mem) (th t : Int) (he : r.ar.id = []) :
    Calls Tryz.prog 14 #[.pointer (some ⟨d.p, 0, none⟩), .int .i64 th, .int .i64 t] w fun e w' => e = .returned (.tuple #[.int .i64 0, .bool false]) ∧ InR F d (r.add (missK r.ms th [3])) w' ∧ Goes F F w w' := by
  have HC := Lib.hid (orNone_in d.p)
  have c0 := h.cell0
  have HD := Lib.hid (declare_new h hs th [3] (by decide) (by decide) (O := .cells #[.int .i64 3] 3) rfl (n := 1) rfl)
  have HE := Lib.hid he
  clear h hs he
  go_enter Tryz.func14, Tryz.ntmps14
  go_wp2_with fail
  refine (HC.out _).mono ?_
  rintro e w' ⟨rfl, rfl⟩
  go_wp2_with fail
  refine HD.out.mono ?_
  rintro e w1 ⟨rfl, hi, hg⟩
  have HI := Lib.hid hi; have HG := Lib.hid hg
  obtain ⟨FM, iv, l, hF, h1⟩ := hi
  have hrow := h1.id
  rw [show (r.add (missK r.ms th [3])).ar.id = [] from HE.out] at hrow
  obtain ⟨va, vc, rfl⟩ := row_shape hrow
  obtain ⟨-, -, c2, -⟩ := cells10 h1.box
  clear hg h1 hF hrow c0
  go_wp2_with fail
  go_ret2
  exact ⟨rfl, HI.out, HG.out⟩
set_option maxRecDepth 100000 in
set_option maxHeartbeats 4000000 in
theorem Alloc_yes {F : List Nat} {d : At} {r : Rw} {w : World} (h : InR F d r w) (hs : Sm r.mem) (hv : r.v ≤ 40000) (th t : Int) (i : Nat) (ids : List Int) (he : r.ar.id = ids ++ [(i : Int)]) (hi : i < r.ar.sl.length) (hl : r.ar.id.length ≤ 1000) (hnx : 0 ≤ r.ar.nx ∧ r.ar.nx ≤ 1000000000000) (g s : Int) (hg : 0 ≤ g ∧ g ≤ 1099511627776) (hs4 : 0 ≤ s ∧ s < 4) (hw : r.ws[i + 1]? = some (4 * g + s)) (hi64 : i < 64) :
    Calls Tryz.prog 14 #[.pointer (some ⟨d.p, 0, none⟩), .int .i64 th, .int .i64 t] w fun e w' => e = .returned (.tuple #[.int .i64 (64 * g + i), .bool true]) ∧ ∃ F' lg, lg.length ≤ r.log.length + 1 ∧ InR F' d ((r.add (missK r.ms th [3])).took i ids g t lg) w' ∧ Goes F F' w w' := by
  have HC := Lib.hid (orNone_in d.p)
  have c0 := h.cell0
  have HD := Lib.hid (declare_new h hs th [3] (by decide) (by decide) (O := .cells #[.int .i64 3] 3) rfl (n := 1) rfl)
  have hmk : missK r.ms th [3] ≤ 1 := missK_le _ _ _
  have hsm := add_sm hs (missK r.ms th [3]) (by omega)
  generalize missK r.ms th [3] = mk at *
  have HE := Lib.hid he; have HI := Lib.hid hi; have HW := Lib.hid hw
  have HSM := Lib.hid hsm
  have HGEN := Lib.hid (hGen_in (4 * g + s) (by omega))
  have HWORD := Lib.hid (A4.Word_in g 1 hg (by decide))
  have HMAKE := Lib.hid (A4.Make_in i g (by omega) hg)
  rw [show (4 * g + s) / 4 = g by omega] at HGEN
  obtain ⟨n, hn⟩ : ∃ n, n = ids.length := ⟨_, rfl⟩
  have HN := Lib.hid hn
  have hln : n ≤ 1000 := by rw [he] at hl; simp at hl; omega
  clear h hs he hi hl hw hsm hg hs4 hv hmk hn
  go_enter Tryz.func14, Tryz.ntmps14
  go_wp2_with fail
  refine (HC.out _).mono ?_
  rintro e w' ⟨rfl, rfl⟩
  go_wp2_with fail
  refine HD.out.mono ?_
  rintro e w1 ⟨rfl, hi, hg⟩
  have HG := Lib.hid hg
  obtain ⟨FM, iv, l, hF, h1⟩ := hi
  have hrow := h1.id
  rw [show (r.add mk).ar.id = ids ++ [(i : Int)] from HE.out] at hrow
  simp only [List.length_append, List.length_singleton, List.map_append, List.map_cons, List.map_nil] at hrow
  rw [← HN.out] at hrow
  obtain ⟨ig, cap, rfl, hcap, hcell⟩ := own_cells hrow (by omega)
  have ci := hcell n (.int .i64 i) (by rw [HN.out]; simp)
  obtain ⟨-, -, c2, c3, -⟩ := cells10 h1.box
  obtain ⟨f2, -⟩ := free10 h1.box
  have HROW := Lib.hid (own_cut hrow)
  have HT1 := Lib.hid h1
  have HFF := Lib.hid hF
  have hsub : IntKind.i64.wrap ((n : Int) + 1 - 1) = n := by rw [IntKind.wrap_i64]; omega
  clear hg h1 hF hrow c0 hcell
  go_upto_region 8 with (fail)
  have hset := setCell_block (o := 2) HT1.out.box (.slice (some ⟨ig, 0, none⟩) n cap)
  have hu2 := upd_set1 w1 d.p 2 (.slice (some ⟨ig, 0, none⟩) n cap)
  obtain ⟨h2, g2⟩ := HT1.out.boxed (iv' := .slice (some ⟨ig, 0, none⟩) n cap) (l' := l) (r' := ⟨r.ws, ⟨r.ar.sl, ids, r.ar.nx⟩, r.q, r.ms, r.log, r.v + mk⟩) (Upd.refl _ _) HT1.out.mem HT1.out.sl hu2 hset rfl rfl (by simp only; rw [← HN.out]; exact HROW.out) HT1.out.id_p (fun k hk => .inl hk) HT1.out.eq HT1.out.has HT1.out.av
  with_reducible generalize w1.setCell ⟨d.p, 2, none⟩ (.slice (some ⟨ig, 0, none⟩) n cap) = W2 at h2 g2 ⊢
  have HT2 := Lib.hid h2; have HG2 := Lib.hid g2
  obtain ⟨k0, k1, k2, k3, -⟩ := cells10 h2.box
  have hiz : (i : Int) < (r.ar.sl.length : Int) := by have := HI.out; omega
  have hi1 := HI.out
  obtain ⟨e0, e1, e2, e3⟩ := flatS_at r.ar.sl i HI.out
  obtain ⟨y0, z0⟩ := h2.sl.cell _ _ e0
  obtain ⟨y1, z1⟩ := h2.sl.cell _ _ e1
  obtain ⟨y2, z2⟩ := h2.sl.cell _ _ e2
  obtain ⟨y3, z3⟩ := h2.sl.cell _ _ e3
  have hne := h2.sg_ne
  have lsg := h2.sl.lt
  clear h2 g2 hset hu2 c2 c3 f2 ci e0 e1 e2 e3
  go_region
  all_goals go_upto_region 9 with (fail)
  obtain ⟨h3, u3⟩ := HT2.out.slot i HI.out ⟨0, 0, t, r.ar.nx⟩ (r' := ⟨r.ws, ⟨r.ar.sl.set i ⟨0, 0, t, r.ar.nx⟩, ids, r.ar.nx⟩, r.q, r.ms, r.log, r.v + mk⟩) rfl
  simp only at h3 u3
  with_reducible generalize (((W2.setCell ⟨d.sg, i * 4, none⟩ (.int .i64 0)).setCell ⟨d.sg, i * 4 + 1, none⟩ (.int .i64 0)).setCell ⟨d.sg, i * 4 + 2, none⟩ (.int .i64 t)).setCell ⟨d.sg, i * 4 + 3, none⟩ (.int .i64 r.ar.nx) = W3 at h3 u3 ⊢
  have h4 := h3.stay (Upd.refl [] W3).drew
  have u4 : Goes F F W2 W3.drew := by rw [HFF.out]; exact ⟨(u3.mono (by simp [foot])).drew, fun x hx => .inl hx⟩
  generalize W3.drew = W4 at h4 u4 ⊢
  have hwn : IntKind.i64.wrap (r.ar.nx + 1) = r.ar.nx + 1 := by rw [IntKind.wrap_i64]; omega
  have HT4 := Lib.hid h4; have HG4 := Lib.hid u4
  obtain ⟨m0, m1, m2, m3, -⟩ := cells10 h4.box
  obtain ⟨-, f3, -⟩ := free10 h4.box
  simp only at m3
  clear h3 u3 h4 u4 k0 k1 k2 k3 y0 y1 y2 y3 z0 z1 z2 z3 lsg hne
  go_upto_region 10 with (fail)
  have hset := setCell_block (o := 3) HT4.out.box (.int .i64 (r.ar.nx + 1))
  have hu5 := upd_set1 W4 d.p 3 (.int .i64 (r.ar.nx + 1))
  obtain ⟨h5, g5⟩ := HT4.out.boxed (iv' := .slice (some ⟨ig, 0, none⟩) n cap) (l' := l) (r' := ⟨r.ws, ⟨r.ar.sl.set i ⟨0, 0, t, r.ar.nx⟩, ids, r.ar.nx + 1⟩, r.q, r.ms, r.log, r.v + mk⟩) (Upd.refl _ _) HT4.out.mem HT4.out.sl hu5 hset rfl rfl HT4.out.id HT4.out.id_p (fun k hk => .inl hk) HT4.out.eq HT4.out.has HT4.out.av
  with_reducible generalize W4.setCell ⟨d.p, 3, none⟩ (.int .i64 (r.ar.nx + 1)) = W5 at h5 g5 ⊢
  have HI5 : Hid (InR F d ⟨r.ws, ⟨r.ar.sl.set i ⟨0, 0, t, r.ar.nx⟩, ids, r.ar.nx + 1⟩, r.q, r.ms, r.log, r.v + mk⟩ W5) := ⟨FM, .slice (some ⟨ig, 0, none⟩) n cap, l, HFF.out, h5⟩
  have HG5 : Hid (Goes F F w W5) := ((HG.out.trans (by rw [HFF.out]; exact HG2.out)).trans HG4.out).trans (by rw [HFF.out]; exact g5)
  obtain ⟨hwi, hwv⟩ := List.getElem?_eq_some_iff.1 HW.out
  have hsm5 : Sm (Rw.mem ⟨r.ws, ⟨r.ar.sl.set i ⟨0, 0, t, r.ar.nx⟩, ids, r.ar.nx + 1⟩, r.q, r.ms, r.log, r.v + mk⟩) := HSM.out
  have HWD := Lib.hid (word_has HI5.out hsm5 i hwi)
  have HSW := Lib.hid (setWord_has HI5.out hsm5 th i (4 * g + 1) hwi)
  simp only [hwv] at HWD
  clear hset hu5 h5 g5 m0 m1 m2 m3 f3 hwi hwv hsm5
  go_wp2_with fail
  refine HWD.out.mono ?_
  rintro e w' ⟨rfl, rfl⟩
  go_wp2_with fail
  refine (HGEN.out _).mono ?_
  rintro e w' ⟨rfl, rfl⟩
  go_wp2_with fail
  refine (HWORD.out _).mono ?_
  rintro e w' ⟨rfl, rfl⟩
  go_wp2_with fail
  refine HSW.out.mono ?_
  rintro e w6 ⟨rfl, F', lg, hlg, hi6, hg6⟩
  have HLG := Lib.hid hlg; have HI6 := Lib.hid hi6; have HG6 := Lib.hid hg6
  clear hlg hi6 hg6
  go_wp2_with fail
  refine (HMAKE.out _).mono ?_
  rintro e w' ⟨rfl, rfl⟩
  go_wp2_with fail
  go_ret2
  exact ⟨rfl, F', lg, HLG.out, HI6.out, HG5.out.trans HG6.out⟩
end Go.Proofs.YtmfnfinbkdemkaaGreat
namespace Go.Proofs.YtmfnfinbkdemkaaGreat
open Go.RowKit Go.Lib
open A5

def Rw.freed (r : Rw) (i : Nat) (g : Int) (lg : List Acc) : Rw := ⟨r.ws.set (i + 1) (4 * (g + 1)), ⟨r.ar.sl.set i ⟨0, 0, 0, 0⟩, r.ar.id ++ [(i : Int)], r.ar.nx⟩, r.q, r.ms, lg, r.v⟩
/-- The row of free slots has grown, and the box says where it lies. -/
theorem InT.grown {d : At} {FM : List Nat} {iv : Value} {l : LdR} {r : Rw} {w w1 w' : World} {i : Nat} {g cap n : Nat} (h : InT d FM iv l r w) (hn : n = r.ar.id.length) {O : Obj} (hg : (w.alloc O).grownBy w1 iv.ownBlock) (ho : w1.ownsRow 0 3 1 (.slice (some ⟨g, 0, none⟩) (n + 1) cap) (n + 1) ((r.ar.id ++ [(i : Int)]).map (Value.int .i64))) (hat : iv.ownBlock = some g ∨ g = (w.alloc O).heap.size)
    (hw : w' = w1.setCell ⟨d.p, 2, none⟩ (.slice (some ⟨g, 0, none⟩) (n + 1) cap)) :
    InR (foot d FM (.slice (some ⟨g, 0, none⟩) (n + 1) cap)) d ⟨r.ws, ⟨r.ar.sl, r.ar.id ++ [(i : Int)], r.ar.nx⟩, r.q, r.ms, r.log, r.v⟩ w' ∧ Goes (foot d FM iv) (foot d FM (.slice (some ⟨g, 0, none⟩) (n + 1) cap)) w w' := by
  have hu : Upd iv.ownBlock.toList w w1 := (((Upd.refl [] w).alloc O).mono (by simp)).grown hg (fun k hk _ => by simp [hk])
  have hin : ∀ b ∈ iv.ownBlock.toList, iv.ownBlock = some b := fun b hb => toList_of hb
  have hge : iv.ownBlock = some g ∨ w.heap.size ≤ g := hat.imp (fun e => e) (fun e => by rw [e]; simp)
  have hb1 := hu.at h.box (fun hm => h.id_p (hin _ hm))
  have hset := setCell_block (o := 2) hb1 (.slice (some ⟨g, 0, none⟩) (n + 1) cap)
  have hu2 := upd_set1 w1 d.p 2 (.slice (some ⟨g, 0, none⟩) (n + 1) cap)
  rw [← hw] at hset hu2
  obtain ⟨h2, g2⟩ := h.boxed (iv' := .slice (some ⟨g, 0, none⟩) (n + 1) cap) (l' := l) (r' := ⟨r.ws, ⟨r.ar.sl, r.ar.id ++ [(i : Int)], r.ar.nx⟩, r.q, r.ms, r.log, r.v⟩) (hu.mono (fun b hb => mem_foot.2 (.inr (.inr (.inl (hin b hb))))))
    (h.mem.keep hu (fun b hb hm => h.ap b (mem_own.2 (.inr (.inr (hin b hm)))) hb)) (h.sl.keep hu (fun hm => h.id_sg (hin _ hm))) hu2 hset rfl rfl (by simp only [List.length_append, List.length_singleton]; rw [← hn]; exact ho) (fun e => by
      simp only [Value.ownBlock, Option.some.injEq] at e
      subst e
      rcases hge with e | e
      · exact h.id_p e
      · have := lt_block h.box; omega) (fun k hk => by
      simp only [Value.ownBlock, Option.some.injEq] at hk
      subst hk
      exact hge) h.eq (h.has.keepL hu (fun b hb => h.av b (mem_foot.2 (.inr (.inr (.inl (hin b hb))))))) (fun b hb => by
      rcases mem_foot.1 hb with e | e | e | e
      · exact h.av b (mem_foot.2 (.inl e))
      · exact h.av b (mem_foot.2 (.inr (.inl e)))
      · simp only [Value.ownBlock, Option.some.injEq] at e
        subst e
        rcases hge with e | e
        · exact h.av _ (mem_foot.2 (.inr (.inr (.inl e))))
        · exact h.has.avoids e
      · exact h.av b (mem_foot.2 (.inr (.inr (.inr e)))))
  exact ⟨⟨FM, _, l, rfl, h2⟩, g2⟩
theorem word_at {F : List Nat} {d : At} {r : Rw} {w : World} (h : InR F d r w) (hs : Sm r.mem) (i : Nat) (y : Int) (hy : r.ws[i + 1]? = some y) : Calls Tryz.prog 40 #[.pointer (some ⟨d.p, 0, none⟩), .int .i64 i] w fun e w' => e = .returned (.int .i64 y) ∧ w = w' := by
  obtain ⟨hwi, rfl⟩ := List.getElem?_eq_some_iff.1 hy
  exact word_has h hs i hwi
set_option maxRecDepth 100000 in
set_option maxHeartbeats 4000000 in
theorem Free_has {F : List Nat} {d : At} {r : Rw} {w : World} (h : InR F d r w) (hs : Sm r.mem) (hv : r.v ≤ 40000) (th : Int) (i : Nat) (hi : i < r.ar.sl.length) (hl : r.ar.id.length ≤ 1000) (g s : Int) (hg : 0 ≤ g ∧ g < 1099511627776) (hs4 : 0 ≤ s ∧ s < 4) (hw : r.ws[i + 1]? = some (4 * g + s)) :
    Calls Tryz.prog 28 #[.pointer (some ⟨d.p, 0, none⟩), .int .i64 th, .int .i64 i] w fun e w' => e = .returned (.tuple #[]) ∧ ∃ F' lg, lg.length ≤ r.log.length + 1 ∧ InR F' d ((r.add (missK r.ms th [3])).freed i g lg) w' ∧ Goes F F' w w' := by
  have HC := Lib.hid (orNone_in d.p)
  have c0 := h.cell0
  have HD := Lib.hid (declare_new h hs th [3] (by decide) (by decide) (O := .cells #[.int .i64 3] 3) rfl (n := 1) rfl)
  have hmk : missK r.ms th [3] ≤ 1 := missK_le _ _ _
  have hsm := add_sm hs (missK r.ms th [3]) (by omega)
  generalize missK r.ms th [3] = mk at *
  have HI := Lib.hid hi; have HW := Lib.hid hw
  have HSM := Lib.hid hsm
  have HGEN := Lib.hid (hGen_in (4 * g + s) (by omega))
  have HWORD := Lib.hid (A4.Word_in (g + 1) 0 (by omega) (by decide))
  rw [Int.add_zero] at HWORD
  rw [show (4 * g + s) / 4 = g by omega] at HGEN
  have hwg : IntKind.i64.wrap (g + 1) = g + 1 := by rw [IntKind.wrap_i64]; omega
  have hll := hl
  clear h hs hi hl hw hsm hg hs4 hv hmk
  go_enter Tryz.func28, Tryz.ntmps28
  go_wp2_with fail
  (with_reducible refine (HC.out _).mono ?_)
  rintro e w' ⟨rfl, rfl⟩
  go_wp2_with fail
  (with_reducible refine HD.out.mono ?_)
  rintro e w1 ⟨rfl, hi, hg⟩
  have HG1 := Lib.hid hg; have HI1 := Lib.hid hi
  clear hi hg c0
  go_wp2_with fail
  have HIS := Lib.hid (isSlot_in HI1.out i HI.out)
  (with_reducible refine HIS.out.mono ?_)
  rintro e w' ⟨rfl, rfl⟩
  have HWD := Lib.hid (word_at HI1.out HSM.out i _ HW.out)
  have HSW := Lib.hid (setWord_has HI1.out HSM.out th i (4 * (g + 1)) (List.getElem?_eq_some_iff.1 HW.out).1)
  go_wp2_with fail
  (with_reducible refine HWD.out.mono ?_)
  rintro e w' ⟨rfl, rfl⟩
  go_wp2_with fail
  (with_reducible refine (HGEN.out _).mono ?_)
  rintro e w' ⟨rfl, rfl⟩
  go_wp2_with fail
  (with_reducible refine (HWORD.out _).mono ?_)
  rintro e w' ⟨rfl, rfl⟩
  go_wp2_with fail
  (with_reducible refine HSW.out.mono ?_)
  rintro e w2 ⟨rfl, F2, lg, hlg, hi2, hg2⟩
  have HLG := Lib.hid hlg; have HG2 := Lib.hid (HG1.out.trans hg2)
  clear hg2 hlg HWD HSW HG1 HI1
  obtain ⟨FM, iv, l, hF, h2⟩ := hi2
  have HT2 := Lib.hid h2; have HF2 := Lib.hid hF
  obtain ⟨k0, k1, k2, k3, -⟩ := cells10 h2.box
  simp only [Rw.add] at k1
  have hiz : (i : Int) < (r.ar.sl.length : Int) := by have := HI.out; omega
  obtain ⟨e0, e1, e2, e3⟩ := flatS_at r.ar.sl i HI.out
  obtain ⟨y0, z0⟩ := h2.sl.cell _ _ e0
  obtain ⟨y1, z1⟩ := h2.sl.cell _ _ e1
  obtain ⟨y2, z2⟩ := h2.sl.cell _ _ e2
  obtain ⟨y3, z3⟩ := h2.sl.cell _ _ e3
  clear hF h2 e0 e1 e2 e3
  go_upto_region 6 with (fail)
  obtain ⟨h3, u3⟩ := HT2.out.slot i HI.out ⟨0, 0, 0, 0⟩ (r' := ⟨r.ws.set (i + 1) (4 * (g + 1)), ⟨r.ar.sl.set i ⟨0, 0, 0, 0⟩, r.ar.id, r.ar.nx⟩, r.q, r.ms, lg, r.v + mk⟩) rfl
  simp only at h3 u3
  with_reducible generalize (((w2.setCell ⟨d.sg, i * 4, none⟩ (.int .i64 0)).setCell ⟨d.sg, i * 4 + 1, none⟩ (.int .i64 0)).setCell ⟨d.sg, i * 4 + 2, none⟩ (.int .i64 0)).setCell ⟨d.sg, i * 4 + 3, none⟩ (.int .i64 0) = W3 at h3 u3 ⊢
  have HT3 := Lib.hid h3
  have HG3 : Hid (Goes F (foot d FM iv) w W3) := HG2.out.trans (by rw [HF2.out]; exact ⟨u3.mono (by simp [foot]), fun x hx => .inl hx⟩)
  obtain ⟨m0, m1, m2, m3, -⟩ := cells10 h3.box
  have hpl := lt_block h3.box
  obtain ⟨n, hn⟩ : ∃ n, n = r.ar.id.length := ⟨_, rfl⟩
  have HN := Lib.hid hn
  have hrow := h3.id
  simp only at hrow
  rw [← hn] at hrow hll
  obtain ⟨va, vc, rfl⟩ := row_shape hrow
  have HROW := Lib.hid hrow
  have HNP : Hid ((Value.slice va n vc).ownBlock ≠ some d.p) := h3.id_p
  have HBX := Lib.hid h3.box
  clear h3 u3 k0 k1 k2 k3 y0 y1 y2 y3 z0 z1 z2 z3 hrow hn
  go_wp2_with (at_builtin; refine app_int rfl _ _ rfl 0 (.slice va n vc) n r.ar.id rfl (by exact HROW.out.alloc _) W3.heap.size i rfl (heap_alloc1 _ _) (by omega) (Nat.zero_le _) ?_; intro ig cap w4 hown hgrow hat hlt; have HO := Lib.hid hown; have HGR := Lib.hid hgrow; have HAT := Lib.hid hat; have q0 := hgrow.block d.p (by simp; omega) (fun e => HNP.out e.symm); have p0 := q0.trans (((Upd.refl [] W3).alloc _).at HBX.out (by simp)); obtain ⟨l0, l1, l2, l3, -⟩ := cells10 p0; obtain ⟨f2, -⟩ := free10 p0; clear hown hgrow hat q0 p0)
  obtain ⟨h5, g5⟩ := HT3.out.grown (i := i) HN.out HGR.out HO.out HAT.out rfl
  go_end0
  exact ⟨rfl, _, lg, HLG.out, h5, HG3.out.trans g5⟩
end Go.Proofs.YtmfnfinbkdemkaaGreat
namespace Go.Proofs.YtmfnfinbkdemkaaGreat
open Go.RowKit Go.Lib

/-- A queue whose rows are the call's own: none is older than b0; what may be written in place is apart from the rest. -/
structure Own (b0 : Nat) (w : World) (l : LdR) : Prop where
  top : w.ownsRow b0 36 3 l.top.v l.top.l.length (LI.flat l.top.l)
  rs : w.ownsRow b0 93 4 l.rs.v l.rs.l.length (LR.flat l.rs.l)
  bot : w.ownsRow b0 36 3 l.bot.v l.bot.l.length (LI.flat l.bot.l)
  rg : ∀ r ∈ l.rs.l, HasR w r ∧ ∀ b, b < b0 → AvR r b
  avT : ∀ k, l.top.v.ownBlock = some k → AvS l.bot k ∧ ∀ r ∈ l.rs.l, AvR r k
  avB : ∀ k, l.bot.v.ownBlock = some k → AvS l.top k ∧ ∀ r ∈ l.rs.l, AvR r k
  avR : ∀ k, l.rs.v.ownBlock = some k → ∀ r ∈ l.rs.l, AvR r k
/-- Buckets copied in place, the first k done. -/
structure PartB (W : World) (bl : List (SlR It)) (k : Nat) (wr : World) (sl : List (SlR It)) (g cap : Nat) : Prop where
  len : sl.length = bl.length
  done : ∀ j (h : j < sl.length) (h' : j < bl.length), j < k → sl[j].l = bl[j].l ∧ HasS LI wr sl[j] ∧ ∀ b, b < W.heap.size → AvS sl[j] b
  rest : ∀ j (h : j < sl.length) (h' : j < bl.length), k ≤ j → sl[j] = bl[j]
  held : Held LB 47 wr g cap sl
  lt : g < W.heap.size
  upd : Upd [g] W wr
theorem av_own {s : SlR It} {w : World} {base : Nat} {b : Nat} (h : w.ownsRow base 36 3 s.v s.l.length (LI.flat s.l)) (hb : b < base) : AvS s b := fun _ a ea he => by
  obtain ⟨l, ad, c⟩ := s
  simp only at ea
  subst ea
  have := own_ge h a.block rfl
  omega
theorem has_own {s : SlR It} {w : World} {base : Nat} (h : w.ownsRow base 36 3 s.v s.l.length (LI.flat s.l)) : HasS LI w s := by
  obtain ⟨_, ad, cap, e, hS, _⟩ := hasS_row h
  obtain ⟨l, a, c⟩ := s
  simp only [SlR.v, Value.slice.injEq] at e
  obtain ⟨rfl, _, rfl⟩ := e
  exact hS
theorem PartB.step {W wr w1 : World} {bl sl : List (SlR It)} {k g cap : Nat} (h : PartB W bl k wr sl g cap) (hk : k < bl.length) (s : SlR It) (hs : s.l = bl[k].l) (hu : Upd [] wr w1) (ho : w1.ownsRow wr.heap.size 36 3 s.v s.l.length (LI.flat s.l)) :
    PartB W bl (k + 1) (w1.setCell ⟨g, k, none⟩ s.v) (sl.set k s) g cap := by
  have hl := h.len
  have hks : k < sl.length := by omega
  have hU := upd_set1 w1 g k s.v
  have hsz := h.upd.size
  have hlt := h.lt
  refine ⟨by simp [hl], fun j hj hj' hjk => ?_, fun j hj hj' hjk => ?_, ?_, hlt, (h.upd.trans hu (by simp)).trans hU (fun x hx _ => hx)⟩
  · by_cases e : j = k
    · subst e
      rw [List.getElem_set_self]
      exact ⟨hs, (has_own ho).keep1 hU (av_own ho (by omega)), fun b hb => av_own ho (by omega)⟩
    · rw [List.getElem_set_ne (fun e' => e e'.symm)]
      obtain ⟨d1, d2, d3⟩ := h.done j (by simpa using hj) hj' (by omega)
      exact ⟨d1, (d2.stay hu).keep1 hU (d3 g hlt), d3⟩
  · rw [List.getElem_set_ne (by omega)]
    exact h.rest j (by simpa using hj) hj' (by omega)
  · have := (h.held.keep hu (by simp)).set k hks s
    have e : stores w1 g (k * LB.k) (LB.enc s) = w1.setCell ⟨g, k, none⟩ s.v := by
      show w1.setCell ⟨g, k * 1, none⟩ _ = _
      rw [Nat.mul_one]; rfl
    rw [e] at this
    exact this
/-- Rungs copied in place, the first k done. -/
structure ClnAt (W : World) (b0 : Nat) (rl : List RgR) (k : Nat) (wr : World) (cs : List RgR) (v : Value) : Prop where
  len : cs.length = rl.length
  own : wr.ownsRow b0 93 4 v cs.length (LR.flat cs)
  done : ∀ j (h : j < cs.length) (h' : j < rl.length), j < k → cs[j].rg = rl[j].rg ∧ HasR wr cs[j] ∧ ∀ b, b < W.heap.size → AvR cs[j] b
  rest : ∀ j (h : j < cs.length) (h' : j < rl.length), k ≤ j → cs[j] = rl[j]
  lt : ∀ x, v.ownBlock = some x → x < W.heap.size
  upd : Upd v.ownBlock.toList W wr
theorem ClnAt.step {W wr w2 w3 : World} {b0 k g cap gb capb : Nat} {rl cs : List RgR} {n : Nat} (h : ClnAt W b0 rl k wr cs (.slice (some ⟨g, 0, none⟩) n cap)) (hk : k < rl.length) {sl : List (SlR It)} (hu : Upd [] wr w2)
    (hb : HasS LB w2 ⟨sl, some ⟨gb, 0, none⟩, capb⟩) (hgb : wr.heap.size ≤ gb) (hi : ∀ s ∈ sl, HasS LI w2 s ∧ ∀ b, b < wr.heap.size → AvS s b) (hrow : rowsOf sl = rl[k].rg.bs)
    (e3 : w3 = w2.setCell ⟨g, k * 4 + 3, none⟩ (.slice (some ⟨gb, 0, none⟩) sl.length capb)) :
    ClnAt W b0 rl (k + 1) w3 (cs.set k ⟨rl[k].fr, rl[k].wd, rl[k].cu, ⟨sl, some ⟨gb, 0, none⟩, capb⟩⟩) (.slice (some ⟨g, 0, none⟩) n cap) := by
  have hl := h.len
  have hkc : k < cs.length := by omega
  have hg : g < W.heap.size := h.lt g rfl
  have hsz := h.upd.size
  have hU : Upd [g] w2 w3 := by rw [e3]; exact upd_set1 _ _ _ _
  have hown := hu.row h.own (by simp)
  obtain ⟨hn, g', cap', ev, hbg, hheld⟩ := held_row (L := LR) hown (by rw [hl]; omega)
  simp only [Value.slice.injEq, Option.some.injEq, Addr.mk.injEq] at ev
  obtain ⟨⟨rfl, _⟩, hnn, rfl⟩ := ev
  have hav : ∀ b, b < wr.heap.size → AvR ⟨rl[k].fr, rl[k].wd, rl[k].cu, ⟨sl, some ⟨gb, 0, none⟩, capb⟩⟩ b := fun b hb => ⟨fun _ a ea => by obtain rfl := Option.some.inj ea; simp only; omega, fun s hs => (hi s hs).2 b hb⟩
  refine ⟨by simp [hl], ?_, fun j hj hj' hjk => ?_, fun j hj hj' hjk => ?_, h.lt, (h.upd.trans hu (by simp)).trans (T := [g]) hU (fun x hx _ => by simpa [Value.ownBlock] using hx)⟩
  · have h3 := hheld.set1 k hkc 3 (.slice (some ⟨gb, 0, none⟩) sl.length capb) ⟨rl[k].fr, rl[k].wd, rl[k].cu, ⟨sl, some ⟨gb, 0, none⟩, capb⟩⟩ (by decide) (by rw [h.rest k hkc hk (Nat.le_refl _)]; rfl)
    have h4 := h3.own hbg (own_cap hown)
    rw [List.length_set] at h4 ⊢
    rw [e3, hnn]
    exact h4
  · by_cases e : j = k
    · subst e
      rw [List.getElem_set_self]
      refine ⟨?_, HasR.keep1 (w := w2) ⟨hb, fun s hs => (hi s hs).1⟩ hU (hav g (by omega)), fun b hb => hav b (by omega)⟩
      simp only [RgR.rg] at hrow ⊢
      rw [hrow]
    · rw [List.getElem_set_ne (fun e' => e e'.symm)]
      obtain ⟨d1, d2, d3⟩ := h.done j (by simpa using hj) hj' (by omega)
      exact ⟨d1, (d2.stay hu).keep1 hU (d3 g hg), d3⟩
  · rw [List.getElem_set_ne (by omega)]
    exact h.rest j (by simpa using hj) hj' (by omega)
end Go.Proofs.YtmfnfinbkdemkaaGreat
