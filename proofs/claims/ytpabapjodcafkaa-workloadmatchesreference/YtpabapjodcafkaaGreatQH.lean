/- A queue in a box of the call's own; contract: the reference's New. -/
/- Contract: the reference's Insert. -/
import Derived.Test.YtpabapjodcafkaaGreatNK
namespace Go.Proofs.YtpabapjodcafkaaGreat
open Go.RowKit Go.Lib

def GivesRD (l : LdR) (g : Ld) (w : World) (e : Ending) (w' : World) : Prop := ∃ l', e = .returned (encD l') ∧ NxtD w l g w' l'
theorem NxtD.enter {w0 w w' : World} {l l' : LdR} {g : Ld} (hu : Upd [] w0 w) (h : NxtD w l g w' l') : NxtD w0 l g w' l' :=
  ⟨h.eq, h.has, fun b hb ha => h.av b (Nat.lt_of_lt_of_le hb hu.size) ha, hu.thn h.upd⟩
theorem NxtD.stay {w w' w2 : World} {l l' : LdR} {g : Ld} (h : NxtD w l g w' l') (hu : Upd [] w' w2) : NxtD w l g w2 l' := ⟨h.eq, h.has.stay hu, h.av, h.upd.thn hu⟩
/-- The queue l, from l0, in the box P of W. -/
structure InD (w0 W : World) (P : Nat) (l0 : LdR) (wr : World) (l : LdR) : Prop where
  has : HasD wr l
  av : ∀ b, b < W.heap.size → AvD l0 b → AvD l b
  box : wr.heap[P]? = some (.cells (cellsD l) 42 (0, 0))
  up0 : Upd [] w0 W
  upd : Upd [P] W wr
  ge : w0.heap.size ≤ P
  lt : P < W.heap.size
  all : ∀ b, w0.heap.size ≤ b → AvD l0 b
theorem InD.start {w0 W : World} {P : Nat} {l0 : LdR} (h : HasD w0 l0) (hu : Upd [] w0 W) (hP : w0.heap.size ≤ P) (hb : W.heap[P]? = some (.cells (cellsD l0) 42 (0, 0))) : InD w0 W P l0 W l0 :=
  ⟨h.stay hu, fun _ _ h => h, hb, hu, Upd.refl _ _, hP, lt_block hb, fun _ hb => h.avoids hb⟩
theorem InD.avW {w0 W : World} {P : Nat} {l0 : LdR} {wr : World} {l : LdR} (h : InD w0 W P l0 wr l) {b : Nat} (h0 : w0.heap.size ≤ b) (hb : b < W.heap.size) : AvD l b := h.av b hb (h.all b h0)
theorem InD.up {w0 W : World} {P : Nat} {l0 : LdR} {wr : World} {l : LdR} (h : InD w0 W P l0 wr l) : Upd [] w0 wr := h.up0.new h.upd h.ge
theorem InD.stay {w0 W : World} {P : Nat} {l0 : LdR} {wr w2 : World} {l : LdR} (h : InD w0 W P l0 wr l) (hu : Upd [] wr w2) : InD w0 W P l0 w2 l :=
  ⟨h.has.stay hu, h.av, hu.at h.box (by simp), h.up0, h.upd.trans hu (by simp), h.ge, h.lt, h.all⟩
/-- The box is written. -/
theorem InD.put {w0 W : World} {P : Nat} {l0 : LdR} {wr w2 w3 : World} {l l2 : LdR} (h : InD w0 W P l0 wr l) (hu : Upd [] wr w2) (h2 : HasD w2 l2) (hav : ∀ b, b < W.heap.size → AvD l b → AvD l2 b) (hb : w3.heap[P]? = some (.cells (cellsD l2) 42 (0, 0))) (hu3 : Upd [P] w2 w3) : InD w0 W P l0 w3 l2 :=
  ⟨h2.keep1 hu3 (hav P h.lt (h.avW h.ge h.lt)), fun b hb ha => hav b hb (h.av b hb ha), hb, h.up0, (h.upd.trans hu (by simp)).trans hu3 (by simp), h.ge, h.lt, h.all⟩
theorem InD.cells {w0 W : World} {P : Nat} {l0 : LdR} {wr : World} {l : LdR} (h : InD w0 W P l0 wr l) : wr.heap[P]? = some (.cells #[.int .i64 l.ts, .slice l.top.ad l.top.l.length l.top.cap, .slice l.rs.ad l.rs.l.length l.rs.cap, .slice l.bot.ad l.bot.l.length l.bot.cap, .int .i64 l.mv, .int .i64 l.cp] 42 (0, 0)) := h.box
/-- The result's box is written, and the call ends. -/
theorem InD.fin {w0 W : World} {P R : Nat} {l0 : LdR} {wr wf : World} {l : LdR} (h : InD w0 W P l0 wr l) (hR : w0.heap.size ≤ R) (hRW : R < W.heap.size) (hu : Upd [R] wr wf) {g : Ld} (he : l.ld = g) : NxtD w0 l0 g wf l :=
  ⟨he, h.has.keep1 hu (h.avW hR hRW), fun b hb ha => h.av b (Nat.lt_of_lt_of_le hb h.up0.size) ha, h.up.new hu hR⟩
/-- A block of W other than P stands as it was. -/
theorem InD.other {w0 W : World} {P R : Nat} {l0 : LdR} {wr : World} {l : LdR} (h : InD w0 W P l0 wr l) (hne : R ≠ P) {o : Obj} (hb : W.heap[R]? = some o) : wr.heap[R]? = some o := h.upd.at hb (by simp [hne])
theorem AvD.mvs {l : LdR} {b : Nat} (h : AvD l b) (m c : Int) : AvD ⟨l.ts, l.top, l.rs, l.bot, m, c⟩ b := ⟨h.top, h.rs, h.rg, h.bot⟩
theorem HasD.mvs {w : World} {l : LdR} (h : HasD w l) (m c : Int) : HasD w ⟨l.ts, l.top, l.rs, l.bot, m, c⟩ := ⟨h.top, h.rs, h.rg, h.bot⟩
theorem InD.mv {w0 W : World} {P : Nat} {l0 : LdR} {wr : World} {l : LdR} (h : InD w0 W P l0 wr l) (m : Int) : InD w0 W P l0 (wr.setCell ⟨P, 4, none⟩ (.int .i64 m)) ⟨l.ts, l.top, l.rs, l.bot, m, l.cp⟩ :=
  h.put (Upd.refl _ _) (h.has.mvs _ _) (fun _ _ h => h.mvs _ _) (setCell_block h.box _) (upd_set1 _ _ _ _)
theorem InD.cp {w0 W : World} {P : Nat} {l0 : LdR} {wr : World} {l : LdR} (h : InD w0 W P l0 wr l) (c : Int) : InD w0 W P l0 (wr.setCell ⟨P, 5, none⟩ (.int .i64 c)) ⟨l.ts, l.top, l.rs, l.bot, l.mv, c⟩ :=
  h.put (Upd.refl _ _) (h.has.mvs _ _) (fun _ _ h => h.mvs _ _) (setCell_block h.box _) (upd_set1 _ _ _ _)
theorem InD.ts {w0 W : World} {P : Nat} {l0 : LdR} {wr : World} {l : LdR} (h : InD w0 W P l0 wr l) (t : Int) : InD w0 W P l0 (wr.setCell ⟨P, 0, none⟩ (.int .i64 t)) ⟨t, l.top, l.rs, l.bot, l.mv, l.cp⟩ :=
  h.put (Upd.refl _ _) ⟨h.has.top, h.has.rs, h.has.rg, h.has.bot⟩ (fun _ _ h => ⟨h.top, h.rs, h.rg, h.bot⟩) (setCell_block h.box _) (upd_set1 _ _ _ _)
theorem InD.top {w0 W : World} {P : Nat} {l0 : LdR} {wr w2 : World} {l : LdR} (h : InD w0 W P l0 wr l) (hu : Upd [] wr w2) {s : SlR It} (hs : HasS LI w2 s) (ha : ∀ b, b < W.heap.size → AvD l b → AvS s b) : InD w0 W P l0 (w2.setCell ⟨P, 1, none⟩ (.slice s.ad s.l.length s.cap)) ⟨l.ts, s, l.rs, l.bot, l.mv, l.cp⟩ := by
  have h1 := h.has.stay hu
  exact h.put hu ⟨hs, h1.rs, h1.rg, h1.bot⟩ (fun b hb h => ⟨ha b hb h, h.rs, h.rg, h.bot⟩) (setCell_block (hu.at h.box (by simp)) _) (upd_set1 _ _ _ _)
theorem InD.bot {w0 W : World} {P : Nat} {l0 : LdR} {wr w2 : World} {l : LdR} (h : InD w0 W P l0 wr l) (hu : Upd [] wr w2) {s : SlR It} (hs : HasS LI w2 s) (ha : ∀ b, b < W.heap.size → AvD l b → AvS s b) : InD w0 W P l0 (w2.setCell ⟨P, 3, none⟩ (.slice s.ad s.l.length s.cap)) ⟨l.ts, l.top, l.rs, s, l.mv, l.cp⟩ := by
  have h1 := h.has.stay hu
  exact h.put hu ⟨h1.top, h1.rs, h1.rg, hs⟩ (fun b hb h => ⟨h.top, h.rs, h.rg, ha b hb h⟩) (setCell_block (hu.at h.box (by simp)) _) (upd_set1 _ _ _ _)
theorem InD.rs {w0 W : World} {P : Nat} {l0 : LdR} {wr w2 : World} {l : LdR} (h : InD w0 W P l0 wr l) (hu : Upd [] wr w2) {s : SlR RgR} (hs : HasS LR w2 s) (hr : ∀ r ∈ s.l, HasR w2 r) (ha : ∀ b, b < W.heap.size → AvD l b → AvS s b ∧ ∀ r ∈ s.l, AvR r b) : InD w0 W P l0 (w2.setCell ⟨P, 2, none⟩ (.slice s.ad s.l.length s.cap)) ⟨l.ts, l.top, s, l.bot, l.mv, l.cp⟩ := by
  have h1 := h.has.stay hu
  exact h.put hu ⟨h1.top, hs, hr, h1.bot⟩ (fun b hb h => ⟨h.top, (ha b hb h).1, (ha b hb h).2, h.bot⟩) (setCell_block (hu.at h.box (by simp)) _) (upd_set1 _ _ _ _)
theorem avS_ge {α : Type} {s : SlR α} {n b : Nat} (h : ∀ a, s.ad = some a → n ≤ a.block) (hb : b < n) : AvS s b := fun _ a ea => by have := h a ea; omega

set_option maxRecDepth 100000 in
set_option maxHeartbeats 2000000 in
theorem RNewL_has (w : World) : Calls Tryz.prog 19 #[] w fun e w' => ∃ l', e = .returned (encD l') ∧ l'.ld = newL ∧ HasD w' l' ∧ (∀ b, AvD l' b) ∧ Upd [] w w' := by
  go_enter Tryz.func19, Tryz.ntmps19
  go_upto_region 1 with (fail)
  have b0 := heap_alloc1 w (.cells #[.int .i64 0, .slice none 0 0, .slice none 0 0, .slice none 0 0, .int .i64 0, .int .i64 0] 42)
  have hu := (Upd.refl [] w).alloc (.cells #[.int .i64 0, .slice none 0 0, .slice none 0 0, .slice none 0 0, .int .i64 0, .int .i64 0] 42)
  generalize w.alloc (.cells #[.int .i64 0, .slice none 0 0, .slice none 0 0, .slice none 0 0, .int .i64 0, .int .i64 0] 42) = W at *
  generalize hP : w.heap.size = P at *
  have HB0 := Lib.hid b0; have HU := Lib.hid hu; have HP := Lib.hid hP
  obtain ⟨c0, c1, c2, c3, c4, c5⟩ := cells6 b0
  obtain ⟨z0, z1, z2, z3, z4, z5⟩ := free6 b0
  clear b0 hu hP
  go_wp2_with fail
  have p2 := stored6 HB0.out (.int .i64 0) (.slice none 0 0) (.slice none 0 0) (.slice none 0 0) (.int .i64 0) (.int .i64 0)
  have hU5 := upd_set6 W P (.int .i64 0) (.slice none 0 0) (.slice none 0 0) (.slice none 0 0) (.int .i64 0) (.int .i64 0)
  with_reducible generalize (((((W.setCell ⟨P, 0, none⟩ (.int .i64 0)).setCell ⟨P, 1, none⟩ (.slice none 0 0)).setCell ⟨P, 2, none⟩ (.slice none 0 0)).setCell ⟨P, 3, none⟩ (.slice none 0 0)).setCell ⟨P, 4, none⟩ (.int .i64 0)).setCell ⟨P, 5, none⟩ (.int .i64 0) = w4 at p2 hU5 ⊢
  obtain ⟨r0, r1, r2, r3, r4, r5⟩ := cells6 p2
  exact bodyPost_ret (v := encD ⟨0, nilS, ⟨[], none, 0⟩, nilS, 0, 0⟩) (by simp [encD, cellsD, nilS, results, Tryz.results19, go_sem, r0, r1, r2, r3, r4, r5]) rfl
    ⟨_, rfl, rfl, ⟨hasS_nil _ _, hasS_nil _ _, fun r hr => by simp at hr, hasS_nil _ _⟩, fun b => ⟨avS_nil _ _ _, avS_nil _ _ _, fun r hr => by simp at hr, avS_nil _ _ _⟩, HU.out.new hU5 (by have := HP.out; omega)⟩
end Go.Proofs.YtpabapjodcafkaaGreat
namespace Go.Proofs.YtpabapjodcafkaaGreat
open Go.RowKit Go.Lib

theorem rlen_its {l : LdR} {r : RgR} (hr : r ∈ l.rs.l) : lenL r.rg.bs ≤ lenD l.ld := by
  have h1 : (itsR r.rg).Sublist (itsRs l.ld.rs) := by
    unfold itsRs
    exact List.sublist_flatten_of_mem (List.mem_map_of_mem (List.mem_map_of_mem hr))
  rw [lenD_its, ← itsR_length]
  have := h1.length_le
  unfold itemsL
  simp only [List.length_append]
  omega
/-- What a queue must be to be worked on. -/
structure FitR (l : LdR) : Prop where
  good : GoodL l.ld
  len : lenD l.ld ≤ 100000
  mv : l.mv ≤ 100000000000
  cp : l.cp ≤ 100000000000
theorem FitR.rg {l : LdR} (h : FitR l) {r : RgR} (hr : r ∈ l.rs.l) : GoodR r.rg ∧ lenL r.rg.bs ≤ 100000 :=
  ⟨(okRs_mem h.good.rs (List.mem_map_of_mem hr : r.rg ∈ l.ld.rs)).1, Nat.le_trans (rlen_its hr) h.len⟩
theorem FitR.sizes {l : LdR} (h : FitR l) : l.top.l.length ≤ 100000 ∧ l.rs.l.length ≤ 4 ∧ l.bot.l.length ≤ 100000 := by
  have h1 := h.len
  have h2 := h.good.len
  simp only [lenD, LdR.ld, List.length_map] at h1 h2
  omega
theorem ld_rs (l : LdR) : l.ld.rs = l.rs.l.map RgR.rg := rfl
theorem map_set_rg (l : List RgR) (i : Nat) (r : RgR) : (l.set i r).map RgR.rg = (l.map RgR.rg).set i r.rg := by simp [List.map_set]
set_option maxRecDepth 100000 in
set_option maxHeartbeats 8000000 in
theorem RInsert_has (l : LdR) (it : It) (w : World) (h : HasD w l) (hf : FitR l) :
    Calls Tryz.prog 21 #[encD l, aggI it] w (GivesRD l (insertL l.ld it) w) := by
  have HCU := Lib.hid (fun (k : Nat) (hk : k < l.rs.l.length) W => RCurrent_has l.rs.l[k] W (hf.rg (List.getElem_mem hk)).1)
  have HPU := Lib.hid (fun (k : Nat) (hk : k < l.rs.l.length) W (hr : HasR W l.rs.l[k]) => RPut_has l.rs.l[k] it W hr (hf.rg (List.getElem_mem hk)).1 (hf.rg (List.getElem_mem hk)).2)
  have HRU := Lib.hid (fun (k : Nat) (hk : k < l.rs.l.length) (r : RgR) W (hs : HasS LR W l.rs) => rungs_has l.rs k r W hs hk (by have := hf.sizes; omega))
  have HPL := Lib.hid (fun W (hs : HasS LI W l.bot) => place_has l.bot it W hs hf.sizes.2.2)
  have HSZ := Lib.hid hf.sizes
  have HBD : Hid ((0 ≤ l.mv ∧ l.mv ≤ 100000000000) ∧ (0 ≤ l.cp ∧ l.cp ≤ 100000000000)) := ⟨⟨hf.good.mv0, hf.mv⟩, hf.good.cp0, hf.cp⟩
  -- the three ends
  have HE1 : Hid (∀ (l' : LdR), l.ts ≤ it.t → l'.ld = { l.ld with top := l.top.l ++ [it], mv := l.mv + 1, cp := l.cp + 1 } → l'.ld = insertL l.ld it) := fun l' hle e => by
    rw [e, insertL, if_pos (by exact hle)]; rfl
  have HE2 : Hid (∀ (l' : LdR) (k : Nat) (hk : k < l.rs.l.length), ¬ l.ts ≤ it.t → (∀ j (hj : j < l.rs.l.length), j < k → it.t < curT (l.rs.l[j]).rg) → curT (l.rs.l[k]).rg ≤ it.t → l'.ld = { l.ld with rs := (l.rs.l.map RgR.rg).set k (putR (l.rs.l[k]).rg it).1, mv := l.mv + 1, cp := l.cp + 1 + (k + 1 : Nat) } → l'.ld = insertL l.ld it) := fun l' k hk hn h0 h1 e => by
    have hi := insR_at (rs := l.rs.l.map RgR.rg) (it := it) (k := k) (by simpa using hk) (fun j hj => by simp only [List.getElem_map]; have := h0 j (by omega) hj; omega) (by simpa using h1)
    rw [e, insertL, if_neg (by exact hn)]
    simp only [LdR.ld, hi, if_true, List.getElem_map]
  have HE3 : Hid (∀ (l' : LdR), ¬ l.ts ≤ it.t → (∀ j (hj : j < l.rs.l.length), it.t < curT (l.rs.l[j]).rg) → l'.ld = { l.ld with bot := plI l.bot.l it, mv := l.mv + 1, cp := l.cp + 1 + (l.rs.l.length : Nat) } → l'.ld = insertL l.ld it) := fun l' hn h0 e => by
    have hi := insR_no (rs := l.rs.l.map RgR.rg) (it := it) (fun j hj => by simp only [List.getElem_map]; have := h0 j (by simpa using hj); omega)
    rw [e, insertL, if_neg (by exact hn)]
    simp [LdR.ld, hi]
  generalize insertL l.ld it = gl at *
  obtain ⟨t, q, s⟩ := it
  have HST : Hid (∀ (H : Nat) (W : World), w.heap.size = H → Upd [] w W → W.heap[H]? = some (.cells (cellsD l) 42 (0, 0)) → InD w W H l W l) := fun H W hH hu hb => InD.start h hu (by omega) hb
  have HLL : Hid (encD l = .agg #[.int .i64 l.ts, .slice l.top.ad l.top.l.length l.top.cap, .slice l.rs.ad l.rs.l.length l.rs.cap, .slice l.bot.ad l.bot.l.length l.bot.cap, .int .i64 l.mv, .int .i64 l.cp]) := rfl
  rw [HLL.out]
  unfold aggI at HPU HPL ⊢
  simp only at HPU HPL HE1 HE2 HE3 ⊢
  clear h hf HLL
  go_enter Tryz.func21, Tryz.ntmps21
  go_upto_region 1 with (fail)
  generalize hA : (Obj.cells #[.int .i64 l.ts, .slice l.top.ad l.top.l.length l.top.cap, .slice l.rs.ad l.rs.l.length l.rs.cap, .slice l.bot.ad l.bot.l.length l.bot.cap, .int .i64 l.mv, .int .i64 l.cp] 42 : Obj) = A
  generalize hB : (Obj.cells #[.int .i64 t, .int .i64 q, .int .i64 s] 38 : Obj) = B
  generalize hC : (Obj.cells #[.int .i64 0, .slice none 0 0, .slice none 0 0, .slice none 0 0, .int .i64 0, .int .i64 0] 42 : Obj) = C
  obtain ⟨hu, b0, b1, b2, hsz⟩ := three_boxes w A B C
  generalize ((w.alloc A).alloc B).alloc C = W at *
  generalize hH : w.heap.size = H at *
  rw [← hA] at b0
  rw [← hB] at b1
  rw [← hC] at b2
  have HI0 := Lib.hid (HST.out H W rfl hu b0)
  have HB1 := Lib.hid b1; have HB2 := Lib.hid b2; have HH := Lib.hid hH; have HWS := Lib.hid hsz
  clear hu hA hB hC b1 b2 hH hsz HST
  obtain ⟨c0, c1, c2, c3, c4, c5⟩ := cells6 b0
  obtain ⟨z0, z1, z2, z3, z4, z5⟩ := free6 b0
  have hw1 : IntKind.i64.wrap (l.mv + 1) = l.mv + 1 := by have := HBD.out; rw [IntKind.wrap_i64]; omega
  have hw2 : IntKind.i64.wrap (l.cp + 1) = l.cp + 1 := by have := HBD.out; rw [IntKind.wrap_i64]; omega
  clear b0
  go_upto_region 2 with (fail)
  have HI1 := Lib.hid (HI0.out.mv (l.mv + 1))
  clear c0 c1 c2 c3 c4 c5 z0 z1 z2 z3 z4 z5
  with_reducible generalize W.setCell ⟨H, 4, none⟩ (.int .i64 (l.mv + 1)) = W1 at HI1 ⊢
  obtain ⟨c0, c1, c2, c3, c4, c5⟩ := cells6 HI1.out.cells
  obtain ⟨z0, z1, z2, z3, z4, z5⟩ := free6 HI1.out.cells
  go_upto_region 3 with (fail)
  have HI2 := Lib.hid (HI1.out.cp (l.cp + 1))
  clear c0 c1 c2 c3 c4 c5 z0 z1 z2 z3 z4 z5 HI1 HI0 hw1 hw2
  with_reducible generalize W1.setCell ⟨H, 5, none⟩ (.int .i64 (l.cp + 1)) = W2 at HI2 ⊢
  have q1 := HI2.out.other (R := H + 1) (by omega) HB1.out
  have HQ1 := Lib.hid q1
  obtain ⟨d0, d1, d2⟩ := cells3 q1
  obtain ⟨c0, c1, c2, c3, c4, c5⟩ := cells6 HI2.out.cells
  clear q1
  simp only at c0 c1 c2 c3 c4 c5
  have hsz2 : W.heap.size ≤ W2.heap.size := HI2.out.upd.size
  have HS2Z := Lib.hid hsz2
  clear hsz2
  by_cases hle : l.ts ≤ t
  · have hd : decide (l.ts ≤ t) = true := by simpa using hle
    replace HE1 := Lib.hid (fun l' => HE1.out l' hle)
    have hu4 := (Upd.refl [] W2).alloc (.cells #[] 38)
    have HTN := Lib.hid HI2.out.has.top.nn
    have hts := HSZ.out.1
    have HU4 := Lib.hid hu4
    clear hu4 hle HE2 HE3 HCU HPU HRU HPL
    have hlt0 : H < W2.heap.size := lt_block HI2.out.box
    have hne0 : ¬ H = W2.heap.size := by omega
    go_upto_region 5 with (at_builtin; refine app_row tyI rfl _ _ rfl W2.heap.size (.slice (some ⟨W2.heap.size, 0, none⟩) 0 0) 0 [] rfl (World.ownsRow_made W2 #[] 0 (Nat.le_refl _) (Nat.zero_le _) (by simp)) l.top.ad l.top.l.length l.top.cap l.top.l rfl rfl (HI2.out.has.top.stay HU4.out).row HTN.out (by omega) (by simp) ?_; intro v1 w1 hown hgrow)
    have HO := Lib.hid hown
    have HU3 : Hid (Upd [] W2 w1) := HU4.out.grown hgrow (fun k hk hl => by simp [Value.ownBlock] at hk; omega)
    clear c0 c1 c2 c3 c4 c5 d0 d1 d2 hown hgrow hlt0 hne0
    obtain ⟨d0, d1, d2⟩ := cells3 (HU3.out.at HQ1.out (by simp))
    have hbu := heap_alloc1 w1 (.cells #[.int .i64 t, .int .i64 q, .int .i64 s] 38)
    have hu5 := (Upd.refl [] w1).alloc (.cells #[.int .i64 t, .int .i64 q, .int .i64 s] 38)
    have HR1 := Lib.hid (row_one (it := ⟨t, q, s⟩) hbu)
    have HO2 := Lib.hid (hu5.row HO.out (by simp))
    have HS3 := Lib.hid (HU3.out.size)
    clear hbu
    go_upto_region 6 with (at_builtin; refine app_row tyI rfl _ _ rfl W2.heap.size v1 (0 + l.top.l.length) ([] ++ l.top.l) rfl HO2.out (some ⟨w1.heap.size, 0, none⟩) 1 1 [⟨t, q, s⟩] rfl rfl HR1.out (fun e => by simp at e) (by omega) (by have := HS3.out; simp; omega) ?_; intro v2 w2 hown hgrow)
    obtain ⟨hnn, ad2, cap2, rfl, hS2, hge2⟩ := hasS_row hown
    have hU4 : Upd [] W2 w2 := (HU3.out.thn hu5).grown hgrow (fun k hk hl => by have := own_ge HO.out k hk; omega)
    rw [List.nil_append] at hS2
    have hI3 := HI2.out.top hU4 hS2 (fun b hb _ => avS_ge (n := W2.heap.size) hge2 (by have := HS2Z.out; omega))
    simp only at hI3
    have hln : (l.top.l ++ [(⟨t, q, s⟩ : It)]).length = l.top.l.length + 1 := by simp
    rw [hln] at hI3
    have HLN := Lib.hid hln
    have q0 := hU4.at HI2.out.cells (by simp)
    have HI3 := Lib.hid hI3
    obtain ⟨c0, c1, c2, c3, c4, c5⟩ := cells6 q0
    obtain ⟨z0, z1, z2, z3, z4, z5⟩ := free6 q0
    clear d0 d1 d2 hown hgrow hS2 hge2 hu5 hnn hU4 q0 hI3 hln
    go_upto_region 7 with (fail)
    clear c0 c1 c2 c3 c4 c5 z0 z1 z2 z3 z4 z5
    with_reducible generalize w2.setCell ⟨H, 1, none⟩ (.slice ad2 (l.top.l.length + 1) cap2) = w3 at HI3 ⊢
    have q2 := HI3.out.other (R := H + 1 + 1) (by omega) HB2.out
    have HQ2 := Lib.hid q2
    obtain ⟨c0, c1, c2, c3, c4, c5⟩ := cells6 HI3.out.cells
    obtain ⟨y0, y1, y2, y3, y4, y5⟩ := cells6 q2
    obtain ⟨z0, z1, z2, z3, z4, z5⟩ := free6 q2
    clear q2
    simp only at c0 c1 c2 c3 c4 c5
    go_wp2_with fail
    have p2 := stored6 HQ2.out (.int .i64 l.ts) (.slice ad2 (l.top.l.length + 1) cap2) (.slice l.rs.ad l.rs.l.length l.rs.cap) (.slice l.bot.ad l.bot.l.length l.bot.cap) (.int .i64 (l.mv + 1)) (.int .i64 (l.cp + 1))
    have hU5 := upd_set6 w3 (H + 1 + 1) (.int .i64 l.ts) (.slice ad2 (l.top.l.length + 1) cap2) (.slice l.rs.ad l.rs.l.length l.rs.cap) (.slice l.bot.ad l.bot.l.length l.bot.cap) (.int .i64 (l.mv + 1)) (.int .i64 (l.cp + 1))
    with_reducible generalize (((((w3.setCell ⟨H + 1 + 1, 0, none⟩ (.int .i64 l.ts)).setCell ⟨H + 1 + 1, 1, none⟩ (.slice ad2 (l.top.l.length + 1) cap2)).setCell ⟨H + 1 + 1, 2, none⟩ (.slice l.rs.ad l.rs.l.length l.rs.cap)).setCell ⟨H + 1 + 1, 3, none⟩ (.slice l.bot.ad l.bot.l.length l.bot.cap)).setCell ⟨H + 1 + 1, 4, none⟩ (.int .i64 (l.mv + 1))).setCell ⟨H + 1 + 1, 5, none⟩ (.int .i64 (l.cp + 1)) = wf at p2 hU5 ⊢
    obtain ⟨r0, r1, r2, r3, r4, r5⟩ := cells6 p2
    have hfin : GivesRD l gl w (.returned (.agg #[.int .i64 l.ts, .slice ad2 (l.top.l.length + 1) cap2, .slice l.rs.ad l.rs.l.length l.rs.cap, .slice l.bot.ad l.bot.l.length l.bot.cap, .int .i64 (l.mv + 1), .int .i64 (l.cp + 1)])) wf := ⟨⟨l.ts, ⟨l.top.l ++ [⟨t, q, s⟩], ad2, cap2⟩, l.rs, l.bot, l.mv + 1, l.cp + 1⟩, by simp only [encD, cellsD, HLN.out], HI3.out.fin (by have := HH.out; omega) (by have := HWS.out; omega) hU5 (HE1.out _ rfl)⟩
    exact bodyPost_ret (v := .agg #[.int .i64 l.ts, .slice ad2 (l.top.l.length + 1) cap2, .slice l.rs.ad l.rs.l.length l.rs.cap, .slice l.bot.ad l.bot.l.length l.bot.cap, .int .i64 (l.mv + 1), .int .i64 (l.cp + 1)]) (by simp [results, Tryz.results21, go_sem, r0, r1, r2, r3, r4, r5]) rfl hfin
  have hd : decide (l.ts ≤ t) = false := by simpa using hle
  have HE2' := Lib.hid (fun l' k hk => HE2.out l' k hk hle)
  have HE3' := Lib.hid (fun l' => HE3.out l' hle)
  clear hle HE1 HE2 HE3
  go_upto_region 8 with (fail)
  clear c0 c1 c2 c3 c4 c5 d0 d1 d2
  obtain ⟨n, hn⟩ : ∃ n, n = l.rs.l.length := ⟨_, rfl⟩
  have HN := Lib.hid hn
  have h4 := HSZ.out.2.1
  rw [← hn] at h4
  clear hn
  go_wp2_with fail
  go_loopg [6] n (fun gk vi wr => ∃ k : Nat, vi = .int .i64 k ∧ k + gk = n ∧ Hid (InD w W H l wr ⟨l.ts, l.top, l.rs, l.bot, l.mv + 1, l.cp + 1 + (k : Nat)⟩) ∧ Hid (∀ j (hj : j < l.rs.l.length), j < k → t < curT (l.rs.l[j]).rg))
  case atStart => exact ⟨0, rfl, by omega, by simpa using HI2, fun j _ hj => by omega⟩
  case round =>
    obtain ⟨k, rfl, hkg, HI, HNO⟩ := hrel
    have q1 := HI.out.other (R := H + 1) (by omega) HB1.out
    have HQ1 := Lib.hid q1
    obtain ⟨d0, d1, d2⟩ := cells3 q1
    obtain ⟨c0, c1, c2, c3, c4, c5⟩ := cells6 HI.out.cells
    simp only at c0 c1 c2 c3 c4 c5
    rw [← HN.out] at c2
    clear q1
    by_cases hlt : k < n
    · have hltz : (k : Int) < (n : Int) := by omega
      have hk1 : k < l.rs.l.length := by have := HN.out; omega
      obtain ⟨z0, z1, z2, z3, z4, z5⟩ := free6 HI.out.cells
      have hw2 : IntKind.i64.wrap (l.cp + 1 + ((k : Nat) : Int) + 1) = l.cp + 1 + ((k : Nat) : Int) + 1 := by have := HBD.out; rw [IntKind.wrap_i64]; omega
      go_upto_region 12 with (fail)
      have HI3 := Lib.hid (HI.out.cp (l.cp + 1 + ((k : Nat) : Int) + 1))
      clear c0 c1 c2 c3 c4 c5 z0 z1 z2 z3 z4 z5 d0 d1 d2 hw2
      with_reducible generalize wr.setCell ⟨H, 5, none⟩ (.int .i64 (l.cp + 1 + ((k : Nat) : Int) + 1)) = w3 at HI3 ⊢
      have q1 := HI3.out.other (R := H + 1) (by omega) HB1.out
      have HQ1 := Lib.hid q1
      obtain ⟨d0, d1, d2⟩ := cells3 q1
      obtain ⟨c0, c1, c2, c3, c4, c5⟩ := cells6 HI3.out.cells
      simp only at c0 c1 c2 c3 c4 c5
      rw [← HN.out] at c2
      obtain ⟨b, off, hbo, x0, x1, x2, x3⟩ := HI3.out.has.rs.row.rung k hk1
      simp only at hbo
      have HBO := Lib.hid hbo
      rw [hbo] at c2
      clear q1 hbo
      have hcu := HCU.out k hk1
      have hpu := HPU.out k hk1
      have HRK := Lib.hid (fun r W hs => HRU.out k hk1 r W hs)
      have HE2K := Lib.hid (fun l' hc => HE2'.out l' k hk1 HNO.out hc)
      have HNX : Hid (t < curT (l.rs.l[k]).rg → ∀ j (hj : j < l.rs.l.length), j < k + 1 → t < curT (l.rs.l[j]).rg) := fun ho j hj hjk => by
        by_cases e : j = k
        · subst e; exact ho
        · exact HNO.out j hj (by omega)
      have HGR : Hid (∀ V, InD w W H l V ⟨l.ts, l.top, l.rs, l.bot, l.mv + 1, l.cp + 1 + ((k : Nat) : Int) + 1⟩ → HasR V l.rs.l[k]) := fun V h => h.has.rg _ (List.getElem_mem hk1)
      obtain ⟨r, hr⟩ : ∃ r, r = l.rs.l[k] := ⟨_, rfl⟩
      rw [← hr] at hcu hpu HE2K HNX HGR x0 x1 x2 x3
      have HRM : Hid (r ∈ l.rs.l) := by rw [hr]; exact List.getElem_mem hk1
      obtain ⟨fr, wd, cu, bk⟩ := r
      unfold encR at hcu hpu
      simp only at hcu hpu x0 x1 x2 x3
      have HCUK := Lib.hid hcu; have HPUK := Lib.hid hpu
      generalize hct : curT (⟨fr, wd, cu, bk⟩ : RgR).rg = ct at HCUK HE2K HNX
      clear hcu hpu hr hct
      have c2k := kept_at c2; have d0k := kept_at d0
      have x0k := kept_at x0; have x1k := kept_at x1; have x2k := kept_at x2; have x3k := kept_at x3
      refine wp_region_quiet_kept mixed (by kernel_rfl) ?_
      repeat (go_big_quiet_step (first | (go_at_call 29; exact calls_kept (HCUK.out _))))
      refine wpQuiet_nil ?_
      intro W3 hw'
      obtain ⟨⟨Wx, hu⟩, hw''⟩ := hw'
      simp only at hw''
      subst hw''
      have HI4 := Lib.hid (HI3.out.stay hu)
      replace c2 := hu.cell c2 (by simp); replace x0 := hu.cell x0 (by simp); replace x1 := hu.cell x1 (by simp); replace x2 := hu.cell x2 (by simp); replace x3 := hu.cell x3 (by simp)
      have q1 := hu.at HQ1.out (by simp)
      replace HQ1 := Lib.hid q1
      replace d0 := hu.cell d0 (by simp); replace d1 := hu.cell d1 (by simp); replace d2 := hu.cell d2 (by simp)
      clear c0 c1 c3 c4 c5 c2k d0k x0k x1k x2k x3k hu q1 HI HI3
      by_cases hc : ct ≤ t
      · have hdc : decide (ct ≤ t) = true := by simpa using hc
        replace HE2K := Lib.hid (fun l' => HE2K.out l' hc)
        clear HNX
        go_upto_region 13 with (fail)
        clear hc hdc
        go_cut [7, 8] from 33 to 69 (fun v7 v8 wx => ∃ Q r' b', v7 = .pointer (some ⟨Q, 0, none⟩) ∧ v8 = .bool b' ∧ Hid (Boxed W3 ⟨fr, wd, cu, bk⟩ (putR (⟨fr, wd, cu, bk⟩ : RgR).rg ⟨t, q, s⟩).1 Q wx r'))
        case first =>
          have HHR := Lib.hid (HGR.out _ HI4.out)
          have HPUK := Lib.hid (fun V (hu : Upd [] W3 V) => HPUK.out V (HHR.out.stay hu))
          generalize putR (⟨fr, wd, cu, bk⟩ : RgR).rg ⟨t, q, s⟩ = pp at *
          generalize bk.l.length = m at *
          generalize bk.ad = ba at *
          generalize bk.cap = bc at *
          have HKP : Hid (∀ wz, Upd [] W3 wz → wz.cell? ⟨H, 2, none⟩ = some (.slice (some ⟨b, off, none⟩) n l.rs.cap) ∧ wz.cell? ⟨b, off + k * 4, none⟩ = some (.int .i64 fr) ∧ wz.cell? ⟨b, off + k * 4 + 1, none⟩ = some (.int .i64 wd) ∧ wz.cell? ⟨b, off + k * 4 + 2, none⟩ = some (.int .i64 cu) ∧ wz.cell? ⟨b, off + k * 4 + 3, none⟩ = some (.slice ba m bc) ∧ wz.cell? ⟨H + 1, 0, none⟩ = some (.int .i64 t) ∧ wz.cell? ⟨H + 1, 1, none⟩ = some (.int .i64 q) ∧ wz.cell? ⟨H + 1, 2, none⟩ = some (.int .i64 s)) := fun W' hu => ⟨hu.cell c2 (by simp), hu.cell x0 (by simp), hu.cell x1 (by simp), hu.cell x2 (by simp), hu.cell x3 (by simp), hu.cell d0 (by simp), hu.cell d1 (by simp), hu.cell d2 (by simp)⟩
          go_region_held3 (fun wz => wz.cell? ⟨H, 2, none⟩ = some (.slice (some ⟨b, off, none⟩) n l.rs.cap) ∧ wz.cell? ⟨b, off + k * 4, none⟩ = some (.int .i64 fr) ∧ wz.cell? ⟨b, off + k * 4 + 1, none⟩ = some (.int .i64 wd) ∧ wz.cell? ⟨b, off + k * 4 + 2, none⟩ = some (.int .i64 cu) ∧ wz.cell? ⟨b, off + k * 4 + 3, none⟩ = some (.slice ba m bc) ∧ wz.cell? ⟨H + 1, 0, none⟩ = some (.int .i64 t) ∧ wz.cell? ⟨H + 1, 1, none⟩ = some (.int .i64 q) ∧ wz.cell? ⟨H + 1, 2, none⟩ = some (.int .i64 s)) (first | exact ⟨c2, x0, x1, x2, x3, d0, d1, d2⟩ | (refine HKP.out _ ?_; (repeat (first | exact Upd.refl [] _ | refine Upd.setCell ?_ (fun hl => absurd hl (Nat.not_lt.2 (by first | exact Nat.le_refl _ | exact hN.upd.size))) _ | refine Upd.drew ?_ | refine Upd.alloc ?_ _ | refine Upd.trans (T := []) ?_ (by assumption) (by simp))))) (first
            | (go_at_call 30; (with_reducible refine (HPUK.out _ ?_).mono ?_); (repeat (first | exact Upd.refl [] _ | refine Upd.drew ?_ | refine Upd.alloc ?_ _ | refine Upd.trans (T := []) ?_ (by assumption) (by simp))); rintro e w' ⟨⟨fr', wd', cu', ⟨bl', ba', bc'⟩⟩, rfl, hN⟩; unfold encR; have hu := hN.upd; try (have pb := hu.at (heap_alloc1 W3 (.cells #[.int .i64 0, .int .i64 0, .int .i64 0, .slice none 0 0] 59)) (by simp); obtain ⟨y0, y1, y2, y3⟩ := cells4 pb; obtain ⟨z0, z1, z2, z3⟩ := free4 pb; clear pb)))
          all_goals go_wp2_with fail
          all_goals go_meet
          case rel =>
            refine ⟨w'.heap.size, ⟨fr', wd', cu', ⟨bl', ba', bc'⟩⟩, _, rfl, rfl, ?_⟩
            have hb := boxed_last (w := W3) (h := hN) (by repeat (first | exact Upd.refl [] _ | refine Upd.drew ?_ | refine Upd.alloc ?_ _))
            simp only [cellsR] at hb
            exact Lib.hid hb
          case rel =>
            refine ⟨W3.heap.size, ⟨fr', wd', cu', ⟨bl', ba', bc'⟩⟩, _, rfl, rfl, ?_⟩
            have hb := boxed_at (w := W3) (w1 := (W3.alloc (.cells #[.int .i64 0, .int .i64 0, .int .i64 0, .slice none 0 0] 59)).drew) (Q := W3.heap.size) (h := hN) HHR.out (heap_alloc1 W3 (.cells #[.int .i64 0, .int .i64 0, .int .i64 0, .slice none 0 0] 59)) (by repeat (first | exact Upd.refl [] _ | refine Upd.drew ?_ | refine Upd.alloc ?_ _)) (Nat.le_refl _)
            simp only at hb
            exact Lib.hid hb
        case rest =>
        obtain ⟨Q, r', b', rfl, rfl, HBX⟩ := hcut
        obtain ⟨w5, hw5⟩ : ∃ x, x = wc := ⟨_, rfl⟩
        subst hw5
        have hu5 := HBX.out.nxt.upd
        have HI5 := Lib.hid (HI4.out.stay hu5)
        have HRR := Lib.hid (HRK.out r' w5 HI5.out.has.rs)
        have HHN : Hid (∀ w6, Upd [] w5 w6 → HasR w6 r') := fun w6 hu => HBX.out.nxt.has.stay hu
        have HAV : Hid (∀ b, b < W.heap.size → AvR (⟨fr, wd, cu, bk⟩ : RgR) b → AvR r' b) := fun b hb ha => HBX.out.nxt.av b (Nat.lt_of_lt_of_le hb HI4.out.upd.size) ha
        have HRE : Hid (r'.rg = (putR (⟨fr, wd, cu, bk⟩ : RgR).rg ⟨t, q, s⟩).1) := HBX.out.nxt.eq
        have hqb := HBX.out.blk
        obtain ⟨fr', wd', cu', ⟨bl', ba', bc'⟩⟩ := r'
        unfold encR at HRR
        unfold cellsR at hqb
        simp only at HRR hqb
        rw [← HN.out] at HRR
        rw [HBO.out] at HRR
        obtain ⟨y0, y1, y2, y3⟩ := cells4 hqb
        clear c2 x0 x1 x2 x3 d0 d1 d2 hqb
        obtain ⟨c0, c1, c2, c3, c4, c5⟩ := cells6 HI5.out.cells
        simp only at c0 c1 c2 c3 c4 c5
        rw [← HN.out, HBO.out] at c2
        clear c0 c1 c3 c4 c5 hu5
        go_upto_region 15 with (go_at_call 31; (with_reducible refine HRR.out.mono ?_); rintro e w6 ⟨g, cap, rfl, hs, hge, hu⟩; have hq := hu.at HI5.out.cells (by simp); obtain ⟨z0, z1, z2, z3, z4, z5⟩ := free6 hq; obtain ⟨y0, y1, y2, y3, y4, y5⟩ := cells6 hq; clear hq)
        have hI6 := HI5.out.rs hu hs (fun x hx => by
          rcases List.mem_or_eq_of_mem_set hx with hx | hx
          · exact (HI5.out.has.rg x hx).stay hu
          · rw [hx]; exact HHN.out _ hu) (fun b hb ha => ⟨avS_ge (n := w5.heap.size) (fun a ea => by obtain rfl := Option.some.inj ea; exact hge) (Nat.lt_of_lt_of_le hb HI5.out.upd.size), fun x hx => by
          rcases List.mem_or_eq_of_mem_set hx with hx | hx
          · exact ha.rg x hx
          · rw [hx]; exact HAV.out b hb (ha.rg _ HRM.out)⟩)
        simp only [List.length_set] at hI6
        rw [← HN.out] at hI6
        have HI6 := Lib.hid hI6
        clear hI6 hs hge hu y0 y1 y2 y3 y4 y5 z0 z1 z2 z3 z4 z5 c2
        with_reducible generalize w6.setCell ⟨H, 2, none⟩ (.slice (some ⟨g, 0, none⟩) n cap) = w7 at HI6 ⊢
        have HLN : Hid ((l.rs.l.set k (⟨fr', wd', cu', ⟨bl', ba', bc'⟩⟩ : RgR)).length = n) := by show _ = _; rw [List.length_set]; exact HN.out.symm
        have q2 := HI6.out.other (R := H + 1 + 1) (by omega) HB2.out
        have HQ2 := Lib.hid q2
        obtain ⟨c0, c1, c2, c3, c4, c5⟩ := cells6 HI6.out.cells
        obtain ⟨y0, y1, y2, y3, y4, y5⟩ := cells6 q2
        obtain ⟨z0, z1, z2, z3, z4, z5⟩ := free6 q2
        clear q2
        simp only at c0 c1 c2 c3 c4 c5
        rw [HLN.out] at c2
        go_wp2_with fail
        have p2 := stored6 HQ2.out (.int .i64 l.ts) (.slice l.top.ad l.top.l.length l.top.cap) (.slice (some ⟨g, 0, none⟩) n cap) (.slice l.bot.ad l.bot.l.length l.bot.cap) (.int .i64 (l.mv + 1)) (.int .i64 (l.cp + 1 + ((k : Nat) : Int) + 1))
        have hU5 := upd_set6 w7 (H + 1 + 1) (.int .i64 l.ts) (.slice l.top.ad l.top.l.length l.top.cap) (.slice (some ⟨g, 0, none⟩) n cap) (.slice l.bot.ad l.bot.l.length l.bot.cap) (.int .i64 (l.mv + 1)) (.int .i64 (l.cp + 1 + ((k : Nat) : Int) + 1))
        with_reducible generalize (((((w7.setCell ⟨H + 1 + 1, 0, none⟩ (.int .i64 l.ts)).setCell ⟨H + 1 + 1, 1, none⟩ (.slice l.top.ad l.top.l.length l.top.cap)).setCell ⟨H + 1 + 1, 2, none⟩ (.slice (some ⟨g, 0, none⟩) n cap)).setCell ⟨H + 1 + 1, 3, none⟩ (.slice l.bot.ad l.bot.l.length l.bot.cap)).setCell ⟨H + 1 + 1, 4, none⟩ (.int .i64 (l.mv + 1))).setCell ⟨H + 1 + 1, 5, none⟩ (.int .i64 (l.cp + 1 + ((k : Nat) : Int) + 1)) = wf at p2 hU5 ⊢
        obtain ⟨r0, r1, r2, r3, r4, r5⟩ := cells6 p2
        have hfin : GivesRD l gl w (.returned (.agg #[.int .i64 l.ts, .slice l.top.ad l.top.l.length l.top.cap, .slice (some ⟨g, 0, none⟩) n cap, .slice l.bot.ad l.bot.l.length l.bot.cap, .int .i64 (l.mv + 1), .int .i64 (l.cp + 1 + ((k : Nat) : Int) + 1)])) wf := ⟨⟨l.ts, l.top, ⟨l.rs.l.set k ⟨fr', wd', cu', ⟨bl', ba', bc'⟩⟩, some ⟨g, 0, none⟩, cap⟩, l.bot, l.mv + 1, l.cp + 1 + ((k : Nat) : Int) + 1⟩, by simp only [encD, cellsD, HLN.out], HI6.out.fin (by have := HH.out; omega) (by have := HWS.out; omega) hU5 (HE2K.out _ (by simp only [LdR.ld, map_set_rg, HRE.out, Ld.mk.injEq, true_and]; omega))⟩
        exact bodyPost_ret (v := .agg #[.int .i64 l.ts, .slice l.top.ad l.top.l.length l.top.cap, .slice (some ⟨g, 0, none⟩) n cap, .slice l.bot.ad l.bot.l.length l.bot.cap, .int .i64 (l.mv + 1), .int .i64 (l.cp + 1 + ((k : Nat) : Int) + 1)]) (by simp [results, Tryz.results21, go_sem, r0, r1, r2, r3, r4, r5]) rfl hfin
      · have hdc : decide (ct ≤ t) = false := by simpa using hc
        have hnx := HNX.out (by omega)
        have HNX2 := Lib.hid hnx
        clear hnx HNX c2 x0 x1 x2 x3 d0 d1 d2
        go_wp2_with fail
        go_roundg (n - (k + 1))
        case measure => omega
        case rel => exact ⟨k + 1, by go_num, by omega, by have h1 := HI4.out; rw [show l.cp + 1 + ((k : Nat) : Int) + 1 = l.cp + 1 + ((k + 1 : Nat) : Int) by omega] at h1; exact Lib.hid h1, HNX2⟩
    · have hltz : ¬ (k : Int) < (n : Int) := by omega
      obtain rfl : n = k := by omega
      have HPLK := Lib.hid (HPL.out wr HI.out.has.bot)
      have HE3K := Lib.hid (fun l' => HE3'.out l' (fun j hj => HNO.out j hj (by have := HN.out; omega)))
      go_upto_region 17 with (go_at_call 32; (with_reducible refine HPLK.out.mono ?_); rintro e w6 ⟨s', rfl, hM⟩; have hq := hM.upd.at HI.out.cells (by simp); obtain ⟨z0, z1, z2, z3, z4, z5⟩ := free6 hq; obtain ⟨y0, y1, y2, y3, y4, y5⟩ := cells6 hq; clear hq)
      have hI6 := HI.out.bot hM.upd hM.has (fun b hb _ => avS_ge (n := wr.heap.size) hM.ge (Nat.lt_of_lt_of_le hb HI.out.upd.size))
      have hme := hM.eq
      simp only at hI6 hme
      have HI6 := Lib.hid hI6
      have HME := Lib.hid hme
      clear hI6 hme hM y0 y1 y2 y3 y4 y5 z0 z1 z2 z3 z4 z5 c0 c1 c2 c3 c4 c5 d0 d1 d2
      with_reducible generalize w6.setCell ⟨H, 3, none⟩ (.slice s'.ad s'.l.length s'.cap) = w7 at HI6 ⊢
      have q2 := HI6.out.other (R := H + 1 + 1) (by omega) HB2.out
      have HQ2 := Lib.hid q2
      obtain ⟨c0, c1, c2, c3, c4, c5⟩ := cells6 HI6.out.cells
      obtain ⟨y0, y1, y2, y3, y4, y5⟩ := cells6 q2
      obtain ⟨z0, z1, z2, z3, z4, z5⟩ := free6 q2
      clear q2
      simp only at c0 c1 c2 c3 c4 c5
      go_wp2_with fail
      have p2 := stored6 HQ2.out (.int .i64 l.ts) (.slice l.top.ad l.top.l.length l.top.cap) (.slice l.rs.ad l.rs.l.length l.rs.cap) (.slice s'.ad s'.l.length s'.cap) (.int .i64 (l.mv + 1)) (.int .i64 (l.cp + 1 + ((n : Nat) : Int)))
      have hU5 := upd_set6 w7 (H + 1 + 1) (.int .i64 l.ts) (.slice l.top.ad l.top.l.length l.top.cap) (.slice l.rs.ad l.rs.l.length l.rs.cap) (.slice s'.ad s'.l.length s'.cap) (.int .i64 (l.mv + 1)) (.int .i64 (l.cp + 1 + ((n : Nat) : Int)))
      with_reducible generalize (((((w7.setCell ⟨H + 1 + 1, 0, none⟩ (.int .i64 l.ts)).setCell ⟨H + 1 + 1, 1, none⟩ (.slice l.top.ad l.top.l.length l.top.cap)).setCell ⟨H + 1 + 1, 2, none⟩ (.slice l.rs.ad l.rs.l.length l.rs.cap)).setCell ⟨H + 1 + 1, 3, none⟩ (.slice s'.ad s'.l.length s'.cap)).setCell ⟨H + 1 + 1, 4, none⟩ (.int .i64 (l.mv + 1))).setCell ⟨H + 1 + 1, 5, none⟩ (.int .i64 (l.cp + 1 + ((n : Nat) : Int))) = wf at p2 hU5 ⊢
      obtain ⟨r0, r1, r2, r3, r4, r5⟩ := cells6 p2
      have hfin : GivesRD l gl w (.returned (.agg #[.int .i64 l.ts, .slice l.top.ad l.top.l.length l.top.cap, .slice l.rs.ad l.rs.l.length l.rs.cap, .slice s'.ad s'.l.length s'.cap, .int .i64 (l.mv + 1), .int .i64 (l.cp + 1 + ((n : Nat) : Int))])) wf := ⟨⟨l.ts, l.top, l.rs, s', l.mv + 1, l.cp + 1 + ((n : Nat) : Int)⟩, rfl, HI6.out.fin (by have := HH.out; omega) (by have := HWS.out; omega) hU5 (HE3K.out _ (by simp only [LdR.ld, HME.out, ← HN.out]))⟩
      exact bodyPost_ret (v := .agg #[.int .i64 l.ts, .slice l.top.ad l.top.l.length l.top.cap, .slice l.rs.ad l.rs.l.length l.rs.cap, .slice s'.ad s'.l.length s'.cap, .int .i64 (l.mv + 1), .int .i64 (l.cp + 1 + ((n : Nat) : Int))]) (by simp [results, Tryz.results21, go_sem, r0, r1, r2, r3, r4, r5]) rfl hfin
end Go.Proofs.YtpabapjodcafkaaGreat
