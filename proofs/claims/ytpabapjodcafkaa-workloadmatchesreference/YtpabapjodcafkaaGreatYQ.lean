/- Contract: the program's ladderRun of layer 9: insert, remove. -/
/- Contract: the program's ladderRun of layer 9: remove. -/
import Derived.Test.YtpabapjodcafkaaGreatYO
import Derived.Test.YtpabapjodcafkaaGreatYN
import Derived.Test.YtpabapjodcafkaaGreatPZ
import Derived.Test.YtpabapjodcafkaaGreatPW
import Derived.Test.YtpabapjodcafkaaGreatLA
namespace Go.Proofs.YtpabapjodcafkaaGreat
open Go.RowKit Go.Lib

/-- A ladderRun in the block P: the queue g, what is out, the metrics. -/
structure RunP (b0 P : Nat) (g : Ld) (out : List It) (ins dep mx : Nat) (wr : World) (l : LdR) (oa : Option Addr) (oc : Nat) : Prop where
  eq : l.ld = g
  box : wr.heap[P]? = some (.cells (cellsP (ins : Nat) (out.length : Nat) l.mv l.cp dep mx l (.slice oa out.length oc)) 45 (0, 0))
  has : HasD wr l
  avP : AvD l P
  o : PendR b0 wr out oa oc
  oav : ∀ x ∈ blkA oa oc, AvD l x
theorem PendR.ne {b0 P : Nat} {w : World} {l : List It} {ad : Option Addr} {cap : Nat} {c : Array Value} (h : PendR b0 w l ad cap) (hb : w.heap[P]? = some (.cells c 45 (0, 0))) : ∀ x ∈ blkA ad cap, x ≠ P := fun x hx e => by
  obtain ⟨_, _, cs, hc⟩ := h.lt x hx
  rw [e, hb] at hc
  have h2 := congrArg (fun o : Option Obj => match o with | some (.cells _ t _) => t | _ => 0) hc
  simp only at h2
  exact absurd h2 (by decide)
theorem RunP.stay {b0 P : Nat} {g : Ld} {out : List It} {ins dep mx : Nat} {wr w2 : World} {l : LdR} {oa : Option Addr} {oc : Nat} (h : RunP b0 P g out ins dep mx wr l oa oc) (hu : Upd [] wr w2) : RunP b0 P g out ins dep mx w2 l oa oc :=
  ⟨h.eq, hu.at h.box (by simp), h.has.stay hu, h.avP, h.o.keep hu (by simp), h.oav⟩
theorem Fit.plen {l : LdR} (hf : Fit l) : ∀ V, HasD V l → Calls Tryz.prog 40 #[encD l] V fun e w' => e = .returned (.int .i64 (lenD l.ld : Nat)) ∧ Upd [] V w' := fun V hv =>
  PLen_has l V hv (by have := hf.sizes; omega) hf.len (fun r hr => by rw [hf.h8 r hr]; decide) (fun r hr s hs => by have := hf.its r hr s hs; omega)
theorem OkW.fitP {k : Nat} {s : Sw} (h : OkW k s) (hk : k ≤ 2000) {l : LdR} (he : l.ld = s.l) : Fit l ∧ l.cp ≤ 100000000000 := by
  have h1 := h.reach; have h2 := h.ik
  rw [← he] at h1
  have h3 := h1.mv; have h4 := h1.cp; have h5 := h1.len
  simp only [LdR.ld] at h3 h4
  exact ⟨⟨h1.good, by omega, by omega⟩, by omega⟩
set_option maxRecDepth 100000 in
set_option maxHeartbeats 8000000 in
theorem lrInsert_has (b0 P : Nat) (g g2 : Ld) (out : List It) (ins dep mx : Nat) (l : LdR) (oa : Option Addr) (oc : Nat) (it : It) (w : World) (hR : RunP b0 P g out ins dep mx w l oa oc) (hf : Fit l) (hcp : l.cp ≤ 100000000000) (hd : ∀ x ∈ itemsL l.ld, ¬ eqK it x) (hg : insertL g it = g2) (hf2 : ∀ l2 : LdR, l2.ld = g2 → Fit l2) (hi : ins ≤ 100000) :
    Calls Tryz.prog 17 #[.pointer (some ⟨P, 0, none⟩), aggI it] w fun e w' => e = .returned (.tuple #[]) ∧ ∃ l2, RunP b0 P g2 out (ins + 1) (max dep g2.rs.length) (max mx (lenD g2)) w' l2 oa oc ∧ Upd [P] w w' := by
  have HIN := Lib.hid (fun W (hu : Upd [] w W) => Insert_has l it W (hR.has.stay hu) hf hcp hd)
  rw [hR.eq, hg] at HIN
  have HR := Lib.hid hR; have HF2 := Lib.hid hf2
  have hb := hR.box
  obtain ⟨t, q, s⟩ := it
  unfold GaveD encD cellsD aggI at HIN
  unfold aggI
  unfold cellsP at hb
  simp only at HIN hb ⊢
  have HB := Lib.hid hb
  clear hR hf hcp hd hg hf2 hb
  go_enter Tryz.func17, Tryz.ntmps17
  go_upto_region 1 with (fail)
  have hu1 := (Upd.refl [] w).alloc (.cells #[.int .i64 t, .int .i64 q, .int .i64 s] 38)
  have q1 := heap_alloc1 w (.cells #[.int .i64 t, .int .i64 q, .int .i64 s] 38)
  generalize w.alloc (.cells #[.int .i64 t, .int .i64 q, .int .i64 s] 38) = W1 at *
  generalize w.heap.size = B at *
  have HU1 := Lib.hid hu1
  have HB1 := Lib.hid (hu1.at HB.out (by simp))
  clear hu1
  obtain ⟨x0, x1, x2⟩ := cells3 q1
  obtain ⟨c0, c1, c2, c3, c4, c5, c6, c7, c8, c9, c10, c11, c12⟩ := cells13 HB1.out
  clear c0 c1 c2 c3 c4 c5 c12 q1
  have HKP : Hid (∀ V, Upd [] W1 V → (V.cell? ⟨P, 6, none⟩ = some (.int .i64 l.ts) ∧ V.cell? ⟨P, 7, none⟩ = some (.slice l.top.ad l.top.l.length l.top.cap) ∧ V.cell? ⟨P, 8, none⟩ = some (.slice l.rs.ad l.rs.l.length l.rs.cap) ∧ V.cell? ⟨P, 9, none⟩ = some (.slice l.bot.ad l.bot.l.length l.bot.cap) ∧ V.cell? ⟨P, 10, none⟩ = some (.int .i64 l.mv) ∧ V.cell? ⟨P, 11, none⟩ = some (.int .i64 l.cp) ∧ V.cell? ⟨B, 0, none⟩ = some (.int .i64 t) ∧ V.cell? ⟨B, 1, none⟩ = some (.int .i64 q) ∧ V.cell? ⟨B, 2, none⟩ = some (.int .i64 s))) := fun V hu => ⟨hu.cell c6 (by simp), hu.cell c7 (by simp), hu.cell c8 (by simp), hu.cell c9 (by simp), hu.cell c10 (by simp), hu.cell c11 (by simp), hu.cell x0 (by simp), hu.cell x1 (by simp), hu.cell x2 (by simp)⟩
  have hS := HKP.out W1.drew (Upd.refl [] W1).drew
  refine wp_region_K (fun V => (V.cell? ⟨P, 6, none⟩ = some (.int .i64 l.ts) ∧ V.cell? ⟨P, 7, none⟩ = some (.slice l.top.ad l.top.l.length l.top.cap) ∧ V.cell? ⟨P, 8, none⟩ = some (.slice l.rs.ad l.rs.l.length l.rs.cap) ∧ V.cell? ⟨P, 9, none⟩ = some (.slice l.bot.ad l.bot.l.length l.bot.cap) ∧ V.cell? ⟨P, 10, none⟩ = some (.int .i64 l.mv) ∧ V.cell? ⟨P, 11, none⟩ = some (.int .i64 l.cp) ∧ V.cell? ⟨B, 0, none⟩ = some (.int .i64 t) ∧ V.cell? ⟨B, 1, none⟩ = some (.int .i64 q) ∧ V.cell? ⟨B, 2, none⟩ = some (.int .i64 s))) 9 mixed ?_
  refine wpAnyK_take (i := 0) (d := some 4) (v := .pointer (some ⟨P, 0, none⟩)) rfl rfl (by kernel_rfl) (fun _ _ _ h => h) (.inl ⟨rfl, fun wz hz => rfl⟩) hS ?_
  simp only [Act.put, List.setIfInBounds_toArray, List.set_cons_succ, List.set_cons_zero]
  refine wpAnyK_take (i := 1) (d := some 5) (v := .pointer (some ⟨P, 0, none⟩)) rfl rfl (by kernel_rfl) (fun _ _ _ h => h) (.inl ⟨rfl, fun wz hz => rfl⟩) hS ?_
  simp only [Act.put, List.setIfInBounds_toArray, List.set_cons_succ, List.set_cons_zero]
  refine wpAnyK_take (i := 2) (d := some 6) (v := .pointer (some ⟨P, 0, none⟩)) rfl rfl (by kernel_rfl) (fun _ _ _ h => h) (.inl ⟨rfl, fun wz hz => by simp [execOp, Act.eval, go_sem]⟩) hS ?_
  simp only [Act.put, List.setIfInBounds_toArray, List.set_cons_succ, List.set_cons_zero]
  refine wpAnyK_take (i := 3) (d := some 7) (v := .pointer (some ⟨P, 6, none⟩)) rfl rfl (by kernel_rfl) (fun _ _ _ h => h) (.inl ⟨rfl, fun wz hz => by simp [execOp, Act.eval, go_sem]⟩) hS ?_
  simp only [Act.put, List.setIfInBounds_toArray, List.set_cons_succ, List.set_cons_zero]
  refine wpAnyK_take (i := 4) (d := some 8) (v := .agg #[.int .i64 l.ts, .slice l.top.ad l.top.l.length l.top.cap, .slice l.rs.ad l.rs.l.length l.rs.cap, .slice l.bot.ad l.bot.l.length l.bot.cap, .int .i64 l.mv, .int .i64 l.cp]) rfl rfl (by kernel_rfl) (fun _ _ _ h => h) (.inl ⟨rfl, fun wz hz => by simp [execOp, Act.eval, go_sem, hz.1, hz.2.1, hz.2.2.1, hz.2.2.2.1, hz.2.2.2.2.1, hz.2.2.2.2.2.1]⟩) hS ?_
  simp only [Act.put, List.setIfInBounds_toArray, List.set_cons_succ, List.set_cons_zero]
  refine wpAnyK_take (i := 5) (d := some 9) (v := .agg #[.int .i64 t, .int .i64 q, .int .i64 s]) rfl rfl (by kernel_rfl) (fun _ _ _ h => h) (.inl ⟨rfl, fun wz hz => by simp [execOp, Act.eval, go_sem, hz.2.2.2.2.2.2.1, hz.2.2.2.2.2.2.2.1, hz.2.2.2.2.2.2.2.2]⟩) hS ?_
  simp only [Act.put, List.setIfInBounds_toArray, List.set_cons_succ, List.set_cons_zero]
  refine anyK_fn (i := 6) (d := some 10) (R := fun v W3 => ∃ l2 : LdR, v = .agg #[.int .i64 l2.ts, .slice l2.top.ad l2.top.l.length l2.top.cap, .slice l2.rs.ad l2.rs.l.length l2.rs.cap, .slice l2.bot.ad l2.bot.l.length l2.bot.cap, .int .i64 l2.mv, .int .i64 l2.cp] ∧ BornD W1.drew g2 W3 l2) rfl rfl (by kernel_rfl) rfl (by simp [execOp, Act.eval, go_sem]) ((HIN.out W1.drew HU1.out.drew).mono fun e W3 h => by obtain ⟨l2, h1, h2⟩ := h; exact ⟨_, h1, l2, rfl, h2⟩) ?_
  rintro _ W3 ⟨l2, rfl, hbn⟩
  have hU3 : Upd [] W1 W3 := (Upd.refl [] W1).drew.thn hbn.upd
  have hS3 := HKP.out W3 hU3
  refine ⟨.inr hS3, ?_⟩
  simp only [Act.put, List.setIfInBounds_toArray, List.set_cons_succ, List.set_cons_zero]
  refine wpAnyK_value (i := 7) (d := some 11) (v := .pointer (some ⟨P, 0, none⟩)) (w' := W3) rfl rfl (by kernel_rfl) rfl (by simp [execOp, Act.eval, go_sem]) (.inr hS3) ?_
  simp only [Act.put, List.setIfInBounds_toArray, List.set_cons_succ, List.set_cons_zero]
  refine wpAnyK_value (i := 8) (d := some 12) (v := .pointer (some ⟨P, 6, none⟩)) (w' := W3) rfl rfl (by kernel_rfl) rfl (by simp [execOp, Act.eval, go_sem]) (.inr hS3) ?_
  simp only [Act.put, List.setIfInBounds_toArray, List.set_cons_succ, List.set_cons_zero]
  have hB3 := hU3.at HB1.out (by simp)
  obtain ⟨y0, y1, y2, y3, y4, y5, y6, y7, y8, y9, y10, y11, y12⟩ := cells13 hB3
  obtain ⟨f0, f1, f2, f3, f4, f5, f6, f7, f8, f9, f10, f11, f12⟩ := free13 hB3
  refine wpAnyK_skip (i := 9) (d := none) (w' := (((((W3.setCell ⟨P, 6, none⟩ (.int .i64 l2.ts)).setCell ⟨P, 7, none⟩ (.slice l2.top.ad l2.top.l.length l2.top.cap)).setCell ⟨P, 8, none⟩ (.slice l2.rs.ad l2.rs.l.length l2.rs.cap)).setCell ⟨P, 9, none⟩ (.slice l2.bot.ad l2.bot.l.length l2.bot.cap)).setCell ⟨P, 10, none⟩ (.int .i64 l2.mv)).setCell ⟨P, 11, none⟩ (.int .i64 l2.cp)) rfl rfl (by kernel_rfl) rfl (by simp [execOp, Act.eval, go_sem, y6, y7, y8, y9, y10, y11, f6, f7, f8, f9, f10, f11]) (.inl rfl) ?_
  refine wpAnyK_done (by kernel_rfl) ?_ _
  clear hS hS3 y0 y1 y2 y3 y4 y5 y6 y7 y8 y9 y10 y11 y12 f0 f1 f2 f3 f4 f5 f6 f7 f8 f9 f10 f11 f12 c6 c7 c8 c9 c10 c11 x0 x1 x2 HKP HIN
  have p3 : ((((((W3.setCell ⟨P, 6, none⟩ (.int .i64 l2.ts)).setCell ⟨P, 7, none⟩ (.slice l2.top.ad l2.top.l.length l2.top.cap)).setCell ⟨P, 8, none⟩ (.slice l2.rs.ad l2.rs.l.length l2.rs.cap)).setCell ⟨P, 9, none⟩ (.slice l2.bot.ad l2.bot.l.length l2.bot.cap)).setCell ⟨P, 10, none⟩ (.int .i64 l2.mv)).setCell ⟨P, 11, none⟩ (.int .i64 l2.cp)).heap[P]? = some (.cells #[.int .i64 (ins : Nat), .int .i64 (out.length : Nat), .int .i64 l.mv, .int .i64 l.cp, .int .i64 (dep : Nat), .int .i64 (mx : Nat), .int .i64 l2.ts, .slice l2.top.ad l2.top.l.length l2.top.cap, .slice l2.rs.ad l2.rs.l.length l2.rs.cap, .slice l2.bot.ad l2.bot.l.length l2.bot.cap, .int .i64 l2.mv, .int .i64 l2.cp, .slice oa out.length oc] 45 (0, 0)) := setCell_block (setCell_block (setCell_block (setCell_block (setCell_block (setCell_block hB3 _) _) _) _) _) _
  have hU4 : Upd [P] W3 ((((((W3.setCell ⟨P, 6, none⟩ (.int .i64 l2.ts)).setCell ⟨P, 7, none⟩ (.slice l2.top.ad l2.top.l.length l2.top.cap)).setCell ⟨P, 8, none⟩ (.slice l2.rs.ad l2.rs.l.length l2.rs.cap)).setCell ⟨P, 9, none⟩ (.slice l2.bot.ad l2.bot.l.length l2.bot.cap)).setCell ⟨P, 10, none⟩ (.int .i64 l2.mv)).setCell ⟨P, 11, none⟩ (.int .i64 l2.cp)) := ((((((upd_set1 W3 P 6 _).trans (upd_set1 _ P 7 _) (fun x hx _ => hx)).trans (upd_set1 _ P 8 _) (fun x hx _ => hx)).trans (upd_set1 _ P 9 _) (fun x hx _ => hx)).trans (upd_set1 _ P 10 _) (fun x hx _ => hx)).trans (upd_set1 _ P 11 _) (fun x hx _ => hx))
  with_reducible generalize (((((W3.setCell ⟨P, 6, none⟩ (.int .i64 l2.ts)).setCell ⟨P, 7, none⟩ (.slice l2.top.ad l2.top.l.length l2.top.cap)).setCell ⟨P, 8, none⟩ (.slice l2.rs.ad l2.rs.l.length l2.rs.cap)).setCell ⟨P, 9, none⟩ (.slice l2.bot.ad l2.bot.l.length l2.bot.cap)).setCell ⟨P, 10, none⟩ (.int .i64 l2.mv)).setCell ⟨P, 11, none⟩ (.int .i64 l2.cp) = W4 at p3 hU4 ⊢
  have HB4 := Lib.hid p3
  have HU4 : Hid (Upd [P] w W4) := (HU1.out.thn hU3).mono (by simp) |>.trans hU4 (fun x hx _ => hx)
  have HBN := Lib.hid hbn; have HU34 := Lib.hid hU4; have HU13 := Lib.hid hU3
  clear p3 hU4 hbn hU3 hB3
  simp only [Act.put]
  have hwi : IntKind.i64.wrap ((ins : Int) + 1) = (ins : Int) + 1 := by rw [IntKind.wrap_i64]; omega
  have c0 := (cells13 HB4.out).1
  have f0 := (free13 HB4.out).1
  go_upto_region 3 with (fail)
  have p5 : (W4.setCell ⟨P, 0, none⟩ (.int .i64 ((ins : Int) + 1))).heap[P]? = some (.cells #[.int .i64 ((ins : Int) + 1), .int .i64 (out.length : Nat), .int .i64 l.mv, .int .i64 l.cp, .int .i64 (dep : Nat), .int .i64 (mx : Nat), .int .i64 l2.ts, .slice l2.top.ad l2.top.l.length l2.top.cap, .slice l2.rs.ad l2.rs.l.length l2.rs.cap, .slice l2.bot.ad l2.bot.l.length l2.bot.cap, .int .i64 l2.mv, .int .i64 l2.cp, .slice oa out.length oc] 45 (0, 0)) := setCell_block HB4.out _
  have hU5 : Upd [P] w (W4.setCell ⟨P, 0, none⟩ (.int .i64 ((ins : Int) + 1))) := HU4.out.trans (upd_set1 W4 P 0 _) (fun x hx _ => hx)
  have hD5 : HasD (W4.setCell ⟨P, 0, none⟩ (.int .i64 ((ins : Int) + 1))) l2 := (HBN.out.has.keep1 HU34.out (HBN.out.av P (by have h1 := lt_block HB.out; have h2 := HU1.out.size; show P < W1.heap.size; omega))).keep1 (upd_set1 W4 P 0 _) (HBN.out.av P (by have h1 := lt_block HB.out; have h2 := HU1.out.size; show P < W1.heap.size; omega))
  generalize W4.setCell ⟨P, 0, none⟩ (.int .i64 ((ins : Int) + 1)) = W5 at p5 hU5 hD5 ⊢
  have hAP : AvD l2 P := HBN.out.av P (by have h1 := lt_block HB.out; have h2 := HU1.out.size; show P < W1.heap.size; omega)
  have HME := Lib.hid (measure_has P ((ins : Int) + 1) (out.length : Nat) l.mv l.cp dep mx l2 (.slice oa out.length oc) W5 p5 hD5 hAP (HF2.out l2 HBN.out.eq).plen)
  have HD5 := Lib.hid hD5; have HU5 := Lib.hid hU5; have HAP := Lib.hid hAP
  clear p5 hU5 hD5 hAP c0 f0 hwi
  go_wp2_with fail
  refine HME.out.mono ?_
  rintro e W6 ⟨rfl, hb6, hu6⟩
  have HFIN : Hid (∃ l2, RunP b0 P g2 out (ins + 1) (max dep g2.rs.length) (max mx (lenD g2)) W6 l2 oa oc ∧ Upd [P] w W6) := by
    have hU6 : Upd [P] w W6 := HU5.out.trans hu6 (fun x hx _ => hx)
    have he : l2.ld = g2 := HBN.out.eq
    have hel : l2.rs.l.length = g2.rs.length := by rw [← he]; simp [LdR.ld]
    refine ⟨l2, ⟨he, ?_, HD5.out.keep1 hu6 HAP.out, HAP.out, HR.out.o.keep hU6 (fun x hx hm => HR.out.o.ne HR.out.box x hx (by simpa using hm)), fun x hx => ?_⟩, hU6⟩
    · rw [hb6, he, hel]; rfl
    · exact HBN.out.av x (by have h1 := (HR.out.o.lt x hx).2.1; have h2 := HU1.out.size; show x < W1.heap.size; omega)
  clear hb6 hu6 HME
  go_wp2_with fail
  go_end0
  exact ⟨rfl, HFIN.out⟩
end Go.Proofs.YtpabapjodcafkaaGreat
namespace Go.Proofs.YtpabapjodcafkaaGreat
open Go.RowKit Go.Lib

section
variable {ops : Array Oper} {Q : Exit → Act → World → Prop} {md : Region.Mode} {S : World → Prop} {k : Nat}
/-- An append that alone may come up. -/
theorem anyK_app {i : Nat} {o : Oper} {d : Option Tmp} {fuel : Nat} {listed : Array Bool} {a : Act} {w w' : World} {v v1 v2 : Value} (s x : Operand) (hi : ops[i]? = some o) (hd : o.dst = d) (hr : Region.ready md ops listed = [i]) (hw : Region.wanted o (yielded ops a.tmps) = true)
    (ho : o.op = .call { callee := .builtin .append, args := #[s, x], argTypes := #[26, 26] }) (hs : a.eval s = v1) (hx : a.eval x = v2) (hrun : (Builtin.append_ #[26, 26] o.type #[v1, v2]).run Tryz.prog w = .ok v w') (hS : i = k ∨ S w')
    (h : wpAnyK Tryz.prog md ops Q S k fuel (listed.setIfInBounds i true) (a.put d v) w') : wpAnyK Tryz.prog md ops Q S k (fuel + 1) listed a w := by
  refine wpAnyK_value hi hd hr hw ?_ hS h
  unfold execOp
  simp only [ho, resolve, invoke, builtin, Sem.run_bind, Sem.run_pure, Result.andThen_ok, List.map_toArray, List.map_cons, List.map_nil, hs, hx, hrun]
end
def RemP (b0 P : Nat) (g : Ld) (out : List It) (ins dep mx : Nat) (S : List Nat) (w w' : World) : Prop := ∃ l oa oc, RunP b0 P g out ins dep mx w' l oa oc ∧ Upd S w w'
/-- A row that may have grown keeps a queue that lies apart. -/
theorem has_keepA {w w' : World} {l : LdR} {oa : Option Addr} {oc : Nat} (h : HasD w l) (hu : Upd (blkA oa oc) w w') (ha : ∀ x ∈ blkA oa oc, AvD l x) : HasD w' l := by
  unfold blkA at hu ha
  cases oa with
  | none => exact h.stay hu
  | some a =>
    simp only at hu ha
    split at hu
    · exact h.stay hu
    · rename_i hc
      exact h.keep1 hu (ha a.block (by rw [if_neg hc]; simp))
set_option maxRecDepth 100000 in
set_option maxHeartbeats 8000000 in
theorem lrRemove_has (b0 P : Nat) (g g2 : Ld) (x : It) (ok : Bool) (out : List It) (ins dep mx : Nat) (l : LdR) (oa : Option Addr) (oc : Nat) (it : It) (w : World) (hR : RunP b0 P g out ins dep mx w l oa oc) (hf : Fit l) (hg : popL g = (g2, x, ok)) (hf2 : ∀ l2 : LdR, l2.ld = g2 → Fit l2) (ho : out.length ≤ 100000) (hbs : b0 ≤ w.heap.size) :
    Calls Tryz.prog 18 #[.pointer (some ⟨P, 0, none⟩), aggI it] w fun e w' => e = .returned (.tuple #[]) ∧ RemP b0 P g2 (if ok = true then out ++ [x] else out) ins (max dep g2.rs.length) (max mx (lenD g2)) (P :: blkA oa oc) w w' := by
  have HPO := Lib.hid (fun W (hu : Upd [] w W) => Pop_has l W (hR.has.stay hu) hf)
  rw [hR.eq, hg] at HPO
  have HR := Lib.hid hR; have HF2 := Lib.hid hf2; have HBS := Lib.hid hbs
  have hb := hR.box
  obtain ⟨t, q, s⟩ := it
  obtain ⟨x0, x1, x2⟩ := x
  unfold Peeked encD cellsD aggI at HPO
  unfold aggI
  unfold cellsP at hb
  simp only at HPO hb ⊢
  have HB := Lib.hid hb
  clear hR hf hg hf2 hb hbs
  go_enter Tryz.func18, Tryz.ntmps18
  go_upto_region 1 with (fail)
  have hu1 := (Upd.refl [] w).alloc (.cells #[.int .i64 t, .int .i64 q, .int .i64 s] 38)
  generalize w.alloc (.cells #[.int .i64 t, .int .i64 q, .int .i64 s] 38) = W1 at *
  have HBS1 : Hid (b0 ≤ W1.heap.size) := Nat.le_trans HBS.out hu1.size
  generalize w.heap.size = B at *
  have HU1 := Lib.hid hu1
  have HB1 := Lib.hid (hu1.at HB.out (by simp))
  clear hu1
  obtain ⟨c0, c1, c2, c3, c4, c5, c6, c7, c8, c9, c10, c11, c12⟩ := cells13 HB1.out
  have HPK := Lib.hid (HPO.out W1 HU1.out)
  clear c0 c1 c2 c3 c4 c5 c12 HPO
  go_upto_region 2 with (go_at_call 27; (with_reducible refine HPK.out.mono ?_); rintro e w1 ⟨l2, rfl, hB⟩; simp only)
  clear c6 c7 c8 c9 c10 c11 HPK
  obtain ⟨hal, hqm, hqt, hsm⟩ := two_boxes w1 (.cells #[.int .i64 l2.ts, .slice l2.top.ad l2.top.l.length l2.top.cap, .slice l2.rs.ad l2.rs.l.length l2.rs.cap, .slice l2.bot.ad l2.bot.l.length l2.bot.cap, .int .i64 l2.mv, .int .i64 l2.cp] 42) (.cells #[.int .i64 x0, .int .i64 x1, .int .i64 x2] 38)
  have HBN : Hid (BornD W1 g2 _ l2) := hB.up hal
  have hP2 := HBN.out.upd.at HB1.out (by simp)
  generalize (w1.alloc (.cells #[.int .i64 l2.ts, .slice l2.top.ad l2.top.l.length l2.top.cap, .slice l2.rs.ad l2.rs.l.length l2.rs.cap, .slice l2.bot.ad l2.bot.l.length l2.bot.cap, .int .i64 l2.mv, .int .i64 l2.cp] 42)).alloc (.cells #[.int .i64 x0, .int .i64 x1, .int .i64 x2] 38) = W2 at *
  have hW12 := hB.upd.size
  generalize w1.heap.size = H at *
  have HB2 := Lib.hid hP2; have HQL := Lib.hid hqm; have HQI := Lib.hid hqt; have HHS : Hid (W1.heap.size ≤ H) := hW12
  have HPH : Hid (P < H) := by have h1 := lt_block HB1.out; show P < H; omega
  clear hal hqm hqt hsm hB hP2 hW12
  obtain ⟨c0, c1, c2, c3, c4, c5⟩ := cells6 HQL.out
  obtain ⟨y0, y1, y2, y3, y4, y5, y6, y7, y8, y9, y10, y11, y12⟩ := cells13 HB2.out
  obtain ⟨f0, f1, f2, f3, f4, f5, f6, f7, f8, f9, f10, f11, f12⟩ := free13 HB2.out
  clear y0 y1 y2 y3 y4 y5 y12 f0 f1 f2 f3 f4 f5 f12
  go_upto_region 3 with (fail)
  clear c0 c1 c2 c3 c4 c5 y6 y7 y8 y9 y10 y11 f6 f7 f8 f9 f10 f11
  have p3 : ((((((W2.setCell ⟨P, 6, none⟩ (.int .i64 l2.ts)).setCell ⟨P, 7, none⟩ (.slice l2.top.ad l2.top.l.length l2.top.cap)).setCell ⟨P, 8, none⟩ (.slice l2.rs.ad l2.rs.l.length l2.rs.cap)).setCell ⟨P, 9, none⟩ (.slice l2.bot.ad l2.bot.l.length l2.bot.cap)).setCell ⟨P, 10, none⟩ (.int .i64 l2.mv)).setCell ⟨P, 11, none⟩ (.int .i64 l2.cp)).heap[P]? = some (.cells #[.int .i64 (ins : Nat), .int .i64 (out.length : Nat), .int .i64 l.mv, .int .i64 l.cp, .int .i64 (dep : Nat), .int .i64 (mx : Nat), .int .i64 l2.ts, .slice l2.top.ad l2.top.l.length l2.top.cap, .slice l2.rs.ad l2.rs.l.length l2.rs.cap, .slice l2.bot.ad l2.bot.l.length l2.bot.cap, .int .i64 l2.mv, .int .i64 l2.cp, .slice oa out.length oc] 45 (0, 0)) := setCell_block (setCell_block (setCell_block (setCell_block (setCell_block (setCell_block HB2.out _) _) _) _) _) _
  have hU4 : Upd [P] W2 ((((((W2.setCell ⟨P, 6, none⟩ (.int .i64 l2.ts)).setCell ⟨P, 7, none⟩ (.slice l2.top.ad l2.top.l.length l2.top.cap)).setCell ⟨P, 8, none⟩ (.slice l2.rs.ad l2.rs.l.length l2.rs.cap)).setCell ⟨P, 9, none⟩ (.slice l2.bot.ad l2.bot.l.length l2.bot.cap)).setCell ⟨P, 10, none⟩ (.int .i64 l2.mv)).setCell ⟨P, 11, none⟩ (.int .i64 l2.cp)) := ((((((upd_set1 W2 P 6 _).trans (upd_set1 _ P 7 _) (fun x hx _ => hx)).trans (upd_set1 _ P 8 _) (fun x hx _ => hx)).trans (upd_set1 _ P 9 _) (fun x hx _ => hx)).trans (upd_set1 _ P 10 _) (fun x hx _ => hx)).trans (upd_set1 _ P 11 _) (fun x hx _ => hx))
  generalize (((((W2.setCell ⟨P, 6, none⟩ (.int .i64 l2.ts)).setCell ⟨P, 7, none⟩ (.slice l2.top.ad l2.top.l.length l2.top.cap)).setCell ⟨P, 8, none⟩ (.slice l2.rs.ad l2.rs.l.length l2.rs.cap)).setCell ⟨P, 9, none⟩ (.slice l2.bot.ad l2.bot.l.length l2.bot.cap)).setCell ⟨P, 10, none⟩ (.int .i64 l2.mv)).setCell ⟨P, 11, none⟩ (.int .i64 l2.cp) = W4 at p3 hU4 ⊢
  have HB4 := Lib.hid p3
  have HU4 : Hid (Upd [P] w W4) := (HU1.out.thn HBN.out.upd).mono (by simp) |>.trans hU4 (fun x hx _ => hx)
  have HAP : Hid (AvD l2 P) := HBN.out.av P (by have h1 := lt_block HB1.out; exact h1)
  have HD4 : Hid (HasD W4 l2) := HBN.out.has.keep1 hU4 HAP.out
  have HI4 := Lib.hid (hU4.at HQI.out (by simp only [List.mem_singleton]; have := HPH.out; omega))
  have HO4 : Hid (PendR b0 W4 out oa oc) := HR.out.o.keep HU4.out (fun x hx hm => HR.out.o.ne HR.out.box x hx (by simpa using hm))
  have HOA : Hid (∀ x ∈ blkA oa oc, AvD l2 x ∧ x ≠ P ∧ x ≠ H + 1) := fun x hx => by
    have h1 := (HR.out.o.lt x hx).2.1; have h2 := HU1.out.size; have h3 := HHS.out
    exact ⟨HBN.out.av x (by show x < W1.heap.size; omega), HR.out.o.ne HR.out.box x hx, by omega⟩
  have HE2 : Hid (l2.ld = g2) := HBN.out.eq
  clear p3 hU4 HBN HB1 HB2 HQL HQI HU1
  cases ok with
  | false =>
    have HME := Lib.hid (measure_has P (ins : Nat) (out.length : Nat) l.mv l.cp dep mx l2 (.slice oa out.length oc) W4 HB4.out HD4.out HAP.out (HF2.out l2 HE2.out).plen)
    go_wp2_with fail
    refine HME.out.mono ?_
    rintro e W6 ⟨rfl, hb6, hu6⟩
    have HFIN : Hid (RemP b0 P g2 out ins (max dep g2.rs.length) (max mx (lenD g2)) (P :: blkA oa oc) w W6) := by
      have hU6 : Upd [P] w W6 := HU4.out.trans hu6 (fun x hx _ => hx)
      have hel : l2.rs.l.length = g2.rs.length := by rw [← HE2.out]; simp [LdR.ld]
      refine ⟨l2, oa, oc, ⟨HE2.out, ?_, HD4.out.keep1 hu6 HAP.out, HAP.out, HO4.out.keep hu6 (fun x hx hm => (HOA.out x hx).2.1 (by simpa using hm)), fun x hx => (HOA.out x hx).1⟩, hU6.mono (by simp)⟩
      rw [hb6, HE2.out, hel]
    clear hb6 hu6 HME
    go_wp2_with fail
    go_end0
    exact ⟨rfl, HFIN.out⟩
  | true =>
    go_upto_region 4 with (fail)
    have hB4 := HB4.out; have hI4 := HI4.out
    obtain ⟨d0, d1, d2⟩ := cells3 hI4
    have c12 : W4.cell? ⟨P, 12, none⟩ = some (.slice oa out.length oc) := cell_block hB4 12
    have HKP : Hid (∀ V S2, Upd S2 W4 V → P ∉ S2 → H + 1 ∉ S2 → (V.cell? ⟨P, 12, none⟩ = some (.slice oa out.length oc) ∧ V.cell? ⟨(H + 1), 0, none⟩ = some (.int .i64 x0) ∧ V.cell? ⟨(H + 1), 1, none⟩ = some (.int .i64 x1) ∧ V.cell? ⟨(H + 1), 2, none⟩ = some (.int .i64 x2))) := fun V S2 hu h1 h2 => ⟨hu.cell c12 h1, hu.cell d0 h2, hu.cell d1 h2, hu.cell d2 h2⟩
    have hS := HKP.out W4.drew [] (Upd.refl [] W4).drew (by simp) (by simp)
    refine wp_region_K (fun V => (V.cell? ⟨P, 12, none⟩ = some (.slice oa out.length oc) ∧ V.cell? ⟨(H + 1), 0, none⟩ = some (.int .i64 x0) ∧ V.cell? ⟨(H + 1), 1, none⟩ = some (.int .i64 x1) ∧ V.cell? ⟨(H + 1), 2, none⟩ = some (.int .i64 x2))) 10 mixed ?_
    refine wpAnyK_take (i := 0) (d := some 21) (v := .pointer (some ⟨P, 0, none⟩)) rfl rfl (by kernel_rfl) (fun _ _ _ h => h) (.inl ⟨rfl, fun wz hz => rfl⟩) hS ?_
    simp only [Act.put, List.setIfInBounds_toArray, List.set_cons_succ, List.set_cons_zero]
    refine wpAnyK_take (i := 1) (d := some 22) (v := .pointer (some ⟨P, 0, none⟩)) rfl rfl (by kernel_rfl) (fun _ _ _ h => h) (.inl ⟨rfl, fun wz hz => rfl⟩) hS ?_
    simp only [Act.put, List.setIfInBounds_toArray, List.set_cons_succ, List.set_cons_zero]
    refine wpAnyK_take (i := 2) (d := some 23) (v := .pointer (some ⟨P, 0, none⟩)) rfl rfl (by kernel_rfl) (fun _ _ _ h => h) (.inl ⟨rfl, fun wz hz => by simp [execOp, Act.eval, go_sem]⟩) hS ?_
    simp only [Act.put, List.setIfInBounds_toArray, List.set_cons_succ, List.set_cons_zero]
    refine wpAnyK_take (i := 3) (d := some 24) (v := .pointer (some ⟨P, 12, none⟩)) rfl rfl (by kernel_rfl) (fun _ _ _ h => h) (.inl ⟨rfl, fun wz hz => by simp [execOp, Act.eval, go_sem]⟩) hS ?_
    simp only [Act.put, List.setIfInBounds_toArray, List.set_cons_succ, List.set_cons_zero]
    refine wpAnyK_take (i := 4) (d := some 25) (v := .slice oa out.length oc) rfl rfl (by kernel_rfl) (fun _ _ _ h => h) (.inl ⟨rfl, fun wz hz => by simp [execOp, Act.eval, go_sem, hz.1]⟩) hS ?_
    simp only [Act.put, List.setIfInBounds_toArray, List.set_cons_succ, List.set_cons_zero]
    refine wpAnyK_take (i := 5) (d := some 26) (v := .agg #[.int .i64 x0, .int .i64 x1, .int .i64 x2]) rfl rfl (by kernel_rfl) (fun _ _ _ h => h) (.inl ⟨rfl, fun wz hz => by simp [execOp, Act.eval, go_sem, hz.2.1, hz.2.2.1, hz.2.2.2]⟩) hS ?_
    simp only [Act.put, List.setIfInBounds_toArray, List.set_cons_succ, List.set_cons_zero]
    have hu5 := (Upd.refl [] W4).drew.alloc (.cells #[.int .i64 x0, .int .i64 x1, .int .i64 x2] 38)
    have q5 : (W4.drew.alloc (.cells #[.int .i64 x0, .int .i64 x1, .int .i64 x2] 38)).heap[W4.heap.size]? = _ := heap_alloc1 W4.drew _
    have hS5 := HKP.out _ [] hu5 (by simp) (by simp)
    refine wpAnyK_value (i := 6) (d := some 27) (v := .slice (some ⟨W4.heap.size, 0, none⟩) 1 1) (w' := W4.drew.alloc (.cells #[.int .i64 x0, .int .i64 x1, .int .i64 x2] 38)) rfl rfl (by kernel_rfl) rfl (by simp [execOp, Act.eval, go_sem]) (.inr hS5) ?_
    simp only [Act.put, List.setIfInBounds_toArray, List.set_cons_succ, List.set_cons_zero]
    generalize W4.drew.alloc (.cells #[.int .i64 x0, .int .i64 x1, .int .i64 x2] 38) = W5 at *
    obtain ⟨oa2, oc2, W6, hr6, hp6, hu6, hw6⟩ := run_app_pend (it := ⟨x0, x1, x2⟩) 26 (HO4.out.keep hu5 (by simp)) q5 ho (by have h1 := HBS1.out; have h2 := HHS.out; have h3 := hu5.size; have h4 := lt_block hI4; omega)
    have hnP : P ∉ blkA oa oc := fun h => (HOA.out P h).2.1 rfl
    have hnI : H + 1 ∉ blkA oa oc := fun h => (HOA.out _ h).2.2 rfl
    have hu46 : Upd (blkA oa oc) W4 W6 := (hu5.mono (by simp)).trans hu6 (fun x hx _ => hx)
    have hS6 := HKP.out _ _ hu46 hnP hnI
    refine anyK_app (i := 7) (d := some 28) (.tmp 25) (.tmp 27) rfl rfl (by kernel_rfl) rfl rfl rfl rfl hr6 (.inr hS6) ?_
    simp only [Act.put, List.setIfInBounds_toArray, List.set_cons_succ, List.set_cons_zero]
    refine wpAnyK_value (i := 8) (d := some 29) (v := .pointer (some ⟨P, 0, none⟩)) (w' := W6) rfl rfl (by kernel_rfl) rfl (by simp [execOp, Act.eval, go_sem]) (.inr hS6) ?_
    simp only [Act.put, List.setIfInBounds_toArray, List.set_cons_succ, List.set_cons_zero]
    refine wpAnyK_value (i := 9) (d := some 30) (v := .pointer (some ⟨P, 12, none⟩)) (w' := W6) rfl rfl (by kernel_rfl) rfl (by simp [execOp, Act.eval, go_sem]) (.inr hS6) ?_
    simp only [Act.put, List.setIfInBounds_toArray, List.set_cons_succ, List.set_cons_zero]
    have hB6 := hu46.at HB4.out hnP
    have y12 := hS6.1
    have z12 := (free13 hB6).2.2.2.2.2.2.2.2.2.2.2.2
    refine wpAnyK_skip (i := 10) (d := none) (w' := W6.setCell ⟨P, 12, none⟩ (.slice oa2 (out.length + 1) oc2)) rfl rfl (by kernel_rfl) rfl (by simp [execOp, Act.eval, go_sem, y12, z12]) (.inl rfl) ?_
    refine wpAnyK_done (by kernel_rfl) ?_ _
    have p7 : (W6.setCell ⟨P, 12, none⟩ (.slice oa2 (out.length + 1) oc2)).heap[P]? = some (.cells #[.int .i64 (ins : Nat), .int .i64 (out.length : Nat), .int .i64 l.mv, .int .i64 l.cp, .int .i64 (dep : Nat), .int .i64 (mx : Nat), .int .i64 l2.ts, .slice l2.top.ad l2.top.l.length l2.top.cap, .slice l2.rs.ad l2.rs.l.length l2.rs.cap, .slice l2.bot.ad l2.bot.l.length l2.bot.cap, .int .i64 l2.mv, .int .i64 l2.cp, .slice oa2 (out.length + 1) oc2] 45 (0, 0)) := setCell_block hB6 _
    have hU7 := upd_set1 W6 P 12 (.slice oa2 (out.length + 1) oc2)
    have hav6 : ∀ y ∈ blkA oa2 oc2, AvD l2 y := by
      rcases hw6 with ⟨rfl, rfl⟩ | rfl
      · exact fun y hy => (HOA.out y hy).1
      · intro y hy
        unfold blkA at hy
        simp only at hy
        split at hy
        · simp at hy
        · obtain rfl : y = _ := by simpa using hy
          exact HD4.out.avoids hu5.size
    have HAV := Lib.hid hav6
    have hD6 : HasD W6 l2 := has_keepA HD4.out hu46 (fun y hy => (HOA.out y hy).1)
    have HD7 := Lib.hid (hD6.keep1 hU7 HAP.out)
    have HO7 : Hid (PendR b0 (W6.setCell ⟨P, 12, none⟩ (.slice oa2 (out.length + 1) oc2)) (out ++ [⟨x0, x1, x2⟩]) oa2 oc2) := hp6.keep hU7 (fun y hy hm => hp6.ne hB6 y hy (by simpa using hm))
    have HU7 : Hid (Upd (P :: blkA oa oc) w (W6.setCell ⟨P, 12, none⟩ (.slice oa2 (out.length + 1) oc2))) := ((HU4.out.mono (by simp)).trans hu46 (fun y hy _ => List.mem_cons_of_mem _ hy)).trans hU7 (fun y hy _ => by simp only [List.mem_singleton] at hy; simp [hy])
    with_reducible generalize W6.setCell ⟨P, 12, none⟩ (.slice oa2 (out.length + 1) oc2) = W7 at *
    have HB7 := Lib.hid p7
    clear hS hS5 hS6 hu5 q5 hr6 hp6 hu6 hw6 hnP hnI hu46 hB6 y12 z12 p7 hU7 hav6 hD6 d0 d1 d2 c12 HKP hB4 hI4
    simp only [Act.put]
    have hwi : IntKind.i64.wrap ((out.length : Int) + 1) = (out.length : Int) + 1 := by rw [IntKind.wrap_i64]; omega
    have c1 := (cells13 HB7.out).2.1
    have f1 := (free13 HB7.out).2.1
    go_upto_region 6 with (fail)
    have p8 : (W7.setCell ⟨P, 1, none⟩ (.int .i64 ((out.length : Int) + 1))).heap[P]? = some (.cells #[.int .i64 (ins : Nat), .int .i64 ((out.length : Int) + 1), .int .i64 l.mv, .int .i64 l.cp, .int .i64 (dep : Nat), .int .i64 (mx : Nat), .int .i64 l2.ts, .slice l2.top.ad l2.top.l.length l2.top.cap, .slice l2.rs.ad l2.rs.l.length l2.rs.cap, .slice l2.bot.ad l2.bot.l.length l2.bot.cap, .int .i64 l2.mv, .int .i64 l2.cp, .slice oa2 (out.length + 1) oc2] 45 (0, 0)) := setCell_block HB7.out _
    have hU8 := upd_set1 W7 P 1 (.int .i64 ((out.length : Int) + 1))
    have HD8 := Lib.hid (HD7.out.keep1 hU8 HAP.out)
    have HO8 := Lib.hid (HO7.out.keep hU8 (fun y hy hm => HO7.out.ne HB7.out y hy (by simpa using hm)))
    have HU8 : Hid (Upd (P :: blkA oa oc) w (W7.setCell ⟨P, 1, none⟩ (.int .i64 ((out.length : Int) + 1)))) := HU7.out.trans hU8 (fun y hy _ => by simp only [List.mem_singleton] at hy; simp [hy])
    generalize W7.setCell ⟨P, 1, none⟩ (.int .i64 ((out.length : Int) + 1)) = W8 at *
    have HB8 := Lib.hid p8
    clear c1 f1 p8 hU8
    have HME := Lib.hid (measure_has P (ins : Nat) ((out.length : Int) + 1) l.mv l.cp dep mx l2 (.slice oa2 (out.length + 1) oc2) W8 HB8.out HD8.out HAP.out (HF2.out l2 HE2.out).plen)
    go_wp2_with fail
    refine HME.out.mono ?_
    rintro e W9 ⟨rfl, hb9, hu9⟩
    have HFIN : Hid (RemP b0 P g2 (out ++ [⟨x0, x1, x2⟩]) ins (max dep g2.rs.length) (max mx (lenD g2)) (P :: blkA oa oc) w W9) := by
      have hU9 : Upd (P :: blkA oa oc) w W9 := HU8.out.trans hu9 (fun y hy _ => by simp only [List.mem_singleton] at hy; simp [hy])
      have hel : l2.rs.l.length = g2.rs.length := by rw [← HE2.out]; simp [LdR.ld]
      refine ⟨l2, oa2, oc2, ⟨HE2.out, ?_, HD8.out.keep1 hu9 HAP.out, HAP.out, HO8.out.keep hu9 (fun y hy hm => HO8.out.ne HB8.out y hy (by simpa using hm)), HAV.out⟩, hU9⟩
      rw [hb9, HE2.out, hel]
      simp only [List.length_append, List.length_singleton]; rfl
    clear hb9 hu9 HME
    go_wp2_with fail
    go_end0
    exact ⟨rfl, HFIN.out⟩
end Go.Proofs.YtpabapjodcafkaaGreat
