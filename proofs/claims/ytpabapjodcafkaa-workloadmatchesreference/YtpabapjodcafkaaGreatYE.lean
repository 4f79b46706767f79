
/- Contract: the reference's Run of layer 9, over contracts of its queue. -/
import Derived.Test.YtpabapjodcafkaaGreatYD
import Derived.Test.YtpabapjodcafkaaGreatQO
import Derived.Test.YtpabapjodcafkaaGreatNK
import Derived.Test.YtpabapjodcafkaaGreatK
namespace Go.Proofs.YtpabapjodcafkaaGreat
open Go.RowKit Go.Lib

section
variable {P : Program} {ops : Array Oper} {Q : Exit → Act → World → Prop} {md : Region.Mode} {S : World → Prop} {k : Nat}
theorem anyK_callee {i : Nat} {o : Oper} {d : Option Tmp} {fuel : Nat} {listed : Array Bool} {a : Act} {w : World} {f : FuncId} {args : Array Value} {R : Value → World → Prop} (hi : ops[i]? = some o) (hd : o.dst = d) (hr : Region.ready md ops listed = [i]) (hw : Region.wanted o (yielded ops a.tmps) = true)
    (hrun : (execOp a.eval o).run P w = .ok (.enter f args) w) (hc : Calls P f args w fun e w' => ∃ v, e = .returned v ∧ R v w')
    (hR : ∀ v w', R v w' → (i = k ∨ S w') ∧ wpAnyK P md ops Q S k fuel (listed.setIfInBounds i true) (a.put d v) w') : wpAnyK P md ops Q S k (fuel + 1) listed a w := by
  subst hd
  refine wpAnyK_one hr (wpOp_wp hi hw ?_)
  unfold Oper.wp
  rw [hrun]
  show Calls P f args w _
  refine hc.mono ?_
  rintro e w' ⟨v, rfl, h⟩
  exact hR v w' h
end
structure FitW (l : LdR) : Prop where
  good : GoodL l.ld
  len : lenD l.ld ≤ 100000
  mv : l.mv ≤ 100000000000
  cp : l.cp ≤ 100000000000
theorem OkW.fit {k : Nat} {s : Sw} (h : OkW k s) (hk : k ≤ 2000) {l : LdR} (he : l.ld = s.l) : FitW l := by
  have h1 := h.reach; have h2 := h.ik
  rw [← he] at h1
  have h3 := h1.mv; have h4 := h1.cp; have h5 := h1.len
  simp only [LdR.ld] at h3 h4
  exact ⟨h1.good, by omega, by omega, by omega⟩
def metV (a b c d e f : Int) : Array Value := #[.int .i64 a, .int .i64 b, .int .i64 c, .int .i64 d, .int .i64 e, .int .i64 f]
/-- What Run keeps: the result's box H, the queue in the box P, the metrics in the box M, the row of what is out. -/
structure RunR (w : World) (H P M : Nat) (g : Ld) (out : List It) (pn ins dep mx : Nat) (wr : World) (l : LdR) (oa : Option Addr) (oc : Nat) : Prop where
  eq : l.ld = g
  res : wr.heap[H]? = some (.cells #[.int .i64 0, .int .i64 0, .int .i64 0, .int .i64 0, .int .i64 0, .int .i64 0] 28 (0, 0))
  box : wr.heap[P]? = some (.cells (cellsD l) 42 (0, 0))
  met : wr.heap[M]? = some (.cells #[.int .i64 (ins : Nat), .int .i64 (pn : Nat), .int .i64 0, .int .i64 0, .int .i64 (dep : Nat), .int .i64 (mx : Nat)] 28 (0, 0))
  has : HasD wr l
  avH : AvD l H
  avP : AvD l P
  avM : AvD l M
  o : wr.ownsRow w.heap.size 38 LI.k (.slice oa out.length oc) out.length (LI.flat out)
  oav : ∀ x, (Value.slice oa out.length oc).ownBlock = some x → AvD l x
  upd : Upd [] w wr
  ord : w.heap.size ≤ H ∧ H < P ∧ P < M
theorem RunR.cells {w : World} {H P M : Nat} {g : Ld} {out : List It} {pn ins dep mx : Nat} {wr : World} {l : LdR} {oa : Option Addr} {oc : Nat} (h : RunR w H P M g out pn ins dep mx wr l oa oc) : wr.heap[P]? = some (.cells #[.int .i64 l.ts, .slice l.top.ad l.top.l.length l.top.cap, .slice l.rs.ad l.rs.l.length l.rs.cap, .slice l.bot.ad l.bot.l.length l.bot.cap, .int .i64 l.mv, .int .i64 l.cp] 42 (0, 0)) := h.box
theorem RunR.stay {w : World} {H P M : Nat} {g : Ld} {out : List It} {pn ins dep mx : Nat} {wr w2 : World} {l : LdR} {oa : Option Addr} {oc : Nat} (h : RunR w H P M g out pn ins dep mx wr l oa oc) (hu : Upd [] wr w2) : RunR w H P M g out pn ins dep mx w2 l oa oc :=
  ⟨h.eq, hu.at h.res (by simp), hu.at h.box (by simp), hu.at h.met (by simp), h.has.stay hu, h.avH, h.avP, h.avM, hu.row h.o (by simp), h.oav, h.upd.thn hu, h.ord⟩
/-- The queue is exchanged. -/
theorem RunR.queue {w : World} {H P M : Nat} {g q : Ld} {out : List It} {pn ins dep mx : Nat} {wr wb wc wd w5 : World} {l l2 : LdR} {oa : Option Addr} {oc : Nat} (h : RunR w H P M g out pn ins dep mx wr l oa oc) (hu : Upd [] wr wb) (hn : NxtD wb l q wc l2) (hd : Upd [] wc wd) (h5 : Upd [P] wd w5) (hb : w5.heap[P]? = some (.cells (cellsD l2) 42 (0, 0))) : RunR w H P M q out pn ins dep mx w5 l2 oa oc := by
  have h1 := lt_block h.res
  have h2 := lt_block h.box
  have h6 := lt_block h.met
  have h3 := h.ord
  have h4 := hu.size
  have hP := hn.av P (by omega) h.avP
  have hU := ((hu.thn hn.upd).thn hd)
  have h7 := h.upd.size
  have hox : ∀ x, (Value.slice oa out.length oc).ownBlock = some x → x ≠ P := fun x hx e => by
    exact ne_own h.box h.o (by decide) (by rw [← e]; exact hx)
  exact ⟨hn.eq, h5.at (hU.at h.res (by simp)) (by simp; omega), hb, h5.at (hU.at h.met (by simp)) (by simp; omega), (hn.has.stay hd).keep1 h5 hP, hn.av H (by omega) h.avH, hP, hn.av M (by omega) h.avM, h5.row (hU.row h.o (by simp)) (fun x hx => by simpa using hox x hx), fun x hx => hn.av x (by have := (h.o.lt x hx).2; omega) (h.oav x hx), (h.upd.thn hU).new h5 (by omega), h3⟩
/-- The metrics are written. -/
theorem RunR.mets {w : World} {H P M : Nat} {g : Ld} {out : List It} {pn ins dep mx pn' ins' dep' mx' : Nat} {wr w5 : World} {l : LdR} {oa : Option Addr} {oc : Nat} (h : RunR w H P M g out pn ins dep mx wr l oa oc) (h5 : Upd [M] wr w5) (hb : w5.heap[M]? = some (.cells #[.int .i64 (ins' : Nat), .int .i64 (pn' : Nat), .int .i64 0, .int .i64 0, .int .i64 (dep' : Nat), .int .i64 (mx' : Nat)] 28 (0, 0))) : RunR w H P M g out pn' ins' dep' mx' w5 l oa oc := by
  have h3 := h.ord
  have h7 := h.upd.size
  have hox : ∀ x, (Value.slice oa out.length oc).ownBlock = some x → x ≠ M := fun x hx e => by
    exact ne_own h.met h.o (by decide) (by rw [← e]; exact hx)
  exact ⟨h.eq, h5.at h.res (by simp; omega), h5.at h.box (by simp; omega), hb, h.has.keep1 h5 h.avM, h.avH, h.avP, h.avM, h5.row h.o (fun x hx => by simpa using hox x hx), h.oav, h.upd.new h5 (by omega), h3⟩
theorem FitW.h8 {l : LdR} (h : FitW l) : ∀ r ∈ l.rs.l, r.bk.l.length = 8 := fun r hr => by
  have hm : r.rg ∈ l.ld.rs := List.mem_map_of_mem hr
  have := (okRs_mem h.good.rs hm).1.len
  simpa [RgR.rg, rowsOf_length] using this
theorem FitW.rs {l : LdR} (h : FitW l) : l.rs.l.length ≤ 4 := by
  have := h.good.len
  simpa [LdR.ld] using this
def RanW (w : World) (s : Sw) (e : Ending) (w' : World) : Prop := ∃ oa oc, e = .returned (.tuple #[.slice oa s.out.length oc, .agg (metV (s.ins : Nat) (s.out.length : Nat) s.l.mv s.l.cp (s.dep : Nat) (s.mx : Nat))]) ∧ HasS LI w' ⟨s.out, oa, oc⟩ ∧ (∀ a, oa = some a → w.heap.size ≤ a.block) ∧ Upd [] w w'
/-- An item is put out. -/
theorem RunR.push {w : World} {H P M : Nat} {g : Ld} {out : List It} {x : It} {pn ins dep mx : Nat} {wr w5 : World} {l : LdR} {oa oa2 : Option Addr} {oc oc2 : Nat} (h : RunR w H P M g out pn ins dep mx wr l oa oc) (ho : w5.ownsRow w.heap.size 38 LI.k (.slice oa2 (out.length + 1) oc2) (out.length + 1) (LI.flat (out ++ [x]))) (hg : wr.grownBy w5 (Value.slice oa out.length oc).ownBlock)
    (hw : (Value.slice oa2 (out.length + 1) oc2).ownBlock = (Value.slice oa out.length oc).ownBlock ∨ ∃ y, (Value.slice oa2 (out.length + 1) oc2).ownBlock = some y ∧ wr.heap.size ≤ y + 1 ∧ AvD l y) : RunR w H P M g (out ++ [x]) pn ins dep mx w5 l oa2 oc2 := by
  have hux : Upd ((Value.slice oa out.length oc).ownBlock.toList) wr w5 := (Upd.refl _ _).grown hg (fun x hx _ => by simp [hx])
  have n1 := ne_own h.res h.o (by decide)
  have n2 := ne_own h.box h.o (by decide)
  have n3 := ne_own h.met h.o (by decide)
  have hav : HasD w5 l := by
    cases hb : (Value.slice oa out.length oc).ownBlock with
    | none => rw [hb] at hux; exact h.has.stay hux
    | some b => rw [hb] at hux; exact h.has.keep1 hux (h.oav b hb)
  refine ⟨h.eq, hux.at h.res (by simpa using n1), hux.at h.box (by simpa using n2), hux.at h.met (by simpa using n3), hav, h.avH, h.avP, h.avM, by simpa using ho, fun y hy => ?_, h.upd.grown hg (fun y hy hl => by have := own_ge h.o y hy; omega), h.ord⟩
  simp only [List.length_append, List.length_singleton] at hy
  rcases hw with e | ⟨z, e, _, hz⟩
  · rw [e] at hy; exact h.oav y hy
  · rw [e] at hy
    obtain rfl : z = y := by simpa using hy
    exact hz
set_option maxRecDepth 100000 in
set_option maxHeartbeats 8000000 in
theorem RRun_has (la : Option Addr) (lc : Nat) (os : List Wo) (w : World) (ho : Row LW w la os) (hl : os.length ≤ 1000) (hb : ∀ o ∈ os, 0 ≤ o.t ∧ o.t ≤ MaxT) :
    Calls Tryz.prog 7 #[.slice la os.length lc] w (RanW w (runW os os.length)) := by
  have HO := Lib.hid ho
  obtain ⟨n, hn⟩ : ∃ n, n = os.length := ⟨_, rfl⟩
  have HN := Lib.hid hn
  have HOK := Lib.hid (okW os hb)
  have HSU : Hid (∀ k (h : k < os.length), runW os (k + 1) = stepW (runW os k) k os[k]) := fun k h => runW_succ h
  have HZ : Hid (runW os 0 = ⟨newL, [], 0, 0, 0⟩) := rfl
  generalize runW os = R at *
  rw [← hn] at hl ⊢
  clear ho hn hb
  go_enter Tryz.func7, Tryz.ntmps7
  go_upto_region 1 with (fail)
  have b0 := heap_alloc1 w (.cells #[.int .i64 0, .int .i64 0, .int .i64 0, .int .i64 0, .int .i64 0, .int .i64 0] 28)
  have hu0 := (Upd.refl [] w).alloc (.cells #[.int .i64 0, .int .i64 0, .int .i64 0, .int .i64 0, .int .i64 0, .int .i64 0] 28)
  have hs0 : (w.alloc (.cells #[.int .i64 0, .int .i64 0, .int .i64 0, .int .i64 0, .int .i64 0, .int .i64 0] 28)).heap.size = w.heap.size + 1 := by simp
  generalize w.alloc (.cells #[.int .i64 0, .int .i64 0, .int .i64 0, .int .i64 0, .int .i64 0, .int .i64 0] 28) = W at *
  generalize hH : w.heap.size = H at *
  have HU0 := Lib.hid hu0; have HB0 := Lib.hid b0; have HH := Lib.hid hH; have HS0 := Lib.hid hs0
  clear hu0 b0 hH hs0
  go_upto_region 2 with (go_at_call 19; (with_reducible refine (RNewL_has _).mono ?_); rintro e w1 ⟨l1, rfl, hE, hD, hA, hU⟩; unfold encD cellsD)
  have hal := (Upd.refl [] w1).alloc (.cells #[.int .i64 l1.ts, .slice l1.top.ad l1.top.l.length l1.top.cap, .slice l1.rs.ad l1.rs.l.length l1.rs.cap, .slice l1.bot.ad l1.bot.l.length l1.bot.cap, .int .i64 l1.mv, .int .i64 l1.cp] 42)
  have b1 := heap_alloc1 w1 (.cells #[.int .i64 l1.ts, .slice l1.top.ad l1.top.l.length l1.top.cap, .slice l1.rs.ad l1.rs.l.length l1.rs.cap, .slice l1.bot.ad l1.bot.l.length l1.bot.cap, .int .i64 l1.mv, .int .i64 l1.cp] 42)
  have hs1 : (w1.alloc (.cells #[.int .i64 l1.ts, .slice l1.top.ad l1.top.l.length l1.top.cap, .slice l1.rs.ad l1.rs.l.length l1.rs.cap, .slice l1.bot.ad l1.bot.l.length l1.bot.cap, .int .i64 l1.mv, .int .i64 l1.cp] 42)).heap.size = w1.heap.size + 1 := by simp
  generalize w1.alloc (.cells #[.int .i64 l1.ts, .slice l1.top.ad l1.top.l.length l1.top.cap, .slice l1.rs.ad l1.rs.l.length l1.rs.cap, .slice l1.bot.ad l1.bot.l.length l1.bot.cap, .int .i64 l1.mv, .int .i64 l1.cp] 42) = W2 at *
  have hsw := hU.size
  generalize w1.heap.size = P at *
  have HS1 := Lib.hid hs1; have HSW := Lib.hid hsw; have HE := Lib.hid hE; have HD := Lib.hid (hD.stay hal); have HA := Lib.hid hA; have HU1 := Lib.hid ((HU0.out.thn hU).thn hal); have HB1 := Lib.hid b1; have HB2 := Lib.hid (hal.at (hU.at HB0.out (by simp)) (by simp))
  clear hal b1 hs1 hE hD hA hU HU0 HB0 hsw
  go_upto_region 4 with (fail)
  have hal := (Upd.refl [] W2).alloc (.cells #[.int .i64 0, .int .i64 0, .int .i64 0, .int .i64 0, .int .i64 0, .int .i64 0] 28)
  have b2 := heap_alloc1 W2 (.cells #[.int .i64 0, .int .i64 0, .int .i64 0, .int .i64 0, .int .i64 0, .int .i64 0] 28)
  generalize W2.alloc (.cells #[.int .i64 0, .int .i64 0, .int .i64 0, .int .i64 0, .int .i64 0, .int .i64 0] 28) = W3 at *
  generalize hM : W2.heap.size = M at *
  have HM0 : Hid (RunR w H P M (R 0).l (R 0).out (R 0).out.length (R 0).ins (R 0).dep (R 0).mx W3 l1 none 0) := by
    have h1 := HS0.out; have h2 := HH.out; have h3 := HS1.out; have h4 := HSW.out
    rw [HZ.out]
    exact ⟨HE.out, hal.at HB2.out (by simp), hal.at HB1.out (by simp), b2, HD.out.stay hal, HA.out _, HA.out _, HA.out _, flat_nil_it _ _, fun x hx => by simp [Value.ownBlock] at hx, HU1.out.thn hal, ⟨by omega, by omega, by omega⟩⟩
  clear hal b2 hM HS0 HS1 HSW HE HD HA HU1 HB1 HB2
  go_wp2_with fail
  go_loopg [5, 7] n (fun gk v5 v7 wr => ∃ (k : Nat) (l : LdR) (oa : Option Addr) (oc : Nat), v5 = .slice oa (R k).out.length oc ∧ v7 = .int .i64 k ∧ k + gk = n ∧ Hid (RunR w H P M (R k).l (R k).out (R k).out.length (R k).ins (R k).dep (R k).mx wr l oa oc))
  case atStart => exact ⟨0, l1, none, 0, by rw [HZ.out]; rfl, rfl, by omega, HM0⟩
  case round =>
    obtain ⟨k, l, oa, oc, rfl, rfl, hkg, HR⟩ := hrel
    by_cases hlt : k < n
    · have hltz : (k : Int) < (n : Int) := by omega
      have hk1 : k < os.length := by have := HN.out; omega
      obtain ⟨b, off, hb, x0, x1⟩ := (HO.out.stay HR.out.upd).work k hk1
      have HSK := Lib.hid (HSU.out k hk1)
      have HOK1 := Lib.hid (HOK.out (k + 1))
      have hfit := (HOK.out k).fit (by omega) HR.out.eq
      have HCN : Hid ((R k).ins ≤ k ∧ (R k).out.length ≤ k ∧ (R k).dep ≤ 4 ∧ (R k).mx ≤ k) := by have h := HOK.out k; have h1 := h.ik; have h2 := h.cnt; have h3 := h.mx; exact ⟨h1, by omega, h.dep, by omega⟩
      obtain ⟨⟨p, t⟩, hx⟩ : ∃ x, x = os[k]'hk1 := ⟨_, rfl⟩
      rw [← hx] at x0 x1 HSK
      simp only at x0 x1
      subst hb
      clear hx hk1
      have hlk : ¬ n ≤ k := by omega
      have hwk : IntKind.i64.wrap ((k : Int) + 1) = (k : Int) + 1 := by rw [IntKind.wrap_i64]; omega
      obtain ⟨s, hs⟩ : ∃ s, s = R k := ⟨_, rfl⟩
      rw [← hs] at HR HSK HCN ⊢
      clear hs
      obtain ⟨sl, out, ins, dep, mx⟩ := s
      simp only at HR HCN ⊢
      obtain ⟨pn, hpn⟩ : ∃ pn, pn = out.length := ⟨_, rfl⟩
      rw [← hpn] at HR HCN
      have HPN := Lib.hid hpn
      clear hpn
      cases p with
      | false =>
        have HST : Hid (R (k + 1) = ⟨insertL sl ⟨t, (k : Nat), 0⟩, out, ins + 1, max dep (insertL sl ⟨t, (k : Nat), 0⟩).rs.length, max mx (lenD (insertL sl ⟨t, (k : Nat), 0⟩))⟩) := by rw [HSK.out]; simp only [stepW, nxtW, Bool.false_eq_true, if_false]; trivial
        have HIN : Hid (∀ V, Upd [] wr V → Calls Tryz.prog 21 #[encD l, aggI ⟨t, (k : Nat), 0⟩] V (GivesRD l (insertL sl ⟨t, (k : Nat), 0⟩) V)) := fun V hv => by
          have := RInsert_has l ⟨t, (k : Nat), 0⟩ V (HR.out.has.stay hv) ⟨hfit.good, hfit.len, hfit.mv, hfit.cp⟩
          rw [HR.out.eq] at this; exact this
        generalize insertL sl ⟨t, (k : Nat), 0⟩ = g2 at *
        unfold encD cellsD aggI at HIN
        simp only at HIN
        clear hfit HSK
        go_upto_region 13 with (fail)
        have HRR := HR
        obtain ⟨b0, b1, b2, b3, b4, b5⟩ := cells6 HR.out.cells
        have HKP : Hid (∀ V, Upd [] wr V → ((V.cell? ⟨P, 0, none⟩ = some (.int .i64 l.ts) ∧ V.cell? ⟨P, 1, none⟩ = some (.slice l.top.ad l.top.l.length l.top.cap) ∧ V.cell? ⟨P, 2, none⟩ = some (.slice l.rs.ad l.rs.l.length l.rs.cap) ∧ V.cell? ⟨P, 3, none⟩ = some (.slice l.bot.ad l.bot.l.length l.bot.cap) ∧ V.cell? ⟨P, 4, none⟩ = some (.int .i64 l.mv) ∧ V.cell? ⟨P, 5, none⟩ = some (.int .i64 l.cp)) ∧ V.cell? ⟨b, off + k * 2 + 1, none⟩ = some (.int .i64 t))) := fun V hu => ⟨⟨hu.cell b0 (by simp), hu.cell b1 (by simp), hu.cell b2 (by simp), hu.cell b3 (by simp), hu.cell b4 (by simp), hu.cell b5 (by simp)⟩, hu.cell x1 (by simp)⟩
        have hS := HKP.out wr.drew (Upd.refl [] wr).drew
        refine wp_region_K (fun V => ((V.cell? ⟨P, 0, none⟩ = some (.int .i64 l.ts) ∧ V.cell? ⟨P, 1, none⟩ = some (.slice l.top.ad l.top.l.length l.top.cap) ∧ V.cell? ⟨P, 2, none⟩ = some (.slice l.rs.ad l.rs.l.length l.rs.cap) ∧ V.cell? ⟨P, 3, none⟩ = some (.slice l.bot.ad l.bot.l.length l.bot.cap) ∧ V.cell? ⟨P, 4, none⟩ = some (.int .i64 l.mv) ∧ V.cell? ⟨P, 5, none⟩ = some (.int .i64 l.cp)) ∧ V.cell? ⟨b, off + k * 2 + 1, none⟩ = some (.int .i64 t))) 9 mixed ?_
        refine wpAnyK_take (i := 0) (d := some 39) (v := .agg #[.int .i64 l.ts, .slice l.top.ad l.top.l.length l.top.cap, .slice l.rs.ad l.rs.l.length l.rs.cap, .slice l.bot.ad l.bot.l.length l.bot.cap, .int .i64 l.mv, .int .i64 l.cp]) rfl rfl (by kernel_rfl) (fun _ _ _ h => h) (.inl ⟨rfl, fun wz hz => by simp [execOp, Act.eval, go_sem, hz.1.1, hz.1.2.1, hz.1.2.2.1, hz.1.2.2.2.1, hz.1.2.2.2.2.1, hz.1.2.2.2.2.2]⟩) hS ?_
        simp only [Act.put, List.setIfInBounds_toArray, List.set_cons_succ, List.set_cons_zero]
        refine wpAnyK_take (i := 1) (d := some 40) (v := .slice (some ⟨b, off, none⟩) n lc) rfl rfl (by kernel_rfl) (fun _ _ _ h => h) (.inl ⟨rfl, fun wz hz => rfl⟩) hS ?_
        simp only [Act.put, List.setIfInBounds_toArray, List.set_cons_succ, List.set_cons_zero]
        refine wpAnyK_take (i := 2) (d := some 41) (v := .int .i64 k) rfl rfl (by kernel_rfl) (fun _ _ _ h => h) (.inl ⟨rfl, fun wz hz => rfl⟩) hS ?_
        simp only [Act.put, List.setIfInBounds_toArray, List.set_cons_succ, List.set_cons_zero]
        refine wpAnyK_take (i := 3) (d := some 42) (v := .pointer (some ⟨b, off + k * 2, none⟩)) rfl rfl (by kernel_rfl) (fun _ _ _ h => h) (.inl ⟨rfl, fun wz hz => by simp [execOp, Act.eval, go_sem, hlk]⟩) hS ?_
        simp only [Act.put, List.setIfInBounds_toArray, List.set_cons_succ, List.set_cons_zero]
        refine wpAnyK_take (i := 4) (d := some 43) (v := .pointer (some ⟨b, off + k * 2 + 1, none⟩)) rfl rfl (by kernel_rfl) (fun _ _ _ h => h) (.inl ⟨rfl, fun wz hz => by simp [execOp, Act.eval, go_sem]⟩) hS ?_
        simp only [Act.put, List.setIfInBounds_toArray, List.set_cons_succ, List.set_cons_zero]
        refine wpAnyK_take (i := 5) (d := some 44) (v := .int .i64 t) rfl rfl (by kernel_rfl) (fun _ _ _ h => h) (.inl ⟨rfl, fun wz hz => by simp [execOp, Act.eval, go_sem, hz.2]⟩) hS ?_
        simp only [Act.put, List.setIfInBounds_toArray, List.set_cons_succ, List.set_cons_zero]
        refine wpAnyK_take (i := 6) (d := some 45) (v := .int .i64 k) rfl rfl (by kernel_rfl) (fun _ _ _ h => h) (.inl ⟨rfl, fun wz hz => rfl⟩) hS ?_
        simp only [Act.put, List.setIfInBounds_toArray, List.set_cons_succ, List.set_cons_zero]
        refine wpAnyK_take (i := 7) (d := some 46) (v := .agg #[.int .i64 t, .int .i64 k, .int .i64 0]) rfl rfl (by kernel_rfl) (fun _ _ _ h => h) (.inl ⟨rfl, fun wz hz => by simp [execOp, Act.eval, go_sem]⟩) hS ?_
        simp only [Act.put, List.setIfInBounds_toArray, List.set_cons_succ, List.set_cons_zero]
        refine anyK_callee (i := 8) (d := some 47) (R := fun v W3 => ∃ l2, v = encD l2 ∧ NxtD wr.drew l g2 W3 l2) rfl rfl (by kernel_rfl) rfl (by simp [execOp, Act.eval, go_sem]) ((HIN.out wr.drew (Upd.refl [] wr).drew).mono fun e W3 ⟨l2, h⟩ => ⟨_, h.1, l2, rfl, h.2⟩) ?_
        rintro _ W3 ⟨l2, rfl, hB2⟩
        have hU2 : Upd [] wr wr.drew := (Upd.refl [] wr).drew
        have hS3 := HKP.out W3 (hU2.thn hB2.upd)
        refine ⟨.inr hS3, ?_⟩
        simp only [Act.put, List.setIfInBounds_toArray, List.set_cons_succ, List.set_cons_zero]
        have hq := (hU2.thn hB2.upd).at HR.out.cells (by simp)
        obtain ⟨z0, z1, z2, z3, z4, z5⟩ := free6 hq
        obtain ⟨⟨y0, y1, y2, y3, y4, y5⟩, -⟩ := hS3
        unfold encD cellsD
        refine wpAnyK_skip (i := 9) (d := none) (w' := (((((W3.setCell ⟨P, 0, none⟩ (.int .i64 l2.ts)).setCell ⟨P, 1, none⟩ (.slice l2.top.ad l2.top.l.length l2.top.cap)).setCell ⟨P, 2, none⟩ (.slice l2.rs.ad l2.rs.l.length l2.rs.cap)).setCell ⟨P, 3, none⟩ (.slice l2.bot.ad l2.bot.l.length l2.bot.cap)).setCell ⟨P, 4, none⟩ (.int .i64 l2.mv)).setCell ⟨P, 5, none⟩ (.int .i64 l2.cp)) rfl rfl (by kernel_rfl) rfl (by simp [execOp, Act.eval, go_sem, y0, y1, y2, y3, y4, y5, z0, z1, z2, z3, z4, z5]) (.inl rfl) ?_
        refine wpAnyK_done (by kernel_rfl) ?_ _
        have p2 := stored6 hq (.int .i64 l2.ts) (.slice l2.top.ad l2.top.l.length l2.top.cap) (.slice l2.rs.ad l2.rs.l.length l2.rs.cap) (.slice l2.bot.ad l2.bot.l.length l2.bot.cap) (.int .i64 l2.mv) (.int .i64 l2.cp)
        have hU5 := upd_set6 W3 P (.int .i64 l2.ts) (.slice l2.top.ad l2.top.l.length l2.top.cap) (.slice l2.rs.ad l2.rs.l.length l2.rs.cap) (.slice l2.bot.ad l2.bot.l.length l2.bot.cap) (.int .i64 l2.mv) (.int .i64 l2.cp)
        with_reducible generalize (((((W3.setCell ⟨P, 0, none⟩ (.int .i64 l2.ts)).setCell ⟨P, 1, none⟩ (.slice l2.top.ad l2.top.l.length l2.top.cap)).setCell ⟨P, 2, none⟩ (.slice l2.rs.ad l2.rs.l.length l2.rs.cap)).setCell ⟨P, 3, none⟩ (.slice l2.bot.ad l2.bot.l.length l2.bot.cap)).setCell ⟨P, 4, none⟩ (.int .i64 l2.mv)).setCell ⟨P, 5, none⟩ (.int .i64 l2.cp) = W4 at p2 hU5 ⊢
        have HR4 : Hid (RunR w H P M g2 out pn ins dep mx W4 l2 oa oc) := HRR.out.queue hU2 hB2 (Upd.refl _ _) hU5 p2
        clear hS p2 hU5 hq hB2 hU2 b0 b1 b2 b3 b4 b5 x0 x1 y0 y1 y2 y3 y4 y5 z0 z1 z2 z3 z4 z5 HR HRR HIN HKP
        simp only [Act.put]
        have HE2 : Hid (l2.ld = g2) := HR4.out.eq
        obtain ⟨m0, m1, m2, m3, m4, m5⟩ := cells6 HR4.out.met
        obtain ⟨f0, f1, f2, f3, f4, f5⟩ := free6 HR4.out.met
        have hwi : IntKind.i64.wrap ((ins : Int) + 1) = (ins : Int) + 1 := by rw [IntKind.wrap_i64]; have := HCN.out; omega
        go_upto_region 15 with (fail)
        have p3 : (W4.setCell ⟨M, 0, none⟩ (.int .i64 ((ins : Int) + 1))).heap[M]? = some (.cells #[.int .i64 ((ins : Int) + 1), .int .i64 (pn : Nat), .int .i64 0, .int .i64 0, .int .i64 (dep : Nat), .int .i64 (mx : Nat)] 28 (0, 0)) := setCell_block HR4.out.met _
        have hU6 := upd_set1 W4 M 0 (.int .i64 ((ins : Int) + 1))
        with_reducible generalize W4.setCell ⟨M, 0, none⟩ (.int .i64 ((ins : Int) + 1)) = W6 at p3 hU6 ⊢
        have HR6 := Lib.hid (HR4.out.mets hU6 p3)
        clear p3 hU6
        clear m0 m1 m2 m3 m4 m5 f0 f1 f2 f3 f4 f5
        clear hwi
        have hrs : l2.rs.l.length = g2.rs.length := by rw [← HR6.out.eq]; simp [LdR.ld]
        have HFW := Lib.hid (HOK1.out.fit (by omega) (l := l2) (by rw [HST.out]; exact HE2.out))
        have HDX := Lib.hid (HOK1.out.dep)
        have HMX := Lib.hid (HOK1.out.mx)
        have HIX := Lib.hid (HOK1.out.ik)
        rw [HST.out] at HDX HMX HIX
        simp only at HDX HMX HIX
        rw [← hrs] at HST HDX
        obtain ⟨d2, hd2⟩ : ∃ d2, d2 = max dep l2.rs.l.length := ⟨_, rfl⟩
        obtain ⟨m9, hm9⟩ : ∃ m9, m9 = max mx (lenD g2) := ⟨_, rfl⟩
        rw [← hd2, ← hm9] at HST
        have hmx1 : max (dep : Int) ((l2.rs.l.length : Nat) : Int) = (d2 : Int) := by omega
        have hmx2 : max (mx : Int) ((lenD g2 : Nat) : Int) = (m9 : Int) := by omega
        have HLN : Hid (∀ V, HasD V l2 → Calls Tryz.prog 22 #[encD l2] V fun e w' => e = .returned (.int .i64 (lenD g2 : Nat)) ∧ Upd [] V w') := fun V hv => by
          have := LLen_has l2 V hv (by have := HFW.out.rs; omega) HFW.out.len (fun r hr => by rw [HFW.out.h8 r hr]; decide)
          rw [HE2.out] at this; exact this
        unfold encD cellsD at HLN
        generalize lenD g2 = gl at *
        clear hrs hd2 hm9
        obtain ⟨m0, m1, m2, m3, m4, m5⟩ := cells6 HR6.out.met
        obtain ⟨f0, f1, f2, f3, f4, f5⟩ := free6 HR6.out.met
        obtain ⟨b0, b1, b2, b3, b4, b5⟩ := cells6 HR6.out.cells
        go_upto_region 16 with (fail)
        have p3 : (W6.setCell ⟨M, 4, none⟩ (.int .i64 (d2 : Int))).heap[M]? = some (.cells #[.int .i64 ((ins : Int) + 1), .int .i64 (pn : Nat), .int .i64 0, .int .i64 0, .int .i64 (d2 : Int), .int .i64 (mx : Nat)] 28 (0, 0)) := setCell_block HR6.out.met _
        have hU6 := upd_set1 W6 M 4 (.int .i64 (d2 : Int))
        with_reducible generalize W6.setCell ⟨M, 4, none⟩ (.int .i64 (d2 : Int)) = W7 at p3 hU6 ⊢
        have HR7 := Lib.hid (HR6.out.mets hU6 p3)
        clear p3 hU6
        clear m0 m1 m2 m3 m4 m5 f0 f1 f2 f3 f4 f5
        clear b0 b1 b2 b3 b4 b5 hmx1
        obtain ⟨m0, m1, m2, m3, m4, m5⟩ := cells6 HR7.out.met
        obtain ⟨f0, f1, f2, f3, f4, f5⟩ := free6 HR7.out.met
        obtain ⟨b0, b1, b2, b3, b4, b5⟩ := cells6 HR7.out.cells
        have HKP : Hid (∀ V, Upd [] W7 V → ((V.cell? ⟨P, 0, none⟩ = some (.int .i64 l2.ts) ∧ V.cell? ⟨P, 1, none⟩ = some (.slice l2.top.ad l2.top.l.length l2.top.cap) ∧ V.cell? ⟨P, 2, none⟩ = some (.slice l2.rs.ad l2.rs.l.length l2.rs.cap) ∧ V.cell? ⟨P, 3, none⟩ = some (.slice l2.bot.ad l2.bot.l.length l2.bot.cap) ∧ V.cell? ⟨P, 4, none⟩ = some (.int .i64 l2.mv) ∧ V.cell? ⟨P, 5, none⟩ = some (.int .i64 l2.cp)) ∧ V.cell? ⟨M, 5, none⟩ = some (.int .i64 mx))) := fun V hu => ⟨⟨hu.cell b0 (by simp), hu.cell b1 (by simp), hu.cell b2 (by simp), hu.cell b3 (by simp), hu.cell b4 (by simp), hu.cell b5 (by simp)⟩, hu.cell m5 (by simp)⟩
        have hS := HKP.out W7.drew (Upd.refl [] W7).drew
        refine wp_region_K (fun V => ((V.cell? ⟨P, 0, none⟩ = some (.int .i64 l2.ts) ∧ V.cell? ⟨P, 1, none⟩ = some (.slice l2.top.ad l2.top.l.length l2.top.cap) ∧ V.cell? ⟨P, 2, none⟩ = some (.slice l2.rs.ad l2.rs.l.length l2.rs.cap) ∧ V.cell? ⟨P, 3, none⟩ = some (.slice l2.bot.ad l2.bot.l.length l2.bot.cap) ∧ V.cell? ⟨P, 4, none⟩ = some (.int .i64 l2.mv) ∧ V.cell? ⟨P, 5, none⟩ = some (.int .i64 l2.cp)) ∧ V.cell? ⟨M, 5, none⟩ = some (.int .i64 mx))) 6 mixed ?_
        refine wpAnyK_take (i := 0) (d := some 59) (v := .pointer (some ⟨M, 5, none⟩)) rfl rfl (by kernel_rfl) (fun _ _ _ h => h) (.inl ⟨rfl, fun wz hz => by simp [execOp, Act.eval, go_sem]⟩) hS ?_
        simp only [Act.put, List.setIfInBounds_toArray, List.set_cons_succ, List.set_cons_zero]
        refine wpAnyK_take (i := 1) (d := some 60) (v := .int .i64 mx) rfl rfl (by kernel_rfl) (fun _ _ _ h => h) (.inl ⟨rfl, fun wz hz => by simp [execOp, Act.eval, go_sem, hz.2]⟩) hS ?_
        simp only [Act.put, List.setIfInBounds_toArray, List.set_cons_succ, List.set_cons_zero]
        refine wpAnyK_take (i := 2) (d := some 61) (v := .agg #[.int .i64 l2.ts, .slice l2.top.ad l2.top.l.length l2.top.cap, .slice l2.rs.ad l2.rs.l.length l2.rs.cap, .slice l2.bot.ad l2.bot.l.length l2.bot.cap, .int .i64 l2.mv, .int .i64 l2.cp]) rfl rfl (by kernel_rfl) (fun _ _ _ h => h) (.inl ⟨rfl, fun wz hz => by simp [execOp, Act.eval, go_sem, hz.1.1, hz.1.2.1, hz.1.2.2.1, hz.1.2.2.2.1, hz.1.2.2.2.2.1, hz.1.2.2.2.2.2]⟩) hS ?_
        simp only [Act.put, List.setIfInBounds_toArray, List.set_cons_succ, List.set_cons_zero]
        refine anyK_callee (i := 3) (d := some 62) (R := fun v W3 => v = .int .i64 (gl : Nat) ∧ Upd [] W7.drew W3) rfl rfl (by kernel_rfl) rfl (by simp [execOp, Act.eval, go_sem]) ((HLN.out W7.drew (HR7.out.has.stay (Upd.refl [] W7).drew)).mono fun e W3 h => ⟨_, h.1, rfl, h.2⟩) ?_
        rintro _ W8 ⟨rfl, hu8⟩
        have hU8 : Upd [] W7 W8 := (Upd.refl [] W7).drew.thn hu8
        have hS8 := HKP.out W8 hU8
        refine ⟨.inr hS8, ?_⟩
        simp only [Act.put, List.setIfInBounds_toArray, List.set_cons_succ, List.set_cons_zero]
        refine wpAnyK_value (i := 4) (d := some 63) (v := .int .i64 m9) (w' := W8) rfl rfl (by kernel_rfl) rfl (by simp [execOp, Act.eval, go_sem, hmx2]) (.inr hS8) ?_
        simp only [Act.put, List.setIfInBounds_toArray, List.set_cons_succ, List.set_cons_zero]
        refine wpAnyK_take (i := 5) (d := some 64) (v := .pointer (some ⟨M, 5, none⟩)) rfl rfl (by kernel_rfl) (fun _ _ _ h => h) (.inl ⟨rfl, fun wz hz => by simp [execOp, Act.eval, go_sem]⟩) hS8 ?_
        simp only [Act.put, List.setIfInBounds_toArray, List.set_cons_succ, List.set_cons_zero]
        have y5 := hU8.cell m5 (by simp)
        have z5 := (free6 (hU8.at HR7.out.met (by simp))).2.2.2.2.2
        refine wpAnyK_skip (i := 6) (d := none) (w' := W8.setCell ⟨M, 5, none⟩ (.int .i64 m9)) rfl rfl (by kernel_rfl) rfl (by simp [execOp, Act.eval, go_sem, y5, z5]) (.inl rfl) ?_
        refine wpAnyK_done (by kernel_rfl) ?_ _
        have HR8 := Lib.hid (HR7.out.stay hU8)
        clear hS hS8 hu8 hU8 y5 z5 b0 b1 b2 b3 b4 b5 HKP HLN hmx2
        clear m0 m1 m2 m3 m4 m5 f0 f1 f2 f3 f4 f5
        have p3 : (W8.setCell ⟨M, 5, none⟩ (.int .i64 m9)).heap[M]? = some (.cells #[.int .i64 ((ins : Int) + 1), .int .i64 (pn : Nat), .int .i64 0, .int .i64 0, .int .i64 (d2 : Int), .int .i64 (m9 : Int)] 28 (0, 0)) := setCell_block HR8.out.met _
        have hU6 := upd_set1 W8 M 5 (.int .i64 m9)
        with_reducible generalize W8.setCell ⟨M, 5, none⟩ (.int .i64 m9) = W9 at p3 hU6 ⊢
        have HR9 := Lib.hid (HR8.out.mets hU6 p3)
        clear p3 hU6
        simp only [Act.put]
        clear HFW HDX HMX HIX
        go_wp2_with fail
        go_roundg (n - (k + 1))
        case measure => omega
        case rel => exact ⟨k + 1, l2, oa, oc, by rw [HST.out], by go_num, by omega, by rw [HST.out]; rw [← HPN.out]; exact HR9⟩
      | true =>
        have hpo := RPop_has l wr HR.out.has hfit.good hfit.len hfit.mv
        rw [HR.out.eq] at hpo
        have HSK2 : Hid (R (k + 1) = ⟨(popL sl).1, if (popL sl).2.2 = true then out ++ [(popL sl).2.1] else out, ins, max dep (popL sl).1.rs.length, max mx (lenD (popL sl).1)⟩) := by rw [HSK.out]; simp only [stepW, nxtW, if_true]; trivial
        generalize popL sl = pp at *
        obtain ⟨g2, ⟨i0, i1, i2⟩, ok⟩ := pp
        have HPO : Hid (Calls Tryz.prog 20 #[encD l] wr (GivesRP l (g2, ⟨i0, i1, i2⟩, ok) wr)) := hpo
        simp only at HSK2
        unfold encD cellsD at HPO
        clear hfit HSK hpo x1
        obtain ⟨b0, b1, b2, b3, b4, b5⟩ := cells6 HR.out.cells
        go_upto_region 9 with (go_at_call 20; (with_reducible refine HPO.out.mono ?_); rintro e w2 ⟨l2, rfl, hB⟩; unfold encD cellsD aggI; simp only)
        obtain ⟨ha, qm, qt, hsm⟩ := two_boxes w2 (.cells #[.int .i64 l2.ts, .slice l2.top.ad l2.top.l.length l2.top.cap, .slice l2.rs.ad l2.rs.l.length l2.rs.cap, .slice l2.bot.ad l2.bot.l.length l2.bot.cap, .int .i64 l2.mv, .int .i64 l2.cp] 42) (.cells #[.int .i64 i0, .int .i64 i1, .int .i64 i2] 38)
        have HBN := Lib.hid hB; have HA := Lib.hid ha; have HQT := Lib.hid qt
        have q0 := ha.at (hB.upd.at HR.out.cells (by simp)) (by simp)
        have hne : P < w2.heap.size := Nat.lt_of_lt_of_le (lt_block HR.out.box) hB.upd.size
        have hnm : M < w2.heap.size := Nat.lt_of_lt_of_le (lt_block HR.out.met) hB.upd.size
        have HNE := Lib.hid hne; have HNM := Lib.hid hnm
        have HQ0 := Lib.hid q0
        clear b0 b1 b2 b3 b4 b5 x0 ha hB hsm
        generalize (w2.alloc (.cells #[.int .i64 l2.ts, .slice l2.top.ad l2.top.l.length l2.top.cap, .slice l2.rs.ad l2.rs.l.length l2.rs.cap, .slice l2.bot.ad l2.bot.l.length l2.bot.cap, .int .i64 l2.mv, .int .i64 l2.cp] 42)).alloc (.cells #[.int .i64 i0, .int .i64 i1, .int .i64 i2] 38) = W3 at *
        generalize w2.heap.size = G at *
        obtain ⟨b0, b1, b2, b3, b4, b5⟩ := cells6 q0
        obtain ⟨z0, z1, z2, z3, z4, z5⟩ := free6 q0
        obtain ⟨y0, y1, y2, y3, y4, y5⟩ := cells6 qm
        clear q0 qm qt hne hnm
        go_upto_region 10 with (fail)
        have p2 := stored6 HQ0.out (.int .i64 l2.ts) (.slice l2.top.ad l2.top.l.length l2.top.cap) (.slice l2.rs.ad l2.rs.l.length l2.rs.cap) (.slice l2.bot.ad l2.bot.l.length l2.bot.cap) (.int .i64 l2.mv) (.int .i64 l2.cp)
        have hU5 := upd_set6 W3 P (.int .i64 l2.ts) (.slice l2.top.ad l2.top.l.length l2.top.cap) (.slice l2.rs.ad l2.rs.l.length l2.rs.cap) (.slice l2.bot.ad l2.bot.l.length l2.bot.cap) (.int .i64 l2.mv) (.int .i64 l2.cp)
        with_reducible generalize (((((W3.setCell ⟨P, 0, none⟩ (.int .i64 l2.ts)).setCell ⟨P, 1, none⟩ (.slice l2.top.ad l2.top.l.length l2.top.cap)).setCell ⟨P, 2, none⟩ (.slice l2.rs.ad l2.rs.l.length l2.rs.cap)).setCell ⟨P, 3, none⟩ (.slice l2.bot.ad l2.bot.l.length l2.bot.cap)).setCell ⟨P, 4, none⟩ (.int .i64 l2.mv)).setCell ⟨P, 5, none⟩ (.int .i64 l2.cp) = W4 at p2 hU5 ⊢
        have HR4 : Hid (RunR w H P M g2 out pn ins dep mx W4 l2 oa oc) := HR.out.queue (Upd.refl _ _) HBN.out HA.out hU5 p2
        have HT4 := Lib.hid (hU5.at HQT.out (by have := HNE.out; simp only [List.mem_singleton]; omega))
        clear b0 b1 b2 b3 b4 b5 z0 z1 z2 z3 z4 z5 y0 y1 y2 y3 y4 y5 p2 hU5 HR HBN HA HQT HQ0
        have HE2 : Hid (l2.ld = g2) := HR4.out.eq
        cases ok with
        | false =>
          have HST : Hid (R (k + 1) = ⟨g2, out, ins, max dep g2.rs.length, max mx (lenD g2)⟩) := by rw [HSK2.out]; rfl
          clear HSK2
          go_upto_region 15 with (fail)
          have hrs : l2.rs.l.length = g2.rs.length := by rw [← HR4.out.eq]; simp [LdR.ld]
          have HFW := Lib.hid (HOK1.out.fit (by omega) (l := l2) (by rw [HST.out]; exact HE2.out))
          have HDX := Lib.hid (HOK1.out.dep)
          have HMX := Lib.hid (HOK1.out.mx)
          have HIX := Lib.hid (HOK1.out.ik)
          rw [HST.out] at HDX HMX HIX
          simp only at HDX HMX HIX
          rw [← hrs] at HST HDX
          obtain ⟨d2, hd2⟩ : ∃ d2, d2 = max dep l2.rs.l.length := ⟨_, rfl⟩
          obtain ⟨m9, hm9⟩ : ∃ m9, m9 = max mx (lenD g2) := ⟨_, rfl⟩
          rw [← hd2, ← hm9] at HST
          have hmx1 : max (dep : Int) ((l2.rs.l.length : Nat) : Int) = (d2 : Int) := by omega
          have hmx2 : max (mx : Int) ((lenD g2 : Nat) : Int) = (m9 : Int) := by omega
          have HLN : Hid (∀ V, HasD V l2 → Calls Tryz.prog 22 #[encD l2] V fun e w' => e = .returned (.int .i64 (lenD g2 : Nat)) ∧ Upd [] V w') := fun V hv => by
            have := LLen_has l2 V hv (by have := HFW.out.rs; omega) HFW.out.len (fun r hr => by rw [HFW.out.h8 r hr]; decide)
            rw [HE2.out] at this; exact this
          unfold encD cellsD at HLN
          generalize lenD g2 = gl at *
          clear hrs hd2 hm9
          obtain ⟨m0, m1, m2, m3, m4, m5⟩ := cells6 HR4.out.met
          obtain ⟨f0, f1, f2, f3, f4, f5⟩ := free6 HR4.out.met
          obtain ⟨b0, b1, b2, b3, b4, b5⟩ := cells6 HR4.out.cells
          go_upto_region 16 with (fail)
          have p3 : (W4.setCell ⟨M, 4, none⟩ (.int .i64 (d2 : Int))).heap[M]? = some (.cells #[.int .i64 (ins : Nat), .int .i64 (pn : Nat), .int .i64 0, .int .i64 0, .int .i64 (d2 : Int), .int .i64 (mx : Nat)] 28 (0, 0)) := setCell_block HR4.out.met _
          have hU6 := upd_set1 W4 M 4 (.int .i64 (d2 : Int))
          with_reducible generalize W4.setCell ⟨M, 4, none⟩ (.int .i64 (d2 : Int)) = W7 at p3 hU6 ⊢
          have HR7 := Lib.hid (HR4.out.mets hU6 p3)
          clear p3 hU6
          clear m0 m1 m2 m3 m4 m5 f0 f1 f2 f3 f4 f5
          clear b0 b1 b2 b3 b4 b5 hmx1
          obtain ⟨m0, m1, m2, m3, m4, m5⟩ := cells6 HR7.out.met
          obtain ⟨f0, f1, f2, f3, f4, f5⟩ := free6 HR7.out.met
          obtain ⟨b0, b1, b2, b3, b4, b5⟩ := cells6 HR7.out.cells
          have HKP : Hid (∀ V, Upd [] W7 V → ((V.cell? ⟨P, 0, none⟩ = some (.int .i64 l2.ts) ∧ V.cell? ⟨P, 1, none⟩ = some (.slice l2.top.ad l2.top.l.length l2.top.cap) ∧ V.cell? ⟨P, 2, none⟩ = some (.slice l2.rs.ad l2.rs.l.length l2.rs.cap) ∧ V.cell? ⟨P, 3, none⟩ = some (.slice l2.bot.ad l2.bot.l.length l2.bot.cap) ∧ V.cell? ⟨P, 4, none⟩ = some (.int .i64 l2.mv) ∧ V.cell? ⟨P, 5, none⟩ = some (.int .i64 l2.cp)) ∧ V.cell? ⟨M, 5, none⟩ = some (.int .i64 mx))) := fun V hu => ⟨⟨hu.cell b0 (by simp), hu.cell b1 (by simp), hu.cell b2 (by simp), hu.cell b3 (by simp), hu.cell b4 (by simp), hu.cell b5 (by simp)⟩, hu.cell m5 (by simp)⟩
          have hS := HKP.out W7.drew (Upd.refl [] W7).drew
          refine wp_region_K (fun V => ((V.cell? ⟨P, 0, none⟩ = some (.int .i64 l2.ts) ∧ V.cell? ⟨P, 1, none⟩ = some (.slice l2.top.ad l2.top.l.length l2.top.cap) ∧ V.cell? ⟨P, 2, none⟩ = some (.slice l2.rs.ad l2.rs.l.length l2.rs.cap) ∧ V.cell? ⟨P, 3, none⟩ = some (.slice l2.bot.ad l2.bot.l.length l2.bot.cap) ∧ V.cell? ⟨P, 4, none⟩ = some (.int .i64 l2.mv) ∧ V.cell? ⟨P, 5, none⟩ = some (.int .i64 l2.cp)) ∧ V.cell? ⟨M, 5, none⟩ = some (.int .i64 mx))) 6 mixed ?_
          refine wpAnyK_take (i := 0) (d := some 59) (v := .pointer (some ⟨M, 5, none⟩)) rfl rfl (by kernel_rfl) (fun _ _ _ h => h) (.inl ⟨rfl, fun wz hz => by simp [execOp, Act.eval, go_sem]⟩) hS ?_
          simp only [Act.put, List.setIfInBounds_toArray, List.set_cons_succ, List.set_cons_zero]
          refine wpAnyK_take (i := 1) (d := some 60) (v := .int .i64 mx) rfl rfl (by kernel_rfl) (fun _ _ _ h => h) (.inl ⟨rfl, fun wz hz => by simp [execOp, Act.eval, go_sem, hz.2]⟩) hS ?_
          simp only [Act.put, List.setIfInBounds_toArray, List.set_cons_succ, List.set_cons_zero]
          refine wpAnyK_take (i := 2) (d := some 61) (v := .agg #[.int .i64 l2.ts, .slice l2.top.ad l2.top.l.length l2.top.cap, .slice l2.rs.ad l2.rs.l.length l2.rs.cap, .slice l2.bot.ad l2.bot.l.length l2.bot.cap, .int .i64 l2.mv, .int .i64 l2.cp]) rfl rfl (by kernel_rfl) (fun _ _ _ h => h) (.inl ⟨rfl, fun wz hz => by simp [execOp, Act.eval, go_sem, hz.1.1, hz.1.2.1, hz.1.2.2.1, hz.1.2.2.2.1, hz.1.2.2.2.2.1, hz.1.2.2.2.2.2]⟩) hS ?_
          simp only [Act.put, List.setIfInBounds_toArray, List.set_cons_succ, List.set_cons_zero]
          refine anyK_callee (i := 3) (d := some 62) (R := fun v W3 => v = .int .i64 (gl : Nat) ∧ Upd [] W7.drew W3) rfl rfl (by kernel_rfl) rfl (by simp [execOp, Act.eval, go_sem]) ((HLN.out W7.drew (HR7.out.has.stay (Upd.refl [] W7).drew)).mono fun e W3 h => ⟨_, h.1, rfl, h.2⟩) ?_
          rintro _ W8 ⟨rfl, hu8⟩
          have hU8 : Upd [] W7 W8 := (Upd.refl [] W7).drew.thn hu8
          have hS8 := HKP.out W8 hU8
          refine ⟨.inr hS8, ?_⟩
          simp only [Act.put, List.setIfInBounds_toArray, List.set_cons_succ, List.set_cons_zero]
          refine wpAnyK_value (i := 4) (d := some 63) (v := .int .i64 m9) (w' := W8) rfl rfl (by kernel_rfl) rfl (by simp [execOp, Act.eval, go_sem, hmx2]) (.inr hS8) ?_
          simp only [Act.put, List.setIfInBounds_toArray, List.set_cons_succ, List.set_cons_zero]
          refine wpAnyK_take (i := 5) (d := some 64) (v := .pointer (some ⟨M, 5, none⟩)) rfl rfl (by kernel_rfl) (fun _ _ _ h => h) (.inl ⟨rfl, fun wz hz => by simp [execOp, Act.eval, go_sem]⟩) hS8 ?_
          simp only [Act.put, List.setIfInBounds_toArray, List.set_cons_succ, List.set_cons_zero]
          have y5 := hU8.cell m5 (by simp)
          have z5 := (free6 (hU8.at HR7.out.met (by simp))).2.2.2.2.2
          refine wpAnyK_skip (i := 6) (d := none) (w' := W8.setCell ⟨M, 5, none⟩ (.int .i64 m9)) rfl rfl (by kernel_rfl) rfl (by simp [execOp, Act.eval, go_sem, y5, z5]) (.inl rfl) ?_
          refine wpAnyK_done (by kernel_rfl) ?_ _
          have HR8 := Lib.hid (HR7.out.stay hU8)
          clear hS hS8 hu8 hU8 y5 z5 b0 b1 b2 b3 b4 b5 HKP HLN hmx2
          clear m0 m1 m2 m3 m4 m5 f0 f1 f2 f3 f4 f5
          have p3 : (W8.setCell ⟨M, 5, none⟩ (.int .i64 m9)).heap[M]? = some (.cells #[.int .i64 (ins : Nat), .int .i64 (pn : Nat), .int .i64 0, .int .i64 0, .int .i64 (d2 : Int), .int .i64 (m9 : Int)] 28 (0, 0)) := setCell_block HR8.out.met _
          have hU6 := upd_set1 W8 M 5 (.int .i64 m9)
          with_reducible generalize W8.setCell ⟨M, 5, none⟩ (.int .i64 m9) = W9 at p3 hU6 ⊢
          have HR9 := Lib.hid (HR8.out.mets hU6 p3)
          clear p3 hU6
          simp only [Act.put]
          clear HFW HDX HMX HIX
          go_wp2_with fail
          go_roundg (n - (k + 1))
          case measure => omega
          case rel => exact ⟨k + 1, l2, oa, oc, by rw [HST.out], by go_num, by omega, by rw [HST.out]; rw [← HPN.out]; exact HR9⟩
        | true =>
          have HST : Hid (R (k + 1) = ⟨g2, out ++ [⟨i0, i1, i2⟩], ins, max dep g2.rs.length, max mx (lenD g2)⟩) := by rw [HSK2.out]; rfl
          clear HSK2
          obtain ⟨t0, t1, t2⟩ := cells3 HT4.out
          have hu5 := (Upd.refl [] W4).alloc (.cells #[.int .i64 i0, .int .i64 i1, .int .i64 i2] 38)
          have HRW := Lib.hid (row_cells (it := ⟨i0, i1, i2⟩) (heap_alloc1 W4 (.cells #[.int .i64 i0, .int .i64 i1, .int .i64 i2] 38)))
          have HR5 := Lib.hid (HR4.out.stay hu5)
          have hsz := HR4.out.upd.size
          have hpo : out.length ≤ 1000 := by have := HCN.out; have := HPN.out; omega
          clear hu5
          go_upto_region 12 with (at_builtin; refine app_row2 tyI rfl _ _ rfl w.heap.size (.slice oa out.length oc) out.length out rfl HR5.out.o ⟨W4.heap.size, 0, none⟩ 1 1 [⟨i0, i1, i2⟩] rfl rfl (by decide) HRW.out (by omega) (by simp; omega) ?_; intro v2 w5 hown2 hgrow2 hwh; obtain ⟨oa2, oc2, rfl⟩ := row_shape hown2)
          have HR6 : Hid (RunR w H P M g2 (out ++ [⟨i0, i1, i2⟩]) pn ins dep mx w5 l2 oa2 oc2) := HR5.out.push hown2 hgrow2 (hwh.imp id (fun e => ⟨_, e, by omega, HR5.out.has.avoids (Nat.le_refl _)⟩))
          clear hown2 hgrow2 hwh t0 t1 t2 hsz HR5 HRW HT4
          obtain ⟨m0, m1, m2, m3, m4, m5⟩ := cells6 HR6.out.met
          obtain ⟨f0, f1, f2, f3, f4, f5⟩ := free6 HR6.out.met
          have hwi : IntKind.i64.wrap ((pn : Int) + 1) = (pn : Int) + 1 := by rw [IntKind.wrap_i64]; have := HCN.out; omega
          go_upto_region 15 with (fail)
          have p3 : (w5.setCell ⟨M, 1, none⟩ (.int .i64 ((pn : Int) + 1))).heap[M]? = some (.cells #[.int .i64 (ins : Nat), .int .i64 ((pn : Int) + 1), .int .i64 0, .int .i64 0, .int .i64 (dep : Nat), .int .i64 (mx : Nat)] 28 (0, 0)) := setCell_block HR6.out.met _
          have hU6 := upd_set1 w5 M 1 (.int .i64 ((pn : Int) + 1))
          with_reducible generalize w5.setCell ⟨M, 1, none⟩ (.int .i64 ((pn : Int) + 1)) = W6 at p3 hU6 ⊢
          have HR6b := Lib.hid (HR6.out.mets hU6 p3)
          clear p3 hU6
          clear m0 m1 m2 m3 m4 m5 f0 f1 f2 f3 f4 f5
          clear hwi hpo
          have hrs : l2.rs.l.length = g2.rs.length := by rw [← HR6b.out.eq]; simp [LdR.ld]
          have HFW := Lib.hid (HOK1.out.fit (by omega) (l := l2) (by rw [HST.out]; exact HE2.out))
          have HDX := Lib.hid (HOK1.out.dep)
          have HMX := Lib.hid (HOK1.out.mx)
          have HIX := Lib.hid (HOK1.out.ik)
          rw [HST.out] at HDX HMX HIX
          simp only at HDX HMX HIX
          rw [← hrs] at HST HDX
          obtain ⟨d2, hd2⟩ : ∃ d2, d2 = max dep l2.rs.l.length := ⟨_, rfl⟩
          obtain ⟨m9, hm9⟩ : ∃ m9, m9 = max mx (lenD g2) := ⟨_, rfl⟩
          rw [← hd2, ← hm9] at HST
          have hmx1 : max (dep : Int) ((l2.rs.l.length : Nat) : Int) = (d2 : Int) := by omega
          have hmx2 : max (mx : Int) ((lenD g2 : Nat) : Int) = (m9 : Int) := by omega
          have HLN : Hid (∀ V, HasD V l2 → Calls Tryz.prog 22 #[encD l2] V fun e w' => e = .returned (.int .i64 (lenD g2 : Nat)) ∧ Upd [] V w') := fun V hv => by
            have := LLen_has l2 V hv (by have := HFW.out.rs; omega) HFW.out.len (fun r hr => by rw [HFW.out.h8 r hr]; decide)
            rw [HE2.out] at this; exact this
          unfold encD cellsD at HLN
          generalize lenD g2 = gl at *
          clear hrs hd2 hm9
          obtain ⟨m0, m1, m2, m3, m4, m5⟩ := cells6 HR6b.out.met
          obtain ⟨f0, f1, f2, f3, f4, f5⟩ := free6 HR6b.out.met
          obtain ⟨b0, b1, b2, b3, b4, b5⟩ := cells6 HR6b.out.cells
          go_upto_region 16 with (fail)
          have p3 : (W6.setCell ⟨M, 4, none⟩ (.int .i64 (d2 : Int))).heap[M]? = some (.cells #[.int .i64 (ins : Nat), .int .i64 ((pn : Int) + 1), .int .i64 0, .int .i64 0, .int .i64 (d2 : Int), .int .i64 (mx : Nat)] 28 (0, 0)) := setCell_block HR6b.out.met _
          have hU6 := upd_set1 W6 M 4 (.int .i64 (d2 : Int))
          with_reducible generalize W6.setCell ⟨M, 4, none⟩ (.int .i64 (d2 : Int)) = W7 at p3 hU6 ⊢
          have HR7 := Lib.hid (HR6b.out.mets hU6 p3)
          clear p3 hU6
          clear m0 m1 m2 m3 m4 m5 f0 f1 f2 f3 f4 f5
          clear b0 b1 b2 b3 b4 b5 hmx1
          obtain ⟨m0, m1, m2, m3, m4, m5⟩ := cells6 HR7.out.met
          obtain ⟨f0, f1, f2, f3, f4, f5⟩ := free6 HR7.out.met
          obtain ⟨b0, b1, b2, b3, b4, b5⟩ := cells6 HR7.out.cells
          have HKP : Hid (∀ V, Upd [] W7 V → ((V.cell? ⟨P, 0, none⟩ = some (.int .i64 l2.ts) ∧ V.cell? ⟨P, 1, none⟩ = some (.slice l2.top.ad l2.top.l.length l2.top.cap) ∧ V.cell? ⟨P, 2, none⟩ = some (.slice l2.rs.ad l2.rs.l.length l2.rs.cap) ∧ V.cell? ⟨P, 3, none⟩ = some (.slice l2.bot.ad l2.bot.l.length l2.bot.cap) ∧ V.cell? ⟨P, 4, none⟩ = some (.int .i64 l2.mv) ∧ V.cell? ⟨P, 5, none⟩ = some (.int .i64 l2.cp)) ∧ V.cell? ⟨M, 5, none⟩ = some (.int .i64 mx))) := fun V hu => ⟨⟨hu.cell b0 (by simp), hu.cell b1 (by simp), hu.cell b2 (by simp), hu.cell b3 (by simp), hu.cell b4 (by simp), hu.cell b5 (by simp)⟩, hu.cell m5 (by simp)⟩
          have hS := HKP.out W7.drew (Upd.refl [] W7).drew
          refine wp_region_K (fun V => ((V.cell? ⟨P, 0, none⟩ = some (.int .i64 l2.ts) ∧ V.cell? ⟨P, 1, none⟩ = some (.slice l2.top.ad l2.top.l.length l2.top.cap) ∧ V.cell? ⟨P, 2, none⟩ = some (.slice l2.rs.ad l2.rs.l.length l2.rs.cap) ∧ V.cell? ⟨P, 3, none⟩ = some (.slice l2.bot.ad l2.bot.l.length l2.bot.cap) ∧ V.cell? ⟨P, 4, none⟩ = some (.int .i64 l2.mv) ∧ V.cell? ⟨P, 5, none⟩ = some (.int .i64 l2.cp)) ∧ V.cell? ⟨M, 5, none⟩ = some (.int .i64 mx))) 6 mixed ?_
          refine wpAnyK_take (i := 0) (d := some 59) (v := .pointer (some ⟨M, 5, none⟩)) rfl rfl (by kernel_rfl) (fun _ _ _ h => h) (.inl ⟨rfl, fun wz hz => by simp [execOp, Act.eval, go_sem]⟩) hS ?_
          simp only [Act.put, List.setIfInBounds_toArray, List.set_cons_succ, List.set_cons_zero]
          refine wpAnyK_take (i := 1) (d := some 60) (v := .int .i64 mx) rfl rfl (by kernel_rfl) (fun _ _ _ h => h) (.inl ⟨rfl, fun wz hz => by simp [execOp, Act.eval, go_sem, hz.2]⟩) hS ?_
          simp only [Act.put, List.setIfInBounds_toArray, List.set_cons_succ, List.set_cons_zero]
          refine wpAnyK_take (i := 2) (d := some 61) (v := .agg #[.int .i64 l2.ts, .slice l2.top.ad l2.top.l.length l2.top.cap, .slice l2.rs.ad l2.rs.l.length l2.rs.cap, .slice l2.bot.ad l2.bot.l.length l2.bot.cap, .int .i64 l2.mv, .int .i64 l2.cp]) rfl rfl (by kernel_rfl) (fun _ _ _ h => h) (.inl ⟨rfl, fun wz hz => by simp [execOp, Act.eval, go_sem, hz.1.1, hz.1.2.1, hz.1.2.2.1, hz.1.2.2.2.1, hz.1.2.2.2.2.1, hz.1.2.2.2.2.2]⟩) hS ?_
          simp only [Act.put, List.setIfInBounds_toArray, List.set_cons_succ, List.set_cons_zero]
          refine anyK_callee (i := 3) (d := some 62) (R := fun v W3 => v = .int .i64 (gl : Nat) ∧ Upd [] W7.drew W3) rfl rfl (by kernel_rfl) rfl (by simp [execOp, Act.eval, go_sem]) ((HLN.out W7.drew (HR7.out.has.stay (Upd.refl [] W7).drew)).mono fun e W3 h => ⟨_, h.1, rfl, h.2⟩) ?_
          rintro _ W8 ⟨rfl, hu8⟩
          have hU8 : Upd [] W7 W8 := (Upd.refl [] W7).drew.thn hu8
          have hS8 := HKP.out W8 hU8
          refine ⟨.inr hS8, ?_⟩
          simp only [Act.put, List.setIfInBounds_toArray, List.set_cons_succ, List.set_cons_zero]
          refine wpAnyK_value (i := 4) (d := some 63) (v := .int .i64 m9) (w' := W8) rfl rfl (by kernel_rfl) rfl (by simp [execOp, Act.eval, go_sem, hmx2]) (.inr hS8) ?_
          simp only [Act.put, List.setIfInBounds_toArray, List.set_cons_succ, List.set_cons_zero]
          refine wpAnyK_take (i := 5) (d := some 64) (v := .pointer (some ⟨M, 5, none⟩)) rfl rfl (by kernel_rfl) (fun _ _ _ h => h) (.inl ⟨rfl, fun wz hz => by simp [execOp, Act.eval, go_sem]⟩) hS8 ?_
          simp only [Act.put, List.setIfInBounds_toArray, List.set_cons_succ, List.set_cons_zero]
          have y5 := hU8.cell m5 (by simp)
          have z5 := (free6 (hU8.at HR7.out.met (by simp))).2.2.2.2.2
          refine wpAnyK_skip (i := 6) (d := none) (w' := W8.setCell ⟨M, 5, none⟩ (.int .i64 m9)) rfl rfl (by kernel_rfl) rfl (by simp [execOp, Act.eval, go_sem, y5, z5]) (.inl rfl) ?_
          refine wpAnyK_done (by kernel_rfl) ?_ _
          have HR8 := Lib.hid (HR7.out.stay hU8)
          clear hS hS8 hu8 hU8 y5 z5 b0 b1 b2 b3 b4 b5 HKP HLN hmx2
          clear m0 m1 m2 m3 m4 m5 f0 f1 f2 f3 f4 f5
          have p3 : (W8.setCell ⟨M, 5, none⟩ (.int .i64 m9)).heap[M]? = some (.cells #[.int .i64 (ins : Nat), .int .i64 ((pn : Int) + 1), .int .i64 0, .int .i64 0, .int .i64 (d2 : Int), .int .i64 (m9 : Int)] 28 (0, 0)) := setCell_block HR8.out.met _
          have hU6 := upd_set1 W8 M 5 (.int .i64 m9)
          with_reducible generalize W8.setCell ⟨M, 5, none⟩ (.int .i64 m9) = W9 at p3 hU6 ⊢
          have HR9 := Lib.hid (HR8.out.mets hU6 p3)
          clear p3 hU6
          simp only [Act.put]
          clear HFW HDX HMX HIX
          go_wp2_with fail
          go_roundg (n - (k + 1))
          case measure => omega
          case rel => exact ⟨k + 1, l2, oa2, oc2, by rw [HST.out]; simp, by go_num, by omega, by rw [HST.out]; rw [List.length_append, ← HPN.out]; exact HR9⟩
    · have hltz : ¬ (k : Int) < (n : Int) := by omega
      obtain rfl : k = n := by omega
      obtain ⟨s, hs⟩ : ∃ s, s = R k := ⟨_, rfl⟩
      have HFIN : Hid (∀ e w', RanW w s e w' → RanW w (R k) e w') := fun e w' h => by rw [← hs]; exact h
      rw [← hs] at HR ⊢
      clear hs
      obtain ⟨sl, out, ins, dep, mx⟩ := s
      simp only at HR ⊢
      obtain ⟨pn, hpn⟩ : ∃ pn, pn = out.length := ⟨_, rfl⟩
      have HPN := Lib.hid hpn
      rw [← hpn] at HR
      clear hpn
      obtain ⟨b0, b1, b2, b3, b4, b5⟩ := cells6 HR.out.cells
      obtain ⟨m0, m1, m2, m3, m4, m5⟩ := cells6 HR.out.met
      obtain ⟨f0, f1, f2, f3, f4, f5⟩ := free6 HR.out.met
      go_upto_region 18 with (fail)
      have p3 : (wr.setCell ⟨M, 2, none⟩ (.int .i64 l.mv)).heap[M]? = some (.cells #[.int .i64 (ins : Nat), .int .i64 (pn : Nat), .int .i64 l.mv, .int .i64 0, .int .i64 (dep : Nat), .int .i64 (mx : Nat)] 28 (0, 0)) := setCell_block HR.out.met _
      have hU6 := upd_set1 wr M 2 (.int .i64 l.mv)
      with_reducible generalize wr.setCell ⟨M, 2, none⟩ (.int .i64 l.mv) = W6 at p3 hU6 ⊢
      have HP3 := Lib.hid p3; have HU6 := Lib.hid hU6
      clear p3 hU6 b0 b1 b2 b3 b4 b5
      clear m0 m1 m2 m3 m4 m5 f0 f1 f2 f3 f4 f5
      have HPB := Lib.hid (HU6.out.at HR.out.cells (by have := HR.out.ord; simp only [List.mem_singleton]; omega))
      obtain ⟨b0, b1, b2, b3, b4, b5⟩ := cells6 HPB.out
      obtain ⟨m0, m1, m2, m3, m4, m5⟩ := cells6 HP3.out
      obtain ⟨f0, f1, f2, f3, f4, f5⟩ := free6 HP3.out
      go_upto_region 19 with (fail)
      have p3 : (W6.setCell ⟨M, 3, none⟩ (.int .i64 l.cp)).heap[M]? = some (.cells #[.int .i64 (ins : Nat), .int .i64 (pn : Nat), .int .i64 l.mv, .int .i64 l.cp, .int .i64 (dep : Nat), .int .i64 (mx : Nat)] 28 (0, 0)) := setCell_block HP3.out _
      have hU7 := HU6.out.trans (T := [M]) (upd_set1 W6 M 3 (.int .i64 l.cp)) (by simp)
      with_reducible generalize W6.setCell ⟨M, 3, none⟩ (.int .i64 l.cp) = W7 at p3 hU7 ⊢
      have HP4 := Lib.hid p3; have HU7 := Lib.hid hU7
      clear p3 hU7 b0 b1 b2 b3 b4 b5
      clear m0 m1 m2 m3 m4 m5 f0 f1 f2 f3 f4 f5
      have q2 := HU7.out.at HR.out.res (by have := HR.out.ord; simp only [List.mem_singleton]; omega)
      have HQ2 := Lib.hid q2
      obtain ⟨y0, y1, y2, y3, y4, y5⟩ := cells6 q2
      obtain ⟨z0, z1, z2, z3, z4, z5⟩ := free6 q2
      obtain ⟨m0, m1, m2, m3, m4, m5⟩ := cells6 HP4.out
      clear q2
      go_region
      have p2 := stored6 HQ2.out (.int .i64 (ins : Nat)) (.int .i64 (pn : Nat)) (.int .i64 l.mv) (.int .i64 l.cp) (.int .i64 (dep : Nat)) (.int .i64 (mx : Nat))
      have hU5 := upd_set6 W7 H (.int .i64 (ins : Nat)) (.int .i64 (pn : Nat)) (.int .i64 l.mv) (.int .i64 l.cp) (.int .i64 (dep : Nat)) (.int .i64 (mx : Nat))
      with_reducible generalize (((((W7.setCell ⟨H, 0, none⟩ (.int .i64 (ins : Nat))).setCell ⟨H, 1, none⟩ (.int .i64 (pn : Nat))).setCell ⟨H, 2, none⟩ (.int .i64 l.mv)).setCell ⟨H, 3, none⟩ (.int .i64 l.cp)).setCell ⟨H, 4, none⟩ (.int .i64 (dep : Nat))).setCell ⟨H, 5, none⟩ (.int .i64 (mx : Nat)) = W8 at p2 hU5 ⊢
      have hd : Upd [] W8 W8.drew := (Upd.refl [] W8).drew
      generalize W8.drew = W9 at hd ⊢
      obtain ⟨r0, r1, r2, r3, r4, r5⟩ := cells6 (hd.at p2 (by simp))
      have n1 := ne_own HR.out.res HR.out.o (by decide)
      have n3 := ne_own HR.out.met HR.out.o (by decide)
      have hrow := hd.row (hU5.row (HU7.out.row HR.out.o (fun x hx => by rw [hx] at n3; simpa using n3)) (fun x hx => by rw [hx] at n1; simpa using n1)) (by simp)
      have hge : ∀ a, oa = some a → w.heap.size ≤ a.block := by
        obtain ⟨_, ad', cap', e', _, hg⟩ := hasS_row (L := LI) hrow
        simp only [Value.slice.injEq, true_and] at e'
        obtain ⟨rfl, rfl⟩ := e'
        exact hg
      have hord := HR.out.ord
      have hret : Ending.returned (.tuple #[.slice oa out.length oc, .agg #[.int .i64 (ins : Nat), .int .i64 (pn : Nat), .int .i64 l.mv, .int .i64 l.cp, .int .i64 (dep : Nat), .int .i64 (mx : Nat)]]) = Ending.returned (.tuple #[.slice oa out.length oc, .agg (metV (ins : Nat) (out.length : Nat) sl.mv sl.cp (dep : Nat) (mx : Nat))]) := by rw [← HR.out.eq, HPN.out]; rfl
      have hfin : RanW w (R k) (.returned (.tuple #[.slice oa out.length oc, .agg #[.int .i64 (ins : Nat), .int .i64 (pn : Nat), .int .i64 l.mv, .int .i64 l.cp, .int .i64 (dep : Nat), .int .i64 (mx : Nat)]])) W9 := HFIN.out (.returned (.tuple #[.slice oa out.length oc, .agg #[.int .i64 (ins : Nat), .int .i64 (pn : Nat), .int .i64 l.mv, .int .i64 l.cp, .int .i64 (dep : Nat), .int .i64 (mx : Nat)]])) W9 ⟨oa, oc, hret, (hasS_own hrow).2, hge, ((HR.out.upd.new HU7.out (by omega)).new hU5 (by omega)).thn hd⟩
      clear n1 n3 hrow hge hord hret y0 y1 y2 y3 y4 y5 z0 z1 z2 z3 z4 z5 hU5 p2
      go_wp2_with fail
      exact bodyPost_ret (v := .tuple #[.slice oa out.length oc, .agg #[.int .i64 (ins : Nat), .int .i64 (pn : Nat), .int .i64 l.mv, .int .i64 l.cp, .int .i64 (dep : Nat), .int .i64 (mx : Nat)]]) (by simp [results, Tryz.results7, go_sem, r0, r1, r2, r3, r4, r5]) rfl hfin
end Go.Proofs.YtpabapjodcafkaaGreat
