
/- Contract: the program's Run of layer 9. -/
import Derived.Test.YtpabapjodcafkaaGreatYQ
namespace Go.Proofs.YtpabapjodcafkaaGreat
open Go.RowKit Go.Lib

theorem PendR.ne2 {b0 P : Nat} {w : World} {l : List It} {ad : Option Addr} {cap : Nat} {c : Array Value} {t : TypeId} {f : Nat × Nat} (h : PendR b0 w l ad cap) (hb : w.heap[P]? = some (.cells c t f)) (ht : t ≠ 38) : ∀ x ∈ blkA ad cap, x ≠ P := fun x hx e => by
  obtain ⟨_, _, cs, hc⟩ := h.lt x hx
  rw [e, hb] at hc
  have h2 := congrArg (fun o : Option Obj => match o with | some (.cells _ t _) => t | _ => 0) hc
  simp only at h2
  exact ht h2
/-- What Run keeps while execute runs. -/
structure RunI (w : World) (H P : Nat) (s : Sw) (wr : World) : Prop where
  run : ∃ l oa oc, RunP w.heap.size P s.l s.out s.ins s.dep s.mx wr l oa oc
  res : wr.heap[H]? = some (.cells #[.int .i64 0, .int .i64 0, .int .i64 0, .int .i64 0, .int .i64 0, .int .i64 0] 28 (0, 0))
  upd : Upd [] w wr
  ord : w.heap.size ≤ H ∧ H < P
theorem RunI.stay {w : World} {H P : Nat} {s : Sw} {a b : World} (h : RunI w H P s a) (hu : Upd [] a b) : RunI w H P s b := by
  obtain ⟨l, oa, oc, h1⟩ := h.run
  exact ⟨⟨l, oa, oc, h1.stay hu⟩, hu.at h.res (by simp), h.upd.thn hu, h.ord⟩
theorem runI_ins {w : World} {H P k : Nat} {s : Sw} {W : World} {t : Int} (h : RunI w H P s W) (hok : OkW k s) (hok2 : OkW (k + 1) (stepW s k ⟨false, t⟩)) (hk : k + 1 ≤ 2000) :
    Calls Tryz.prog 17 #[.pointer (some ⟨P, 0, none⟩), .agg #[.int .i64 t, .int .i64 (k : Nat), .int .i64 0]] W fun e b => e = .returned (.tuple #[]) ∧ RunI w H P (stepW s k ⟨false, t⟩) b ∧ MapsKept W b := by
  obtain ⟨l, oa, oc, h1⟩ := h.run
  have hf := hok.fitP (by omega) h1.eq
  refine (lrInsert_has w.heap.size P s.l (insertL s.l ⟨t, (k : Nat), 0⟩) s.out s.ins s.dep s.mx l oa oc ⟨t, (k : Nat), 0⟩ W h1 hf.1 hf.2 (by rw [h1.eq]; exact hok.reach.fresh _ rfl) rfl (fun l2 e => (hok2.fitP hk (l := l2) e).1) (by have := hok.ik; omega)).mono ?_
  rintro e b ⟨rfl, l2, h2, hu⟩
  have hH := h.ord
  refine ⟨rfl, ⟨⟨l2, oa, oc, h2⟩, hu.at h.res (by simp; omega), h.upd.new hu (by omega), h.ord⟩, mapsKept_of hu (fun x hx => ?_)⟩
  obtain rfl : x = P := by simpa using hx
  exact ⟨_, _, _, h1.box⟩
theorem runI_del {w : World} {H P k : Nat} {s : Sw} {W : World} {t : Int} (h : RunI w H P s W) (hok : OkW k s) (hok2 : OkW (k + 1) (stepW s k ⟨true, t⟩)) (hk : k + 1 ≤ 2000) :
    Calls Tryz.prog 18 #[.pointer (some ⟨P, 0, none⟩), .agg #[.int .i64 t, .int .i64 (k : Nat), .int .i64 0]] W fun e b => e = .returned (.tuple #[]) ∧ RunI w H P (stepW s k ⟨true, t⟩) b ∧ MapsKept W b := by
  obtain ⟨l, oa, oc, h1⟩ := h.run
  have hf := hok.fitP (by omega) h1.eq
  refine (lrRemove_has w.heap.size P s.l (popL s.l).1 (popL s.l).2.1 (popL s.l).2.2 s.out s.ins s.dep s.mx l oa oc ⟨t, (k : Nat), 0⟩ W h1 hf.1 rfl (fun l2 e => (hok2.fitP hk (l := l2) e).1) (by have h3 := hok.cnt; have h4 := hok.ik; omega) h.upd.size).mono ?_
  rintro e b ⟨rfl, l2, oa2, oc2, h2, hu⟩
  have hH := h.ord
  refine ⟨rfl, ⟨⟨l2, oa2, oc2, h2⟩, hu.at h.res ?_, h.upd.trans hu ?_, h.ord⟩, mapsKept_of hu (fun x hx => ?_)⟩
  · intro hm
    rcases List.mem_cons.1 hm with e | hm
    · omega
    · exact h1.o.ne2 h.res (by decide) H hm rfl
  · intro x hx hlt
    rcases List.mem_cons.1 hx with e | hx
    · omega
    · have := (h1.o.lt x hx).1; omega
  · rcases List.mem_cons.1 hx with rfl | hx
    · exact ⟨_, _, _, h1.box⟩
    · obtain ⟨_, _, cs, hc⟩ := h1.o.lt x hx
      exact ⟨_, _, _, hc⟩
theorem runI_doer {w : World} {H P : Nat} {la : Option Addr} {os : List Wo} (ho : Row LW w la os) (hl : os.length ≤ 1000) (hb : ∀ o ∈ os, 0 ≤ o.t ∧ o.t ≤ MaxT) :
    Doer os la 17 18 P (fun k wr => RunI w H P (runW os k) wr) where
  stay := fun h hu => h.stay hu
  row := fun h => ho.stay h.upd
  e1 := enters_of Tryz.func17 (by kernel_rfl) rfl
  e2 := enters_of Tryz.func18 (by kernel_rfl) rfl
  ins := fun k h a hi hp => by
    have h1 := okW os hb k
    have h2 := okW os hb (k + 1)
    rw [runW_succ h] at h2 ⊢
    generalize runW os k = s at *
    obtain ⟨⟨p, t⟩, hx⟩ : ∃ x, x = os[k] := ⟨_, rfl⟩
    rw [← hx] at hp h2 ⊢
    simp only at hp
    subst hp
    exact runI_ins hi h1 h2 (by omega)
  del := fun k h a hi hp => by
    have h1 := okW os hb k
    have h2 := okW os hb (k + 1)
    rw [runW_succ h] at h2 ⊢
    generalize runW os k = s at *
    obtain ⟨⟨p, t⟩, hx⟩ : ∃ x, x = os[k] := ⟨_, rfl⟩
    rw [← hx] at hp h2 ⊢
    simp only at hp
    subst hp
    exact runI_del hi h1 h2 (by omega)
/-- What Run answers. -/
def RanP (w : World) (s : Sw) (e : Ending) (w' : World) : Prop := ∃ oa oc, e = .returned (.tuple #[.slice oa s.out.length oc, .agg #[.int .i64 (s.ins : Nat), .int .i64 (s.out.length : Nat), .int .i64 s.l.mv, .int .i64 s.l.cp, .int .i64 (s.dep : Nat), .int .i64 (s.mx : Nat)]]) ∧ HasS LI w' ⟨s.out, oa, oc⟩ ∧ (∀ a, oa = some a → w.heap.size ≤ a.block) ∧ Upd [] w w'
set_option maxRecDepth 100000 in
set_option maxHeartbeats 8000000 in
theorem PRun_has (la : Option Addr) (lc : Nat) (os : List Wo) (w : World) (ho : Row LW w la os) (hl : os.length ≤ 1000) (hb : ∀ o ∈ os, 0 ≤ o.t ∧ o.t ≤ MaxT) :
    Calls Tryz.prog 6 #[.slice la os.length lc] w (RanP w (runW os os.length)) := by
  have HEX : Hid (∀ H P W, RunI w H P (runW os 0) W → Calls Tryz.prog 16 #[.slice la os.length lc, .func (.func 17) #[.pointer (some ⟨P, 0, none⟩)] #[], .func (.func 18) #[.pointer (some ⟨P, 0, none⟩)] #[]] W fun e w' => e = .returned (.tuple #[]) ∧ RunI w H P (runW os os.length) w') := fun H P W h0 =>
    execute_has la lc os _ _ P (fun k wr => RunI w H P (runW os k) wr) (runI_doer ho hl hb) W h0 (by omega)
  have HZ : Hid (runW os 0 = ⟨newL, [], 0, 0, 0⟩) := rfl
  generalize runW os os.length = s at *
  generalize runW os 0 = s0 at *
  generalize os.length = n at *
  clear ho hl hb
  go_enter Tryz.func6, Tryz.ntmps6
  go_upto_region 1 with (fail)
  have b0 := heap_alloc1 w (.cells #[.int .i64 0, .int .i64 0, .int .i64 0, .int .i64 0, .int .i64 0, .int .i64 0] 28)
  have hu0 := (Upd.refl [] w).alloc (.cells #[.int .i64 0, .int .i64 0, .int .i64 0, .int .i64 0, .int .i64 0, .int .i64 0] 28)
  have hs0 : (w.alloc (.cells #[.int .i64 0, .int .i64 0, .int .i64 0, .int .i64 0, .int .i64 0, .int .i64 0] 28)).heap.size = w.heap.size + 1 := by simp
  generalize w.alloc (.cells #[.int .i64 0, .int .i64 0, .int .i64 0, .int .i64 0, .int .i64 0, .int .i64 0] 28) = W at *
  generalize hH : w.heap.size = H at *
  have HU0 := Lib.hid hu0; have HB0 := Lib.hid b0; have HH := Lib.hid hH; have HS0 := Lib.hid hs0
  clear hu0 b0 hH hs0
  go_upto_region 2 with (go_at_call 15; (with_reducible refine (LNew_has _).mono ?_); rintro e w1 ⟨l1, rfl, hN⟩; unfold encD cellsD)
  have b1 := heap_alloc1 w1 (.cells #[.int .i64 0, .int .i64 0, .int .i64 0, .int .i64 0, .int .i64 0, .int .i64 0, .int .i64 l1.ts, .slice l1.top.ad l1.top.l.length l1.top.cap, .slice l1.rs.ad l1.rs.l.length l1.rs.cap, .slice l1.bot.ad l1.bot.l.length l1.bot.cap, .int .i64 l1.mv, .int .i64 l1.cp, .slice none 0 0] 45)
  have hu1 := (Upd.refl [] w1).alloc (.cells #[.int .i64 0, .int .i64 0, .int .i64 0, .int .i64 0, .int .i64 0, .int .i64 0, .int .i64 l1.ts, .slice l1.top.ad l1.top.l.length l1.top.cap, .slice l1.rs.ad l1.rs.l.length l1.rs.cap, .slice l1.bot.ad l1.bot.l.length l1.bot.cap, .int .i64 l1.mv, .int .i64 l1.cp, .slice none 0 0] 45)
  generalize w1.alloc (.cells #[.int .i64 0, .int .i64 0, .int .i64 0, .int .i64 0, .int .i64 0, .int .i64 0, .int .i64 l1.ts, .slice l1.top.ad l1.top.l.length l1.top.cap, .slice l1.rs.ad l1.rs.l.length l1.rs.cap, .slice l1.bot.ad l1.bot.l.length l1.bot.cap, .int .i64 l1.mv, .int .i64 l1.cp, .slice none 0 0] 45) = W2 at *
  have hsw := hN.upd.size
  have hmv : l1.mv = 0 := by have := congrArg Ld.mv hN.eq; simpa [LdR.ld, newL] using this
  have hcp : l1.cp = 0 := by have := congrArg Ld.cp hN.eq; simpa [LdR.ld, newL] using this
  have HM0 : Hid (RunI w H w1.heap.size s0 W2) := by
    have h1 := HS0.out; have h2 := HH.out
    rw [HZ.out]
    refine ⟨⟨l1, none, 0, hN.eq, ?_, hN.has.stay hu1, hN.has.avoids (Nat.le_refl _), pend_nil _ _, fun x hx => by simp [blkA] at hx⟩, hu1.at (hN.upd.at HB0.out (by simp)) (by simp), (HU0.out.thn hN.upd).thn hu1, ⟨by omega, by omega⟩⟩
    rw [b1, cellsP, hmv, hcp]
    rfl
  have HEX2 := Lib.hid (HEX.out H w1.heap.size W2 HM0.out)
  generalize w1.heap.size = P at *
  clear HB0 HS0 HEX HM0 HU0 b1 hu1 hsw hmv hcp hN
  go_upto_region 3 with (go_at_call 16; (with_reducible refine HEX2.out.mono ?_); rintro e W3 ⟨rfl, hI⟩)
  obtain ⟨l, oa, oc, hR⟩ := hI.run
  have hb := hR.box
  unfold cellsP at hb
  have HB := Lib.hid hb; have HR := Lib.hid hR; have HI := Lib.hid hI
  obtain ⟨c0, c1, c2, c3, c4, c5, c6, c7, c8, c9, c10, c11, c12⟩ := cells13 hb
  obtain ⟨y0, y1, y2, y3, y4, y5⟩ := cells6 hI.res
  obtain ⟨f0, f1, f2, f3, f4, f5⟩ := free6 hI.res
  clear hb hR hI c6 c7 c8 c9 c10 c11 HEX2 HZ
  go_region
  have p2 := stored6 HI.out.res (.int .i64 (s.ins : Nat)) (.int .i64 (s.out.length : Nat)) (.int .i64 l.mv) (.int .i64 l.cp) (.int .i64 (s.dep : Nat)) (.int .i64 (s.mx : Nat))
  have hU5 := upd_set6 W3 H (.int .i64 (s.ins : Nat)) (.int .i64 (s.out.length : Nat)) (.int .i64 l.mv) (.int .i64 l.cp) (.int .i64 (s.dep : Nat)) (.int .i64 (s.mx : Nat))
  with_reducible generalize (((((W3.setCell ⟨H, 0, none⟩ (.int .i64 (s.ins : Nat))).setCell ⟨H, 1, none⟩ (.int .i64 (s.out.length : Nat))).setCell ⟨H, 2, none⟩ (.int .i64 l.mv)).setCell ⟨H, 3, none⟩ (.int .i64 l.cp)).setCell ⟨H, 4, none⟩ (.int .i64 (s.dep : Nat))).setCell ⟨H, 5, none⟩ (.int .i64 (s.mx : Nat)) = W4 at p2 hU5 ⊢
  have hd : Upd [] W4 W4.drew := (Upd.refl [] W4).drew
  generalize W4.drew = W5 at hd ⊢
  obtain ⟨r0, r1, r2, r3, r4, r5⟩ := cells6 (hd.at p2 (by simp))
  have hO : PendR w.heap.size W5 s.out oa oc := (HR.out.o.keep hU5 (fun x hx hm => HR.out.o.ne2 HI.out.res (by decide) x hx (by simpa using hm))).keep hd (by simp)
  have hord := HI.out.ord
  have hmv : l.mv = s.l.mv := by rw [← HR.out.eq]; rfl
  have hcp : l.cp = s.l.cp := by rw [← HR.out.eq]; rfl
  have hfin : RanP w s (.returned (.tuple #[.slice oa s.out.length oc, .agg #[.int .i64 (s.ins : Nat), .int .i64 (s.out.length : Nat), .int .i64 l.mv, .int .i64 l.cp, .int .i64 (s.dep : Nat), .int .i64 (s.mx : Nat)]])) W5 := ⟨oa, oc, by rw [hmv, hcp], hO.has, hO.ge, (HI.out.upd.new hU5 (by omega)).thn hd⟩
  clear hO hord hmv hcp c0 c1 c2 c3 c4 c5 c12 y0 y1 y2 y3 y4 y5 f0 f1 f2 f3 f4 f5 hU5 p2
  go_wp2_with fail
  exact bodyPost_ret (v := .tuple #[.slice oa s.out.length oc, .agg #[.int .i64 (s.ins : Nat), .int .i64 (s.out.length : Nat), .int .i64 l.mv, .int .i64 l.cp, .int .i64 (s.dep : Nat), .int .i64 (s.mx : Nat)]]) (by simp [results, Tryz.results6, go_sem, r0, r1, r2, r3, r4, r5]) rfl hfin
end Go.Proofs.YtpabapjodcafkaaGreat
