
/- StoreHandles: the law's walk. -/
import Derived.Test.YtmfnfinbkdemkaaGreatIS
namespace Go.Proofs.YtmfnfinbkdemkaaGreat
open Go.RowKit Go.Lib
open A5

/-- The handles issued, in a row of the law's own. -/
structure IssR (w : World) (F : List Nat) (W : World) (va : Option Addr) (il vc : Nat) (is : List Int) : Prop where
  row : W.ownsRow w.heap.size 3 1 (.slice va il vc) il (is.map (Value.int .i64))
  nf : ∀ b, (Value.slice va il vc).ownBlock = some b → b ∉ F
theorem IssR.go {w : World} {F F' : List Nat} {W W' : World} {va : Option Addr} {il vc : Nat} {is : List Int} (h : IssR w F W va il vc is) (hg : Goes F F' W W') : IssR w F' W' va il vc is :=
  ⟨hg.1.row h.row h.nf, fun b hb hm => (hg.2 _ hm).elim (h.nf b hb) (fun k => by have := (h.row.lt b hb).2; omega)⟩
theorem IssR.up {w : World} {F : List Nat} {W W' : World} {va : Option Addr} {il vc : Nat} {is : List Int} (h : IssR w F W va il vc is) (hu : Upd [] W W') : IssR w F W' va il vc is :=
  ⟨hu.row h.row (by simp), h.nf⟩
theorem IssR.len {w : World} {F : List Nat} {W : World} {va : Option Addr} {il vc : Nat} {is : List Int} (h : IssR w F W va il vc is) : il = is.length := by
  have := h.row.1
  simp at this
  omega
/-- The row has grown by one. -/
theorem IssR.grown {w : World} {F : List Nat} {W w2 : World} {va : Option Addr} {il vc g cap : Nat} {is : List Int} {y : Int} {O : Obj} {d : At} {s : Sto} {c : Nat} {W0 : World} (h : IssR w F W va il vc is) (hs : StaN F d s hm 0 c W0 W) (hw : ∀ b, (Value.slice va il vc).ownBlock = some b → b < W0.heap.size) (hf : Fre w F W)
    (ho : w2.ownsRow w.heap.size 3 1 (.slice (some ⟨g, 0, none⟩) (il + 1) cap) (il + 1) ((is ++ [y]).map (Value.int .i64))) (hg : (W.alloc O).grownBy w2 (Value.slice va il vc).ownBlock) (hat : (Value.slice va il vc).ownBlock = some g ∨ g = (W.alloc O).heap.size) :
    IssR w F w2 (some ⟨g, 0, none⟩) (il + 1) cap (is ++ [y]) ∧ StaH F d s c w2 ∧ Fre w F w2 := by
  have hu : Upd (Value.slice va il vc).ownBlock.toList W w2 := (((Upd.refl [] W).alloc O).mono (by simp)).grown hg (fun k hk _ => by simp [hk])
  refine ⟨⟨ho, fun b hb hm => ?_⟩, ?_, ⟨hf.upd.trans hu (fun x hx hl => ?_), hf.ge⟩⟩
  · simp only [Value.ownBlock, Option.some.injEq] at hb
    subst hb
    rcases hat with e | e
    · exact h.nf _ e hm
    · have := Sta.lt hs.sta _ hm
      rw [e] at this
      simp at this
      omega
  · cases hob : (Value.slice va il vc).ownBlock with
    | none =>
      rw [hob] at hu
      exact Sta.stay hs.sta (hu.mono (by simp))
    | some b =>
      rw [hob] at hu
      exact hs.cell (b := b) (hu.mono (by simp)) (h.nf b hob) (hw b hob)
  · have := own_ge h.row x (toList_of hx)
    omega
theorem hS_valid {r : Int} (h0 : 0 ≤ r) (h1 : r / 64 ≤ 1000) : slotZ r = (hS r : Int) ∧ genZ r = r / 64 := by
  have hv : validB r = true := A5.validB_yes.2 ⟨h0, by omega⟩
  exact ⟨by rw [slotZ_yes hv, hS_cast], genZ_yes hv⟩

set_option maxRecDepth 100000 in
set_option maxHeartbeats 8000000 in
theorem Handles_any (c : Int) (ad : Option Addr) (cap : Nat) (os : List Oq) (w : World) (hc : 0 ≤ c ∧ c < 256) (hO : Row LO w ad os) (hoo : ∀ o ∈ os, OkO o) :
    Calls Tryz.prog 6 #[.int .u8 c, .slice ad os.length cap] w fun e w' => e = .returned (.bool true) ∧ Upd [] w w' := by
  have HHD := Lib.hid (fun W => head_true W)
  obtain ⟨n, hn⟩ : ∃ n : Nat, (n : Int) = c % 12 + 1 := ⟨(c % 12 + 1).toNat, by omega⟩
  have hn1 : 1 ≤ n := by omega
  have hn2 : n ≤ 12 := by omega
  have HHE := Lib.hid (fun W => Held_has n hn1 (by omega) W)
  obtain ⟨x, hx⟩ : ∃ x, x = c % 12 := ⟨_, rfl⟩
  have hc1 : IntKind.i64.wrap c = c := by rw [IntKind.wrap_i64]; omega
  have hc2 : c.tmod 12 = x := by rw [Int.tmod_eq_emod_of_nonneg hc.1, hx]
  have hc3 : IntKind.i64.wrap (x + 1) = (n : Int) := by rw [IntKind.wrap_i64]; omega
  obtain ⟨m, hm⟩ : ∃ m, m = os.length := ⟨_, rfl⟩
  have HM := Lib.hid hm
  have HO := Lib.hid hO; have HOO := Lib.hid hoo
  rw [← hm]
  clear hO hoo hm hn hx hc
  by_cases hlong : 80 < m
  · have hlz : (80 : Int) < (m : Int) := by omega
    clear hlong
    go_enter Tryz.func6, Tryz.ntmps6
    go_wp2_with fail
    (with_reducible refine (HHD.out _).mono ?_)
    rintro e w1 ⟨rfl, hu1⟩
    have HU1 := Lib.hid hu1
    clear hu1
    go_wp2_with fail
    (with_reducible refine (HHE.out _).mono ?_)
    rintro e w2 ⟨d, rfl, F, hs, hge, hu2⟩
    have HU2 := Lib.hid (HU1.out.thn hu2)
    clear hs hge hu2
    go_wp2_with fail
    go_ret
    exact ⟨rfl, HU2.out⟩
  have hlz : ¬ (80 : Int) < (m : Int) := by omega
  have hm80 : m ≤ 80 := by omega
  clear hlong
  go_enter Tryz.func6, Tryz.ntmps6
  go_wp2_with fail
  (with_reducible refine (HHD.out _).mono ?_)
  rintro e w1 ⟨rfl, hu1⟩
  have HU1 := Lib.hid hu1
  clear hu1
  go_wp2_with fail
  (with_reducible refine (HHE.out _).mono ?_)
  rintro e w2 ⟨d, rfl, F, hs, hge, hu2⟩
  have HS0 : Hid (StaH F d (runS n (os.take 0)) (4 + 3 * 0) w2) := hs
  have HF0 : Hid (Fre w F w2) := ⟨HU1.out.thn hu2, fun x hx => Nat.le_trans HU1.out.size (hge x hx)⟩
  clear hs hge hu2
  go_wp2_with fail
  have HI0 : Hid (IssR w F w2 none 0 0 (issuedS n (os.take 0))) := ⟨World.ownsRow_nil _ _ _ _, fun b hb => by simp [Value.ownBlock] at hb⟩
  go_loopg [8, 9] m (fun gk v8 vi wr => ∃ (k : Nat) (va : Option Addr) (il vc : Nat), vi = .int .i64 k ∧ v8 = .slice va il vc ∧ k + gk = m ∧ ∃ F', Hid (StaH F' d (runS n (os.take k)) (4 + 3 * k) wr) ∧ Hid (Fre w F' wr) ∧ Hid (IssR w F' wr va il vc (issuedS n (os.take k))))
  case atStart => exact ⟨0, none, 0, 0, rfl, rfl, by omega, F, HS0, HF0, HI0⟩
  case round =>
  obtain ⟨k, va, il, vc, rfl, rfl, hkg, F', HS, HF, HI⟩ := hrel
  by_cases hlt : k < m
  case neg =>
    have hltz : ¬ (k : Int) < (m : Int) := by omega
    obtain rfl : k = m := by omega
    go_wp2_with fail
    go_ret
    exact ⟨rfl, HF.out.upd⟩
  have hltz : (k : Int) < (m : Int) := by omega
  have hk1 : k < os.length := by have := HM.out; omega
  have hok := run_okS hn1 (by omega : n ≤ 64) os k (by omega) (by omega)
  have hok1 := run_okS hn1 (by omega : n ≤ 64) os (k + 1) (by omega) (by omega)
  have hoo1 := HOO.out _ (List.getElem_mem hk1)
  have hrun := run_next (n := n) hk1
  have hiss : issuedS n (os.take (k + 1)) = issS (runS n (os.take k)) os[k] (issuedS n (os.take k)) := by rw [List.take_succ_eq_append_getElem hk1, issuedS_snoc]
  obtain ⟨b, off, hbo, x0, x1, x2⟩ := (HO.out.stay HF.out.upd).op k hk1
  subst hbo
  have hrem : os[k].k.tmod 5 = os[k].k % 5 := Int.tmod_eq_emod_of_nonneg hoo1.k0
  by_cases h5 : os[k].k % 5 < 2
  case neg =>
    have hgt : decide (1 < os[k].k % 5) = true := decide_eq_true (by omega)
    have hst := Step_has HS.out hok (by omega) (by omega) hn1 (by omega) os[k] hoo1
    rw [← hrun] at hst
    have hi2 : issuedS n (os.take (k + 1)) = issuedS n (os.take k) := by rw [hiss, issS, if_neg (fun e => h5 e.1)]
    have HI2 := Lib.hid HI.out
    rw [← hi2] at HI2
    have HSTEP := Lib.hid hst
    unfold encO at HSTEP
    obtain ⟨r5, hr5⟩ : ∃ r5, r5 = os[k].k % 5 := ⟨_, rfl⟩
    rw [← hr5] at hrem hgt
    generalize (stepS n (runS n (os.take k)) os[k]).2 = rr at *
    generalize os[k].k = y0 at *
    generalize os[k].t = y1 at *
    generalize os[k].near = y2 at *
    clear hst hok hok1 hoo1 hrun hiss hi2 h5 hr5
    go_wp2_with fail
    (with_reducible refine HSTEP.out.mono ?_)
    rintro e w3 ⟨rfl, F3, hs, hg⟩
    have HS3 : Hid (StaH F3 d (runS n (os.take (k + 1))) (4 + 3 * (k + 1)) w3) := Sta.more hs (by omega)
    have HF3 := Lib.hid (HF.out.go hg)
    have HI3 := Lib.hid (HI2.out.go hg)
    clear hs hg
    go_wp2_with fail
    go_roundg (gk - 1)
    case measure => omega
    case rel => exact ⟨k + 1, va, il, vc, by go_num, rfl, by omega, F3, HS3, HF3, HI3⟩
  have hgt : decide (1 < os[k].k % 5) = false := decide_eq_false (by omega)
  have hrd := hok.rdy (c := 4 + 3 * k) (by omega)
  have hlen1 := hok.reach.good.len1
  have hid1 : (runS n (os.take k)).a.id.length ≤ 1000 := by have := hok.reach.good.count; omega
  have HAR := Lib.hid (VArena HS.out hrd)
  have HLV := Lib.hid (fun (g : ArR) W (hg : g.ar = (runS n (os.take k)).a) (hh : HasA W g) => Live_has g W hh (by rw [hg]; omega))
  obtain ⟨hh1, hh2⟩ := step_handle hok (by omega) h5
  by_cases he : (runS n (os.take k)).a.id = []
  case pos =>
    have hm1 : (stepS n (runS n (os.take k)) os[k]).2 = -1 := by rw [stepS_full h5 he]
    have hlv := hh1.1 hm1
    have HST : Hid (∀ W, Upd [] wr W → Calls Tryz.prog 9 #[.pointer (some ⟨d.p, 0, none⟩), .agg #[.int .u8 os[k].k, .int .u64 os[k].t, .bool os[k].near], .int .i64 n] W (Stepd F' d (runS n (os.take (k + 1))) (4 + 3 * k + 3) (-1) W)) := fun W hu => by
      have := Step_has (Sta.stay HS.out hu) hok (by omega) (by omega) hn1 (by omega) os[k] hoo1
      rw [hm1, ← hrun] at this; exact this
    have hi2 : issuedS n (os.take (k + 1)) = issuedS n (os.take k) := by rw [hiss, issS, if_neg (fun e => e.2 he)]
    have HI2 := Lib.hid HI.out
    rw [← hi2] at HI2
    have HLL : Hid (liveL (runS n (os.take k)).a.sl = n) := hlv
    clear hok hok1 hrun hiss hi2 hh1 hh2 hm1 hlv hrd hid1 hlen1 he
    obtain ⟨r5, hr5⟩ : ∃ r5, r5 = os[k].k % 5 := ⟨_, rfl⟩
    rw [← hr5] at hrem hgt
    clear hr5 h5 hoo1
    generalize os[k].k = y0 at *
    generalize os[k].t = y1 at *
    generalize os[k].near = y2 at *
    go_wp2_with fail
    (with_reducible refine HAR.out.mono ?_)
    rintro e w3 ⟨g, rfl, hga, hha, -, hu3⟩
    have HL3 := Lib.hid (HLV.out g w3 hga hha)
    rw [hga, HLL.out] at HL3
    have x0 := hu3.cell x0 (by simp); have x1 := hu3.cell x1 (by simp); have x2 := hu3.cell x2 (by simp)
    have HU3 := Lib.hid hu3
    clear hga hha hu3
    go_wp2_with fail
    (with_reducible refine HL3.out.mono ?_)
    rintro e w4 ⟨rfl, hgr⟩
    have hu4 := hgr.upd
    have x0 := hu4.cell x0 (by simp); have x1 := hu4.cell x1 (by simp); have x2 := hu4.cell x2 (by simp)
    have HU4 := Lib.hid (HU3.out.thn hu4)
    clear hgr hu4
    have HST4 := Lib.hid (HST.out _ HU4.out)
    go_wp2_with fail
    (with_reducible refine HST4.out.mono ?_)
    rintro e w5 ⟨rfl, F5, hs, hg⟩
    have HS5 : Hid (StaH F5 d (runS n (os.take (k + 1))) (4 + 3 * (k + 1)) w5) := Sta.more hs (by omega)
    have HF5 := Lib.hid ((HF.out.up HU4.out).go hg)
    have HI5 := Lib.hid ((HI2.out.up HU4.out).go hg)
    clear hs hg
    go_wp2_with fail
    go_roundg (gk - 1)
    case measure => omega
    case rel => exact ⟨k + 1, va, il, vc, by go_num, rfl, by omega, F5, HS5, HF5, HI5⟩
  case neg =>
    have hro := hok.room (by omega : k ≤ 1000000) he
    have hr0 : 0 ≤ (stepS n (runS n (os.take k)) os[k]).2 := by rw [stepS_put h5 he]; exact (takeH_hnd hok.reach.good hro).1.1
    have hne1 : (stepS n (runS n (os.take k)) os[k]).2 ≠ -1 := by omega
    obtain ⟨hfresh, hiss2, hsn, hs1, hsg, -⟩ := hh2 hne1
    have hLn : liveL (runS n (os.take k)).a.sl ≠ n := fun e => hne1 (hh1.2 e)
    rw [hiss2] at hiss
    rw [← hrun] at hs1 hsg
    obtain ⟨r, hr⟩ : ∃ r, r = (stepS n (runS n (os.take k)) os[k]).2 := ⟨_, rfl⟩
    rw [← hr] at hr0 hne1 hfresh hsn hs1 hsg hiss
    have HST : Hid (∀ W, Upd [] wr W → Calls Tryz.prog 9 #[.pointer (some ⟨d.p, 0, none⟩), .agg #[.int .u8 os[k].k, .int .u64 os[k].t, .bool os[k].near], .int .i64 n] W (StepdN F' d (runS n (os.take (k + 1))) (4 + 3 * k + 3) r W)) := fun W hu => by
      have := Step_room (Sta.stay HS.out hu) hok (by omega) (by omega) hn1 (by omega) os[k] hoo1 h5 he
      rw [← hr, ← hrun] at this; exact this
    have hsl1 : hS r < (runS n (os.take (k + 1))).a.sl.length := by have := hok1.reach.len; omega
    have hgen := hok1.gen _ hsl1
    rw [hsg] at hgen
    obtain ⟨hz1, hz2⟩ := hS_valid hr0 (by omega)
    have hrd1 : Rdy (runS n (os.take (k + 1))) hm 0 (4 + 3 * (k + 1)) := hok1.rdy (by omega)
    have HWD := Lib.hid (fun F W (h : StaH F d (runS n (os.take (k + 1))) (4 + 3 * (k + 1)) W) => VWord h hrd1 (hS r) hsl1 ((hS r : Int) + 1) (by omega))
    have hwd : wordS (slAt (runS n (os.take (k + 1))).a.sl (hS r)) = 4 * (r / 64) + 1 := by unfold wordS; rw [hs1, hsg]
    rw [hwd] at HWD
    have HSL := Lib.hid (fun W => RSlot_any r W)
    have HGN := Lib.hid (fun W => RGeneration_any r W)
    rw [hz1] at HSL
    rw [hz2] at HGN
    have HRW := Lib.hid (fun W => A4.RWord_in (r / 64) 1 ⟨by omega, by omega⟩ (by decide) W)
    have hw1 : IntKind.i64.wrap (1 + (hS r : Int)) = (hS r : Int) + 1 := by rw [IntKind.wrap_i64]; omega
    have hg0 : decide ((hS r : Int) < 0) = false := decide_eq_false (by omega)
    have hg1 : decide ((n : Int) ≤ (hS r : Int)) = false := decide_eq_false (by omega)
    have hg2 : decide (n ≤ hS r) = false := decide_eq_false (by omega)
    have hb1 : (r == -1) = false := by simpa using hne1
    have hilk := hok.reach.isl
    have hil := HI.out.len
    have HFR : Hid (∀ (j : Nat) (hj : j < (issuedS n (os.take k)).length), ((issuedS n (os.take k))[j] == r) = false) := fun j hj => by
      have : (issuedS n (os.take k))[j] ≠ r := fun e => hfresh (e ▸ List.getElem_mem hj)
      simpa using this
    have HISS := Lib.hid hiss
    have HLN : Hid (liveL (runS n (os.take k)).a.sl ≠ n) := hLn
    have HLQ : Hid (∀ g : ArR, g.ar = (runS n (os.take k)).a → liveL g.ar.sl = liveL (runS n (os.take k)).a.sl) := fun g e => by rw [e]
    generalize liveL (runS n (os.take k)).a.sl = lv at *
    have hb2 : ((lv : Int) == (n : Int)) = false := by have := HLN.out; simp; omega
    have hb3 : (lv == n) = false := by have := HLN.out; simpa using this
    generalize issuedS n (os.take k) = is at *
    obtain ⟨s2, hs2e⟩ : ∃ s2, s2 = runS n (os.take (k + 1)) := ⟨_, rfl⟩
    rw [← hs2e] at HST HWD
    have HSQ := Lib.hid hs2e
    generalize hS r = xs at *
    generalize r / 64 = rg at *
    have HIL := Lib.hid hil
    clear hok hok1 hrun hiss hh1 hh2 hrd hid1 hlen1 he hro hr0 hne1 hfresh hiss2 hsn hs1 hsg hLn hr hsl1 hgen hz1 hz2 hrd1 hwd hil HLN hs2e
    obtain ⟨r5, hr5⟩ : ∃ r5, r5 = os[k].k % 5 := ⟨_, rfl⟩
    rw [← hr5] at hrem hgt
    clear hr5 h5 hoo1
    generalize os[k].k = y0 at *
    generalize os[k].t = y1 at *
    generalize os[k].near = y2 at *
    go_wp2_with fail
    (with_reducible refine HAR.out.mono ?_)
    rintro e w3 ⟨g, rfl, hga, hha, -, hu3⟩
    have HL3 := Lib.hid (HLV.out g w3 hga hha)
    have x0 := hu3.cell x0 (by simp); have x1 := hu3.cell x1 (by simp); have x2 := hu3.cell x2 (by simp)
    have HU3 := Lib.hid hu3
    rw [HLQ.out g hga] at HL3
    clear hga hha hu3
    go_wp2_with fail
    (with_reducible refine HL3.out.mono ?_)
    rintro e w4 ⟨rfl, hgr⟩
    have hu4 := hgr.upd
    have x0 := hu4.cell x0 (by simp); have x1 := hu4.cell x1 (by simp); have x2 := hu4.cell x2 (by simp)
    have HU4 := Lib.hid (HU3.out.thn hu4)
    clear hgr hu4
    have HST4 := Lib.hid (HST.out _ HU4.out)
    go_wp2_with fail
    (with_reducible refine HST4.out.mono ?_)
    rintro e w5 ⟨rfl, F5, hs, hg⟩
    have HS5 : Hid (StaN F5 d s2 hm 0 (4 + 3 * (k + 1)) w4 w5) := StaN.more hs (by omega) (Nat.le_refl _)
    have HF5 := Lib.hid ((HF.out.up HU4.out).go hg)
    have HI5 := Lib.hid ((HI.out.up HU4.out).go hg)
    have HB5 : Hid (∀ b, (Value.slice va il vc).ownBlock = some b → b < w4.heap.size) := fun b hb => ((HI.out.up HU4.out).row.lt b hb).2
    clear hs hg x0 x1 x2
    go_wp2_with fail
    generalize k = kk at *
    go_loopg [12] il (fun gj vj wr => ∃ j : Nat, vj = .int .i64 j ∧ j + gj = il ∧ w5 = wr)
    case atStart => exact ⟨0, rfl, by omega, rfl⟩
    case round =>
    obtain ⟨j, rfl, hjg, rfl⟩ := hrel
    by_cases hjl : j < il
    · have hjz : (j : Int) < (il : Int) := by omega
      have hj1 : j < is.length := by have := HIL.out; omega
      obtain ⟨g, cap, ev, -, hcell⟩ := own_cells HI5.out.row (by omega)
      simp only [Value.slice.injEq, true_and] at ev
      obtain ⟨rfl, rfl⟩ := ev
      have cj := hcell j (.int .i64 is[j]) (by simp [hj1])
      have hfj := HFR.out j hj1
      generalize is[j] = z at *
      clear hcell
      go_wp2_with fail
      go_roundg (il - (j + 1))
      case measure => omega
      case rel => exact ⟨j + 1, by go_num, by omega, rfl⟩
    have hjz : ¬ (j : Int) < (il : Int) := by omega
    obtain rfl : j = il := by omega
    have hbase : w.heap.size ≤ w5.heap.size := HF5.out.upd.size
    have hjk : j ≤ 1000000 := by have := HIL.out; omega
    go_upto_region 23 with (at_builtin; refine app_int rfl _ _ rfl w.heap.size (.slice va j vc) j is rfl (by exact HI5.out.row.alloc _) w5.heap.size r rfl (heap_alloc1 _ _) hjk (by simp; omega) ?_; intro g cap w6 hown hgrow hat hlt; go_loud (obtain ⟨hi6, hs6, hf6⟩ := HI5.out.grown HS5.out HB5.out HF5.out hown hgrow hat; have HI6 := Lib.hid hi6; have HS6 := Lib.hid hs6; have HF6 := Lib.hid hf6; clear hown hgrow hat hlt hi6 hs6 hf6))
    have HM6 := Lib.hid (VMemory HS6.out)
    have HW6 := Lib.hid (HWD.out _ _ HS6.out)
    go_wp2_with fail
    (with_reducible refine (HSL.out _).mono ?_)
    rintro e w' ⟨rfl, rfl⟩
    go_wp2_with fail
    (with_reducible refine HM6.out.mono ?_)
    rintro e w' ⟨rfl, rfl⟩
    go_wp2_with fail
    (with_reducible refine HW6.out.mono ?_)
    rintro e w' ⟨rfl, rfl⟩
    go_wp2_with fail
    (with_reducible refine (HGN.out _).mono ?_)
    rintro e w' ⟨rfl, rfl⟩
    go_wp2_with fail
    (with_reducible refine (HRW.out _).mono ?_)
    rintro e w' ⟨rfl, rfl⟩
    go_wp2_with fail
    go_roundg (m - (kk + 1))
    case measure => omega
    case rel => exact ⟨kk + 1, _, _, _, by go_num, rfl, by omega, F5, by rw [← HSQ.out]; exact HS6, HF6, by rw [HISS.out]; exact HI6⟩
end Go.Proofs.YtmfnfinbkdemkaaGreat
