/- Contract: the program's items. -/
/- Contract: the store's Items. -/
import Derived.Test.YtmfnfinbkdemkaaGreatLE
import Derived.Test.YtmfnfinbkdemkaaGreatIK
import Derived.Shelf.SlSortCmp.NoneTotal
namespace Go.Proofs.YtmfnfinbkdemkaaGreat
open Go.RowKit Go.Lib

def itemsTo (l : LdR) (k : Nat) : List It := l.top.l ++ l.bot.l ++ itsRs ((l.rs.l.map RgR.rg).take k)
theorem itemsTo_succ {l : LdR} {k : Nat} (h : k < l.rs.l.length) : itemsTo l (k + 1) = itemsTo l k ++ (rowsOf (l.rs.l[k]).bk.l).flatten := by
  unfold itemsTo
  rw [List.take_succ_eq_append_getElem (by simpa using h), itsRs_append]
  simp [itsRs, itsR, RgR.rg]
theorem itemsTo_le (l : LdR) (k : Nat) : (itemsTo l k).length ≤ (itemsL l.ld).length := by
  unfold itemsTo itemsL itsRs
  simp only [List.length_append, LdR.ld, List.length_flatten]
  have : ((((l.rs.l.map RgR.rg).take k).map itsR).map List.length).sum ≤ (((l.rs.l.map RgR.rg).map itsR).map List.length).sum := by
    conv => rhs; rw [← List.take_append_drop k (l.rs.l.map RgR.rg)]
    rw [List.map_append, List.map_append, List.sum_append]
    omega
  omega
theorem itemsTo_all (l : LdR) : itemsTo l l.rs.l.length = itemsL l.ld := by
  unfold itemsTo itemsL
  rw [List.take_of_length_le (by simp)]
  rfl
theorem itemsTo_zero (l : LdR) : itemsTo l 0 = l.top.l ++ l.bot.l := by simp [itemsTo, itsRs]
end Go.Proofs.YtmfnfinbkdemkaaGreat
namespace Go.Proofs.YtmfnfinbkdemkaaGreat
open Go.RowKit Go.Lib Go.Sort
open A5

/-- A row of the call's own is sorted. -/
theorem sort_own (b0 : Nat) (va : Option Addr) (vc n : Nat) (l : List It) (w : World) (hn : n = l.length) (ho : w.ownsRow b0 36 3 (.slice va n vc) n (LI.flat l)) (hl : l.length ≤ 100000) (hd : DistI l) :
    Calls Tryz.prog 48 #[.slice va n vc, .func (.func 49) #[] #[]] w fun e w' => e = .returned (.tuple #[]) ∧ HasS LI w' ⟨sortI l, va, vc⟩ ∧ (∀ a, va = some a → b0 ≤ a.block) ∧ Upd (Value.slice va n vc).ownBlock.toList w w' := by
  by_cases h0 : 0 < n
  · obtain ⟨_, g, cap, ev, hbg, hh⟩ := held_row (L := LI) ho h0
    simp only [Value.slice.injEq] at ev
    obtain ⟨rfl, _, rfl⟩ := ev
    subst hn
    refine (SortFunc_has g vc l w (by omega) hh).mono ?_
    rintro e w' ⟨rfl, l', h1, h2, h3, h4⟩
    have e : l' = sortI l := sortI_unique (strict_of h2 (hd.perm h1.symm)) h1 |>.symm
    rw [← e]
    exact ⟨rfl, h3, fun a ha => by rw [← Option.some.inj ha]; exact hbg, h4⟩
  · obtain rfl : n = 0 := by omega
    obtain rfl : l = [] := List.eq_nil_of_length_eq_zero hn.symm
    refine (AnyF.slices_SortFunc_none sortLays va vc _ w).mono ?_
    rintro e w' ⟨rfl, rfl⟩
    obtain ⟨_, ad, cap, ev, hh, hb⟩ := hasS_row (L := LI) ho
    simp only [Value.slice.injEq] at ev
    obtain ⟨rfl, _, rfl⟩ := ev
    exact ⟨rfl, hh, hb, Upd.refl _ _⟩
def GivesI (l : List It) (w : World) (e : Ending) (w' : World) : Prop := ∃ va vc, e = .returned (.slice va l.length vc) ∧ HasS LI w' ⟨l, va, vc⟩ ∧ (∀ a, va = some a → w.heap.size ≤ a.block) ∧ Upd [] w w'
set_option maxRecDepth 100000 in
set_option maxHeartbeats 4000000 in
theorem SItems_has {F : List Nat} {d : At} {r : Rw} {w : World} (hin : InR F d r w) (hf : FitQ r.q) :
    Calls Tryz.prog 16 #[.pointer (some ⟨d.p, 0, none⟩)] w (GivesI (sortI (itemsL r.q)) w) := by
  have HC := Lib.hid (orNone_in d.p)
  obtain ⟨FM, iv, l, rfl, h1⟩ := hin
  have h := h1.has
  have hld : l.ld = r.q := h1.eq
  have hfit := hf.fit hld
  have hsz := hfit.sizes
  have hl : l.rs.l.length ≤ 1000 := by omega
  have hb : ∀ r ∈ l.rs.l, r.bk.l.length ≤ 1000 := fun r hr => by rw [hfit.h8 r hr]; decide
  have hs : (itemsL l.ld).length ≤ 100000 := by rw [← lenD_its]; exact hfit.len
  have hdist : DistI (itemsL l.ld) := hfit.good.dist
  have hbx := h1.box
  unfold cellsT at hbx
  obtain ⟨-, -, -, -, k4, k5, k6, k7, k8, k9⟩ := cells10 hbx
  rw [← hld]
  clear h1 hld hfit hsz hbx
  have HD := Lib.hid h
  have HB := Lib.hid hb
  have HSU : Hid (∀ k (hk : k < l.rs.l.length), itemsTo l (k + 1) = itemsTo l k ++ (rowsOf (l.rs.l[k]).bk.l).flatten) := fun k hk => itemsTo_succ hk
  have HLE : Hid (∀ k, (itemsTo l k).length ≤ 100000) := fun k => Nat.le_trans (itemsTo_le l k) hs
  have HZ : Hid (itemsTo l 0 = l.top.l ++ l.bot.l) := itemsTo_zero l
  have HZL : Hid (lenL (rowsOf [l.top, l.bot]) = (itemsTo l 0).length ∧ (rowsOf [l.top, l.bot]).flatten = itemsTo l 0) := by rw [HZ.out]; exact ⟨by simp [lenL, rowsOf], by simp [rowsOf]⟩
  have HCN : Hid (∀ W b, Upd [] w W → W.heap[b]? = some (.cells #[.slice l.top.ad l.top.l.length l.top.cap, .slice l.bot.ad l.bot.l.length l.bot.cap] 47 (0, 0)) → Calls Tryz.prog 47 #[.slice (some ⟨b, 0, none⟩) 2 2] W fun e w' => ∃ va vc, e = .returned (.slice va (itemsTo l 0).length vc) ∧ w'.ownsRow W.heap.size 36 3 (.slice va (itemsTo l 0).length vc) (itemsTo l 0).length (LI.flat (itemsTo l 0)) ∧ Upd [] W w') := fun W b hu hbk => by
    have := Concat_has [l.top, l.bot] (some ⟨b, 0, none⟩) 2 W (by
      intro j hj
      refine ⟨b, 0, rfl, fun t u hu2 => ?_⟩
      have ht : t = 0 := by have := LB.lt hu2; have h1 : LB.k = 1 := rfl; omega
      subst ht
      rw [cell_block hbk]
      have hj2 : j = 0 ∨ j = 1 := by simp at hj; omega
      rcases hj2 with rfl | rfl
      · simpa [LB] using hu2
      · simpa [LB] using hu2) (by
      intro s hs2
      rcases List.mem_cons.1 hs2 with rfl | hs2
      · exact (h.stay hu).top
      · obtain rfl : s = l.bot := by simpa using hs2
        exact (h.stay hu).bot) (by simp) (by rw [HZL.out.1]; exact HLE.out 0)
    rw [HZL.out.1, HZL.out.2] at this
    exact this
  have HCR : Hid (∀ k (hk : k < l.rs.l.length) W, Upd [] w W → Calls Tryz.prog 47 #[.slice (l.rs.l[k]).bk.ad (l.rs.l[k]).bk.l.length (l.rs.l[k]).bk.cap] W fun e w' => ∃ va vc, e = .returned (.slice va (rowsOf (l.rs.l[k]).bk.l).flatten.length vc) ∧ w'.ownsRow W.heap.size 36 3 (.slice va (rowsOf (l.rs.l[k]).bk.l).flatten.length vc) (rowsOf (l.rs.l[k]).bk.l).flatten.length (LI.flat (rowsOf (l.rs.l[k]).bk.l).flatten) ∧ Upd [] W w') := fun k hk W hu => by
    have hr := (h.stay hu).rg _ (List.getElem_mem hk)
    have e : lenL (rowsOf (l.rs.l[k]).bk.l) = (rowsOf (l.rs.l[k]).bk.l).flatten.length := by simp [lenL, List.length_flatten]
    have hle : lenL (rowsOf (l.rs.l[k]).bk.l) ≤ 100000 := by
      have h1 := HLE.out (k + 1)
      rw [HSU.out k hk, List.length_append] at h1
      omega
    have := Concat_has (l.rs.l[k]).bk.l (l.rs.l[k]).bk.ad (l.rs.l[k]).bk.cap W hr.bk.row hr.its (HB.out _ (List.getElem_mem hk)) hle
    rw [e] at this
    exact this
  rw [← itemsTo_all] at hdist ⊢
  have HDI := Lib.hid hdist
  obtain ⟨n, hn⟩ : ∃ n, n = l.rs.l.length := ⟨_, rfl⟩
  have HN := Lib.hid hn
  rw [← hn] at hl k6 HDI ⊢
  have HSORT := Lib.hid (fun b0 va vc (W : World) (ho : W.ownsRow b0 36 3 (.slice va (itemsTo l n).length vc) (itemsTo l n).length (LI.flat (itemsTo l n))) => sort_own b0 va vc _ (itemsTo l n) W rfl ho (HLE.out n) HDI.out)
  have HSL : Hid ((sortI (itemsTo l n)).length = (itemsTo l n).length) := (sortI_perm _).length_eq
  generalize hg : itemsTo l = g at *
  generalize sortI (g n) = sg at *
  clear h hb hs hn hg hdist
  go_enter Tryz.func16, Tryz.ntmps16
  go_wp2_with fail
  (with_reducible refine (HC.out _).mono ?_)
  rintro e w' ⟨rfl, rfl⟩
  go_upto_region 2 with (fail)
  have hu := (Upd.refl [] w).alloc (.cells #[.int .i64 l.ts, .slice l.top.ad l.top.l.length l.top.cap, .slice l.rs.ad n l.rs.cap, .slice l.bot.ad l.bot.l.length l.bot.cap, .int .i64 l.mv, .int .i64 l.cp] 68)
  have b0 := heap_alloc1 w (.cells #[.int .i64 l.ts, .slice l.top.ad l.top.l.length l.top.cap, .slice l.rs.ad n l.rs.cap, .slice l.bot.ad l.bot.l.length l.bot.cap, .int .i64 l.mv, .int .i64 l.cp] 68)
  generalize w.alloc (.cells #[.int .i64 l.ts, .slice l.top.ad l.top.l.length l.top.cap, .slice l.rs.ad n l.rs.cap, .slice l.bot.ad l.bot.l.length l.bot.cap, .int .i64 l.mv, .int .i64 l.cp] 68) = W at *
  generalize hP : w.heap.size = P at *
  have HU := Lib.hid hu; have HB0 := Lib.hid b0
  have HP := Lib.hid hP
  obtain ⟨c0, c1, c2, c3, c4, c5⟩ := cells6 b0
  clear hu b0 hP k4 k5 k6 k7 k8 k9
  go_upto_region 3 with (go_at_call 47; go_loud ((with_reducible refine (HCN.out _ _ (HU.out.alloc _) (heap_alloc1 _ _)).mono ?_); rintro e w1 ⟨va, vc, rfl, hown, hu1⟩; have HO := Lib.hid (row_base (base' := W.heap.size) hown (by simp)); have HU1 := Lib.hid (((Upd.refl [] W).alloc _).thn hu1); clear hown hu1))
  have q0 := HU1.out.at HB0.out (by simp)
  clear c0 c1 c2 c3 c4 c5
  obtain ⟨c0, c1, c2, c3, c4, c5⟩ := cells6 q0
  clear q0
  go_wp2_with fail
  clear c0 c1 c2 c3 c4 c5
  go_loopg [4, 21] n (fun gk vs vi wr => ∃ (k : Nat) (va : Option Addr) (vc : Nat), vi = .int .i64 k ∧ vs = .slice va (g k).length vc ∧ k + gk = n ∧ Hid (wr.ownsRow W.heap.size 36 3 (.slice va (g k).length vc) (g k).length (LI.flat (g k))) ∧ Hid (Upd [] W wr))
  case atStart => exact ⟨0, va, vc, rfl, rfl, by omega, HO, HU1⟩
  case round =>
    obtain ⟨k, va, vc, rfl, rfl, hkg, HOW, HUR⟩ := hrel
    by_cases hlt : k < n
    · have hltz : (k : Int) < (n : Int) := by omega
      have hk1 : k < l.rs.l.length := by have := HN.out; omega
      have HSK := Lib.hid (HSU.out k hk1)
      have hle1 := HLE.out (k + 1)
      rw [HSK.out, List.length_append] at hle1
      have hD := HD.out.stay (HU.out.thn HUR.out)
      obtain ⟨b, off, hbo, x0, x1, x2, x3⟩ := hD.rs.row.rung k hk1
      have HCK := Lib.hid (fun W' (hu : Upd [] wr W') => HCR.out k hk1 W' ((HU.out.thn HUR.out).thn hu))
      have hbw : W.heap.size ≤ wr.heap.size := HUR.out.size
      generalize (rowsOf (l.rs.l[k]).bk.l).flatten = its at *
      generalize (l.rs.l[k]).bk.l.length = y at *
      generalize (l.rs.l[k]).bk.ad = yad at *
      generalize (l.rs.l[k]).bk.cap = yc at *
      generalize (l.rs.l[k]).fr = yf at *
      generalize (l.rs.l[k]).wd = yw at *
      generalize (l.rs.l[k]).cu = yu at *
      have HBO := Lib.hid hbo
      clear hD
      go_upto_region 6 with (fail)
      have bq := heap_alloc1 wr (.cells #[.int .i64 yf, .int .i64 yw, .int .i64 yu, .slice yad y yc] 93)
      have hu4 := (Upd.refl [] wr).alloc (.cells #[.int .i64 yf, .int .i64 yw, .int .i64 yu, .slice yad y yc] 93)
      generalize wr.alloc (.cells #[.int .i64 yf, .int .i64 yw, .int .i64 yu, .slice yad y yc] 93) = W4 at *
      have hb4 : W.heap.size ≤ W4.heap.size := Nat.le_trans hbw hu4.size
      generalize wr.heap.size = Q at *
      clear x0 x1 x2 x3
      obtain ⟨x0, x1, x2, x3⟩ := cells4 bq
      have HU4 := Lib.hid hu4
      clear bq hu4
      have HOW4 := Lib.hid (HU4.out.row HOW.out (by simp))
      go_wp2_with (first
        | (go_at_call 47; (with_reducible refine (HCK.out _ HU4.out).mono ?_); rintro e w1 ⟨xa, xc, rfl, hown, hu1⟩; have HX := Lib.hid hown; have HOW1 := Lib.hid (hu1.row HOW4.out (by simp)); have HU1 := Lib.hid ((HUR.out.thn HU4.out).thn hu1); have hb1 : W.heap.size ≤ w1.heap.size := Nat.le_trans hb4 hu1.size; have HXS := Lib.hid (has_own (s := ⟨its, xa, xc⟩) hown); clear hown hu1)
        | (at_builtin; refine app_row tyI rfl _ _ rfl W.heap.size (.slice va (g k).length vc) (g k).length (g k) rfl HOW1.out xa its.length xc its rfl rfl HXS.out.row HXS.out.nn (by omega) hb1 ?_; intro v' w2 hown hgrow; obtain ⟨va2, vc2, rfl⟩ := row_shape hown; have HO2 := Lib.hid hown; have HU2 : Hid (Upd [] W w2) := ⟨hgrow.os.trans HU1.out.os, hgrow.tape.trans HU1.out.tape, hgrow.output.trans HU1.out.output, Nat.le_trans HU1.out.size hgrow.size, fun x hx _ => (hgrow.block x (Nat.lt_of_lt_of_le hx HU1.out.size) (fun e => (by have := own_ge HOW1.out x e.symm; omega))).trans (HU1.out.block x hx (by simp))⟩; clear hown hgrow))
      rw [← HBO.out]
      go_roundg (n - (k + 1))
      case measure => omega
      case rel => exact ⟨k + 1, va2, vc2, by go_num, by rw [HSK.out, List.length_append], by omega, by rw [HSK.out, List.length_append]; exact HO2.out, HU2⟩
    · have hltz : ¬ (k : Int) < (n : Int) := by omega
      obtain rfl : k = n := by omega
      have HSR := Lib.hid (HSORT.out _ va vc wr HOW.out)
      go_wp2_with (go_at_call 48; go_loud ((with_reducible refine HSR.out.mono ?_); rintro e w1 ⟨rfl, hh, hb1, hu1⟩; have HHS := Lib.hid hh; have HB1 := Lib.hid hb1; have HU1 := Lib.hid hu1; clear hh hb1 hu1))
      go_ret
      have hs1 := HU.out.size
      have hp := HP.out
      refine ⟨va, vc, by rw [HSL.out]; rfl, HHS.out, fun a ha => by have := HB1.out a ha; omega, (HU.out.thn HUR.out).trans HU1.out (fun x hx hl => ?_)⟩
      have := own_ge HOW.out x (toList_of hx)
      omega
end Go.Proofs.YtmfnfinbkdemkaaGreat
