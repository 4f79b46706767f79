/- Contract: the program's items. -/
/- Contracts: the program's distinct, validTop. -/
/- Contracts: the program's validTop, validBottom. -/
import Derived.Test.YtneodiemgemhfaaGreatLE
import Derived.Shelf.SlSortCmp.NoneTotal
namespace Go.Proofs.YtneodiemgemhfaaGreat
open Go.RowKit Go.Lib

def itemsTo (l : LdR) (k : Nat) : List It := l.top.l ++ l.bot.l ++ itsRs ((l.rs.l.map RgR.rg).take k)
theorem itemsTo_succ {l : LdR} {k : Nat} (h : k < l.rs.l.length) : itemsTo l (k + 1) = itemsTo l k ++ (rowsOf (l.rs.l[k]).bk.l).flatten := by
  unfold itemsTo
  rw [List.take_succ_eq_append_getElem (by simpa using h), itsRs_append]
  simp [itsRs, itsR, RgR.rg]
theorem itemsTo_le (l : LdR) (k : Nat) : (itemsTo l k).length ≤ (itemsL l.ld).length := by
  unfold itemsTo itemsL itsRs
  simp only [List.length_append, LdR.ld, List.length_flatten]
  have : ((((l.rs.l.map RgR.rg).take k).map itsR).map List.length).sum ≤ (((l.rs.l.map RgR.rg).map itsR).map List.length).sum := by
    conv => rhs; rw [← List.take_append_drop k (l.rs.l.map RgR.rg)]
    rw [List.map_append, List.map_append, List.sum_append]
    omega
  omega
theorem itemsTo_all (l : LdR) : itemsTo l l.rs.l.length = itemsL l.ld := by
  unfold itemsTo itemsL
  rw [List.take_of_length_le (by simp)]
  rfl
theorem itemsTo_zero (l : LdR) : itemsTo l 0 = l.top.l ++ l.bot.l := by simp [itemsTo, itsRs]
set_option maxRecDepth 100000 in
set_option maxHeartbeats 4000000 in
theorem items_all (l : LdR) (w : World) (h : HasD w l) (hl : l.rs.l.length ≤ 1000) (hb : ∀ r ∈ l.rs.l, r.bk.l.length ≤ 1000) (hs : (itemsL l.ld).length ≤ 100000) :
    Calls Tryz.prog 39 #[encD l] w fun e w' => ∃ va vc, e = .returned (.slice va (itemsL l.ld).length vc) ∧ w'.ownsRow w.heap.size 36 3 (.slice va (itemsL l.ld).length vc) (itemsL l.ld).length (LI.flat (itemsL l.ld)) ∧ Upd [] w w' := by
  have HD := Lib.hid h
  have HB := Lib.hid hb
  have HSU : Hid (∀ k (hk : k < l.rs.l.length), itemsTo l (k + 1) = itemsTo l k ++ (rowsOf (l.rs.l[k]).bk.l).flatten) := fun k hk => itemsTo_succ hk
  have HLE : Hid (∀ k, (itemsTo l k).length ≤ 100000) := fun k => Nat.le_trans (itemsTo_le l k) hs
  have HZ : Hid (itemsTo l 0 = l.top.l ++ l.bot.l) := itemsTo_zero l
  have HZL : Hid (lenL (rowsOf [l.top, l.bot]) = (itemsTo l 0).length ∧ (rowsOf [l.top, l.bot]).flatten = itemsTo l 0) := by rw [HZ.out]; exact ⟨by simp [lenL, rowsOf], by simp [rowsOf]⟩
  have HCN : Hid (∀ W b, Upd [] w W → W.heap[b]? = some (.cells #[.slice l.top.ad l.top.l.length l.top.cap, .slice l.bot.ad l.bot.l.length l.bot.cap] 22 (0, 0)) → Calls Tryz.prog 66 #[.slice (some ⟨b, 0, none⟩) 2 2] W fun e w' => ∃ va vc, e = .returned (.slice va (itemsTo l 0).length vc) ∧ w'.ownsRow W.heap.size 36 3 (.slice va (itemsTo l 0).length vc) (itemsTo l 0).length (LI.flat (itemsTo l 0)) ∧ Upd [] W w') := fun W b hu hbk => by
    have := Concat_has [l.top, l.bot] (some ⟨b, 0, none⟩) 2 W (by
      intro j hj
      refine ⟨b, 0, rfl, fun t u hu2 => ?_⟩
      have ht : t = 0 := by have := LB.lt hu2; have h1 : LB.k = 1 := rfl; omega
      subst ht
      rw [cell_block hbk]
      have hj2 : j = 0 ∨ j = 1 := by simp at hj; omega
      rcases hj2 with rfl | rfl
      · simpa [LB] using hu2
      · simpa [LB] using hu2) (by
      intro s hs2
      rcases List.mem_cons.1 hs2 with rfl | hs2
      · exact (h.stay hu).top
      · obtain rfl : s = l.bot := by simpa using hs2
        exact (h.stay hu).bot) (by simp) (by rw [HZL.out.1]; exact HLE.out 0)
    rw [HZL.out.1, HZL.out.2] at this
    exact this
  have HCR : Hid (∀ k (hk : k < l.rs.l.length) W, Upd [] w W → Calls Tryz.prog 66 #[.slice (l.rs.l[k]).bk.ad (l.rs.l[k]).bk.l.length (l.rs.l[k]).bk.cap] W fun e w' => ∃ va vc, e = .returned (.slice va (rowsOf (l.rs.l[k]).bk.l).flatten.length vc) ∧ w'.ownsRow W.heap.size 36 3 (.slice va (rowsOf (l.rs.l[k]).bk.l).flatten.length vc) (rowsOf (l.rs.l[k]).bk.l).flatten.length (LI.flat (rowsOf (l.rs.l[k]).bk.l).flatten) ∧ Upd [] W w') := fun k hk W hu => by
    have hr := (h.stay hu).rg _ (List.getElem_mem hk)
    have e : lenL (rowsOf (l.rs.l[k]).bk.l) = (rowsOf (l.rs.l[k]).bk.l).flatten.length := by simp [lenL, List.length_flatten]
    have hle : lenL (rowsOf (l.rs.l[k]).bk.l) ≤ 100000 := by
      have h1 := HLE.out (k + 1)
      rw [HSU.out k hk, List.length_append] at h1
      omega
    have := Concat_has (l.rs.l[k]).bk.l (l.rs.l[k]).bk.ad (l.rs.l[k]).bk.cap W hr.bk.row hr.its (HB.out _ (List.getElem_mem hk)) hle
    rw [e] at this
    exact this
  rw [← itemsTo_all]
  obtain ⟨n, hn⟩ : ∃ n, n = l.rs.l.length := ⟨_, rfl⟩
  have HN := Lib.hid hn
  rw [← hn] at hl ⊢
  have HLL : Hid (encD l = .agg #[.int .i64 l.ts, .slice l.top.ad l.top.l.length l.top.cap, .slice l.rs.ad n l.rs.cap, .slice l.bot.ad l.bot.l.length l.bot.cap, .int .i64 l.mv, .int .i64 l.cp]) := by rw [hn]; rfl
  rw [HLL.out]
  generalize hg : itemsTo l = g at *
  clear h hb hs hn hg
  go_enter Tryz.func39, Tryz.ntmps39
  go_upto_region 1 with (fail)
  have hu := (Upd.refl [] w).alloc (.cells #[.int .i64 l.ts, .slice l.top.ad l.top.l.length l.top.cap, .slice l.rs.ad n l.rs.cap, .slice l.bot.ad l.bot.l.length l.bot.cap, .int .i64 l.mv, .int .i64 l.cp] 25)
  have b0 := heap_alloc1 w (.cells #[.int .i64 l.ts, .slice l.top.ad l.top.l.length l.top.cap, .slice l.rs.ad n l.rs.cap, .slice l.bot.ad l.bot.l.length l.bot.cap, .int .i64 l.mv, .int .i64 l.cp] 25)
  generalize w.alloc (.cells #[.int .i64 l.ts, .slice l.top.ad l.top.l.length l.top.cap, .slice l.rs.ad n l.rs.cap, .slice l.bot.ad l.bot.l.length l.bot.cap, .int .i64 l.mv, .int .i64 l.cp] 25) = W at *
  generalize hP : w.heap.size = P at *
  have HU := Lib.hid hu; have HB0 := Lib.hid b0
  have HP := Lib.hid hP
  obtain ⟨c0, c1, c2, c3, c4, c5⟩ := cells6 b0
  clear hu b0 hP
  go_upto_region 2 with (go_at_call 66; go_loud ((with_reducible refine (HCN.out _ _ (HU.out.alloc _) (heap_alloc1 _ _)).mono ?_); rintro e w1 ⟨va, vc, rfl, hown, hu1⟩; have HO := Lib.hid (row_base (base' := W.heap.size) hown (by simp)); have HU1 := Lib.hid (((Upd.refl [] W).alloc _).thn hu1); clear hown hu1))
  have q0 := HU1.out.at HB0.out (by simp)
  clear c0 c1 c2 c3 c4 c5
  obtain ⟨c0, c1, c2, c3, c4, c5⟩ := cells6 q0
  clear q0
  go_wp2_with fail
  clear c0 c1 c2 c3 c4 c5
  go_loopg [3, 15] n (fun gk vs vi wr => ∃ (k : Nat) (va : Option Addr) (vc : Nat), vi = .int .i64 k ∧ vs = .slice va (g k).length vc ∧ k + gk = n ∧ Hid (wr.ownsRow W.heap.size 36 3 (.slice va (g k).length vc) (g k).length (LI.flat (g k))) ∧ Hid (Upd [] W wr))
  case atStart => exact ⟨0, va, vc, rfl, rfl, by omega, HO, HU1⟩
  case round =>
    obtain ⟨k, va, vc, rfl, rfl, hkg, HOW, HUR⟩ := hrel
    by_cases hlt : k < n
    · have hltz : (k : Int) < (n : Int) := by omega
      have hk1 : k < l.rs.l.length := by have := HN.out; omega
      have HSK := Lib.hid (HSU.out k hk1)
      have hle1 := HLE.out (k + 1)
      rw [HSK.out, List.length_append] at hle1
      have hD := HD.out.stay (HU.out.thn HUR.out)
      obtain ⟨b, off, hbo, x0, x1, x2, x3⟩ := hD.rs.row.rung k hk1
      have HCK := Lib.hid (fun W' (hu : Upd [] wr W') => HCR.out k hk1 W' ((HU.out.thn HUR.out).thn hu))
      have hbw : W.heap.size ≤ wr.heap.size := HUR.out.size
      generalize (rowsOf (l.rs.l[k]).bk.l).flatten = its at *
      generalize (l.rs.l[k]).bk.l.length = y at *
      generalize (l.rs.l[k]).bk.ad = yad at *
      generalize (l.rs.l[k]).bk.cap = yc at *
      generalize (l.rs.l[k]).fr = yf at *
      generalize (l.rs.l[k]).wd = yw at *
      generalize (l.rs.l[k]).cu = yu at *
      have HBO := Lib.hid hbo
      clear hD
      go_upto_region 5 with (fail)
      have bq := heap_alloc1 wr (.cells #[.int .i64 yf, .int .i64 yw, .int .i64 yu, .slice yad y yc] 53)
      have hu4 := (Upd.refl [] wr).alloc (.cells #[.int .i64 yf, .int .i64 yw, .int .i64 yu, .slice yad y yc] 53)
      generalize wr.alloc (.cells #[.int .i64 yf, .int .i64 yw, .int .i64 yu, .slice yad y yc] 53) = W4 at *
      have hb4 : W.heap.size ≤ W4.heap.size := Nat.le_trans hbw hu4.size
      generalize wr.heap.size = Q at *
      clear x0 x1 x2 x3
      obtain ⟨x0, x1, x2, x3⟩ := cells4 bq
      have HU4 := Lib.hid hu4
      clear bq hu4
      have HOW4 := Lib.hid (HU4.out.row HOW.out (by simp))
      go_wp2_with (first
        | (go_at_call 66; (with_reducible refine (HCK.out _ HU4.out).mono ?_); rintro e w1 ⟨xa, xc, rfl, hown, hu1⟩; have HX := Lib.hid hown; have HOW1 := Lib.hid (hu1.row HOW4.out (by simp)); have HU1 := Lib.hid ((HUR.out.thn HU4.out).thn hu1); have hb1 : W.heap.size ≤ w1.heap.size := Nat.le_trans hb4 hu1.size; have HXS := Lib.hid (has_own (s := ⟨its, xa, xc⟩) hown); clear hown hu1)
        | (at_builtin; refine app_row tyI rfl _ _ rfl W.heap.size (.slice va (g k).length vc) (g k).length (g k) rfl HOW1.out xa its.length xc its rfl rfl HXS.out.row HXS.out.nn (by omega) hb1 ?_; intro v' w2 hown hgrow; obtain ⟨va2, vc2, rfl⟩ := row_shape hown; have HO2 := Lib.hid hown; have HU2 : Hid (Upd [] W w2) := ⟨hgrow.os.trans HU1.out.os, hgrow.tape.trans HU1.out.tape, hgrow.output.trans HU1.out.output, Nat.le_trans HU1.out.size hgrow.size, fun x hx _ => (hgrow.block x (Nat.lt_of_lt_of_le hx HU1.out.size) (fun e => (by have := own_ge HOW1.out x e.symm; omega))).trans (HU1.out.block x hx (by simp))⟩; clear hown hgrow))
      rw [← HBO.out]
      go_roundg (n - (k + 1))
      case measure => omega
      case rel => exact ⟨k + 1, va2, vc2, by go_num, by rw [HSK.out, List.length_append], by omega, by rw [HSK.out, List.length_append]; exact HO2.out, HU2⟩
    · have hltz : ¬ (k : Int) < (n : Int) := by omega
      obtain rfl : k = n := by omega
      go_wp2_with fail
      go_ret
      exact ⟨va, vc, rfl, by rw [HP.out]; exact row_base HOW.out (by have h1 := HU.out.size; have h2 := HP.out; omega), HU.out.thn HUR.out⟩
end Go.Proofs.YtneodiemgemhfaaGreat
namespace Go.Proofs.YtneodiemgemhfaaGreat
open Go.RowKit Go.Lib Go.Sort

theorem sorted_next {l : List It} (hs : SortedI l) : DistI l ↔ ∀ i (h : i + 1 < l.length), ¬ eqK (l[i]'(by omega)) l[i + 1] := by
  constructor
  · intro h i hi
    exact pairwise_at.1 h i (i + 1) (by omega) hi (by omega)
  · intro h
    refine pairwise_at.2 fun i j hi hj hij hk => ?_
    have hs' := pairwise_at.1 hs
    have h1 := h i (by omega)
    by_cases e : i + 1 = j
    · subst e; exact h1 hk
    · have h2 := hs' i (i + 1) (by omega) (by omega) (by omega)
      have h3 := hs' (i + 1) j (by omega) hj (by omega)
      unfold ltI eqK at *
      omega
open Classical in
noncomputable def distinctB (l : List It) : Bool := decide (DistI l)
theorem distinctB_yes {l : List It} : distinctB l = true ↔ DistI l := by simp [distinctB]
theorem distinctB_no {l : List It} : distinctB l = false ↔ ¬ DistI l := by simp [distinctB]
set_option maxRecDepth 100000 in
set_option maxHeartbeats 4000000 in
theorem distinct_has (b0 : Nat) (va : Option Addr) (vc n : Nat) (l : List It) (w : World) (hn : n = l.length) (ho : w.ownsRow b0 36 3 (.slice va n vc) n (LI.flat l)) (hl : l.length ≤ 100000) :
    Calls Tryz.prog 38 #[.slice va n vc] w fun e w' => e = .returned (.bool (distinctB l)) ∧ Upd (Value.slice va n vc).ownBlock.toList w w' := by
  have HSO : Hid (Calls Tryz.prog 67 #[.slice va n vc, .func (.func 47) #[] #[]] w fun e w' => e = .returned (.tuple #[]) ∧ ∃ l', l'.Perm l ∧ SortedI l' ∧ Row LI w' va l' ∧ Upd (Value.slice va n vc).ownBlock.toList w w') := by
    by_cases h0 : 0 < n
    · obtain ⟨_, g, cap, ev, hbg, hh⟩ := held_row (L := LI) ho h0
      simp only [Value.slice.injEq] at ev
      obtain ⟨rfl, _, rfl⟩ := ev
      subst hn
      refine (SortFunc_has g vc l w (by omega) hh).mono ?_
      rintro e w' ⟨rfl, l', h1, h2, h3, h4⟩
      exact ⟨rfl, l', h1, h2, h3.row, h4⟩
    · obtain rfl : n = 0 := by omega
      obtain rfl : l = [] := List.eq_nil_of_length_eq_zero hn.symm
      refine (AnyF.slices_SortFunc_none sortLays va vc _ w).mono ?_
      rintro e w' ⟨rfl, rfl⟩
      exact ⟨rfl, [], List.Perm.refl _, List.Pairwise.nil, row_nil _ _ _, Upd.refl _ _⟩
  have HFN : Hid (∀ l', l'.Perm l → SortedI l' → (distinctB l = true ↔ ∀ i (h : i + 1 < l'.length), ¬ eqK (l'[i]'(by omega)) l'[i + 1]) ∧ l'.length = n) := fun l' hp hs => by
    refine ⟨?_, by rw [hp.length_eq, hn]⟩
    rw [distinctB_yes, ← sorted_next hs]
    exact ⟨fun h => h.perm hp.symm, fun h => h.perm hp⟩
  obtain ⟨r, hr⟩ : ∃ r, r = distinctB l := ⟨_, rfl⟩
  rw [← hr] at HFN ⊢
  obtain ⟨S, hS⟩ : ∃ S, S = (Value.slice va n vc).ownBlock.toList := ⟨_, rfl⟩
  rw [← hS] at HSO ⊢
  have hnl : n ≤ 100000 := by omega
  clear ho hl hr hS hn
  go_enter Tryz.func38, Tryz.ntmps38
  go_upto_region 2 with (go_at_call 67; (with_reducible refine HSO.out.mono ?_); rintro e w1 ⟨rfl, l', hp, hs, hrow, hu1⟩)
  obtain ⟨hiff, hlen⟩ := HFN.out l' hp hs
  have HIFF := Lib.hid hiff; have HLEN := Lib.hid hlen; have HROW := Lib.hid hrow; have HU1 := Lib.hid hu1
  clear hiff hlen hrow hu1 hp hs
  go_wp2_with fail
  go_loopg [3] (n + 1) (fun gk vi wr => ∃ k : Nat, vi = .int .i64 ((k : Int) + 1) ∧ k + gk = n + 1 ∧ Hid (Upd [] w1 wr) ∧ Hid (∀ i (h : i + 1 < l'.length), i < k → ¬ eqK (l'[i]'(by omega)) l'[i + 1]))
  case atStart => exact ⟨0, rfl, by omega, Upd.refl _ _, fun i h hi => by omega⟩
  case round =>
    obtain ⟨k, rfl, hkg, HUR, HF⟩ := hrel
    by_cases hlt : k + 1 < n
    · have hltz : (k : Int) + 1 < (n : Int) := by omega
      have hk1 : k + 1 < l'.length := by have := HLEN.out; omega
      obtain ⟨b, off, hbo, x0, x1, x2⟩ := (HROW.out.stay HUR.out).item k (by omega)
      subst hbo
      obtain ⟨b', off', hbo, y0, y1, y2⟩ := (HROW.out.stay HUR.out).item (k + 1) hk1
      simp only [Option.some.injEq, Addr.mk.injEq, and_true] at hbo
      obtain ⟨rfl, rfl⟩ := hbo
      have hw1 : IntKind.i64.wrap ((k : Int) + 1 - 1) = (k : Int) := by rw [IntKind.wrap_i64]; omega
      have hw2 : (k : Int) + 1 - 1 = (k : Int) := by omega
      have HCK := Lib.hid (fun W => (CompareItems_any (l'[k]'(by omega)) l'[k + 1] W).mono (R' := fun e w' => e = .returned (.int .i64 (cmpI (l'[k]'(by omega)) l'[k + 1])) ∧ Upd [] W w') (fun e w' h => ⟨h.1, h.2.upd⟩))
      have HLT : Hid (¬ cmpI (l'[k]'(by omega)) l'[k + 1] = 0 → ∀ i (h : i + 1 < l'.length), i < k + 1 → ¬ eqK (l'[i]'(by omega)) l'[i + 1]) := fun hc i h hi => by
        by_cases e : i = k
        · subst e; exact fun he => hc (cmpI_zero.2 he)
        · exact HF.out i h (by omega)
      have HNL : Hid (cmpI (l'[k]'(by omega)) l'[k + 1] = 0 → r = false) := fun hc => by
        cases hr : r with
        | false => rfl
        | true => exact absurd (cmpI_zero.1 hc) (HIFF.out.1 hr k hk1)
      have HIT1 : Hid (aggI (l'[k]'(by omega)) = .agg #[.int .i64 (l'[k]'(by omega)).t, .int .i64 (l'[k]'(by omega)).q, .int .i64 (l'[k]'(by omega)).s]) := rfl
      have HIT2 : Hid (aggI l'[k + 1] = .agg #[.int .i64 l'[k + 1].t, .int .i64 l'[k + 1].q, .int .i64 l'[k + 1].s]) := rfl
      rw [HIT1.out, HIT2.out] at HCK
      generalize cmpI (l'[k]'(by omega)) l'[k + 1] = cc at *
      generalize (l'[k]'(by omega)).t = a0 at *
      generalize (l'[k]'(by omega)).q = a1 at *
      generalize (l'[k]'(by omega)).s = a2 at *
      generalize l'[k + 1].t = e0 at *
      generalize l'[k + 1].q = e1 at *
      generalize l'[k + 1].s = e2 at *
      clear HIT1 HIT2
      have j0 := kept_at x0; have j1 := kept_at x1; have j2 := kept_at x2; have j3 := kept_at y0; have j4 := kept_at y1; have j5 := kept_at y2
      clear x0 x1 x2 y0 y1 y2
      go_upto_region 5 with (fail)
      refine wp_region_quiet_kept mixed (by kernel_rfl) ?_
      repeat (go_big_quiet_step (first | (go_at_call 47; exact calls_kept (HCK.out _))))
      refine wpQuiet_nil ?_
      intro Wx hw'
      obtain ⟨⟨Wy, hu⟩, hw''⟩ := hw'
      simp only at hw''
      subst hw''
      clear j0 j1 j2 j3 j4 j5
      have HUX := Lib.hid (HUR.out.thn hu)
      clear hu
      by_cases hc : cc = 0
      · have hd : (cc == 0) = true := by simpa using hc
        have HE := Lib.hid (HNL.out hc)
        have HC0 := Lib.hid hc
        clear hc
        go_wp2_with fail
        go_ret
        exact ⟨ret_bool HE.out.symm, HU1.out.trans HUX.out (by simp)⟩
      · have hd : (cc == 0) = false := by simpa using hc
        go_wp2_with fail
        go_roundg (gk - 1)
        case measure => omega
        case rel => exact ⟨k + 1, by go_num, by omega, HUX, HLT.out hc⟩
    · have hltz : ¬ (k : Int) + 1 < (n : Int) := by omega
      have HE : Hid (r = true) := HIFF.out.2 (fun i h => HF.out i h (by have := HLEN.out; omega))
      go_wp2_with fail
      go_ret
      exact ⟨ret_bool HE.out.symm, HU1.out.trans HUR.out (by simp)⟩
end Go.Proofs.YtneodiemgemhfaaGreat
namespace Go.Proofs.YtneodiemgemhfaaGreat
open Go.RowKit Go.Lib

def topB (l : Ld) : Bool := decide (0 ≤ l.ts) && decide (l.ts ≤ 1152921504606846977) && withinB l.top l.ts 1152921504606846977
set_option maxRecDepth 100000 in
set_option maxHeartbeats 4000000 in
theorem validTop_has (l : LdR) (w : World) (h : HasD w l) (hl : l.top.l.length ≤ 1000000) :
    Calls Tryz.prog 35 #[encD l] w fun e w' => e = .returned (.bool (topB l.ld)) ∧ Upd [] w w' := by
  have HWI := Lib.hid (fun W (hu : Upd [] w W) => within_has l.top.ad l.top.cap l.top.l l.ts 1152921504606846977 W (h.stay hu).top.row hl)
  have HTB : Hid (topB l.ld = (decide (0 ≤ l.ts) && decide (l.ts ≤ 1152921504606846977) && withinB l.top.l l.ts 1152921504606846977)) := rfl
  rw [HTB.out]
  unfold encD cellsD
  generalize withinB l.top.l l.ts 1152921504606846977 = r at *
  clear h hl HTB
  go_enter Tryz.func35, Tryz.ntmps35
  go_upto_region 1 with (fail)
  have hu := (Upd.refl [] w).alloc (.cells #[.int .i64 l.ts, .slice l.top.ad l.top.l.length l.top.cap, .slice l.rs.ad l.rs.l.length l.rs.cap, .slice l.bot.ad l.bot.l.length l.bot.cap, .int .i64 l.mv, .int .i64 l.cp] 25)
  have b0 := heap_alloc1 w (.cells #[.int .i64 l.ts, .slice l.top.ad l.top.l.length l.top.cap, .slice l.rs.ad l.rs.l.length l.rs.cap, .slice l.bot.ad l.bot.l.length l.bot.cap, .int .i64 l.mv, .int .i64 l.cp] 25)
  generalize w.alloc (.cells #[.int .i64 l.ts, .slice l.top.ad l.top.l.length l.top.cap, .slice l.rs.ad l.rs.l.length l.rs.cap, .slice l.bot.ad l.bot.l.length l.bot.cap, .int .i64 l.mv, .int .i64 l.cp] 25) = W at *
  generalize w.heap.size = P at *
  obtain ⟨c0, c1, c2, c3, c4, c5⟩ := cells6 b0
  have HU := Lib.hid hu
  clear hu b0
  by_cases h1 : 0 ≤ l.ts
  · have d1 : decide (0 ≤ l.ts) = true := decide_eq_true h1
    by_cases h2 : l.ts ≤ 1152921504606846977
    · have d2 : decide (l.ts ≤ 1152921504606846977) = true := decide_eq_true h2
      go_wp2_with (go_at_call 62; (with_reducible refine (HWI.out _ HU.out).mono ?_); rintro e w1 ⟨rfl, hu1⟩; have HU1 := Lib.hid (HU.out.thn hu1); clear hu1)
      go_ret
      exact ⟨ret_bool (by first | rfl | (rw [d1, d2]; simp)), HU1.out⟩
    · have d2 : decide (l.ts ≤ 1152921504606846977) = false := decide_eq_false h2
      go_wp2_with fail
      go_ret
      exact ⟨ret_bool (by first | rfl | (rw [d1, d2]; simp)), HU.out⟩
  · have d1 : decide (0 ≤ l.ts) = false := decide_eq_false h1
    go_wp2_with fail
    go_ret
    exact ⟨ret_bool (by first | rfl | (rw [d1]; simp)), HU.out⟩
open Classical in
noncomputable def strictB (l : List It) : Bool := decide (StrictI l)
theorem strictB_yes {l : List It} : strictB l = true ↔ StrictI l := by simp [strictB]
theorem strictB_no {l : List It} : strictB l = false ↔ ¬ StrictI l := by simp [strictB]
noncomputable def botB (l : Ld) : Bool := strictB l.bot && withinB l.bot 0 (boundR l.ts l.rs)
theorem strict_next {l : List It} : StrictI l ↔ ∀ i (h : i + 1 < l.length), ltI (l[i]'(by omega)) l[i + 1] := by
  constructor
  · intro h i hi
    exact pairwise_at.1 h i (i + 1) (by omega) hi (by omega)
  · intro h
    refine pairwise_at.2 fun i j hi hj hij => ?_
    obtain ⟨d, rfl⟩ : ∃ d, j = i + 1 + d := ⟨j - (i + 1), by omega⟩
    clear hij
    induction d with
    | zero => exact h i hj
    | succ d ih => exact ltI_trans (ih (by omega)) (h (i + 1 + d) hj)
set_option maxRecDepth 100000 in
set_option maxHeartbeats 4000000 in
theorem validBottom_has (l : LdR) (w : World) (h : HasD w l) (hl : l.bot.l.length ≤ 1000000) (hr : l.rs.l.length ≤ 1000000) (hg : ∀ r ∈ l.rs.l, GoodR r.rg) :
    Calls Tryz.prog 37 #[encD l] w fun e w' => e = .returned (.bool (botB l.ld)) ∧ Upd [] w w' := by
  have HD := Lib.hid h
  have HBO : Hid (∀ W, Upd [] w W → Calls Tryz.prog 63 #[encD l, .int .i64 l.rs.l.length] W fun e w' => e = .returned (.int .i64 (boundR l.ts (l.rs.l.map RgR.rg))) ∧ Upd [] W w') := fun W hu => by
    have := bound_has l l.rs.l.length W (h.stay hu) (Nat.le_refl _) hr (fun j hj _ => hg _ (List.getElem_mem hj))
    rw [List.take_of_length_le (by simp)] at this
    exact this
  have HWI := Lib.hid (fun b W (hu : Upd [] w W) => within_has l.bot.ad l.bot.cap l.bot.l 0 b W (h.stay hu).bot.row hl)
  have HCI := Lib.hid (fun (x y : It) W => (CompareItems_any x y W).mono (R' := fun e w' => e = .returned (.int .i64 (cmpI x y)) ∧ Upd [] W w') (fun e w' h => ⟨h.1, h.2.upd⟩))
  have H1 : Hid ((∀ i (h : i + 1 < l.bot.l.length), ltI (l.bot.l[i]'(by omega)) l.bot.l[i + 1]) → botB l.ld = withinB l.bot.l 0 (boundR l.ts (l.rs.l.map RgR.rg))) := fun hs => by
    have h2 : StrictI l.ld.bot := strict_next.2 hs
    unfold botB
    rw [strictB_yes.2 h2, Bool.true_and]
    rfl
  have H2 : Hid (∀ i (h : i + 1 < l.bot.l.length), ¬ ltI (l.bot.l[i]'(by omega)) l.bot.l[i + 1] → botB l.ld = false) := fun i hi hn => by
    have h2 : ¬ StrictI l.ld.bot := fun hs => hn (strict_next.1 hs i hi)
    unfold botB
    rw [strictB_no.2 h2, Bool.false_and]
  generalize botB l.ld = r at *
  generalize boundR l.ts (l.rs.l.map RgR.rg) = bd at *
  generalize hwr : withinB l.bot.l 0 bd = wr0 at *
  have HLL : Hid (encD l = .agg #[.int .i64 l.ts, .slice l.top.ad l.top.l.length l.top.cap, .slice l.rs.ad l.rs.l.length l.rs.cap, .slice l.bot.ad l.bot.l.length l.bot.cap, .int .i64 l.mv, .int .i64 l.cp]) := rfl
  rw [HLL.out] at HBO ⊢
  have HWI2 : Hid (∀ W, Upd [] w W → Calls Tryz.prog 62 #[.slice l.bot.ad l.bot.l.length l.bot.cap, .int .i64 0, .int .i64 bd] W fun e w' => e = .returned (.bool wr0) ∧ Upd [] W w') := fun W hu => by rw [← hwr]; exact HWI.out bd W hu
  obtain ⟨n, hn⟩ : ∃ n, n = l.bot.l.length := ⟨_, rfl⟩
  have HN := Lib.hid hn
  rw [← hn] at hl HWI2 HBO ⊢
  clear h hr hg hwr hn HWI HLL
  go_enter Tryz.func37, Tryz.ntmps37
  go_upto_region 1 with (fail)
  have hu := (Upd.refl [] w).alloc (.cells #[.int .i64 l.ts, .slice l.top.ad l.top.l.length l.top.cap, .slice l.rs.ad l.rs.l.length l.rs.cap, .slice l.bot.ad n l.bot.cap, .int .i64 l.mv, .int .i64 l.cp] 25)
  have b0 := heap_alloc1 w (.cells #[.int .i64 l.ts, .slice l.top.ad l.top.l.length l.top.cap, .slice l.rs.ad l.rs.l.length l.rs.cap, .slice l.bot.ad n l.bot.cap, .int .i64 l.mv, .int .i64 l.cp] 25)
  generalize w.alloc (.cells #[.int .i64 l.ts, .slice l.top.ad l.top.l.length l.top.cap, .slice l.rs.ad l.rs.l.length l.rs.cap, .slice l.bot.ad n l.bot.cap, .int .i64 l.mv, .int .i64 l.cp] 25) = W at *
  generalize w.heap.size = P at *
  have HU := Lib.hid hu; have HB0 := Lib.hid b0
  clear hu b0
  go_wp2_with fail
  go_loopg [3] (n + 1) (fun gk vi wr => ∃ k : Nat, vi = .int .i64 ((k : Int) + 1) ∧ k + gk = n + 1 ∧ Hid (Upd [] W wr) ∧ Hid (∀ i (h : i + 1 < l.bot.l.length), i < k → ltI (l.bot.l[i]'(by omega)) l.bot.l[i + 1]))
  case atStart => exact ⟨0, rfl, by omega, Upd.refl _ _, fun i h hi => by omega⟩
  case round =>
    obtain ⟨k, rfl, hkg, HUR, HF⟩ := hrel
    obtain ⟨c0, c1, c2, c3, c4, c5⟩ := cells6 (HUR.out.at HB0.out (by simp))
    by_cases hlt : k + 1 < n
    · have hltz : (k : Int) + 1 < (n : Int) := by omega
      have hk1 : k + 1 < l.bot.l.length := by have := HN.out; omega
      have hw1 : IntKind.i64.wrap ((k : Int) + 1 - 1) = (k : Int) := by rw [IntKind.wrap_i64]; omega
      have hw2 : (k : Int) + 1 - 1 = (k : Int) := by omega
      have hrow := (HD.out.stay (HU.out.thn HUR.out)).bot.row
      obtain ⟨b, off, hbo, x0, x1, x2⟩ := hrow.item k (by omega)
      obtain ⟨b', off', hbo', y0, y1, y2⟩ := hrow.item (k + 1) hk1
      rw [hbo] at hbo'
      simp only [Option.some.injEq, Addr.mk.injEq, and_true] at hbo'
      obtain ⟨rfl, rfl⟩ := hbo'
      rw [hbo] at c3
      have HBO2 := Lib.hid hbo
      have HCK := Lib.hid (HCI.out (l.bot.l[k]'(by omega)) l.bot.l[k + 1])
      have HLT : Hid (cmpI (l.bot.l[k]'(by omega)) l.bot.l[k + 1] < 0 → ∀ i (h : i + 1 < l.bot.l.length), i < k + 1 → ltI (l.bot.l[i]'(by omega)) l.bot.l[i + 1]) := fun hc i h hi => by
        by_cases e : i = k
        · subst e; exact cmpI_lt.1 hc
        · exact HF.out i h (by omega)
      have HNL : Hid (¬ cmpI (l.bot.l[k]'(by omega)) l.bot.l[k + 1] < 0 → r = false) := fun hc => H2.out k hk1 (fun hl => hc (cmpI_lt.2 hl))
      have HIT1 : Hid (aggI (l.bot.l[k]'(by omega)) = .agg #[.int .i64 (l.bot.l[k]'(by omega)).t, .int .i64 (l.bot.l[k]'(by omega)).q, .int .i64 (l.bot.l[k]'(by omega)).s]) := rfl
      have HIT2 : Hid (aggI l.bot.l[k + 1] = .agg #[.int .i64 l.bot.l[k + 1].t, .int .i64 l.bot.l[k + 1].q, .int .i64 l.bot.l[k + 1].s]) := rfl
      rw [HIT1.out, HIT2.out] at HCK
      generalize cmpI (l.bot.l[k]'(by omega)) l.bot.l[k + 1] = cc at *
      generalize (l.bot.l[k]'(by omega)).t = a0 at *
      generalize (l.bot.l[k]'(by omega)).q = a1 at *
      generalize (l.bot.l[k]'(by omega)).s = a2 at *
      generalize l.bot.l[k + 1].t = e0 at *
      generalize l.bot.l[k + 1].q = e1 at *
      generalize l.bot.l[k + 1].s = e2 at *
      clear HIT1 HIT2 hrow hbo
      have k3 := kept_at c3
      have j0 := kept_at x0; have j1 := kept_at x1; have j2 := kept_at x2; have j3 := kept_at y0; have j4 := kept_at y1; have j5 := kept_at y2
      clear c0 c1 c2 c4 c5 x0 x1 x2 y0 y1 y2
      go_upto_region 4 with (fail)
      clear c3
      refine wp_region_quiet_kept mixed (by kernel_rfl) ?_
      repeat (go_big_quiet_step (first | (go_at_call 47; exact calls_kept (HCK.out _))))
      refine wpQuiet_nil ?_
      intro Wx hw'
      obtain ⟨⟨Wy, hu⟩, hw''⟩ := hw'
      simp only at hw''
      subst hw''
      clear k3 j0 j1 j2 j3 j4 j5
      have HUX := Lib.hid (HUR.out.thn hu)
      clear hu
      by_cases hc : cc < 0
      · have hd : decide (0 ≤ cc) = false := decide_eq_false (by omega)
        go_wp2_with fail
        go_roundg (gk - 1)
        case measure => omega
        case rel => exact ⟨k + 1, by go_num, by omega, HUX, HLT.out hc⟩
      · have hd : decide (0 ≤ cc) = true := decide_eq_true (by omega)
        go_wp2_with fail
        go_ret
        exact ⟨ret_bool (HNL.out hc).symm, HU.out.thn HUX.out⟩
    · have hltz : ¬ (k : Int) + 1 < (n : Int) := by omega
      have HE := Lib.hid (H1.out (fun i h => HF.out i h (by have := HN.out; omega)))
      go_upto_region 6 with (fail)
      have k0 := kept_at c0; have k1 := kept_at c1; have k2 := kept_at c2; have k3 := kept_at c3; have k4 := kept_at c4; have k5 := kept_at c5
      clear c0 c1 c2 c3 c4 c5
      refine wp_region_quiet_kept mixed (by kernel_rfl) ?_
      have HK1 := Lib.hid (fun (p : Kept wr) => HBO.out p.x ((HU.out.thn HUR.out).thn p.up))
      have HK2 := Lib.hid (fun (p : Kept wr) => HWI2.out p.x ((HU.out.thn HUR.out).thn p.up))
      repeat (go_big_quiet_step (first | (go_at_call 63; exact calls_kept (HK1.out _)) | (go_at_call 62; exact calls_kept (HK2.out _))))
      refine wpQuiet_nil ?_
      intro Wx hw'
      obtain ⟨⟨Wy, hu⟩, hw''⟩ := hw'
      simp only at hw''
      subst hw''
      clear k0 k1 k2 k3 k4 k5
      have HUX := Lib.hid ((HU.out.thn HUR.out).thn hu)
      clear hu
      go_wp2_with fail
      go_ret
      exact ⟨ret_bool HE.out.symm, HUX.out⟩
end Go.Proofs.YtneodiemgemhfaaGreat
