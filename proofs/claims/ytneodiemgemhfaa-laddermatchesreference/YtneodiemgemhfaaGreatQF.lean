/- Contract: the reference's Items. -/
import Derived.Test.YtneodiemgemhfaaGreatLH
import Derived.Test.YtneodiemgemhfaaGreatNK
namespace Go.Proofs.YtneodiemgemhfaaGreat
open Go.RowKit Go.Lib

theorem row_mono {w : World} {base base' : Nat} {e : TypeId} {size : Nat} {v : Value} {n : Nat} {xs : List Value} (h : w.ownsRow base e size v n xs) (hb : base' ≤ base) : w.ownsRow base' e size v n xs := by
  refine ⟨h.1, ?_⟩
  rcases h.2 with hn | ⟨g, cap, cur, rfl, hb', rest⟩
  · exact .inl hn
  · exact .inr ⟨g, cap, cur, rfl, by omega, rest⟩
theorem take_flat_succ {bl : List (SlR It)} {j : Nat} (h : j < bl.length) : ((rowsOf bl).take (j + 1)).flatten = ((rowsOf bl).take j).flatten ++ bl[j].l := by
  rw [List.take_succ_eq_append_getElem (by rw [rowsOf_length]; exact h), List.flatten_append, rowsOf_get h]
  simp
theorem take_flat_le (bl : List (SlR It)) (j : Nat) : ((rowsOf bl).take j).flatten.length ≤ (rowsOf bl).flatten.length := by
  conv => rhs; rw [← List.take_append_drop j (rowsOf bl), List.flatten_append, List.length_append]
  omega
set_option maxRecDepth 100000 in
set_option maxHeartbeats 4000000 in
theorem RItems_has (l : LdR) (w : World) (h : HasD w l) (hl : l.rs.l.length ≤ 1000) (hb : ∀ r ∈ l.rs.l, r.bk.l.length ≤ 1000) (hs : (itemsL l.ld).length ≤ 100000) :
    Calls Tryz.prog 26 #[encD l] w fun e w' => ∃ va vc, e = .returned (.slice va (itemsL l.ld).length vc) ∧ w'.ownsRow w.heap.size 36 3 (.slice va (itemsL l.ld).length vc) (itemsL l.ld).length (LI.flat (itemsL l.ld)) ∧ Upd [] w w' := by
  have HD := Lib.hid h
  have HB := Lib.hid hb
  have HSU : Hid (∀ k (hk : k < l.rs.l.length), itemsTo l (k + 1) = itemsTo l k ++ (rowsOf (l.rs.l[k]).bk.l).flatten) := fun k hk => itemsTo_succ hk
  have HLE : Hid (∀ k, (itemsTo l k).length ≤ 100000) := fun k => Nat.le_trans (itemsTo_le l k) hs
  have HZ : Hid (itemsTo l 0 = l.top.l ++ l.bot.l) := itemsTo_zero l
  have HAL : Hid (itemsTo l l.rs.l.length = itemsL l.ld) := itemsTo_all l
  have HLL : Hid (encD l = .agg #[.int .i64 l.ts, .slice l.top.ad l.top.l.length l.top.cap, .slice l.rs.ad l.rs.l.length l.rs.cap, .slice l.bot.ad l.bot.l.length l.bot.cap, .int .i64 l.mv, .int .i64 l.cp]) := rfl
  rw [HLL.out, ← HAL.out]
  obtain ⟨n, hn⟩ : ∃ n, n = l.rs.l.length := ⟨_, rfl⟩
  have HN := Lib.hid hn
  rw [← hn] at hl ⊢
  have HTW : Hid (∀ W, Upd [] w W → HasS LI W l.top) := fun W hu => (HD.out.stay hu).top
  have HBW : Hid (∀ W, Upd [] w W → HasS LI W l.bot) := fun W hu => (HD.out.stay hu).bot
  clear h hb hs hn HLL HAL
  generalize l.top = tp at HZ HTW ⊢
  generalize l.bot = bt at HZ HBW ⊢
  obtain ⟨tl, ta, tc⟩ := tp
  obtain ⟨bl, ba, bc⟩ := bt
  simp only at HZ HTW HBW ⊢
  go_enter Tryz.func26, Tryz.ntmps26
  go_upto_region 1 with (fail)
  have hu := (Upd.refl [] w).alloc (.cells #[.int .i64 l.ts, .slice ta tl.length tc, .slice l.rs.ad n l.rs.cap, .slice ba bl.length bc, .int .i64 l.mv, .int .i64 l.cp] 25)
  have b0 := heap_alloc1 w (.cells #[.int .i64 l.ts, .slice ta tl.length tc, .slice l.rs.ad n l.rs.cap, .slice ba bl.length bc, .int .i64 l.mv, .int .i64 l.cp] 25)
  generalize w.alloc (.cells #[.int .i64 l.ts, .slice ta tl.length tc, .slice l.rs.ad n l.rs.cap, .slice ba bl.length bc, .int .i64 l.mv, .int .i64 l.cp] 25) = W at *
  generalize hPE : w.heap.size = P at *
  have HPE := Lib.hid hPE
  clear hPE
  have hsz : P ≤ W.heap.size := Nat.le_of_lt (lt_block b0)
  have hlt0 : P < W.heap.size := lt_block b0
  have hne0 : ¬ P = W.heap.size := by omega
  have HU := Lib.hid hu; have HB0 := Lib.hid b0; have HSZ := Lib.hid hsz
  obtain ⟨c0, c1, c2, c3, c4, c5⟩ := cells6 b0
  have HT := Lib.hid (HTW.out _ hu)
  have HTB : Hid ((tl ++ bl).length ≤ 100000) := by rw [← HZ.out]; exact HLE.out 0
  have htb := HTB.out
  rw [List.length_append] at htb
  clear hu b0 hsz
  go_cut [3] (fun v wx => ∃ (va : Option Addr) (vc : Nat), v = .slice va tl.length vc ∧ Hid (wx.ownsRow W.heap.size 36 LI.k (.slice va tl.length vc) tl.length (LI.flat tl)) ∧ Hid (Upd [] W wx))
  case first =>
    cases ta with
    | none =>
      have e := row_none HT.out.row
      simp only at e
      subst e
      obtain rfl : tc = 0 := HT.out.nn rfl
      simp only [List.length_nil] at c1 ⊢
      go_wp2_with (at_builtin; refine app_row tyI rfl _ _ rfl W.heap.size (.slice (some ⟨W.heap.size, 0, none⟩) 0 0) 0 [] rfl (World.ownsRow_made W #[] 0 (Nat.le_refl _) (Nat.zero_le _) (by simp)) none 0 0 ([] : List It) (by first | rfl | simp) rfl (row_nil _ _ _) (fun _ => rfl) (by omega) (by simp) ?_; intro v' w1 hown hgrow; rw [Nat.zero_add, List.nil_append] at hown; obtain ⟨va, vc, rfl⟩ := row_shape hown; have HOW := Lib.hid hown; have HU1 : Hid (Upd [] W w1) := ((Upd.refl [] W).alloc _).grown hgrow (fun k hk hl => by simp [Value.ownBlock] at hk; omega); clear hown hgrow)
      go_meet
      case rel => exact ⟨va, vc, rfl, HOW, HU1⟩
    | some ad =>
      obtain ⟨b, off, sp⟩ := ad
      go_wp2_with (at_builtin; refine app_row tyI rfl _ _ rfl W.heap.size (.slice (some ⟨W.heap.size, 0, none⟩) 0 0) 0 [] rfl (World.ownsRow_made W #[] 0 (Nat.le_refl _) (Nat.zero_le _) (by simp)) (some ⟨b, off, sp⟩) tl.length tc tl rfl rfl ((HT.out.stay ((Upd.refl [] W).alloc _)).row) (fun e => by simp at e) (by omega) (by simp) ?_; intro v' w1 hown hgrow; rw [Nat.zero_add, List.nil_append] at hown; obtain ⟨va, vc, rfl⟩ := row_shape hown; have HOW := Lib.hid hown; have HU1 : Hid (Upd [] W w1) := ((Upd.refl [] W).alloc _).grown hgrow (fun k hk hl => by simp [Value.ownBlock] at hk; omega); clear hown hgrow)
      go_meet
      case rel => exact ⟨va, vc, rfl, HOW, HU1⟩
  case rest =>
  obtain ⟨va, vc, rfl, HOW, HU1⟩ := hcut
  obtain ⟨w1, hWn⟩ : ∃ x, x = wc := ⟨_, rfl⟩
  subst hWn
  clear c0 c1 c2 c3 c4 c5
  obtain ⟨c0, c1, c2, c3, c4, c5⟩ := cells6 (HU1.out.at HB0.out (by simp))
  have HBT := Lib.hid (HBW.out _ (HU.out.thn HU1.out))
  have hsz1 := HU1.out.size
  go_upto_region 3 with (at_builtin; refine app_row tyI rfl _ _ rfl W.heap.size (.slice va tl.length vc) tl.length tl rfl HOW.out ba bl.length bc bl rfl rfl HBT.out.row HBT.out.nn (by omega) hsz1 ?_; intro v' w2 hown hgrow; obtain ⟨va2, vc2, rfl⟩ := row_shape hown; have HO2 := Lib.hid hown; have HU2 : Hid (Upd [] W w2) := HU1.out.grown hgrow (fun k hk hl => (by have := own_ge HOW.out k hk; omega)); clear hown hgrow)
  have HLZ : Hid ((itemsTo l 0).length = tl.length + bl.length) := Lib.hid (by rw [HZ.out]; simp)
  clear c0 c1 c2 c3 c4 c5 hsz1 htb
  go_wp2_with fail
  go_loopg [3, 4] n (fun gk vs vi wr => ∃ (k : Nat) (va : Option Addr) (vc : Nat), vi = .int .i64 k ∧ vs = .slice va (itemsTo l k).length vc ∧ k + gk = n ∧ Hid (wr.ownsRow W.heap.size 36 LI.k (.slice va (itemsTo l k).length vc) (itemsTo l k).length (LI.flat (itemsTo l k))) ∧ Hid (Upd [] W wr))
  case atStart => exact ⟨0, va2, vc2, rfl, by rw [HLZ.out], by omega, by rw [HLZ.out, HZ.out]; exact HO2, HU2⟩
  case round =>
    obtain ⟨k, va, vc, rfl, rfl, hkg, HOW, HUR⟩ := hrel
    obtain ⟨c0, c1, c2, c3, c4, c5⟩ := cells6 (HUR.out.at HB0.out (by simp))
    by_cases hlt : k < n
    · have hltz : (k : Int) < (n : Int) := by omega
      have hk1 : k < l.rs.l.length := by have := HN.out; omega
      have HSK := Lib.hid (HSU.out k hk1)
      have HDR := Lib.hid (HD.out.stay (HU.out.thn HUR.out))
      obtain ⟨b, off, hbo, x0, x1, x2, x3⟩ := HDR.out.rs.row.rung k hk1
      have HRG := Lib.hid (HDR.out.rg _ (List.getElem_mem hk1))
      have HBN := Lib.hid (HB.out _ (List.getElem_mem hk1))
      obtain ⟨r, hr⟩ : ∃ r, r = l.rs.l[k]'hk1 := ⟨_, rfl⟩
      rw [← hr] at x0 x1 x2 x3 HSK HRG HBN
      have HRW : Hid (∀ V, Upd [] w V → HasR V r) := fun V hv => by rw [hr]; exact (HD.out.stay hv).rg _ (List.getElem_mem hk1)
      have HX3 : Hid (∀ V, Upd [] w V → V.cell? ⟨b, off + k * 4 + 3, none⟩ = some (.slice r.bk.ad r.bk.l.length r.bk.cap)) := fun V hv => by
        obtain ⟨b', off', e, _, _, _, y⟩ := (HD.out.stay hv).rs.row.rung k hk1
        rw [hbo] at e
        obtain ⟨rfl, rfl⟩ : b = b' ∧ off = off' := by simpa using e
        rw [hr]
        exact y
      clear hr hk1
      rw [hbo] at c2
      obtain ⟨m, hm⟩ : ∃ m, m = r.bk.l.length := ⟨_, rfl⟩
      rw [← hm] at x3 HBN HX3
      have HM := Lib.hid hm
      have HG0 : Hid (itemsTo l k = itemsTo l k ++ ((rowsOf r.bk.l).take 0).flatten) := Lib.hid (by simp)
      have HGM : Hid (itemsTo l (k + 1) = itemsTo l k ++ ((rowsOf r.bk.l).take m).flatten) := Lib.hid (by rw [HSK.out, hm, List.take_of_length_le (by rw [rowsOf_length]; exact Nat.le_refl _)])
      have HGS : Hid (∀ j (hj : j < r.bk.l.length), itemsTo l k ++ ((rowsOf r.bk.l).take (j + 1)).flatten = (itemsTo l k ++ ((rowsOf r.bk.l).take j).flatten) ++ (r.bk.l[j]).l) := fun j hj => by rw [take_flat_succ hj, List.append_assoc]
      have HGL : Hid (∀ j, (itemsTo l k ++ ((rowsOf r.bk.l).take j).flatten).length ≤ 100000) := fun j => by
        have h1 := HLE.out (k + 1)
        have h2 := take_flat_le r.bk.l j
        rw [HSK.out] at h1
        rw [List.length_append] at h1 ⊢
        omega
      obtain ⟨g, hg⟩ : ∃ g : Nat → List It, g = fun j => itemsTo l k ++ ((rowsOf r.bk.l).take j).flatten := ⟨_, rfl⟩
      have HG0 : Hid (itemsTo l k = g 0) := by rw [hg]; exact HG0
      have HGM : Hid (itemsTo l (k + 1) = g m) := by rw [hg]; exact HGM
      have HGS : Hid (∀ j (hj : j < r.bk.l.length), g (j + 1) = g j ++ (r.bk.l[j]).l) := by rw [hg]; exact HGS
      have HGL : Hid (∀ j, (g j).length ≤ 100000) := by rw [hg]; exact HGL
      clear hm hg HSK
      rw [HG0.out] at HOW ⊢
      have HC2 : Hid (l.rs.ad = some ⟨b, off, none⟩) := hbo
      clear HG0
      go_wp2_with fail
      clear c0 c1 c2 c3 c4 c5 x0 x1 x2 x3 hbo
      go_loopg [3, 5] m (fun gj vs vj wi => ∃ (j : Nat) (va : Option Addr) (vc : Nat), vj = .int .i64 j ∧ vs = .slice va (g j).length vc ∧ j + gj = m ∧ Hid (wi.ownsRow W.heap.size 36 LI.k (.slice va (g j).length vc) (g j).length (LI.flat (g j))) ∧ Hid (Upd [] W wi))
      case atStart => exact ⟨0, va, vc, rfl, rfl, by omega, HOW, HUR⟩
      case round =>
        obtain ⟨j, va1, vc1, rfl, rfl, hjg, HOJ, HUJ⟩ := hrel
        have HRJ := Lib.hid (HRW.out _ (HU.out.thn HUJ.out))
        obtain ⟨c0, c1, c2, c3, c4, c5⟩ := cells6 (HUJ.out.at HB0.out (by simp))
        have x3 := HX3.out _ (HU.out.thn HUJ.out)
        rw [HC2.out] at c2
        by_cases hltj : j < m
        · have hjz : (j : Int) < (m : Int) := by omega
          have hjm : j < r.bk.l.length := by have := HM.out; omega
          have HGJ := Lib.hid (HGS.out j hjm)
          have hgl := HGL.out (j + 1)
          rw [HGJ.out, List.length_append] at hgl
          obtain ⟨b1, o1, e1, y1⟩ := HRJ.out.bk.row.bucket j hjm
          have HBS := Lib.hid (HRJ.out.its _ (List.getElem_mem hjm))
          rw [e1] at x3
          obtain ⟨bs, hbs⟩ : ∃ bs, bs = r.bk.l[j]'hjm := ⟨_, rfl⟩
          rw [← hbs] at y1 HBS HGJ hgl
          clear hbs e1 hjm
          obtain ⟨sl, sa, sc⟩ := bs
          simp only at y1 HBS HGJ hgl
          have hsz1 := HUJ.out.size
          go_upto_region 8 with (at_builtin; refine app_row tyI rfl _ _ rfl W.heap.size (.slice va1 (g j).length vc1) (g j).length (g j) rfl HOJ.out sa sl.length sc sl rfl rfl HBS.out.row HBS.out.nn (by omega) hsz1 ?_; intro v' w2 hown hgrow; obtain ⟨va2, vc2, rfl⟩ := row_shape hown; have HO2 := Lib.hid hown; have HU2 : Hid (Upd [] W w2) := HUJ.out.grown hgrow (fun k hk hl => (by have := own_ge HOJ.out k hk; omega)); clear hown hgrow)
          clear c0 c1 c2 c3 c4 c5 x3 y1 hsz1
          have hwj : IntKind.i64.wrap ((j : Int) + 1) = (j : Int) + 1 := by rw [IntKind.wrap_i64]; have := HBN.out; omega
          have HLJ : Hid ((g (j + 1)).length = (g j).length + sl.length) := Lib.hid (by rw [HGJ.out, List.length_append])
          go_wp2_with fail
          go_roundg (m - (j + 1))
          case measure => omega
          case rel => exact ⟨j + 1, va2, vc2, by go_num, by rw [HLJ.out], by omega, by rw [HLJ.out, HGJ.out]; exact HO2, HU2⟩
        · have hjz : ¬ (j : Int) < (m : Int) := by omega
          obtain rfl : j = m := by omega
          have hwk : IntKind.i64.wrap ((k : Int) + 1) = (k : Int) + 1 := by rw [IntKind.wrap_i64]; omega
          go_wp2_with fail
          go_roundg (n - (k + 1))
          case measure => omega
          case rel => exact ⟨k + 1, va1, vc1, by go_num, by rw [HGM.out], by omega, by rw [HGM.out]; exact HOJ, HUJ⟩
    · have hltz : ¬ (k : Int) < (n : Int) := by omega
      obtain rfl : k = n := by omega
      go_wp2_with fail
      go_ret
      exact ⟨va, vc, rfl, row_mono HOW.out (by rw [HPE.out]; exact HSZ.out), HU.out.thn HUR.out⟩
end Go.Proofs.YtneodiemgemhfaaGreat
