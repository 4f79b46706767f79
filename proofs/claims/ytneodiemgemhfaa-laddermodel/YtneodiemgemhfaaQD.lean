/- LadderModel: the law's walk. -/
import Derived.Test.YtneodiemgemhfaaQE
import Derived.Deep.RegionHeld3
namespace Go.Proofs.Ytneodiemgemhfaa
open Go.RowKit Go.Lib

set_option maxRecDepth 100000 in
set_option maxHeartbeats 8000000 in
theorem Model_any (la : Option Addr) (lc : Nat) (os : List Ox) (w : World) (ho : Row LX w la os) (hoa : ∀ o ∈ os, U64 o.a) :
    Calls Try.prog 3 #[.slice la os.length lc] w fun e w' => e = .returned (.bool true) ∧ Upd [] w w' := by
  have HHD := Lib.hid head_true
  have HRO := Lib.hid ho
  have HOA := Lib.hid hoa
  obtain ⟨L, hL⟩ : ∃ L, L = os.length := ⟨_, rfl⟩
  rw [← hL]
  have HL := Lib.hid hL
  clear ho hoa hL
  go_enter Try.func3, Try.ntmps3
  go_upto_region 2 with (go_at_call 5; (with_reducible refine (HHD.out _).mono ?_); rintro e w0 ⟨rfl, hu0⟩)
  have HUW := Lib.hid hu0
  clear hu0 HHD
  by_cases hbig : L ≤ 150
  · have hd1 : decide (150 < (L : Int)) = false := decide_eq_false (by omega)
    go_upto_region 5 with (go_at_call 6; (with_reducible refine (LNew_has _).mono ?_); rintro e w1 ⟨l1, rfl, hB⟩; have HN1 := Lib.hid hB; clear hB; unfold encD cellsD)
    have hal := (Upd.refl [] w1).alloc (.cells #[.int .i64 l1.ts, .slice l1.top.ad l1.top.l.length l1.top.cap, .slice l1.rs.ad l1.rs.l.length l1.rs.cap, .slice l1.bot.ad l1.bot.l.length l1.bot.cap, .int .i64 l1.mv, .int .i64 l1.cp] 27)
    have hb : InBoxD w1.heap.size l1 (w1.alloc (.cells #[.int .i64 l1.ts, .slice l1.top.ad l1.top.l.length l1.top.cap, .slice l1.rs.ad l1.rs.l.length l1.rs.cap, .slice l1.bot.ad l1.bot.l.length l1.bot.cap, .int .i64 l1.mv, .int .i64 l1.cp] 27)) := ⟨heap_alloc1 _ _, HN1.out.has.stay hal⟩
    have hge : w.heap.size ≤ w1.heap.size := Nat.le_trans HUW.out.size HN1.out.upd.size
    replace HUW := Lib.hid (HUW.out.thn (HN1.out.upd.thn hal))
    have HQE : Hid (l1.ld = newL) := HN1.out.eq
    have HE1 : Hid (ReachM 0 0 l1.ld) := by rw [HN1.out.eq]; exact reachM_new
    generalize w1.alloc (.cells #[.int .i64 l1.ts, .slice l1.top.ad l1.top.l.length l1.top.cap, .slice l1.rs.ad l1.rs.l.length l1.rs.cap, .slice l1.bot.ad l1.bot.l.length l1.bot.cap, .int .i64 l1.mv, .int .i64 l1.cp] 27) = W at *
    generalize w1.heap.size = P at *
    have HB1 := Lib.hid hb
    have HGE := Lib.hid hge
    clear hal hb hge HN1 hd1
    go_wp2_with fail
    have HS1 : Hid (SortedAs W P l1.ld ⟨[], none, 0⟩) := ⟨by rw [HQE.out]; rfl, hasS_nil _ _, avS_nil _ _ _⟩
    clear HQE
    go_loopg [5, 6, 7] L (fun gk vs vl vi wr => ∃ (n k : Nat) (last : Int) (l : LdR) (s : SlR It), vs = .slice s.ad s.l.length s.cap ∧ vl = .int .i64 last ∧ vi = .int .i64 k ∧ k + gk = L ∧ Hid (n ≤ k) ∧ Hid (0 ≤ last ∧ last ≤ MaxT) ∧ Hid (InBoxD P l wr) ∧ Hid (ReachM n k l.ld) ∧ Hid (SortedAs wr P l.ld s) ∧ Hid (Upd [] w wr))
    case atStart => exact ⟨0, 0, 0, l1, ⟨[], none, 0⟩, rfl, rfl, rfl, by omega, Nat.le_refl 0, ⟨Int.le_refl 0, by decide⟩, HB1, HE1, HS1, HUW⟩
    case round =>
      obtain ⟨n, k, last, l, s, rfl, rfl, rfl, hkg, HNK, HLA, HB, HE, HS, HU⟩ := hrel
      clear HS1
      have HSL : Hid (s.l.length = lenD l.ld) := Lib.hid (by rw [HS.out.eq, sortI_length, ← lenD_its])
      obtain ⟨m, hm⟩ : ∃ m, m = s.l.length := ⟨_, rfl⟩
      rw [← hm] at HSL ⊢
      have HM := Lib.hid hm
      have HMB : Hid (m ≤ n) := by rw [HSL.out]; exact HE.out.len
      clear hm
      clear HB1 HE1 HUW
      by_cases hlt : k < L
      · have hltz : (k : Int) < (L : Int) := by omega
        have hko : k < os.length := by have := HL.out; omega
        obtain ⟨ob, oo, rfl, x0, x1, x2⟩ := (HRO.out.stay HU.out).op8 k hko
        have HUO := Lib.hid (HOA.out _ (List.getElem_mem hko))
        obtain ⟨o, hov⟩ : ∃ o, o = os[k]'hko := ⟨_, rfl⟩
        rw [← hov] at x0 x1 x2 HUO
        clear hov
        have hnk := HNK.out
        cases hp : o.p with
        | false =>
          rw [hp] at x0
          obtain ⟨tx, htx⟩ : ∃ tx, tx = timeX o last := ⟨_, rfl⟩
          have HTX : Hid (0 ≤ tx ∧ tx ≤ MaxT) := by rw [htx]; exact timeX_bd HLA.out
          have HTM := Lib.hid (fun V => time_has o last V HUO.out HLA.out)
          rw [← htx, hp] at HTM
          have hfit := HE.out.fit (by omega)
          have HIN : Hid (∀ V, Upd [] wr V → Calls Try.prog 8 #[encD l, aggI ⟨tx, k, 0⟩] V (GaveD V (insertL l.ld ⟨tx, k, 0⟩))) := fun V hv => Insert_has l ⟨tx, k, 0⟩ V (HB.out.2.stay hv) hfit.1 hfit.2 (HE.out.fresh _ rfl)
          have HE2 : Hid (ReachM (n + 1) (k + 1) (insertL l.ld ⟨tx, k, 0⟩)) := HE.out.insert ⟨tx, k, 0⟩ HTX.out rfl
          have HSO : Hid (sortI (s.l ++ [⟨tx, k, 0⟩]) = sortI (itemsL (insertL l.ld ⟨tx, k, 0⟩))) := HE.out.sorts ⟨tx, k, 0⟩ HTX.out rfl HS.out.eq
          generalize insertL l.ld ⟨tx, k, 0⟩ = g2 at *
          unfold encD cellsD aggI at HIN
          simp only at HIN
          obtain ⟨oa, hoa⟩ : ∃ oa, oa = o.a := ⟨_, rfl⟩
          obtain ⟨on, hon⟩ : ∃ on, on = o.n := ⟨_, rfl⟩
          rw [← hoa] at x1 HTM
          rw [← hon] at x2 HTM
          clear htx hfit hoa hon hp hko
          go_upto_region 12 with (go_at_call 7; (with_reducible refine (HTM.out _).mono ?_); rintro e W1 ⟨rfl, hu1⟩; have HU1 := Lib.hid hu1; clear hu1)
          have hal := (Upd.refl [] W1).alloc (.cells #[.int .i64 tx, .int .i64 k, .int .i64 0] 34)
          have bi := heap_alloc1 W1 (.cells #[.int .i64 tx, .int .i64 k, .int .i64 0] 34)
          have hlt1 : P < W1.heap.size := Nat.lt_of_lt_of_le (lt_block HB.out.1) HU1.out.size
          have HUA := Lib.hid (HU1.out.thn hal)
          generalize W1.alloc (.cells #[.int .i64 tx, .int .i64 k, .int .i64 0] 34) = W2 at *
          generalize W1.heap.size = PI at *
          have HBI := Lib.hid bi; have HPI := Lib.hid hlt1
          clear bi hlt1 HU1 hal x0 x1 x2
          replace HB := Lib.hid (HB.out.stay HUA.out)
          have HU2 := Lib.hid (HU.out.thn HUA.out)
          have HS2 : Hid (HasS LI W2 s) := HS.out.has.stay HUA.out
          have HAV : Hid (AvS s P) := HS.out.av
          have HIN2 := Lib.hid (HIN.out W2 HUA.out)
          clear HIN HS
          have hq : W2.heap[P]? = some (.cells #[.int .i64 l.ts, .slice l.top.ad l.top.l.length l.top.cap, .slice l.rs.ad l.rs.l.length l.rs.cap, .slice l.bot.ad l.bot.l.length l.bot.cap, .int .i64 l.mv, .int .i64 l.cp] 27 (0, 0)) := HB.out.1
          have HQ0 := Lib.hid hq
          obtain ⟨b0, b1, b2, b3, b4, b5⟩ := cells6 hq
          obtain ⟨i0, i1, i2⟩ := cells3 HBI.out
          clear hq
          go_upto_region 13 with (go_at_call 8; (with_reducible refine HIN2.out.mono ?_); rintro e W3 ⟨l2, rfl, hB⟩; have hq := hB.upd.at HQ0.out (by simp); obtain ⟨z0, z1, z2, z3, z4, z5⟩ := free6 hq; obtain ⟨y0, y1, y2, y3, y4, y5⟩ := cells6 hq; have HBN := Lib.hid hB; have HQF := Lib.hid hq; clear hB hq; unfold encD cellsD)
          have p2 := stored6 HQF.out (.int .i64 l2.ts) (.slice l2.top.ad l2.top.l.length l2.top.cap) (.slice l2.rs.ad l2.rs.l.length l2.rs.cap) (.slice l2.bot.ad l2.bot.l.length l2.bot.cap) (.int .i64 l2.mv) (.int .i64 l2.cp)
          have hU5 := upd_set6 W3 P (.int .i64 l2.ts) (.slice l2.top.ad l2.top.l.length l2.top.cap) (.slice l2.rs.ad l2.rs.l.length l2.rs.cap) (.slice l2.bot.ad l2.bot.l.length l2.bot.cap) (.int .i64 l2.mv) (.int .i64 l2.cp)
          with_reducible generalize (((((W3.setCell ⟨P, 0, none⟩ (.int .i64 l2.ts)).setCell ⟨P, 1, none⟩ (.slice l2.top.ad l2.top.l.length l2.top.cap)).setCell ⟨P, 2, none⟩ (.slice l2.rs.ad l2.rs.l.length l2.rs.cap)).setCell ⟨P, 3, none⟩ (.slice l2.bot.ad l2.bot.l.length l2.bot.cap)).setCell ⟨P, 4, none⟩ (.int .i64 l2.mv)).setCell ⟨P, 5, none⟩ (.int .i64 l2.cp) = W4 at p2 hU5 ⊢
          have HB3 : Hid (InBoxD P l2 W4) := HB.out.put HBN.out hU5 p2
          have HU3 : Hid (Upd [] w W4) := (HU2.out.thn HBN.out.upd).new hU5 HGE.out
          have HE3 : Hid (ReachM (n + 1) (k + 1) l2.ld) := by rw [HBN.out.eq]; exact HE2.out
          have HBI4 := Lib.hid (hU5.at (HBN.out.upd.at HBI.out (by simp)) (by have := HPI.out; simp only [List.mem_singleton]; omega))
          have HS4 : Hid (HasS LI W4 s) := (HS2.out.stay HBN.out.upd).keep1 hU5 HAV.out
          have HSO4 : Hid (sortI (s.l ++ [⟨tx, k, 0⟩]) = sortI (itemsL l2.ld)) := by rw [HBN.out.eq]; exact HSO.out
          have HP4 : Hid (P < W4.heap.size) := lt_block p2
          clear p2 hU5 HBN HQF b0 b1 b2 b3 b4 b5 y0 y1 y2 y3 y4 y5 z0 z1 z2 z3 z4 z5 HB HE HU HU2 HE2 HIN2 HTM HTX HBI HQ0 HS2 HAV HSO i0 i1 i2
          obtain ⟨i0, i1, i2⟩ := cells3 HBI4.out
          have HKP : Hid (∀ V, Upd [] W4 V → V.cell? ⟨PI, 0, none⟩ = some (.int .i64 tx) ∧ V.cell? ⟨PI, 1, none⟩ = some (.int .i64 k) ∧ V.cell? ⟨PI, 2, none⟩ = some (.int .i64 0)) := fun V hu => ⟨hu.cell i0 (by simp), hu.cell i1 (by simp), hu.cell i2 (by simp)⟩
          have HRW : Hid (∀ V, Upd [] W4 V → Row LI V s.ad s.l) := fun V hu => (HS4.out.stay hu).row
          have HNN : Hid (s.ad = none → s.cap = 0) := HS4.out.nn
          have HST : Hid (∀ V base va vc, V.ownsRow base 34 3 (.slice va (m + 1) vc) (m + 1) (LI.flat (s.l ++ [⟨tx, k, 0⟩])) → Calls Try.prog 9 #[.slice va (m + 1) vc] V (GaveS V (m + 1) (sortI (itemsL l2.ld)))) := fun V base va vc h => by
            have := Sort_row h (by have := HMB.out; have := HNK.out; omega)
            rw [HSO4.out] at this
            exact this
          obtain ⟨sa, hsa⟩ : ∃ sa, sa = s.ad := ⟨_, rfl⟩
          obtain ⟨sc, hsc⟩ : ∃ sc, sc = s.cap := ⟨_, rfl⟩
          rw [← hsa] at HRW HNN ⊢
          rw [← hsc] at HNN ⊢
          have hm1 : m ≤ 150 := by have := HMB.out; omega
          clear hsa hsc HS4
          generalize hxs : s.l = xs at HM HRW HST HSO4
          clear hxs
          have HLE : Hid ((sortI (itemsL l2.ld)).length = m + 1) := Lib.hid (by rw [← HSO4.out, sortI_length, List.length_append, ← HM.out]; rfl)
          have hwk : IntKind.i64.wrap ((k : Int) + 1) = (k : Int) + 1 := by rw [IntKind.wrap_i64]; omega
          go_region_held3 (fun wz => wz.cell? ⟨PI, 0, none⟩ = some (.int .i64 tx) ∧ wz.cell? ⟨PI, 1, none⟩ = some (.int .i64 k) ∧ wz.cell? ⟨PI, 2, none⟩ = some (.int .i64 0)) (first | exact ⟨i0, i1, i2⟩ | (refine HKP.out _ ?_; (repeat (first | exact Upd.refl [] _ | refine Upd.drew ?_ | refine Upd.alloc ?_ _ | refine Upd.trans (T := []) ?_ (by assumption) (by simp))))) (first
            | (refine step_app tyI rfl (.tmp 41) (.tmp 42) rfl W4.heap.size (.slice (some ⟨W4.heap.size, 0, none⟩) 0 0) 0 [] rfl (by first | exact World.ownsRow_made W4 #[] 0 (Nat.le_refl _) (Nat.zero_le _) (by simp) | exact (World.ownsRow_made W4 #[] 0 (Nat.le_refl _) (Nat.zero_le _) (by simp)).alloc _) sa m sc xs rfl HM.out (HRW.out _ (by (repeat (first | exact Upd.refl [] _ | refine Upd.drew ?_ | refine Upd.alloc ?_ _ | refine Upd.trans (T := []) ?_ (by assumption) (by simp))))) HNN.out (by omega) (by first | (simp; done) | (simp; omega)) ?_; intro v1 w3 hown hgrow; rw [Nat.zero_add, List.nil_append] at hown; have HO := Lib.hid hown; have hu3 : Upd [] W4 w3 := Upd.grown (by (repeat (first | exact Upd.refl [] _ | refine Upd.drew ?_ | refine Upd.alloc ?_ _ | refine Upd.trans (T := []) ?_ (by assumption) (by simp)))) hgrow (fun k hk hl => by simp [Value.ownBlock] at hk; omega); (first | have HBLK := Lib.hid ((upd_grown hgrow).at (b := w3) (heap_alloc2 W4 (.cells #[] 34) (.cells #[.int .i64 tx, .int .i64 k, .int .i64 0] 34)) (by simp [Value.ownBlock])) | have HBLK := Lib.hid ((upd_grown hgrow).at (b := w3) (((Upd.refl [] (W4.alloc (.cells #[.int .i64 tx, .int .i64 k, .int .i64 0] 34))).alloc (.cells #[] 34)).at (heap_alloc1 W4 (.cells #[.int .i64 tx, .int .i64 k, .int .i64 0] 34)) (by simp)) (by simp [Value.ownBlock])) | skip); clear hown hgrow)
            | (refine step_app tyI rfl (.tmp 41) (.tmp 42) rfl W4.heap.size (.slice (some ⟨W4.heap.size + 1, 0, none⟩) 0 0) 0 [] rfl (by exact made_second W4 (.cells #[.int .i64 tx, .int .i64 k, .int .i64 0] 34)) sa m sc xs rfl HM.out (HRW.out _ (by (repeat (first | exact Upd.refl [] _ | refine Upd.drew ?_ | refine Upd.alloc ?_ _ | refine Upd.trans (T := []) ?_ (by assumption) (by simp))))) HNN.out (by omega) (by first | (simp; done) | (simp; omega)) ?_; intro v1 w3 hown hgrow; rw [Nat.zero_add, List.nil_append] at hown; have HO := Lib.hid hown; have hu3 : Upd [] W4 w3 := Upd.grown (by (repeat (first | exact Upd.refl [] _ | refine Upd.drew ?_ | refine Upd.alloc ?_ _ | refine Upd.trans (T := []) ?_ (by assumption) (by simp)))) hgrow (fun k hk hl => by simp [Value.ownBlock] at hk; omega); (first | have HBLK := Lib.hid ((upd_grown hgrow).at (b := w3) (heap_alloc2 W4 (.cells #[] 34) (.cells #[.int .i64 tx, .int .i64 k, .int .i64 0] 34)) (by simp [Value.ownBlock])) | have HBLK := Lib.hid ((upd_grown hgrow).at (b := w3) (((Upd.refl [] (W4.alloc (.cells #[.int .i64 tx, .int .i64 k, .int .i64 0] 34))).alloc (.cells #[] 34)).at (heap_alloc1 W4 (.cells #[.int .i64 tx, .int .i64 k, .int .i64 0] 34)) (by simp)) (by simp [Value.ownBlock])) | skip); clear hown hgrow)
            | (refine step_app tyI rfl (.tmp 43) (.tmp 45) rfl W4.heap.size v1 m xs rfl (by first | exact HO.out | exact HO.out.alloc _) (some ⟨_, 0, none⟩) 1 1 [⟨tx, k, 0⟩] rfl rfl (row_one (by first | exact HBLK.out | exact heap_alloc1 _ _)) (fun e => by simp at e) (by omega) (by have := hu3.size; simp; omega) ?_; intro v2 w4 hown hgrow; obtain ⟨va, vc, rfl⟩ := row_shape hown; have HO2 : Hid (w4.ownsRow W4.heap.size 34 3 (.slice va (m + 1) vc) (m + 1) (LI.flat (xs ++ [⟨tx, k, 0⟩]))) := hown; have hu4 : Upd [] W4 w4 := Upd.grown (by (repeat (first | exact Upd.refl [] _ | refine Upd.drew ?_ | refine Upd.alloc ?_ _ | refine Upd.trans (T := []) ?_ (by assumption) (by simp)))) hgrow (fun k hk hl => by have := own_ge HO.out k hk; omega); clear hown hgrow)
            | (go_at_call 9; (with_reducible refine (HST.out _ _ _ _ HO2.out).mono ?_); rintro e w5 ⟨ad, ac, rfl, hh, hge, hu5⟩; have HHH := Lib.hid hh; have HHG := Lib.hid hge; have HU45 := Lib.hid (hu4.thn hu5); have HU4 := Lib.hid hu4; clear hh hge))
          all_goals go_wp2_with fail
          all_goals go_roundg (gk - 1)
          all_goals first
            | omega
            | exact ⟨n + 1, k + 1, last, l2, ⟨sortI (itemsL l2.ld), ad, ac⟩, by rw [HLE.out], rfl, by go_num, by omega, Nat.succ_le_succ HNK.out, HLA, HB3.out.stay HU45.out, HE3, ⟨rfl, HHH.out, fun _ a e => by have h1 := HHG.out a e; have h2 := HU4.out.size; have h3 := HP4.out; omega⟩, HU3.out.thn HU45.out⟩
        | true =>
          rw [hp] at x0
          have hfit := HE.out.fit (by omega)
          obtain ⟨pp, hpp⟩ : ∃ pp, pp = popL l.ld := ⟨_, rfl⟩
          have hpm := HE.out.pop
          have hpo := Pop_has l wr HB.out.2 hfit.1
          have hps := HE.out.pops HS.out.eq
          rw [← hpp] at hpm hpo hps
          obtain ⟨g2, ⟨i0, i1, i2⟩, ok⟩ := pp
          have HPM := Lib.hid hpm
          have HPO : Hid (Calls Try.prog 10 #[encD l] wr (Peeked wr (g2, ⟨i0, i1, i2⟩, ok))) := hpo
          have HPP := Lib.hid hps
          unfold encD cellsD at HPO
          clear hpp hpm hpo hfit hp hko hps
          obtain ⟨b0, b1, b2, b3, b4, b5⟩ := cells6 (show wr.heap[P]? = some (.cells #[.int .i64 l.ts, .slice l.top.ad l.top.l.length l.top.cap, .slice l.rs.ad l.rs.l.length l.rs.cap, .slice l.bot.ad l.bot.l.length l.bot.cap, .int .i64 l.mv, .int .i64 l.cp] 27 (0, 0)) from HB.out.1)
          go_upto_region 15 with (go_at_call 10; (with_reducible refine HPO.out.mono ?_); rintro e w2 ⟨l2, rfl, hB⟩; have HBN := Lib.hid hB; clear hB; unfold encD cellsD aggI; simp only)
          clear b0 b1 b2 b3 b4 b5 x0 x1 x2
          have hal := ((Upd.refl [] w2).alloc (.cells #[.int .i64 l2.ts, .slice l2.top.ad l2.top.l.length l2.top.cap, .slice l2.rs.ad l2.rs.l.length l2.rs.cap, .slice l2.bot.ad l2.bot.l.length l2.bot.cap, .int .i64 l2.mv, .int .i64 l2.cp] 27)).alloc (.cells #[.int .i64 i0, .int .i64 i1, .int .i64 i2] 34)
          obtain ⟨hb3, hi3⟩ := two_boxed w2 (.cells #[.int .i64 l2.ts, .slice l2.top.ad l2.top.l.length l2.top.cap, .slice l2.rs.ad l2.rs.l.length l2.rs.cap, .slice l2.bot.ad l2.bot.l.length l2.bot.cap, .int .i64 l2.mv, .int .i64 l2.cp] 27) (.cells #[.int .i64 i0, .int .i64 i1, .int .i64 i2] 34)
          have hIB : InBoxD w2.heap.size l2 ((w2.alloc (.cells #[.int .i64 l2.ts, .slice l2.top.ad l2.top.l.length l2.top.cap, .slice l2.rs.ad l2.rs.l.length l2.rs.cap, .slice l2.bot.ad l2.bot.l.length l2.bot.cap, .int .i64 l2.mv, .int .i64 l2.cp] 27)).alloc (.cells #[.int .i64 i0, .int .i64 i1, .int .i64 i2] 34)) := ⟨hb3, HBN.out.has.stay hal⟩
          have hu3 := HBN.out.upd.thn hal
          have hne : P < w2.heap.size := Nat.lt_of_lt_of_le (lt_block HB.out.1) HBN.out.upd.size
          have hav := HBN.out.av P (lt_block HB.out.1)
          have hld : l2.ld = g2 := HBN.out.eq
          have HB3 := Lib.hid hIB
          have HI3 := Lib.hid hi3
          generalize (w2.alloc (.cells #[.int .i64 l2.ts, .slice l2.top.ad l2.top.l.length l2.top.cap, .slice l2.rs.ad l2.rs.l.length l2.rs.cap, .slice l2.bot.ad l2.bot.l.length l2.bot.cap, .int .i64 l2.mv, .int .i64 l2.cp] 27)).alloc (.cells #[.int .i64 i0, .int .i64 i1, .int .i64 i2] 34) = W3 at *
          generalize w2.heap.size = P3 at *
          replace HB := Lib.hid (HB.out.stay hu3)
          replace HU := Lib.hid (HU.out.thn hu3)
          have HHS : Hid (HasS LI W3 s) := HS.out.has.stay hu3
          have HVS : Hid (AvS s P) := HS.out.av
          have HNE := Lib.hid hne; have HAV := Lib.hid hav
          have HR2 : Hid (ReachM n (k + 1) l2.ld) := by rw [hld]; exact HPM.out.reach
          have HTI : Hid (0 ≤ i0 ∧ i0 ≤ MaxT) := HPM.out.time
          have hpp := HPP.out
          simp only at hpp
          rw [← hld] at hpp
          clear hal hb3 hi3 hIB hu3 hne hav hld HBN HPO HPM HPP HE HS
          have hwk : IntKind.i64.wrap ((k : Int) + 1) = (k : Int) + 1 := by rw [IntKind.wrap_i64]; omega
          obtain ⟨i0c, i1c, i2c⟩ := cells3 HI3.out
          rcases hpp with ⟨rfl, hsl, hs2⟩ | ⟨rfl, hsl⟩
          · have hm0 : m = 0 := by rw [HM.out, hsl]; rfl
            have hd1 : decide ((0 : Int) < (m : Int)) = false := decide_eq_false (by omega)
            have hd2 : decide (0 < m) = false := decide_eq_false (by omega)
            have HEQ : Hid (s.l = sortI (itemsL l2.ld)) := by rw [hsl, hs2]; exact Lib.hid rfl
            have HML : Hid (s.l.length = m) := HM.out.symm
            clear hsl hs2 hm0
            go_upto_region 15 with (fail)
            go_quiet (fail)
            obtain ⟨W4, hW4⟩ : ∃ W4, W4 = W3.drewN nq := ⟨_, rfl⟩
            have hu : Upd [] W3 W4 := by rw [hW4]; exact (Upd.refl [] W3).drewN _
            rw [← hW4]
            clear hW4 i0c i1c i2c
            replace HB := Lib.hid (HB.out.stay hu)
            replace HB3 := Lib.hid (HB3.out.stay hu)
            replace HI3 := Lib.hid (hu.at HI3.out (by simp))
            replace HU := Lib.hid (HU.out.thn hu)
            replace HHS := Lib.hid (HHS.out.stay hu)
            obtain ⟨d0, d1, d2, d3, d4, d5⟩ := cells6 (show W4.heap[P3]? = some (.cells #[.int .i64 l2.ts, .slice l2.top.ad l2.top.l.length l2.top.cap, .slice l2.rs.ad l2.rs.l.length l2.rs.cap, .slice l2.bot.ad l2.bot.l.length l2.bot.cap, .int .i64 l2.mv, .int .i64 l2.cp] 27 (0, 0)) from HB3.out.1)
            have hq : W4.heap[P]? = some (.cells #[.int .i64 l.ts, .slice l.top.ad l.top.l.length l.top.cap, .slice l.rs.ad l.rs.l.length l.rs.cap, .slice l.bot.ad l.bot.l.length l.bot.cap, .int .i64 l.mv, .int .i64 l.cp] 27 (0, 0)) := HB.out.1
            obtain ⟨y0, y1, y2, y3, y4, y5⟩ := cells6 hq
            obtain ⟨z0, z1, z2, z3, z4, z5⟩ := free6 hq
            have HQF := Lib.hid hq
            clear hq
            clear hu
            go_upto_region 18 with (fail)
            have p2 := stored6 HQF.out (.int .i64 l2.ts) (.slice l2.top.ad l2.top.l.length l2.top.cap) (.slice l2.rs.ad l2.rs.l.length l2.rs.cap) (.slice l2.bot.ad l2.bot.l.length l2.bot.cap) (.int .i64 l2.mv) (.int .i64 l2.cp)
            have hU5 := upd_set6 W4 P (.int .i64 l2.ts) (.slice l2.top.ad l2.top.l.length l2.top.cap) (.slice l2.rs.ad l2.rs.l.length l2.rs.cap) (.slice l2.bot.ad l2.bot.l.length l2.bot.cap) (.int .i64 l2.mv) (.int .i64 l2.cp)
            with_reducible generalize (((((W4.setCell ⟨P, 0, none⟩ (.int .i64 l2.ts)).setCell ⟨P, 1, none⟩ (.slice l2.top.ad l2.top.l.length l2.top.cap)).setCell ⟨P, 2, none⟩ (.slice l2.rs.ad l2.rs.l.length l2.rs.cap)).setCell ⟨P, 3, none⟩ (.slice l2.bot.ad l2.bot.l.length l2.bot.cap)).setCell ⟨P, 4, none⟩ (.int .i64 l2.mv)).setCell ⟨P, 5, none⟩ (.int .i64 l2.cp) = W5 at p2 hU5 ⊢
            have HB5 : Hid (InBoxD P l2 W5) := ⟨p2, HB3.out.2.keep1 hU5 HAV.out⟩
            have HI5 := Lib.hid (hU5.at HI3.out (by have := HNE.out; simp only [List.mem_singleton]; omega))
            have HU5 : Hid (Upd [] w W5) := HU.out.new hU5 HGE.out
            have HS5 : Hid (SortedAs W5 P l2.ld s) := ⟨HEQ.out, HHS.out.keep1 hU5 HVS.out, HVS.out⟩
            clear p2 hU5 d0 d1 d2 d3 d4 d5 y0 y1 y2 y3 y4 y5 z0 z1 z2 z3 z4 z5 HB HB3 HI3 HU HQF HAV HNE hd1 hd2
            go_wp2_with fail
            go_roundg (gk - 1)
            case measure => omega
            case rel => exact ⟨n, k + 1, last, l2, s, by rw [HML.out], rfl, by go_num, by omega, Nat.le_succ_of_le HNK.out, HLA, HB5, HR2, HS5, HU5⟩
          · obtain ⟨ys, hys⟩ : ∃ ys, ys = sortI (itemsL l2.ld) := ⟨_, rfl⟩
            rw [← hys] at hsl
            have HYS := Lib.hid hys
            have hh := hasS_of HHS.out hsl
            obtain ⟨b, off, ead, r0, r1, r2⟩ := hh.row.item 0 (by simp)
            simp only [Nat.zero_mul, Nat.add_zero, List.getElem_cons_zero] at r0 r1 r2 ead
            have hbP : b ≠ P := HVS.out (by rw [hsl]; simp) _ ead
            rw [ead] at hh ⊢
            have HDR := Lib.hid (drop_has hh)
            have HBP := Lib.hid hbP
            have hle := hh.le
            simp only [List.length_cons] at hle
            have hmy : m = ys.length + 1 := by rw [HM.out, hsl]; rfl
            have HYL : Hid (ys.length = m - 1) := Lib.hid (by omega)
            obtain ⟨sc, hsc⟩ : ∃ sc, sc = s.cap := ⟨_, rfl⟩
            rw [← hsc] at HDR hle ⊢
            have hz1 : (1 : Int) ≤ (m : Int) := by omega
            have hm1 : 0 < m := by omega
            have hle2 : m ≤ sc := by omega
            have hd1 : decide ((0 : Int) < (m : Int)) = true := decide_eq_true (by omega)
            have hd2 : decide (0 < m) = true := decide_eq_true (by omega)
            have hne1 := neqItem ⟨i0, i1, i2⟩ ⟨i0, i1, i2⟩
            simp only at hne1
            clear hys hsl ead hbP hh hle hmy hsc HHS HVS
            go_upto_region 15 with (fail)
            go_quiet (fail)
            obtain ⟨W4, hW4⟩ : ∃ W4, W4 = W3.drewN nq := ⟨_, rfl⟩
            have hu : Upd [] W3 W4 := by rw [hW4]; exact (Upd.refl [] W3).drewN _
            rw [← hW4]
            clear hW4 i0c i1c i2c r0 r1 r2 hne1 hd1 hd2
            replace HB := Lib.hid (HB.out.stay hu)
            replace HB3 := Lib.hid (HB3.out.stay hu)
            replace HI3 := Lib.hid (hu.at HI3.out (by simp))
            replace HU := Lib.hid (HU.out.thn hu)
            replace HDR := Lib.hid (HDR.out.stay hu)
            obtain ⟨d0, d1, d2, d3, d4, d5⟩ := cells6 (show W4.heap[P3]? = some (.cells #[.int .i64 l2.ts, .slice l2.top.ad l2.top.l.length l2.top.cap, .slice l2.rs.ad l2.rs.l.length l2.rs.cap, .slice l2.bot.ad l2.bot.l.length l2.bot.cap, .int .i64 l2.mv, .int .i64 l2.cp] 27 (0, 0)) from HB3.out.1)
            have hq : W4.heap[P]? = some (.cells #[.int .i64 l.ts, .slice l.top.ad l.top.l.length l.top.cap, .slice l.rs.ad l.rs.l.length l.rs.cap, .slice l.bot.ad l.bot.l.length l.bot.cap, .int .i64 l.mv, .int .i64 l.cp] 27 (0, 0)) := HB.out.1
            obtain ⟨y0, y1, y2, y3, y4, y5⟩ := cells6 hq
            obtain ⟨z0, z1, z2, z3, z4, z5⟩ := free6 hq
            have HQF := Lib.hid hq
            clear hq
            clear hu
            go_upto_region 18 with (fail)
            have p2 := stored6 HQF.out (.int .i64 l2.ts) (.slice l2.top.ad l2.top.l.length l2.top.cap) (.slice l2.rs.ad l2.rs.l.length l2.rs.cap) (.slice l2.bot.ad l2.bot.l.length l2.bot.cap) (.int .i64 l2.mv) (.int .i64 l2.cp)
            have hU5 := upd_set6 W4 P (.int .i64 l2.ts) (.slice l2.top.ad l2.top.l.length l2.top.cap) (.slice l2.rs.ad l2.rs.l.length l2.rs.cap) (.slice l2.bot.ad l2.bot.l.length l2.bot.cap) (.int .i64 l2.mv) (.int .i64 l2.cp)
            with_reducible generalize (((((W4.setCell ⟨P, 0, none⟩ (.int .i64 l2.ts)).setCell ⟨P, 1, none⟩ (.slice l2.top.ad l2.top.l.length l2.top.cap)).setCell ⟨P, 2, none⟩ (.slice l2.rs.ad l2.rs.l.length l2.rs.cap)).setCell ⟨P, 3, none⟩ (.slice l2.bot.ad l2.bot.l.length l2.bot.cap)).setCell ⟨P, 4, none⟩ (.int .i64 l2.mv)).setCell ⟨P, 5, none⟩ (.int .i64 l2.cp) = W5 at p2 hU5 ⊢
            have HB5 : Hid (InBoxD P l2 W5) := ⟨p2, HB3.out.2.keep1 hU5 HAV.out⟩
            have HI5 := Lib.hid (hU5.at HI3.out (by have := HNE.out; simp only [List.mem_singleton]; omega))
            have HU5 : Hid (Upd [] w W5) := HU.out.new hU5 HGE.out
            obtain ⟨i0c, i1c, i2c⟩ := cells3 HI5.out
            by_cases hc : 1 < sc
            · have HS5 : Hid (SortedAs W5 P l2.ld ⟨ys, some ⟨b, off + 3, none⟩, sc - 1⟩) := by
                have h1 := HDR.out
                rw [if_pos hc] at h1
                have hav : AvS (⟨ys, some ⟨b, off + 3, none⟩, sc - 1⟩ : SlR It) P := fun _ a e => by obtain rfl := Option.some.inj e; exact HBP.out
                exact ⟨HYS.out, h1.keep1 hU5 hav, hav⟩
              clear p2 hU5 d0 d1 d2 d3 d4 d5 y0 y1 y2 y3 y4 y5 z0 z1 z2 z3 z4 z5 HB HB3 HI3 HU HQF HAV HNE HDR
              go_upto_region 9 with (fail)
              clear hz1 hm1 hle2 hc
              go_wp2_with fail
              go_roundg (gk - 1)
              case measure => omega
              case rel =>
                refine ⟨n, k + 1, i0, l2, ⟨ys, some ⟨b, off + 3, none⟩, sc - 1⟩, ?_, rfl, by go_num, by omega, Nat.le_succ_of_le HNK.out, HTI, HB5, HR2, HS5, HU5⟩
                simp only [HYL.out]
            · have HS5 : Hid (SortedAs W5 P l2.ld ⟨ys, some ⟨b, off, none⟩, sc - 1⟩) := by
                have h1 := HDR.out
                rw [if_neg hc] at h1
                have hav : AvS (⟨ys, some ⟨b, off, none⟩, sc - 1⟩ : SlR It) P := fun _ a e => by obtain rfl := Option.some.inj e; exact HBP.out
                exact ⟨HYS.out, h1.keep1 hU5 hav, hav⟩
              clear p2 hU5 d0 d1 d2 d3 d4 d5 y0 y1 y2 y3 y4 y5 z0 z1 z2 z3 z4 z5 HB HB3 HI3 HU HQF HAV HNE HDR
              go_upto_region 9 with (fail)
              clear hz1 hm1 hle2 hc
              go_wp2_with fail
              go_roundg (gk - 1)
              case measure => omega
              case rel =>
                refine ⟨n, k + 1, i0, l2, ⟨ys, some ⟨b, off, none⟩, sc - 1⟩, ?_, rfl, by go_num, by omega, Nat.le_succ_of_le HNK.out, HTI, HB5, HR2, HS5, HU5⟩
                simp only [HYL.out]
      · have hltz : ¬ (k : Int) < (L : Int) := by omega
        obtain rfl : k = L := by omega
        clear hkg
        obtain ⟨b0, b1, b2, b3, b4, b5⟩ := cells6 (show wr.heap[P]? = some (.cells #[.int .i64 l.ts, .slice l.top.ad l.top.l.length l.top.cap, .slice l.rs.ad l.rs.l.length l.rs.cap, .slice l.bot.ad l.bot.l.length l.bot.cap, .int .i64 l.mv, .int .i64 l.cp] 27 (0, 0)) from HB.out.1)
        have hfit := HE.out.fit (by have := HNK.out; omega)
        have HLN : Hid (∀ V, Upd [] wr V → Calls Try.prog 11 #[encD l] V fun e w' => e = .returned (.int .i64 (lenD l.ld : Nat)) ∧ Upd [] V w') := fun V hv => by
          have h1 := hfit.1.sizes
          exact PLen_has l V (HB.out.2.stay hv) (by omega) hfit.1.len (fun r hr => by rw [hfit.1.h8 r hr]; decide) (fun r hr s hs => by have := hfit.1.its r hr s hs; omega)
        rw [← HSL.out] at HLN
        unfold encD cellsD at HLN
        clear hfit
        go_wp2_with (go_at_call 11; (with_reducible refine (HLN.out _ (Upd.refl _ _)).mono ?_); rintro e W5 ⟨rfl, hu5⟩; have HU5 := Lib.hid hu5; clear hu5)
        go_ret
        exact ⟨by first | rfl | simp, HU.out.thn HU5.out⟩
  · have hd1 : decide (150 < (L : Int)) = true := decide_eq_true (by omega)
    go_wp2_with fail
    go_ret
    exact ⟨by first | rfl | simp, HUW.out⟩
end Go.Proofs.Ytneodiemgemhfaa
