
/- Contract: the program's Insert. -/
import Derived.Test.YtmfnfinbkdemkaaGreatPY
namespace Go.Proofs.YtmfnfinbkdemkaaGreat
open Go.RowKit Go.Lib

def GaveD (w : World) (g : Ld) (e : Ending) (w' : World) : Prop := ∃ l', e = .returned (encD l') ∧ BornD w g w' l'
set_option maxRecDepth 100000 in
set_option maxHeartbeats 8000000 in
theorem Insert_has (l : LdR) (it : It) (w : World) (h : HasD w l) (hf : Fit l) (hcp : l.cp ≤ 100000000000) (hd : ∀ x ∈ itemsL l.ld, ¬ eqK it x) : Calls Tryz.prog 55 #[encD l, aggI it] w (GaveD w (insertL l.ld it)) := by
  have HCL := Lib.hid (fun W (hu : Upd [] w W) => clone_fit l W (h.stay hu) hf)
  have HGD := Lib.hid hf.good
  have HSZS := Lib.hid hf.sizes
  have HLEN := Lib.hid hf.len
  have HDK := Lib.hid hd
  have HBD : Hid ((0 ≤ l.mv ∧ l.mv ≤ 100000000000) ∧ (0 ≤ l.cp ∧ l.cp ≤ 100000000000)) := ⟨⟨hf.good.mv0, hf.mv⟩, hf.good.cp0, hcp⟩
  have HLL : Hid (encD l = .agg #[.int .i64 l.ts, .slice l.top.ad l.top.l.length l.top.cap, .slice l.rs.ad l.rs.l.length l.rs.cap, .slice l.bot.ad l.bot.l.length l.bot.cap, .int .i64 l.mv, .int .i64 l.cp]) := rfl
  rw [HLL.out] at HCL ⊢
  obtain ⟨i0, i1, i2⟩ := it
  unfold aggI
  simp only
  clear h hf hcp hd
  go_enter Tryz.func55, Tryz.ntmps55
  go_upto_region 1 with (fail)
  generalize hA : (Obj.cells #[.int .i64 l.ts, .slice l.top.ad l.top.l.length l.top.cap, .slice l.rs.ad l.rs.l.length l.rs.cap, .slice l.bot.ad l.bot.l.length l.bot.cap, .int .i64 l.mv, .int .i64 l.cp] 68 : Obj) = A
  generalize hB : (Obj.cells #[.int .i64 i0, .int .i64 i1, .int .i64 i2] 36 : Obj) = B
  generalize hC : (Obj.cells #[.int .i64 0, .slice none 0 0, .slice none 0 0, .slice none 0 0, .int .i64 0, .int .i64 0] 68 : Obj) = C
  obtain ⟨hu, b0', b1', b2', hsz⟩ := three_boxes w A B C
  generalize ((w.alloc A).alloc B).alloc C = W at *
  generalize hH : w.heap.size = H at *
  rw [← hA] at b0'
  rw [← hB] at b1'
  rw [← hC] at b2'
  have b2' : W.heap[H + 1 + 1]? = _ := b2'
  have HU := Lib.hid hu; have HB0 := Lib.hid b0'; have HB1 := Lib.hid b1'; have HB2 := Lib.hid b2'; have HH := Lib.hid hH; have HSZ := Lib.hid hsz
  obtain ⟨c0, c1, c2, c3, c4, c5⟩ := cells6 b0'
  clear hu hA hB hC b0' b1' b2' hH hsz
  go_upto_region 2 with (go_at_call 69; (with_reducible refine (HCL.out _ HU.out).mono ?_); rintro e w1 ⟨lc, rfl, he, hO, hu⟩; have hq := hu.at HB0.out (by simp); obtain ⟨z0, z1, z2, z3, z4, z5⟩ := free6 hq; obtain ⟨y0, y1, y2, y3, y4, y5⟩ := cells6 hq; have HE := Lib.hid he; have HO := Lib.hid hO; have HU1 := Lib.hid hu; have HQF := Lib.hid hq; clear he hO hu hq; unfold encD cellsD)
  have p2 := stored6 HQF.out (.int .i64 lc.ts) (.slice lc.top.ad lc.top.l.length lc.top.cap) (.slice lc.rs.ad lc.rs.l.length lc.rs.cap) (.slice lc.bot.ad lc.bot.l.length lc.bot.cap) (.int .i64 lc.mv) (.int .i64 lc.cp)
  have hU5 := upd_set6 w1 H (.int .i64 lc.ts) (.slice lc.top.ad lc.top.l.length lc.top.cap) (.slice lc.rs.ad lc.rs.l.length lc.rs.cap) (.slice lc.bot.ad lc.bot.l.length lc.bot.cap) (.int .i64 lc.mv) (.int .i64 lc.cp)
  with_reducible generalize (((((w1.setCell ⟨H, 0, none⟩ (.int .i64 lc.ts)).setCell ⟨H, 1, none⟩ (.slice lc.top.ad lc.top.l.length lc.top.cap)).setCell ⟨H, 2, none⟩ (.slice lc.rs.ad lc.rs.l.length lc.rs.cap)).setCell ⟨H, 3, none⟩ (.slice lc.bot.ad lc.bot.l.length lc.bot.cap)).setCell ⟨H, 4, none⟩ (.int .i64 lc.mv)).setCell ⟨H, 5, none⟩ (.int .i64 lc.cp) = w2 at p2 hU5 ⊢
  have HS12 : Hid (W.heap.size ≤ w2.heap.size) := Nat.le_trans HU1.out.size hU5.size
  have q1 := hU5.at (HU1.out.at HB1.out (by simp)) (by simp)
  have q2 := hU5.at (HU1.out.at HB2.out (by simp)) (by simp only [List.mem_singleton]; omega)
  have HO2 := Lib.hid (HO.out.old (by have := HSZ.out; omega) hU5)
  have HUP2 : Hid (Upd [] w w2) := (HU.out.thn HU1.out).new hU5 (by have := HH.out; omega)
  have hbd : (0 ≤ lc.mv ∧ lc.mv ≤ 100000000000) ∧ (0 ≤ lc.cp ∧ lc.cp ≤ 100000000000) := by
    have h1 : lc.mv = l.mv := congrArg Ld.mv HE.out
    have h2 : lc.cp = l.cp := congrArg Ld.cp HE.out
    rw [h1, h2]; exact HBD.out
  obtain ⟨⟨bm0, bm1⟩, bc0, bc1⟩ := hbd
  have hw1 : IntKind.i64.wrap (lc.mv + 1) = lc.mv + 1 := by rw [IntKind.wrap_i64]; omega
  have hw2 : IntKind.i64.wrap (lc.cp + 1) = lc.cp + 1 := by rw [IntKind.wrap_i64]; omega
  have HP2 := Lib.hid p2; have HQ1 := Lib.hid q1; have HQ2 := Lib.hid q2
  clear c0 c1 c2 c3 c4 c5 z0 z1 z2 z3 z4 z5 y0 y1 y2 y3 y4 y5 hU5 q1 q2
  obtain ⟨c0, c1, c2, c3, c4, c5⟩ := cells6 p2
  obtain ⟨d0, d1, d2, d3, d4, d5⟩ := free6 p2
  clear p2 c0 c1 c2 c3 d0 d1 d2 d3
  go_upto_region 4 with (fail)
  have p3 := setCell_block (o := 5) (setCell_block (o := 4) HP2.out (.int .i64 (lc.mv + 1))) (.int .i64 (lc.cp + 1))
  have p3 : ((w2.setCell ⟨H, 4, none⟩ (.int .i64 (lc.mv + 1))).setCell ⟨H, 5, none⟩ (.int .i64 (lc.cp + 1))).heap[H]? = some (.cells #[.int .i64 lc.ts, .slice lc.top.ad lc.top.l.length lc.top.cap, .slice lc.rs.ad lc.rs.l.length lc.rs.cap, .slice lc.bot.ad lc.bot.l.length lc.bot.cap, .int .i64 (lc.mv + 1), .int .i64 (lc.cp + 1)] 68 (0, 0)) := p3
  have hU6 := (upd_set1 w2 H 4 (.int .i64 (lc.mv + 1))).trans (upd_set1 (w2.setCell ⟨H, 4, none⟩ (.int .i64 (lc.mv + 1))) H 5 (.int .i64 (lc.cp + 1))) (fun x hx _ => hx)
  with_reducible generalize (w2.setCell ⟨H, 4, none⟩ (.int .i64 (lc.mv + 1))).setCell ⟨H, 5, none⟩ (.int .i64 (lc.cp + 1)) = w3 at p3 hU6 ⊢
  have q1 := hU6.at HQ1.out (by simp)
  have q2 := hU6.at HQ2.out (by simp only [List.mem_singleton]; omega)
  have HO3 := Lib.hid (HO2.out.old (by have := HSZ.out; omega) hU6)
  have HUP3 : Hid (Upd [] w w3) := HUP2.out.new hU6 (by have := HH.out; omega)
  have HW3 : Hid (W.heap.size ≤ w3.heap.size) := Nat.le_trans HS12.out hU6.size
  have HQ1 := Lib.hid q1; have HQ2 := Lib.hid q2; have HP3 := Lib.hid p3
  clear c4 c5 d4 d5 hU6 p3 q1 q2
  have HFIN : Hid (∀ (wx wf : World) (lf : LdR), lf.ld = insertL l.ld ⟨i0, i1, i2⟩ → HasD wx lf → (∀ b, b < W.heap.size → AvD lf b) → Upd [] w wx → Upd [H + 1 + 1] wx wf → GaveD w (insertL l.ld ⟨i0, i1, i2⟩) (.returned (encD lf)) wf) := fun wx wf lf he hh hav hu hu2 => by
    have e1 := HH.out; have e2 := HSZ.out
    exact ⟨lf, rfl, he, hh.keep1 hu2 (hav (H + 1 + 1) (by omega)), fun b hb => hav b (by omega), hu.new hu2 (by omega)⟩
  obtain ⟨c0, c1, c2, c3, c4, c5⟩ := cells6 HP3.out
  obtain ⟨d0, d1, d2, d3, d4, d5⟩ := free6 HP3.out
  obtain ⟨x0, x1, x2⟩ := cells3 HQ1.out
  by_cases hts : lc.ts ≤ i0
  · have hdt : decide (lc.ts ≤ i0) = true := by simpa using hts
    have HOW := Lib.hid (fun O => ((Upd.refl [] w3).alloc O).row HO3.out.top (by simp))
    have HNT : Hid (lc.top.l.length ≤ 100000) := by have h1 := HSZS.out.1; have h2 : lc.top.l = l.top.l := congrArg Ld.top HE.out; rw [h2]; exact h1
    have hnt := HNT.out
    have hbw := HW3.out
    simp only [SlR.v] at HOW
    go_upto_region 6 with (at_builtin; (refine app_row tyI rfl _ _ rfl W.heap.size (.slice lc.top.ad lc.top.l.length lc.top.cap) lc.top.l.length lc.top.l rfl (HOW.out _) (some ⟨w3.heap.size, 0, none⟩) 1 1 [⟨i0, i1, i2⟩] rfl rfl (row_one (heap_alloc1 _ _)) (fun e => by simp at e) (by omega) (by simp; omega) ?_; intro v' w4 hown hgrow); obtain ⟨va, vc, rfl⟩ := row_shape hown; have hug := upd_grown hgrow; have hnH : ∀ x, x < W.heap.size → x ∉ (Value.slice lc.top.ad lc.top.l.length lc.top.cap).ownBlock.toList := (fun x hx hm => (by have := own_ge (HOW.out default) x (toList_of hm); omega)); have hq := hug.at (((Upd.refl [] w3).alloc _).at HP3.out (by simp)) (hnH H (by have := HSZ.out; omega)); have hq2 := hug.at (((Upd.refl [] w3).alloc _).at HQ2.out (by simp)) (hnH (H + 1 + 1) (by have := HSZ.out; omega)); obtain ⟨z0, z1, z2, z3, z4, z5⟩ := free6 hq; obtain ⟨y0, y1, y2, y3, y4, y5⟩ := cells6 hq; have HOWN := Lib.hid hown; have HUG : Hid (Upd lc.top.v.ownBlock.toList w3 w4) := (((Upd.refl [] w3).alloc _).mono (by simp)).trans hug (fun x hx _ => hx); have HQA := Lib.hid hq; have HQB := Lib.hid hq2; clear hown hgrow hug hnH hq hq2)
    have p4 : (w4.setCell ⟨H, 1, none⟩ (.slice va (lc.top.l.length + 1) vc)).heap[H]? = some (.cells #[.int .i64 lc.ts, .slice va (lc.top.l.length + 1) vc, .slice lc.rs.ad lc.rs.l.length lc.rs.cap, .slice lc.bot.ad lc.bot.l.length lc.bot.cap, .int .i64 (lc.mv + 1), .int .i64 (lc.cp + 1)] 68 (0, 0)) := setCell_block HQA.out _
    have hU7 := upd_set1 w4 H 1 (.slice va (lc.top.l.length + 1) vc)
    have q2 := hU7.at HQB.out (by simp only [List.mem_singleton]; omega)
    with_reducible generalize w4.setCell ⟨H, 1, none⟩ (.slice va (lc.top.l.length + 1) vc) = w5 at p4 hU7 q2 ⊢
    have QB := Lib.hid p4; have QR := Lib.hid q2
    obtain ⟨hD4, hA4⟩ := top_done (mv := lc.mv + 1) (cp := lc.cp + 1) HO3.out (n := lc.top.l.length + 1) (t' := lc.top.l ++ [⟨i0, i1, i2⟩]) (by simp) HOWN.out HUG.out
    have HD5 := Lib.hid (hD4.keep1 hU7 (hA4 H (by have := HSZ.out; omega)))
    have HA5 := Lib.hid hA4
    have HU5 : Hid (Upd [] w w5) := ((HUP3.out.mono (T := lc.top.v.ownBlock.toList) (by simp)).trans HUG.out (fun x hx _ => hx)).trans hU7 (fun x hx hl => by have := HH.out; simp at hx; omega) |>.trans (T := []) (Upd.refl _ _) (by simp) |> fun h => ⟨h.os, h.tape, h.output, h.size, fun k hk _ => h.block k hk (fun hm => by have h1 := own_ge HO3.out.top k (toList_of hm); have h2 := HSZ.out; have h3 := HH.out; omega)⟩
    clear c0 c1 c2 c3 c4 c5 d0 d1 d2 d3 d4 d5 x0 x1 x2 y0 y1 y2 y3 y4 y5 z0 z1 z2 z3 z4 z5 p4 hU7 q2 hD4 hA4
    have HTS : Hid (l.ld.ts ≤ i0) := by have h1 : lc.ts = l.ts := congrArg Ld.ts HE.out; show l.ts ≤ i0; rw [← h1]; exact hts

    obtain ⟨c0, c1, c2, c3, c4, c5⟩ := cells6 QB.out
    obtain ⟨y0, y1, y2, y3, y4, y5⟩ := cells6 QR.out
    obtain ⟨z0, z1, z2, z3, z4, z5⟩ := free6 QR.out
    go_wp2_with fail
    have g2 := stored6 QR.out (.int .i64 lc.ts) (.slice va (lc.top.l.length + 1) vc) (.slice lc.rs.ad lc.rs.l.length lc.rs.cap) (.slice lc.bot.ad lc.bot.l.length lc.bot.cap) (.int .i64 (lc.mv + 1)) (.int .i64 (lc.cp + 1))
    have u2 := upd_set6 w5 (H + 1 + 1) (.int .i64 lc.ts) (.slice va (lc.top.l.length + 1) vc) (.slice lc.rs.ad lc.rs.l.length lc.rs.cap) (.slice lc.bot.ad lc.bot.l.length lc.bot.cap) (.int .i64 (lc.mv + 1)) (.int .i64 (lc.cp + 1))
    with_reducible generalize (((((w5.setCell ⟨H + 1 + 1, 0, none⟩ (.int .i64 lc.ts)).setCell ⟨H + 1 + 1, 1, none⟩ (.slice va (lc.top.l.length + 1) vc)).setCell ⟨H + 1 + 1, 2, none⟩ (.slice lc.rs.ad lc.rs.l.length lc.rs.cap)).setCell ⟨H + 1 + 1, 3, none⟩ (.slice lc.bot.ad lc.bot.l.length lc.bot.cap)).setCell ⟨H + 1 + 1, 4, none⟩ (.int .i64 (lc.mv + 1))).setCell ⟨H + 1 + 1, 5, none⟩ (.int .i64 (lc.cp + 1)) = wf at g2 u2 ⊢
    obtain ⟨r0, r1, r2, r3, r4, r5⟩ := cells6 g2
    refine bodyPost_ret (v := .agg #[.int .i64 lc.ts, .slice va (lc.top.l.length + 1) vc, .slice lc.rs.ad lc.rs.l.length lc.rs.cap, .slice lc.bot.ad lc.bot.l.length lc.bot.cap, .int .i64 (lc.mv + 1), .int .i64 (lc.cp + 1)]) (by simp [results, Tryz.results55, go_sem, r0, r1, r2, r3, r4, r5]) rfl ?_
    have hfin := HFIN.out w5 wf ⟨lc.ts, ⟨lc.top.l ++ [⟨i0, i1, i2⟩], va, vc⟩, lc.rs, lc.bot, lc.mv + 1, lc.cp + 1⟩ (by rw [insertL_top HTS.out, ← HE.out]; rfl) HD5.out HA5.out HU5.out u2
    simp only [encD, cellsD, List.length_append, List.length_singleton] at hfin
    exact hfin
  · have hdt : decide (lc.ts ≤ i0) = false := by simpa using hts
    obtain ⟨n, hn⟩ : ∃ n, n = lc.rs.l.length := ⟨_, rfl⟩
    have HN := Lib.hid hn
    have hn4 : n ≤ 4 := by have h1 := HSZS.out.2.1; have h2 : lc.rs.l.map RgR.rg = l.rs.l.map RgR.rg := congrArg Ld.rs HE.out; have h3 := congrArg List.length h2; simp only [List.length_map] at h3; omega
    have HTS : Hid (i0 < lc.ld.ts) := Int.not_le.1 hts
    have HGC : Hid (GoodL lc.ld) := by rw [HE.out]; exact HGD.out
    have HLC : Hid (lenD lc.ld ≤ 100000) := by rw [HE.out]; exact HLEN.out
    have HCK0 : Hid (lc.cp + 1 = lc.cp + 1 + ((0 : Nat) : Int)) := by show _ = _; omega
    rw [← hn] at c2
    have HP3' : Hid (w3.heap[H]? = some (.cells #[.int .i64 lc.ts, .slice lc.top.ad lc.top.l.length lc.top.cap, .slice lc.rs.ad n lc.rs.cap, .slice lc.bot.ad lc.bot.l.length lc.bot.cap, .int .i64 (lc.mv + 1), .int .i64 (lc.cp + 1)] 68 (0, 0))) := by rw [HN.out]; exact HP3.out
    clear hn
    go_upto_region 7 with (fail)
    go_wp2_with fail
    clear c0 c1 c2 c3 c4 c5 d0 d1 d2 d3 d4 d5 x0 x1 x2 hts
    go_loopg [34] n (fun gk vi wr => ∃ (k : Nat) (ck : Int), vi = .int .i64 k ∧ k + gk = n ∧ Hid (ck = lc.cp + 1 + (k : Int)) ∧ Hid (Upd [H] w3 wr) ∧ Hid (wr.heap[H]? = some (.cells #[.int .i64 lc.ts, .slice lc.top.ad lc.top.l.length lc.top.cap, .slice lc.rs.ad n lc.rs.cap, .slice lc.bot.ad lc.bot.l.length lc.bot.cap, .int .i64 (lc.mv + 1), .int .i64 ck] 68 (0, 0))) ∧ Hid (∀ j (hj : j < k) (h : j < lc.rs.l.length), i0 < curT (lc.rs.l[j]).rg))
    case atStart => exact ⟨0, lc.cp + 1, rfl, by omega, HCK0, Upd.refl _ _, HP3', fun j hj => by omega⟩
    case round =>
      obtain ⟨k, ck, rfl, hkg, HCK, HUR, HB, HNO⟩ := hrel
      have HOR := Lib.hid (HO3.out.old (by have := HSZ.out; omega) HUR.out)
      have QI := Lib.hid (HUR.out.at HQ1.out (by simp))
      have QR0 := Lib.hid (HUR.out.at HQ2.out (by simp only [List.mem_singleton]; omega))
      have HUWR : Hid (Upd [] w wr) := HUP3.out.new HUR.out (by have := HH.out; omega)
      have HWR : Hid (W.heap.size ≤ wr.heap.size) := Nat.le_trans HW3.out HUR.out.size
      obtain ⟨c0, c1, c2, c3, c4, c5⟩ := cells6 HB.out
      obtain ⟨d0, d1, d2, d3, d4, d5⟩ := free6 HB.out
      by_cases hlt : k < n
      · have hltz : (k : Int) < (n : Int) := by omega
        have hk1 : k < lc.rs.l.length := by have := HN.out; omega
        have hwk : IntKind.i64.wrap (ck + 1) = ck + 1 := by rw [IntKind.wrap_i64]; have := HCK.out; omega
        obtain ⟨_, g, cap, ev, hbg, hh⟩ := held_row (L := LR) HOR.out.rs (by omega)
        simp only [SlR.v, Value.slice.injEq] at ev
        obtain ⟨hrs, _, hcap⟩ := ev
        have hcl := fun t u (hu : (LR.enc lc.rs.l[k])[t]? = some u) => hh.cell k hk1 t u hu
        have HHD := Lib.hid hh
        have hmem := List.getElem_mem hk1
        have hgr : GoodR (lc.rs.l[k]).rg := (okRs_mem HGC.out.rs (List.mem_map_of_mem hmem)).1
        have hlr : lenL (lc.rs.l[k]).rg.bs ≤ 100000 := Nat.le_trans (len_rs (l := lc.ld) (List.mem_map_of_mem hmem)) HLC.out
        have HCUR := Lib.hid (fun W => Current_has lc.rs.l[k] W hgr)
        have HPUT := Lib.hid (fun Wp (hu : Upd [] wr Wp ∨ ∃ b, b < W.heap.size ∧ Upd [b] wr Wp) => Put_has lc.rs.l[k] ⟨i0, i1, i2⟩ Wp (by
          rcases hu with hu | ⟨b, hb, hu⟩
          · exact (HOR.out.rg _ hmem).1.stay hu
          · exact (HOR.out.rg _ hmem).1.keep1 hu ((HOR.out.rg _ hmem).2 b hb)) hgr hlr)
        have HRD := Lib.hid (fun (Wp w6 w7 : World) (r' : RgR) (hO : Own W.heap.size Wp lc) (hN : Nxt Wp lc.rs.l[k] (putR (lc.rs.l[k]).rg ⟨i0, i1, i2⟩).1 w6 r') (h3 : w7 = stores w6 g (k * LR.k) (LR.enc r')) => rung_done (mv := lc.mv + 1) (cp := ck + 1) hO hk1 rfl hrs hN h3)
        have HINS : Hid (curT (lc.rs.l[k]).rg ≤ i0 → ∀ r' : RgR, r'.rg = (putR (lc.rs.l[k]).rg ⟨i0, i1, i2⟩).1 → (⟨lc.ts, lc.top, ⟨lc.rs.l.set k r', lc.rs.ad, lc.rs.cap⟩, lc.bot, lc.mv + 1, ck + 1⟩ : LdR).ld = insertL l.ld ⟨i0, i1, i2⟩) := fun hc r' hr' => by
          rw [← HE.out, insertL_rung (Int.not_le.2 HTS.out) (k := k) (by simp only [LdR.ld, List.length_map]; exact hk1) (fun j hj => by simp only [LdR.ld, List.getElem_map]; exact Int.not_le.2 (HNO.out j hj (by omega))) (by simp only [LdR.ld, List.getElem_map]; exact hc)]
          have e1 := HCK.out
          simp only [LdR.ld, List.map_set, hr', List.getElem_map, Ld.mk.injEq, true_and]
          omega
        have HRK : Hid (encR lc.rs.l[k] = .agg #[.int .i64 lc.rs.l[k].fr, .int .i64 lc.rs.l[k].wd, .int .i64 lc.rs.l[k].cu, .slice lc.rs.l[k].bk.ad lc.rs.l[k].bk.l.length lc.rs.l[k].bk.cap]) := rfl
        rw [HRK.out] at HCUR HPUT
        unfold aggI at HPUT
        simp only at HPUT
        have k0 := (hcl 0 _ rfl).1; have k1 := (hcl 1 _ rfl).1; have k2 := (hcl 2 _ rfl).1; have k3 := (hcl 3 _ rfl).1
        simp only [Nat.add_zero, show LR.k = 4 from rfl] at k0 k1 k2 k3
        have HNX : Hid (∀ j (hj : j < k + 1) (h : j < lc.rs.l.length), i0 < curT (lc.rs.l[k]).rg → i0 < curT (lc.rs.l[j]).rg) := fun j hj h hc => by
          by_cases e : j = k
          · subst e; exact hc
          · exact HNO.out j (by omega) h
        rw [hrs] at c2
        have HRS := Lib.hid hrs
        have HGB := Lib.hid hbg
        have HGT : Hid (g < wr.heap.size) := hh.lt
        clear hcl hh hgr hlr hmem hcap HRK hbg
        generalize hct : curT (lc.rs.l[k]).rg = ct at *
        generalize hrk : lc.rs.l[k] = rk at *
        generalize rk.fr = f0 at *
        generalize rk.wd = f1 at *
        generalize rk.cu = f2 at *
        generalize rk.bk.ad = fa at *
        generalize rk.bk.l.length = fn at *
        generalize rk.bk.cap = fc at *
        clear hct hrk
        go_upto_region 10 with (fail)
        have hu4 := (Upd.refl [] wr).alloc (.cells #[.int .i64 f0, .int .i64 f1, .int .i64 f2, .slice fa fn fc] 93)
        have bP := heap_alloc1 wr (.cells #[.int .i64 f0, .int .i64 f1, .int .i64 f2, .slice fa fn fc] 93)
        generalize wr.alloc (.cells #[.int .i64 f0, .int .i64 f1, .int .i64 f2, .slice fa fn fc] 93) = W4 at *
        have HPG : Hid (H + 3 ≤ wr.heap.size ∧ g < wr.heap.size ∧ H + 3 ≤ g) := ⟨by have h1 := HWR.out; have h2 := HSZ.out; omega, HGT.out, by have h1 := HGB.out; have h2 := HSZ.out; omega⟩
        generalize wr.heap.size = P at *
        have q0 := hu4.at HB.out (by simp)
        rw [HRS.out] at q0
        have qi := hu4.at QI.out (by simp)
        have qr := hu4.at QR0.out (by simp)
        clear c0 c1 c2 c3 c4 c5 d0 d1 d2 d3 d4 d5 k0 k1 k2 k3
        have c5 := (cells6 q0).2.2.2.2.2
        have d5 := (free6 q0).2.2.2.2.2
        have HQ0 := Lib.hid q0
        go_upto_region 11 with (fail)
        have p5 : (W4.setCell ⟨H, 5, none⟩ (.int .i64 (ck + 1))).heap[H]? = some (.cells #[.int .i64 lc.ts, .slice lc.top.ad lc.top.l.length lc.top.cap, .slice (some ⟨g, 0, none⟩) n lc.rs.cap, .slice lc.bot.ad lc.bot.l.length lc.bot.cap, .int .i64 (lc.mv + 1), .int .i64 (ck + 1)] 68 (0, 0)) := setCell_block HQ0.out _
        have hu5 := upd_set1 W4 H 5 (.int .i64 (ck + 1))
        have qi := hu5.at qi (by simp)
        have qr := hu5.at qr (by simp only [List.mem_singleton]; omega)
        have bP := hu5.at bP (by have := HPG.out; simp only [List.mem_singleton]; omega)
        have HUH : Hid (Upd [H] wr (W4.setCell ⟨H, 5, none⟩ (.int .i64 (ck + 1)))) := (hu4.mono (T := [H]) (by simp)).trans hu5 (fun x hx _ => hx)
        with_reducible generalize W4.setCell ⟨H, 5, none⟩ (.int .i64 (ck + 1)) = W5 at p5 hu5 qi qr bP HUH ⊢
        have QB := Lib.hid p5; have QI5 := Lib.hid qi; have QR5 := Lib.hid qr; have QP := Lib.hid bP
        clear c5 d5 q0 hu4 hu5 p5 qr
        obtain ⟨m0, m1, m2, m3⟩ := cells4 bP
        obtain ⟨x0, x1, x2⟩ := cells3 qi
        have km0 := kept_at m0; have km1 := kept_at m1; have km2 := kept_at m2; have km3 := kept_at m3; have kx0 := kept_at x0
        clear bP qi m0 m1 m2 m3 x0 x1 x2
        refine wp_region_quiet_kept mixed (by kernel_rfl) ?_
        repeat (go_big_quiet_step (first | (go_at_call 67; exact calls_kept (HCUR.out _))))
        refine wpQuiet_nil ?_
        intro Wx hw'
        obtain ⟨⟨Wy, hu⟩, hw''⟩ := hw'
        simp only at hw''
        subst hw''
        clear km0 km1 km2 km3 kx0
        have QB := Lib.hid (hu.at QB.out (by simp)); have QI6 := Lib.hid (hu.at QI5.out (by simp)); have QR := Lib.hid (hu.at QR5.out (by simp)); have QPx := Lib.hid (hu.at QP.out (by simp))
        have HUX : Hid (Upd [H] wr Wx) := HUH.out.trans (T := []) hu (by simp)
        clear hu
        by_cases hci : ct ≤ i0
        · have hdc : decide (ct ≤ i0) = true := by simpa using hci
          have HIN2 := Lib.hid (HINS.out hci)
          have HOX := Lib.hid (HOR.out.old (by have := HSZ.out; omega) HUX.out)
          have HHX := Lib.hid (HHD.out.keep HUX.out (by have h1 := HGB.out; have h2 := HSZ.out; simp only [List.mem_singleton]; omega))
          obtain ⟨c0, c1, c2, c3, c4, c5⟩ := cells6 QB.out
          obtain ⟨m0, m1, m2, m3⟩ := cells4 QPx.out
          obtain ⟨x0, x1, x2⟩ := cells3 QI6.out
          have HKP := Lib.hid (fun W (hu : Upd [g] Wx W) => (⟨hu.cell c2 (by have := HPG.out; simp; omega), hu.cell m0 (by have := HPG.out; simp; omega), hu.cell m1 (by have := HPG.out; simp; omega), hu.cell m2 (by have := HPG.out; simp; omega), hu.cell m3 (by have := HPG.out; simp; omega), hu.cell x0 (by have := HPG.out; simp; omega), hu.cell x1 (by have := HPG.out; simp; omega), hu.cell x2 (by have := HPG.out; simp; omega)⟩ : W.cell? ⟨H, 2, none⟩ = some (.slice (some ⟨g, 0, none⟩) n lc.rs.cap) ∧ W.cell? ⟨P, 0, none⟩ = some (.int .i64 f0) ∧ W.cell? ⟨P, 1, none⟩ = some (.int .i64 f1) ∧ W.cell? ⟨P, 2, none⟩ = some (.int .i64 f2) ∧ W.cell? ⟨P, 3, none⟩ = some (.slice fa fn fc) ∧ W.cell? ⟨H + 1, 0, none⟩ = some (.int .i64 i0) ∧ W.cell? ⟨H + 1, 1, none⟩ = some (.int .i64 i1) ∧ W.cell? ⟨H + 1, 2, none⟩ = some (.int .i64 i2)))
          clear c0 c1 c3 c4 c5
          go_upto_region 12 with (fail)
          go_region_held3 (fun wz => wz.cell? ⟨H, 2, none⟩ = some (.slice (some ⟨g, 0, none⟩) n lc.rs.cap) ∧ wz.cell? ⟨P, 0, none⟩ = some (.int .i64 f0) ∧ wz.cell? ⟨P, 1, none⟩ = some (.int .i64 f1) ∧ wz.cell? ⟨P, 2, none⟩ = some (.int .i64 f2) ∧ wz.cell? ⟨P, 3, none⟩ = some (.slice fa fn fc) ∧ wz.cell? ⟨H + 1, 0, none⟩ = some (.int .i64 i0) ∧ wz.cell? ⟨H + 1, 1, none⟩ = some (.int .i64 i1) ∧ wz.cell? ⟨H + 1, 2, none⟩ = some (.int .i64 i2)) (first | (with_reducible exact ⟨c2, m0, m1, m2, m3, x0, x1, x2⟩) | (refine HKP.out _ ?_; (repeat (first | (with_reducible exact Upd.refl [g] _) | (with_reducible refine Upd.drew ?_) | refine Upd.setCell ?_ (by simp) _ | (with_reducible refine Upd.trans (T := []) ?_ hNx.upd (by simp)))); done)) (first
            | (go_at_call 79; (with_reducible refine (HPUT.out Wx.drew (.inr ⟨H, (by have := HSZ.out; omega), HUX.out.drew⟩)).mono ?_); rintro e W6 ⟨r2, rfl, hNx⟩; have hhx := HHX.out.keep (by (repeat (first | exact Upd.refl [] _ | refine Upd.drew ?_ | refine Upd.trans (T := []) ?_ hNx.upd (by simp))) : Upd [] Wx W6) (by simp); have k0 := (hhx.cell k hk1 0 _ rfl); have k1 := (hhx.cell k hk1 1 _ rfl); have k2 := (hhx.cell k hk1 2 _ rfl); have k3 := (hhx.cell k hk1 3 _ rfl); simp only [Nat.add_zero, show LR.k = 4 from rfl] at k0 k1 k2 k3; obtain ⟨k0, j0⟩ := k0; obtain ⟨k1, j1⟩ := k1; obtain ⟨k2, j2⟩ := k2; obtain ⟨k3, j3⟩ := k3; have HRD2 := Lib.hid (fun w7 => HRD.out _ W6 w7 r2 (HOX.out.stay (by (repeat (first | exact Upd.refl [] _ | refine Upd.drew ?_)))) hNx); have HN6 := Lib.hid hNx.eq; have HU6 : Hid (Upd [] Wx W6) := (by (repeat (first | exact Upd.refl [] _ | refine Upd.drew ?_ | refine Upd.trans (T := []) ?_ hNx.upd (by simp)))); unfold encR))
          have h3 : (((W6.setCell ⟨g, k * 4, none⟩ (.int .i64 r2.fr)).setCell ⟨g, k * 4 + 1, none⟩ (.int .i64 r2.wd)).setCell ⟨g, k * 4 + 2, none⟩ (.int .i64 r2.cu)).setCell ⟨g, k * 4 + 3, none⟩ (.slice r2.bk.ad r2.bk.l.length r2.bk.cap) = stores W6 g (k * LR.k) (LR.enc r2) := rfl
          obtain ⟨hD7, hA7, hU7, _⟩ := HRD2.out _ h3
          clear h3
          with_reducible generalize (((W6.setCell ⟨g, k * 4, none⟩ (.int .i64 r2.fr)).setCell ⟨g, k * 4 + 1, none⟩ (.int .i64 r2.wd)).setCell ⟨g, k * 4 + 2, none⟩ (.int .i64 r2.cu)).setCell ⟨g, k * 4 + 3, none⟩ (.slice r2.bk.ad r2.bk.l.length r2.bk.cap) = w7 at hD7 hU7 ⊢
          have QB := Lib.hid (hU7.at (HU6.out.at QB.out (by simp)) (by have := HPG.out; simp only [List.mem_singleton]; omega))
          have QR := Lib.hid (hU7.at (HU6.out.at QR.out (by simp)) (by have := HPG.out; simp only [List.mem_singleton]; omega))
          have HD7 := Lib.hid hD7; have HA7 := Lib.hid hA7
          have HU7 : Hid (Upd [] w w7) := ((HUWR.out.new HUX.out (by have := HH.out; omega)).thn HU6.out).new hU7 (by have h1 := HPG.out; have h2 := HH.out; omega)
          clear c2 m0 m1 m2 m3 x0 x1 x2 hhx k0 k1 k2 k3 j0 j1 j2 j3 hNx hD7 hA7 hU7

          obtain ⟨c0, c1, c2, c3, c4, c5⟩ := cells6 QB.out
          obtain ⟨y0, y1, y2, y3, y4, y5⟩ := cells6 QR.out
          obtain ⟨z0, z1, z2, z3, z4, z5⟩ := free6 QR.out
          go_wp2_with fail
          have g2 := stored6 QR.out (.int .i64 lc.ts) (.slice lc.top.ad lc.top.l.length lc.top.cap) (.slice (some ⟨g, 0, none⟩) n lc.rs.cap) (.slice lc.bot.ad lc.bot.l.length lc.bot.cap) (.int .i64 (lc.mv + 1)) (.int .i64 (ck + 1))
          have u2 := upd_set6 w7 (H + 1 + 1) (.int .i64 lc.ts) (.slice lc.top.ad lc.top.l.length lc.top.cap) (.slice (some ⟨g, 0, none⟩) n lc.rs.cap) (.slice lc.bot.ad lc.bot.l.length lc.bot.cap) (.int .i64 (lc.mv + 1)) (.int .i64 (ck + 1))
          with_reducible generalize (((((w7.setCell ⟨H + 1 + 1, 0, none⟩ (.int .i64 lc.ts)).setCell ⟨H + 1 + 1, 1, none⟩ (.slice lc.top.ad lc.top.l.length lc.top.cap)).setCell ⟨H + 1 + 1, 2, none⟩ (.slice (some ⟨g, 0, none⟩) n lc.rs.cap)).setCell ⟨H + 1 + 1, 3, none⟩ (.slice lc.bot.ad lc.bot.l.length lc.bot.cap)).setCell ⟨H + 1 + 1, 4, none⟩ (.int .i64 (lc.mv + 1))).setCell ⟨H + 1 + 1, 5, none⟩ (.int .i64 (ck + 1)) = wf at g2 u2 ⊢
          obtain ⟨r0, r1, r2', r3, r4, r5⟩ := cells6 g2
          refine bodyPost_ret (v := .agg #[.int .i64 lc.ts, .slice lc.top.ad lc.top.l.length lc.top.cap, .slice (some ⟨g, 0, none⟩) n lc.rs.cap, .slice lc.bot.ad lc.bot.l.length lc.bot.cap, .int .i64 (lc.mv + 1), .int .i64 (ck + 1)]) (by simp [results, Tryz.results55, go_sem, r0, r1, r2', r3, r4, r5]) rfl ?_
          have hfin := HFIN.out w7 wf _ (HIN2.out r2 HN6.out) HD7.out HA7.out HU7.out u2
          simp only [encD, cellsD, List.length_set, HRS.out, ← HN.out] at hfin
          exact hfin
        · have hdc : decide (ct ≤ i0) = false := by simpa using hci
          go_wp2_with fail
          rw [← HRS.out]
          go_roundg (n - (k + 1))
          case measure => omega
          case rel => exact ⟨k + 1, ck + 1, by go_num, by omega, by have := HCK.out; show _ = _; omega, HUR.out.trans HUX.out (fun x hx _ => hx), by rw [HRS.out]; exact QB.out, fun j hj h => HNX.out j hj h (by omega)⟩
      · have hltz : ¬ (k : Int) < (n : Int) := by omega
        obtain rfl : k = n := by omega
        have HBL : Hid (lc.bot.l.length ≤ 100000) := by have h1 := HSZS.out.2.2; have h2 : lc.bot.l = l.bot.l := congrArg Ld.bot HE.out; rw [h2]; exact h1
        have HSE := Lib.hid (fun Wp (hu : Upd [] wr Wp) => Search_has lc.bot.ad lc.bot.cap lc.bot.l ⟨i0, i1, i2⟩ Wp ((HOR.out.stay hu).has.bot.row) (Nat.le_trans HBL.out (by decide)) HGC.out.srt.sorted)
        have HSI := Lib.hid (fun (Wp : World) (p : Nat) (hp : p ≤ lc.bot.l.length) (hu : Upd [] wr Wp) => SInsert_has lc.bot ⟨i0, i1, i2⟩ p Wp.heap.size W.heap.size (Wp.alloc (.cells #[.int .i64 i0, .int .i64 i1, .int .i64 i2] 36)) hp (((Upd.refl [] Wp).alloc _).row (HOR.out.stay hu).bot (by simp)) HBL.out (heap_alloc1 Wp _) (fun e => by have := ((HOR.out.stay hu).bot.lt _ e).2; omega) (by have h1 := HWR.out; have h2 := hu.size; simp; omega))
        have HBD2 := Lib.hid (fun (Wp w' : World) (s' : SlR It) (hu : Upd [] wr Wp) (hs : HasS LI w' s') (hav : ∀ b, b < W.heap.size → AvS s' b) (hu2 : Upd lc.bot.v.ownBlock.toList Wp w') => bot_done (mv := lc.mv + 1) (cp := ck) (HOR.out.stay hu) hs hav hu2)
        have HEQ : Hid (∀ (p : Nat) (s' : SlR It), p ≤ lc.bot.l.length → (∀ i (h : i < lc.bot.l.length), i < p → ltI lc.bot.l[i] ⟨i0, i1, i2⟩) → (∀ i (h : i < lc.bot.l.length), p ≤ i → ¬ ltI lc.bot.l[i] ⟨i0, i1, i2⟩) → s'.l = lc.bot.l.take p ++ ⟨i0, i1, i2⟩ :: lc.bot.l.drop p → (⟨lc.ts, lc.top, lc.rs, s', lc.mv + 1, ck⟩ : LdR).ld = insertL l.ld ⟨i0, i1, i2⟩) := fun p s' hp h1 h2 h3 => by
          have h4 := found_pl hp h1 h2 (fun x hx => HDK.out x (by rw [← HE.out]; exact List.mem_append_left _ (List.mem_append_right _ hx)))
          rw [← HE.out, insertL_bot (Int.not_le.2 HTS.out) (fun j hj => by simp only [LdR.ld, List.length_map] at hj; simp only [LdR.ld, List.getElem_map]; exact Int.not_le.2 (HNO.out j (by have := HN.out; omega) hj))]
          have e1 := HCK.out
          have e2 := HN.out
          simp only [LdR.ld, List.length_map, h3, h4, Ld.mk.injEq, true_and]
          omega
        have HOB : Hid (∀ x, x < W.heap.size → x ∉ lc.bot.v.ownBlock.toList) := fun x hx hm => by have := own_ge HOR.out.bot x (toList_of hm); omega
        obtain ⟨x0, x1, x2⟩ := cells3 QI.out
        unfold aggI at HSE
        simp only at HSE
        go_upto_region 16 with (go_at_call 80; (with_reducible refine (HSE.out _ (Upd.refl _ _)).mono ?_); rintro e wa ⟨p, bb, rfl, hp, hl1, hl2, hua⟩; have HFD := Lib.hid (And.intro hp (And.intro hl1 hl2)); have HUA := Lib.hid hua; clear hp hl1 hl2 hua)
        have QB1 := Lib.hid (HUA.out.at HB.out (by simp)); have QR1 := Lib.hid (HUA.out.at QR0.out (by simp))
        clear c0 c1 c2 c3 c4 c5 d0 d1 d2 d3 d4 d5 x0 x1 x2
        obtain ⟨x0, x1, x2⟩ := cells3 (HUA.out.at QI.out (by simp))
        have c3 := (cells6 QB1.out).2.2.2.1
        have HSI2 := Lib.hid (HSI.out wa p HFD.out.1 HUA.out)
        go_upto_region 17 with (go_at_call 81; (with_reducible refine HSI2.out.mono ?_); rintro e wb ⟨s2, rfl, hs2, hh2, hav2, hub⟩; have hq := hub.at (((Upd.refl [] wa).alloc _).at QB1.out (by simp)) (HOB.out H (by have := HSZ.out; omega)); have hq2 := hub.at (((Upd.refl [] wa).alloc _).at QR1.out (by simp)) (HOB.out (H + 1 + 1) (by have := HSZ.out; omega)); obtain ⟨z0, z1, z2, z3, z4, z5⟩ := free6 hq; obtain ⟨y0, y1, y2, y3, y4, y5⟩ := cells6 hq; have HS2 := Lib.hid (And.intro hs2 (And.intro hh2 hav2)); have HUB : Hid (Upd lc.bot.v.ownBlock.toList wa wb) := (((Upd.refl [] wa).alloc _).mono (by simp)).trans hub (fun x hx _ => hx); have HQA := Lib.hid hq; have HQB := Lib.hid hq2; clear hs2 hh2 hav2 hub hq hq2)
        have p4 : (wb.setCell ⟨H, 3, none⟩ (.slice s2.ad s2.l.length s2.cap)).heap[H]? = some (.cells #[.int .i64 lc.ts, .slice lc.top.ad lc.top.l.length lc.top.cap, .slice lc.rs.ad k lc.rs.cap, .slice s2.ad s2.l.length s2.cap, .int .i64 (lc.mv + 1), .int .i64 ck] 68 (0, 0)) := setCell_block HQA.out _
        have hU7 := upd_set1 wb H 3 (.slice s2.ad s2.l.length s2.cap)
        have q2 := hU7.at HQB.out (by simp only [List.mem_singleton]; omega)
        with_reducible generalize wb.setCell ⟨H, 3, none⟩ (.slice s2.ad s2.l.length s2.cap) = w5 at p4 hU7 q2 ⊢
        have QB := Lib.hid p4; have QR := Lib.hid q2
        obtain ⟨hD4, hA4⟩ := HBD2.out wa wb s2 HUA.out HS2.out.2.1 HS2.out.2.2 HUB.out
        have HD5 := Lib.hid (hD4.keep1 hU7 (hA4 H (by have := HSZ.out; omega)))
        have HA5 := Lib.hid hA4
        have HUWB : Hid (Upd [] w wb) := (HUWR.out.thn HUA.out).trans HUB.out (fun x hx hl => by have h1 := own_ge HOR.out.bot x (toList_of hx); have h2 := HSZ.out; have h3 := HH.out; omega)
        have HU5 : Hid (Upd [] w w5) := HUWB.out.new hU7 (by have := HH.out; omega)
        have HEF := Lib.hid (HEQ.out p s2 HFD.out.1 HFD.out.2.1 HFD.out.2.2 HS2.out.1)
        clear c3 x0 x1 x2 y0 y1 y2 y3 y4 y5 z0 z1 z2 z3 z4 z5 p4 hU7 q2 hD4 hA4

        obtain ⟨c0, c1, c2, c3, c4, c5⟩ := cells6 QB.out
        obtain ⟨y0, y1, y2, y3, y4, y5⟩ := cells6 QR.out
        obtain ⟨z0, z1, z2, z3, z4, z5⟩ := free6 QR.out
        go_wp2_with fail
        have g2 := stored6 QR.out (.int .i64 lc.ts) (.slice lc.top.ad lc.top.l.length lc.top.cap) (.slice lc.rs.ad k lc.rs.cap) (.slice s2.ad s2.l.length s2.cap) (.int .i64 (lc.mv + 1)) (.int .i64 ck)
        have u2 := upd_set6 w5 (H + 1 + 1) (.int .i64 lc.ts) (.slice lc.top.ad lc.top.l.length lc.top.cap) (.slice lc.rs.ad k lc.rs.cap) (.slice s2.ad s2.l.length s2.cap) (.int .i64 (lc.mv + 1)) (.int .i64 ck)
        with_reducible generalize (((((w5.setCell ⟨H + 1 + 1, 0, none⟩ (.int .i64 lc.ts)).setCell ⟨H + 1 + 1, 1, none⟩ (.slice lc.top.ad lc.top.l.length lc.top.cap)).setCell ⟨H + 1 + 1, 2, none⟩ (.slice lc.rs.ad k lc.rs.cap)).setCell ⟨H + 1 + 1, 3, none⟩ (.slice s2.ad s2.l.length s2.cap)).setCell ⟨H + 1 + 1, 4, none⟩ (.int .i64 (lc.mv + 1))).setCell ⟨H + 1 + 1, 5, none⟩ (.int .i64 ck) = wf at g2 u2 ⊢
        obtain ⟨r0, r1, r2', r3, r4, r5⟩ := cells6 g2
        refine bodyPost_ret (v := .agg #[.int .i64 lc.ts, .slice lc.top.ad lc.top.l.length lc.top.cap, .slice lc.rs.ad k lc.rs.cap, .slice s2.ad s2.l.length s2.cap, .int .i64 (lc.mv + 1), .int .i64 ck]) (by simp [results, Tryz.results55, go_sem, r0, r1, r2', r3, r4, r5]) rfl ?_
        have hfin := HFIN.out w5 wf _ HEF.out HD5.out HA5.out HU5.out u2
        simp only [encD, cellsD, ← HN.out] at hfin
        exact hfin
end Go.Proofs.YtmfnfinbkdemkaaGreat
