/- EvkeyEvents, walked. -/
import Derived.Test.YtdkkgajamogmeaaXP
namespace Go.Proofs.Ytdkkgajamogmeaa
open Go.Shelf Go.RowKit Go.Sort Go.Lib

/-- Three events in boxes. -/
structure Box3E (w : World) (a b c : EvR) (wr : World) : Prop where
  b0 : wr.heap[w.heap.size]? = some (.cells (encR a).toArray 30 (0, 0))
  b1 : wr.heap[w.heap.size + 1]? = some (.cells (encR b).toArray 30 (0, 0))
  b2 : wr.heap[w.heap.size + 1 + 1]? = some (.cells (encR c).toArray 30 (0, 0))
  upd : Upd [] w wr
theorem Box3E.stay {w : World} {a b c : EvR} {wr w' : World} (h : Box3E w a b c wr) (hu : Upd [] wr w') : Box3E w a b c w' :=
  ⟨hu.at h.b0 (by simp), hu.at h.b1 (by simp), hu.at h.b2 (by simp), h.upd.trans hu (by simp)⟩
theorem box3E (w : World) (a b c : EvR) : Box3E w a b c (((w.alloc (.cells (encR a).toArray 30)).alloc (.cells (encR b).toArray 30)).alloc (.cells (encR c).toArray 30)) :=
  ⟨(((Upd.refl [] _).alloc _).alloc _).at (heap_alloc1 w _) (by simp), ((Upd.refl [] _).alloc _).at (heap_alloc2 w _ _) (by simp), heap_alloc3 w _ _ _, (((Upd.refl [] w).alloc _).alloc _).alloc _⟩
theorem ev_cells {w : World} {b : Nat} {r : EvR} (h : w.heap[b]? = some (.cells (encR r).toArray 30 (0, 0))) :
    w.cell? ⟨b, 0, none⟩ = some (.int .i64 r.ev.time) ∧ w.cell? ⟨b, 1, none⟩ = some (.slice r.ka r.ev.key.length r.kc) ∧ w.cell? ⟨b, 2, none⟩ = some (.int .i64 r.ev.lp) ∧ w.cell? ⟨b, 3, none⟩ = some (.int .i64 r.ev.kind) ∧ w.cell? ⟨b, 4, none⟩ = some (.int .i64 r.ev.proc) ∧ w.cell? ⟨b, 5, none⟩ = some (.int .i64 r.ev.arg) :=
  ⟨cell_block h 0, cell_block h 1, cell_block h 2, cell_block h 3, cell_block h 4, cell_block h 5⟩
theorem row3 {w : World} {g : Nat} {a b c : EvR} (h : w.heap[g]? = some (.cells (flatE [a, b, c]).toArray 30 (0, 0))) (ha : Ints w a.ka a.ev.key) (hb : Ints w b.ka b.ev.key) (hc : Ints w c.ka c.ev.key) : Evs w (some ⟨g, 0, none⟩) [a, b, c] := by
  refine evs_cells (fun t u hu => ?_) (fun r hr => ?_)
  · rw [Nat.zero_add, cell_block h, List.getElem?_toArray]; exact hu
  · simp only [List.mem_cons, List.not_mem_nil, or_false] at hr
    rcases hr with rfl | rfl | rfl
    · exact ha
    · exact hb
    · exact hc

set_option maxHeartbeats 8000000 in
set_option maxRecDepth 100000 in
theorem EvkeyEvents_any (a b c : EvR) (w : World) (ha : Ints w a.ka a.ev.key) (hb : Ints w b.ka b.ev.key) (hc : Ints w c.ka c.ev.key) :
    Calls Try.prog 8 #[.agg (encR a).toArray, .agg (encR b).toArray, .agg (encR c).toArray] w fun e w' => e = .returned (.bool true) ∧ Upd [] w w' := by
  have hgr := fun g W h (hu : Upd [] w W) => Great_any (some ⟨g, 0, none⟩) 3 [a, b, c] W (row3 (g := g) h (ha.stay hu) (hb.stay hu) (hc.stay hu)) (by simp [maxLen])
  have h11 := fun (i j : EvR) (W : World) hi hj hil hjl => (CompareEvents_any i j W hi hj hil hjl).mono (R' := fun e w' => e = .returned (.int .i64 (cmpE i.ev j.ev)) ∧ Upd [] W w') fun e w' h => ⟨h.1, h.2.upd⟩
  have h15 := fun (W : World) (hu : Upd [] w W) hl hm => CompareKeys_any a.ka b.ka a.kc b.kc a.ev.key b.ev.key W (ha.stay hu) (hb.stay hu) hl hm
  have hx := three _ (ordE.range a.ev b.ev)
  have hy := three _ (ordE.range b.ev c.ev)
  have hz := ordE.neg a.ev b.ev
  have ht := ordE.trans a.ev b.ev c.ev
  have hk : a.ev.time = b.ev.time → cmpK a.ev.key b.ev.key = cmpE a.ev b.ev := fun h => by simp [cmpE, lex, h, cmpI_self]
  have h0 : cmpE a.ev b.ev = 0 → a.ev.time = b.ev.time := fun h => (cmpE_zero.1 h).1
  obtain ⟨gb, egb⟩ : ∃ g, g = greatB [a, b, c] := ⟨_, rfl⟩
  rw [← egb] at hgr
  have hsm : gb = false → a.ev.key.length ≤ 50 ∧ b.ev.key.length ≤ 50 ∧ c.ev.key.length ≤ 50 := fun h => by
    have := (greatB_false (egb ▸ h)).2
    exact ⟨this a (by simp), this b (by simp), this c (by simp)⟩
  have H1 := Lib.hid (fun W (hu : Upd [] w W) hl hm => h11 a b W (ha.stay hu) (hb.stay hu) hl hm)
  have H2 := Lib.hid (fun W (hu : Upd [] w W) hl hm => h11 b c W (hb.stay hu) (hc.stay hu) hl hm)
  have H3 := Lib.hid (fun W (hu : Upd [] w W) hl hm => h11 b a W (hb.stay hu) (ha.stay hu) hl hm)
  have H4 := Lib.hid (fun W (hu : Upd [] w W) hl hm => h11 a c W (ha.stay hu) (hc.stay hu) hl hm)
  obtain ⟨x, ex⟩ : ∃ x, x = cmpE a.ev b.ev := ⟨_, rfl⟩
  obtain ⟨y, ey⟩ : ∃ y, y = cmpE b.ev c.ev := ⟨_, rfl⟩
  obtain ⟨z, ez⟩ : ∃ z, z = cmpE b.ev a.ev := ⟨_, rfl⟩
  obtain ⟨u, eu⟩ : ∃ u, u = cmpE a.ev c.ev := ⟨_, rfl⟩
  obtain ⟨kk, ekk⟩ : ∃ k, k = cmpK a.ev.key b.ev.key := ⟨_, rfl⟩
  rw [← ex] at hx hz ht h0 hk H1
  rw [← ey] at hy ht H2
  rw [← ez] at hz H3
  rw [← eu] at ht H4
  rw [← ekk] at hk h15
  have HB := Lib.hid (box3E w a b c)
  have HX := Lib.hid hx; have HY := Lib.hid hy; have HZ := Lib.hid hz; have HT := Lib.hid ht; have H0 := Lib.hid h0; have HK := Lib.hid hk; have HSM := Lib.hid hsm; have HGR := Lib.hid hgr; have H15 := Lib.hid h15
  clear hx hy hz ht h0 hk hsm hgr h15 h11 ex ey ez eu ekk egb ha hb hc
  simp only [encR] at H1 H2 H3 H4 HB ⊢
  go_enter Try.func8, Try.ntmps8
  go_wp2_with fail
  generalize ((w.alloc _).alloc _).alloc _ = w0 at HB ⊢
  refine (head_any _).mono ?_
  rintro e w1 ⟨rfl, hu⟩
  have HB1 := Lib.hid (HB.out.stay hu)
  obtain ⟨x0, x1, x2, x3, x4, x5⟩ := ev_cells HB1.out.b0
  obtain ⟨y0, y1, y2, y3, y4, y5⟩ := ev_cells HB1.out.b1
  obtain ⟨z0, z1, z2, z3, z4, z5⟩ := ev_cells HB1.out.b2
  clear HB hu
  go_wp2_with fail
  refine (HGR.out _ _ (heap_alloc1 w1 _) (HB1.out.upd.alloc _)).mono ?_
  rintro e w2 ⟨rfl, hw2⟩
  have HB2 : Hid (Box3E w a b c w2) := by rw [← hw2]; exact HB1.out.stay ((Upd.refl [] _).alloc _)
  clear x0 x1 x2 x3 x4 x5 y0 y1 y2 y3 y4 y5 z0 z1 z2 z3 z4 z5 hw2 HB1
  cases gb with
  | true =>
    go_wp2_with fail
    go_ret
    exact ⟨rfl, HB2.out.upd⟩
  | false =>
    obtain ⟨la, lb, lc⟩ := HSM.out rfl
    have la' : a.ev.key.length ≤ 1000000 := by omega
    have lb' : b.ev.key.length ≤ 1000000 := by omega
    have lc' : c.ev.key.length ≤ 1000000 := by omega
    have LA := Lib.hid la'; have LB := Lib.hid lb'; have LC := Lib.hid lc'
    clear la lb lc la' lb' lc'
    obtain ⟨x0, x1, x2, x3, x4, x5⟩ := ev_cells HB2.out.b0
    obtain ⟨y0, y1, y2, y3, y4, y5⟩ := ev_cells HB2.out.b1
    obtain ⟨z0, z1, z2, z3, z4, z5⟩ := ev_cells HB2.out.b2
    go_wp2_with fail
    refine (H1.out _ HB2.out.upd LA.out LB.out).mono ?_
    rintro e w3 ⟨rfl, hu⟩
    have HB3 := Lib.hid (HB2.out.stay hu)
    clear x0 x1 x2 x3 x4 x5 y0 y1 y2 y3 y4 y5 z0 z1 z2 z3 z4 z5 hu
    obtain ⟨x0, x1, x2, x3, x4, x5⟩ := ev_cells HB3.out.b0
    obtain ⟨y0, y1, y2, y3, y4, y5⟩ := ev_cells HB3.out.b1
    obtain ⟨z0, z1, z2, z3, z4, z5⟩ := ev_cells HB3.out.b2
    go_wp2_with fail
    refine (H2.out _ HB3.out.upd LB.out LC.out).mono ?_
    rintro e w4 ⟨rfl, hu⟩
    have HB4 := Lib.hid (HB3.out.stay hu)
    clear x0 x1 x2 x3 x4 x5 y0 y1 y2 y3 y4 y5 z0 z1 z2 z3 z4 z5 hu
    obtain ⟨x0, x1, x2, x3, x4, x5⟩ := ev_cells HB4.out.b0
    obtain ⟨y0, y1, y2, y3, y4, y5⟩ := ev_cells HB4.out.b1
    obtain ⟨z0, z1, z2, z3, z4, z5⟩ := ev_cells HB4.out.b2
    go_wp2_with fail
    refine (H3.out _ HB4.out.upd LB.out LA.out).mono ?_
    rintro e w5 ⟨rfl, hu⟩
    have HB5 := Lib.hid (HB4.out.stay hu)
    clear x0 x1 x2 x3 x4 x5 y0 y1 y2 y3 y4 y5 z0 z1 z2 z3 z4 z5 hu
    obtain ⟨x0, x1, x2, x3, x4, x5⟩ := ev_cells HB5.out.b0
    obtain ⟨y0, y1, y2, y3, y4, y5⟩ := ev_cells HB5.out.b1
    obtain ⟨z0, z1, z2, z3, z4, z5⟩ := ev_cells HB5.out.b2
    have hz : z = -x := HZ.out
    subst hz
    rcases HX.out with rfl | rfl | rfl
    · by_cases ht : a.ev.time = b.ev.time
      · have hkk : kk = -1 := HK.out ht
        have htt : (a.ev.time == b.ev.time) = true := by rw [beq_iff_eq]; exact ht
        subst hkk
        clear ht
        rcases HY.out with rfl | rfl | rfl
        · have hu4 : u = -1 := HT.out (by omega) (by omega)
          subst hu4
          go_wp2_with fail
          refine (H15.out _ HB5.out.upd LA.out LB.out).mono ?_
          rintro e w5b ⟨rfl, rfl⟩
          go_wp2_with fail
          refine (H4.out _ HB5.out.upd LA.out LC.out).mono ?_
          rintro e w6 ⟨rfl, hu⟩
          have HB6 := Lib.hid (HB5.out.stay hu)
          clear hu
          go_wp2_with fail
          go_ret
          exact ⟨by first | (simp; done) | (simp; decide), HB6.out.upd⟩
        · have hu4 : u = -1 := HT.out (by omega) (by omega)
          subst hu4
          go_wp2_with fail
          refine (H15.out _ HB5.out.upd LA.out LB.out).mono ?_
          rintro e w5b ⟨rfl, rfl⟩
          go_wp2_with fail
          refine (H4.out _ HB5.out.upd LA.out LC.out).mono ?_
          rintro e w6 ⟨rfl, hu⟩
          have HB6 := Lib.hid (HB5.out.stay hu)
          clear hu
          go_wp2_with fail
          go_ret
          exact ⟨by first | (simp; done) | (simp; decide), HB6.out.upd⟩
        · go_wp2_with fail
          refine (H15.out _ HB5.out.upd LA.out LB.out).mono ?_
          rintro e w5b ⟨rfl, rfl⟩
          go_wp2_with fail
          go_ret
          exact ⟨by simp, HB5.out.upd⟩
      · have htt : (a.ev.time == b.ev.time) = false := by rw [beq_eq_false_iff_ne]; exact ht
        clear ht
        rcases HY.out with rfl | rfl | rfl
        · have hu4 : u = -1 := HT.out (by omega) (by omega)
          subst hu4
          go_wp2_with fail
          refine (H4.out _ HB5.out.upd LA.out LC.out).mono ?_
          rintro e w6 ⟨rfl, hu⟩
          have HB6 := Lib.hid (HB5.out.stay hu)
          clear hu
          go_wp2_with fail
          go_ret
          exact ⟨by first | (simp; done) | (simp; decide), HB6.out.upd⟩
        · have hu4 : u = -1 := HT.out (by omega) (by omega)
          subst hu4
          go_wp2_with fail
          refine (H4.out _ HB5.out.upd LA.out LC.out).mono ?_
          rintro e w6 ⟨rfl, hu⟩
          have HB6 := Lib.hid (HB5.out.stay hu)
          clear hu
          go_wp2_with fail
          go_ret
          exact ⟨by first | (simp; done) | (simp; decide), HB6.out.upd⟩
        · go_wp2_with fail
          go_ret
          exact ⟨by simp, HB5.out.upd⟩
    · have ht := H0.out rfl
      have hkk : kk = 0 := HK.out ht
      have htt : (a.ev.time == b.ev.time) = true := by rw [beq_iff_eq]; exact ht
      subst hkk
      clear ht
      rcases HY.out with rfl | rfl | rfl
      · have hu4 : u = -1 := HT.out (by omega) (by omega)
        subst hu4
        go_wp2_with fail
        refine (H15.out _ HB5.out.upd LA.out LB.out).mono ?_
        rintro e w5b ⟨rfl, rfl⟩
        go_wp2_with fail
        refine (H4.out _ HB5.out.upd LA.out LC.out).mono ?_
        rintro e w6 ⟨rfl, hu⟩
        have HB6 := Lib.hid (HB5.out.stay hu)
        clear hu
        go_wp2_with fail
        go_ret
        exact ⟨by first | (simp; done) | (simp; decide), HB6.out.upd⟩
      · have hu4 : u = 0 := HT.out (by omega) (by omega)
        subst hu4
        go_wp2_with fail
        refine (H15.out _ HB5.out.upd LA.out LB.out).mono ?_
        rintro e w5b ⟨rfl, rfl⟩
        go_wp2_with fail
        refine (H4.out _ HB5.out.upd LA.out LC.out).mono ?_
        rintro e w6 ⟨rfl, hu⟩
        have HB6 := Lib.hid (HB5.out.stay hu)
        clear hu
        go_wp2_with fail
        go_ret
        exact ⟨by first | (simp; done) | (simp; decide), HB6.out.upd⟩
      · go_wp2_with fail
        refine (H15.out _ HB5.out.upd LA.out LB.out).mono ?_
        rintro e w5b ⟨rfl, rfl⟩
        go_wp2_with fail
        go_ret
        exact ⟨by simp, HB5.out.upd⟩
    · by_cases ht : a.ev.time = b.ev.time
      · have hkk : kk = 1 := HK.out ht
        have htt : (a.ev.time == b.ev.time) = true := by rw [beq_iff_eq]; exact ht
        subst hkk
        clear ht
        go_wp2_with fail
        refine (H15.out _ HB5.out.upd LA.out LB.out).mono ?_
        rintro e w5b ⟨rfl, rfl⟩
        go_wp2_with fail
        go_ret
        exact ⟨by simp, HB5.out.upd⟩
      · have htt : (a.ev.time == b.ev.time) = false := by rw [beq_eq_false_iff_ne]; exact ht
        clear ht
        go_wp2_with fail
        go_ret
        exact ⟨by simp, HB5.out.upd⟩
end Go.Proofs.Ytdkkgajamogmeaa
