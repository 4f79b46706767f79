/- Contract: the reference's spread. -/
import Derived.Test.YtneodiemgemhfaaGreatQH
import Derived.Test.YtneodiemgemhfaaGreatPM
namespace Go.Proofs.YtneodiemgemhfaaGreat
open Go.RowKit Go.Lib

set_option maxHeartbeats 400000 in
theorem RWidth_in (x y : Int) (hx : 0 ≤ x) (h : x ≤ y) (hy : y ≤ 1152921504606846976) (w : World) :
    Calls Tryz.prog 86 #[.int .i64 x, .int .i64 y] w fun e w' => e = .returned (.int .i64 ((y - x) / 8 + 1)) ∧ Upd [] w w' := by
  have hs : IntKind.i64.wrap (y - x) = y - x := by rw [IntKind.wrap_i64]; omega
  have hd : (y - x).tdiv 8 = (y - x) / 8 := Int.tdiv_eq_ediv_of_nonneg (by omega)
  have hr : IntKind.i64.wrap ((y - x) / 8) = (y - x) / 8 := by rw [IntKind.wrap_i64]; omega
  have ht : IntKind.i64.wrap ((y - x) / 8 + 1) = (y - x) / 8 + 1 := by rw [IntKind.wrap_i64]; omega
  go_enter Tryz.func86, Tryz.ntmps86
  go_wp2_with fail
  go_ret
  exact ⟨rfl, Upd.refl [] _⟩
set_option maxHeartbeats 400000 in
theorem RNarrow_in (n : Int) (h : 0 ≤ n ∧ n ≤ 4611686018427387904) (w : World) :
    Calls Tryz.prog 88 #[.int .i64 n] w fun e w' => e = .returned (.int .i64 ((n + 7) / 8)) ∧ Upd [] w w' := by
  have hs : IntKind.i64.wrap (n + 7) = n + 7 := by rw [IntKind.wrap_i64]; omega
  have hd : (n + 7).tdiv 8 = (n + 7) / 8 := Int.tdiv_eq_ediv_of_nonneg (by omega)
  have hr : IntKind.i64.wrap ((n + 7) / 8) = (n + 7) / 8 := by rw [IntKind.wrap_i64]; omega
  go_enter Tryz.func88, Tryz.ntmps88
  go_wp2_with fail
  go_ret
  exact ⟨rfl, Upd.refl [] _⟩
/-- The rung r, new since W, in the box Q. -/
structure SprR (W : World) (Q : Nat) (g : Rg) (wr : World) (r : RgR) : Prop where
  eq : r.rg = g
  box : wr.heap[Q]? = some (.cells (cellsR r) 53 (0, 0))
  has : HasR wr r
  av : ∀ b, b < W.heap.size → AvR r b
  avQ : AvR r Q
  upd : Upd [] W wr
  ge : W.heap.size ≤ Q
theorem SprR.start {W w1 : World} {g : Rg} {r : RgR} (h : Born W g w1 r) : SprR W w1.heap.size g (w1.alloc (.cells (cellsR r) 53)) r :=
  ⟨h.eq, heap_alloc1 _ _, h.has.stay ((Upd.refl _ _).alloc _), h.av, h.has.avoids (Nat.le_refl _), h.upd.alloc _, h.upd.size⟩
theorem SprR.step {W wr wc : World} {Q Q2 : Nat} {g q : Rg} {r r' : RgR} (h : SprR W Q g wr r) (b : Boxed wr r q Q2 wc r') :
    SprR W Q q ((((wc.setCell ⟨Q, 0, none⟩ (.int .i64 r'.fr)).setCell ⟨Q, 1, none⟩ (.int .i64 r'.wd)).setCell ⟨Q, 2, none⟩ (.int .i64 r'.cu)).setCell ⟨Q, 3, none⟩ (.slice r'.bk.ad r'.bk.l.length r'.bk.cap)) r' := by
  have hb := b.nxt.upd.at h.box (by simp)
  have h2 := upd_set4 wc Q (.int .i64 r'.fr) (.int .i64 r'.wd) (.int .i64 r'.cu) (.slice r'.bk.ad r'.bk.l.length r'.bk.cap)
  have hlt := lt_block h.box
  have hQ := b.nxt.av Q hlt h.avQ
  exact ⟨b.nxt.eq, stored4 hb _ _ _ _, b.nxt.has.keep1 h2 hQ, fun x hx => b.nxt.av x (Nat.lt_of_lt_of_le hx h.upd.size) (h.av x hx), hQ, (h.upd.thn b.nxt.upd).new h2 h.ge, h.ge⟩
set_option maxRecDepth 100000 in
set_option maxHeartbeats 8000000 in
theorem RSpread_has (l : LdR) (f d : Int) (s : SlR It) (w : World) (h : HasD w l) (hs : HasS LI w s) (hn : s.l.length ≤ 100000) (hrl : l.rs.l.length ≤ 1000) (h1 : 0 ≤ f) (h2 : f ≤ 1152921504606846976) (h3 : 1 ≤ d) (h4 : d ≤ 144115188075855873) :
    Calls Tryz.prog 85 #[encD l, .int .i64 f, .int .i64 d, .slice s.ad s.l.length s.cap] w (GivesRD l { l.ld with rs := l.ld.rs ++ [spreadR f d s.l] } w) := by
  have hg0 := newR_good h1 h2 h3 h4
  have HOK := Lib.hid (foldR_ok hg0 (lenL_zero (bs := List.replicate 8 []) (fun i _ => bAt_rep 8 i)) s.l)
  have HSU : Hid (∀ k (hk : k < s.l.length), foldR (newR f d) (s.l.take (k + 1)) = (putR (foldR (newR f d) (s.l.take k)) s.l[k]).1) := fun k hk => foldR_succ hk
  have HEN : Hid (∀ k (r : RgR), k = s.l.length → r.rg = foldR (newR f d) (s.l.take k) → l.ld.rs ++ [r.rg] = l.ld.rs ++ [spreadR f d s.l]) := fun k r hk e => by
    rw [e, hk, List.take_length]; rfl
  have HZ0 : Hid (foldR (newR f d) (s.l.take 0) = newR f d) := rfl
  have HNW := Lib.hid (fun W => RNew_has f d W)
  have HSI := Lib.hid hs
  have HST : Hid (∀ (H : Nat) (W : World), w.heap.size = H → Upd [] w W → W.heap[H]? = some (.cells (cellsD l) 25 (0, 0)) → InD w W H l W l) := fun H W hH hu hb => InD.start h hu (by omega) hb
  have HLL : Hid (encD l = .agg #[.int .i64 l.ts, .slice l.top.ad l.top.l.length l.top.cap, .slice l.rs.ad l.rs.l.length l.rs.cap, .slice l.bot.ad l.bot.l.length l.bot.cap, .int .i64 l.mv, .int .i64 l.cp]) := rfl
  rw [HLL.out]
  obtain ⟨gl, hgl⟩ : ∃ gl : Ld, gl = { l.ld with rs := l.ld.rs ++ [spreadR f d s.l] } := ⟨_, rfl⟩
  have HGL := Lib.hid hgl
  rw [← hgl]
  obtain ⟨sl, sa, sc⟩ := s
  obtain ⟨n, hnn⟩ : ∃ n, n = sl.length := ⟨_, rfl⟩
  simp only at hn HOK HSU HEN ⊢
  have HN := Lib.hid hnn
  rw [← hnn] at hn ⊢
  clear h hs hnn hgl HLL h1 h2 h3 h4 hg0
  generalize newR f d = g0 at *
  unfold encR at HNW
  go_enter Tryz.func85, Tryz.ntmps85
  go_upto_region 1 with (fail)
  generalize hA : (Obj.cells #[.int .i64 l.ts, .slice l.top.ad l.top.l.length l.top.cap, .slice l.rs.ad l.rs.l.length l.rs.cap, .slice l.bot.ad l.bot.l.length l.bot.cap, .int .i64 l.mv, .int .i64 l.cp] 25 : Obj) = A
  generalize hC : (Obj.cells #[.int .i64 0, .slice none 0 0, .slice none 0 0, .slice none 0 0, .int .i64 0, .int .i64 0] 25 : Obj) = C
  obtain ⟨hu, b0, b2, hsz⟩ := two_boxes w A C
  generalize (w.alloc A).alloc C = W at *
  generalize hH : w.heap.size = H at *
  rw [← hA] at b0
  rw [← hC] at b2
  have HI0 := Lib.hid (HST.out H W rfl hu b0)
  have HB2 := Lib.hid b2; have HH := Lib.hid hH; have HWS := Lib.hid hsz; have HUW := Lib.hid hu
  clear hu hA hC b2 hH hsz HST b0
  go_upto_region 2 with (go_at_call 102; (with_reducible refine (HNW.out _).mono ?_); rintro e w1 ⟨r1, rfl, hB⟩)
  have hS0 := SprR.start hB
  unfold cellsR at hS0
  generalize w1.alloc (.cells #[.int .i64 r1.fr, .int .i64 r1.wd, .int .i64 r1.cu, .slice r1.bk.ad r1.bk.l.length r1.bk.cap] 53) = W1 at *
  generalize w1.heap.size = Q at *
  have HS0 : Hid (SprR W Q (foldR g0 (sl.take 0)) W1 r1) := by rw [HZ0.out]; exact hS0
  clear hS0 hB HZ0 HNW
  go_wp2_with fail
  go_loopg [10, 11, 12] n (fun gk vi va vb wr => ∃ (k : Nat) (r : RgR), vi = .int .i64 k ∧ k + gk = n ∧ Hid (SprR W Q (foldR g0 (sl.take k)) wr r))
  case atStart => exact ⟨0, r1, rfl, by omega, HS0⟩
  case round =>
    obtain ⟨k, r, rfl, hkg, HS⟩ := hrel
    have HI := Lib.hid (HI0.out.stay HS.out.upd)
    have hbx := HS.out.box
    unfold cellsR at hbx
    obtain ⟨c0, c1, c2, c3⟩ := cells4 hbx
    by_cases hlt : k < n
    · have hltz : (k : Int) < (n : Int) := by omega
      have hk1 : k < sl.length := by have := HN.out; omega
      have hok := HOK.out k (by have := HN.out; omega)
      have HSK := Lib.hid (HSU.out k hk1)
      obtain ⟨b, off, hbo, x0, x1, x2⟩ := (HSI.out.stay (HUW.out.thn HS.out.upd)).row.item k hk1
      simp only at hbo
      subst hbo
      have hpu := fun V (hu : Upd [] wr V) => RPut_has r sl[k] V (HS.out.has.stay hu) (by rw [HS.out.eq]; exact hok.1) (by rw [HS.out.eq]; exact Nat.le_trans hok.2 (by omega))
      have hse := HS.out.eq
      rw [← hse] at HSK
      generalize sl[k] = y at *
      obtain ⟨t, q, s⟩ := y
      simp only at x0 x1 x2
      unfold aggI encR at hpu
      simp only at hpu
      have HPUK := Lib.hid hpu
      have HHR := Lib.hid HS.out.has
      obtain ⟨fr, wd, cu, bk⟩ := r
      simp only at c0 c1 c2 c3 HPUK
      clear hpu hok hse hbx
      go_upto_region 5 with (fail)
      go_cut [11, 12] from 17 to 32 (fun v7 v8 wx => ∃ Q2 r' b', v7 = .pointer (some ⟨Q2, 0, none⟩) ∧ v8 = .bool b' ∧ Hid (Boxed wr ⟨fr, wd, cu, bk⟩ (putR (⟨fr, wd, cu, bk⟩ : RgR).rg ⟨t, q, s⟩).1 Q2 wx r'))
      case first =>
        generalize putR (⟨fr, wd, cu, bk⟩ : RgR).rg ⟨t, q, s⟩ = pp at *
        generalize bk.l.length = m at *
        generalize bk.ad = ba at *
        generalize bk.cap = bc at *
        have HKP : Hid (∀ wz, Upd [] wr wz → wz.cell? ⟨Q, 0, none⟩ = some (.int .i64 fr) ∧ wz.cell? ⟨Q, 1, none⟩ = some (.int .i64 wd) ∧ wz.cell? ⟨Q, 2, none⟩ = some (.int .i64 cu) ∧ wz.cell? ⟨Q, 3, none⟩ = some (.slice ba m bc) ∧ wz.cell? ⟨b, off + k * 3, none⟩ = some (.int .i64 t) ∧ wz.cell? ⟨b, off + k * 3 + 1, none⟩ = some (.int .i64 q) ∧ wz.cell? ⟨b, off + k * 3 + 2, none⟩ = some (.int .i64 s)) := fun W' hu => ⟨hu.cell c0 (by simp), hu.cell c1 (by simp), hu.cell c2 (by simp), hu.cell c3 (by simp), hu.cell x0 (by simp), hu.cell x1 (by simp), hu.cell x2 (by simp)⟩
        go_region_held3 (fun wz => wz.cell? ⟨Q, 0, none⟩ = some (.int .i64 fr) ∧ wz.cell? ⟨Q, 1, none⟩ = some (.int .i64 wd) ∧ wz.cell? ⟨Q, 2, none⟩ = some (.int .i64 cu) ∧ wz.cell? ⟨Q, 3, none⟩ = some (.slice ba m bc) ∧ wz.cell? ⟨b, off + k * 3, none⟩ = some (.int .i64 t) ∧ wz.cell? ⟨b, off + k * 3 + 1, none⟩ = some (.int .i64 q) ∧ wz.cell? ⟨b, off + k * 3 + 2, none⟩ = some (.int .i64 s)) (first | exact ⟨c0, c1, c2, c3, x0, x1, x2⟩ | (refine HKP.out _ ?_; (repeat (first | exact Upd.refl [] _ | refine Upd.setCell ?_ (fun hl => absurd hl (Nat.not_lt.2 (by first | exact Nat.le_refl _ | exact hN.upd.size))) _ | refine Upd.drew ?_ | refine Upd.alloc ?_ _ | refine Upd.trans (T := []) ?_ (by assumption) (by simp))))) (first
          | (go_at_call 49; (with_reducible refine (HPUK.out _ ?_).mono ?_); (repeat (first | exact Upd.refl [] _ | refine Upd.drew ?_ | refine Upd.alloc ?_ _ | refine Upd.trans (T := []) ?_ (by assumption) (by simp))); rintro e w' ⟨⟨fr', wd', cu', ⟨bl', ba', bc'⟩⟩, rfl, hN⟩; unfold encR; have hu := hN.upd; try (have pb := hu.at (heap_alloc1 wr (.cells #[.int .i64 0, .int .i64 0, .int .i64 0, .slice none 0 0] 53)) (by simp); obtain ⟨y0, y1, y2, y3⟩ := cells4 pb; obtain ⟨z0, z1, z2, z3⟩ := free4 pb; clear pb)))
        all_goals go_wp2_with fail
        all_goals go_meet
        case rel =>
          refine ⟨w'.heap.size, ⟨fr', wd', cu', ⟨bl', ba', bc'⟩⟩, _, rfl, rfl, ?_⟩
          have hb := boxed_last (w := wr) (h := hN) (by repeat (first | exact Upd.refl [] _ | refine Upd.drew ?_ | refine Upd.alloc ?_ _))
          simp only [cellsR] at hb
          exact Lib.hid hb
        case rel =>
          refine ⟨wr.heap.size, ⟨fr', wd', cu', ⟨bl', ba', bc'⟩⟩, _, rfl, rfl, ?_⟩
          have hb := boxed_at (w := wr) (w1 := (wr.alloc (.cells #[.int .i64 0, .int .i64 0, .int .i64 0, .slice none 0 0] 53)).drew) (Q := wr.heap.size) (h := hN) HHR.out (heap_alloc1 wr (.cells #[.int .i64 0, .int .i64 0, .int .i64 0, .slice none 0 0] 53)) (by repeat (first | exact Upd.refl [] _ | refine Upd.drew ?_ | refine Upd.alloc ?_ _)) (Nat.le_refl _)
          simp only at hb
          exact Lib.hid hb
      case rest =>
      obtain ⟨Q2, r', b', rfl, rfl, HBX⟩ := hcut
      obtain ⟨w5, hw5⟩ : ∃ x, x = wc := ⟨_, rfl⟩
      subst hw5
      have hs2 := HS.out.step HBX.out
      rw [← HSK.out] at hs2
      have hqb := HBX.out.blk
      have hq0 := HBX.out.nxt.upd.at HS.out.box (by simp)
      unfold cellsR at hqb hq0
      obtain ⟨fr', wd', cu', ⟨bl', ba', bc'⟩⟩ := r'
      simp only at hs2 hqb hq0
      have HS2 := Lib.hid hs2
      obtain ⟨y0, y1, y2, y3⟩ := cells4 hqb
      clear c0 c1 c2 c3 x0 x1 x2 hqb hs2
      obtain ⟨c0, c1, c2, c3⟩ := cells4 hq0
      obtain ⟨z0, z1, z2, z3⟩ := free4 hq0
      clear hq0
      go_upto_region 4 with (fail)
      clear c0 c1 c2 c3 z0 z1 z2 z3 y0 y1 y2 y3
      with_reducible generalize (((w5.setCell ⟨Q, 0, none⟩ (.int .i64 fr')).setCell ⟨Q, 1, none⟩ (.int .i64 wd')).setCell ⟨Q, 2, none⟩ (.int .i64 cu')).setCell ⟨Q, 3, none⟩ (.slice ba' bl'.length bc') = w6 at HS2 ⊢
      go_wp2_with fail
      go_roundg (n - (k + 1))
      case measure => omega
      case rel => exact ⟨k + 1, ⟨fr', wd', cu', ⟨bl', ba', bc'⟩⟩, by go_num, by omega, HS2⟩
    · have hltz : ¬ (k : Int) < (n : Int) := by omega
      obtain rfl : n = k := by omega
      have HENK := Lib.hid (HEN.out n r HN.out HS.out.eq)
      obtain ⟨k0, k1, k2, k3, k4, k5⟩ := cells6 HI.out.cells
      have hlt0 : H < wr.heap.size := lt_block HI.out.box
      have hne0 : ¬ H = wr.heap.size := by omega
      have HTN := Lib.hid HI.out.has.rs.nn
      have hu4 := (Upd.refl [] wr).alloc (.cells #[] 53)
      have HU4 := Lib.hid hu4
      obtain ⟨fr, wd, cu, bk⟩ := r
      simp only at c0 c1 c2 c3
      clear hu4 hbx
      go_upto_region 8 with (at_builtin; refine app_row tyR rfl _ _ rfl wr.heap.size (.slice (some ⟨wr.heap.size, 0, none⟩) 0 0) 0 [] rfl (World.ownsRow_made wr #[] 0 (Nat.le_refl _) (Nat.zero_le _) (by simp)) l.rs.ad l.rs.l.length l.rs.cap l.rs.l rfl rfl (HI.out.has.rs.stay HU4.out).row HTN.out (by omega) (by simp) ?_; intro v1 w1 hown hgrow)
      have HO := Lib.hid hown
      have HU3 : Hid (Upd [] wr w1) := HU4.out.grown hgrow (fun k hk hl => by simp [Value.ownBlock] at hk; omega)
      clear c0 c1 c2 c3 k0 k1 k2 k3 k4 k5 hown hgrow hlt0 hne0
      have hqx := HU3.out.at HS.out.box (by simp)
      unfold cellsR at hqx
      obtain ⟨c0, c1, c2, c3⟩ := cells4 hqx
      have hbu := heap_alloc1 w1 (.cells #[.int .i64 fr, .int .i64 wd, .int .i64 cu, .slice bk.ad bk.l.length bk.cap] 53)
      have hu5 := (Upd.refl [] w1).alloc (.cells #[.int .i64 fr, .int .i64 wd, .int .i64 cu, .slice bk.ad bk.l.length bk.cap] 53)
      have HR1 := Lib.hid (row_oneR (r := ⟨fr, wd, cu, bk⟩) hbu)
      have HO2 := Lib.hid (hu5.row HO.out (by simp))
      have HS3 := Lib.hid (HU3.out.size)
      clear hbu hqx
      go_upto_region 9 with (at_builtin; refine app_row tyR rfl _ _ rfl wr.heap.size v1 (0 + l.rs.l.length) ([] ++ l.rs.l) rfl HO2.out (some ⟨w1.heap.size, 0, none⟩) 1 1 [⟨fr, wd, cu, bk⟩] rfl rfl HR1.out (fun e => by simp at e) (by omega) (by have := HS3.out; simp; omega) ?_; intro v2 w2 hown hgrow)
      obtain ⟨hnn, ad2, cap2, rfl, hS2, hge2⟩ := hasS_row hown
      have hU4 : Upd [] wr w2 := (HU3.out.thn hu5).grown hgrow (fun k hk hl => by have := own_ge HO.out k hk; omega)
      rw [List.nil_append] at hS2
      have hI3 := HI.out.rs hU4 hS2 (fun x hx => by
        rcases List.mem_append.1 hx with hx | hx
        · exact (HI.out.has.rg x hx).stay hU4
        · obtain rfl : x = _ := List.mem_singleton.1 hx
          exact HS.out.has.stay hU4) (fun b hb ha => ⟨avS_ge (n := wr.heap.size) hge2 (Nat.lt_of_lt_of_le hb HI.out.upd.size), fun x hx => by
        rcases List.mem_append.1 hx with hx | hx
        · exact ha.rg x hx
        · obtain rfl : x = _ := List.mem_singleton.1 hx
          exact HS.out.av b hb⟩)
      simp only at hI3
      have hln : (l.rs.l ++ [(⟨fr, wd, cu, bk⟩ : RgR)]).length = l.rs.l.length + 1 := by simp
      rw [hln] at hI3
      have HLN := Lib.hid hln
      have q0 := hU4.at HI.out.cells (by simp)
      have HI3 := Lib.hid hI3
      obtain ⟨k0, k1, k2, k3, k4, k5⟩ := cells6 q0
      obtain ⟨z0, z1, z2, z3, z4, z5⟩ := free6 q0
      clear c0 c1 c2 c3 hown hgrow hS2 hge2 hu5 hnn hU4 q0 hI3 hln
      go_upto_region 10 with (fail)
      clear k0 k1 k2 k3 k4 k5 z0 z1 z2 z3 z4 z5
      with_reducible generalize w2.setCell ⟨H, 2, none⟩ (.slice ad2 (l.rs.l.length + 1) cap2) = w3 at HI3 ⊢
      have q2 := HI3.out.other (R := H + 1) (by omega) HB2.out
      have HQ2 := Lib.hid q2
      obtain ⟨c0, c1, c2, c3, c4, c5⟩ := cells6 HI3.out.cells
      obtain ⟨y0, y1, y2, y3, y4, y5⟩ := cells6 q2
      obtain ⟨z0, z1, z2, z3, z4, z5⟩ := free6 q2
      clear q2
      simp only at c0 c1 c2 c3 c4 c5
      rw [HLN.out] at c2
      go_wp2_with fail
      have p2 := stored6 HQ2.out (.int .i64 l.ts) (.slice l.top.ad l.top.l.length l.top.cap) (.slice ad2 (l.rs.l.length + 1) cap2) (.slice l.bot.ad l.bot.l.length l.bot.cap) (.int .i64 l.mv) (.int .i64 l.cp)
      have hU5 := upd_set6 w3 (H + 1) (.int .i64 l.ts) (.slice l.top.ad l.top.l.length l.top.cap) (.slice ad2 (l.rs.l.length + 1) cap2) (.slice l.bot.ad l.bot.l.length l.bot.cap) (.int .i64 l.mv) (.int .i64 l.cp)
      with_reducible generalize (((((w3.setCell ⟨H + 1, 0, none⟩ (.int .i64 l.ts)).setCell ⟨H + 1, 1, none⟩ (.slice l.top.ad l.top.l.length l.top.cap)).setCell ⟨H + 1, 2, none⟩ (.slice ad2 (l.rs.l.length + 1) cap2)).setCell ⟨H + 1, 3, none⟩ (.slice l.bot.ad l.bot.l.length l.bot.cap)).setCell ⟨H + 1, 4, none⟩ (.int .i64 l.mv)).setCell ⟨H + 1, 5, none⟩ (.int .i64 l.cp) = wf at p2 hU5 ⊢
      obtain ⟨r0, r1, r2, r3, r4, r5⟩ := cells6 p2
      have hfin : GivesRD l gl w (.returned (.agg #[.int .i64 l.ts, .slice l.top.ad l.top.l.length l.top.cap, .slice ad2 (l.rs.l.length + 1) cap2, .slice l.bot.ad l.bot.l.length l.bot.cap, .int .i64 l.mv, .int .i64 l.cp])) wf := ⟨⟨l.ts, l.top, ⟨l.rs.l ++ [⟨fr, wd, cu, bk⟩], ad2, cap2⟩, l.bot, l.mv, l.cp⟩, by simp only [encD, cellsD, HLN.out], HI3.out.fin (by have := HH.out; omega) (by have := HWS.out; omega) hU5 (by rw [HGL.out]; simp only [LdR.ld, List.map_append, List.map_cons, List.map_nil]; rw [← ld_rs l, HENK.out])⟩
      exact bodyPost_ret (v := .agg #[.int .i64 l.ts, .slice l.top.ad l.top.l.length l.top.cap, .slice ad2 (l.rs.l.length + 1) cap2, .slice l.bot.ad l.bot.l.length l.bot.cap, .int .i64 l.mv, .int .i64 l.cp]) (by simp [results, Tryz.results85, go_sem, r0, r1, r2, r3, r4, r5]) rfl hfin
end Go.Proofs.YtneodiemgemhfaaGreat
