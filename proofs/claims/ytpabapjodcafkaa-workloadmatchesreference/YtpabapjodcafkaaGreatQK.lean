/- Contract: the reference's spread. -/
/- Contract: the reference's fromTop. -/
import Derived.Test.YtpabapjodcafkaaGreatQH
import Derived.Test.YtpabapjodcafkaaGreatPM
import Derived.Test.YtpabapjodcafkaaGreatPP
namespace Go.Proofs.YtpabapjodcafkaaGreat
open Go.RowKit Go.Lib

set_option maxHeartbeats 400000 in
theorem RWidth_in (x y : Int) (hx : 0 ≤ x) (h : x ≤ y) (hy : y ≤ 1152921504606846976) (w : World) :
    Calls Tryz.prog 74 #[.int .i64 x, .int .i64 y] w fun e w' => e = .returned (.int .i64 ((y - x) / 8 + 1)) ∧ Upd [] w w' := by
  have hs : IntKind.i64.wrap (y - x) = y - x := by rw [IntKind.wrap_i64]; omega
  have hd : (y - x).tdiv 8 = (y - x) / 8 := Int.tdiv_eq_ediv_of_nonneg (by omega)
  have hr : IntKind.i64.wrap ((y - x) / 8) = (y - x) / 8 := by rw [IntKind.wrap_i64]; omega
  have ht : IntKind.i64.wrap ((y - x) / 8 + 1) = (y - x) / 8 + 1 := by rw [IntKind.wrap_i64]; omega
  go_enter Tryz.func74, Tryz.ntmps74
  go_wp2_with fail
  go_ret
  exact ⟨rfl, Upd.refl [] _⟩
set_option maxHeartbeats 400000 in
theorem RNarrow_in (n : Int) (h : 0 ≤ n ∧ n ≤ 4611686018427387904) (w : World) :
    Calls Tryz.prog 76 #[.int .i64 n] w fun e w' => e = .returned (.int .i64 ((n + 7) / 8)) ∧ Upd [] w w' := by
  have hs : IntKind.i64.wrap (n + 7) = n + 7 := by rw [IntKind.wrap_i64]; omega
  have hd : (n + 7).tdiv 8 = (n + 7) / 8 := Int.tdiv_eq_ediv_of_nonneg (by omega)
  have hr : IntKind.i64.wrap ((n + 7) / 8) = (n + 7) / 8 := by rw [IntKind.wrap_i64]; omega
  go_enter Tryz.func76, Tryz.ntmps76
  go_wp2_with fail
  go_ret
  exact ⟨rfl, Upd.refl [] _⟩
/-- The rung r, new since W, in the box Q. -/
structure SprR (W : World) (Q : Nat) (g : Rg) (wr : World) (r : RgR) : Prop where
  eq : r.rg = g
  box : wr.heap[Q]? = some (.cells (cellsR r) 59 (0, 0))
  has : HasR wr r
  av : ∀ b, b < W.heap.size → AvR r b
  avQ : AvR r Q
  upd : Upd [] W wr
  ge : W.heap.size ≤ Q
theorem SprR.start {W w1 : World} {g : Rg} {r : RgR} (h : Born W g w1 r) : SprR W w1.heap.size g (w1.alloc (.cells (cellsR r) 59)) r :=
  ⟨h.eq, heap_alloc1 _ _, h.has.stay ((Upd.refl _ _).alloc _), h.av, h.has.avoids (Nat.le_refl _), h.upd.alloc _, h.upd.size⟩
theorem SprR.step {W wr wc : World} {Q Q2 : Nat} {g q : Rg} {r r' : RgR} (h : SprR W Q g wr r) (b : Boxed wr r q Q2 wc r') :
    SprR W Q q ((((wc.setCell ⟨Q, 0, none⟩ (.int .i64 r'.fr)).setCell ⟨Q, 1, none⟩ (.int .i64 r'.wd)).setCell ⟨Q, 2, none⟩ (.int .i64 r'.cu)).setCell ⟨Q, 3, none⟩ (.slice r'.bk.ad r'.bk.l.length r'.bk.cap)) r' := by
  have hb := b.nxt.upd.at h.box (by simp)
  have h2 := upd_set4 wc Q (.int .i64 r'.fr) (.int .i64 r'.wd) (.int .i64 r'.cu) (.slice r'.bk.ad r'.bk.l.length r'.bk.cap)
  have hlt := lt_block h.box
  have hQ := b.nxt.av Q hlt h.avQ
  exact ⟨b.nxt.eq, stored4 hb _ _ _ _, b.nxt.has.keep1 h2 hQ, fun x hx => b.nxt.av x (Nat.lt_of_lt_of_le hx h.upd.size) (h.av x hx), hQ, (h.upd.thn b.nxt.upd).new h2 h.ge, h.ge⟩
set_option maxRecDepth 100000 in
set_option maxHeartbeats 8000000 in
theorem RSpread_has (l : LdR) (f d : Int) (s : SlR It) (w : World) (h : HasD w l) (hs : HasS LI w s) (hn : s.l.length ≤ 100000) (hrl : l.rs.l.length ≤ 1000) (h1 : 0 ≤ f) (h2 : f ≤ 1152921504606846976) (h3 : 1 ≤ d) (h4 : d ≤ 144115188075855873) :
    Calls Tryz.prog 73 #[encD l, .int .i64 f, .int .i64 d, .slice s.ad s.l.length s.cap] w (GivesRD l { l.ld with rs := l.ld.rs ++ [spreadR f d s.l] } w) := by
  have hg0 := newR_good h1 h2 h3 h4
  have HOK := Lib.hid (foldR_ok hg0 (lenL_zero (bs := List.replicate 8 []) (fun i _ => bAt_rep 8 i)) s.l)
  have HSU : Hid (∀ k (hk : k < s.l.length), foldR (newR f d) (s.l.take (k + 1)) = (putR (foldR (newR f d) (s.l.take k)) s.l[k]).1) := fun k hk => foldR_succ hk
  have HEN : Hid (∀ k (r : RgR), k = s.l.length → r.rg = foldR (newR f d) (s.l.take k) → l.ld.rs ++ [r.rg] = l.ld.rs ++ [spreadR f d s.l]) := fun k r hk e => by
    rw [e, hk, List.take_length]; rfl
  have HZ0 : Hid (foldR (newR f d) (s.l.take 0) = newR f d) := rfl
  have HNW := Lib.hid (fun W => RNew_has f d W)
  have HSI := Lib.hid hs
  have HST : Hid (∀ (H : Nat) (W : World), w.heap.size = H → Upd [] w W → W.heap[H]? = some (.cells (cellsD l) 42 (0, 0)) → InD w W H l W l) := fun H W hH hu hb => InD.start h hu (by omega) hb
  have HLL : Hid (encD l = .agg #[.int .i64 l.ts, .slice l.top.ad l.top.l.length l.top.cap, .slice l.rs.ad l.rs.l.length l.rs.cap, .slice l.bot.ad l.bot.l.length l.bot.cap, .int .i64 l.mv, .int .i64 l.cp]) := rfl
  rw [HLL.out]
  obtain ⟨gl, hgl⟩ : ∃ gl : Ld, gl = { l.ld with rs := l.ld.rs ++ [spreadR f d s.l] } := ⟨_, rfl⟩
  have HGL := Lib.hid hgl
  rw [← hgl]
  obtain ⟨sl, sa, sc⟩ := s
  obtain ⟨n, hnn⟩ : ∃ n, n = sl.length := ⟨_, rfl⟩
  simp only at hn HOK HSU HEN ⊢
  have HN := Lib.hid hnn
  rw [← hnn] at hn ⊢
  clear h hs hnn hgl HLL h1 h2 h3 h4 hg0
  generalize newR f d = g0 at *
  unfold encR at HNW
  go_enter Tryz.func73, Tryz.ntmps73
  go_upto_region 1 with (fail)
  generalize hA : (Obj.cells #[.int .i64 l.ts, .slice l.top.ad l.top.l.length l.top.cap, .slice l.rs.ad l.rs.l.length l.rs.cap, .slice l.bot.ad l.bot.l.length l.bot.cap, .int .i64 l.mv, .int .i64 l.cp] 42 : Obj) = A
  generalize hC : (Obj.cells #[.int .i64 0, .slice none 0 0, .slice none 0 0, .slice none 0 0, .int .i64 0, .int .i64 0] 42 : Obj) = C
  obtain ⟨hu, b0, b2, hsz⟩ := two_boxes w A C
  generalize (w.alloc A).alloc C = W at *
  generalize hH : w.heap.size = H at *
  rw [← hA] at b0
  rw [← hC] at b2
  have HI0 := Lib.hid (HST.out H W rfl hu b0)
  have HB2 := Lib.hid b2; have HH := Lib.hid hH; have HWS := Lib.hid hsz; have HUW := Lib.hid hu
  clear hu hA hC b2 hH hsz HST b0
  go_upto_region 2 with (go_at_call 86; (with_reducible refine (HNW.out _).mono ?_); rintro e w1 ⟨r1, rfl, hB⟩)
  have hS0 := SprR.start hB
  unfold cellsR at hS0
  generalize w1.alloc (.cells #[.int .i64 r1.fr, .int .i64 r1.wd, .int .i64 r1.cu, .slice r1.bk.ad r1.bk.l.length r1.bk.cap] 59) = W1 at *
  generalize w1.heap.size = Q at *
  have HS0 : Hid (SprR W Q (foldR g0 (sl.take 0)) W1 r1) := by rw [HZ0.out]; exact hS0
  clear hS0 hB HZ0 HNW
  go_wp2_with fail
  go_loopg [10, 11, 12] n (fun gk vi va vb wr => ∃ (k : Nat) (r : RgR), vi = .int .i64 k ∧ k + gk = n ∧ Hid (SprR W Q (foldR g0 (sl.take k)) wr r))
  case atStart => exact ⟨0, r1, rfl, by omega, HS0⟩
  case round =>
    obtain ⟨k, r, rfl, hkg, HS⟩ := hrel
    have HI := Lib.hid (HI0.out.stay HS.out.upd)
    have hbx := HS.out.box
    unfold cellsR at hbx
    obtain ⟨c0, c1, c2, c3⟩ := cells4 hbx
    by_cases hlt : k < n
    · have hltz : (k : Int) < (n : Int) := by omega
      have hk1 : k < sl.length := by have := HN.out; omega
      have hok := HOK.out k (by have := HN.out; omega)
      have HSK := Lib.hid (HSU.out k hk1)
      obtain ⟨b, off, hbo, x0, x1, x2⟩ := (HSI.out.stay (HUW.out.thn HS.out.upd)).row.item k hk1
      simp only at hbo
      subst hbo
      have hpu := fun V (hu : Upd [] wr V) => RPut_has r sl[k] V (HS.out.has.stay hu) (by rw [HS.out.eq]; exact hok.1) (by rw [HS.out.eq]; exact Nat.le_trans hok.2 (by omega))
      have hse := HS.out.eq
      rw [← hse] at HSK
      generalize sl[k] = y at *
      obtain ⟨t, q, s⟩ := y
      simp only at x0 x1 x2
      unfold aggI encR at hpu
      simp only at hpu
      have HPUK := Lib.hid hpu
      have HHR := Lib.hid HS.out.has
      obtain ⟨fr, wd, cu, bk⟩ := r
      simp only at c0 c1 c2 c3 HPUK
      clear hpu hok hse hbx
      go_upto_region 5 with (fail)
      go_cut [11, 12] from 17 to 32 (fun v7 v8 wx => ∃ Q2 r' b', v7 = .pointer (some ⟨Q2, 0, none⟩) ∧ v8 = .bool b' ∧ Hid (Boxed wr ⟨fr, wd, cu, bk⟩ (putR (⟨fr, wd, cu, bk⟩ : RgR).rg ⟨t, q, s⟩).1 Q2 wx r'))
      case first =>
        generalize putR (⟨fr, wd, cu, bk⟩ : RgR).rg ⟨t, q, s⟩ = pp at *
        generalize bk.l.length = m at *
        generalize bk.ad = ba at *
        generalize bk.cap = bc at *
        have HKP : Hid (∀ wz, Upd [] wr wz → wz.cell? ⟨Q, 0, none⟩ = some (.int .i64 fr) ∧ wz.cell? ⟨Q, 1, none⟩ = some (.int .i64 wd) ∧ wz.cell? ⟨Q, 2, none⟩ = some (.int .i64 cu) ∧ wz.cell? ⟨Q, 3, none⟩ = some (.slice ba m bc) ∧ wz.cell? ⟨b, off + k * 3, none⟩ = some (.int .i64 t) ∧ wz.cell? ⟨b, off + k * 3 + 1, none⟩ = some (.int .i64 q) ∧ wz.cell? ⟨b, off + k * 3 + 2, none⟩ = some (.int .i64 s)) := fun W' hu => ⟨hu.cell c0 (by simp), hu.cell c1 (by simp), hu.cell c2 (by simp), hu.cell c3 (by simp), hu.cell x0 (by simp), hu.cell x1 (by simp), hu.cell x2 (by simp)⟩
        go_region_held3 (fun wz => wz.cell? ⟨Q, 0, none⟩ = some (.int .i64 fr) ∧ wz.cell? ⟨Q, 1, none⟩ = some (.int .i64 wd) ∧ wz.cell? ⟨Q, 2, none⟩ = some (.int .i64 cu) ∧ wz.cell? ⟨Q, 3, none⟩ = some (.slice ba m bc) ∧ wz.cell? ⟨b, off + k * 3, none⟩ = some (.int .i64 t) ∧ wz.cell? ⟨b, off + k * 3 + 1, none⟩ = some (.int .i64 q) ∧ wz.cell? ⟨b, off + k * 3 + 2, none⟩ = some (.int .i64 s)) (first | exact ⟨c0, c1, c2, c3, x0, x1, x2⟩ | (refine HKP.out _ ?_; (repeat (first | exact Upd.refl [] _ | refine Upd.setCell ?_ (fun hl => absurd hl (Nat.not_lt.2 (by first | exact Nat.le_refl _ | exact hN.upd.size))) _ | refine Upd.drew ?_ | refine Upd.alloc ?_ _ | refine Upd.trans (T := []) ?_ (by assumption) (by simp))))) (first
          | (go_at_call 30; (with_reducible refine (HPUK.out _ ?_).mono ?_); (repeat (first | exact Upd.refl [] _ | refine Upd.drew ?_ | refine Upd.alloc ?_ _ | refine Upd.trans (T := []) ?_ (by assumption) (by simp))); rintro e w' ⟨⟨fr', wd', cu', ⟨bl', ba', bc'⟩⟩, rfl, hN⟩; unfold encR; have hu := hN.upd; try (have pb := hu.at (heap_alloc1 wr (.cells #[.int .i64 0, .int .i64 0, .int .i64 0, .slice none 0 0] 59)) (by simp); obtain ⟨y0, y1, y2, y3⟩ := cells4 pb; obtain ⟨z0, z1, z2, z3⟩ := free4 pb; clear pb)))
        all_goals go_wp2_with fail
        all_goals go_meet
        case rel =>
          refine ⟨w'.heap.size, ⟨fr', wd', cu', ⟨bl', ba', bc'⟩⟩, _, rfl, rfl, ?_⟩
          have hb := boxed_last (w := wr) (h := hN) (by repeat (first | exact Upd.refl [] _ | refine Upd.drew ?_ | refine Upd.alloc ?_ _))
          simp only [cellsR] at hb
          exact Lib.hid hb
        case rel =>
          refine ⟨wr.heap.size, ⟨fr', wd', cu', ⟨bl', ba', bc'⟩⟩, _, rfl, rfl, ?_⟩
          have hb := boxed_at (w := wr) (w1 := (wr.alloc (.cells #[.int .i64 0, .int .i64 0, .int .i64 0, .slice none 0 0] 59)).drew) (Q := wr.heap.size) (h := hN) HHR.out (heap_alloc1 wr (.cells #[.int .i64 0, .int .i64 0, .int .i64 0, .slice none 0 0] 59)) (by repeat (first | exact Upd.refl [] _ | refine Upd.drew ?_ | refine Upd.alloc ?_ _)) (Nat.le_refl _)
          simp only at hb
          exact Lib.hid hb
      case rest =>
      obtain ⟨Q2, r', b', rfl, rfl, HBX⟩ := hcut
      obtain ⟨w5, hw5⟩ : ∃ x, x = wc := ⟨_, rfl⟩
      subst hw5
      have hs2 := HS.out.step HBX.out
      rw [← HSK.out] at hs2
      have hqb := HBX.out.blk
      have hq0 := HBX.out.nxt.upd.at HS.out.box (by simp)
      unfold cellsR at hqb hq0
      obtain ⟨fr', wd', cu', ⟨bl', ba', bc'⟩⟩ := r'
      simp only at hs2 hqb hq0
      have HS2 := Lib.hid hs2
      obtain ⟨y0, y1, y2, y3⟩ := cells4 hqb
      clear c0 c1 c2 c3 x0 x1 x2 hqb hs2
      obtain ⟨c0, c1, c2, c3⟩ := cells4 hq0
      obtain ⟨z0, z1, z2, z3⟩ := free4 hq0
      clear hq0
      go_upto_region 4 with (fail)
      clear c0 c1 c2 c3 z0 z1 z2 z3 y0 y1 y2 y3
      with_reducible generalize (((w5.setCell ⟨Q, 0, none⟩ (.int .i64 fr')).setCell ⟨Q, 1, none⟩ (.int .i64 wd')).setCell ⟨Q, 2, none⟩ (.int .i64 cu')).setCell ⟨Q, 3, none⟩ (.slice ba' bl'.length bc') = w6 at HS2 ⊢
      go_wp2_with fail
      go_roundg (n - (k + 1))
      case measure => omega
      case rel => exact ⟨k + 1, ⟨fr', wd', cu', ⟨bl', ba', bc'⟩⟩, by go_num, by omega, HS2⟩
    · have hltz : ¬ (k : Int) < (n : Int) := by omega
      obtain rfl : n = k := by omega
      have HENK := Lib.hid (HEN.out n r HN.out HS.out.eq)
      obtain ⟨k0, k1, k2, k3, k4, k5⟩ := cells6 HI.out.cells
      have hlt0 : H < wr.heap.size := lt_block HI.out.box
      have hne0 : ¬ H = wr.heap.size := by omega
      have HTN := Lib.hid HI.out.has.rs.nn
      have hu4 := (Upd.refl [] wr).alloc (.cells #[] 59)
      have HU4 := Lib.hid hu4
      obtain ⟨fr, wd, cu, bk⟩ := r
      simp only at c0 c1 c2 c3
      clear hu4 hbx
      go_upto_region 8 with (at_builtin; refine app_row tyR rfl _ _ rfl wr.heap.size (.slice (some ⟨wr.heap.size, 0, none⟩) 0 0) 0 [] rfl (World.ownsRow_made wr #[] 0 (Nat.le_refl _) (Nat.zero_le _) (by simp)) l.rs.ad l.rs.l.length l.rs.cap l.rs.l rfl rfl (HI.out.has.rs.stay HU4.out).row HTN.out (by omega) (by simp) ?_; intro v1 w1 hown hgrow)
      have HO := Lib.hid hown
      have HU3 : Hid (Upd [] wr w1) := HU4.out.grown hgrow (fun k hk hl => by simp [Value.ownBlock] at hk; omega)
      clear c0 c1 c2 c3 k0 k1 k2 k3 k4 k5 hown hgrow hlt0 hne0
      have hqx := HU3.out.at HS.out.box (by simp)
      unfold cellsR at hqx
      obtain ⟨c0, c1, c2, c3⟩ := cells4 hqx
      have hbu := heap_alloc1 w1 (.cells #[.int .i64 fr, .int .i64 wd, .int .i64 cu, .slice bk.ad bk.l.length bk.cap] 59)
      have hu5 := (Upd.refl [] w1).alloc (.cells #[.int .i64 fr, .int .i64 wd, .int .i64 cu, .slice bk.ad bk.l.length bk.cap] 59)
      have HR1 := Lib.hid (row_oneR (r := ⟨fr, wd, cu, bk⟩) hbu)
      have HO2 := Lib.hid (hu5.row HO.out (by simp))
      have HS3 := Lib.hid (HU3.out.size)
      clear hbu hqx
      go_upto_region 9 with (at_builtin; refine app_row tyR rfl _ _ rfl wr.heap.size v1 (0 + l.rs.l.length) ([] ++ l.rs.l) rfl HO2.out (some ⟨w1.heap.size, 0, none⟩) 1 1 [⟨fr, wd, cu, bk⟩] rfl rfl HR1.out (fun e => by simp at e) (by omega) (by have := HS3.out; simp; omega) ?_; intro v2 w2 hown hgrow)
      obtain ⟨hnn, ad2, cap2, rfl, hS2, hge2⟩ := hasS_row hown
      have hU4 : Upd [] wr w2 := (HU3.out.thn hu5).grown hgrow (fun k hk hl => by have := own_ge HO.out k hk; omega)
      rw [List.nil_append] at hS2
      have hI3 := HI.out.rs hU4 hS2 (fun x hx => by
        rcases List.mem_append.1 hx with hx | hx
        · exact (HI.out.has.rg x hx).stay hU4
        · obtain rfl : x = _ := List.mem_singleton.1 hx
          exact HS.out.has.stay hU4) (fun b hb ha => ⟨avS_ge (n := wr.heap.size) hge2 (Nat.lt_of_lt_of_le hb HI.out.upd.size), fun x hx => by
        rcases List.mem_append.1 hx with hx | hx
        · exact ha.rg x hx
        · obtain rfl : x = _ := List.mem_singleton.1 hx
          exact HS.out.av b hb⟩)
      simp only at hI3
      have hln : (l.rs.l ++ [(⟨fr, wd, cu, bk⟩ : RgR)]).length = l.rs.l.length + 1 := by simp
      rw [hln] at hI3
      have HLN := Lib.hid hln
      have q0 := hU4.at HI.out.cells (by simp)
      have HI3 := Lib.hid hI3
      obtain ⟨k0, k1, k2, k3, k4, k5⟩ := cells6 q0
      obtain ⟨z0, z1, z2, z3, z4, z5⟩ := free6 q0
      clear c0 c1 c2 c3 hown hgrow hS2 hge2 hu5 hnn hU4 q0 hI3 hln
      go_upto_region 10 with (fail)
      clear k0 k1 k2 k3 k4 k5 z0 z1 z2 z3 z4 z5
      with_reducible generalize w2.setCell ⟨H, 2, none⟩ (.slice ad2 (l.rs.l.length + 1) cap2) = w3 at HI3 ⊢
      have q2 := HI3.out.other (R := H + 1) (by omega) HB2.out
      have HQ2 := Lib.hid q2
      obtain ⟨c0, c1, c2, c3, c4, c5⟩ := cells6 HI3.out.cells
      obtain ⟨y0, y1, y2, y3, y4, y5⟩ := cells6 q2
      obtain ⟨z0, z1, z2, z3, z4, z5⟩ := free6 q2
      clear q2
      simp only at c0 c1 c2 c3 c4 c5
      rw [HLN.out] at c2
      go_wp2_with fail
      have p2 := stored6 HQ2.out (.int .i64 l.ts) (.slice l.top.ad l.top.l.length l.top.cap) (.slice ad2 (l.rs.l.length + 1) cap2) (.slice l.bot.ad l.bot.l.length l.bot.cap) (.int .i64 l.mv) (.int .i64 l.cp)
      have hU5 := upd_set6 w3 (H + 1) (.int .i64 l.ts) (.slice l.top.ad l.top.l.length l.top.cap) (.slice ad2 (l.rs.l.length + 1) cap2) (.slice l.bot.ad l.bot.l.length l.bot.cap) (.int .i64 l.mv) (.int .i64 l.cp)
      with_reducible generalize (((((w3.setCell ⟨H + 1, 0, none⟩ (.int .i64 l.ts)).setCell ⟨H + 1, 1, none⟩ (.slice l.top.ad l.top.l.length l.top.cap)).setCell ⟨H + 1, 2, none⟩ (.slice ad2 (l.rs.l.length + 1) cap2)).setCell ⟨H + 1, 3, none⟩ (.slice l.bot.ad l.bot.l.length l.bot.cap)).setCell ⟨H + 1, 4, none⟩ (.int .i64 l.mv)).setCell ⟨H + 1, 5, none⟩ (.int .i64 l.cp) = wf at p2 hU5 ⊢
      obtain ⟨r0, r1, r2, r3, r4, r5⟩ := cells6 p2
      have hfin : GivesRD l gl w (.returned (.agg #[.int .i64 l.ts, .slice l.top.ad l.top.l.length l.top.cap, .slice ad2 (l.rs.l.length + 1) cap2, .slice l.bot.ad l.bot.l.length l.bot.cap, .int .i64 l.mv, .int .i64 l.cp])) wf := ⟨⟨l.ts, l.top, ⟨l.rs.l ++ [⟨fr, wd, cu, bk⟩], ad2, cap2⟩, l.bot, l.mv, l.cp⟩, by simp only [encD, cellsD, HLN.out], HI3.out.fin (by have := HH.out; omega) (by have := HWS.out; omega) hU5 (by rw [HGL.out]; simp only [LdR.ld, List.map_append, List.map_cons, List.map_nil]; rw [← ld_rs l, HENK.out])⟩
      exact bodyPost_ret (v := .agg #[.int .i64 l.ts, .slice l.top.ad l.top.l.length l.top.cap, .slice ad2 (l.rs.l.length + 1) cap2, .slice l.bot.ad l.bot.l.length l.bot.cap, .int .i64 l.mv, .int .i64 l.cp]) (by simp [results, Tryz.results73, go_sem, r0, r1, r2, r3, r4, r5]) rfl hfin
end Go.Proofs.YtpabapjodcafkaaGreat
namespace Go.Proofs.YtpabapjodcafkaaGreat
open Go.RowKit Go.Lib

/-- A call made a queue out of the one in the box, and the result's box is written. -/
theorem InD.next {w0 W : World} {P R : Nat} {l0 : LdR} {wr w2 wf : World} {l l2 : LdR} {g : Ld} (h : InD w0 W P l0 wr l) (hn : NxtD wr l g w2 l2) (hR : w0.heap.size ≤ R) (hRW : R < W.heap.size) (hu : Upd [R] w2 wf) : NxtD w0 l0 g wf l2 := by
  have hsz := h.upd.size
  exact ⟨hn.eq, hn.has.keep1 hu (hn.av R (by omega) (h.avW hR hRW)), fun b hb ha => by
    have hbW : b < W.heap.size := Nat.lt_of_lt_of_le hb h.up0.size
    exact hn.av b (by omega) (h.av b hbW ha), (h.up.thn hn.upd).new hu hR⟩
set_option maxRecDepth 100000 in
set_option maxHeartbeats 8000000 in
theorem RFromTop_has (l : LdR) (w : World) (h : HasD w l) (hg : GoodL l.ld) (hlen : lenD l.ld ≤ 100000) (hmv : 0 ≤ l.mv ∧ l.mv ≤ 1000000000000) (ht0 : 0 < l.top.l.length) :
    Calls Tryz.prog 61 #[encD l] w (GivesRD l (fromTop l.ld) w) := by
  have htn : l.top.l.length ≤ 100000 := by
    simp only [lenD, LdR.ld] at hlen
    omega
  have hrl : l.rs.l.length ≤ 4 := by have := hg.len; simpa [LdR.ld] using this
  obtain ⟨x, hx⟩ : ∃ x, x = l.top.l[0].t := ⟨_, rfl⟩
  have hxd : (l.top.l.headD default).t = x := by
    rw [hx, headD_zero ht0]
  have hbd : 0 ≤ minT x l.top.l ∧ minT x l.top.l ≤ maxT x l.top.l ∧ maxT x l.top.l ≤ 1152921504606846976 := by
    have htt : ∀ it ∈ l.top.l, 0 ≤ it.t ∧ it.t ≤ 1152921504606846976 := fun it hit => by have := hg.top it hit; have := hg.ts0; unfold MaxT at *; omega
    obtain ⟨mn1, mn2, mn3⟩ := minT_le l.top.l x
    obtain ⟨mx1, mx2, mx3⟩ := maxT_le l.top.l x
    have hx0 := htt _ (List.getElem_mem ht0)
    rw [← hx] at hx0
    refine ⟨?_, by omega, ?_⟩
    · rcases mn3 with h | ⟨it, hit, h⟩
      · omega
      · have := htt it hit; omega
    · rcases mx3 with h | ⟨it, hit, h⟩
      · omega
      · have := htt it hit; omega
  have HS1 := Lib.hid (fun k (h : k < l.top.l.length) => minT_succ (x := x) h)
  have HS2 := Lib.hid (fun k (h : k < l.top.l.length) => maxT_succ (x := x) h)
  have hz1 : minT x (l.top.l.take 0) = x := rfl
  have hz2 : maxT x (l.top.l.take 0) = x := rfl
  have HZ := Lib.hid (And.intro hz1 hz2)
  have HEN : Hid (minT x (l.top.l.take l.top.l.length) = minT x l.top.l ∧ maxT x (l.top.l.take l.top.l.length) = maxT x l.top.l) := by rw [List.take_length]; exact ⟨rfl, rfl⟩
  have HE1 : Hid (∀ l' : LdR, l.top.l.length ≤ 4 → l'.ld = { l.ld with ts := maxT x l.top.l + 1, top := [], bot := sortI l.top.l, mv := l.mv + l.top.l.length } → l'.ld = fromTop l.ld) := fun l' h4 e => by
    rw [e]; exact (fromTop_small hxd h4).symm
  have HE2 : Hid (∀ l' : LdR, ¬ l.top.l.length ≤ 4 → l'.ld = { l.ld with ts := maxT x l.top.l + 1, top := [], rs := l.ld.rs ++ [spreadR (minT x l.top.l) ((maxT x l.top.l - minT x l.top.l) / 8 + 1) l.top.l], mv := l.mv + l.top.l.length } → l'.ld = fromTop l.ld) := fun l' h4 e => by
    rw [e]; exact (fromTop_big hxd h4).symm
  have HSO := Lib.hid (fun W (hs : HasS LI W l.top) => Sort_has l.top W hs htn)
  have HSP := Lib.hid (fun (l2 : LdR) W (h2 : HasD W l2) (hr2 : l2.rs.l.length ≤ 4) (hs : HasS LI W l.top) => RSpread_has l2 (minT x l.top.l) ((maxT x l.top.l - minT x l.top.l) / 8 + 1) l.top W h2 hs htn (by omega) hbd.1 (by omega) (by omega) (by omega))
  have HWD := Lib.hid (fun W => RWidth_in (minT x l.top.l) (maxT x l.top.l) hbd.1 hbd.2.1 hbd.2.2 W)
  have HST : Hid (∀ (H : Nat) (W : World), w.heap.size = H → Upd [] w W → W.heap[H]? = some (.cells (cellsD l) 42 (0, 0)) → InD w W H l W l) := fun H W hH hu hb => InD.start h hu (by omega) hb
  have HAVT : Hid (∀ b, AvD l b → AvS l.top b) := fun b h => h.top
  have HTOP : Hid (∀ W, Upd [] w W → HasS LI W l.top) := fun W hu => h.top.stay hu
  have HLL : Hid (encD l = .agg #[.int .i64 l.ts, .slice l.top.ad l.top.l.length l.top.cap, .slice l.rs.ad l.rs.l.length l.rs.cap, .slice l.bot.ad l.bot.l.length l.bot.cap, .int .i64 l.mv, .int .i64 l.cp]) := rfl
  rw [HLL.out]
  generalize fromTop l.ld = gl at *
  have hmx0 : 0 ≤ maxT x l.top.l ∧ maxT x l.top.l ≤ 1152921504606846976 := by omega
  have HMX := Lib.hid hmx0
  obtain ⟨n, hn⟩ : ∃ n, n = l.top.l.length := ⟨_, rfl⟩
  have HN := Lib.hid hn
  rw [← hn] at htn ht0
  rw [← hn] at HEN HE1 HE2 HSO ⊢
  have HRL := Lib.hid hrl
  clear h hg hlen hxd hbd hz1 hz2 HLL hmx0 hn hrl
  generalize hmx : maxT x l.top.l = mx at *
  generalize hmn : minT x l.top.l = mn at *
  generalize (mx - mn) / 8 + 1 = wd at *
  have HX := Lib.hid hx
  clear hmx hmn hx
  go_enter Tryz.func61, Tryz.ntmps61
  go_upto_region 1 with (fail)
  generalize hA : (Obj.cells #[.int .i64 l.ts, .slice l.top.ad n l.top.cap, .slice l.rs.ad l.rs.l.length l.rs.cap, .slice l.bot.ad l.bot.l.length l.bot.cap, .int .i64 l.mv, .int .i64 l.cp] 42 : Obj) = A
  generalize hC : (Obj.cells #[.int .i64 0, .slice none 0 0, .slice none 0 0, .slice none 0 0, .int .i64 0, .int .i64 0] 42 : Obj) = C
  obtain ⟨hu, b0, b2, hsz⟩ := two_boxes w A C
  generalize (w.alloc A).alloc C = W at *
  generalize hH : w.heap.size = H at *
  rw [← hA, HN.out] at b0
  rw [← hC] at b2
  have HI0 := Lib.hid (HST.out H W rfl hu b0)
  have HB2 := Lib.hid b2; have HH := Lib.hid hH; have HWS := Lib.hid hsz; have HUW := Lib.hid hu
  rw [← HN.out] at b0
  clear hu hA hC b2 hH hsz HST
  obtain ⟨c0, c1, c2, c3, c4, c5⟩ := cells6 b0
  obtain ⟨b, off, hbo, x0, x1, x2⟩ := (HTOP.out W HUW.out).row.item 0 (by rw [← HN.out]; exact ht0)
  rw [← HX.out] at x0
  simp only [Nat.zero_mul, Nat.add_zero] at x0
  rw [hbo] at c1
  have HBO := Lib.hid hbo
  have h0z : (0 : Int) < (n : Int) := by omega
  clear b0 hbo x1 x2
  go_upto_region 3 with (fail)
  clear x0 h0z
  go_wp2_with fail
  go_loopg [3, 4, 5] n (fun gk v4 v5 vi wr => ∃ k : Nat, v4 = .int .i64 (minT x (l.top.l.take k)) ∧ v5 = .int .i64 (maxT x (l.top.l.take k)) ∧ vi = .int .i64 k ∧ k + gk = n ∧ W = wr)
  case atStart => exact ⟨0, by rw [HZ.out.1], by rw [HZ.out.2], rfl, by omega, rfl⟩
  case round =>
    obtain ⟨k, rfl, rfl, rfl, hkg, rfl⟩ := hrel
    by_cases hlt : k < n
    · have hltz : (k : Int) < (n : Int) := by omega
      have hk1 : k < l.top.l.length := by have := HN.out; omega
      obtain ⟨b', off', hbo, y0, y1, y2⟩ := (HTOP.out W HUW.out).row.item k hk1
      rw [HBO.out] at hbo
      simp only [Option.some.injEq, Addr.mk.injEq, and_true] at hbo
      obtain ⟨rfl, rfl⟩ := hbo
      have HM1 := Lib.hid (HS1.out k hk1)
      have HM2 := Lib.hid (HS2.out k hk1)
      generalize hma : minT x (l.top.l.take k) = ma at *
      generalize hmb : maxT x (l.top.l.take k) = mb at *
      generalize l.top.l[k].t = y at *
      clear hma hmb y1 y2
      go_wp2_with fail
      go_roundg (n - (k + 1))
      case measure => omega
      case rel => exact ⟨k + 1, by rw [HM1.out], by rw [HM2.out], by go_num, by omega, rfl⟩
    · have hltz : ¬ (k : Int) < (n : Int) := by omega
      obtain rfl : n = k := by omega
      have HEK : Hid (minT x (l.top.l.take n) = mn ∧ maxT x (l.top.l.take n) = mx) := HEN.out
      obtain ⟨z0, z1, z2, z3, z4, z5⟩ := free6 HI0.out.cells
      rw [HEK.out.1, HEK.out.2]
      go_upto_region 10 with (fail)
      have hI1 := HI0.out.top (Upd.refl [] W) (s := ⟨[], none, 0⟩) (hasS_nil _ _) (fun b _ _ => avS_nil b _ _)
      simp only [List.length_nil] at hI1
      have HI1 := Lib.hid hI1
      clear c0 c1 c2 c3 c4 c5 z0 z1 z2 z3 z4 z5 hI1
      with_reducible generalize W.setCell ⟨H, 1, none⟩ (.slice none 0 0) = W1 at HI1 ⊢
      obtain ⟨z0, z1, z2, z3, z4, z5⟩ := free6 HI1.out.cells
      obtain ⟨c0, c1, c2, c3, c4, c5⟩ := cells6 HI1.out.cells
      have hw1 : IntKind.i64.wrap (mx + 1) = mx + 1 := by have := HMX.out; rw [IntKind.wrap_i64]; omega
      go_upto_region 11 with (fail)
      have HI2 := Lib.hid (HI1.out.ts (mx + 1))
      clear c0 c1 c2 c3 c4 c5 z0 z1 z2 z3 z4 z5 hw1
      with_reducible generalize W1.setCell ⟨H, 0, none⟩ (.int .i64 (mx + 1)) = W2 at HI2 ⊢
      obtain ⟨z0, z1, z2, z3, z4, z5⟩ := free6 HI2.out.cells
      obtain ⟨c0, c1, c2, c3, c4, c5⟩ := cells6 HI2.out.cells
      simp only at c0 c1 c2 c3 c4 c5
      have hw1 : IntKind.i64.wrap (l.mv + (n : Int)) = l.mv + (n : Int) := by rw [IntKind.wrap_i64]; omega
      go_upto_region 12 with (fail)
      have HI3 := Lib.hid (HI2.out.mv (l.mv + (n : Int)))
      clear c0 c1 c2 c3 c4 c5 z0 z1 z2 z3 z4 z5 hw1
      with_reducible generalize W2.setCell ⟨H, 4, none⟩ (.int .i64 (l.mv + (n : Int))) = W3 at HI3 ⊢
      simp only at HI3
      have HTP := Lib.hid (HTOP.out W3 HI3.out.up)
      by_cases h4 : n ≤ 4
      · have hd4 : decide ((n : Int) ≤ 4) = true := by simp; omega
        have hso := HSO.out W3 HTP.out
        rw [HBO.out] at hso
        have HSOK := Lib.hid hso
        have HE1K := Lib.hid (fun l' => HE1.out l' h4)
        clear hso
        go_upto_region 14 with (go_at_call 72; (with_reducible refine HSOK.out.mono ?_); rintro e w6 ⟨s', rfl, hM⟩; have hq := hM.upd.at HI3.out.cells (by simp); obtain ⟨z0, z1, z2, z3, z4, z5⟩ := free6 hq; obtain ⟨y0, y1, y2, y3, y4, y5⟩ := cells6 hq; clear hq)
        have hI6 := HI3.out.bot hM.upd hM.has (fun b hb _ => avS_ge (n := W3.heap.size) hM.ge (Nat.lt_of_lt_of_le hb HI3.out.upd.size))
        have hme := hM.eq
        simp only at hI6 hme
        have HI6 := Lib.hid hI6
        have HME := Lib.hid hme
        clear hI6 hme hM y0 y1 y2 y3 y4 y5 z0 z1 z2 z3 z4 z5
        with_reducible generalize w6.setCell ⟨H, 3, none⟩ (.slice s'.ad s'.l.length s'.cap) = w7 at HI6 ⊢
        have q2 := HI6.out.other (R := H + 1) (by omega) HB2.out
        have HQ2 := Lib.hid q2
        obtain ⟨c0, c1, c2, c3, c4, c5⟩ := cells6 HI6.out.cells
        obtain ⟨y0, y1, y2, y3, y4, y5⟩ := cells6 q2
        obtain ⟨z0, z1, z2, z3, z4, z5⟩ := free6 q2
        clear q2
        simp only [List.length_nil] at c0 c1 c2 c3 c4 c5
        go_wp2_with fail
        have p2 := stored6 HQ2.out (.int .i64 (mx + 1)) (.slice none 0 0) (.slice l.rs.ad l.rs.l.length l.rs.cap) (.slice s'.ad s'.l.length s'.cap) (.int .i64 (l.mv + ((n : Nat) : Int))) (.int .i64 l.cp)
        have hU5 := upd_set6 w7 (H + 1) (.int .i64 (mx + 1)) (.slice none 0 0) (.slice l.rs.ad l.rs.l.length l.rs.cap) (.slice s'.ad s'.l.length s'.cap) (.int .i64 (l.mv + ((n : Nat) : Int))) (.int .i64 l.cp)
        with_reducible generalize (((((w7.setCell ⟨H + 1, 0, none⟩ (.int .i64 (mx + 1))).setCell ⟨H + 1, 1, none⟩ (.slice none 0 0)).setCell ⟨H + 1, 2, none⟩ (.slice l.rs.ad l.rs.l.length l.rs.cap)).setCell ⟨H + 1, 3, none⟩ (.slice s'.ad s'.l.length s'.cap)).setCell ⟨H + 1, 4, none⟩ (.int .i64 (l.mv + ((n : Nat) : Int)))).setCell ⟨H + 1, 5, none⟩ (.int .i64 l.cp) = wf at p2 hU5 ⊢
        obtain ⟨r0, r1, r2, r3, r4, r5⟩ := cells6 p2
        have hfin : GivesRD l gl w (.returned (.agg #[.int .i64 (mx + 1), .slice none 0 0, .slice l.rs.ad l.rs.l.length l.rs.cap, .slice s'.ad s'.l.length s'.cap, .int .i64 (l.mv + ((n : Nat) : Int)), .int .i64 l.cp])) wf := ⟨⟨mx + 1, ⟨[], none, 0⟩, l.rs, s', l.mv + ((n : Nat) : Int), l.cp⟩, rfl, HI6.out.fin (by have := HH.out; omega) (by have := HWS.out; omega) hU5 (HE1K.out _ (by simp only [LdR.ld, HME.out]))⟩
        exact bodyPost_ret (v := .agg #[.int .i64 (mx + 1), .slice none 0 0, .slice l.rs.ad l.rs.l.length l.rs.cap, .slice s'.ad s'.l.length s'.cap, .int .i64 (l.mv + ((n : Nat) : Int)), .int .i64 l.cp]) (by simp [results, Tryz.results61, go_sem, r0, r1, r2, r3, r4, r5]) rfl hfin
      · have hd4 : decide ((n : Int) ≤ 4) = false := by simp; omega
        have HE2K := Lib.hid (fun l' => HE2.out l' h4)
        go_upto_region 15 with (fail)
        have hsp := fun V (hu : Upd [] W3 V) => HSP.out ⟨mx + 1, ⟨[], none, 0⟩, l.rs, l.bot, l.mv + (n : Int), l.cp⟩ V (HI3.out.has.stay hu) HRL.out (HTP.out.stay hu)
        rw [← HN.out, HBO.out] at hsp
        unfold encD cellsD at hsp
        simp only [List.length_nil] at hsp
        have HSPK := Lib.hid hsp
        have q2 := HI3.out.other (R := H + 1) (by omega) HB2.out
        have HQ2 := Lib.hid q2
        obtain ⟨c0, c1, c2, c3, c4, c5⟩ := cells6 HI3.out.cells
        simp only [List.length_nil] at c0 c1 c2 c3 c4 c5
        clear hsp q2 hd4 h4
        have HKP := Lib.hid (fun V (hu : Upd [H + 1] W3 V) => (⟨hu.cell c0 (by simp), hu.cell c1 (by simp), hu.cell c2 (by simp), hu.cell c3 (by simp), hu.cell c4 (by simp), hu.cell c5 (by simp)⟩ : V.cell? ⟨H, 0, none⟩ = some (.int .i64 (mx + 1)) ∧ V.cell? ⟨H, 1, none⟩ = some (.slice none 0 0) ∧ V.cell? ⟨H, 2, none⟩ = some (.slice l.rs.ad l.rs.l.length l.rs.cap) ∧ V.cell? ⟨H, 3, none⟩ = some (.slice l.bot.ad l.bot.l.length l.bot.cap) ∧ V.cell? ⟨H, 4, none⟩ = some (.int .i64 (l.mv + (n : Int))) ∧ V.cell? ⟨H, 5, none⟩ = some (.int .i64 l.cp)))
        go_region_held3 (fun wz => wz.cell? ⟨H, 0, none⟩ = some (.int .i64 (mx + 1)) ∧ wz.cell? ⟨H, 1, none⟩ = some (.slice none 0 0) ∧ wz.cell? ⟨H, 2, none⟩ = some (.slice l.rs.ad l.rs.l.length l.rs.cap) ∧ wz.cell? ⟨H, 3, none⟩ = some (.slice l.bot.ad l.bot.l.length l.bot.cap) ∧ wz.cell? ⟨H, 4, none⟩ = some (.int .i64 (l.mv + (n : Int))) ∧ wz.cell? ⟨H, 5, none⟩ = some (.int .i64 l.cp)) (first | (with_reducible exact ⟨c0, c1, c2, c3, c4, c5⟩) | (refine HKP.out _ ?_; (repeat (first | (with_reducible exact Upd.refl [H + 1] _) | (with_reducible refine Upd.drew ?_) | refine Upd.setCell ?_ (by simp) _ | refine Upd.trans (T := []) ?_ (by assumption) (by simp))); done)) (first
          | (go_at_call 74; (with_reducible refine (HWD.out _).mono ?_); rintro e w' ⟨rfl, hu1⟩)
          | (go_at_call 73; (with_reducible refine (HSPK.out _ ?_).mono ?_); (repeat (first | exact Upd.refl [] _ | refine Upd.drew ?_ | refine Upd.alloc ?_ _ | refine Upd.trans (T := []) ?_ (by assumption) (by simp))); rintro e w6 ⟨l2, rfl, hN⟩; have hN3 := NxtD.enter (w0 := W3) (by repeat (first | exact Upd.refl [] _ | refine Upd.drew ?_ | refine Upd.trans (T := []) ?_ (by assumption) (by simp))) hN; have hu6 := hN3.upd; have hq := hu6.at HQ2.out (by simp); obtain ⟨z0, z1, z2, z3, z4, z5⟩ := free6 hq; obtain ⟨y0, y1, y2, y3, y4, y5⟩ := cells6 hq; have HQF := Lib.hid hq; unfold encD cellsD))
        have hN4 : NxtD W3 ⟨mx + 1, ⟨[], none, 0⟩, l.rs, l.bot, l.mv + (n : Int), l.cp⟩ gl w6 l2 := ⟨HE2K.out l2 hN3.eq, hN3.has, hN3.av, hN3.upd⟩
        have HN4 := Lib.hid hN4
        clear hN hN3 hu6 hq hN4 z0 z1 z2 z3 z4 z5 y0 y1 y2 y3 y4 y5 c0 c1 c2 c3 c4 c5
        have p2 := stored6 HQF.out (.int .i64 l2.ts) (.slice l2.top.ad l2.top.l.length l2.top.cap) (.slice l2.rs.ad l2.rs.l.length l2.rs.cap) (.slice l2.bot.ad l2.bot.l.length l2.bot.cap) (.int .i64 l2.mv) (.int .i64 l2.cp)
        have hU5 := upd_set6 w6 (H + 1) (.int .i64 l2.ts) (.slice l2.top.ad l2.top.l.length l2.top.cap) (.slice l2.rs.ad l2.rs.l.length l2.rs.cap) (.slice l2.bot.ad l2.bot.l.length l2.bot.cap) (.int .i64 l2.mv) (.int .i64 l2.cp)
        with_reducible generalize (((((w6.setCell ⟨H + 1, 0, none⟩ (.int .i64 l2.ts)).setCell ⟨H + 1, 1, none⟩ (.slice l2.top.ad l2.top.l.length l2.top.cap)).setCell ⟨H + 1, 2, none⟩ (.slice l2.rs.ad l2.rs.l.length l2.rs.cap)).setCell ⟨H + 1, 3, none⟩ (.slice l2.bot.ad l2.bot.l.length l2.bot.cap)).setCell ⟨H + 1, 4, none⟩ (.int .i64 l2.mv)).setCell ⟨H + 1, 5, none⟩ (.int .i64 l2.cp) = wf at p2 hU5 ⊢
        go_wp2_with fail
        obtain ⟨r0, r1, r2, r3, r4, r5⟩ := cells6 p2
        have hfin : GivesRD l gl w (.returned (encD l2)) wf := ⟨l2, rfl, HI3.out.next HN4.out (by have := HH.out; omega) (by have := HWS.out; omega) hU5⟩
        exact bodyPost_ret (v := encD l2) (by simp [encD, cellsD, results, Tryz.results61, go_sem, r0, r1, r2, r3, r4, r5]) rfl hfin
end Go.Proofs.YtpabapjodcafkaaGreat
