/- Contract: the program's addRung, walked. -/
/- Contracts: the program's Width, Narrow; takeTop. -/
import Derived.Test.YtpabapjodcafkaaGreatPM
namespace Go.Proofs.YtpabapjodcafkaaGreat
open Go.RowKit Go.Lib

set_option maxRecDepth 100000 in
set_option maxHeartbeats 8000000 in
theorem addRung_has (l : LdR) (r : RgR) (s : SlR It) (b0 : Nat) (w : World) (hO : Own b0 w l) (hb0 : b0 ≤ w.heap.size) (hr : HasR w r) (hg : GoodR r.rg) (hz : lenL r.rg.bs = 0)
    (hav : ∀ b, (b < b0 ∨ l.top.v.ownBlock = some b ∨ l.bot.v.ownBlock = some b ∨ l.rs.v.ownBlock = some b) → AvR r b) (hs : HasS LI w s) (hn : s.l.length ≤ 100000) (hrl : l.rs.l.length ≤ 1000) (hmv : 0 ≤ l.mv ∧ l.mv ≤ 1000000000000) :
    Calls Tryz.prog 80 #[encD l, encR r, .slice s.ad s.l.length s.cap] w (Added b0 w l r { l.ld with rs := l.ld.rs ++ [foldR r.rg s.l], mv := l.mv + s.l.length }) := by
  have HFN : Hid (∀ (wq w1 wf : World) (O : Obj) (va : Option Addr) (vc : Nat) (r1 : RgR) (H : Nat), w.heap.size = H → r1.rg = foldR r.rg s.l → Upd [] w wq → HasR wq r1 → (∀ b, b < w.heap.size + 3 → AvR r b → AvR r1 b) → w1.ownsRow b0 59 4 (.slice va (l.rs.l.length + 1) vc) (l.rs.l.length + 1) (LR.flat (l.rs.l ++ [r1])) → (wq.alloc O).grownBy w1 l.rs.v.ownBlock →
      ((Value.slice va (l.rs.l.length + 1) vc).ownBlock = l.rs.v.ownBlock ∨ (Value.slice va (l.rs.l.length + 1) vc).ownBlock = some (wq.alloc O).heap.size) → (∃ c f, w1.heap[H]? = some (.cells c 42 f)) → (∃ c f, w1.heap[H + 2]? = some (.cells c 42 f)) → Upd [H, H + 2] w1 wf →
      Added b0 w l r { l.ld with rs := l.ld.rs ++ [foldR r.rg s.l], mv := l.mv + s.l.length } (.returned (.agg #[.int .i64 l.ts, .slice l.top.ad l.top.l.length l.top.cap, .slice va (l.rs.l.length + 1) vc, .slice l.bot.ad l.bot.l.length l.bot.cap, .int .i64 (l.mv + s.l.length), .int .i64 l.cp])) wf) := fun wq w1 wf O va vc r1 H hH he hU h1 hav1 hown hgr hwh hbA hbC hUf => by
    have hA := own_add rfl hO hb0 hU h1 (fun b hb => hav1 b (by omega)) hav hown hgr hwh (l.mv + s.l.length)
    obtain ⟨hA1, hA2⟩ := hA
    obtain ⟨cA, fA, hbA⟩ := hbA
    obtain ⟨cC, fC, hbC⟩ := hbC
    have hbig : ∀ b, w.heap.size ≤ b → b < w.heap.size + 3 → ∀ x ∈ l.rs.l ++ [r1], AvR x b := fun b hb hb3 x hx => by
      rcases List.mem_append.1 hx with hx | hx
      · exact (hO.rg x hx).1.avoids hb
      · obtain rfl : x = r1 := by simpa using hx
        exact hav1 b hb3 (hr.avoids hb)
    have hUf1 : ∃ wm, Upd [H] w1 wm ∧ Upd [H + 2] wm wf := by
      refine ⟨{ w1 with heap := w1.heap.modify H (fun _ => (wf.heap[H]?).getD default) }, ?_, ?_⟩
      · refine ⟨rfl, rfl, rfl, by simp, fun k hk hm => ?_⟩
        show (w1.heap.modify H _)[k]? = _
        rw [Array.getElem?_modify, if_neg (by intro e; exact hm (by simp [e]))]
      · refine ⟨hUf.os, hUf.tape, hUf.output, by simpa using hUf.size, fun k hk hm => ?_⟩
        show _ = (w1.heap.modify H _)[k]?
        rw [Array.getElem?_modify]
        by_cases e : H = k
        · subst e
          have hlt := lt_block hbA
          have hltf : H < wf.heap.size := Nat.lt_of_lt_of_le hlt hUf.size
          rw [if_pos rfl, hbA, Option.map_some, Array.getElem?_eq_getElem hltf]; rfl
        · rw [if_neg e]
          exact hUf.block k (by simpa using hk) (by simp only [List.mem_cons, List.not_mem_nil, or_false]; rintro (rfl | rfl); exact e rfl; exact hm (by simp))
    obtain ⟨wm, hm1, hm2⟩ := hUf1
    have hO1 := hA1.box hbA (by decide) (hbig H (by omega) (by omega)) hm1
    have hO2 := hO1.box (hm1.at hbC (by simp)) (by decide) (hbig (H + 2) (by omega) (by omega)) hm2
    refine ⟨⟨l.ts, l.top, ⟨l.rs.l ++ [r1], va, vc⟩, l.bot, l.mv + s.l.length, l.cp⟩, ?_, ?_, hO2, fun b hb ha hr' x hx => ?_, ?_, (hA2.trans hm1 (fun x hx hl => by simp at hx; omega)).trans hm2 (fun x hx hl => by simp at hx; omega)⟩
    · simp only [encD, cellsD, List.length_append, List.length_singleton]
    · simp only [LdR.ld, List.map_append, List.map_cons, List.map_nil, he]
    · rcases List.mem_append.1 hx with hx | hx
      · exact ha x hx
      · obtain rfl : x = r1 := by simpa using hx
        exact hav1 b (by omega) hr'
    · have hF1 : Fr b0 w w1 := Fr.of_upd hA2 fun x hx => by
        have hx2 := toList_of hx
        refine ⟨own_ge hO.rs x hx2, fun c f e => ne_own e hO.rs (by decide) hx2⟩
      exact (hF1.new hm1 (by omega)).new hm2 (by omega)
  have HST := Lib.hid (fun (H : Nat) (A C : Obj) (k : Nat) (wr wz w4 : World) (r' r2 : RgR) (h : Roll w r s.l H A C k wr r') (hH : w.heap.size = H) (hk : k < s.l.length) (hu : Upd [] wr wz) (hn : Nxt wz r' (putR r'.rg s.l[k]).1 w4 r2) => h.step hH hr hk hu hn)
  have HZ : Hid (∀ (H : Nat) (A C : Obj) (W : World), w.heap.size = H → Upd [] w W → W.heap[H]? = some A → W.heap[H + 1]? = some (.cells (cellsR r) 59 (0, 0)) → W.heap[H + 2]? = some C → Roll w r s.l H A C 0 W r) := fun H A C W hH hu h0 h1 h2 => ⟨rfl, h1, hr.stay hu, fun b _ h => h, hu, h0, h2⟩
  have HOK := Lib.hid (foldR_ok hg hz s.l)
  have HSR := Lib.hid hs
  have HRS := Lib.hid hO.rs
  obtain ⟨n, hnn⟩ : ∃ n, n = s.l.length := ⟨_, rfl⟩
  have HN := Lib.hid hnn
  have HB0 := Lib.hid hb0
  rw [← hnn] at hn ⊢
  obtain ⟨sl, sa, sc⟩ := s
  obtain ⟨ts, ⟨tl, ta, tc⟩, ⟨rl, ra, rc⟩, ⟨bl, ba, bc⟩, mv, cp⟩ := l
  simp only at HFN HST HZ HOK HSR HRS HN hmv hrl ⊢
  rw [← HN.out] at HFN
  simp only [SlR.v] at HRS HFN
  generalize hgl : ({ (LdR.ld ⟨ts, ⟨tl, ta, tc⟩, ⟨rl, ra, rc⟩, ⟨bl, ba, bc⟩, mv, cp⟩ : Ld) with rs := (LdR.ld ⟨ts, ⟨tl, ta, tc⟩, ⟨rl, ra, rc⟩, ⟨bl, ba, bc⟩, mv, cp⟩).rs ++ [foldR r.rg sl], mv := mv + (n : Int) } : Ld) = gl at *
  unfold encD cellsD
  simp only
  generalize (⟨ts, ⟨tl, ta, tc⟩, ⟨rl, ra, rc⟩, ⟨bl, ba, bc⟩, mv, cp⟩ : LdR) = ll at *
  generalize tl.length = tn at *
  generalize bl.length = bn at *
  generalize hrn : rl.length = rn at *
  have HRN := Lib.hid hrn
  clear hO hb0 hav hs hr hg hz hnn hgl hrn
  unfold encR
  go_enter Tryz.func80, Tryz.ntmps80
  go_upto_region 1 with (fail)
  generalize hA : (Obj.cells #[.int .i64 ts, .slice ta tn tc, .slice ra rn rc, .slice ba bn bc, .int .i64 mv, .int .i64 cp] 42 : Obj) = A
  generalize hB : (Obj.cells #[.int .i64 r.fr, .int .i64 r.wd, .int .i64 r.cu, .slice r.bk.ad r.bk.l.length r.bk.cap] 59 : Obj) = B
  generalize hC : (Obj.cells #[.int .i64 0, .slice none 0 0, .slice none 0 0, .slice none 0 0, .int .i64 0, .int .i64 0] 42 : Obj) = C
  obtain ⟨hu, b0', b1', b2', hsz⟩ := three_boxes w A B C
  generalize ((w.alloc A).alloc B).alloc C = W at *
  generalize hH : w.heap.size = H at *
  have HH := Lib.hid hH
  have HR0 := Lib.hid (HZ.out H A C W rfl hu b0' (by rw [b1', ← hB]; rfl) (by simpa using b2'))
  have HA := Lib.hid hA; have HC := Lib.hid hC
  clear hu hA hB hC b0' b1' b2' hH hsz
  go_wp2_with fail
  go_loopg [11] n (fun gk vi wr => ∃ (k : Nat) (r' : RgR), vi = .int .i64 k ∧ k + gk = n ∧ Hid (Roll w r sl H A C k wr r'))
  case atStart => exact ⟨0, r, rfl, by omega, HR0⟩
  case round =>
    obtain ⟨k, r', rfl, hkg, HRL⟩ := hrel
    by_cases hlt : k < n
    · have hltz : (k : Int) < (n : Int) := by omega
      have hk1 : k < sl.length := by have := HN.out; omega
      obtain ⟨b', off', hbo, y0, y1, y2⟩ := (HSR.out.stay HRL.out.upd).row.item k hk1
      subst hbo
      obtain ⟨hok1, hok2⟩ := HOK.out k (by omega)
      rw [← HRL.out.eq] at hok1 hok2
      have HPT := Lib.hid (fun wz (hu : Upd [] wr wz) => Put_has r' sl[k] wz (HRL.out.has.stay hu) hok1 (by omega))
      have HSTK := Lib.hid (fun wz w4 r2 => HST.out H A C k wr wz w4 r' r2 HRL.out rfl hk1)
      have HIT : Hid (aggI sl[k] = .agg #[.int .i64 sl[k].t, .int .i64 sl[k].q, .int .i64 sl[k].s]) := rfl
      rw [HIT.out] at HPT
      clear HIT hok1 hok2
      generalize sl[k] = it at *
      generalize hit : it.t = i0 at *
      generalize it.q = i1 at *
      generalize it.s = i2 at *
      clear hit
      go_upto_region 4 with (fail)
      have hb := heap_alloc1 wr (.cells #[.int .i64 i0, .int .i64 i1, .int .i64 i2] 38)
      have hu2 := (Upd.refl [] wr).alloc (.cells #[.int .i64 i0, .int .i64 i1, .int .i64 i2] 38)
      generalize wr.alloc (.cells #[.int .i64 i0, .int .i64 i1, .int .i64 i2] 38) = W2 at *
      generalize wr.heap.size = P at *
      obtain ⟨c0, c1, c2⟩ := cells3 hb
      have q1 := hu2.at HRL.out.box (by simp)
      have HU2 := Lib.hid hu2
      have HPT2 := Lib.hid (HPT.out W2 hu2)
      clear hb y0 y1 y2 hu2
      unfold cellsR at q1
      unfold encR at HPT2
      obtain ⟨d0, d1, d2, d3⟩ := cells4 q1
      have HQ1 := Lib.hid q1
      clear q1
      go_upto_region 5 with (go_at_call 39; (with_reducible refine HPT2.out.mono ?_); rintro e w4 ⟨r2, rfl, hnx⟩; have hq := hnx.upd.at HQ1.out (by simp); obtain ⟨z0, z1, z2, z3⟩ := free4 hq; obtain ⟨g0, g1, g2, g3⟩ := cells4 hq; have HNX := Lib.hid hnx; clear hnx hq; unfold encR)
      have HR2 := Lib.hid (HSTK.out W2 w4 r2 HU2.out HNX.out)
      generalize (((w4.setCell ⟨H + 1, 0, none⟩ (.int .i64 r2.fr)).setCell ⟨H + 1, 1, none⟩ (.int .i64 r2.wd)).setCell ⟨H + 1, 2, none⟩ (.int .i64 r2.cu)).setCell ⟨H + 1, 3, none⟩ (.slice r2.bk.ad r2.bk.l.length r2.bk.cap) = w5 at *
      clear z0 z1 z2 z3 g0 g1 g2 g3 c0 c1 c2 d0 d1 d2 d3
      go_wp2_with fail
      go_roundg (gk - 1)
      case measure => omega
      case rel => exact ⟨k + 1, r2, by go_num, by omega, HR2⟩
    · have hltz : ¬ (k : Int) < (n : Int) := by omega
      have hrl := HRL.out
      rw [show k = sl.length by have := HN.out; omega] at hrl
      have q0 := hrl.a
      rw [← HA.out] at q0
      have q1 := hrl.box
      have q2 : wr.heap[H + 1 + 1]? = some C := hrl.c
      rw [← HC.out] at q2
      have HE : Hid (r'.rg = foldR r.rg sl) := by have := hrl.eq; rw [List.take_length] at this; exact this
      have HQ0 := Lib.hid q0; have HQ2 := Lib.hid q2; have HF := Lib.hid hrl
      unfold cellsR at q1
      obtain ⟨c0, c1, c2, c3, c4, c5⟩ := cells6 q0
      obtain ⟨z0, z1, z2, z3, z4, z5⟩ := free6 q0
      obtain ⟨d0, d1, d2, d3⟩ := cells4 q1
      have HRO := Lib.hid (fun (b : Nat) (W : World) (h : W.heap[b]? = some (.cells #[.int .i64 r'.fr, .int .i64 r'.wd, .int .i64 r'.cu, .slice r'.bk.ad r'.bk.l.length r'.bk.cap] 59 (0, 0))) => row_oneR h)
      have HRW := Lib.hid (fun O => (hrl.upd.alloc O).row HRS.out (by simp))
      have hrw0 := hrl.upd.row HRS.out (by simp)
      have hbw : b0 ≤ wr.heap.size := Nat.le_trans HB0.out (by have h1 := hrl.upd.size; have h2 := HH.out; omega)
      clear q0 q1 q2 hrl c0 c1 c3 c4 c5 z0 z1 z3 z4 z5
      go_upto_region 7 with (at_builtin; refine app_row2 tyR rfl _ _ rfl b0 (.slice ra rn rc) rn rl rfl (HRW.out _) ⟨wr.heap.size, 0, none⟩ 1 1 [r'] rfl rfl (by decide) (HRO.out _ _ (heap_alloc1 _ _)) (by omega) (by simp; omega) ?_; intro v' w1 hown hgrow hwh; obtain ⟨va, vc, rfl⟩ := row_shape hown; have hug := upd_grown hgrow; have hq := hug.at (((Upd.refl [] wr).alloc _).at HQ0.out (by simp)) (fun hm => ne_own HQ0.out hrw0 (by decide) (toList_of hm)); have hq2 := hug.at (((Upd.refl [] wr).alloc _).at HQ2.out (by simp)) (fun hm => ne_own HQ2.out hrw0 (by decide) (toList_of hm)); obtain ⟨c0, c1, c2, c3, c4, c5⟩ := cells6 hq; obtain ⟨z0, z1, z2, z3, z4, z5⟩ := free6 hq; have HOW := Lib.hid hown; have HGW := Lib.hid hgrow; have HWH := Lib.hid hwh; have HQ3 := Lib.hid hq; have HQ4 := Lib.hid hq2; clear hown hgrow hwh hug hq hq2)
      have q0 : (w1.setCell ⟨H, 2, none⟩ (.slice va (rn + 1) vc)).heap[H]? = some (.cells #[.int .i64 ts, .slice ta tn tc, .slice va (rn + 1) vc, .slice ba bn bc, .int .i64 mv, .int .i64 cp] 42 (0, 0)) := setCell_block HQ3.out _
      have hU1 := upd_set1 w1 H 2 (.slice va (rn + 1) vc)
      have q2 := hU1.at HQ4.out (by simp only [List.mem_singleton]; omega)
      have HUA : Hid (Upd [H, H + 1 + 1] w1 (w1.setCell ⟨H, 2, none⟩ (.slice va (rn + 1) vc))) := hU1.mono (by simp)
      generalize w1.setCell ⟨H, 2, none⟩ (.slice va (rn + 1) vc) = w2 at *
      have HQ0' := Lib.hid q0; have HQ2' := Lib.hid q2
      clear hU1 c0 c1 c2 c3 c4 c5 z0 z1 z2 z3 z4 z5 q2 d0 d1 d2 d3
      obtain ⟨c0, c1, c2, c3, c4, c5⟩ := cells6 q0
      obtain ⟨z0, z1, z2, z3, z4, z5⟩ := free6 q0
      clear q0 c0 c1 c2 c3 c5 z0 z1 z2 z3 z5
      have hw1 : IntKind.i64.wrap (mv + (n : Int)) = mv + (n : Int) := by rw [IntKind.wrap_i64]; omega
      go_upto_region 8 with (fail)
      have q0 : (w2.setCell ⟨H, 4, none⟩ (.int .i64 (mv + n))).heap[H]? = some (.cells #[.int .i64 ts, .slice ta tn tc, .slice va (rn + 1) vc, .slice ba bn bc, .int .i64 (mv + n), .int .i64 cp] 42 (0, 0)) := setCell_block HQ0'.out _
      have hU1 := upd_set1 w2 H 4 (.int .i64 (mv + n))
      have q2 := hU1.at HQ2'.out (by simp only [List.mem_singleton]; omega)
      have HUB : Hid (Upd [H, H + 1 + 1] w1 (w2.setCell ⟨H, 4, none⟩ (.int .i64 (mv + n)))) := HUA.out.trans hU1 (by simp)
      generalize w2.setCell ⟨H, 4, none⟩ (.int .i64 (mv + n)) = w3 at *
      have HQ5 := Lib.hid q2
      clear hU1 c4 z4
      obtain ⟨c0, c1, c2, c3, c4, c5⟩ := cells6 q0
      obtain ⟨e0, e1, e2, e3, e4, e5⟩ := cells6 q2
      obtain ⟨z0, z1, z2, z3, z4, z5⟩ := free6 q2
      clear q0 q2
      go_wp2_with fail
      have p2 := stored6 HQ5.out (.int .i64 ts) (.slice ta tn tc) (.slice va (rn + 1) vc) (.slice ba bn bc) (.int .i64 (mv + n)) (.int .i64 cp)
      have hU5 := upd_set6 w3 (H + 1 + 1) (.int .i64 ts) (.slice ta tn tc) (.slice va (rn + 1) vc) (.slice ba bn bc) (.int .i64 (mv + n)) (.int .i64 cp)
      generalize (((((w3.setCell ⟨H + 1 + 1, 0, none⟩ (.int .i64 ts)).setCell ⟨H + 1 + 1, 1, none⟩ (.slice ta tn tc)).setCell ⟨H + 1 + 1, 2, none⟩ (.slice va (rn + 1) vc)).setCell ⟨H + 1 + 1, 3, none⟩ (.slice ba bn bc)).setCell ⟨H + 1 + 1, 4, none⟩ (.int .i64 (mv + n))).setCell ⟨H + 1 + 1, 5, none⟩ (.int .i64 cp) = wf at p2 hU5 ⊢
      obtain ⟨r0, r1, r2, r3, r4, r5⟩ := cells6 p2
      have hfin := fun O => HFN.out wr w1 wf O va vc r' H rfl HE.out HF.out.upd HF.out.has (by rw [← HH.out]; exact HF.out.av)

      refine bodyPost_ret (v := .agg #[.int .i64 ts, .slice ta tn tc, .slice va (rn + 1) vc, .slice ba bn bc, .int .i64 (mv + n), .int .i64 cp]) (by simp [results, Tryz.results80, go_sem, r0, r1, r2, r3, r4, r5]) rfl ?_
      exact hfin _ HOW.out HGW.out HWH.out ⟨_, _, HQ3.out⟩ ⟨_, _, HQ4.out⟩ (HUB.out.trans hU5 (by simp))
end Go.Proofs.YtpabapjodcafkaaGreat
namespace Go.Proofs.YtpabapjodcafkaaGreat
open Go.RowKit Go.Lib

set_option maxHeartbeats 1000000 in
theorem divide_up (a : Int) (ha : 0 ≤ a ∧ a ≤ 4611686018427387904) (w : World) :
    Calls Tryz.prog 68 #[.int .i64 a, .int .i64 8, .bool true] w fun e w' => e = .returned (.int .i64 ((a + 7) / 8)) ∧ Upd [] w w' := by
  have hd : a.tdiv 8 = a / 8 := Int.tdiv_eq_ediv_of_nonneg ha.1
  have hm : a.tmod 8 = a % 8 := Int.tmod_eq_emod_of_nonneg ha.1
  have hw1 : IntKind.i64.wrap (a / 8) = a / 8 := by rw [IntKind.wrap_i64]; omega
  have hw2 : IntKind.i64.wrap (a % 8) = a % 8 := by rw [IntKind.wrap_i64]; omega
  have hw3 : IntKind.i64.wrap (a / 8 + 1) = a / 8 + 1 := by rw [IntKind.wrap_i64]; omega
  by_cases h0 : 0 < a % 8
  · have d0 : decide (0 < a % 8) = true := by simpa using h0
    have hs : (a + 7) / 8 = a / 8 + 1 := by omega
    rw [hs]
    clear hs
    generalize a / 8 = q at *
    generalize a % 8 = r at *
    go_enter Tryz.func68, Tryz.ntmps68
    go_wp2_with fail
    go_quiet (fail)
    go_wp2_with fail
    go_ret
    exact ⟨rfl, (Upd.refl [] _).drewN _⟩
  · have d0 : decide (0 < a % 8) = false := by simpa using h0
    have hs : (a + 7) / 8 = a / 8 := by omega
    rw [hs]
    clear hs
    generalize a / 8 = q at *
    generalize a % 8 = r at *
    go_enter Tryz.func68, Tryz.ntmps68
    go_wp2_with fail
    go_quiet (fail)
    go_wp2_with fail
    go_ret
    exact ⟨rfl, (Upd.refl [] _).drewN _⟩

set_option maxHeartbeats 400000 in
theorem Width_in (x y : Int) (hx : 0 ≤ x) (h : x ≤ y) (hy : y ≤ 1152921504606846976) (w : World) :
    Calls Tryz.prog 85 #[.int .i64 x, .int .i64 y] w fun e w' => e = .returned (.int .i64 ((y - x) / 8 + 1)) ∧ Upd [] w w' := by
  have hs : IntKind.i64.wrap (y - x) = y - x := by rw [IntKind.wrap_i64]; omega
  have ht : IntKind.i64.wrap ((y - x) / 8 + 1) = (y - x) / 8 + 1 := by rw [IntKind.wrap_i64]; omega
  have E1 := Lib.hid (divide_down (y - x) 8 (by omega) (by decide))
  go_enter Tryz.func85, Tryz.ntmps85
  go_wp2_with fail
  refine (E1.out _).mono ?_
  rintro e w' ⟨rfl, hu⟩
  go_wp2_with fail
  go_ret
  exact ⟨rfl, hu⟩
set_option maxHeartbeats 400000 in
theorem Narrow_in (n : Int) (h : 0 ≤ n ∧ n ≤ 4611686018427387904) (w : World) :
    Calls Tryz.prog 82 #[.int .i64 n] w fun e w' => e = .returned (.int .i64 ((n + 7) / 8)) ∧ Upd [] w w' := by
  have E1 := Lib.hid (divide_up n h)
  go_enter Tryz.func82, Tryz.ntmps82
  go_wp2_with fail
  refine (E1.out _).mono ?_
  rintro e w' ⟨rfl, hu⟩
  go_wp2_with fail
  go_ret
  exact ⟨rfl, hu⟩
theorem headD_zero {l : List It} (h : 0 < l.length) : l.headD default = l[0] := by
  cases l with
  | nil => simp at h
  | cons y ys => rfl
def nilTop (l : LdR) (ts : Int) : LdR := ⟨ts, ⟨[], none, 0⟩, l.rs, l.bot, l.mv, l.cp⟩
theorem own_nilTop {b0 : Nat} {w : World} {l : LdR} (h : Own b0 w l) (ts : Int) : Own b0 w (nilTop l ts) :=
  ⟨World.ownsRow_nil _ _ _ _, h.rs, h.bot, h.rg, fun k hk => by simp [nilTop, SlR.v, Value.ownBlock] at hk, fun k hk => ⟨avS_nil _ _ _, (h.avB k hk).2⟩, h.avR⟩
theorem gran_end {b0 : Nat} {w W w5 wf : World} {l l' : LdR} {g : Ld} {B : Nat} (hb : w.heap.size ≤ B) (hu : Upd [] w W) (hB : ∃ c f, W.heap[B]? = some (.cells c 42 f)) (he : l'.ld = g) (hO : Own b0 w5 l') (hav : ∀ b, b < w.heap.size ∨ b = B → (∀ r ∈ l.rs.l, AvR r b) → ∀ x ∈ l'.rs.l, AvR x b) (hl : ∀ r ∈ l.rs.l, AvR r B) (hf : Fr b0 W w5) (hu2 : Upd [B] w5 wf) :
    Gran b0 w l g (.returned (encD l')) wf := by
  obtain ⟨c, f, hB⟩ := hB
  exact ⟨l', rfl, he, hO.box (hf.box hB) (by decide) (hav B (.inr rfl) hl) hu2, fun b hb2 ha => hav b (.inl hb2) ha, (hf.enter hu).new hu2 hb⟩
theorem fromTop_small {ts mv cp : Int} {tl : List It} {rs : List Rg} {bl : List It} {x : Int} (hx : (tl.headD default).t = x) (h : tl.length ≤ 4) : fromTop ⟨ts, tl, rs, bl, mv, cp⟩ = ⟨maxT x tl + 1, [], rs, sortI tl, mv + tl.length, cp⟩ := by
  subst hx; unfold fromTop; rw [if_pos (by simpa using h)]; rfl
theorem fromTop_big {ts mv cp : Int} {tl : List It} {rs : List Rg} {bl : List It} {x : Int} (hx : (tl.headD default).t = x) (h : ¬ tl.length ≤ 4) : fromTop ⟨ts, tl, rs, bl, mv, cp⟩ = ⟨maxT x tl + 1, [], rs ++ [foldR (newR (minT x tl) ((maxT x tl - minT x tl) / 8 + 1)) tl], bl, mv + tl.length, cp⟩ := by
  subst hx; unfold fromTop; rw [if_neg h]; rfl
set_option maxRecDepth 100000 in
set_option maxHeartbeats 8000000 in
theorem takeTop_has (l : LdR) (b0 : Nat) (w : World) (hO : Own b0 w l) (hb0 : b0 ≤ w.heap.size) (hrs : l.rs.l = []) (ht0 : 0 < l.top.l.length) (htn : l.top.l.length ≤ 100000) (htd : DistI l.top.l) (htt : ∀ it ∈ l.top.l, 0 ≤ it.t ∧ it.t ≤ MaxT) (hmv : 0 ≤ l.mv ∧ l.mv ≤ 1000000000000) :
    Calls Tryz.prog 71 #[encD l] w (Gran b0 w l (fromTop l.ld)) := by
  obtain ⟨x, hx⟩ : ∃ x, x = l.top.l[0].t := ⟨_, rfl⟩
  have hxd : (l.top.l.headD default).t = x := by
    rw [hx, headD_zero ht0]
  obtain ⟨mn1, mn2, mn3⟩ := minT_le l.top.l x
  obtain ⟨mx1, mx2, mx3⟩ := maxT_le l.top.l x
  have hx0 := htt _ (List.getElem_mem ht0)
  rw [← hx] at hx0
  have hbd : 0 ≤ minT x l.top.l ∧ minT x l.top.l ≤ maxT x l.top.l ∧ maxT x l.top.l ≤ 1152921504606846976 := by
    unfold MaxT at *
    refine ⟨?_, by omega, ?_⟩
    · rcases mn3 with h | ⟨it, hit, h⟩
      · omega
      · have := htt it hit; omega
    · rcases mx3 with h | ⟨it, hit, h⟩
      · omega
      · have := htt it hit; omega
  have HSP := Lib.hid (fun W (hu : Upd [] w W) => span_has l.top.ad l.top.cap l.top.l x W ((hO.has.stay hu).top.row) ht0 hx.symm (by omega))
  have HEND := Lib.hid (fun (W w5 wf : World) (l' : LdR) (hu : Upd [] w W) (hB : ∃ c f, W.heap[w.heap.size + 1]? = some (.cells c 42 f)) (he : l'.ld = fromTop l.ld) (hO5 : Own b0 w5 l') (hav : ∀ b, b < w.heap.size ∨ b = w.heap.size + 1 → (∀ r ∈ l.rs.l, AvR r b) → ∀ x ∈ l'.rs.l, AvR x b) (hf : Fr b0 W w5) (hu2 : Upd [w.heap.size + 1] w5 wf) =>
    gran_end (w := w) (l := l) (by omega) hu hB he hO5 hav (fun r hr => by rw [hrs] at hr; simp at hr) hf hu2)
  have HFB : Hid (l.top.l.length ≤ 4 → ∀ W, Upd [] w W → Calls Tryz.prog 83 #[encD (nilTop l (maxT x l.top.l + 1)), .slice l.top.ad l.top.l.length l.top.cap] W (Gran b0 W (nilTop l (maxT x l.top.l + 1)) (fromTop l.ld))) := fun h4 W hu => by
    have := fillBottom_has (nilTop l (maxT x l.top.l + 1)) l.top b0 W ((own_nilTop hO _).stay hu) (hu.row hO.top (by simp)) (fun k hk => ⟨by simp [nilTop, SlR.v, Value.ownBlock], fun r hr => by have hr' : r ∈ l.rs.l := hr; rw [hrs] at hr'; simp at hr'⟩) ht0 htn htd hmv
    have e : ({ (nilTop l (maxT x l.top.l + 1)).ld with bot := sortI l.top.l, mv := (nilTop l (maxT x l.top.l + 1)).mv + l.top.l.length } : Ld) = fromTop l.ld := (fromTop_small hxd h4).symm
    rw [e] at this
    exact this
  have HAR : Hid (¬ l.top.l.length ≤ 4 → ∀ W0 W r, Upd [] w W0 → w.heap.size + 2 ≤ W0.heap.size → Born W0 (newR (minT x l.top.l) ((maxT x l.top.l - minT x l.top.l) / 8 + 1)) W r → ∀ W2, Upd [] W W2 → Calls Tryz.prog 80 #[encD (nilTop l (maxT x l.top.l + 1)), encR r, .slice l.top.ad l.top.l.length l.top.cap] W2 fun e w' => ∃ l', e = .returned (encD l') ∧ l'.ld = fromTop l.ld ∧ Own b0 w' l' ∧ (∀ b, b < w.heap.size ∨ b = w.heap.size + 1 → (∀ r ∈ l.rs.l, AvR r b) → ∀ x ∈ l'.rs.l, AvR x b) ∧ Fr b0 W2 w') := fun h4 W0 W r hu hsz hB W2 hu2 => by
    have hu3 := (hu.thn hB.upd).thn hu2
    have hg : GoodR r.rg := by rw [hB.eq]; exact newR_good hbd.1 (by omega) (by omega) (by omega)
    have := addRung_has (nilTop l (maxT x l.top.l + 1)) r l.top b0 W2 ((own_nilTop hO _).stay hu3) (Nat.le_trans hb0 hu3.size) (hB.has.stay hu2) hg (by rw [hB.eq]; exact lenL_zero (fun i _ => bAt_rep 8 i)) (fun b hb => hB.av b (by
      rcases hb with hb | hb | hb | hb
      · have := hu.size; omega
      · simp [nilTop, SlR.v, Value.ownBlock] at hb
      · have := (hO.bot.lt b hb).2; have := hu.size; omega
      · have := (hO.rs.lt b hb).2; have := hu.size; omega)) (hO.has.stay hu3).top htn (by simp [nilTop, hrs]) hmv
    have e : ({ (nilTop l (maxT x l.top.l + 1)).ld with rs := (nilTop l (maxT x l.top.l + 1)).ld.rs ++ [foldR r.rg l.top.l], mv := (nilTop l (maxT x l.top.l + 1)).mv + l.top.l.length } : Ld) = fromTop l.ld := by
      rw [hB.eq]; exact (fromTop_big hxd h4).symm
    rw [e] at this
    refine this.mono ?_
    rintro e w' ⟨l', he, h1, h2, h3, h4, _⟩
    exact ⟨l', he, h1, h2, fun b hb ha => h3 b (by have e1 := hB.upd.size; have e2 := hu2.size; omega) ha (hB.av b (by omega)), h4⟩
  have HWD := Lib.hid (fun W => Width_in (minT x l.top.l) (maxT x l.top.l) hbd.1 hbd.2.1 hbd.2.2 W)
  have HNW := Lib.hid (fun W => New_has (minT x l.top.l) ((maxT x l.top.l - minT x l.top.l) / 8 + 1) W)
  generalize fromTop l.ld = gl at *
  generalize hmx : maxT x l.top.l = mx at *
  generalize hmn : minT x l.top.l = mn at *
  have hbd1 := hbd.2.2
  have hbd0 : 0 ≤ mx := by omega
  obtain ⟨ts, ⟨tl, ta, tc⟩, ⟨rl, ra, rc⟩, ⟨bl, ba, bc⟩, mv, cp⟩ := l
  unfold nilTop at HFB HAR
  unfold encD cellsD at HFB HAR ⊢
  simp only [List.length_nil] at hrs HSP HFB HAR htn hmv ⊢
  clear hO hb0 hrs ht0 htd htt hx hxd mn1 mn2 mn3 mx1 mx2 mx3 hx0 hbd hmx hmn
  generalize htl : tl.length = tn at *
  generalize bl.length = bn at *
  generalize rl.length = rn at *
  generalize (mx - mn) / 8 + 1 = wd at *
  clear htl
  have HLL : Hid ((⟨ts, ⟨tl, ta, tc⟩, ⟨rl, ra, rc⟩, ⟨bl, ba, bc⟩, mv, cp⟩ : LdR).rs.l = rl) := rfl
  generalize (⟨ts, ⟨tl, ta, tc⟩, ⟨rl, ra, rc⟩, ⟨bl, ba, bc⟩, mv, cp⟩ : LdR) = ll at *
  go_enter Tryz.func71, Tryz.ntmps71
  go_upto_region 1 with (fail)
  generalize hA : (Obj.cells #[.int .i64 ts, .slice ta tn tc, .slice ra rn rc, .slice ba bn bc, .int .i64 mv, .int .i64 cp] 42 : Obj) = A
  generalize hC : (Obj.cells #[.int .i64 0, .slice none 0 0, .slice none 0 0, .slice none 0 0, .int .i64 0, .int .i64 0] 42 : Obj) = C
  obtain ⟨hu, b0', b2, hsz⟩ := two_boxes w A C
  generalize (w.alloc A).alloc C = W at *
  generalize hH : w.heap.size = H at *
  rw [← hA] at b0'
  rw [← hC] at b2
  have HU := Lib.hid hu; have HB0 := Lib.hid b0'; have HB2 := Lib.hid b2; have HH := Lib.hid hH; have HSZ := Lib.hid hsz
  clear hu hA hC b0' b2 hH hsz
  obtain ⟨c0, c1, c2, c3, c4, c5⟩ := cells6 HB0.out
  clear c0 c2 c3 c4 c5
  go_upto_region 3 with (go_at_call 84; (with_reducible refine (HSP.out _ HU.out).mono ?_); rintro e w1 ⟨rfl, hu1⟩)
  have q0 := hu1.at HB0.out (by simp)
  have q2 := hu1.at HB2.out (by simp)
  have HU1 := Lib.hid (HU.out.thn hu1)
  have HS1 : Hid (H + 2 ≤ w1.heap.size) := by have h1 := hu1.size; have h2 := HSZ.out; show H + 2 ≤ w1.heap.size; omega
  have HQ0 := Lib.hid q0; have HQ2 := Lib.hid q2
  obtain ⟨c0, c1', c2, c3, c4, c5⟩ := cells6 q0
  obtain ⟨d0, d1, d2, d3, d4, d5⟩ := free6 q0
  clear c1 hu1 q0 q2 c2 c3 c4 c5 d2 d3 d4 d5
  go_upto_region 4 with (fail)
  have q0 : (w1.setCell ⟨H, 1, none⟩ (.slice none 0 0)).heap[H]? = some (.cells #[.int .i64 ts, .slice none 0 0, .slice ra rn rc, .slice ba bn bc, .int .i64 mv, .int .i64 cp] 42 (0, 0)) := setCell_block HQ0.out _
  have hU1 := upd_set1 w1 H 1 (.slice none 0 0)
  have q2 := hU1.at HQ2.out (by simp)
  have HUA : Hid (Upd [] w (w1.setCell ⟨H, 1, none⟩ (.slice none 0 0))) := HU1.out.new hU1 (by have := HH.out; omega)
  have HS2 : Hid (H + 2 ≤ (w1.setCell ⟨H, 1, none⟩ (.slice none 0 0)).heap.size) := Nat.le_trans HS1.out hU1.size
  generalize w1.setCell ⟨H, 1, none⟩ (.slice none 0 0) = w2 at *
  have HQ0' := Lib.hid q0; have HQ2' := Lib.hid q2
  clear c0 c1' d0 d1 hU1 q2
  obtain ⟨c0, c1, c2, c3, c4, c5⟩ := cells6 q0
  obtain ⟨d0, d1, d2, d3, d4, d5⟩ := free6 q0
  clear q0 c1 c2 c3 c4 c5 d1 d2 d3 d4 d5
  have hw1 : IntKind.i64.wrap (mx + 1) = mx + 1 := by rw [IntKind.wrap_i64]; omega
  go_upto_region 5 with (fail)
  have q0 : (w2.setCell ⟨H, 0, none⟩ (.int .i64 (mx + 1))).heap[H]? = some (.cells #[.int .i64 (mx + 1), .slice none 0 0, .slice ra rn rc, .slice ba bn bc, .int .i64 mv, .int .i64 cp] 42 (0, 0)) := setCell_block HQ0'.out _
  have hU1 := upd_set1 w2 H 0 (.int .i64 (mx + 1))
  have q2 := hU1.at HQ2'.out (by simp)
  have HUB : Hid (Upd [] w (w2.setCell ⟨H, 0, none⟩ (.int .i64 (mx + 1)))) := HUA.out.new hU1 (by have := HH.out; omega)
  have HS3 : Hid (H + 2 ≤ (w2.setCell ⟨H, 0, none⟩ (.int .i64 (mx + 1))).heap.size) := Nat.le_trans HS2.out hU1.size
  generalize w2.setCell ⟨H, 0, none⟩ (.int .i64 (mx + 1)) = w3 at *
  have HQ0'' := Lib.hid q0; have HQ2'' := Lib.hid q2
  clear c0 d0 hU1 q2 hw1
  obtain ⟨c0, c1, c2, c3, c4, c5⟩ := cells6 q0
  clear q0
  by_cases h4 : tn ≤ 4
  · have hd4 : decide ((tn : Int) ≤ 4) = true := by simp; omega
    have HFB2 := Lib.hid (HFB.out h4 w3 HUB.out)
    go_wp2_with (go_at_call 83; go_loud ((with_reducible refine HFB2.out.mono ?_); rintro e w5 ⟨l', rfl, hR⟩; have hq := hR.fr.box HQ2''.out; obtain ⟨z0, z1, z2, z3, z4, z5⟩ := free6 hq; obtain ⟨y0, y1, y2, y3, y4, y5⟩ := cells6 hq; have HRR := Lib.hid hR; have HQF := Lib.hid hq; clear hR hq; unfold encD cellsD))
    have p2 := stored6 HQF.out (.int .i64 l'.ts) (.slice l'.top.ad l'.top.l.length l'.top.cap) (.slice l'.rs.ad l'.rs.l.length l'.rs.cap) (.slice l'.bot.ad l'.bot.l.length l'.bot.cap) (.int .i64 l'.mv) (.int .i64 l'.cp)
    have hU5 := upd_set6 w5 (H + 1) (.int .i64 l'.ts) (.slice l'.top.ad l'.top.l.length l'.top.cap) (.slice l'.rs.ad l'.rs.l.length l'.rs.cap) (.slice l'.bot.ad l'.bot.l.length l'.bot.cap) (.int .i64 l'.mv) (.int .i64 l'.cp)
    generalize (((((w5.setCell ⟨H + 1, 0, none⟩ (.int .i64 l'.ts)).setCell ⟨H + 1, 1, none⟩ (.slice l'.top.ad l'.top.l.length l'.top.cap)).setCell ⟨H + 1, 2, none⟩ (.slice l'.rs.ad l'.rs.l.length l'.rs.cap)).setCell ⟨H + 1, 3, none⟩ (.slice l'.bot.ad l'.bot.l.length l'.bot.cap)).setCell ⟨H + 1, 4, none⟩ (.int .i64 l'.mv)).setCell ⟨H + 1, 5, none⟩ (.int .i64 l'.cp) = wf at p2 hU5 ⊢
    obtain ⟨r0, r1, r2, r3, r4, r5⟩ := cells6 p2
    refine bodyPost_ret (v := encD l') (by simp [encD, cellsD, results, Tryz.results71, go_sem, r0, r1, r2, r3, r4, r5]) rfl ?_
    obtain ⟨_, e, hRR⟩ : ∃ l2, encD l' = encD l2 ∧ Ran b0 w3 ⟨mx + 1, ⟨[], none, 0⟩, ⟨rl, ra, rc⟩, ⟨bl, ba, bc⟩, mv, cp⟩ gl w5 l' := ⟨l', rfl, HRR.out⟩
    exact HEND.out w3 w5 wf l' HUB.out ⟨_, _, HQ2''.out⟩ hRR.eq hRR.own (fun b hb ha => hRR.av b (by have h1 := HS3.out; have h2 := HH.out; omega) (by show ∀ r ∈ rl, AvR r b; rw [← HLL.out]; exact ha)) hRR.fr hU5
  · have hd4 : decide ((tn : Int) ≤ 4) = false := by simp; omega
    have HAR2 := Lib.hid (fun W0 W r (hu : Upd [] w3 W0) => HAR.out h4 W0 W r (HUB.out.thn hu) (by have h1 := HS3.out; have h2 := HH.out; have h3 := hu.size; omega))
    unfold encR at HAR2
    have HKP := Lib.hid (fun W (hu : Upd [] w3 W) => (⟨hu.cell c0 (by simp), hu.cell c1 (by simp), hu.cell c2 (by simp), hu.cell c3 (by simp), hu.cell c4 (by simp), hu.cell c5 (by simp)⟩ : W.cell? ⟨H, 0, none⟩ = some (.int .i64 (mx + 1)) ∧ W.cell? ⟨H, 1, none⟩ = some (.slice none 0 0) ∧ W.cell? ⟨H, 2, none⟩ = some (.slice ra rn rc) ∧ W.cell? ⟨H, 3, none⟩ = some (.slice ba bn bc) ∧ W.cell? ⟨H, 4, none⟩ = some (.int .i64 mv) ∧ W.cell? ⟨H, 5, none⟩ = some (.int .i64 cp)))
    go_upto_region 7 with (fail)
    clear HFB
    go_region_held3 (fun wz => wz.cell? ⟨H, 0, none⟩ = some (.int .i64 (mx + 1)) ∧ wz.cell? ⟨H, 1, none⟩ = some (.slice none 0 0) ∧ wz.cell? ⟨H, 2, none⟩ = some (.slice ra rn rc) ∧ wz.cell? ⟨H, 3, none⟩ = some (.slice ba bn bc) ∧ wz.cell? ⟨H, 4, none⟩ = some (.int .i64 mv) ∧ wz.cell? ⟨H, 5, none⟩ = some (.int .i64 cp)) (first | (with_reducible exact ⟨c0, c1, c2, c3, c4, c5⟩) | (with_reducible exact ⟨g0, g1, g2, g3, g4, g5⟩) | (refine hkg _ ?_; (repeat (first | (with_reducible exact Upd.refl [H + 1] _) | (with_reducible refine Upd.drew ?_) | refine Upd.setCell ?_ (by simp) _)); done) | (refine HKP.out _ ?_; (repeat (first | (with_reducible exact Upd.refl [] _) | (with_reducible refine Upd.drew ?_) | (with_reducible refine Upd.trans (T := []) ?_ (by assumption) (by simp)) | (with_reducible refine Upd.trans (T := []) ?_ hBn.upd (by simp)))); done)) (first
      | (go_at_call 85; (with_reducible refine (HWD.out _).mono ?_); rintro e w' ⟨rfl, huw⟩)
      | (go_at_call 81; (with_reducible refine (HNW.out _).mono ?_); rintro e wn ⟨r', rfl, hBn⟩; unfold encR)
      | (go_at_call 80; (with_reducible refine (HAR2.out _ _ _ (by (repeat (first | exact Upd.refl [] _ | refine Upd.drew ?_ | refine Upd.trans (T := []) ?_ (by assumption) (by simp)))) hBn _ (by (repeat (first | exact Upd.refl [] _ | refine Upd.drew ?_)))).mono ?_); rintro e w5 ⟨l', rfl, hR1, hR2, hR3, hR4⟩; have hq := hR4.box (hBn.upd.at ((by (repeat (first | exact Upd.refl [] _ | refine Upd.drew ?_ | refine Upd.trans (T := []) ?_ (by assumption) (by simp))) : Upd [] w3 _).at HQ2''.out (by simp)) (by simp)); obtain ⟨z0, z1, z2, z3, z4, z5⟩ := free6 hq; obtain ⟨y0, y1, y2, y3, y4, y5⟩ := cells6 hq; have hq0 := hR4.box (hBn.upd.at ((by (repeat (first | exact Upd.refl [] _ | refine Upd.drew ?_ | refine Upd.trans (T := []) ?_ (by assumption) (by simp))) : Upd [] w3 _).at HQ0''.out (by simp)) (by simp)); obtain ⟨g0, g1, g2, g3, g4, g5⟩ := cells6 hq0; have HFX : Hid (∃ W2, Upd [] w W2 ∧ (∃ c f, W2.heap[H + 1]? = some (.cells c 42 f)) ∧ Fr b0 W2 w5) := ⟨_, (HUB.out.thn (by (repeat (first | exact Upd.refl [] _ | refine Upd.drew ?_ | refine Upd.trans (T := []) ?_ (by assumption) (by simp))) : Upd [] w3 _)).thn hBn.upd, ⟨_, _, hBn.upd.at ((by (repeat (first | exact Upd.refl [] _ | refine Upd.drew ?_ | refine Upd.trans (T := []) ?_ (by assumption) (by simp))) : Upd [] w3 _).at HQ2''.out (by simp)) (by simp)⟩, hR4⟩; have HRX : Hid (l'.ld = gl ∧ Own b0 w5 l' ∧ (∀ b, b < H ∨ b = H + 1 → (∀ r ∈ ll.rs.l, AvR r b) → ∀ x ∈ l'.rs.l, AvR x b)) := ⟨hR1, hR2, fun b hb ha => hR3 b hb (by rw [← HLL.out]; exact ha)⟩; have HQF := Lib.hid hq; have hkg := fun W (hu : Upd [H + 1] w5 W) => (⟨hu.cell g0 (by simp), hu.cell g1 (by simp), hu.cell g2 (by simp), hu.cell g3 (by simp), hu.cell g4 (by simp), hu.cell g5 (by simp)⟩ : W.cell? ⟨H, 0, none⟩ = some (.int .i64 (mx + 1)) ∧ W.cell? ⟨H, 1, none⟩ = some (.slice none 0 0) ∧ W.cell? ⟨H, 2, none⟩ = some (.slice ra rn rc) ∧ W.cell? ⟨H, 3, none⟩ = some (.slice ba bn bc) ∧ W.cell? ⟨H, 4, none⟩ = some (.int .i64 mv) ∧ W.cell? ⟨H, 5, none⟩ = some (.int .i64 cp))))
    have p2 := stored6 HQF.out (.int .i64 l'.ts) (.slice l'.top.ad l'.top.l.length l'.top.cap) (.slice l'.rs.ad l'.rs.l.length l'.rs.cap) (.slice l'.bot.ad l'.bot.l.length l'.bot.cap) (.int .i64 l'.mv) (.int .i64 l'.cp)
    have hU5 := upd_set6 w5 (H + 1) (.int .i64 l'.ts) (.slice l'.top.ad l'.top.l.length l'.top.cap) (.slice l'.rs.ad l'.rs.l.length l'.rs.cap) (.slice l'.bot.ad l'.bot.l.length l'.bot.cap) (.int .i64 l'.mv) (.int .i64 l'.cp)
    generalize (((((w5.setCell ⟨H + 1, 0, none⟩ (.int .i64 l'.ts)).setCell ⟨H + 1, 1, none⟩ (.slice l'.top.ad l'.top.l.length l'.top.cap)).setCell ⟨H + 1, 2, none⟩ (.slice l'.rs.ad l'.rs.l.length l'.rs.cap)).setCell ⟨H + 1, 3, none⟩ (.slice l'.bot.ad l'.bot.l.length l'.bot.cap)).setCell ⟨H + 1, 4, none⟩ (.int .i64 l'.mv)).setCell ⟨H + 1, 5, none⟩ (.int .i64 l'.cp) = wf at p2 hU5 ⊢
    obtain ⟨r0, r1, r2, r3, r4, r5⟩ := cells6 p2
    obtain ⟨W2, x1, x2, x3⟩ := HFX.out
    obtain ⟨x4, x5, x6⟩ := HRX.out
    clear hkg c0 c1 c2 c3 c4 c5 g0 g1 g2 g3 g4 g5 y0 y1 y2 y3 y4 y5 z0 z1 z2 z3 z4 z5
    go_wp2_with fail
    exact bodyPost_ret (v := encD l') (by simp [encD, cellsD, results, Tryz.results71, go_sem, r0, r1, r2, r3, r4, r5]) rfl (HEND.out W2 w5 wf l' x1 x2 x4 x5 x6 x3 hU5)
end Go.Proofs.YtpabapjodcafkaaGreat
