/- Contract: the program's addRung, walked. -/
import Derived.Test.YtneodiemgemhfaaPM
namespace Go.Proofs.Ytneodiemgemhfaa
open Go.RowKit Go.Lib

set_option maxRecDepth 100000 in
set_option maxHeartbeats 8000000 in
theorem addRung_has (l : LdR) (r : RgR) (s : SlR It) (b0 : Nat) (w : World) (hO : Own b0 w l) (hb0 : b0 ≤ w.heap.size) (hr : HasR w r) (hg : GoodR r.rg) (hz : lenL r.rg.bs = 0)
    (hav : ∀ b, (b < b0 ∨ l.top.v.ownBlock = some b ∨ l.bot.v.ownBlock = some b ∨ l.rs.v.ownBlock = some b) → AvR r b) (hs : HasS LI w s) (hn : s.l.length ≤ 100000) (hrl : l.rs.l.length ≤ 1000) (hmv : 0 ≤ l.mv ∧ l.mv ≤ 1000000000000) :
    Calls Try.prog 64 #[encD l, encR r, .slice s.ad s.l.length s.cap] w (Added b0 w l r { l.ld with rs := l.ld.rs ++ [foldR r.rg s.l], mv := l.mv + s.l.length }) := by
  have HFN : Hid (∀ (wq w1 wf : World) (O : Obj) (va : Option Addr) (vc : Nat) (r1 : RgR) (H : Nat), w.heap.size = H → r1.rg = foldR r.rg s.l → Upd [] w wq → HasR wq r1 → (∀ b, b < w.heap.size + 3 → AvR r b → AvR r1 b) → w1.ownsRow b0 43 4 (.slice va (l.rs.l.length + 1) vc) (l.rs.l.length + 1) (LR.flat (l.rs.l ++ [r1])) → (wq.alloc O).grownBy w1 l.rs.v.ownBlock →
      ((Value.slice va (l.rs.l.length + 1) vc).ownBlock = l.rs.v.ownBlock ∨ (Value.slice va (l.rs.l.length + 1) vc).ownBlock = some (wq.alloc O).heap.size) → (∃ c f, w1.heap[H]? = some (.cells c 27 f)) → (∃ c f, w1.heap[H + 2]? = some (.cells c 27 f)) → Upd [H, H + 2] w1 wf →
      Added b0 w l r { l.ld with rs := l.ld.rs ++ [foldR r.rg s.l], mv := l.mv + s.l.length } (.returned (.agg #[.int .i64 l.ts, .slice l.top.ad l.top.l.length l.top.cap, .slice va (l.rs.l.length + 1) vc, .slice l.bot.ad l.bot.l.length l.bot.cap, .int .i64 (l.mv + s.l.length), .int .i64 l.cp])) wf) := fun wq w1 wf O va vc r1 H hH he hU h1 hav1 hown hgr hwh hbA hbC hUf => by
    have hA := own_add rfl hO hb0 hU h1 (fun b hb => hav1 b (by omega)) hav hown hgr hwh (l.mv + s.l.length)
    obtain ⟨hA1, hA2⟩ := hA
    obtain ⟨cA, fA, hbA⟩ := hbA
    obtain ⟨cC, fC, hbC⟩ := hbC
    have hbig : ∀ b, w.heap.size ≤ b → b < w.heap.size + 3 → ∀ x ∈ l.rs.l ++ [r1], AvR x b := fun b hb hb3 x hx => by
      rcases List.mem_append.1 hx with hx | hx
      · exact (hO.rg x hx).1.avoids hb
      · obtain rfl : x = r1 := by simpa using hx
        exact hav1 b hb3 (hr.avoids hb)
    have hUf1 : ∃ wm, Upd [H] w1 wm ∧ Upd [H + 2] wm wf := by
      refine ⟨{ w1 with heap := w1.heap.modify H (fun _ => (wf.heap[H]?).getD default) }, ?_, ?_⟩
      · refine ⟨rfl, rfl, rfl, by simp, fun k hk hm => ?_⟩
        show (w1.heap.modify H _)[k]? = _
        rw [Array.getElem?_modify, if_neg (by intro e; exact hm (by simp [e]))]
      · refine ⟨hUf.os, hUf.tape, hUf.output, by simpa using hUf.size, fun k hk hm => ?_⟩
        show _ = (w1.heap.modify H _)[k]?
        rw [Array.getElem?_modify]
        by_cases e : H = k
        · subst e
          have hlt := lt_block hbA
          have hltf : H < wf.heap.size := Nat.lt_of_lt_of_le hlt hUf.size
          rw [if_pos rfl, hbA, Option.map_some, Array.getElem?_eq_getElem hltf]; rfl
        · rw [if_neg e]
          exact hUf.block k (by simpa using hk) (by simp only [List.mem_cons, List.not_mem_nil, or_false]; rintro (rfl | rfl); exact e rfl; exact hm (by simp))
    obtain ⟨wm, hm1, hm2⟩ := hUf1
    have hO1 := hA1.box hbA (by decide) (hbig H (by omega) (by omega)) hm1
    have hO2 := hO1.box (hm1.at hbC (by simp)) (by decide) (hbig (H + 2) (by omega) (by omega)) hm2
    refine ⟨⟨l.ts, l.top, ⟨l.rs.l ++ [r1], va, vc⟩, l.bot, l.mv + s.l.length, l.cp⟩, ?_, ?_, hO2, fun b hb ha hr' x hx => ?_, ?_, (hA2.trans hm1 (fun x hx hl => by simp at hx; omega)).trans hm2 (fun x hx hl => by simp at hx; omega)⟩
    · simp only [encD, cellsD, List.length_append, List.length_singleton]
    · simp only [LdR.ld, List.map_append, List.map_cons, List.map_nil, he]
    · rcases List.mem_append.1 hx with hx | hx
      · exact ha x hx
      · obtain rfl : x = r1 := by simpa using hx
        exact hav1 b (by omega) hr'
    · have hF1 : Fr b0 w w1 := Fr.of_upd hA2 fun x hx => by
        have hx2 := toList_of hx
        refine ⟨own_ge hO.rs x hx2, fun c f e => ne_own e hO.rs (by decide) hx2⟩
      exact (hF1.new hm1 (by omega)).new hm2 (by omega)
  have HST := Lib.hid (fun (H : Nat) (A C : Obj) (k : Nat) (wr wz w4 : World) (r' r2 : RgR) (h : Roll w r s.l H A C k wr r') (hH : w.heap.size = H) (hk : k < s.l.length) (hu : Upd [] wr wz) (hn : Nxt wz r' (putR r'.rg s.l[k]).1 w4 r2) => h.step hH hr hk hu hn)
  have HZ : Hid (∀ (H : Nat) (A C : Obj) (W : World), w.heap.size = H → Upd [] w W → W.heap[H]? = some A → W.heap[H + 1]? = some (.cells (cellsR r) 43 (0, 0)) → W.heap[H + 2]? = some C → Roll w r s.l H A C 0 W r) := fun H A C W hH hu h0 h1 h2 => ⟨rfl, h1, hr.stay hu, fun b _ h => h, hu, h0, h2⟩
  have HOK := Lib.hid (foldR_ok hg hz s.l)
  have HSR := Lib.hid hs
  have HRS := Lib.hid hO.rs
  obtain ⟨n, hnn⟩ : ∃ n, n = s.l.length := ⟨_, rfl⟩
  have HN := Lib.hid hnn
  have HB0 := Lib.hid hb0
  rw [← hnn] at hn ⊢
  obtain ⟨sl, sa, sc⟩ := s
  obtain ⟨ts, ⟨tl, ta, tc⟩, ⟨rl, ra, rc⟩, ⟨bl, ba, bc⟩, mv, cp⟩ := l
  simp only at HFN HST HZ HOK HSR HRS HN hmv hrl ⊢
  rw [← HN.out] at HFN
  simp only [SlR.v] at HRS HFN
  generalize hgl : ({ (LdR.ld ⟨ts, ⟨tl, ta, tc⟩, ⟨rl, ra, rc⟩, ⟨bl, ba, bc⟩, mv, cp⟩ : Ld) with rs := (LdR.ld ⟨ts, ⟨tl, ta, tc⟩, ⟨rl, ra, rc⟩, ⟨bl, ba, bc⟩, mv, cp⟩).rs ++ [foldR r.rg sl], mv := mv + (n : Int) } : Ld) = gl at *
  unfold encD cellsD
  simp only
  generalize (⟨ts, ⟨tl, ta, tc⟩, ⟨rl, ra, rc⟩, ⟨bl, ba, bc⟩, mv, cp⟩ : LdR) = ll at *
  generalize tl.length = tn at *
  generalize bl.length = bn at *
  generalize hrn : rl.length = rn at *
  have HRN := Lib.hid hrn
  clear hO hb0 hav hs hr hg hz hnn hgl hrn
  unfold encR
  go_enter Try.func64, Try.ntmps64
  go_upto_region 1 with (fail)
  generalize hA : (Obj.cells #[.int .i64 ts, .slice ta tn tc, .slice ra rn rc, .slice ba bn bc, .int .i64 mv, .int .i64 cp] 27 : Obj) = A
  generalize hB : (Obj.cells #[.int .i64 r.fr, .int .i64 r.wd, .int .i64 r.cu, .slice r.bk.ad r.bk.l.length r.bk.cap] 43 : Obj) = B
  generalize hC : (Obj.cells #[.int .i64 0, .slice none 0 0, .slice none 0 0, .slice none 0 0, .int .i64 0, .int .i64 0] 27 : Obj) = C
  obtain ⟨hu, b0', b1', b2', hsz⟩ := three_boxes w A B C
  generalize ((w.alloc A).alloc B).alloc C = W at *
  generalize hH : w.heap.size = H at *
  have HH := Lib.hid hH
  have HR0 := Lib.hid (HZ.out H A C W rfl hu b0' (by rw [b1', ← hB]; rfl) (by simpa using b2'))
  have HA := Lib.hid hA; have HC := Lib.hid hC
  clear hu hA hB hC b0' b1' b2' hH hsz
  go_wp2_with fail
  go_loopg [11] n (fun gk vi wr => ∃ (k : Nat) (r' : RgR), vi = .int .i64 k ∧ k + gk = n ∧ Hid (Roll w r sl H A C k wr r'))
  case atStart => exact ⟨0, r, rfl, by omega, HR0⟩
  case round =>
    obtain ⟨k, r', rfl, hkg, HRL⟩ := hrel
    by_cases hlt : k < n
    · have hltz : (k : Int) < (n : Int) := by omega
      have hk1 : k < sl.length := by have := HN.out; omega
      obtain ⟨b', off', hbo, y0, y1, y2⟩ := (HSR.out.stay HRL.out.upd).row.item k hk1
      subst hbo
      obtain ⟨hok1, hok2⟩ := HOK.out k (by omega)
      rw [← HRL.out.eq] at hok1 hok2
      have HPT := Lib.hid (fun wz (hu : Upd [] wr wz) => Put_has r' sl[k] wz (HRL.out.has.stay hu) hok1 (by omega))
      have HSTK := Lib.hid (fun wz w4 r2 => HST.out H A C k wr wz w4 r' r2 HRL.out rfl hk1)
      have HIT : Hid (aggI sl[k] = .agg #[.int .i64 sl[k].t, .int .i64 sl[k].q, .int .i64 sl[k].s]) := rfl
      rw [HIT.out] at HPT
      clear HIT hok1 hok2
      generalize sl[k] = it at *
      generalize hit : it.t = i0 at *
      generalize it.q = i1 at *
      generalize it.s = i2 at *
      clear hit
      go_upto_region 4 with (fail)
      have hb := heap_alloc1 wr (.cells #[.int .i64 i0, .int .i64 i1, .int .i64 i2] 34)
      have hu2 := (Upd.refl [] wr).alloc (.cells #[.int .i64 i0, .int .i64 i1, .int .i64 i2] 34)
      generalize wr.alloc (.cells #[.int .i64 i0, .int .i64 i1, .int .i64 i2] 34) = W2 at *
      generalize wr.heap.size = P at *
      obtain ⟨c0, c1, c2⟩ := cells3 hb
      have q1 := hu2.at HRL.out.box (by simp)
      have HU2 := Lib.hid hu2
      have HPT2 := Lib.hid (HPT.out W2 hu2)
      clear hb y0 y1 y2 hu2
      unfold cellsR at q1
      unfold encR at HPT2
      obtain ⟨d0, d1, d2, d3⟩ := cells4 q1
      have HQ1 := Lib.hid q1
      clear q1
      go_upto_region 5 with (go_at_call 15; (with_reducible refine HPT2.out.mono ?_); rintro e w4 ⟨r2, rfl, hnx⟩; have hq := hnx.upd.at HQ1.out (by simp); obtain ⟨z0, z1, z2, z3⟩ := free4 hq; obtain ⟨g0, g1, g2, g3⟩ := cells4 hq; have HNX := Lib.hid hnx; clear hnx hq; unfold encR)
      have HR2 := Lib.hid (HSTK.out W2 w4 r2 HU2.out HNX.out)
      generalize (((w4.setCell ⟨H + 1, 0, none⟩ (.int .i64 r2.fr)).setCell ⟨H + 1, 1, none⟩ (.int .i64 r2.wd)).setCell ⟨H + 1, 2, none⟩ (.int .i64 r2.cu)).setCell ⟨H + 1, 3, none⟩ (.slice r2.bk.ad r2.bk.l.length r2.bk.cap) = w5 at *
      clear z0 z1 z2 z3 g0 g1 g2 g3 c0 c1 c2 d0 d1 d2 d3
      go_wp2_with fail
      go_roundg (gk - 1)
      case measure => omega
      case rel => exact ⟨k + 1, r2, by go_num, by omega, HR2⟩
    · have hltz : ¬ (k : Int) < (n : Int) := by omega
      have hrl := HRL.out
      rw [show k = sl.length by have := HN.out; omega] at hrl
      have q0 := hrl.a
      rw [← HA.out] at q0
      have q1 := hrl.box
      have q2 : wr.heap[H + 1 + 1]? = some C := hrl.c
      rw [← HC.out] at q2
      have HE : Hid (r'.rg = foldR r.rg sl) := by have := hrl.eq; rw [List.take_length] at this; exact this
      have HQ0 := Lib.hid q0; have HQ2 := Lib.hid q2; have HF := Lib.hid hrl
      unfold cellsR at q1
      obtain ⟨c0, c1, c2, c3, c4, c5⟩ := cells6 q0
      obtain ⟨z0, z1, z2, z3, z4, z5⟩ := free6 q0
      obtain ⟨d0, d1, d2, d3⟩ := cells4 q1
      have HRO := Lib.hid (fun (b : Nat) (W : World) (h : W.heap[b]? = some (.cells #[.int .i64 r'.fr, .int .i64 r'.wd, .int .i64 r'.cu, .slice r'.bk.ad r'.bk.l.length r'.bk.cap] 43 (0, 0))) => row_oneR h)
      have HRW := Lib.hid (fun O => (hrl.upd.alloc O).row HRS.out (by simp))
      have hrw0 := hrl.upd.row HRS.out (by simp)
      have hbw : b0 ≤ wr.heap.size := Nat.le_trans HB0.out (by have h1 := hrl.upd.size; have h2 := HH.out; omega)
      clear q0 q1 q2 hrl c0 c1 c3 c4 c5 z0 z1 z3 z4 z5
      go_upto_region 7 with (at_builtin; refine app_row2 tyR rfl _ _ rfl b0 (.slice ra rn rc) rn rl rfl (HRW.out _) ⟨wr.heap.size, 0, none⟩ 1 1 [r'] rfl rfl (by decide) (HRO.out _ _ (heap_alloc1 _ _)) (by omega) (by simp; omega) ?_; intro v' w1 hown hgrow hwh; obtain ⟨va, vc, rfl⟩ := row_shape hown; have hug := upd_grown hgrow; have hq := hug.at (((Upd.refl [] wr).alloc _).at HQ0.out (by simp)) (fun hm => ne_own HQ0.out hrw0 (by decide) (toList_of hm)); have hq2 := hug.at (((Upd.refl [] wr).alloc _).at HQ2.out (by simp)) (fun hm => ne_own HQ2.out hrw0 (by decide) (toList_of hm)); obtain ⟨c0, c1, c2, c3, c4, c5⟩ := cells6 hq; obtain ⟨z0, z1, z2, z3, z4, z5⟩ := free6 hq; have HOW := Lib.hid hown; have HGW := Lib.hid hgrow; have HWH := Lib.hid hwh; have HQ3 := Lib.hid hq; have HQ4 := Lib.hid hq2; clear hown hgrow hwh hug hq hq2)
      have q0 : (w1.setCell ⟨H, 2, none⟩ (.slice va (rn + 1) vc)).heap[H]? = some (.cells #[.int .i64 ts, .slice ta tn tc, .slice va (rn + 1) vc, .slice ba bn bc, .int .i64 mv, .int .i64 cp] 27 (0, 0)) := setCell_block HQ3.out _
      have hU1 := upd_set1 w1 H 2 (.slice va (rn + 1) vc)
      have q2 := hU1.at HQ4.out (by simp only [List.mem_singleton]; omega)
      have HUA : Hid (Upd [H, H + 1 + 1] w1 (w1.setCell ⟨H, 2, none⟩ (.slice va (rn + 1) vc))) := hU1.mono (by simp)
      generalize w1.setCell ⟨H, 2, none⟩ (.slice va (rn + 1) vc) = w2 at *
      have HQ0' := Lib.hid q0; have HQ2' := Lib.hid q2
      clear hU1 c0 c1 c2 c3 c4 c5 z0 z1 z2 z3 z4 z5 q2 d0 d1 d2 d3
      obtain ⟨c0, c1, c2, c3, c4, c5⟩ := cells6 q0
      obtain ⟨z0, z1, z2, z3, z4, z5⟩ := free6 q0
      clear q0 c0 c1 c2 c3 c5 z0 z1 z2 z3 z5
      have hw1 : IntKind.i64.wrap (mv + (n : Int)) = mv + (n : Int) := by rw [IntKind.wrap_i64]; omega
      go_upto_region 8 with (fail)
      have q0 : (w2.setCell ⟨H, 4, none⟩ (.int .i64 (mv + n))).heap[H]? = some (.cells #[.int .i64 ts, .slice ta tn tc, .slice va (rn + 1) vc, .slice ba bn bc, .int .i64 (mv + n), .int .i64 cp] 27 (0, 0)) := setCell_block HQ0'.out _
      have hU1 := upd_set1 w2 H 4 (.int .i64 (mv + n))
      have q2 := hU1.at HQ2'.out (by simp only [List.mem_singleton]; omega)
      have HUB : Hid (Upd [H, H + 1 + 1] w1 (w2.setCell ⟨H, 4, none⟩ (.int .i64 (mv + n)))) := HUA.out.trans hU1 (by simp)
      generalize w2.setCell ⟨H, 4, none⟩ (.int .i64 (mv + n)) = w3 at *
      have HQ5 := Lib.hid q2
      clear hU1 c4 z4
      obtain ⟨c0, c1, c2, c3, c4, c5⟩ := cells6 q0
      obtain ⟨e0, e1, e2, e3, e4, e5⟩ := cells6 q2
      obtain ⟨z0, z1, z2, z3, z4, z5⟩ := free6 q2
      clear q0 q2
      go_wp2_with fail
      have p2 := stored6 HQ5.out (.int .i64 ts) (.slice ta tn tc) (.slice va (rn + 1) vc) (.slice ba bn bc) (.int .i64 (mv + n)) (.int .i64 cp)
      have hU5 := upd_set6 w3 (H + 1 + 1) (.int .i64 ts) (.slice ta tn tc) (.slice va (rn + 1) vc) (.slice ba bn bc) (.int .i64 (mv + n)) (.int .i64 cp)
      generalize (((((w3.setCell ⟨H + 1 + 1, 0, none⟩ (.int .i64 ts)).setCell ⟨H + 1 + 1, 1, none⟩ (.slice ta tn tc)).setCell ⟨H + 1 + 1, 2, none⟩ (.slice va (rn + 1) vc)).setCell ⟨H + 1 + 1, 3, none⟩ (.slice ba bn bc)).setCell ⟨H + 1 + 1, 4, none⟩ (.int .i64 (mv + n))).setCell ⟨H + 1 + 1, 5, none⟩ (.int .i64 cp) = wf at p2 hU5 ⊢
      obtain ⟨r0, r1, r2, r3, r4, r5⟩ := cells6 p2
      have hfin := fun O => HFN.out wr w1 wf O va vc r' H rfl HE.out HF.out.upd HF.out.has (by rw [← HH.out]; exact HF.out.av)

      refine bodyPost_ret (v := .agg #[.int .i64 ts, .slice ta tn tc, .slice va (rn + 1) vc, .slice ba bn bc, .int .i64 (mv + n), .int .i64 cp]) (by simp [results, Try.results64, go_sem, r0, r1, r2, r3, r4, r5]) rfl ?_
      exact hfin _ HOW.out HGW.out HWH.out ⟨_, _, HQ3.out⟩ ⟨_, _, HQ4.out⟩ (HUB.out.trans hU5 (by simp))
end Go.Proofs.Ytneodiemgemhfaa
