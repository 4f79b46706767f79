/- Contract: the program's fillBottom. -/
import Derived.Test.YtneodiemgemhfaaPJ
namespace Go.Proofs.Ytneodiemgemhfaa
open Go.RowKit Go.Lib Go.Sort

theorem own_fill {b0 g sc : Nat} {w w' : World} {l : LdR} {s s' : List It} (hO : Own b0 w l) (hbg : b0 ≤ g) (hh : Held LI 34 w g sc s) (hu : Upd [g] w w') (hH : Held LI 34 w' g sc s') (hcap : sc ≤ maxLen) (htop : l.top.v.ownBlock ≠ some g) (hrg : ∀ r ∈ l.rs.l, AvR r g) (mv : Int) :
    Ran b0 w l { l.ld with bot := s', mv := mv } w' ⟨l.ts, l.top, l.rs, ⟨s', some ⟨g, 0, none⟩, sc⟩, mv, l.cp⟩ := by
  obtain ⟨cur, hc, _⟩ := hh.ex
  have hrs : l.rs.v.ownBlock ≠ some g := ne_own hc hO.rs (by decide)
  refine ⟨rfl, ⟨hu.row hO.top (fun x hx hm => htop (by simp only [List.mem_singleton] at hm; rw [← hm]; exact hx)), hu.row hO.rs (fun x hx hm => hrs (by simp only [List.mem_singleton] at hm; rw [← hm]; exact hx)), hH.own hbg hcap, fun r hr => ⟨(hO.rg r hr).1.keep1 hu (hrg r hr), (hO.rg r hr).2⟩, fun k hk => ⟨fun _ a ea he => ?_, (hO.avT k hk).2⟩, fun k hk => ?_, hO.avR⟩, fun b _ ha => ha, Fr.of_upd hu fun x hx => ?_⟩
  · simp only [Option.some.injEq] at ea
    subst ea
    simp only at he
    subst he
    exact htop hk
  · simp only [SlR.v, Value.ownBlock, Option.some.injEq] at hk
    subst hk
    exact ⟨av_of_own htop, hrg⟩
  · simp only [List.mem_singleton] at hx
    subst hx
    exact ⟨hbg, fun c f e => by rw [hc] at e; simp at e⟩
set_option maxRecDepth 100000 in
set_option maxHeartbeats 4000000 in
theorem fillBottom_has (l : LdR) (s : SlR It) (b0 : Nat) (w : World) (hO : Own b0 w l) (hs : w.ownsRow b0 34 3 s.v s.l.length (LI.flat s.l)) (hap : ∀ k, s.v.ownBlock = some k → l.top.v.ownBlock ≠ some k ∧ ∀ r ∈ l.rs.l, AvR r k) (hn0 : 0 < s.l.length) (hn : s.l.length ≤ 100000) (hd : DistI s.l) (hmv : 0 ≤ l.mv ∧ l.mv ≤ 1000000000000) :
    Calls Try.prog 67 #[encD l, .slice s.ad s.l.length s.cap] w (Gran b0 w l { l.ld with bot := sortI s.l, mv := l.mv + s.l.length }) := by
  obtain ⟨hnn, g, cap, ev, hbg, hheld⟩ := held_row (L := LI) hs hn0
  obtain ⟨hT, hR⟩ := hap g (by rw [ev]; rfl)
  have hcm : cap ≤ maxLen := by rw [ev] at hs; exact own_cap hs
  obtain ⟨sl, sa, sc⟩ := s
  simp only [SlR.v, Value.slice.injEq] at ev
  obtain ⟨rfl, _, rfl⟩ := ev
  simp only at hn0 hn hd hheld hnn hcm ⊢
  have HSF := Lib.hid (fun W (h : Held LI 34 W g sc sl) => Sort_held g sc sl W (by omega) hd h)
  have HHD := Lib.hid hheld
  have HGR : Hid (∀ w', Upd [g] w w' → Held LI 34 w' g sc (sortI sl) → Gran b0 w l { l.ld with bot := sortI sl, mv := l.mv + sl.length } (.returned (.agg #[.int .i64 l.ts, .slice l.top.ad l.top.l.length l.top.cap, .slice l.rs.ad l.rs.l.length l.rs.cap, .slice (some ⟨g, 0, none⟩) sl.length sc, .int .i64 (l.mv + sl.length), .int .i64 l.cp])) w') := fun w' hu h =>
    ⟨_, by rw [encD, cellsD]; simp only [sortI_length], own_fill hO hbg hheld hu h hcm hT hR _⟩
  have HGT : Hid (g < w.heap.size) := hheld.lt
  obtain ⟨ts, ⟨tl, ta, tc⟩, ⟨rl, ra, rc⟩, ⟨bl, ba, bc⟩, mv, cp⟩ := l
  unfold encD cellsD
  simp only at hmv HGR ⊢
  generalize ({ (LdR.ld ⟨ts, ⟨tl, ta, tc⟩, ⟨rl, ra, rc⟩, ⟨bl, ba, bc⟩, mv, cp⟩ : Ld) with bot := sortI sl, mv := mv + sl.length } : Ld) = gl at *
  generalize (⟨ts, ⟨tl, ta, tc⟩, ⟨rl, ra, rc⟩, ⟨bl, ba, bc⟩, mv, cp⟩ : LdR) = ll at *
  generalize sortI sl = so at *
  generalize tl.length = tn at *
  generalize bl.length = bn at *
  generalize rl.length = rn at *
  generalize hsn : sl.length = n at *
  clear hs hO hap hd hheld hT hR hcm hnn hsn
  go_enter Try.func67, Try.ntmps67
  go_upto_region 1 with (fail)
  generalize hA : (Obj.cells #[.int .i64 ts, .slice ta tn tc, .slice ra rn rc, .slice ba bn bc, .int .i64 mv, .int .i64 cp] 27 : Obj) = A
  generalize hC : (Obj.cells #[.int .i64 0, .slice none 0 0, .slice none 0 0, .slice none 0 0, .int .i64 0, .int .i64 0] 27 : Obj) = C
  obtain ⟨hu, b0', b2, hsz⟩ := two_boxes w A C
  generalize (w.alloc A).alloc C = W at *
  have HHW := Lib.hid (HHD.out.keep hu (by simp))
  have HU := Lib.hid hu
  generalize hH : w.heap.size = H at *
  have HGH : Hid (g ≠ H ∧ g ≠ H + 1) := by have := HGT.out; exact ⟨by omega, by omega⟩
  rw [← hA] at b0'
  rw [← hC] at b2
  have HB0 := Lib.hid b0'; have HB2 := Lib.hid b2; have HH := Lib.hid hH
  clear hu hA hC b0' b2 hH hsz
  go_upto_region 2 with (go_at_call 45; (with_reducible refine (HSF.out _ HHW.out).mono ?_); rintro e w1 ⟨rfl, hh1, hu1⟩)
  have HH1 := Lib.hid hh1
  have q0 := hu1.at HB0.out (by simp; exact fun e => HGH.out.1 e.symm)
  have q2 := hu1.at HB2.out (by simp; exact fun e => HGH.out.2 e.symm)
  have HUA : Hid (Upd [g] w w1) := (HU.out.mono (T := [g]) (by simp)).trans hu1 (fun x hx _ => hx)
  have HQ0 := Lib.hid q0; have HQ2 := Lib.hid q2
  clear hh1 hu1 q0 q2
  obtain ⟨c0, c1, c2, c3, c4, c5⟩ := cells6 HQ0.out
  obtain ⟨d0, d1, d2, d3, d4, d5⟩ := free6 HQ0.out
  clear c0 c1 c2 c4 c5 d0 d1 d2 d4 d5
  go_upto_region 3 with (fail)
  have q0 : (w1.setCell ⟨H, 3, none⟩ (.slice (some ⟨g, 0, none⟩) n sc)).heap[H]? = some (.cells #[.int .i64 ts, .slice ta tn tc, .slice ra rn rc, .slice (some ⟨g, 0, none⟩) n sc, .int .i64 mv, .int .i64 cp] 27 (0, 0)) := setCell_block HQ0.out _
  have hU1 := upd_set1 w1 H 3 (.slice (some ⟨g, 0, none⟩) n sc)
  have q2 := hU1.at HQ2.out (by simp)
  have HH2 := Lib.hid (HH1.out.keep hU1 (by simp; exact HGH.out.1))
  have HUB : Hid (Upd [g] w (w1.setCell ⟨H, 3, none⟩ (.slice (some ⟨g, 0, none⟩) n sc))) := HUA.out.trans hU1 (fun x hx hl => by simp at hx; have := HH.out; omega)
  generalize w1.setCell ⟨H, 3, none⟩ (.slice (some ⟨g, 0, none⟩) n sc) = w2 at *
  have HQ0 := Lib.hid q0; have HQ2 := Lib.hid q2
  clear hU1 c3 d3 HUA q0 q2 HH1
  obtain ⟨c0, c1, c2, c3, c4, c5⟩ := cells6 HQ0.out
  obtain ⟨d0, d1, d2, d3, d4, d5⟩ := free6 HQ0.out
  have hw1 : IntKind.i64.wrap (mv + (n : Int)) = mv + (n : Int) := by rw [IntKind.wrap_i64]; omega
  clear c0 c1 c2 c3 c5 d0 d1 d2 d3 d5
  go_upto_region 4 with (fail)
  have q0 : (w2.setCell ⟨H, 4, none⟩ (.int .i64 (mv + n))).heap[H]? = some (.cells #[.int .i64 ts, .slice ta tn tc, .slice ra rn rc, .slice (some ⟨g, 0, none⟩) n sc, .int .i64 (mv + n), .int .i64 cp] 27 (0, 0)) := setCell_block HQ0.out _
  have hU1 := upd_set1 w2 H 4 (.int .i64 (mv + n))
  have q2 := hU1.at HQ2.out (by simp)
  have HH3 := Lib.hid (HH2.out.keep hU1 (by simp; exact HGH.out.1))
  have HUC : Hid (Upd [g] w (w2.setCell ⟨H, 4, none⟩ (.int .i64 (mv + n)))) := HUB.out.trans hU1 (fun x hx hl => by simp at hx; have := HH.out; omega)
  generalize w2.setCell ⟨H, 4, none⟩ (.int .i64 (mv + n)) = w3 at *
  have HQ2 := Lib.hid q2
  clear hU1 c4 d4 HUB HH2 HQ0 q2
  obtain ⟨c0, c1, c2, c3, c4, c5⟩ := cells6 q0
  obtain ⟨e0, e1, e2, e3, e4, e5⟩ := cells6 HQ2.out
  obtain ⟨z0, z1, z2, z3, z4, z5⟩ := free6 HQ2.out
  clear q0
  go_wp2_with fail
  have p2 := stored6 HQ2.out (.int .i64 ts) (.slice ta tn tc) (.slice ra rn rc) (.slice (some ⟨g, 0, none⟩) n sc) (.int .i64 (mv + n)) (.int .i64 cp)
  have hU5 := upd_set6 w3 (H + 1) (.int .i64 ts) (.slice ta tn tc) (.slice ra rn rc) (.slice (some ⟨g, 0, none⟩) n sc) (.int .i64 (mv + n)) (.int .i64 cp)
  generalize (((((w3.setCell ⟨H + 1, 0, none⟩ (.int .i64 ts)).setCell ⟨H + 1, 1, none⟩ (.slice ta tn tc)).setCell ⟨H + 1, 2, none⟩ (.slice ra rn rc)).setCell ⟨H + 1, 3, none⟩ (.slice (some ⟨g, 0, none⟩) n sc)).setCell ⟨H + 1, 4, none⟩ (.int .i64 (mv + n))).setCell ⟨H + 1, 5, none⟩ (.int .i64 cp) = wf at p2 hU5 ⊢
  obtain ⟨r0, r1, r2, r3, r4, r5⟩ := cells6 p2
  exact bodyPost_ret (v := .agg #[.int .i64 ts, .slice ta tn tc, .slice ra rn rc, .slice (some ⟨g, 0, none⟩) n sc, .int .i64 (mv + n), .int .i64 cp]) (by simp [results, Try.results67, go_sem, r0, r1, r2, r3, r4, r5]) rfl (HGR.out wf (HUC.out.trans hU5 (fun x hx hl => by simp at hx; have := HH.out; omega)) (HH3.out.keep hU5 (by simp; exact HGH.out.2)))
end Go.Proofs.Ytneodiemgemhfaa
