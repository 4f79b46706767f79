/- Contract: the program's fillBottom. -/
/- Contract: the program's span. -/
/- Contract: the program's addRung. -/
/- Contract: the program's addRung, walked. -/
import Derived.Test.YtmfnfinbkdemkaaGreatPJ
namespace Go.Proofs.YtmfnfinbkdemkaaGreat
open Go.RowKit Go.Lib Go.Sort

theorem own_fill {b0 g sc : Nat} {w w' : World} {l : LdR} {s s' : List It} (hO : Own b0 w l) (hbg : b0 ≤ g) (hh : Held LI 36 w g sc s) (hu : Upd [g] w w') (hH : Held LI 36 w' g sc s') (hcap : sc ≤ maxLen) (htop : l.top.v.ownBlock ≠ some g) (hrg : ∀ r ∈ l.rs.l, AvR r g) (mv : Int) :
    Ran b0 w l { l.ld with bot := s', mv := mv } w' ⟨l.ts, l.top, l.rs, ⟨s', some ⟨g, 0, none⟩, sc⟩, mv, l.cp⟩ := by
  obtain ⟨cur, hc, _⟩ := hh.ex
  have hrs : l.rs.v.ownBlock ≠ some g := ne_own hc hO.rs (by decide)
  refine ⟨rfl, ⟨hu.row hO.top (fun x hx hm => htop (by simp only [List.mem_singleton] at hm; rw [← hm]; exact hx)), hu.row hO.rs (fun x hx hm => hrs (by simp only [List.mem_singleton] at hm; rw [← hm]; exact hx)), hH.own hbg hcap, fun r hr => ⟨(hO.rg r hr).1.keep1 hu (hrg r hr), (hO.rg r hr).2⟩, fun k hk => ⟨fun _ a ea he => ?_, (hO.avT k hk).2⟩, fun k hk => ?_, hO.avR⟩, fun b _ ha => ha, Fr.of_upd hu fun x hx => ?_⟩
  · simp only [Option.some.injEq] at ea
    subst ea
    simp only at he
    subst he
    exact htop hk
  · simp only [SlR.v, Value.ownBlock, Option.some.injEq] at hk
    subst hk
    exact ⟨av_of_own htop, hrg⟩
  · simp only [List.mem_singleton] at hx
    subst hx
    exact ⟨hbg, fun c f e => by rw [hc] at e; simp at e⟩
set_option maxRecDepth 100000 in
set_option maxHeartbeats 4000000 in
theorem fillBottom_has (l : LdR) (s : SlR It) (b0 : Nat) (w : World) (hO : Own b0 w l) (hs : w.ownsRow b0 36 3 s.v s.l.length (LI.flat s.l)) (hap : ∀ k, s.v.ownBlock = some k → l.top.v.ownBlock ≠ some k ∧ ∀ r ∈ l.rs.l, AvR r k) (hn0 : 0 < s.l.length) (hn : s.l.length ≤ 100000) (hd : DistI s.l) (hmv : 0 ≤ l.mv ∧ l.mv ≤ 1000000000000) :
    Calls Tryz.prog 120 #[encD l, .slice s.ad s.l.length s.cap] w (Gran b0 w l { l.ld with bot := sortI s.l, mv := l.mv + s.l.length }) := by
  obtain ⟨hnn, g, cap, ev, hbg, hheld⟩ := held_row (L := LI) hs hn0
  obtain ⟨hT, hR⟩ := hap g (by rw [ev]; rfl)
  have hcm : cap ≤ maxLen := by rw [ev] at hs; exact own_cap hs
  obtain ⟨sl, sa, sc⟩ := s
  simp only [SlR.v, Value.slice.injEq] at ev
  obtain ⟨rfl, _, rfl⟩ := ev
  simp only at hn0 hn hd hheld hnn hcm ⊢
  have HSF := Lib.hid (fun W (h : Held LI 36 W g sc sl) => Sort_held g sc sl W (by omega) hd h)
  have HHD := Lib.hid hheld
  have HGR : Hid (∀ w', Upd [g] w w' → Held LI 36 w' g sc (sortI sl) → Gran b0 w l { l.ld with bot := sortI sl, mv := l.mv + sl.length } (.returned (.agg #[.int .i64 l.ts, .slice l.top.ad l.top.l.length l.top.cap, .slice l.rs.ad l.rs.l.length l.rs.cap, .slice (some ⟨g, 0, none⟩) sl.length sc, .int .i64 (l.mv + sl.length), .int .i64 l.cp])) w') := fun w' hu h =>
    ⟨_, by rw [encD, cellsD]; simp only [sortI_length], own_fill hO hbg hheld hu h hcm hT hR _⟩
  have HGT : Hid (g < w.heap.size) := hheld.lt
  obtain ⟨ts, ⟨tl, ta, tc⟩, ⟨rl, ra, rc⟩, ⟨bl, ba, bc⟩, mv, cp⟩ := l
  unfold encD cellsD
  simp only at hmv HGR ⊢
  generalize ({ (LdR.ld ⟨ts, ⟨tl, ta, tc⟩, ⟨rl, ra, rc⟩, ⟨bl, ba, bc⟩, mv, cp⟩ : Ld) with bot := sortI sl, mv := mv + sl.length } : Ld) = gl at *
  generalize (⟨ts, ⟨tl, ta, tc⟩, ⟨rl, ra, rc⟩, ⟨bl, ba, bc⟩, mv, cp⟩ : LdR) = ll at *
  generalize sortI sl = so at *
  generalize tl.length = tn at *
  generalize bl.length = bn at *
  generalize rl.length = rn at *
  generalize hsn : sl.length = n at *
  clear hs hO hap hd hheld hT hR hcm hnn hsn
  go_enter Tryz.func120, Tryz.ntmps120
  go_upto_region 1 with (fail)
  generalize hA : (Obj.cells #[.int .i64 ts, .slice ta tn tc, .slice ra rn rc, .slice ba bn bc, .int .i64 mv, .int .i64 cp] 68 : Obj) = A
  generalize hC : (Obj.cells #[.int .i64 0, .slice none 0 0, .slice none 0 0, .slice none 0 0, .int .i64 0, .int .i64 0] 68 : Obj) = C
  obtain ⟨hu, b0', b2, hsz⟩ := two_boxes w A C
  generalize (w.alloc A).alloc C = W at *
  have HHW := Lib.hid (HHD.out.keep hu (by simp))
  have HU := Lib.hid hu
  generalize hH : w.heap.size = H at *
  have HGH : Hid (g ≠ H ∧ g ≠ H + 1) := by have := HGT.out; exact ⟨by omega, by omega⟩
  rw [← hA] at b0'
  rw [← hC] at b2
  have HB0 := Lib.hid b0'; have HB2 := Lib.hid b2; have HH := Lib.hid hH
  clear hu hA hC b0' b2 hH hsz
  go_upto_region 2 with (go_at_call 48; (with_reducible refine (HSF.out _ HHW.out).mono ?_); rintro e w1 ⟨rfl, hh1, hu1⟩)
  have HH1 := Lib.hid hh1
  have q0 := hu1.at HB0.out (by simp; exact fun e => HGH.out.1 e.symm)
  have q2 := hu1.at HB2.out (by simp; exact fun e => HGH.out.2 e.symm)
  have HUA : Hid (Upd [g] w w1) := (HU.out.mono (T := [g]) (by simp)).trans hu1 (fun x hx _ => hx)
  have HQ0 := Lib.hid q0; have HQ2 := Lib.hid q2
  clear hh1 hu1 q0 q2
  obtain ⟨c0, c1, c2, c3, c4, c5⟩ := cells6 HQ0.out
  obtain ⟨d0, d1, d2, d3, d4, d5⟩ := free6 HQ0.out
  clear c0 c1 c2 c4 c5 d0 d1 d2 d4 d5
  go_upto_region 3 with (fail)
  have q0 : (w1.setCell ⟨H, 3, none⟩ (.slice (some ⟨g, 0, none⟩) n sc)).heap[H]? = some (.cells #[.int .i64 ts, .slice ta tn tc, .slice ra rn rc, .slice (some ⟨g, 0, none⟩) n sc, .int .i64 mv, .int .i64 cp] 68 (0, 0)) := setCell_block HQ0.out _
  have hU1 := upd_set1 w1 H 3 (.slice (some ⟨g, 0, none⟩) n sc)
  have q2 := hU1.at HQ2.out (by simp)
  have HH2 := Lib.hid (HH1.out.keep hU1 (by simp; exact HGH.out.1))
  have HUB : Hid (Upd [g] w (w1.setCell ⟨H, 3, none⟩ (.slice (some ⟨g, 0, none⟩) n sc))) := HUA.out.trans hU1 (fun x hx hl => by simp at hx; have := HH.out; omega)
  generalize w1.setCell ⟨H, 3, none⟩ (.slice (some ⟨g, 0, none⟩) n sc) = w2 at *
  have HQ0 := Lib.hid q0; have HQ2 := Lib.hid q2
  clear hU1 c3 d3 HUA q0 q2 HH1
  obtain ⟨c0, c1, c2, c3, c4, c5⟩ := cells6 HQ0.out
  obtain ⟨d0, d1, d2, d3, d4, d5⟩ := free6 HQ0.out
  have hw1 : IntKind.i64.wrap (mv + (n : Int)) = mv + (n : Int) := by rw [IntKind.wrap_i64]; omega
  clear c0 c1 c2 c3 c5 d0 d1 d2 d3 d5
  go_upto_region 4 with (fail)
  have q0 : (w2.setCell ⟨H, 4, none⟩ (.int .i64 (mv + n))).heap[H]? = some (.cells #[.int .i64 ts, .slice ta tn tc, .slice ra rn rc, .slice (some ⟨g, 0, none⟩) n sc, .int .i64 (mv + n), .int .i64 cp] 68 (0, 0)) := setCell_block HQ0.out _
  have hU1 := upd_set1 w2 H 4 (.int .i64 (mv + n))
  have q2 := hU1.at HQ2.out (by simp)
  have HH3 := Lib.hid (HH2.out.keep hU1 (by simp; exact HGH.out.1))
  have HUC : Hid (Upd [g] w (w2.setCell ⟨H, 4, none⟩ (.int .i64 (mv + n)))) := HUB.out.trans hU1 (fun x hx hl => by simp at hx; have := HH.out; omega)
  generalize w2.setCell ⟨H, 4, none⟩ (.int .i64 (mv + n)) = w3 at *
  have HQ2 := Lib.hid q2
  clear hU1 c4 d4 HUB HH2 HQ0 q2
  obtain ⟨c0, c1, c2, c3, c4, c5⟩ := cells6 q0
  obtain ⟨e0, e1, e2, e3, e4, e5⟩ := cells6 HQ2.out
  obtain ⟨z0, z1, z2, z3, z4, z5⟩ := free6 HQ2.out
  clear q0
  go_wp2_with fail
  have p2 := stored6 HQ2.out (.int .i64 ts) (.slice ta tn tc) (.slice ra rn rc) (.slice (some ⟨g, 0, none⟩) n sc) (.int .i64 (mv + n)) (.int .i64 cp)
  have hU5 := upd_set6 w3 (H + 1) (.int .i64 ts) (.slice ta tn tc) (.slice ra rn rc) (.slice (some ⟨g, 0, none⟩) n sc) (.int .i64 (mv + n)) (.int .i64 cp)
  generalize (((((w3.setCell ⟨H + 1, 0, none⟩ (.int .i64 ts)).setCell ⟨H + 1, 1, none⟩ (.slice ta tn tc)).setCell ⟨H + 1, 2, none⟩ (.slice ra rn rc)).setCell ⟨H + 1, 3, none⟩ (.slice (some ⟨g, 0, none⟩) n sc)).setCell ⟨H + 1, 4, none⟩ (.int .i64 (mv + n))).setCell ⟨H + 1, 5, none⟩ (.int .i64 cp) = wf at p2 hU5 ⊢
  obtain ⟨r0, r1, r2, r3, r4, r5⟩ := cells6 p2
  exact bodyPost_ret (v := .agg #[.int .i64 ts, .slice ta tn tc, .slice ra rn rc, .slice (some ⟨g, 0, none⟩) n sc, .int .i64 (mv + n), .int .i64 cp]) (by simp [results, Tryz.results120, go_sem, r0, r1, r2, r3, r4, r5]) rfl (HGR.out wf (HUC.out.trans hU5 (fun x hx hl => by simp at hx; have := HH.out; omega)) (HH3.out.keep hU5 (by simp; exact HGH.out.2)))
end Go.Proofs.YtmfnfinbkdemkaaGreat
namespace Go.Proofs.YtmfnfinbkdemkaaGreat
open Go.RowKit Go.Lib

theorem minT_succ {x : Int} {l : List It} {k : Nat} (h : k < l.length) : minT x (l.take (k + 1)) = min (minT x (l.take k)) l[k].t := by
  unfold minT; rw [List.take_succ_eq_append_getElem h, List.foldl_append]; rfl
theorem maxT_succ {x : Int} {l : List It} {k : Nat} (h : k < l.length) : maxT x (l.take (k + 1)) = max (maxT x (l.take k)) l[k].t := by
  unfold maxT; rw [List.take_succ_eq_append_getElem h, List.foldl_append]; rfl
set_option maxRecDepth 100000 in
set_option maxHeartbeats 4000000 in
theorem span_has (a : Option Addr) (c : Nat) (l : List It) (x : Int) (w : World) (hr : Row LI w a l) (h0 : 0 < l.length) (hx : l[0].t = x) (hn : l.length ≤ 1000000) :
    Calls Tryz.prog 121 #[.slice a l.length c] w fun e w' => e = .returned (.tuple #[.int .i64 (minT x l), .int .i64 (maxT x l)]) ∧ Upd [] w w' := by
  have HR := Lib.hid hr
  have HS1 := Lib.hid (fun k (h : k < l.length) => minT_succ (x := x) h)
  have HS2 := Lib.hid (fun k (h : k < l.length) => maxT_succ (x := x) h)
  have hz1 : minT x (l.take 0) = x := rfl
  have hz2 : maxT x (l.take 0) = x := rfl
  have HEN : Hid (minT x l = minT x (l.take l.length) ∧ maxT x l = maxT x (l.take l.length)) := by rw [List.take_length]; exact ⟨rfl, rfl⟩
  obtain ⟨n, hnn⟩ : ∃ n, n = l.length := ⟨_, rfl⟩
  obtain ⟨b, off, rfl, x0, x1, x2⟩ := hr.item 0 h0
  have HZ := Lib.hid (And.intro hz1 hz2)
  have HN := Lib.hid hnn
  rw [HEN.out.1, HEN.out.2, ← hnn]
  rw [hx] at x0
  rw [← hnn] at h0 hn
  clear hr hx hnn hz1 hz2 HEN
  generalize l[0].q = zq at *
  generalize l[0].s = zs at *
  go_enter Tryz.func121, Tryz.ntmps121
  go_upto_region 1 with (fail)
  simp only [Nat.zero_mul, Nat.add_zero] at x0 x1 x2
  go_quiet (fail)
  clear x0 x1 x2
  have HU0 : Hid (Upd [] w (w.drewN nq)) := (Upd.refl [] w).drewN nq
  generalize w.drewN nq = W at *
  go_wp2_with fail
  go_loopg [4, 5, 18] n (fun gk v4 v5 vi wr => ∃ k : Nat, v4 = .int .i64 (minT x (l.take k)) ∧ v5 = .int .i64 (maxT x (l.take k)) ∧ vi = .int .i64 k ∧ k + gk = n ∧ Hid (Upd [] w wr))
  case atStart => exact ⟨0, by rw [HZ.out.1], by rw [HZ.out.2], rfl, by omega, HU0⟩
  case round =>
    obtain ⟨k, rfl, rfl, rfl, hkg, HU⟩ := hrel
    by_cases hlt : k < n
    · have hltz : (k : Int) < (n : Int) := by omega
      have hk1 : k < l.length := by have := HN.out; omega
      obtain ⟨b', off', hbo, y0, y1, y2⟩ := (HR.out.stay HU.out).item k hk1
      simp only [Option.some.injEq, Addr.mk.injEq, and_true] at hbo
      obtain ⟨rfl, rfl⟩ := hbo
      have HM1 := Lib.hid (HS1.out k hk1)
      have HM2 := Lib.hid (HS2.out k hk1)
      generalize hma : minT x (l.take k) = ma at *
      generalize hmb : maxT x (l.take k) = mb at *
      generalize l[k].t = y at *
      generalize l[k].q = yq at *
      generalize l[k].s = ys at *
      clear hma hmb
      go_upto_region 5 with (fail)
      have hb := heap_alloc1 wr (.cells #[.int .i64 y, .int .i64 yq, .int .i64 ys] 36)
      have HU2 : Hid (Upd [] w (wr.alloc (.cells #[.int .i64 y, .int .i64 yq, .int .i64 ys] 36))) := HU.out.alloc _
      generalize wr.alloc (.cells #[.int .i64 y, .int .i64 yq, .int .i64 ys] 36) = W2 at *
      generalize wr.heap.size = P at *
      obtain ⟨c0, c1, c2⟩ := cells3 hb
      clear hb y0 y1 y2
      go_region
      go_wp2_with fail
      go_roundg (gk - 1)
      case measure => omega
      case rel => exact ⟨k + 1, by rw [HM1.out], by rw [HM2.out], by go_num, by omega, Lib.hid HU2.out.drew⟩
    · have hltz : ¬ (k : Int) < (n : Int) := by omega
      obtain rfl : k = n := by omega
      go_wp2_with fail
      go_ret2
      exact ⟨rfl, HU.out⟩
end Go.Proofs.YtmfnfinbkdemkaaGreat
namespace Go.Proofs.YtmfnfinbkdemkaaGreat
open Go.RowKit Go.Lib

def foldR (r : Rg) (its : List It) : Rg := its.foldl (fun r it => (putR r it).1) r
theorem foldR_succ {r : Rg} {its : List It} {k : Nat} (h : k < its.length) : foldR r (its.take (k + 1)) = (putR (foldR r (its.take k)) its[k]).1 := by
  unfold foldR; rw [List.take_succ_eq_append_getElem h, List.foldl_append]; rfl
theorem foldR_ok {r : Rg} (h : GoodR r) (hz : lenL r.bs = 0) : ∀ (its : List It) (k : Nat), k ≤ its.length → GoodR (foldR r (its.take k)) ∧ lenL (foldR r (its.take k)).bs ≤ k
  | its, 0, _ => ⟨h, by show lenL r.bs ≤ 0; omega⟩
  | its, k + 1, hk => by
    obtain ⟨h1, h2⟩ := foldR_ok h hz its k (by omega)
    rw [foldR_succ (by omega)]
    exact ⟨h1.put _, by have := put_len_le h1 (its[k]'(by omega)); omega⟩
structure Roll (w : World) (r : RgR) (its : List It) (H : Nat) (A C : Obj) (k : Nat) (wr : World) (r' : RgR) : Prop where
  eq : r'.rg = foldR r.rg (its.take k)
  box : wr.heap[H + 1]? = some (.cells (cellsR r') 93 (0, 0))
  has : HasR wr r'
  av : ∀ b, b < w.heap.size + 3 → AvR r b → AvR r' b
  upd : Upd [] w wr
  a : wr.heap[H]? = some A
  c : wr.heap[H + 2]? = some C
theorem Roll.step {w : World} {r : RgR} {its : List It} {H : Nat} {A C : Obj} {k : Nat} {wr wz w4 : World} {r' r2 : RgR} (h : Roll w r its H A C k wr r') (hH : w.heap.size = H) (hr : HasR w r) (hk : k < its.length) (hu : Upd [] wr wz) (hn : Nxt wz r' (putR r'.rg its[k]).1 w4 r2) :
    Roll w r its H A C (k + 1) ((((w4.setCell ⟨H + 1, 0, none⟩ (.int .i64 r2.fr)).setCell ⟨H + 1, 1, none⟩ (.int .i64 r2.wd)).setCell ⟨H + 1, 2, none⟩ (.int .i64 r2.cu)).setCell ⟨H + 1, 3, none⟩ (.slice r2.bk.ad r2.bk.l.length r2.bk.cap)) r2 := by
  have hb := hn.upd.at (hu.at h.box (by simp)) (by simp)
  have h2 := upd_set4 w4 (H + 1) (.int .i64 r2.fr) (.int .i64 r2.wd) (.int .i64 r2.cu) (.slice r2.bk.ad r2.bk.l.length r2.bk.cap)
  have hlt : H + 2 < wr.heap.size := lt_block h.c
  have hsz := hu.size
  have hav : ∀ b, b < w.heap.size + 3 → AvR r b → AvR r2 b := fun b hb ha => hn.av b (by omega) (h.av b hb ha)
  refine ⟨by rw [hn.eq, h.eq, foldR_succ hk], stored4 hb _ _ _ _, hn.has.keep1 h2 (hav _ (by omega) (hr.avoids (by omega))), hav, ((h.upd.thn hu).thn hn.upd).new h2 (by omega), h2.at (hn.upd.at (hu.at h.a (by simp)) (by simp)) (by simp), h2.at (hn.upd.at (hu.at h.c (by simp)) (by simp)) (by simp)⟩
theorem row_oneR {w : World} {b : Nat} {r : RgR} {f : Nat × Nat} (h : w.heap[b]? = some (.cells #[.int .i64 r.fr, .int .i64 r.wd, .int .i64 r.cu, .slice r.bk.ad r.bk.l.length r.bk.cap] 93 f)) : Row LR w (some ⟨b, 0, none⟩) [r] := by
  intro j hj
  obtain rfl : j = 0 := by simp at hj; omega
  refine ⟨b, 0, rfl, fun t u hu => ?_⟩
  rw [cell_block h]
  simp only [List.getElem_cons_zero] at hu
  rw [show 0 + 0 * LR.k + t = t by omega]
  simpa [LR] using hu
theorem own_add {b0 : Nat} {w wq w1 : World} {l : LdR} {r r1 : RgR} {O : Obj} {va : Option Addr} {vc n : Nat} (hn : n = l.rs.l.length) (hO : Own b0 w l) (hb0 : b0 ≤ w.heap.size) (hU : Upd [] w wq) (h1 : HasR wq r1) (hav1 : ∀ b, b < w.heap.size → AvR r b → AvR r1 b)
    (hav : ∀ b, (b < b0 ∨ l.top.v.ownBlock = some b ∨ l.bot.v.ownBlock = some b ∨ l.rs.v.ownBlock = some b) → AvR r b)
    (hown : w1.ownsRow b0 93 4 (.slice va (n + 1) vc) (n + 1) (LR.flat (l.rs.l ++ [r1]))) (hgr : (wq.alloc O).grownBy w1 l.rs.v.ownBlock) (hwh : (Value.slice va (n + 1) vc).ownBlock = l.rs.v.ownBlock ∨ (Value.slice va (n + 1) vc).ownBlock = some (wq.alloc O).heap.size) (mv : Int) :
    Own b0 w1 ⟨l.ts, l.top, ⟨l.rs.l ++ [r1], va, vc⟩, l.bot, mv, l.cp⟩ ∧ Upd l.rs.v.ownBlock.toList w w1 := by
  have hUA : Upd [] w (wq.alloc O) := hU.alloc O
  have hU1 : Upd l.rs.v.ownBlock.toList (wq.alloc O) w1 := upd_grown hgr
  have hUF : Upd l.rs.v.ownBlock.toList w w1 := (hUA.mono (T := l.rs.v.ownBlock.toList) (by simp)).trans hU1 (fun x hx _ => hx)
  have hsz := hU.size
  have hlt : ∀ x, l.rs.v.ownBlock = some x → x < w.heap.size := fun x hx => (hO.rs.lt x hx).2
  have htl : ∀ k, l.top.v.ownBlock = some k → k < w.heap.size := fun x hx => (hO.top.lt x hx).2
  have hbl : ∀ k, l.bot.v.ownBlock = some k → k < w.heap.size := fun x hx => (hO.bot.lt x hx).2
  have hkr : ∀ (R : RgR), HasR (wq.alloc O) R → (∀ x, l.rs.v.ownBlock = some x → AvR R x) → HasR w1 R := fun R hR ha => by
    rcases hx : l.rs.v.ownBlock with _ | x
    · rw [hx] at hU1; exact hR.stay hU1
    · rw [hx] at hU1; exact hR.keep1 (b := x) hU1 (ha x hx)
  refine ⟨⟨hUF.row hO.top (own_apart hO.top hO.rs (by decide)), ?_, hUF.row hO.bot (own_apart hO.bot hO.rs (by decide)), fun R hR => ?_, fun k hk => ⟨(hO.avT k hk).1, fun R hR => ?_⟩, fun k hk => ⟨(hO.avB k hk).1, fun R hR => ?_⟩, fun k hk R hR => ?_⟩, hUF⟩
  · simp only [SlR.v, List.length_append, List.length_singleton, ← hn]; exact hown
  · rcases List.mem_append.1 hR with hR | hR
    · exact ⟨hkr R ((hO.rg R hR).1.stay hUA) (fun x hx => hO.avR x hx R hR), (hO.rg R hR).2⟩
    · obtain rfl : R = r1 := by simpa using hR
      exact ⟨hkr R (h1.stay ((Upd.refl _ _).alloc O)) (fun x hx => hav1 x (hlt x hx) (hav x (.inr (.inr (.inr hx))))), fun b hb => hav1 b (by omega) (hav b (.inl hb))⟩
  · rcases List.mem_append.1 hR with hR | hR
    · exact (hO.avT k hk).2 R hR
    · obtain rfl : R = r1 := by simpa using hR
      exact hav1 k (htl k hk) (hav k (.inr (.inl hk)))
  · rcases List.mem_append.1 hR with hR | hR
    · exact (hO.avB k hk).2 R hR
    · obtain rfl : R = r1 := by simpa using hR
      exact hav1 k (hbl k hk) (hav k (.inr (.inr (.inl hk))))
  · have hk2 : (Value.slice va (n + 1) vc).ownBlock = some k := by
      have e : (⟨l.rs.l ++ [r1], va, vc⟩ : SlR RgR).v = Value.slice va (n + 1) vc := by simp only [SlR.v, List.length_append, List.length_singleton, ← hn]
      rw [← e]; exact hk
    rcases hwh with hw | hw
    · rw [hk2] at hw
      have hx := hw.symm
      rcases List.mem_append.1 hR with hR | hR
      · exact hO.avR k hx R hR
      · obtain rfl : R = r1 := by simpa using hR
        exact hav1 k (hlt k hx) (hav k (.inr (.inr (.inr hx))))
    · rw [hk2] at hw
      simp only [Option.some.injEq] at hw
      rcases List.mem_append.1 hR with hR | hR
      · exact (hO.rg R hR).1.avoids (by rw [hw]; exact hUA.size)
      · obtain rfl : R = r1 := by simpa using hR
        exact h1.avoids (by rw [hw]; simp)
def Added (b0 : Nat) (w : World) (l : LdR) (r : RgR) (g : Ld) (e : Ending) (w' : World) : Prop := ∃ l', e = .returned (encD l') ∧ l'.ld = g ∧ Own b0 w' l' ∧ (∀ b, b < w.heap.size → (∀ x ∈ l.rs.l, AvR x b) → AvR r b → ∀ x ∈ l'.rs.l, AvR x b) ∧ Fr b0 w w' ∧ Upd l.rs.v.ownBlock.toList w w'
end Go.Proofs.YtmfnfinbkdemkaaGreat
namespace Go.Proofs.YtmfnfinbkdemkaaGreat
open Go.RowKit Go.Lib

set_option maxRecDepth 100000 in
set_option maxHeartbeats 8000000 in
theorem addRung_has (l : LdR) (r : RgR) (s : SlR It) (b0 : Nat) (w : World) (hO : Own b0 w l) (hb0 : b0 ≤ w.heap.size) (hr : HasR w r) (hg : GoodR r.rg) (hz : lenL r.rg.bs = 0)
    (hav : ∀ b, (b < b0 ∨ l.top.v.ownBlock = some b ∨ l.bot.v.ownBlock = some b ∨ l.rs.v.ownBlock = some b) → AvR r b) (hs : HasS LI w s) (hn : s.l.length ≤ 100000) (hrl : l.rs.l.length ≤ 1000) (hmv : 0 ≤ l.mv ∧ l.mv ≤ 1000000000000) :
    Calls Tryz.prog 117 #[encD l, encR r, .slice s.ad s.l.length s.cap] w (Added b0 w l r { l.ld with rs := l.ld.rs ++ [foldR r.rg s.l], mv := l.mv + s.l.length }) := by
  have HFN : Hid (∀ (wq w1 wf : World) (O : Obj) (va : Option Addr) (vc : Nat) (r1 : RgR) (H : Nat), w.heap.size = H → r1.rg = foldR r.rg s.l → Upd [] w wq → HasR wq r1 → (∀ b, b < w.heap.size + 3 → AvR r b → AvR r1 b) → w1.ownsRow b0 93 4 (.slice va (l.rs.l.length + 1) vc) (l.rs.l.length + 1) (LR.flat (l.rs.l ++ [r1])) → (wq.alloc O).grownBy w1 l.rs.v.ownBlock →
      ((Value.slice va (l.rs.l.length + 1) vc).ownBlock = l.rs.v.ownBlock ∨ (Value.slice va (l.rs.l.length + 1) vc).ownBlock = some (wq.alloc O).heap.size) → (∃ c f, w1.heap[H]? = some (.cells c 68 f)) → (∃ c f, w1.heap[H + 2]? = some (.cells c 68 f)) → Upd [H, H + 2] w1 wf →
      Added b0 w l r { l.ld with rs := l.ld.rs ++ [foldR r.rg s.l], mv := l.mv + s.l.length } (.returned (.agg #[.int .i64 l.ts, .slice l.top.ad l.top.l.length l.top.cap, .slice va (l.rs.l.length + 1) vc, .slice l.bot.ad l.bot.l.length l.bot.cap, .int .i64 (l.mv + s.l.length), .int .i64 l.cp])) wf) := fun wq w1 wf O va vc r1 H hH he hU h1 hav1 hown hgr hwh hbA hbC hUf => by
    have hA := own_add rfl hO hb0 hU h1 (fun b hb => hav1 b (by omega)) hav hown hgr hwh (l.mv + s.l.length)
    obtain ⟨hA1, hA2⟩ := hA
    obtain ⟨cA, fA, hbA⟩ := hbA
    obtain ⟨cC, fC, hbC⟩ := hbC
    have hbig : ∀ b, w.heap.size ≤ b → b < w.heap.size + 3 → ∀ x ∈ l.rs.l ++ [r1], AvR x b := fun b hb hb3 x hx => by
      rcases List.mem_append.1 hx with hx | hx
      · exact (hO.rg x hx).1.avoids hb
      · obtain rfl : x = r1 := by simpa using hx
        exact hav1 b hb3 (hr.avoids hb)
    have hUf1 : ∃ wm, Upd [H] w1 wm ∧ Upd [H + 2] wm wf := by
      refine ⟨{ w1 with heap := w1.heap.modify H (fun _ => (wf.heap[H]?).getD default) }, ?_, ?_⟩
      · refine ⟨rfl, rfl, rfl, by simp, fun k hk hm => ?_⟩
        show (w1.heap.modify H _)[k]? = _
        rw [Array.getElem?_modify, if_neg (by intro e; exact hm (by simp [e]))]
      · refine ⟨hUf.os, hUf.tape, hUf.output, by simpa using hUf.size, fun k hk hm => ?_⟩
        show _ = (w1.heap.modify H _)[k]?
        rw [Array.getElem?_modify]
        by_cases e : H = k
        · subst e
          have hlt := lt_block hbA
          have hltf : H < wf.heap.size := Nat.lt_of_lt_of_le hlt hUf.size
          rw [if_pos rfl, hbA, Option.map_some, Array.getElem?_eq_getElem hltf]; rfl
        · rw [if_neg e]
          exact hUf.block k (by simpa using hk) (by simp only [List.mem_cons, List.not_mem_nil, or_false]; rintro (rfl | rfl); exact e rfl; exact hm (by simp))
    obtain ⟨wm, hm1, hm2⟩ := hUf1
    have hO1 := hA1.box hbA (by decide) (hbig H (by omega) (by omega)) hm1
    have hO2 := hO1.box (hm1.at hbC (by simp)) (by decide) (hbig (H + 2) (by omega) (by omega)) hm2
    refine ⟨⟨l.ts, l.top, ⟨l.rs.l ++ [r1], va, vc⟩, l.bot, l.mv + s.l.length, l.cp⟩, ?_, ?_, hO2, fun b hb ha hr' x hx => ?_, ?_, (hA2.trans hm1 (fun x hx hl => by simp at hx; omega)).trans hm2 (fun x hx hl => by simp at hx; omega)⟩
    · simp only [encD, cellsD, List.length_append, List.length_singleton]
    · simp only [LdR.ld, List.map_append, List.map_cons, List.map_nil, he]
    · rcases List.mem_append.1 hx with hx | hx
      · exact ha x hx
      · obtain rfl : x = r1 := by simpa using hx
        exact hav1 b (by omega) hr'
    · have hF1 : Fr b0 w w1 := Fr.of_upd hA2 fun x hx => by
        have hx2 := toList_of hx
        refine ⟨own_ge hO.rs x hx2, fun c f e => ne_own e hO.rs (by decide) hx2⟩
      exact (hF1.new hm1 (by omega)).new hm2 (by omega)
  have HST := Lib.hid (fun (H : Nat) (A C : Obj) (k : Nat) (wr wz w4 : World) (r' r2 : RgR) (h : Roll w r s.l H A C k wr r') (hH : w.heap.size = H) (hk : k < s.l.length) (hu : Upd [] wr wz) (hn : Nxt wz r' (putR r'.rg s.l[k]).1 w4 r2) => h.step hH hr hk hu hn)
  have HZ : Hid (∀ (H : Nat) (A C : Obj) (W : World), w.heap.size = H → Upd [] w W → W.heap[H]? = some A → W.heap[H + 1]? = some (.cells (cellsR r) 93 (0, 0)) → W.heap[H + 2]? = some C → Roll w r s.l H A C 0 W r) := fun H A C W hH hu h0 h1 h2 => ⟨rfl, h1, hr.stay hu, fun b _ h => h, hu, h0, h2⟩
  have HOK := Lib.hid (foldR_ok hg hz s.l)
  have HSR := Lib.hid hs
  have HRS := Lib.hid hO.rs
  obtain ⟨n, hnn⟩ : ∃ n, n = s.l.length := ⟨_, rfl⟩
  have HN := Lib.hid hnn
  have HB0 := Lib.hid hb0
  rw [← hnn] at hn ⊢
  obtain ⟨sl, sa, sc⟩ := s
  obtain ⟨ts, ⟨tl, ta, tc⟩, ⟨rl, ra, rc⟩, ⟨bl, ba, bc⟩, mv, cp⟩ := l
  simp only at HFN HST HZ HOK HSR HRS HN hmv hrl ⊢
  rw [← HN.out] at HFN
  simp only [SlR.v] at HRS HFN
  generalize hgl : ({ (LdR.ld ⟨ts, ⟨tl, ta, tc⟩, ⟨rl, ra, rc⟩, ⟨bl, ba, bc⟩, mv, cp⟩ : Ld) with rs := (LdR.ld ⟨ts, ⟨tl, ta, tc⟩, ⟨rl, ra, rc⟩, ⟨bl, ba, bc⟩, mv, cp⟩).rs ++ [foldR r.rg sl], mv := mv + (n : Int) } : Ld) = gl at *
  unfold encD cellsD
  simp only
  generalize (⟨ts, ⟨tl, ta, tc⟩, ⟨rl, ra, rc⟩, ⟨bl, ba, bc⟩, mv, cp⟩ : LdR) = ll at *
  generalize tl.length = tn at *
  generalize bl.length = bn at *
  generalize hrn : rl.length = rn at *
  have HRN := Lib.hid hrn
  clear hO hb0 hav hs hr hg hz hnn hgl hrn
  unfold encR
  go_enter Tryz.func117, Tryz.ntmps117
  go_upto_region 1 with (fail)
  generalize hA : (Obj.cells #[.int .i64 ts, .slice ta tn tc, .slice ra rn rc, .slice ba bn bc, .int .i64 mv, .int .i64 cp] 68 : Obj) = A
  generalize hB : (Obj.cells #[.int .i64 r.fr, .int .i64 r.wd, .int .i64 r.cu, .slice r.bk.ad r.bk.l.length r.bk.cap] 93 : Obj) = B
  generalize hC : (Obj.cells #[.int .i64 0, .slice none 0 0, .slice none 0 0, .slice none 0 0, .int .i64 0, .int .i64 0] 68 : Obj) = C
  obtain ⟨hu, b0', b1', b2', hsz⟩ := three_boxes w A B C
  generalize ((w.alloc A).alloc B).alloc C = W at *
  generalize hH : w.heap.size = H at *
  have HH := Lib.hid hH
  have HR0 := Lib.hid (HZ.out H A C W rfl hu b0' (by rw [b1', ← hB]; rfl) (by simpa using b2'))
  have HA := Lib.hid hA; have HC := Lib.hid hC
  clear hu hA hB hC b0' b1' b2' hH hsz
  go_wp2_with fail
  go_loopg [11] n (fun gk vi wr => ∃ (k : Nat) (r' : RgR), vi = .int .i64 k ∧ k + gk = n ∧ Hid (Roll w r sl H A C k wr r'))
  case atStart => exact ⟨0, r, rfl, by omega, HR0⟩
  case round =>
    obtain ⟨k, r', rfl, hkg, HRL⟩ := hrel
    by_cases hlt : k < n
    · have hltz : (k : Int) < (n : Int) := by omega
      have hk1 : k < sl.length := by have := HN.out; omega
      obtain ⟨b', off', hbo, y0, y1, y2⟩ := (HSR.out.stay HRL.out.upd).row.item k hk1
      subst hbo
      obtain ⟨hok1, hok2⟩ := HOK.out k (by omega)
      rw [← HRL.out.eq] at hok1 hok2
      have HPT := Lib.hid (fun wz (hu : Upd [] wr wz) => Put_has r' sl[k] wz (HRL.out.has.stay hu) hok1 (by omega))
      have HSTK := Lib.hid (fun wz w4 r2 => HST.out H A C k wr wz w4 r' r2 HRL.out rfl hk1)
      have HIT : Hid (aggI sl[k] = .agg #[.int .i64 sl[k].t, .int .i64 sl[k].q, .int .i64 sl[k].s]) := rfl
      rw [HIT.out] at HPT
      clear HIT hok1 hok2
      generalize sl[k] = it at *
      generalize hit : it.t = i0 at *
      generalize it.q = i1 at *
      generalize it.s = i2 at *
      clear hit
      go_upto_region 4 with (fail)
      have hb := heap_alloc1 wr (.cells #[.int .i64 i0, .int .i64 i1, .int .i64 i2] 36)
      have hu2 := (Upd.refl [] wr).alloc (.cells #[.int .i64 i0, .int .i64 i1, .int .i64 i2] 36)
      generalize wr.alloc (.cells #[.int .i64 i0, .int .i64 i1, .int .i64 i2] 36) = W2 at *
      generalize wr.heap.size = P at *
      obtain ⟨c0, c1, c2⟩ := cells3 hb
      have q1 := hu2.at HRL.out.box (by simp)
      have HU2 := Lib.hid hu2
      have HPT2 := Lib.hid (HPT.out W2 hu2)
      clear hb y0 y1 y2 hu2
      unfold cellsR at q1
      unfold encR at HPT2
      obtain ⟨d0, d1, d2, d3⟩ := cells4 q1
      have HQ1 := Lib.hid q1
      clear q1
      go_upto_region 5 with (go_at_call 79; (with_reducible refine HPT2.out.mono ?_); rintro e w4 ⟨r2, rfl, hnx⟩; have hq := hnx.upd.at HQ1.out (by simp); obtain ⟨z0, z1, z2, z3⟩ := free4 hq; obtain ⟨g0, g1, g2, g3⟩ := cells4 hq; have HNX := Lib.hid hnx; clear hnx hq; unfold encR)
      have HR2 := Lib.hid (HSTK.out W2 w4 r2 HU2.out HNX.out)
      generalize (((w4.setCell ⟨H + 1, 0, none⟩ (.int .i64 r2.fr)).setCell ⟨H + 1, 1, none⟩ (.int .i64 r2.wd)).setCell ⟨H + 1, 2, none⟩ (.int .i64 r2.cu)).setCell ⟨H + 1, 3, none⟩ (.slice r2.bk.ad r2.bk.l.length r2.bk.cap) = w5 at *
      clear z0 z1 z2 z3 g0 g1 g2 g3 c0 c1 c2 d0 d1 d2 d3
      go_wp2_with fail
      go_roundg (gk - 1)
      case measure => omega
      case rel => exact ⟨k + 1, r2, by go_num, by omega, HR2⟩
    · have hltz : ¬ (k : Int) < (n : Int) := by omega
      have hrl := HRL.out
      rw [show k = sl.length by have := HN.out; omega] at hrl
      have q0 := hrl.a
      rw [← HA.out] at q0
      have q1 := hrl.box
      have q2 : wr.heap[H + 1 + 1]? = some C := hrl.c
      rw [← HC.out] at q2
      have HE : Hid (r'.rg = foldR r.rg sl) := by have := hrl.eq; rw [List.take_length] at this; exact this
      have HQ0 := Lib.hid q0; have HQ2 := Lib.hid q2; have HF := Lib.hid hrl
      unfold cellsR at q1
      obtain ⟨c0, c1, c2, c3, c4, c5⟩ := cells6 q0
      obtain ⟨z0, z1, z2, z3, z4, z5⟩ := free6 q0
      obtain ⟨d0, d1, d2, d3⟩ := cells4 q1
      have HRO := Lib.hid (fun (b : Nat) (W : World) (h : W.heap[b]? = some (.cells #[.int .i64 r'.fr, .int .i64 r'.wd, .int .i64 r'.cu, .slice r'.bk.ad r'.bk.l.length r'.bk.cap] 93 (0, 0))) => row_oneR h)
      have HRW := Lib.hid (fun O => (hrl.upd.alloc O).row HRS.out (by simp))
      have hrw0 := hrl.upd.row HRS.out (by simp)
      have hbw : b0 ≤ wr.heap.size := Nat.le_trans HB0.out (by have h1 := hrl.upd.size; have h2 := HH.out; omega)
      clear q0 q1 q2 hrl c0 c1 c3 c4 c5 z0 z1 z3 z4 z5
      go_upto_region 7 with (at_builtin; refine app_row2 tyR rfl _ _ rfl b0 (.slice ra rn rc) rn rl rfl (HRW.out _) ⟨wr.heap.size, 0, none⟩ 1 1 [r'] rfl rfl (by decide) (HRO.out _ _ (heap_alloc1 _ _)) (by omega) (by simp; omega) ?_; intro v' w1 hown hgrow hwh; obtain ⟨va, vc, rfl⟩ := row_shape hown; have hug := upd_grown hgrow; have hq := hug.at (((Upd.refl [] wr).alloc _).at HQ0.out (by simp)) (fun hm => ne_own HQ0.out hrw0 (by decide) (toList_of hm)); have hq2 := hug.at (((Upd.refl [] wr).alloc _).at HQ2.out (by simp)) (fun hm => ne_own HQ2.out hrw0 (by decide) (toList_of hm)); obtain ⟨c0, c1, c2, c3, c4, c5⟩ := cells6 hq; obtain ⟨z0, z1, z2, z3, z4, z5⟩ := free6 hq; have HOW := Lib.hid hown; have HGW := Lib.hid hgrow; have HWH := Lib.hid hwh; have HQ3 := Lib.hid hq; have HQ4 := Lib.hid hq2; clear hown hgrow hwh hug hq hq2)
      have q0 : (w1.setCell ⟨H, 2, none⟩ (.slice va (rn + 1) vc)).heap[H]? = some (.cells #[.int .i64 ts, .slice ta tn tc, .slice va (rn + 1) vc, .slice ba bn bc, .int .i64 mv, .int .i64 cp] 68 (0, 0)) := setCell_block HQ3.out _
      have hU1 := upd_set1 w1 H 2 (.slice va (rn + 1) vc)
      have q2 := hU1.at HQ4.out (by simp only [List.mem_singleton]; omega)
      have HUA : Hid (Upd [H, H + 1 + 1] w1 (w1.setCell ⟨H, 2, none⟩ (.slice va (rn + 1) vc))) := hU1.mono (by simp)
      generalize w1.setCell ⟨H, 2, none⟩ (.slice va (rn + 1) vc) = w2 at *
      have HQ0' := Lib.hid q0; have HQ2' := Lib.hid q2
      clear hU1 c0 c1 c2 c3 c4 c5 z0 z1 z2 z3 z4 z5 q2 d0 d1 d2 d3
      obtain ⟨c0, c1, c2, c3, c4, c5⟩ := cells6 q0
      obtain ⟨z0, z1, z2, z3, z4, z5⟩ := free6 q0
      clear q0 c0 c1 c2 c3 c5 z0 z1 z2 z3 z5
      have hw1 : IntKind.i64.wrap (mv + (n : Int)) = mv + (n : Int) := by rw [IntKind.wrap_i64]; omega
      go_upto_region 8 with (fail)
      have q0 : (w2.setCell ⟨H, 4, none⟩ (.int .i64 (mv + n))).heap[H]? = some (.cells #[.int .i64 ts, .slice ta tn tc, .slice va (rn + 1) vc, .slice ba bn bc, .int .i64 (mv + n), .int .i64 cp] 68 (0, 0)) := setCell_block HQ0'.out _
      have hU1 := upd_set1 w2 H 4 (.int .i64 (mv + n))
      have q2 := hU1.at HQ2'.out (by simp only [List.mem_singleton]; omega)
      have HUB : Hid (Upd [H, H + 1 + 1] w1 (w2.setCell ⟨H, 4, none⟩ (.int .i64 (mv + n)))) := HUA.out.trans hU1 (by simp)
      generalize w2.setCell ⟨H, 4, none⟩ (.int .i64 (mv + n)) = w3 at *
      have HQ5 := Lib.hid q2
      clear hU1 c4 z4
      obtain ⟨c0, c1, c2, c3, c4, c5⟩ := cells6 q0
      obtain ⟨e0, e1, e2, e3, e4, e5⟩ := cells6 q2
      obtain ⟨z0, z1, z2, z3, z4, z5⟩ := free6 q2
      clear q0 q2
      go_wp2_with fail
      have p2 := stored6 HQ5.out (.int .i64 ts) (.slice ta tn tc) (.slice va (rn + 1) vc) (.slice ba bn bc) (.int .i64 (mv + n)) (.int .i64 cp)
      have hU5 := upd_set6 w3 (H + 1 + 1) (.int .i64 ts) (.slice ta tn tc) (.slice va (rn + 1) vc) (.slice ba bn bc) (.int .i64 (mv + n)) (.int .i64 cp)
      generalize (((((w3.setCell ⟨H + 1 + 1, 0, none⟩ (.int .i64 ts)).setCell ⟨H + 1 + 1, 1, none⟩ (.slice ta tn tc)).setCell ⟨H + 1 + 1, 2, none⟩ (.slice va (rn + 1) vc)).setCell ⟨H + 1 + 1, 3, none⟩ (.slice ba bn bc)).setCell ⟨H + 1 + 1, 4, none⟩ (.int .i64 (mv + n))).setCell ⟨H + 1 + 1, 5, none⟩ (.int .i64 cp) = wf at p2 hU5 ⊢
      obtain ⟨r0, r1, r2, r3, r4, r5⟩ := cells6 p2
      have hfin := fun O => HFN.out wr w1 wf O va vc r' H rfl HE.out HF.out.upd HF.out.has (by rw [← HH.out]; exact HF.out.av)

      refine bodyPost_ret (v := .agg #[.int .i64 ts, .slice ta tn tc, .slice va (rn + 1) vc, .slice ba bn bc, .int .i64 (mv + n), .int .i64 cp]) (by simp [results, Tryz.results117, go_sem, r0, r1, r2, r3, r4, r5]) rfl ?_
      exact hfin _ HOW.out HGW.out HWH.out ⟨_, _, HQ3.out⟩ ⟨_, _, HQ4.out⟩ (HUB.out.trans hU5 (by simp))
end Go.Proofs.YtmfnfinbkdemkaaGreat
