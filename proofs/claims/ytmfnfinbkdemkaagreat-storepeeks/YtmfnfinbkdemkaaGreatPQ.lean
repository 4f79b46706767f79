/- Contracts: the program's Width, Narrow; takeTop. -/
/- The program's takeBucket: what it does to a queue of its own. -/
import Derived.Test.YtmfnfinbkdemkaaGreatPN
import Derived.Test.YtmfnfinbkdemkaaGreatPH
namespace Go.Proofs.YtmfnfinbkdemkaaGreat
open Go.RowKit Go.Lib

set_option maxHeartbeats 1000000 in
theorem divide_up (a : Int) (ha : 0 ≤ a ∧ a ≤ 4611686018427387904) (w : World) :
    Calls Tryz.prog 129 #[.int .i64 a, .int .i64 8, .bool true] w fun e w' => e = .returned (.int .i64 ((a + 7) / 8)) ∧ Upd [] w w' := by
  have hd : a.tdiv 8 = a / 8 := Int.tdiv_eq_ediv_of_nonneg ha.1
  have hm : a.tmod 8 = a % 8 := Int.tmod_eq_emod_of_nonneg ha.1
  have hw1 : IntKind.i64.wrap (a / 8) = a / 8 := by rw [IntKind.wrap_i64]; omega
  have hw2 : IntKind.i64.wrap (a % 8) = a % 8 := by rw [IntKind.wrap_i64]; omega
  have hw3 : IntKind.i64.wrap (a / 8 + 1) = a / 8 + 1 := by rw [IntKind.wrap_i64]; omega
  by_cases h0 : 0 < a % 8
  · have d0 : decide (0 < a % 8) = true := by simpa using h0
    have hs : (a + 7) / 8 = a / 8 + 1 := by omega
    rw [hs]
    clear hs
    generalize a / 8 = q at *
    generalize a % 8 = r at *
    go_enter Tryz.func129, Tryz.ntmps129
    go_wp2_with fail
    go_quiet (fail)
    go_wp2_with fail
    go_ret
    exact ⟨rfl, (Upd.refl [] _).drewN _⟩
  · have d0 : decide (0 < a % 8) = false := by simpa using h0
    have hs : (a + 7) / 8 = a / 8 := by omega
    rw [hs]
    clear hs
    generalize a / 8 = q at *
    generalize a % 8 = r at *
    go_enter Tryz.func129, Tryz.ntmps129
    go_wp2_with fail
    go_quiet (fail)
    go_wp2_with fail
    go_ret
    exact ⟨rfl, (Upd.refl [] _).drewN _⟩

set_option maxHeartbeats 400000 in
theorem Width_in (x y : Int) (hx : 0 ≤ x) (h : x ≤ y) (hy : y ≤ 1152921504606846976) (w : World) :
    Calls Tryz.prog 122 #[.int .i64 x, .int .i64 y] w fun e w' => e = .returned (.int .i64 ((y - x) / 8 + 1)) ∧ Upd [] w w' := by
  have hs : IntKind.i64.wrap (y - x) = y - x := by rw [IntKind.wrap_i64]; omega
  have ht : IntKind.i64.wrap ((y - x) / 8 + 1) = (y - x) / 8 + 1 := by rw [IntKind.wrap_i64]; omega
  have E1 := Lib.hid (divide_down (y - x) 8 (by omega) (by decide))
  go_enter Tryz.func122, Tryz.ntmps122
  go_wp2_with fail
  refine (E1.out _).mono ?_
  rintro e w' ⟨rfl, hu⟩
  go_wp2_with fail
  go_ret
  exact ⟨rfl, hu⟩
set_option maxHeartbeats 400000 in
theorem Narrow_in (n : Int) (h : 0 ≤ n ∧ n ≤ 4611686018427387904) (w : World) :
    Calls Tryz.prog 119 #[.int .i64 n] w fun e w' => e = .returned (.int .i64 ((n + 7) / 8)) ∧ Upd [] w w' := by
  have E1 := Lib.hid (divide_up n h)
  go_enter Tryz.func119, Tryz.ntmps119
  go_wp2_with fail
  refine (E1.out _).mono ?_
  rintro e w' ⟨rfl, hu⟩
  go_wp2_with fail
  go_ret
  exact ⟨rfl, hu⟩
theorem headD_zero {l : List It} (h : 0 < l.length) : l.headD default = l[0] := by
  cases l with
  | nil => simp at h
  | cons y ys => rfl
def nilTop (l : LdR) (ts : Int) : LdR := ⟨ts, ⟨[], none, 0⟩, l.rs, l.bot, l.mv, l.cp⟩
theorem own_nilTop {b0 : Nat} {w : World} {l : LdR} (h : Own b0 w l) (ts : Int) : Own b0 w (nilTop l ts) :=
  ⟨World.ownsRow_nil _ _ _ _, h.rs, h.bot, h.rg, fun k hk => by simp [nilTop, SlR.v, Value.ownBlock] at hk, fun k hk => ⟨avS_nil _ _ _, (h.avB k hk).2⟩, h.avR⟩
theorem gran_end {b0 : Nat} {w W w5 wf : World} {l l' : LdR} {g : Ld} {B : Nat} (hb : w.heap.size ≤ B) (hu : Upd [] w W) (hB : ∃ c f, W.heap[B]? = some (.cells c 68 f)) (he : l'.ld = g) (hO : Own b0 w5 l') (hav : ∀ b, b < w.heap.size ∨ b = B → (∀ r ∈ l.rs.l, AvR r b) → ∀ x ∈ l'.rs.l, AvR x b) (hl : ∀ r ∈ l.rs.l, AvR r B) (hf : Fr b0 W w5) (hu2 : Upd [B] w5 wf) :
    Gran b0 w l g (.returned (encD l')) wf := by
  obtain ⟨c, f, hB⟩ := hB
  exact ⟨l', rfl, he, hO.box (hf.box hB) (by decide) (hav B (.inr rfl) hl) hu2, fun b hb2 ha => hav b (.inl hb2) ha, (hf.enter hu).new hu2 hb⟩
theorem fromTop_small {ts mv cp : Int} {tl : List It} {rs : List Rg} {bl : List It} {x : Int} (hx : (tl.headD default).t = x) (h : tl.length ≤ 4) : fromTop ⟨ts, tl, rs, bl, mv, cp⟩ = ⟨maxT x tl + 1, [], rs, sortI tl, mv + tl.length, cp⟩ := by
  subst hx; unfold fromTop; rw [if_pos (by simpa using h)]; rfl
theorem fromTop_big {ts mv cp : Int} {tl : List It} {rs : List Rg} {bl : List It} {x : Int} (hx : (tl.headD default).t = x) (h : ¬ tl.length ≤ 4) : fromTop ⟨ts, tl, rs, bl, mv, cp⟩ = ⟨maxT x tl + 1, [], rs ++ [foldR (newR (minT x tl) ((maxT x tl - minT x tl) / 8 + 1)) tl], bl, mv + tl.length, cp⟩ := by
  subst hx; unfold fromTop; rw [if_neg h]; rfl
set_option maxRecDepth 100000 in
set_option maxHeartbeats 8000000 in
theorem takeTop_has (l : LdR) (b0 : Nat) (w : World) (hO : Own b0 w l) (hb0 : b0 ≤ w.heap.size) (hrs : l.rs.l = []) (ht0 : 0 < l.top.l.length) (htn : l.top.l.length ≤ 100000) (htd : DistI l.top.l) (htt : ∀ it ∈ l.top.l, 0 ≤ it.t ∧ it.t ≤ MaxT) (hmv : 0 ≤ l.mv ∧ l.mv ≤ 1000000000000) :
    Calls Tryz.prog 95 #[encD l] w (Gran b0 w l (fromTop l.ld)) := by
  obtain ⟨x, hx⟩ : ∃ x, x = l.top.l[0].t := ⟨_, rfl⟩
  have hxd : (l.top.l.headD default).t = x := by
    rw [hx, headD_zero ht0]
  obtain ⟨mn1, mn2, mn3⟩ := minT_le l.top.l x
  obtain ⟨mx1, mx2, mx3⟩ := maxT_le l.top.l x
  have hx0 := htt _ (List.getElem_mem ht0)
  rw [← hx] at hx0
  have hbd : 0 ≤ minT x l.top.l ∧ minT x l.top.l ≤ maxT x l.top.l ∧ maxT x l.top.l ≤ 1152921504606846976 := by
    unfold MaxT at *
    refine ⟨?_, by omega, ?_⟩
    · rcases mn3 with h | ⟨it, hit, h⟩
      · omega
      · have := htt it hit; omega
    · rcases mx3 with h | ⟨it, hit, h⟩
      · omega
      · have := htt it hit; omega
  have HSP := Lib.hid (fun W (hu : Upd [] w W) => span_has l.top.ad l.top.cap l.top.l x W ((hO.has.stay hu).top.row) ht0 hx.symm (by omega))
  have HEND := Lib.hid (fun (W w5 wf : World) (l' : LdR) (hu : Upd [] w W) (hB : ∃ c f, W.heap[w.heap.size + 1]? = some (.cells c 68 f)) (he : l'.ld = fromTop l.ld) (hO5 : Own b0 w5 l') (hav : ∀ b, b < w.heap.size ∨ b = w.heap.size + 1 → (∀ r ∈ l.rs.l, AvR r b) → ∀ x ∈ l'.rs.l, AvR x b) (hf : Fr b0 W w5) (hu2 : Upd [w.heap.size + 1] w5 wf) =>
    gran_end (w := w) (l := l) (by omega) hu hB he hO5 hav (fun r hr => by rw [hrs] at hr; simp at hr) hf hu2)
  have HFB : Hid (l.top.l.length ≤ 4 → ∀ W, Upd [] w W → Calls Tryz.prog 120 #[encD (nilTop l (maxT x l.top.l + 1)), .slice l.top.ad l.top.l.length l.top.cap] W (Gran b0 W (nilTop l (maxT x l.top.l + 1)) (fromTop l.ld))) := fun h4 W hu => by
    have := fillBottom_has (nilTop l (maxT x l.top.l + 1)) l.top b0 W ((own_nilTop hO _).stay hu) (hu.row hO.top (by simp)) (fun k hk => ⟨by simp [nilTop, SlR.v, Value.ownBlock], fun r hr => by have hr' : r ∈ l.rs.l := hr; rw [hrs] at hr'; simp at hr'⟩) ht0 htn htd hmv
    have e : ({ (nilTop l (maxT x l.top.l + 1)).ld with bot := sortI l.top.l, mv := (nilTop l (maxT x l.top.l + 1)).mv + l.top.l.length } : Ld) = fromTop l.ld := (fromTop_small hxd h4).symm
    rw [e] at this
    exact this
  have HAR : Hid (¬ l.top.l.length ≤ 4 → ∀ W0 W r, Upd [] w W0 → w.heap.size + 2 ≤ W0.heap.size → Born W0 (newR (minT x l.top.l) ((maxT x l.top.l - minT x l.top.l) / 8 + 1)) W r → ∀ W2, Upd [] W W2 → Calls Tryz.prog 117 #[encD (nilTop l (maxT x l.top.l + 1)), encR r, .slice l.top.ad l.top.l.length l.top.cap] W2 fun e w' => ∃ l', e = .returned (encD l') ∧ l'.ld = fromTop l.ld ∧ Own b0 w' l' ∧ (∀ b, b < w.heap.size ∨ b = w.heap.size + 1 → (∀ r ∈ l.rs.l, AvR r b) → ∀ x ∈ l'.rs.l, AvR x b) ∧ Fr b0 W2 w') := fun h4 W0 W r hu hsz hB W2 hu2 => by
    have hu3 := (hu.thn hB.upd).thn hu2
    have hg : GoodR r.rg := by rw [hB.eq]; exact newR_good hbd.1 (by omega) (by omega) (by omega)
    have := addRung_has (nilTop l (maxT x l.top.l + 1)) r l.top b0 W2 ((own_nilTop hO _).stay hu3) (Nat.le_trans hb0 hu3.size) (hB.has.stay hu2) hg (by rw [hB.eq]; exact lenL_zero (fun i _ => bAt_rep 8 i)) (fun b hb => hB.av b (by
      rcases hb with hb | hb | hb | hb
      · have := hu.size; omega
      · simp [nilTop, SlR.v, Value.ownBlock] at hb
      · have := (hO.bot.lt b hb).2; have := hu.size; omega
      · have := (hO.rs.lt b hb).2; have := hu.size; omega)) (hO.has.stay hu3).top htn (by simp [nilTop, hrs]) hmv
    have e : ({ (nilTop l (maxT x l.top.l + 1)).ld with rs := (nilTop l (maxT x l.top.l + 1)).ld.rs ++ [foldR r.rg l.top.l], mv := (nilTop l (maxT x l.top.l + 1)).mv + l.top.l.length } : Ld) = fromTop l.ld := by
      rw [hB.eq]; exact (fromTop_big hxd h4).symm
    rw [e] at this
    refine this.mono ?_
    rintro e w' ⟨l', he, h1, h2, h3, h4, _⟩
    exact ⟨l', he, h1, h2, fun b hb ha => h3 b (by have e1 := hB.upd.size; have e2 := hu2.size; omega) ha (hB.av b (by omega)), h4⟩
  have HWD := Lib.hid (fun W => Width_in (minT x l.top.l) (maxT x l.top.l) hbd.1 hbd.2.1 hbd.2.2 W)
  have HNW := Lib.hid (fun W => New_has (minT x l.top.l) ((maxT x l.top.l - minT x l.top.l) / 8 + 1) W)
  generalize fromTop l.ld = gl at *
  generalize hmx : maxT x l.top.l = mx at *
  generalize hmn : minT x l.top.l = mn at *
  have hbd1 := hbd.2.2
  have hbd0 : 0 ≤ mx := by omega
  obtain ⟨ts, ⟨tl, ta, tc⟩, ⟨rl, ra, rc⟩, ⟨bl, ba, bc⟩, mv, cp⟩ := l
  unfold nilTop at HFB HAR
  unfold encD cellsD at HFB HAR ⊢
  simp only [List.length_nil] at hrs HSP HFB HAR htn hmv ⊢
  clear hO hb0 hrs ht0 htd htt hx hxd mn1 mn2 mn3 mx1 mx2 mx3 hx0 hbd hmx hmn
  generalize htl : tl.length = tn at *
  generalize bl.length = bn at *
  generalize rl.length = rn at *
  generalize (mx - mn) / 8 + 1 = wd at *
  clear htl
  have HLL : Hid ((⟨ts, ⟨tl, ta, tc⟩, ⟨rl, ra, rc⟩, ⟨bl, ba, bc⟩, mv, cp⟩ : LdR).rs.l = rl) := rfl
  generalize (⟨ts, ⟨tl, ta, tc⟩, ⟨rl, ra, rc⟩, ⟨bl, ba, bc⟩, mv, cp⟩ : LdR) = ll at *
  go_enter Tryz.func95, Tryz.ntmps95
  go_upto_region 1 with (fail)
  generalize hA : (Obj.cells #[.int .i64 ts, .slice ta tn tc, .slice ra rn rc, .slice ba bn bc, .int .i64 mv, .int .i64 cp] 68 : Obj) = A
  generalize hC : (Obj.cells #[.int .i64 0, .slice none 0 0, .slice none 0 0, .slice none 0 0, .int .i64 0, .int .i64 0] 68 : Obj) = C
  obtain ⟨hu, b0', b2, hsz⟩ := two_boxes w A C
  generalize (w.alloc A).alloc C = W at *
  generalize hH : w.heap.size = H at *
  rw [← hA] at b0'
  rw [← hC] at b2
  have HU := Lib.hid hu; have HB0 := Lib.hid b0'; have HB2 := Lib.hid b2; have HH := Lib.hid hH; have HSZ := Lib.hid hsz
  clear hu hA hC b0' b2 hH hsz
  obtain ⟨c0, c1, c2, c3, c4, c5⟩ := cells6 HB0.out
  clear c0 c2 c3 c4 c5
  go_upto_region 3 with (go_at_call 121; (with_reducible refine (HSP.out _ HU.out).mono ?_); rintro e w1 ⟨rfl, hu1⟩)
  have q0 := hu1.at HB0.out (by simp)
  have q2 := hu1.at HB2.out (by simp)
  have HU1 := Lib.hid (HU.out.thn hu1)
  have HS1 : Hid (H + 2 ≤ w1.heap.size) := by have h1 := hu1.size; have h2 := HSZ.out; show H + 2 ≤ w1.heap.size; omega
  have HQ0 := Lib.hid q0; have HQ2 := Lib.hid q2
  obtain ⟨c0, c1', c2, c3, c4, c5⟩ := cells6 q0
  obtain ⟨d0, d1, d2, d3, d4, d5⟩ := free6 q0
  clear c1 hu1 q0 q2 c2 c3 c4 c5 d2 d3 d4 d5
  go_upto_region 4 with (fail)
  have q0 : (w1.setCell ⟨H, 1, none⟩ (.slice none 0 0)).heap[H]? = some (.cells #[.int .i64 ts, .slice none 0 0, .slice ra rn rc, .slice ba bn bc, .int .i64 mv, .int .i64 cp] 68 (0, 0)) := setCell_block HQ0.out _
  have hU1 := upd_set1 w1 H 1 (.slice none 0 0)
  have q2 := hU1.at HQ2.out (by simp)
  have HUA : Hid (Upd [] w (w1.setCell ⟨H, 1, none⟩ (.slice none 0 0))) := HU1.out.new hU1 (by have := HH.out; omega)
  have HS2 : Hid (H + 2 ≤ (w1.setCell ⟨H, 1, none⟩ (.slice none 0 0)).heap.size) := Nat.le_trans HS1.out hU1.size
  generalize w1.setCell ⟨H, 1, none⟩ (.slice none 0 0) = w2 at *
  have HQ0' := Lib.hid q0; have HQ2' := Lib.hid q2
  clear c0 c1' d0 d1 hU1 q2
  obtain ⟨c0, c1, c2, c3, c4, c5⟩ := cells6 q0
  obtain ⟨d0, d1, d2, d3, d4, d5⟩ := free6 q0
  clear q0 c1 c2 c3 c4 c5 d1 d2 d3 d4 d5
  have hw1 : IntKind.i64.wrap (mx + 1) = mx + 1 := by rw [IntKind.wrap_i64]; omega
  go_upto_region 5 with (fail)
  have q0 : (w2.setCell ⟨H, 0, none⟩ (.int .i64 (mx + 1))).heap[H]? = some (.cells #[.int .i64 (mx + 1), .slice none 0 0, .slice ra rn rc, .slice ba bn bc, .int .i64 mv, .int .i64 cp] 68 (0, 0)) := setCell_block HQ0'.out _
  have hU1 := upd_set1 w2 H 0 (.int .i64 (mx + 1))
  have q2 := hU1.at HQ2'.out (by simp)
  have HUB : Hid (Upd [] w (w2.setCell ⟨H, 0, none⟩ (.int .i64 (mx + 1)))) := HUA.out.new hU1 (by have := HH.out; omega)
  have HS3 : Hid (H + 2 ≤ (w2.setCell ⟨H, 0, none⟩ (.int .i64 (mx + 1))).heap.size) := Nat.le_trans HS2.out hU1.size
  generalize w2.setCell ⟨H, 0, none⟩ (.int .i64 (mx + 1)) = w3 at *
  have HQ0'' := Lib.hid q0; have HQ2'' := Lib.hid q2
  clear c0 d0 hU1 q2 hw1
  obtain ⟨c0, c1, c2, c3, c4, c5⟩ := cells6 q0
  clear q0
  by_cases h4 : tn ≤ 4
  · have hd4 : decide ((tn : Int) ≤ 4) = true := by simp; omega
    have HFB2 := Lib.hid (HFB.out h4 w3 HUB.out)
    go_wp2_with (go_at_call 120; go_loud ((with_reducible refine HFB2.out.mono ?_); rintro e w5 ⟨l', rfl, hR⟩; have hq := hR.fr.box HQ2''.out; obtain ⟨z0, z1, z2, z3, z4, z5⟩ := free6 hq; obtain ⟨y0, y1, y2, y3, y4, y5⟩ := cells6 hq; have HRR := Lib.hid hR; have HQF := Lib.hid hq; clear hR hq; unfold encD cellsD))
    have p2 := stored6 HQF.out (.int .i64 l'.ts) (.slice l'.top.ad l'.top.l.length l'.top.cap) (.slice l'.rs.ad l'.rs.l.length l'.rs.cap) (.slice l'.bot.ad l'.bot.l.length l'.bot.cap) (.int .i64 l'.mv) (.int .i64 l'.cp)
    have hU5 := upd_set6 w5 (H + 1) (.int .i64 l'.ts) (.slice l'.top.ad l'.top.l.length l'.top.cap) (.slice l'.rs.ad l'.rs.l.length l'.rs.cap) (.slice l'.bot.ad l'.bot.l.length l'.bot.cap) (.int .i64 l'.mv) (.int .i64 l'.cp)
    generalize (((((w5.setCell ⟨H + 1, 0, none⟩ (.int .i64 l'.ts)).setCell ⟨H + 1, 1, none⟩ (.slice l'.top.ad l'.top.l.length l'.top.cap)).setCell ⟨H + 1, 2, none⟩ (.slice l'.rs.ad l'.rs.l.length l'.rs.cap)).setCell ⟨H + 1, 3, none⟩ (.slice l'.bot.ad l'.bot.l.length l'.bot.cap)).setCell ⟨H + 1, 4, none⟩ (.int .i64 l'.mv)).setCell ⟨H + 1, 5, none⟩ (.int .i64 l'.cp) = wf at p2 hU5 ⊢
    obtain ⟨r0, r1, r2, r3, r4, r5⟩ := cells6 p2
    refine bodyPost_ret (v := encD l') (by simp [encD, cellsD, results, Tryz.results95, go_sem, r0, r1, r2, r3, r4, r5]) rfl ?_
    obtain ⟨_, e, hRR⟩ : ∃ l2, encD l' = encD l2 ∧ Ran b0 w3 ⟨mx + 1, ⟨[], none, 0⟩, ⟨rl, ra, rc⟩, ⟨bl, ba, bc⟩, mv, cp⟩ gl w5 l' := ⟨l', rfl, HRR.out⟩
    exact HEND.out w3 w5 wf l' HUB.out ⟨_, _, HQ2''.out⟩ hRR.eq hRR.own (fun b hb ha => hRR.av b (by have h1 := HS3.out; have h2 := HH.out; omega) (by show ∀ r ∈ rl, AvR r b; rw [← HLL.out]; exact ha)) hRR.fr hU5
  · have hd4 : decide ((tn : Int) ≤ 4) = false := by simp; omega
    have HAR2 := Lib.hid (fun W0 W r (hu : Upd [] w3 W0) => HAR.out h4 W0 W r (HUB.out.thn hu) (by have h1 := HS3.out; have h2 := HH.out; have h3 := hu.size; omega))
    unfold encR at HAR2
    have HKP := Lib.hid (fun W (hu : Upd [] w3 W) => (⟨hu.cell c0 (by simp), hu.cell c1 (by simp), hu.cell c2 (by simp), hu.cell c3 (by simp), hu.cell c4 (by simp), hu.cell c5 (by simp)⟩ : W.cell? ⟨H, 0, none⟩ = some (.int .i64 (mx + 1)) ∧ W.cell? ⟨H, 1, none⟩ = some (.slice none 0 0) ∧ W.cell? ⟨H, 2, none⟩ = some (.slice ra rn rc) ∧ W.cell? ⟨H, 3, none⟩ = some (.slice ba bn bc) ∧ W.cell? ⟨H, 4, none⟩ = some (.int .i64 mv) ∧ W.cell? ⟨H, 5, none⟩ = some (.int .i64 cp)))
    go_upto_region 7 with (fail)
    clear HFB
    go_region_held3 (fun wz => wz.cell? ⟨H, 0, none⟩ = some (.int .i64 (mx + 1)) ∧ wz.cell? ⟨H, 1, none⟩ = some (.slice none 0 0) ∧ wz.cell? ⟨H, 2, none⟩ = some (.slice ra rn rc) ∧ wz.cell? ⟨H, 3, none⟩ = some (.slice ba bn bc) ∧ wz.cell? ⟨H, 4, none⟩ = some (.int .i64 mv) ∧ wz.cell? ⟨H, 5, none⟩ = some (.int .i64 cp)) (first | (with_reducible exact ⟨c0, c1, c2, c3, c4, c5⟩) | (with_reducible exact ⟨g0, g1, g2, g3, g4, g5⟩) | (refine hkg _ ?_; (repeat (first | (with_reducible exact Upd.refl [H + 1] _) | (with_reducible refine Upd.drew ?_) | refine Upd.setCell ?_ (by simp) _)); done) | (refine HKP.out _ ?_; (repeat (first | (with_reducible exact Upd.refl [] _) | (with_reducible refine Upd.drew ?_) | (with_reducible refine Upd.trans (T := []) ?_ (by assumption) (by simp)) | (with_reducible refine Upd.trans (T := []) ?_ hBn.upd (by simp)))); done)) (first
      | (go_at_call 122; (with_reducible refine (HWD.out _).mono ?_); rintro e w' ⟨rfl, huw⟩)
      | (go_at_call 118; (with_reducible refine (HNW.out _).mono ?_); rintro e wn ⟨r', rfl, hBn⟩; unfold encR)
      | (go_at_call 117; (with_reducible refine (HAR2.out _ _ _ (by (repeat (first | exact Upd.refl [] _ | refine Upd.drew ?_ | refine Upd.trans (T := []) ?_ (by assumption) (by simp)))) hBn _ (by (repeat (first | exact Upd.refl [] _ | refine Upd.drew ?_)))).mono ?_); rintro e w5 ⟨l', rfl, hR1, hR2, hR3, hR4⟩; have hq := hR4.box (hBn.upd.at ((by (repeat (first | exact Upd.refl [] _ | refine Upd.drew ?_ | refine Upd.trans (T := []) ?_ (by assumption) (by simp))) : Upd [] w3 _).at HQ2''.out (by simp)) (by simp)); obtain ⟨z0, z1, z2, z3, z4, z5⟩ := free6 hq; obtain ⟨y0, y1, y2, y3, y4, y5⟩ := cells6 hq; have hq0 := hR4.box (hBn.upd.at ((by (repeat (first | exact Upd.refl [] _ | refine Upd.drew ?_ | refine Upd.trans (T := []) ?_ (by assumption) (by simp))) : Upd [] w3 _).at HQ0''.out (by simp)) (by simp)); obtain ⟨g0, g1, g2, g3, g4, g5⟩ := cells6 hq0; have HFX : Hid (∃ W2, Upd [] w W2 ∧ (∃ c f, W2.heap[H + 1]? = some (.cells c 68 f)) ∧ Fr b0 W2 w5) := ⟨_, (HUB.out.thn (by (repeat (first | exact Upd.refl [] _ | refine Upd.drew ?_ | refine Upd.trans (T := []) ?_ (by assumption) (by simp))) : Upd [] w3 _)).thn hBn.upd, ⟨_, _, hBn.upd.at ((by (repeat (first | exact Upd.refl [] _ | refine Upd.drew ?_ | refine Upd.trans (T := []) ?_ (by assumption) (by simp))) : Upd [] w3 _).at HQ2''.out (by simp)) (by simp)⟩, hR4⟩; have HRX : Hid (l'.ld = gl ∧ Own b0 w5 l' ∧ (∀ b, b < H ∨ b = H + 1 → (∀ r ∈ ll.rs.l, AvR r b) → ∀ x ∈ l'.rs.l, AvR x b)) := ⟨hR1, hR2, fun b hb ha => hR3 b hb (by rw [← HLL.out]; exact ha)⟩; have HQF := Lib.hid hq; have hkg := fun W (hu : Upd [H + 1] w5 W) => (⟨hu.cell g0 (by simp), hu.cell g1 (by simp), hu.cell g2 (by simp), hu.cell g3 (by simp), hu.cell g4 (by simp), hu.cell g5 (by simp)⟩ : W.cell? ⟨H, 0, none⟩ = some (.int .i64 (mx + 1)) ∧ W.cell? ⟨H, 1, none⟩ = some (.slice none 0 0) ∧ W.cell? ⟨H, 2, none⟩ = some (.slice ra rn rc) ∧ W.cell? ⟨H, 3, none⟩ = some (.slice ba bn bc) ∧ W.cell? ⟨H, 4, none⟩ = some (.int .i64 mv) ∧ W.cell? ⟨H, 5, none⟩ = some (.int .i64 cp))))
    have p2 := stored6 HQF.out (.int .i64 l'.ts) (.slice l'.top.ad l'.top.l.length l'.top.cap) (.slice l'.rs.ad l'.rs.l.length l'.rs.cap) (.slice l'.bot.ad l'.bot.l.length l'.bot.cap) (.int .i64 l'.mv) (.int .i64 l'.cp)
    have hU5 := upd_set6 w5 (H + 1) (.int .i64 l'.ts) (.slice l'.top.ad l'.top.l.length l'.top.cap) (.slice l'.rs.ad l'.rs.l.length l'.rs.cap) (.slice l'.bot.ad l'.bot.l.length l'.bot.cap) (.int .i64 l'.mv) (.int .i64 l'.cp)
    generalize (((((w5.setCell ⟨H + 1, 0, none⟩ (.int .i64 l'.ts)).setCell ⟨H + 1, 1, none⟩ (.slice l'.top.ad l'.top.l.length l'.top.cap)).setCell ⟨H + 1, 2, none⟩ (.slice l'.rs.ad l'.rs.l.length l'.rs.cap)).setCell ⟨H + 1, 3, none⟩ (.slice l'.bot.ad l'.bot.l.length l'.bot.cap)).setCell ⟨H + 1, 4, none⟩ (.int .i64 l'.mv)).setCell ⟨H + 1, 5, none⟩ (.int .i64 l'.cp) = wf at p2 hU5 ⊢
    obtain ⟨r0, r1, r2, r3, r4, r5⟩ := cells6 p2
    obtain ⟨W2, x1, x2, x3⟩ := HFX.out
    obtain ⟨x4, x5, x6⟩ := HRX.out
    clear hkg c0 c1 c2 c3 c4 c5 g0 g1 g2 g3 g4 g5 y0 y1 y2 y3 y4 y5 z0 z1 z2 z3 z4 z5
    go_wp2_with fail
    exact bodyPost_ret (v := encD l') (by simp [encD, cellsD, results, Tryz.results95, go_sem, r0, r1, r2, r3, r4, r5]) rfl (HEND.out W2 w5 wf l' x1 x2 x4 x5 x6 x3 hU5)
end Go.Proofs.YtmfnfinbkdemkaaGreat
namespace Go.Proofs.YtmfnfinbkdemkaaGreat
open Go.RowKit Go.Lib

theorem own_ad {ad : Option Addr} {n m c c' : Nat} : (Value.slice ad n c).ownBlock = (Value.slice ad m c').ownBlock := by
  cases ad <;> rfl
theorem own_take {α : Type} {L : Lay α} {te : TypeId} {w : World} {base n : Nat} {ad : Option Addr} {cap : Nat} {l : List α} (m : Nat) (h : w.ownsRow base te L.k (.slice ad n cap) n (L.flat l)) (h0 : 0 < n) (hm : m ≤ l.length) : w.ownsRow base te L.k (.slice ad m cap) m (L.flat (l.take m)) := by
  obtain ⟨hn, g, cap', ev, hb, hh⟩ := held_row (L := L) h h0
  simp only [Value.slice.injEq] at ev
  obtain ⟨rfl, _, rfl⟩ := ev
  have hc := own_cap h
  obtain ⟨cur, h1, h2, h3⟩ := hh.ex
  have hh2 : Held L te w g cap (l.take m) := by
    have hle := hh.le
    have hlm : (l.take m).length = m := by rw [List.length_take, Nat.min_eq_left hm]
    refine ⟨⟨cur, h1, h2, ?_⟩, by omega⟩
    rw [hlm, ← L.flat_take l m hm, ← h3, List.take_take, Nat.min_eq_left (Nat.mul_le_mul_right _ hm)]
  have := hh2.own hb hc
  rw [List.length_take, Nat.min_eq_left hm] at this
  exact this
theorem own_drop {b0 : Nat} {w : World} {l : LdR} (h : Own b0 w l) {rs0 : List RgR} {r : RgR} (hl : l.rs.l = rs0 ++ [r]) : Own b0 w ⟨l.ts, l.top, ⟨rs0, l.rs.ad, l.rs.cap⟩, l.bot, l.mv, l.cp⟩ := by
  have hsub : ∀ x ∈ rs0, x ∈ l.rs.l := fun x hx => by rw [hl]; exact List.mem_append_left _ hx
  have hob : ∀ k, (⟨rs0, l.rs.ad, l.rs.cap⟩ : SlR RgR).v.ownBlock = some k → l.rs.v.ownBlock = some k := fun k hk => by simp only [SlR.v] at hk ⊢; rw [own_ad (m := rs0.length) (c' := l.rs.cap)]; exact hk
  refine ⟨h.top, ?_, h.bot, fun x hx => h.rg x (hsub x hx), fun k hk => ⟨(h.avT k hk).1, fun x hx => (h.avT k hk).2 x (hsub x hx)⟩, fun k hk => ⟨(h.avB k hk).1, fun x hx => (h.avB k hk).2 x (hsub x hx)⟩, fun k hk x hx => h.avR k (hob k hk) x (hsub x hx)⟩
  have h1 := h.rs
  simp only [SlR.v] at h1 ⊢
  have h2 := own_take (L := LR) rs0.length h1 (by rw [hl]; simp) (by rw [hl]; simp)
  rw [hl, List.take_left] at h2
  exact h2
theorem own_put {b0 g : Nat} {W w1 w3 : World} {l : LdR} {rs0 : List RgR} {r r' : RgR} (hO : Own b0 W l) (hl : l.rs.l = rs0 ++ [r]) (hrs : l.rs.ad = some ⟨g, 0, none⟩) (hu : Upd [] W w1) (hr' : HasR w1 r') (hav : ∀ b, b < W.heap.size → AvR r' b) (h3 : w3 = stores w1 g (rs0.length * LR.k) (LR.enc r')) :
    Own b0 w3 ⟨l.ts, l.top, ⟨rs0 ++ [r'], l.rs.ad, l.rs.cap⟩, l.bot, l.mv, l.cp⟩ ∧ Upd [g] w1 w3 := by
  have hown := (hO.stay hu).rs
  obtain ⟨hn, g', cap', ev, hbg, hh⟩ := held_row (L := LR) hown (by rw [hl]; simp)
  simp only [SlR.v, Value.slice.injEq] at ev
  obtain ⟨e1, _, e2⟩ := ev
  rw [hrs] at e1
  simp only [Option.some.injEq, Addr.mk.injEq, and_true] at e1
  subst e1
  have hcap : cap' ≤ maxLen := by rw [← e2]; simp only [SlR.v] at hown; exact own_cap hown
  have hset := hh.set rs0.length (by rw [hl]; simp) r'
  have hU : Upd [g] w1 w3 := by rw [h3]; exact stores_upd _ _ _ _
  rw [← h3] at hset
  have hls : l.rs.l.set rs0.length r' = rs0 ++ [r'] := by rw [hl]; simp
  rw [hls] at hset
  obtain ⟨cur, hc, _⟩ := hh.ex
  have hgl : g < W.heap.size := (hO.rs.lt g (by simp only [SlR.v, Value.ownBlock, hrs])).2
  have hO1 := hO.stay hu
  have hgown : l.rs.v.ownBlock = some g := by simp only [SlR.v, Value.ownBlock, hrs]
  have hmem : ∀ x ∈ rs0 ++ [r'], x ∈ l.rs.l ∨ x = r' := fun x hx => by
    rcases List.mem_append.1 hx with hx | hx
    · exact .inl (by rw [hl]; exact List.mem_append_left _ hx)
    · exact .inr (by simpa using hx)
  refine ⟨⟨hU.row hO1.top (fun x hx hm => ne_own hc hO1.top (by decide) (by simp only [List.mem_singleton] at hm; rw [← hm]; exact hx)), ?_, hU.row hO1.bot (fun x hx hm => ne_own hc hO1.bot (by decide) (by simp only [List.mem_singleton] at hm; rw [← hm]; exact hx)), fun x hx => ?_, fun k hk => ⟨(hO.avT k hk).1, fun x hx => ?_⟩, fun k hk => ⟨(hO.avB k hk).1, fun x hx => ?_⟩, fun k hk x hx => ?_⟩, hU⟩
  · have := hset.own hbg hcap
    simp only [SlR.v, hrs, e2]
    exact this
  · rcases hmem x hx with hx | rfl
    · exact ⟨(hO1.rg x hx).1.keep1 hU (hO.avR g hgown x hx), (hO.rg x hx).2⟩
    · exact ⟨hr'.keep1 hU (hav g hgl), fun b hb => hav b (by omega)⟩
  · rcases hmem x hx with hx | rfl
    · exact (hO.avT k hk).2 x hx
    · exact hav k (hO.top.lt k hk).2
  · rcases hmem x hx with hx | rfl
    · exact (hO.avB k hk).2 x hx
    · exact hav k (hO.bot.lt k hk).2
  · have hk2 : l.rs.v.ownBlock = some k := by simp only [SlR.v] at hk ⊢; rw [own_ad (m := (rs0 ++ [r']).length) (c' := l.rs.cap)]; exact hk
    rcases hmem x hx with hx | rfl
    · exact hO.avR k hk2 x hx
    · exact hav k (hO.rs.lt k hk2).2
end Go.Proofs.YtmfnfinbkdemkaaGreat
