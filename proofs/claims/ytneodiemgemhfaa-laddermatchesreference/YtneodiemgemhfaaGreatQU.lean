/- Contract: the reference's Valid of queues. -/
import Derived.Test.YtneodiemgemhfaaGreatQR
namespace Go.Proofs.YtneodiemgemhfaaGreat
open Go.RowKit Go.Lib

theorem belowB_yes {l : List It} {b : Int} : belowB l b = true ↔ ∀ it ∈ l, it.t < b ∧ 0 ≤ it.t ∧ it.t ≤ 1152921504606846976 := by
  unfold belowB
  rw [List.all_eq_true]
  simp only [Bool.and_eq_true, decide_eq_true_eq, and_assoc]
/-- What the reference's Valid asks of rung k. -/
structure RkOk (ts : Int) (rs : List Rg) (k : Nat) (r : Rg) : Prop where
  good : validR r = true
  ends : boundR ts (rs.take k) ≤ endT r
  its : ∀ j, j < r.bs.length → belowB (bAt r.bs j) (boundR ts (rs.take k)) = true
/-- What the reference's Valid asks, in its order. -/
structure VdOk (l : Ld) : Prop where
  a1 : 0 ≤ l.ts
  a2 : l.ts ≤ 1152921504606846977
  a3 : l.rs.length ≤ 4
  a4 : 0 ≤ l.mv
  a5 : 0 ≤ l.cp
  a6 : belowB l.top 1152921504606846977 = true
  b : ∀ i (h : i < l.top.length), l.ts ≤ l.top[i].t
  c : ∀ k (h : k < l.rs.length), RkOk l.ts l.rs k l.rs[k]
  d : belowB l.bot (boundR l.ts l.rs) = true
  e : ∀ i (h : i + 1 < l.bot.length), ltI (l.bot[i]'(by omega)) l.bot[i + 1]
  f : ∀ i (h : i + 1 < (sortI (itemsL l)).length), ¬ eqK ((sortI (itemsL l))[i]'(by omega)) (sortI (itemsL l))[i + 1]
theorem vd_iff (l : Ld) : GoodL l ↔ VdOk l := by
  have hd : DistI (itemsL l) ↔ ∀ i (h : i + 1 < (sortI (itemsL l)).length), ¬ eqK ((sortI (itemsL l))[i]'(by omega)) (sortI (itemsL l))[i + 1] := by
    rw [← sorted_next (sortI_sorted _)]
    exact ⟨fun h => h.perm (sortI_perm _).symm, fun h => h.perm (sortI_perm _)⟩
  constructor
  · intro h
    have hts := h.ts1
    have hrs := (okRs_at _ _).1 h.rs
    unfold MaxT at hts
    refine ⟨h.ts0, by omega, h.len, h.mv0, h.cp0, belowB_yes.2 fun it hit => ?_, fun i hi => (h.top _ (List.getElem_mem hi)).1, fun k hk => ?_, belowB_yes.2 fun it hit => ?_, fun i hi => strict_next.1 h.srt i hi, hd.1 h.dist⟩
    · have h1 := h.top it hit; have h2 := h.ts0; unfold MaxT at h1; omega
    · obtain ⟨o1, o2, o3⟩ := hrs k hk
      refine ⟨validR_yes.2 o1, o2, fun j hj => belowB_yes.2 fun it hit => ?_⟩
      have hm : it ∈ itsR l.rs[k] := mem_itsR.2 ⟨j, hj, hit⟩
      have h1 := o3 it hm; have h2 := (o1.its_lo hm).2; unfold MaxT at h1; omega
    · have h1 := h.bot it hit; unfold MaxT at h1; omega
  · intro h
    have ha := belowB_yes.1 h.a6
    have hb := belowB_yes.1 h.d
    refine ⟨h.a1, by have := h.a2; unfold MaxT; omega, fun it hit => ?_, h.a3, (okRs_at _ _).2 fun k hk => ?_, fun it hit => ?_, strict_next.2 h.e, hd.2 h.f, h.a4, h.a5⟩
    · obtain ⟨i, hi, rfl⟩ := List.mem_iff_getElem.1 hit
      have h1 := h.b i hi; have h2 := ha _ hit; unfold MaxT; omega
    · obtain ⟨o1, o2, o3⟩ := h.c k hk
      refine ⟨validR_yes.1 o1, o2, fun it hit => ?_⟩
      obtain ⟨j, hj, hm⟩ := mem_itsR.1 hit
      have := belowB_yes.1 (o3 j hj) it hm
      unfold MaxT; omega
    · have := hb it hit; unfold MaxT; omega
theorem bound_take {ts : Int} {rs : List Rg} {k : Nat} (h : k < rs.length) : boundR ts (rs.take (k + 1)) = min (boundR ts (rs.take k)) (curT rs[k]) := by
  rw [List.take_succ_eq_append_getElem h, boundR_append]
set_option maxRecDepth 100000 in
set_option maxHeartbeats 8000000 in
theorem RLValid_has (l : LdR) (w : World) (h : HasD w l) (hz : Sz l) :
    Calls Tryz.prog 17 #[encD l] w fun e w' => e = .returned (.bool (validD l.ld)) ∧ Upd [] w w' := by
  obtain ⟨res, hres⟩ : ∃ b, b = validD l.ld := ⟨_, rfl⟩
  have hno : ¬ VdOk l.ld → res = false := fun hn => by
    rw [hres]
    cases hv : validD l.ld with
    | false => rfl
    | true => exact absurd ((vd_iff _).1 (validD_yes.1 hv)) hn
  have HNO := Lib.hid hno
  have HYES : Hid (VdOk l.ld → res = true) := fun hv => by rw [hres]; exact validD_yes.2 ((vd_iff _).2 hv)
  rw [← hres]
  have HD := Lib.hid h
  have HZ := Lib.hid hz
  have HSTP : Hid (∀ i (hi : i < l.rs.l.length), boundR l.ts ((l.rs.l.map RgR.rg).take (i + 1)) = min (boundR l.ts ((l.rs.l.map RgR.rg).take i)) (curT (l.rs.l[i]).rg)) := fun i hi => by
    have := bound_take (ts := l.ts) (rs := l.rs.l.map RgR.rg) (k := i) (by simpa using hi)
    simpa using this
  have HB0' : Hid (boundR l.ts ((l.rs.l.map RgR.rg).take 0) = l.ts) := rfl
  have HBN : Hid (boundR l.ts ((l.rs.l.map RgR.rg).take l.rs.l.length) = boundR l.ts (l.rs.l.map RgR.rg)) := by show _ = _; rw [List.take_of_length_le (by simp)]
  have HLL : Hid (encD l = .agg #[.int .i64 l.ts, .slice l.top.ad l.top.l.length l.top.cap, .slice l.rs.ad l.rs.l.length l.rs.cap, .slice l.bot.ad l.bot.l.length l.bot.cap, .int .i64 l.mv, .int .i64 l.cp]) := rfl
  have HIT : Hid (∀ V, HasD V l → Calls Tryz.prog 26 #[encD l] V fun e w' => ∃ s : SlR It, e = .returned (.slice s.ad s.l.length s.cap) ∧ s.l = itemsL l.ld ∧ HasS LI w' s ∧ Upd [] V w') := fun V hv => by
    refine (RItems_has l V hv hz.rs hz.bk hz.all).mono ?_
    rintro e w' ⟨va, vc, rfl, hown, hu⟩
    obtain ⟨_, ad, cap, hv2, hS, _⟩ := hasS_row (L := LI) hown
    simp only [Value.slice.injEq] at hv2
    obtain ⟨rfl, _, rfl⟩ := hv2
    exact ⟨⟨itemsL l.ld, va, vc⟩, rfl, rfl, hS, hu⟩
  rw [HLL.out] at HIT ⊢
  obtain ⟨tn, htn⟩ : ∃ n, n = l.top.l.length := ⟨_, rfl⟩
  obtain ⟨n, hn⟩ : ∃ n, n = l.rs.l.length := ⟨_, rfl⟩
  obtain ⟨bn, hbn⟩ : ∃ n, n = l.bot.l.length := ⟨_, rfl⟩
  have htb : tn ≤ 100000 := by rw [htn]; exact HZ.out.top
  have HTB := Lib.hid htb
  have HTN := Lib.hid htn; have HN := Lib.hid hn; have HBNN := Lib.hid hbn
  rw [← htn, ← hn, ← hbn] at HIT ⊢
  have HBE : Hid (∀ W (s : SlR It) b, HasS LI W s → s.l.length ≤ 100000 → Calls Tryz.prog 40 #[.slice s.ad s.l.length s.cap, .int .i64 b] W fun e w' => e = .returned (.bool (belowB s.l b)) ∧ Upd [] W w') := fun W s b hs hl => below_has s b W hs.row (by omega)
  clear h hz hres hno HLL htn hn hbn htb
  go_enter Tryz.func17, Tryz.ntmps17
  go_upto_region 1 with (fail)
  have hu := (Upd.refl [] w).alloc (.cells #[.int .i64 l.ts, .slice l.top.ad tn l.top.cap, .slice l.rs.ad n l.rs.cap, .slice l.bot.ad bn l.bot.cap, .int .i64 l.mv, .int .i64 l.cp] 25)
  have b0 := heap_alloc1 w (.cells #[.int .i64 l.ts, .slice l.top.ad tn l.top.cap, .slice l.rs.ad n l.rs.cap, .slice l.bot.ad bn l.bot.cap, .int .i64 l.mv, .int .i64 l.cp] 25)
  generalize w.alloc (.cells #[.int .i64 l.ts, .slice l.top.ad tn l.top.cap, .slice l.rs.ad n l.rs.cap, .slice l.bot.ad bn l.bot.cap, .int .i64 l.mv, .int .i64 l.cp] 25) = W at *
  generalize w.heap.size = P at *
  have HU := Lib.hid hu; have HB0 := Lib.hid b0
  obtain ⟨c0, c1, c2, c3, c4, c5⟩ := cells6 b0
  clear hu b0
  by_cases h1 : l.ts < 0
  · have d1 : decide (l.ts < 0) = true := decide_eq_true h1
    have HX := Lib.hid (HNO.out (fun v => by have := v.a1; simp only [LdR.ld] at this; omega))
    go_wp2_with fail
    go_ret
    exact ⟨ret_bool HX.out.symm, HU.out⟩
  have d1 : decide (l.ts < 0) = false := decide_eq_false h1
  by_cases h2 : 1152921504606846977 < l.ts
  · have d2 : decide (1152921504606846977 < l.ts) = true := decide_eq_true h2
    have HX := Lib.hid (HNO.out (fun v => by have := v.a2; simp only [LdR.ld] at this; omega))
    go_wp2_with fail
    go_ret
    exact ⟨ret_bool HX.out.symm, HU.out⟩
  have d2 : decide (1152921504606846977 < l.ts) = false := decide_eq_false h2
  by_cases h3 : 4 < n
  · have d3 : decide (4 < n) = true := decide_eq_true h3
    have d3' : decide ((4 : Int) < (n : Int)) = true := decide_eq_true (by omega)
    have HX := Lib.hid (HNO.out (fun v => by have := v.a3; simp only [LdR.ld, List.length_map] at this; have := HN.out; omega))
    go_wp2_with fail
    go_ret
    exact ⟨ret_bool HX.out.symm, HU.out⟩
  have d3 : decide (4 < n) = false := decide_eq_false h3
  have d3' : decide ((4 : Int) < (n : Int)) = false := decide_eq_false (by omega)
  by_cases h4 : l.mv < 0
  · have d4 : decide (l.mv < 0) = true := decide_eq_true h4
    have HX := Lib.hid (HNO.out (fun v => by have := v.a4; simp only [LdR.ld] at this; omega))
    go_wp2_with fail
    go_ret
    exact ⟨ret_bool HX.out.symm, HU.out⟩
  have d4 : decide (l.mv < 0) = false := decide_eq_false h4
  by_cases h5 : l.cp < 0
  · have d5 : decide (l.cp < 0) = true := decide_eq_true h5
    have HX := Lib.hid (HNO.out (fun v => by have := v.a5; simp only [LdR.ld] at this; omega))
    go_wp2_with fail
    go_ret
    exact ⟨ret_bool HX.out.symm, HU.out⟩
  have d5 : decide (l.cp < 0) = false := decide_eq_false h5
  have HA : Hid (0 ≤ l.ts ∧ l.ts ≤ 1152921504606846977 ∧ n ≤ 4 ∧ 0 ≤ l.mv ∧ 0 ≤ l.cp) := ⟨by omega, by omega, by omega, by omega, by omega⟩
  have hbt := HBE.out W l.top 1152921504606846977 (HD.out.stay HU.out).top HZ.out.top
  rw [← HTN.out] at hbt
  have HX6 : Hid (belowB l.top.l 1152921504606846977 = false → res = false) := fun e => HNO.out (fun v => by have := v.a6; simp only [LdR.ld] at this; rw [e] at this; simp at this)
  have HA6 : Hid (∀ b, belowB l.top.l 1152921504606846977 = b → b = true → belowB l.top.l 1152921504606846977 = true) := fun b e e2 => by rw [e, e2]
  generalize hv6 : belowB l.top.l 1152921504606846977 = v6 at hbt HX6
  have HBT := Lib.hid hbt
  have HV6 := Lib.hid hv6
  clear h1 h2 h3 h4 h5 hbt hv6
  cases v6 with
  | false =>
    have HX := Lib.hid (HX6.out (by first | rfl | trivial))
    go_wp2_with (go_at_call 40; (with_reducible refine HBT.out.mono ?_); rintro e w1 ⟨rfl, hu1⟩)
    go_ret
    exact ⟨ret_bool HX.out.symm, HU.out.thn hu1⟩
  | true =>
  go_upto_region 3 with (go_at_call 40; (with_reducible refine HBT.out.mono ?_); rintro e w1 ⟨rfl, hu1⟩)
  have HU1 := Lib.hid (HU.out.thn hu1); have HUB := Lib.hid hu1
  clear hu1 c0 c1 c2 c3 c4 c5 d1 d2 d3 d3' d4 d5 HBT HX6
  go_wp2_with fail
  go_loopg [3] tn (fun gk vi wr => ∃ k : Nat, vi = .int .i64 k ∧ k + gk = tn ∧ Hid (∀ i (h : i < l.top.l.length), i < k → l.ts ≤ l.top.l[i].t) ∧ Hid (Upd [] W wr))
  case atStart => exact ⟨0, rfl, by omega, fun i _ hi => by omega, HUB⟩
  case round =>
    obtain ⟨k, rfl, hkg, HK, HUR⟩ := hrel
    have htb := HTB.out
    obtain ⟨c0, c1, c2, c3, c4, c5⟩ := cells6 (HUR.out.at HB0.out (by simp))
    by_cases hlt : k < tn
    · have hltz : (k : Int) < (tn : Int) := by omega
      have hk1 : k < l.top.l.length := by have := HTN.out; omega
      obtain ⟨b, off, hbo, x0, x1, x2⟩ := (HD.out.stay (HU.out.thn HUR.out)).top.row.item k hk1
      have HBO := Lib.hid hbo
      rw [hbo] at c1
      have HKK : Hid (l.ts ≤ l.top.l[k].t → ∀ i (h : i < l.top.l.length), i < k + 1 → l.ts ≤ l.top.l[i].t) := fun h i hi hik => by
        by_cases e : i = k
        · subst e; exact h
        · exact HK.out i hi (by omega)
      have HXK : Hid (l.top.l[k].t < l.ts → res = false) := fun h => HNO.out (fun v => by have := v.b k hk1; simp only [LdR.ld] at this; omega)
      generalize l.top.l[k].t = y at *
      clear hbo c2 c3 c4 c5 x1 x2
      by_cases hy : y < l.ts
      · have dy : decide (y < l.ts) = true := decide_eq_true hy
        have HX := Lib.hid (HXK.out hy)
        go_upto_region 6 with (fail)
        go_quiet (fail)
        have hdq : Upd [] wr (wr.drewN nq) := (Upd.refl [] wr).drewN nq
        generalize wr.drewN nq = w4 at *
        go_wp2_with fail
        go_ret
        exact ⟨ret_bool HX.out.symm, HU.out.thn (HUR.out.thn hdq)⟩
      · have dy : decide (y < l.ts) = false := decide_eq_false hy
        have HKN := Lib.hid (HKK.out (by omega))
        go_upto_region 6 with (fail)
        go_quiet (fail)
        have hdq : Upd [] wr (wr.drewN nq) := (Upd.refl [] wr).drewN nq
        generalize wr.drewN nq = w4 at *
        have HU4 := Lib.hid (HUR.out.thn hdq)
        clear c0 c1 x0 hdq
        go_wp2_with fail
        go_roundg (tn - (k + 1))
        case measure => omega
        case rel => exact ⟨k + 1, by go_num, by omega, HKN, HU4⟩
    · have hltz : ¬ (k : Int) < (tn : Int) := by omega
      obtain rfl : tn = k := by omega
      have HB : Hid (∀ i (h : i < l.top.l.length), l.ts ≤ l.top.l[i].t) := fun i hi => HK.out i hi (by have := HTN.out; omega)
      clear hkg hlt htb
      go_upto_region 10 with (fail)
      clear c0 c1 c2 c3 c4 c5 hltz
      have HU2 := HUR
      have HW2 : Hid (Upd [] w wr) := HU.out.thn HUR.out
      clear HUR HK
      generalize hwr : wr = W2 at *
      clear hwr
      go_wp2_with fail
      go_loopg [4, 5, 6, 7] n (fun gk vb vi v6 v7 wr => ∃ i : Nat, vb = .int .i64 (boundR l.ts ((l.rs.l.map RgR.rg).take i)) ∧ vi = .int .i64 i ∧ i + gk = n ∧ Hid (∀ j (hj : j < l.rs.l.length), j < i → RkOk l.ts (l.rs.l.map RgR.rg) j (l.rs.l[j]).rg) ∧ Hid (Upd [] W wr))
      case atStart => exact ⟨0, by rw [HB0'.out], rfl, by omega, fun j _ hj => by omega, HU2⟩
      case round =>
        obtain ⟨i, rfl, rfl, hig, HK, HUX⟩ := hrel
        have h4 := HA.out.2.2.1
        by_cases hlt : i < n
        · have hltz : (i : Int) < (n : Int) := by omega
          have hi1 : i < l.rs.l.length := by have := HN.out; omega
          obtain ⟨c0, c1, c2, c3, c4, c5⟩ := cells6 (HUX.out.at HB0.out (by simp))
          obtain ⟨b, off, hbo, x0, x1, x2, x3⟩ := (HD.out.stay (HU.out.thn HUX.out)).rs.row.rung i hi1
          have HST := Lib.hid (HSTP.out i hi1)
          have HKK : Hid (RkOk l.ts (l.rs.l.map RgR.rg) i (l.rs.l[i]).rg → ∀ j (hj : j < l.rs.l.length), j < i + 1 → RkOk l.ts (l.rs.l.map RgR.rg) j (l.rs.l[j]).rg) := fun h j hj hji => by
            by_cases e : j = i
            · subst e; exact h
            · exact HK.out j hj (by omega)
          have HXK : Hid (¬ RkOk l.ts (l.rs.l.map RgR.rg) i (l.rs.l[i]).rg → res = false) := fun h => HNO.out (fun v => h (by have := v.c i (by simpa [LdR.ld] using hi1); simpa [LdR.ld] using this))
          have HOI : Hid (∀ r : RgR, RkOk l.ts (l.rs.l.map RgR.rg) i r.rg ↔ validR r.rg = true ∧ boundR l.ts ((l.rs.l.map RgR.rg).take i) ≤ endT r.rg ∧ ∀ j, j < r.bk.l.length → belowB (bAt r.rg.bs j) (boundR l.ts ((l.rs.l.map RgR.rg).take i)) = true) := fun r => ⟨fun h => ⟨h.good, h.ends, fun j hj => h.its j (by show j < (rowsOf r.bk.l).length; rw [rowsOf_length]; exact hj)⟩, fun h => ⟨h.1, h.2.1, fun j hj => h.2.2 j (by have h' : j < (rowsOf r.bk.l).length := hj; rw [rowsOf_length] at h'; exact h')⟩⟩
          have HRH : Hid (∀ V, Upd [] W V → HasR V l.rs.l[i]) := fun V hv => (HD.out.stay (HU.out.thn hv)).rg _ (List.getElem_mem hi1)
          have hbk := HZ.out.bk _ (List.getElem_mem hi1)
          have hits := HZ.out.its _ (List.getElem_mem hi1)
          obtain ⟨r, hr⟩ : ∃ r, r = l.rs.l[i] := ⟨_, rfl⟩
          rw [← hr] at x0 x1 x2 x3 HST HKK HXK HRH hbk hits
          have HHI := Lib.hid hits
          have HRV : Hid (∀ V, Upd [] W V → Calls Tryz.prog 41 #[encR r] V fun e w' => e = .returned (.bool (validR r.rg)) ∧ Upd [] V w') := fun V hv => RValid_has r V (HRH.out V hv) (by omega) (fun s hs => by have := HHI.out s hs; omega)
          have HEN : Hid (validR r.rg = true → ∀ V, Calls Tryz.prog 42 #[encR r] V fun e w' => e = .returned (.int .i64 (endT r.rg)) ∧ Upd [] V w') := fun hg V => REnd_has r V (validR_yes.1 hg)
          have HCU : Hid (validR r.rg = true → ∀ V, Calls Tryz.prog 29 #[encR r] V fun e w' => e = .returned (.int .i64 (curT r.rg)) ∧ Upd [] V w') := fun hg V => RCurrent_has r V (validR_yes.1 hg)
          have HOR := Lib.hid (HOI.out r)
          rw [HOR.out] at HKK HXK
          have HBAT : Hid (∀ j (hj : j < r.bk.l.length), bAt r.rg.bs j = (r.bk.l[j]).l) := fun j hj => rowsOf_at hj
          generalize boundR l.ts ((l.rs.l.map RgR.rg).take i) = bi at *
          generalize bAt r.rg.bs = bb at *
          generalize validR r.rg = vr at *
          generalize endT r.rg = et at *
          generalize hct : curT r.rg = ct at *
          obtain ⟨fr, wd, cu, ⟨bl, ba, bc⟩⟩ := r
          unfold encR at HRV HEN HCU
          simp only at x0 x1 x2 x3 hbk HRV HEN HCU HBAT HXK HKK HHI
          obtain ⟨m, hm⟩ : ∃ m, m = bl.length := ⟨_, rfl⟩
          have HM := Lib.hid hm
          rw [← hm] at x3 hbk HRV HEN HCU HXK HKK
          rw [hbo] at c2
          have HBO := Lib.hid hbo
          clear hbo hits hm hct hr HOI HOR
          go_upto_region 13 with (fail)
          have hal := (Upd.refl [] wr).alloc (.cells #[.int .i64 fr, .int .i64 wd, .int .i64 cu, .slice ba m bc] 53)
          have hqb := heap_alloc1 wr (.cells #[.int .i64 fr, .int .i64 wd, .int .i64 cu, .slice ba m bc] 53)
          generalize wr.alloc (.cells #[.int .i64 fr, .int .i64 wd, .int .i64 cu, .slice ba m bc] 53) = W5 at *
          generalize wr.heap.size = Q at *
          have HU5 := Lib.hid (HUX.out.thn hal); have HQB := Lib.hid hqb
          clear c0 c1 c2 c3 c4 c5 x0 x1 x2 x3 hal hqb
          obtain ⟨y0, y1, y2, y3⟩ := cells4 HQB.out
          have HRVK := Lib.hid (HRV.out W5 HU5.out)
          cases vr with
          | false =>
            have HX := Lib.hid (HXK.out (fun h => by simp at h))
            go_wp2_with (go_at_call 41; (with_reducible refine HRVK.out.mono ?_); rintro e w6 ⟨rfl, hu6⟩)
            go_ret
            exact ⟨ret_bool HX.out.symm, HU.out.thn (HU5.out.thn hu6)⟩
          | true =>
          have HENK := Lib.hid (HEN.out (by first | rfl | trivial)); have HCUK := Lib.hid (HCU.out (by first | rfl | trivial))
          by_cases he : et < bi
          · have de : decide (et < bi) = true := decide_eq_true he
            have HX := Lib.hid (HXK.out (fun h => by have := h.2.1; omega))
            go_wp2_with (first
              | (go_at_call 41; (with_reducible refine HRVK.out.mono ?_); rintro e w6 ⟨rfl, hu6⟩; obtain ⟨y0, y1, y2, y3⟩ := cells4 (hu6.at HQB.out (by simp)); have HU6 := Lib.hid (HU5.out.thn hu6); clear hu6)
              | (go_at_call 42; (with_reducible refine (HENK.out _).mono ?_); rintro e w7 ⟨rfl, hu7⟩))
            go_ret
            exact ⟨ret_bool HX.out.symm, HU.out.thn (HU6.out.thn hu7)⟩
          · have de : decide (et < bi) = false := decide_eq_false he
            have hen : bi ≤ et := by omega
            have HENN := Lib.hid hen
            clear he hen
            go_upto_region 15 with (first
              | (go_at_call 41; (with_reducible refine HRVK.out.mono ?_); rintro e w6 ⟨rfl, hu6⟩; obtain ⟨y0, y1, y2, y3⟩ := cells4 (hu6.at HQB.out (by simp)); have HQ6 := Lib.hid (hu6.at HQB.out (by simp)); have HU6 := Lib.hid (HU5.out.thn hu6); clear hu6)
              | (go_at_call 42; (with_reducible refine (HENK.out _).mono ?_); rintro e w7 ⟨rfl, hu7⟩; have HQ7 := Lib.hid (hu7.at HQ6.out (by simp)); have HU7 := Lib.hid (HU6.out.thn hu7); clear hu7))
            clear y0 y1 y2 y3 de
            go_wp2_with fail
            go_loopg [7] m (fun gj vj wr => ∃ j : Nat, vj = .int .i64 j ∧ j + gj = m ∧ Hid (∀ t, t < j → belowB (bb t) bi = true) ∧ Hid (Upd [] w7 wr))
            case atStart => exact ⟨0, rfl, by omega, fun t ht => by omega, Upd.refl _ _⟩
            case round =>
              obtain ⟨j, rfl, hjg, HJ, HUY⟩ := hrel
              obtain ⟨y0, y1, y2, y3⟩ := cells4 (HUY.out.at HQ7.out (by simp))
              by_cases hltj : j < m
              · have hltjz : (j : Int) < (m : Int) := by omega
                have hj1 : j < bl.length := by have := HM.out; omega
                have HRY := Lib.hid (HRH.out wr (HU7.out.thn HUY.out))
                obtain ⟨b2, o2, hb2, z0⟩ := HRY.out.bk.row.bucket j hj1
                simp only at hb2 z0
                have hbe := HBE.out wr bl[j] bi (HRY.out.its _ (List.getElem_mem hj1)) (HHI.out _ (List.getElem_mem hj1))
                have HBJ := Lib.hid (HBAT.out j hj1)
                generalize hsj : bl[j] = sj at hbe z0 HBJ
                obtain ⟨jll, ja, jc⟩ := sj
                simp only at hbe z0 HBJ
                obtain ⟨jl, hjl⟩ : ∃ jl, jl = jll.length := ⟨_, rfl⟩
                rw [← hjl] at hbe z0
                rw [← HBJ.out] at hbe
                have HBEK := Lib.hid hbe
                clear hjl hsj
                rw [hb2] at y3
                have HB2 := Lib.hid hb2
                clear hbe hb2
                cases hvj : belowB (bb j) bi with
                | false =>
                  have HX := Lib.hid (HXK.out (fun h => by have := h.2.2 j hltj; rw [hvj] at this; simp at this))
                  rw [hvj] at HBEK
                  go_wp2_with (go_at_call 40; (with_reducible refine HBEK.out.mono ?_); rintro e w8 ⟨rfl, hu8⟩)
                  go_ret
                  exact ⟨ret_bool HX.out.symm, HU.out.thn (HU7.out.thn (HUY.out.thn hu8))⟩
                | true =>
                  rw [hvj] at HBEK
                  have HJN : Hid (∀ t, t < j + 1 → belowB (bb t) bi = true) := fun t ht => by
                    by_cases e : t = j
                    · rw [e]; exact hvj
                    · exact HJ.out t (by omega)
                  go_upto_region 17 with (go_at_call 40; (with_reducible refine HBEK.out.mono ?_); rintro e w8 ⟨rfl, hu8⟩)
                  have HU8 := Lib.hid (HUY.out.thn hu8)
                  clear y0 y1 y2 y3 z0 hu8 hvj
                  go_wp2_with fail
                  go_roundg (m - (j + 1))
                  case measure => omega
                  case rel => exact ⟨j + 1, by go_num, by omega, HJN, HU8⟩
              · have hltjz : ¬ (j : Int) < (m : Int) := by omega
                obtain rfl : m = j := by omega
                have HKN := Lib.hid (HKK.out ⟨by first | rfl | trivial, HENN.out, fun t ht => HJ.out t ht⟩)
                go_upto_region 11 with (go_at_call 29; (with_reducible refine (HCUK.out _).mono ?_); rintro e w8 ⟨rfl, hu8⟩)
                have HU8 := Lib.hid (HU7.out.thn (HUY.out.thn hu8))
                clear y0 y1 y2 y3 hu8
                go_wp2_with fail
                go_roundg (n - (i + 1))
                case measure => omega
                case rel => exact ⟨i + 1, by rw [HST.out], by go_num, by omega, HKN, HU8⟩
        · have hltz : ¬ (i : Int) < (n : Int) := by omega
          obtain rfl : n = i := by omega
          have HC : Hid (∀ j (hj : j < l.rs.l.length), RkOk l.ts (l.rs.l.map RgR.rg) j (l.rs.l[j]).rg) := fun j hj => HK.out j hj (by have := HN.out; omega)
          obtain ⟨c0, c1, c2, c3, c4, c5⟩ := cells6 (HUX.out.at HB0.out (by simp))
          have HBQ : Hid (boundR l.ts ((l.rs.l.map RgR.rg).take n) = boundR l.ts (l.rs.l.map RgR.rg)) := by show _ = _; rw [HN.out]; exact HBN.out
          rw [HBQ.out]
          have hbe := HBE.out wr l.bot (boundR l.ts (l.rs.l.map RgR.rg)) (HD.out.stay (HU.out.thn HUX.out)).bot HZ.out.bot
          rw [← HBNN.out] at hbe
          have HXD : Hid (belowB l.bot.l (boundR l.ts (l.rs.l.map RgR.rg)) = false → res = false) := fun e => HNO.out (fun v => by have := v.d; simp only [LdR.ld] at this; rw [e] at this; simp at this)
          generalize hbd : boundR l.ts (l.rs.l.map RgR.rg) = bd at *
          have HBD := Lib.hid hbd
          clear hbd
          have hbn5 : bn ≤ 100000 := by have := HZ.out.bot; have := HBNN.out; omega
          have HBN5 := Lib.hid hbn5
          cases hvd : belowB l.bot.l bd with
          | false =>
            have HX := Lib.hid (HXD.out hvd)
            rw [hvd] at hbe
            have HBEK := Lib.hid hbe
            clear hvd hbe
            go_wp2_with (go_at_call 40; (with_reducible refine HBEK.out.mono ?_); rintro e w8 ⟨rfl, hu8⟩)
            go_ret
            exact ⟨ret_bool HX.out.symm, HU.out.thn (HUX.out.thn hu8)⟩
          | true =>
          rw [hvd] at hbe
          have HBEK := Lib.hid hbe
          have HDD := Lib.hid hvd
          clear hvd hbe HXD hig hlt h4
          go_upto_region 23 with (go_at_call 40; (with_reducible refine HBEK.out.mono ?_); rintro e w8 ⟨rfl, hu8⟩)
          have HU8 := Lib.hid (HUX.out.thn hu8)
          clear c0 c1 c2 c3 c4 c5 hu8 hbn5
          obtain ⟨G, hG⟩ : ∃ G, G = max bn 1 - 1 := ⟨_, rfl⟩
          have HG := Lib.hid hG
          clear hG
          go_wp2_with fail
          go_loopg [8] G (fun gk vi wr => ∃ i q : Nat, vi = .int .i64 i ∧ Hid (i = q + 1) ∧ Hid (q + gk = G) ∧ Hid (∀ t (h : t + 1 < l.bot.l.length), t < q → ltI (l.bot.l[t]'(by omega)) l.bot.l[t + 1]) ∧ Hid (Upd [] W wr))
          case atStart => exact ⟨1, 0, rfl, rfl, by show 0 + G = G; omega, fun t _ ht => by omega, HU8⟩
          case round =>
            obtain ⟨i, q, rfl, HIQ, HQG, HE, HUE⟩ := hrel
            obtain ⟨c0, c1, c2, c3, c4, c5⟩ := cells6 (HUE.out.at HB0.out (by simp))
            by_cases hlt : i < bn
            · have hltz : (i : Int) < (bn : Int) := by omega
              have hqz : (q : Int) < (bn : Int) := by have := HIQ.out; omega
              have hq0 : (0 : Int) ≤ (q : Int) := by omega
              have hi1 : q + 1 < l.bot.l.length := by have := HIQ.out; have := HBNN.out; omega
              have hw1 : IntKind.i64.wrap ((i : Int) - 1) = (q : Int) := by have := HIQ.out; have := HBN5.out; rw [IntKind.wrap_i64]; omega
              have hbw := (HD.out.stay (HU.out.thn HUE.out)).bot.row
              obtain ⟨b, off, hbo, x0, x1, x2⟩ := hbw.item q (by omega)
              obtain ⟨b', off', hbo', u0, u1, u2⟩ := hbw.item (q + 1) hi1
              rw [hbo] at hbo'
              simp only [Option.some.injEq, Addr.mk.injEq, and_true] at hbo'
              obtain ⟨rfl, rfl⟩ := hbo'
              rw [hbo] at c3
              have HEN : Hid (ltI (l.bot.l[q]'(by omega)) l.bot.l[q + 1] → ∀ t (h : t + 1 < l.bot.l.length), t < q + 1 → ltI (l.bot.l[t]'(by omega)) l.bot.l[t + 1]) := fun hl t h ht => by
                by_cases e : t = q
                · subst e; exact hl
                · exact HE.out t h (by omega)
              have HXE : Hid (¬ ltI (l.bot.l[q]'(by omega)) l.bot.l[q + 1] → res = false) := fun hl => HNO.out (fun v => hl (v.e q hi1))
              have hcm := fun V => RCompareItems_has (l.bot.l[q]'(by omega)) (l.bot.l[q + 1]) V
              have hci : cmpI (l.bot.l[q]'(by omega)) (l.bot.l[q + 1]) < 0 ↔ ltI (l.bot.l[q]'(by omega)) (l.bot.l[q + 1]) := cmpI_lt
              rw [← hci] at HEN HXE
              generalize cmpI (l.bot.l[q]'(by omega)) (l.bot.l[q + 1]) = cm at *
              generalize l.bot.l[q]'(by omega) = ya at *
              generalize l.bot.l[q + 1] = yb at *
              obtain ⟨a0, a1, a2⟩ := ya
              obtain ⟨e0, e1, e2⟩ := yb
              unfold aggI at hcm
              simp only at hcm x0 x1 x2 u0 u1 u2
              rw [← HIQ.out] at u0 u1 u2
              have HCM := Lib.hid hcm
              have HBO := Lib.hid hbo
              clear hcm hci hbw hbo c0 c1 c2 c4 c5
              have c3k := kept_at c3; have x0k := kept_at x0; have x1k := kept_at x1; have x2k := kept_at x2; have u0k := kept_at u0; have u1k := kept_at u1; have u2k := kept_at u2
              by_cases hcs : 0 ≤ cm
              · have dc : decide (0 ≤ cm) = true := decide_eq_true hcs
                have HX := Lib.hid (HXE.out (by omega))
                go_upto_region 26 with (fail)
                refine wp_region_quiet_kept mixed (by kernel_rfl) ?_
                repeat (go_big_quiet_step (first | (go_at_call 27; with_reducible exact calls_kept (HCM.out _))))
                refine wpQuiet_nil ?_
                intro W6 hw'
                obtain ⟨⟨Wx, hu⟩, hw''⟩ := hw'
                simp only at hw''
                subst hw''
                go_wp2_with fail
                go_ret
                exact ⟨ret_bool HX.out.symm, HU.out.thn (HUE.out.thn hu)⟩
              · have dc : decide (0 ≤ cm) = false := decide_eq_false hcs
                have HEN2 := Lib.hid (HEN.out (by omega))
                go_upto_region 26 with (fail)
                refine wp_region_quiet_kept mixed (by kernel_rfl) ?_
                repeat (go_big_quiet_step (first | (go_at_call 27; with_reducible exact calls_kept (HCM.out _))))
                refine wpQuiet_nil ?_
                intro W6 hw'
                obtain ⟨⟨Wx, hu⟩, hw''⟩ := hw'
                simp only at hw''
                subst hw''
                have HU9 := Lib.hid (HUE.out.thn hu)
                clear c3 x0 x1 x2 u0 u1 u2 c3k x0k x1k x2k u0k u1k u2k hu hw1
                have hwk : IntKind.i64.wrap ((i : Int) + 1) = (i : Int) + 1 := by have := HBN5.out; rw [IntKind.wrap_i64]; omega
                go_wp2_with fail
                go_roundg (gk - 1)
                case measure => have h1 := HQG.out; have h2 := HG.out; have h3 := HIQ.out; omega
                case rel => exact ⟨i + 1, q + 1, by go_num, by show i + 1 = q + 1 + 1; rw [HIQ.out], by show q + 1 + (gk - 1) = G; have h1 := HQG.out; have h2 := HG.out; have h3 := HIQ.out; omega, HEN2, HU9⟩
            · have hltz : ¬ (i : Int) < (bn : Int) := by omega
              have HEE : Hid (∀ t (h : t + 1 < l.bot.l.length), ltI (l.bot.l[t]'(by omega)) l.bot.l[t + 1]) := fun t h => HE.out t h (by have := HIQ.out; have := HBNN.out; omega)
              go_upto_region 28 with (fail)
              have HITK := Lib.hid (HIT.out wr (HD.out.stay (HU.out.thn HUE.out)))
              go_upto_region 29 with (first
                | (go_at_call 26; (with_reducible refine HITK.out.mono ?_); rintro e w2 ⟨s, rfl, hsl, hS, hu2⟩; have HSO := Lib.hid (Sort_has s w2 hS (by rw [hsl]; exact HZ.out.all)); have HSL := Lib.hid hsl; have HU2' := Lib.hid hu2; clear hsl hu2)
                | (go_at_call 25; (with_reducible refine HSO.out.mono ?_); rintro e w3 ⟨ws, rfl, hM⟩))
              have HWL : Hid (ws.l = sortI (itemsL l.ld)) := by show _ = _; rw [hM.eq, HSL.out]
              have HWS := Lib.hid hM.has
              have HU3 := Lib.hid (HUE.out.thn (HU2'.out.thn hM.upd))
              obtain ⟨sn, hsn⟩ : ∃ n, n = ws.l.length := ⟨_, rfl⟩
              have hs5 : sn ≤ 100000 := by rw [hsn, HWL.out, sortI_length]; exact HZ.out.all
              have HSN := Lib.hid hsn; have HS5 := Lib.hid hs5
              rw [← hsn]
              obtain ⟨G2, hG⟩ : ∃ G, G = max sn 1 - 1 := ⟨_, rfl⟩
              have HG2 := Lib.hid hG
              clear hG hsn hs5 hM hS HSL HU2' HITK HSO c0 c1 c2 c3 c4 c5 hlt hltz
              go_wp2_with fail
              go_loopg [10] G2 (fun gk vi wr => ∃ i q : Nat, vi = .int .i64 i ∧ Hid (i = q + 1) ∧ Hid (q + gk = G2) ∧ Hid (∀ t (h : t + 1 < ws.l.length), t < q → ¬ eqK (ws.l[t]'(by omega)) ws.l[t + 1]) ∧ Hid (Upd [] w3 wr))
              case atStart => exact ⟨1, 0, rfl, rfl, by show 0 + G2 = G2; omega, fun t _ ht => by omega, Upd.refl _ _⟩
              case round =>
                obtain ⟨i5, q5, rfl, HIQ5, HQG5, HF, HUF⟩ := hrel
                by_cases hlt5 : i5 < sn
                · have hltz : (i5 : Int) < (sn : Int) := by omega
                  have hqz : (q5 : Int) < (sn : Int) := by have := HIQ5.out; omega
                  have hq0 : (0 : Int) ≤ (q5 : Int) := by omega
                  have hi1 : q5 + 1 < ws.l.length := by have := HIQ5.out; have := HSN.out; omega
                  have hw1 : IntKind.i64.wrap ((i5 : Int) - 1) = (q5 : Int) := by have := HIQ5.out; have := HS5.out; rw [IntKind.wrap_i64]; omega
                  have hbw := (HWS.out.stay HUF.out).row
                  obtain ⟨b, off, hbo, x0, x1, x2⟩ := hbw.item q5 (by omega)
                  obtain ⟨b', off', hbo', u0, u1, u2⟩ := hbw.item (q5 + 1) hi1
                  rw [hbo] at hbo'
                  simp only [Option.some.injEq, Addr.mk.injEq, and_true] at hbo'
                  obtain ⟨rfl, rfl⟩ := hbo'
                  have HFN : Hid (¬ eqK (ws.l[q5]'(by omega)) ws.l[q5 + 1] → ∀ t (h : t + 1 < ws.l.length), t < q5 + 1 → ¬ eqK (ws.l[t]'(by omega)) ws.l[t + 1]) := fun hl t h ht => by
                    by_cases e : t = q5
                    · subst e; exact hl
                    · exact HF.out t h (by omega)
                  have HXF : Hid (eqK (ws.l[q5]'(by omega)) ws.l[q5 + 1] → res = false) := fun hl => HNO.out (fun v => by
                    have hf := v.f q5 (by rw [← HWL.out]; exact hi1)
                    simp only [← HWL.out] at hf
                    exact hf hl)
                  have hcm := fun V => RCompareItems_has (ws.l[q5]'(by omega)) (ws.l[q5 + 1]) V
                  have hci : cmpI (ws.l[q5]'(by omega)) (ws.l[q5 + 1]) = 0 ↔ eqK (ws.l[q5]'(by omega)) (ws.l[q5 + 1]) := cmpI_zero
                  rw [← hci] at HFN HXF
                  generalize cmpI (ws.l[q5]'(by omega)) (ws.l[q5 + 1]) = cm at *
                  generalize ws.l[q5]'(by omega) = ya at *
                  generalize ws.l[q5 + 1] = yb at *
                  obtain ⟨a0, a1, a2⟩ := ya
                  obtain ⟨e0, e1, e2⟩ := yb
                  unfold aggI at hcm
                  simp only at hcm x0 x1 x2 u0 u1 u2
                  rw [← HIQ5.out] at u0 u1 u2
                  have HCM := Lib.hid hcm
                  have HBO := Lib.hid hbo
                  clear hcm hci hbw hbo
                  rw [HBO.out]
                  have x0k := kept_at x0; have x1k := kept_at x1; have x2k := kept_at x2; have u0k := kept_at u0; have u1k := kept_at u1; have u2k := kept_at u2
                  by_cases hcs : cm = 0
                  · have dc : (cm == 0) = true := by simpa using hcs
                    have HX := Lib.hid (HXF.out hcs)
                    clear hcs
                    go_upto_region 32 with (fail)
                    refine wp_region_quiet_kept mixed (by kernel_rfl) ?_
                    repeat (go_big_quiet_step (first | (go_at_call 27; with_reducible exact calls_kept (HCM.out _))))
                    refine wpQuiet_nil ?_
                    intro W6 hw'
                    obtain ⟨⟨Wx, hu⟩, hw''⟩ := hw'
                    simp only at hw''
                    subst hw''
                    go_wp2_with fail
                    go_ret
                    exact ⟨ret_bool HX.out.symm, HU.out.thn (HU3.out.thn (HUF.out.thn hu))⟩
                  · have dc : (cm == 0) = false := by simpa using hcs
                    have HFN2 := Lib.hid (HFN.out hcs)
                    go_upto_region 32 with (fail)
                    refine wp_region_quiet_kept mixed (by kernel_rfl) ?_
                    repeat (go_big_quiet_step (first | (go_at_call 27; with_reducible exact calls_kept (HCM.out _))))
                    refine wpQuiet_nil ?_
                    intro W6 hw'
                    obtain ⟨⟨Wx, hu⟩, hw''⟩ := hw'
                    simp only at hw''
                    subst hw''
                    have HU9 := Lib.hid (HUF.out.thn hu)
                    clear x0 x1 x2 u0 u1 u2 x0k x1k x2k u0k u1k u2k hu hw1
                    have hwk : IntKind.i64.wrap ((i5 : Int) + 1) = (i5 : Int) + 1 := by have := HS5.out; rw [IntKind.wrap_i64]; omega
                    rw [← HBO.out]
                    go_wp2_with fail
                    go_roundg (gk - 1)
                    case measure => have h1 := HQG5.out; have h2 := HG2.out; have h3 := HIQ5.out; omega
                    case rel => exact ⟨i5 + 1, q5 + 1, by go_num, by show i5 + 1 = q5 + 1 + 1; rw [HIQ5.out], by show q5 + 1 + (gk - 1) = G2; have h1 := HQG5.out; have h2 := HG2.out; have h3 := HIQ5.out; omega, HFN2, HU9⟩
                · have hltz : ¬ (i5 : Int) < (sn : Int) := by omega
                  have HX : Hid (res = true) := HYES.out (by
                    have ha := HA.out
                    refine ⟨ha.1, ha.2.1, ?_, ha.2.2.2.1, ha.2.2.2.2, ?_, HB.out, fun k hk => ?_, ?_, HEE.out, fun t h => ?_⟩
                    · have := HN.out; simp only [LdR.ld, List.length_map]; omega
                    · simp only [LdR.ld]; exact HV6.out
                    · have := HC.out k (by simpa [LdR.ld] using hk); simpa [LdR.ld] using this
                    · simp only [LdR.ld]; rw [HBD.out]; exact HDD.out
                    · have hf := HF.out t (by rw [HWL.out]; exact h) (by rw [← HWL.out] at h; have := HIQ5.out; have := HSN.out; omega)
                      simp only [HWL.out] at hf
                      exact hf)
                  go_wp2_with fail
                  go_ret
                  exact ⟨ret_bool HX.out.symm, HU.out.thn (HU3.out.thn HUF.out)⟩
end Go.Proofs.YtneodiemgemhfaaGreat
