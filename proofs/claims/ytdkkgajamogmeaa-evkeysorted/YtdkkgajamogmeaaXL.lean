/- Contract: the reference's SortEvents, walked. -/
import Derived.Test.YtdkkgajamogmeaaXK
namespace Go.Proofs.Ytdkkgajamogmeaa
open Go.Shelf Go.RowKit Go.Sort Go.Lib

structure RInv (w : World) (rs : List EvR) (i : Nat) (v : Value) (cs : List EvR) (wr : World) : Prop where
  ins : Ins rs i cs
  row : wr.ownsRow w.heap.size 30 6 v i (flatE cs)
  upd : Upd [] w wr
  nil : i = 0 → v = .slice none 0 0
theorem flat_one (r : EvR) : flatE [r] = encR r := by simp [flatE]
theorem one_cells {w : World} {b : Nat} {r : EvR} {t : TypeId} {f : Nat × Nat} (h : w.heap[b]? = some (.cells (encR r).toArray t f)) : ∀ t u, (flatE [r])[t]? = some u → w.cell? ((⟨b, 0, none⟩ : Addr).add t) = some u := by
  intro t u hu
  rw [flat_one] at hu
  rw [Addr.add_lit, Nat.zero_add, cell_block h, List.getElem?_toArray]; exact hu

set_option maxHeartbeats 8000000 in
set_option maxRecDepth 100000 in
theorem RSortEvents_any (a : Option Addr) (ca : Nat) (rs : List EvR) (w : World) (ha : Evs w a rs) (hx : rs.length ≤ 100000) (hkx : ∀ r ∈ rs, r.ev.key.length ≤ 1000000) :
    Calls Try.prog 22 #[.slice a rs.length ca] w (GivesSorted rs w) := by
  have mixed : Try.prog.follows .mixedOrders = true := by kernel_rfl
  have HA := Lib.hid ha; have HKX := Lib.hid hkx
  clear ha hkx
  obtain ⟨n, hn⟩ : ∃ n, n = rs.length := ⟨_, rfl⟩
  rw [← hn]
  rw [← hn] at hx
  have HN := Lib.hid hn
  clear hn
  go_enter Try.func22, Try.ntmps22
  go_wp2_with fail
  go_loopg [3, 4] n (fun gk v vi wr => ∃ (i : Nat) (cs : List EvR), vi = .int .i64 i ∧ i + gk = n ∧ Hid (RInv w rs i v cs wr))
  case atStart => exact ⟨0, [], rfl, by omega, ⟨ins_start rs, World.ownsRow_nil _ _ _ _, Upd.refl _ _, fun _ => rfl⟩⟩
  case round =>
    obtain ⟨i, cs, rfl, hig, HI⟩ := hrel
    by_cases hlt : i < n
    · have hltz : (i : Int) < (n : Int) := by omega
      have hi : i < rs.length := by rw [← HN.out]; exact hlt
      by_cases hi0 : i = 0
      · subst hi0
        obtain rfl := HI.out.nil rfl
        have hcs : cs = [] := List.eq_nil_of_length_eq_zero HI.out.ins.len
        subst hcs
        have HST : Hid (Ins rs (0 + 1) ([].take 0 ++ [rs[0]] ++ [].drop 0)) := HI.out.ins.step hi 0 (Nat.le_refl _) (.inl rfl) (fun j hj => by simp at hj)
        have HUC := Lib.hid HI.out.upd
        clear HI
        go_wp2_with fail
        refine wp_loop_rounds 1 ?_
        rw [rounds_succ]
        go_wp2_with fail
        go_big_region_o
        have HUD : Hid (Upd [] w wr.drew) := HUC.out.drew
        generalize wr.drew = wc at HUD ⊢
        go_upto_region 10 with (at_builtin; refine app_none rfl _ _ rfl wc.heap.size (.slice none 0 0) 0 [] rfl (World.ownsRow_nil _ _ _ _) rfl ?_)
        have HA3 : Hid (Evs wc a rs) := HA.out.stay HUD.out
        obtain ⟨_, b2, o2, rfl, e0, e1, e2, e3, e4, e5⟩ := HA3.out 0 hi
        obtain ⟨r, hr⟩ : ∃ r, r = rs[0] := ⟨_, rfl⟩
        rw [← hr] at e0 e1 e2 e3 e4 e5
        have HRR := Lib.hid hr
        simp only [Nat.zero_mul, Nat.add_zero] at e0 e1 e2 e3 e4 e5
        clear hr
        have HCC : Hid (∀ t u, (flatE [r])[t]? = some u → (wc.alloc (.cells #[.int .i64 r.ev.time, .slice r.ka r.ev.key.length r.kc, .int .i64 r.ev.lp, .int .i64 r.ev.kind, .int .i64 r.ev.proc, .int .i64 r.ev.arg] 30)).cell? ((⟨wc.heap.size, 0, none⟩ : Addr).add t) = some u) := one_cells (heap_alloc1 wc _)
        go_upto_region 11 with (at_builtin; refine app_evs rfl _ _ rfl wc.heap.size (.slice none 0 0) 0 [] rfl (World.ownsRow_nil _ _ _ _) ⟨wc.heap.size, 0, none⟩ 1 1 [r] rfl rfl HCC.out (by omega) (by simp) ?_; intro v2 w4 hown2 hgrow2; have HO2 := Lib.hid hown2; have HG2 := Lib.hid hgrow2; clear hown2 hgrow2)
        have HU4 : Hid (Upd [] wc w4) := ((Upd.refl [] wc).alloc _).grown HG2.out (fun x hx hl => by simp [Value.ownBlock] at hx)
        clear e0 e1 e2 e3 e4 e5
        go_upto_region 12 with (at_builtin; refine app_none rfl _ _ rfl wc.heap.size v2 (0 + 1) ([] ++ [r]) rfl HO2.out rfl ?_)
        have HFIN : Hid (RInv w rs (0 + 1) v2 ([].take 0 ++ [rs[0]] ++ [].drop 0) w4) := by
          have h := HO2.out
          rw [HRR.out] at h
          exact ⟨HST.out, row_mono h HUD.out.size, HUD.out.trans HU4.out (by simp), fun h => by omega⟩
        go_wp2_with fail
        go_roundg (n - (0 + 1))
        case measure => omega
        case rel => exact ⟨0 + 1, _, by go_num, by omega, HFIN⟩
      · have hcl := HI.out.ins.len
        have hne : cs ≠ [] := by intro h; subst h; simp at hcl; omega
        have hrow := HI.out.row
        rw [← hcl] at hrow
        obtain ⟨g, cap, rfl, hg, hheld⟩ := held_row hrow hne
        rw [hcl]
        have HHELD := Lib.hid hheld; have HG := Lib.hid hg; have HCL := Lib.hid hcl
        have hicap : i ≤ cap := by have := hheld.le; omega
        clear hrow hne hheld hg hcl
        go_wp2_with fail
        go_loopg [5] i (fun gk2 vk wr2 => ∃ k : Nat, vk = .int .i64 k ∧ k ≤ i ∧ k ≤ gk2 ∧ Hid (∀ j (hj : j < cs.length), k ≤ j → 0 < cmpE cs[j].ev rs[i].ev) ∧ Hid (Held wr2 g cap cs) ∧ Hid (Upd [] w wr2))
        case atStart => exact ⟨i, rfl, Nat.le_refl _, Nat.le_refl _, fun j hj h => (show False by have := HCL.out; omega).elim, HHELD, HI.out.upd⟩
        case round =>
          have HIN := Lib.hid HI.out.ins
          clear HI HHELD
          obtain ⟨k, rfl, hki, hkg, HGT, HHW, HU⟩ := hrel
          go_upto_region 6 with (fail)
          go_cut [29] from 15 to 28 (fun v wx => ∃ b : Bool, v = .bool b ∧ Hid (if b = true then 0 < k ∧ ∃ h : k - 1 < cs.length, 0 < cmpE cs[k - 1].ev rs[i].ev else k = 0 ∨ ∃ h : k - 1 < cs.length, cmpE cs[k - 1].ev rs[i].ev ≤ 0) ∧ Hid (Held wx g cap cs) ∧ Hid (Upd [] w wx))
          case first =>
            by_cases hk0 : 0 < k
            · obtain ⟨q, rfl⟩ : ∃ q, k = q + 1 := ⟨k - 1, by omega⟩
              have hq : q < cs.length := by have := HCL.out; omega
              have hkz : (0 : Int) < (q : Int) + 1 := by omega
              have hwp : IntKind.i64.wrap (q : Int) = (q : Int) := by rw [IntKind.wrap_i64]; omega
              have hqz : (q : Int) < (i : Int) := by omega
              have HEC : Hid (Evs wr (some ⟨g, 0, none⟩) cs) := evs_cells (fun t u hu => by rw [Nat.zero_add]; exact (HHW.out.cell t u hu).1) (fun r hr => by
                obtain ⟨j, hj, rfl⟩ := List.getElem_of_mem (HIN.out.mem r hr)
                exact (HA.out j hj).1.stay HU.out)
              have HAW : Hid (Evs wr a rs) := HA.out.stay HU.out
              obtain ⟨b1, o1, he1, _, hc⟩ := HEC.out.at q hq
              obtain ⟨rfl, rfl⟩ : g = b1 ∧ 0 = o1 := by simpa using he1
              obtain ⟨b2, o2, rfl, _, hd⟩ := HAW.out.at i hi
              simp only [Nat.zero_add] at hc
              have hcall := fun n os => RCompareEvents_any cs[q] rs[i] (grow (wr.drewN n) os) ((HEC.out q hq).1.stay (Grown.upd ⟨n, os, rfl⟩)) ((HAW.out i hi).1.stay (Grown.upd ⟨n, os, rfl⟩)) (HKX.out _ (HIN.out.mem _ (List.getElem_mem hq))) (HKX.out _ (List.getElem_mem hi))
              obtain ⟨z, hz⟩ : ∃ z, z = cmpE cs[q].ev rs[i].ev := ⟨_, rfl⟩
              rw [← hz] at hcall
              have HZ := Lib.hid hz
              clear hz he1
              simp only [encR] at hcall
              generalize cs[q].ev.time = t1 at hc hcall
              generalize cs[q].ev.key.length = n1 at hc hcall
              generalize cs[q].ev.lp = l1 at hc hcall
              generalize cs[q].ev.kind = d1 at hc hcall
              generalize cs[q].ev.proc = p1 at hc hcall
              generalize cs[q].ev.arg = g1 at hc hcall
              generalize rs[i].ev.time = t2 at hd hcall
              generalize rs[i].ev.key.length = n2 at hd hcall
              generalize rs[i].ev.lp = l2 at hd hcall
              generalize rs[i].ev.kind = d2 at hd hcall
              generalize rs[i].ev.proc = p2 at hd hcall
              generalize rs[i].ev.arg = g2 at hd hcall
              generalize cs[q].ka = a1 at hc hcall
              generalize cs[q].kc = c1 at hc hcall
              generalize rs[i].ka = a2 at hd hcall
              generalize rs[i].kc = c2 at hd hcall
              have HCALL := Lib.hid hcall
              clear hcall
              by_cases hlv : 0 < z
              · have hdz : decide (0 < z) = true := decide_eq_true hlv
                go_wp2_with fail
                go_quiet_grown (first | (go_at_call 12; exact Calls.grown_of (HCALL.out _ _)))
                have HGG : Hid (Grown wr (grow (wr.drewN nq) osq)) := ⟨nq, osq, rfl⟩
                clear hc hd
                generalize grow (wr.drewN nq) osq = w2 at HGG ⊢
                go_wp2_with fail
                go_meet
                case rel => exact ⟨true, rfl, (show Hid _ from ⟨by omega, hq, by simp only [Nat.add_sub_cancel]; rw [← HZ.out]; exact hlv⟩), HHW.out.keep HGG.out.upd (by simp), HU.out.trans HGG.out.upd (by simp)⟩
              · have hdz : decide (0 < z) = false := decide_eq_false hlv
                go_wp2_with fail
                go_quiet_grown (first | (go_at_call 12; exact Calls.grown_of (HCALL.out _ _)))
                have HGG : Hid (Grown wr (grow (wr.drewN nq) osq)) := ⟨nq, osq, rfl⟩
                clear hc hd
                generalize grow (wr.drewN nq) osq = w2 at HGG ⊢
                go_wp2_with fail
                go_meet
                case rel => exact ⟨false, rfl, (show Hid _ from .inr ⟨hq, by simp only [Nat.add_sub_cancel]; rw [← HZ.out]; omega⟩), HHW.out.keep HGG.out.upd (by simp), HU.out.trans HGG.out.upd (by simp)⟩
            · obtain rfl : k = 0 := by omega
              go_wp2_with fail
              go_big_region_o
              all_goals go_wp2_with fail
              go_meet
              case rel => exact ⟨false, rfl, (show Hid _ from .inl (by first | rfl | trivial)), HHW.out.keep (Upd.refl [] wr).drew (by simp), HU.out.drew⟩
          case rest =>
            obtain ⟨b, rfl, HB, HHC, HUC⟩ := hcut
            clear HHW HU
            cases b with
            | true =>
              obtain ⟨hk0, hk1, hk2⟩ := HB.out
              have ek : IntKind.i64.wrap ((k : Int) - 1) = ((k - 1 : Nat) : Int) := by rw [IntKind.wrap_i64]; omega
              go_wp2_with fail
              go_roundg (gk - 1)
              case measure => omega
              case rel => exact ⟨k - 1, by first | rfl | go_num | (congr 1; omega), by omega, by omega, fun j hj h => by
                by_cases e : j = k - 1
                · subst e; exact hk2
                · exact HGT.out j hj (by omega), HHC, HUC⟩
            | false =>
              have HST : Hid (Ins rs (i + 1) (cs.take k ++ [rs[i]] ++ cs.drop k)) := HIN.out.step hi k hki HB.out HGT.out
              have hcl := HCL.out
              have HL1 : Hid ((cs.take k).length = k) := by show _ = _; rw [List.length_take]; omega
              have HL2 : Hid ((cs.drop k).length = i - k) := by show _ = _; rw [List.length_drop]; omega
              have HC1 : Hid (∀ t u, (flatE (cs.take k))[t]? = some u → wc.cell? ((⟨g, 0, none⟩ : Addr).add t) = some u) := fun t u hu => by
                rw [Addr.add_lit, Nat.zero_add]; exact (HHC.out.cell t u (flatE_take cs k t u hu)).1
              have HC2 : Hid (∀ t u, (flatE (cs.drop k))[t]? = some u → wc.cell? ((⟨g, k * 6, none⟩ : Addr).add t) = some u) := fun t u hu => by
                rw [Addr.add_lit]; exact (HHC.out.cell (k * 6 + t) u (flatE_drop cs k (by omega) t u hu)).1
              clear hcl
              have hkc : (k : Int) ≤ (cap : Int) := by omega
              have hki2 : (k : Int) ≤ (i : Int) := by omega
              have hk00 : (0 : Int) ≤ (k : Int) := by omega
              go_upto_region 10 with (at_builtin; refine app_evs rfl _ _ rfl wc.heap.size (.slice none 0 0) 0 [] rfl (World.ownsRow_nil _ _ _ _) ⟨g, 0, none⟩ k cap (cs.take k) rfl HL1.out HC1.out (by omega) (Nat.le_refl _) ?_; intro v1 w3 hown1 hgrow1; have HO1 := Lib.hid hown1; have HG1 := Lib.hid hgrow1; clear hown1 hgrow1)
              have HU3 : Hid (Upd [] wc w3) := (Upd.refl [] wc).grown HG1.out (fun x hx => by simp [Value.ownBlock] at hx)
              have HA3 : Hid (Evs w3 a rs) := HA.out.stay (HUC.out.trans HU3.out (by simp))
              obtain ⟨_, b2, o2, rfl, e0, e1, e2, e3, e4, e5⟩ := HA3.out i hi
              have hsz3 := HU3.out.size
              have HOA : Hid (∀ O : Obj, (w3.alloc O).ownsRow wc.heap.size 30 6 v1 k (flatE (cs.take k))) := fun O => by
                have := HO1.out
                rw [Nat.zero_add, List.nil_append] at this
                exact this.alloc _
              obtain ⟨r, hr⟩ : ∃ r, r = rs[i] := ⟨_, rfl⟩
              rw [← hr] at e0 e1 e2 e3 e4 e5
              have HRR := Lib.hid hr
              clear hr
              have HCC : Hid (∀ t u, (flatE [r])[t]? = some u → (w3.alloc (.cells #[.int .i64 r.ev.time, .slice r.ka r.ev.key.length r.kc, .int .i64 r.ev.lp, .int .i64 r.ev.kind, .int .i64 r.ev.proc, .int .i64 r.ev.arg] 30)).cell? ((⟨w3.heap.size, 0, none⟩ : Addr).add t) = some u) := one_cells (heap_alloc1 w3 _)
              go_upto_region 11 with (at_builtin; refine app_evs rfl _ _ rfl wc.heap.size v1 k (cs.take k) rfl (HOA.out _) ⟨w3.heap.size, 0, none⟩ 1 1 [r] rfl rfl HCC.out (by omega) (by simp; omega) ?_; intro v2 w4 hown2 hgrow2; have HO2 := Lib.hid hown2; have HG2 := Lib.hid hgrow2; clear hown2 hgrow2)
              have HU4 : Hid (Upd [] wc w4) := ((HU3.out).alloc _).grown HG2.out (fun x hx hl => by have := (HO1.out.lt x hx).1; omega)
              have hsz4 := HU4.out.size
              have HC4 : Hid (∀ t u, (flatE (cs.drop k))[t]? = some u → w4.cell? ((⟨g, k * 6, none⟩ : Addr).add t) = some u) := fun t u hu => HU4.out.cell (HC2.out t u hu) (by simp)
              clear e0 e1 e2 e3 e4 e5
              have ik : ((i : Int) - (k : Int)).toNat = i - k := by omega
              have ck : ((cap : Int) - (k : Int)).toNat = cap - k := by omega
              have hic : (i : Int) ≤ (cap : Int) := by omega
              by_cases hkcap : k < cap
              · have hkcz : (k : Int) < (cap : Int) := by omega
                have hkne : ¬ cap = k := by omega
                have hkne2 : (cap - k = 0) = False := by simp; omega
                go_upto_region 12 with (at_builtin; refine app_evs rfl _ _ rfl wc.heap.size v2 (k + 1) (cs.take k ++ [r]) rfl HO2.out ⟨g, k * 6, none⟩ (i - k) (cap - k) (cs.drop k) (by first | rfl | simp) HL2.out HC4.out (by omega) (by omega) ?_; intro v3 w5 hown3 hgrow3; have HO3 := Lib.hid hown3; have HG3 := Lib.hid hgrow3; clear hown3 hgrow3)
                have HU5 : Hid (Upd [] wc w5) := HU4.out.grown HG3.out (fun x hx hl => by have := (HO2.out.lt x hx).1; omega)
                have HFIN : Hid (RInv w rs (i + 1) v3 (cs.take k ++ [rs[i]] ++ cs.drop k) w5) := by
                  have h := HO3.out
                  rw [show k + 1 + (i - k) = i + 1 by omega, HRR.out] at h
                  exact ⟨HST.out, row_mono h HUC.out.size, HUC.out.trans HU5.out (by simp), fun h => by omega⟩
                go_wp2_with fail
                go_roundg (n - (i + 1))
                case measure => omega
                case rel => exact ⟨i + 1, _, by go_num, by omega, HFIN⟩
              · have HC5 : Hid (∀ t u, (flatE (cs.drop k))[t]? = some u → w4.cell? ((⟨g, 0, none⟩ : Addr).add t) = some u) := fun t u hu => by
                  rw [List.drop_eq_nil_of_le (by have := HCL.out; omega)] at hu
                  simp [flatE] at hu
                have hke : cap = k := by omega
                go_upto_region 12 with (at_builtin; refine app_evs rfl _ _ rfl wc.heap.size v2 (k + 1) (cs.take k ++ [r]) rfl HO2.out ⟨g, 0, none⟩ (i - k) _ (cs.drop k) (by first | rfl | simp) HL2.out HC5.out (by omega) (by omega) ?_; intro v3 w5 hown3 hgrow3; have HO3 := Lib.hid hown3; have HG3 := Lib.hid hgrow3; clear hown3 hgrow3)
                have HU5 : Hid (Upd [] wc w5) := HU4.out.grown HG3.out (fun x hx hl => by have := (HO2.out.lt x hx).1; omega)
                have HFIN : Hid (RInv w rs (i + 1) v3 (cs.take k ++ [rs[i]] ++ cs.drop k) w5) := by
                  have h := HO3.out
                  rw [show k + 1 + (i - k) = i + 1 by omega, HRR.out] at h
                  exact ⟨HST.out, row_mono h HUC.out.size, HUC.out.trans HU5.out (by simp), fun h => by omega⟩
                go_wp2_with fail
                go_roundg (n - (i + 1))
                case measure => omega
                case rel => exact ⟨i + 1, _, by go_num, by omega, HFIN⟩
    · obtain rfl : i = n := by omega
      have hltz : ¬ (i : Int) < (i : Int) := by omega
      have HRES : Hid (GivesSorted rs w (.returned u3) wr) := by
        have h1 := HI.out.ins
        have h2 := HI.out.row
        have hcl := h1.len
        rw [HN.out] at h1
        have hk : ∀ r ∈ cs, Ints wr r.ka r.ev.key := fun r hr => by
          obtain ⟨j, hj, rfl⟩ := List.getElem_of_mem (h1.mem r hr)
          exact (HA.out j hj).1.stay HI.out.upd
        rw [← hcl] at h2
        by_cases hne : cs = []
        · subst hne
          rcases h2.2 with ⟨rfl, _⟩ | ⟨g, cap, cur, rfl, _⟩
          · exact ⟨none, 0, [], rfl, evs_nil _ _, h1.done, HI.out.upd⟩
          · exact ⟨_, cap, [], rfl, evs_nil _ _, h1.done, HI.out.upd⟩
        · obtain ⟨g, cap, rfl, hg, hheld⟩ := held_row h2 hne
          exact ⟨_, cap, cs, rfl, evs_cells (fun t u hu => by rw [Nat.zero_add]; exact (hheld.cell t u hu).1) hk, h1.done, HI.out.upd⟩
      go_wp2_with fail
      go_ret
      exact HRES.out
end Go.Proofs.Ytdkkgajamogmeaa
