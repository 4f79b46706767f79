/- EvkeyMatchesReference, walked. -/
import Derived.Test.YtdkkgajamogmeaaXP
namespace Go.Proofs.Ytdkkgajamogmeaa
open Go.Shelf Go.RowKit Go.Sort Go.Lib

set_option maxHeartbeats 40000000 in
set_option maxRecDepth 1000000 in
theorem EvkeyMatches_any (t1 s1 q1 t2 s2 q2 : Int) (k m : Option Addr) (ck cm : Nat) (ks ms : List Int) (idx : Int) (a : Option Addr) (ca : Nat) (rs : List EvR) (w : World) (hk : Ints w k ks) (hkn : k = none → ck = 0) (hm : Ints w m ms) (ha : Evs w a rs) (hx : rs.length ≤ maxLen) :
    Calls Try.prog 3 #[.agg #[.int .i64 t1, .int .i64 s1, .int .i64 q1], .agg #[.int .i64 t2, .int .i64 s2, .int .i64 q2], .slice k ks.length ck, .slice m ms.length cm, .int .i64 idx, .slice a rs.length ca] w fun e w' => e = .returned (.bool true) ∧ Upd [] w w' := by
  have mixed : Try.prog.follows .mixedOrders = true := by kernel_rfl
  obtain ⟨n, hn⟩ : ∃ n, n = rs.length := ⟨_, rfl⟩
  obtain ⟨nk, hnk⟩ : ∃ n, n = ks.length := ⟨_, rfl⟩
  obtain ⟨nm, hnm⟩ : ∃ n, n = ms.length := ⟨_, rfl⟩
  have hgr := fun W (hu : Upd [] w W) => Great_any a ca rs W (ha.stay hu) hx
  obtain ⟨gb, egb⟩ : ∃ g, g = greatB rs := ⟨_, rfl⟩
  rw [← egb] at hgr
  have hsm : gb = false → n ≤ 100 ∧ ∀ r ∈ rs, r.ev.key.length ≤ 1000000 := fun h => by
    have := greatB_false (egb ▸ h)
    exact ⟨by omega, fun r hr => by have := this.2 r hr; omega⟩
  rw [← hn] at hgr
  rw [← hn, ← hnk, ← hnm]
  have HGR := Lib.hid hgr; have HSM := Lib.hid hsm; have HA := Lib.hid ha; have HN := Lib.hid hn; have HNK := Lib.hid hnk; have HNM := Lib.hid hnm; have HK := Lib.hid hk; have HM := Lib.hid hm; have HKN := Lib.hid hkn
  clear hgr hsm ha hx hn egb hnk hnm hk hm hkn
  by_cases c1 : 100 < nk
  · have k1 : (100 : Int) < (nk : Int) := by omega
    go_enter Try.func3, Try.ntmps3
    go_wp2_with fail
    refine (head_any _).mono ?_
    rintro e w1 ⟨rfl, hu⟩
    go_wp2_with fail
    go_ret
    exact ⟨rfl, (((Upd.refl [] w).alloc _).alloc _).trans hu (by simp)⟩
  · have k1 : ¬ (100 : Int) < (nk : Int) := by omega
    by_cases c2 : 100 < nm
    · have k2 : (100 : Int) < (nm : Int) := by omega
      go_enter Try.func3, Try.ntmps3
      go_wp2_with fail
      refine (head_any _).mono ?_
      rintro e w1 ⟨rfl, hu⟩
      go_wp2_with fail
      go_ret
      exact ⟨rfl, (((Upd.refl [] w).alloc _).alloc _).trans hu (by simp)⟩
    · have k2 : ¬ (100 : Int) < (nm : Int) := by omega
      go_enter Try.func3, Try.ntmps3
      go_wp2_with fail
      refine (head_any _).mono ?_
      rintro e w1 ⟨rfl, hu⟩
      have HB0 : Hid (w1.heap[w.heap.size]? = some (.cells #[.int .i64 t1, .int .i64 s1, .int .i64 q1] 23 (0, 0))) := hu.at (((Upd.refl [] _).alloc _).at (heap_alloc1 w _) (by simp)) (by simp)
      have HB1 : Hid (w1.heap[w.heap.size + 1]? = some (.cells #[.int .i64 t2, .int .i64 s2, .int .i64 q2] 23 (0, 0))) := hu.at (heap_alloc2 w _ _) (by simp)
      have HU1 : Hid (Upd [] w w1) := (((Upd.refl [] w).alloc _).alloc _).trans hu (by simp)
      clear hu
      go_wp2_with fail
      refine (HGR.out _ HU1.out).mono ?_
      rintro e w1' ⟨rfl, rfl⟩
      cases gb with
      | true =>
        go_wp2_with fail
        go_ret
        exact ⟨rfl, HU1.out⟩
      | false =>
        obtain ⟨hn100, hks⟩ := HSM.out rfl
        have HKS := Lib.hid hks
        clear hks
        go_wp2_with fail
        go_loopg [14] n (fun gk vi wr => ∃ i : Nat, vi = .int .i64 ((i : Int) + 1) ∧ n - (i + 1) ≤ gk ∧ (i + 1 ≤ n ∨ i = 0) ∧ Hid (Upd [] w1 wr))
        case atStart => exact ⟨0, by first | rfl | go_num, by omega, .inr rfl, Upd.refl _ _⟩
        case round =>
          obtain ⟨i, rfl, hig, hin, HU⟩ := hrel
          by_cases hlt : i + 1 < n
          · have hltz : (i : Int) + 1 < (n : Int) := by omega
            have hq : i < rs.length := by rw [← HN.out]; omega
            have hq1 : i + 1 < rs.length := by rw [← HN.out]; omega
            have hwp : IntKind.i64.wrap (i : Int) = (i : Int) := by rw [IntKind.wrap_i64]; omega
            have hwp2 : IntKind.i64.wrap ((i : Int) + 1 + 1) = (i : Int) + 1 + 1 := by rw [IntKind.wrap_i64]; omega
            have hqz : (i : Int) < (n : Int) := by omega
            have p0 : (0 : Int) ≤ (i : Int) + 1 := by omega
            have e0 : ((i : Int) + 1).toNat = i + 1 := by omega
            have hE := HA.out.stay (HU1.out.trans HU.out (by simp))
            have hcall := fun n os => CompareEvents_any rs[i] rs[i + 1] (grow (wr.drewN n) os) ((hE i hq).1.stay (Grown.upd ⟨n, os, rfl⟩)) ((hE (i + 1) hq1).1.stay (Grown.upd ⟨n, os, rfl⟩)) (HKS.out _ (List.getElem_mem _)) (HKS.out _ (List.getElem_mem _))
            have hcalR := fun n os => RCompareEvents_any rs[i] rs[i + 1] (grow (wr.drewN n) os) ((hE i hq).1.stay (Grown.upd ⟨n, os, rfl⟩)) ((hE (i + 1) hq1).1.stay (Grown.upd ⟨n, os, rfl⟩)) (HKS.out _ (List.getElem_mem _)) (HKS.out _ (List.getElem_mem _))
            obtain ⟨b1, o1, rfl, _, hc⟩ := hE.at i hq
            obtain ⟨b3, o3, he3, _, hd⟩ := hE.at (i + 1) hq1
            obtain ⟨rfl, rfl⟩ : b1 = b3 ∧ o1 = o3 := by simpa using he3
            obtain ⟨z, hz⟩ : ∃ z, z = cmpE rs[i].ev rs[i + 1].ev := ⟨_, rfl⟩
            rw [← hz] at hcall hcalR
            simp only [encR] at hcall hcalR
            clear hz he3 hE
            generalize rs[i].ev.time = t3 at hc hcall hcalR
            generalize rs[i].ev.key.length = n3 at hc hcall hcalR
            generalize rs[i].ev.lp = l3 at hc hcall hcalR
            generalize rs[i].ev.kind = d3 at hc hcall hcalR
            generalize rs[i].ev.proc = p3 at hc hcall hcalR
            generalize rs[i].ev.arg = g3 at hc hcall hcalR
            generalize rs[i].ka = a3 at hc hcall hcalR
            generalize rs[i].kc = c3 at hc hcall hcalR
            generalize rs[i + 1].ev.time = t4 at hd hcall hcalR
            generalize rs[i + 1].ev.key.length = n4 at hd hcall hcalR
            generalize rs[i + 1].ev.lp = l4 at hd hcall hcalR
            generalize rs[i + 1].ev.kind = d4 at hd hcall hcalR
            generalize rs[i + 1].ev.proc = p4 at hd hcall hcalR
            generalize rs[i + 1].ev.arg = g4 at hd hcall hcalR
            generalize rs[i + 1].ka = a4 at hd hcall hcalR
            generalize rs[i + 1].kc = c4 at hd hcall hcalR
            have HCALL := Lib.hid hcall; have HCALR := Lib.hid hcalR
            clear hcall hcalR
            go_wp2_with fail
            go_quiet_grown (first | (go_at_call 11; exact Calls.grown_of (HCALL.out _ _)) | (go_at_call 12; exact Calls.grown_of (HCALR.out _ _)))
            have HU2 : Hid (Upd [] w1 (grow (wr.drewN nq) osq)) := HU.out.trans (Grown.upd ⟨nq, osq, rfl⟩) (by simp)
            clear hc hd
            generalize grow (wr.drewN nq) osq = w2 at HU2 ⊢
            clear nq osq
            go_wp2_with fail
            go_roundg (n - (i + 1 + 1))
            case measure => omega
            case rel => exact ⟨i + 1, by go_num, by omega, .inl (by omega), HU2⟩
          · have hltz : ¬ (i : Int) + 1 < (n : Int) := by omega
            have hU9 : Upd [] w wr := HU1.out.trans HU.out (by simp)
            have hb0 := HU.out.at HB0.out (by simp)
            have hb1 := HU.out.at HB1.out (by simp)
            have x0 := cell_block hb0 0
            have x1 := cell_block hb0 1
            have x2 := cell_block hb0 2
            have y0 := cell_block hb1 0
            have y1 := cell_block hb1 1
            have y2 := cell_block hb1 2
            simp only [List.getElem?_toArray, List.getElem?_cons_zero, List.getElem?_cons_succ] at x0 x1 x2 y0 y1 y2
            have HKP : Hid (∀ wz, Upd [] wr wz → (fun wz => wz.cell? ⟨w.heap.size, 0, none⟩ = some (.int .i64 t1) ∧ wz.cell? ⟨w.heap.size, 1, none⟩ = some (.int .i64 s1) ∧ wz.cell? ⟨w.heap.size, 2, none⟩ = some (.int .i64 q1) ∧ wz.cell? ⟨w.heap.size + 1, 0, none⟩ = some (.int .i64 t2) ∧ wz.cell? ⟨w.heap.size + 1, 1, none⟩ = some (.int .i64 s2) ∧ wz.cell? ⟨w.heap.size + 1, 2, none⟩ = some (.int .i64 q2)) wz) := fun wz h => ⟨h.cell x0 (by simp), h.cell x1 (by simp), h.cell x2 (by simp), h.cell y0 (by simp), h.cell y1 (by simp), h.cell y2 (by simp)⟩
            have hnk := HNK.out; have hnm := HNM.out; have hn0 := HN.out
            have h13 : ∀ W, Calls Try.prog 13 #[.agg #[.int .i64 t1, .int .i64 s1, .int .i64 q1], .agg #[.int .i64 t2, .int .i64 s2, .int .i64 q2]] W fun e w' => e = .returned (.int .i64 (cmpIt ⟨t1, s1, q1⟩ ⟨t2, s2, q2⟩)) ∧ Upd [] W w' := fun W => (CompareItems_any ⟨t1, s1, q1⟩ ⟨t2, s2, q2⟩ W).mono fun e w' h => ⟨h.1, h.2.upd⟩
            have h14 : ∀ W, Calls Try.prog 14 #[.agg #[.int .i64 t1, .int .i64 s1, .int .i64 q1], .agg #[.int .i64 t2, .int .i64 s2, .int .i64 q2]] W fun e w' => e = .returned (.int .i64 (cmpIt ⟨t1, s1, q1⟩ ⟨t2, s2, q2⟩)) ∧ Upd [] W w' := fun W => (RCompareItems_any ⟨t1, s1, q1⟩ ⟨t2, s2, q2⟩ W).mono fun e w' h => ⟨h.1, h.2.upd⟩
            have h15 : ∀ W, Upd [] w W → Calls Try.prog 15 #[.slice k nk ck, .slice m nm cm] W fun e w' => e = .returned (.int .i64 (cmpK ks ms)) ∧ Upd [] W w' := fun W hu => by
              have := CompareKeys_any k m ck cm ks ms W (HK.out.stay hu) (HM.out.stay hu) (by omega) (by omega)
              rw [← hnk, ← hnm] at this
              exact this.mono fun e w' h => ⟨h.1, h.2 ▸ Upd.refl _ _⟩
            have h16 : ∀ W, Upd [] w W → Calls Try.prog 16 #[.slice k nk ck, .slice m nm cm] W fun e w' => e = .returned (.int .i64 (cmpK ks ms)) ∧ Upd [] W w' := fun W hu => by
              have := RCompareKeys_any k m ck cm ks ms W (HK.out.stay hu) (HM.out.stay hu) (by omega) (by omega)
              rw [← hnk, ← hnm] at this
              exact this.mono fun e w' h => ⟨h.1, h.2.grown.upd⟩
            have hlk : (ks ++ [idx]).length = nk + 1 := by rw [List.length_append, ← hnk]; rfl
            have h18 : ∀ W, Upd [] w W → Calls Try.prog 18 #[.slice k nk ck, .int .i64 idx] W fun e w' => ∃ ad cap, e = .returned (.slice ad (nk + 1) cap) ∧ Ints w' ad (ks ++ [idx]) ∧ Upd [] W w' := fun W hu => by
              have := Child_any k ck ks idx W (HK.out.stay hu) (by omega)
              unfold Gives at this
              rw [hlk, ← hnk] at this
              exact this.mono fun e w' ⟨ad, cap, h1, h2, h3, _⟩ => ⟨ad, cap, h1, h2, h3⟩
            have h19 : ∀ W, Upd [] w W → Calls Try.prog 19 #[.slice k nk ck, .int .i64 idx] W fun e w' => ∃ ad cap, e = .returned (.slice ad (nk + 1) cap) ∧ Ints w' ad (ks ++ [idx]) ∧ Upd [] W w' := fun W hu => by
              have := RChild_any k ck ks idx W (HK.out.stay hu) HKN.out (by omega)
              unfold Gives at this
              rw [hlk, ← hnk] at this
              exact this.mono fun e w' ⟨ad, cap, h1, h2, h3, _⟩ => ⟨ad, cap, h1, h2, h3⟩
            have h17 : ∀ (ad ad' : Option Addr) (cap cap' : Nat) (W : World), Ints W ad (ks ++ [idx]) → Ints W ad' (ks ++ [idx]) → Calls Try.prog 17 #[.slice ad (nk + 1) cap, .slice ad' (nk + 1) cap'] W fun e w' => e = .returned (.bool true) ∧ Upd [] W w' := fun ad ad' cap cap' W h1 h2 => by
              have := SameKey_any ad ad' cap cap' _ _ W h1 h2 (by omega) (by omega)
              rw [hlk, decide_eq_true rfl] at this
              exact this.mono fun e w' h => ⟨h.1, h.2.grown.upd⟩
            have hgs : ∀ (W : World) (e : Ending) (w' : World), GivesSorted rs W e w' → ∃ ad cap, e = .returned (.slice ad n cap) ∧ (∃ rs', rs'.length = n ∧ Evs w' ad rs' ∧ IsSort (evs rs) (evs rs')) ∧ Upd [] W w' := fun W e w' ⟨ad, cap, rs', h1, h2, h3, h4⟩ => by
              have hl : rs'.length = n := by rw [hn0]; have := h3.length; simpa [evs] using this
              exact ⟨ad, cap, by rw [h1, hl], ⟨rs', hl, h2, h3⟩, h4⟩
            have h21 : ∀ W, Upd [] w W → Calls Try.prog 21 #[.slice a n ca] W fun e w' => ∃ ad cap, e = .returned (.slice ad n cap) ∧ (∃ rs', rs'.length = n ∧ Evs w' ad rs' ∧ IsSort (evs rs) (evs rs')) ∧ Upd [] W w' := fun W hu => by
              have := SortEvents_any a ca rs W (HA.out.stay hu) (by omega) HKS.out
              rw [← hn0] at this
              exact this.mono fun e w' h => hgs W e w' h
            have h22 : ∀ W, Upd [] w W → Calls Try.prog 22 #[.slice a n ca] W fun e w' => ∃ ad cap, e = .returned (.slice ad n cap) ∧ (∃ rs', rs'.length = n ∧ Evs w' ad rs' ∧ IsSort (evs rs) (evs rs')) ∧ Upd [] W w' := fun W hu => by
              have := RSortEvents_any a ca rs W (HA.out.stay hu) (by omega) HKS.out
              rw [← hn0] at this
              exact this.mono fun e w' h => hgs W e w' h
            have h20 : ∀ (ad ad' : Option Addr) (cap cap' : Nat) (W : World), (∃ rs', rs'.length = n ∧ Evs W ad rs' ∧ IsSort (evs rs) (evs rs')) → (∃ rs', rs'.length = n ∧ Evs W ad' rs' ∧ IsSort (evs rs) (evs rs')) → Calls Try.prog 20 #[.slice ad n cap, .slice ad' n cap'] W fun e w' => e = .returned (.bool true) ∧ Upd [] W w' := fun ad ad' cap cap' W ⟨r1, l1, e1, o1⟩ ⟨r2, l2, e2, o2⟩ => by
              have hks : ∀ rs', IsSort (evs rs) (evs rs') → ∀ r ∈ rs', r.ev.key.length ≤ 1000000 := fun rs' ho r hr => by
                have hm : r.ev ∈ evs rs' := List.mem_map_of_mem hr
                obtain ⟨r', hr', he⟩ := List.mem_map.1 (ho.mem hm)
                rw [← he]; exact HKS.out r' hr'
              have := SameEvents_any ad ad' cap cap' r1 r2 W e1 e2 (by omega) (by omega) (hks r1 o1) (hks r2 o2)
              rw [l1, l2, decide_eq_true (o1.unique o2)] at this
              exact this.mono fun e w' h => ⟨h.1, h.2.upd⟩
            have hkeep : ∀ (W W' : World) (ad : Option Addr), Upd [] W W' → (∃ rs', rs'.length = n ∧ Evs W ad rs' ∧ IsSort (evs rs) (evs rs')) → (∃ rs', rs'.length = n ∧ Evs W' ad rs' ∧ IsSort (evs rs) (evs rs')) := fun W W' ad hu ⟨r1, l1, e1, o1⟩ => ⟨r1, l1, e1.stay hu, o1⟩
            generalize cmpIt ⟨t1, s1, q1⟩ ⟨t2, s2, q2⟩ = vx at h13 h14
            generalize cmpK ks ms = vy at h15 h16
            generalize ks ++ [idx] = kk at h17 h18 h19
            have hSO : ∃ SO : World → Option Addr → Prop, SO = fun W ad => ∃ rs', rs'.length = n ∧ Evs W ad rs' ∧ IsSort (evs rs) (evs rs') := ⟨_, rfl⟩
            obtain ⟨SO, hSO⟩ := hSO
            have H13 := Lib.hid h13; have H14 := Lib.hid h14; have H15 := Lib.hid h15; have H16 := Lib.hid h16; have H17 := Lib.hid h17; have H18 := Lib.hid h18; have H19 := Lib.hid h19
            have H21 : Hid (∀ W, Upd [] w W → Calls Try.prog 21 #[.slice a n ca] W fun e w' => ∃ ad cap, e = .returned (.slice ad n cap) ∧ SO w' ad ∧ Upd [] W w') := by rw [hSO]; exact h21
            have H22 : Hid (∀ W, Upd [] w W → Calls Try.prog 22 #[.slice a n ca] W fun e w' => ∃ ad cap, e = .returned (.slice ad n cap) ∧ SO w' ad ∧ Upd [] W w') := by rw [hSO]; exact h22
            have H20 : Hid (∀ (ad ad' : Option Addr) (cap cap' : Nat) (W : World), SO W ad → SO W ad' → Calls Try.prog 20 #[.slice ad n cap, .slice ad' n cap'] W fun e w' => e = .returned (.bool true) ∧ Upd [] W w') := by rw [hSO]; exact h20
            have HKE : Hid (∀ (W W' : World) (ad : Option Addr), Upd [] W W' → SO W ad → SO W' ad) := by rw [hSO]; exact hkeep
            clear h13 h14 h15 h16 h17 h18 h19 h20 h21 h22 hgs hkeep hSO hlk hnk hnm hn0 hb0 hb1 HU HU1 HB0 HB1 HA HK HM HKN HNK HNM HN HKS HSM HGR hig hin
            go_wp2_with fail
            go_region_held3 (fun wz => wz.cell? ⟨w.heap.size, 0, none⟩ = some (.int .i64 t1) ∧ wz.cell? ⟨w.heap.size, 1, none⟩ = some (.int .i64 s1) ∧ wz.cell? ⟨w.heap.size, 2, none⟩ = some (.int .i64 q1) ∧ wz.cell? ⟨w.heap.size + 1, 0, none⟩ = some (.int .i64 t2) ∧ wz.cell? ⟨w.heap.size + 1, 1, none⟩ = some (.int .i64 s2) ∧ wz.cell? ⟨w.heap.size + 1, 2, none⟩ = some (.int .i64 q2)) (first | exact ⟨x0, x1, x2, y0, y1, y2⟩ | (refine HKP.out _ ?_; (repeat (first | exact Upd.refl [] _ | refine Upd.drew ?_ | refine Upd.alloc ?_ _ | refine Upd.trans (T := []) ?_ (by assumption) (by simp))))) (first
              | (go_at_call 13; (with_reducible refine (H13.out _).mono ?_); rintro e w' ⟨rfl, hu⟩)
              | (go_at_call 14; (with_reducible refine (H14.out _).mono ?_); rintro e w' ⟨rfl, hu⟩)
              | (go_at_call 15; (with_reducible refine (H15.out _ ?_).mono ?_); (repeat (first | exact Upd.refl [] _ | refine Upd.drew ?_ | refine Upd.alloc ?_ _ | refine Upd.trans (T := []) ?_ (by assumption) (by simp))); rintro e w' ⟨rfl, hu⟩)
              | (go_at_call 16; (with_reducible refine (H16.out _ ?_).mono ?_); (repeat (first | exact Upd.refl [] _ | refine Upd.drew ?_ | refine Upd.alloc ?_ _ | refine Upd.trans (T := []) ?_ (by assumption) (by simp))); rintro e w' ⟨rfl, hu⟩)
              | (go_at_call 18; (with_reducible refine (H18.out _ ?_).mono ?_); (repeat (first | exact Upd.refl [] _ | refine Upd.drew ?_ | refine Upd.alloc ?_ _ | refine Upd.trans (T := []) ?_ (by assumption) (by simp))); rintro e w' ⟨ad1, cap1, rfl, hi1, hu⟩)
              | (go_at_call 19; (with_reducible refine (H19.out _ ?_).mono ?_); (repeat (first | exact Upd.refl [] _ | refine Upd.drew ?_ | refine Upd.alloc ?_ _ | refine Upd.trans (T := []) ?_ (by assumption) (by simp))); rintro e w' ⟨ad2, cap2, rfl, hi2, hu⟩)
              | (go_at_call 17; (with_reducible refine (H17.out _ _ _ _ _ ?_ ?_).mono ?_); (first | exact hi1 | exact hi1.stay (by (repeat (first | exact Upd.refl [] _ | refine Upd.drew ?_ | refine Upd.alloc ?_ _ | refine Upd.trans (T := []) ?_ (by assumption) (by simp))))); (first | exact hi2 | exact hi2.stay (by (repeat (first | exact Upd.refl [] _ | refine Upd.drew ?_ | refine Upd.alloc ?_ _ | refine Upd.trans (T := []) ?_ (by assumption) (by simp))))); rintro e w' ⟨rfl, hu⟩)
              | (go_at_call 21; (with_reducible refine (H21.out _ ?_).mono ?_); (repeat (first | exact Upd.refl [] _ | refine Upd.drew ?_ | refine Upd.alloc ?_ _ | refine Upd.trans (T := []) ?_ (by assumption) (by simp))); rintro e w' ⟨ad3, cap3, rfl, hi3, hu⟩)
              | (go_at_call 22; (with_reducible refine (H22.out _ ?_).mono ?_); (repeat (first | exact Upd.refl [] _ | refine Upd.drew ?_ | refine Upd.alloc ?_ _ | refine Upd.trans (T := []) ?_ (by assumption) (by simp))); rintro e w' ⟨ad4, cap4, rfl, hi4, hu⟩)
              | (go_at_call 20; (with_reducible refine (H20.out _ _ _ _ _ ?_ ?_).mono ?_); (first | exact hi3 | exact HKE.out _ _ _ (by (repeat (first | exact Upd.refl [] _ | refine Upd.drew ?_ | refine Upd.alloc ?_ _ | refine Upd.trans (T := []) ?_ (by assumption) (by simp)))) hi3); (first | exact hi4 | exact HKE.out _ _ _ (by (repeat (first | exact Upd.refl [] _ | refine Upd.drew ?_ | refine Upd.alloc ?_ _ | refine Upd.trans (T := []) ?_ (by assumption) (by simp)))) hi4); rintro e w' ⟨rfl, hu⟩))
            all_goals go_wp2_with fail
            all_goals go_ret
            all_goals exact ⟨by first | rfl | (simp; done), by (repeat (first | exact Upd.refl [] _ | refine Upd.drew ?_ | refine Upd.alloc ?_ _ | refine Upd.trans (T := []) ?_ (by assumption) (by simp)))⟩
end Go.Proofs.Ytdkkgajamogmeaa
