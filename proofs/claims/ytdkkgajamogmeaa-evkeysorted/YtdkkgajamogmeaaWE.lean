/- EvkeySorted, walked. -/
import Derived.Test.YtdkkgajamogmeaaWD
namespace Go.Proofs.Ytdkkgajamogmeaa
open Go.Shelf Go.RowKit Go.Sort Go.Lib

theorem held_evs {w : World} {g cap : Nat} {cs : List EvR} (h : Held w g cap cs) (hk : ∀ r ∈ cs, Ints w r.ka r.ev.key) : Evs w (some ⟨g, 0, none⟩) cs :=
  evs_cells (fun t u hu => by rw [Nat.zero_add]; exact (h.cell t u hu).1) hk
theorem row_held {w : World} {base : Nat} {v : Value} {cs : List EvR} (h : w.ownsRow base 30 6 v cs.length (flatE cs)) (hn : v ≠ .slice none 0 0) : ∃ g cap, v = .slice (some ⟨g, 0, none⟩) cs.length cap ∧ base ≤ g ∧ Held w g cap cs := by
  rcases h.2 with ⟨rfl, h0⟩ | ⟨g, cap, cur, rfl, hb, hg, hc, _, hs, ht⟩
  · exact absurd rfl hn
  · exact ⟨g, cap, rfl, hb, ⟨cur, hg, hs, ht⟩, hc⟩

set_option maxHeartbeats 16000000 in
set_option maxRecDepth 100000 in
theorem EvkeySorted_any (a : Option Addr) (ca : Nat) (rs : List EvR) (w : World) (ha : Evs w a rs) (hca : a = none → ca = 0) (hx : rs.length ≤ maxLen) :
    Calls Try.prog 7 #[.slice a rs.length ca] w fun e w' => e = .returned (.bool true) ∧ Upd [] w w' := by
  have mixed : Try.prog.follows .mixedOrders = true := by kernel_rfl
  obtain ⟨n, hn⟩ : ∃ n, n = rs.length := ⟨_, rfl⟩
  have hgr := fun W (hu : Upd [] w W) => Great_any a ca rs W (ha.stay hu) hx
  obtain ⟨gb, egb⟩ : ∃ g, g = greatB rs := ⟨_, rfl⟩
  rw [← egb] at hgr
  have hsm : gb = false → n ≤ 100 ∧ ∀ r ∈ rs, r.ev.key.length ≤ 1000000 := fun h => by
    have := greatB_false (egb ▸ h)
    exact ⟨by omega, fun r hr => by have := this.2 r hr; omega⟩
  rw [← hn] at hgr ⊢
  have HGR := Lib.hid hgr; have HSM := Lib.hid hsm; have HA := Lib.hid ha; have HN := Lib.hid hn; have HCA := Lib.hid hca
  clear hgr hsm ha hx hn egb hca
  go_enter Try.func7, Try.ntmps7
  go_wp2_with fail
  refine (head_any _).mono ?_
  rintro e w1 ⟨rfl, hu⟩
  have HU1 := Lib.hid hu
  clear hu
  go_wp2_with fail
  refine (HGR.out _ HU1.out).mono ?_
  rintro e w1' ⟨rfl, rfl⟩
  cases gb with
  | true =>
    go_wp2_with fail
    go_ret
    exact ⟨rfl, HU1.out⟩
  | false =>
    obtain ⟨hn100, hks⟩ := HSM.out rfl
    have HKS := Lib.hid hks
    clear hks
    go_upto_region 4 with (fail)
    go_cut [4] from 15 to 17 (fun v wx => ∃ g cap, v = .slice (some ⟨g, 0, none⟩) n cap ∧ Hid (w1.heap.size ≤ g) ∧ Hid (Held wx g cap rs) ∧ Hid (Upd [] w1 wx))
    case first =>
      cases a with
      | none =>
        have hrs : rs = [] := by
          cases rs with
          | nil => rfl
          | cons x xs => obtain ⟨_, b, off, h, _⟩ := HA.out 0 (by simp); simp at h
        subst hrs
        obtain rfl := HCA.out rfl
        have hn0 : n = 0 := HN.out
        subst hn0
        go_wp2_with (at_builtin; refine app_none rfl _ _ rfl w1.heap.size (.slice (some ⟨w1.heap.size, 0, none⟩) 0 0) 0 [] rfl (World.ownsRow_made w1 #[] 0 (Nat.le_refl _) (Nat.zero_le _) (by simp)) rfl ?_)
        go_meet
        case rel => exact ⟨_, 0, rfl, Nat.le_refl _, ⟨⟨_, heap_alloc1 w1 _, rfl, rfl⟩, Nat.le_refl _⟩, (Upd.refl [] w1).alloc _⟩
      | some ad =>
        have HN2 := Lib.hid (cells_evs (HA.out.stay HU1.out))
        have HNC := Lib.hid HN.out.symm
        go_wp2_with (at_builtin; refine wpList_append_own _ rfl _ _ 25 rfl w1.heap.size 30 _ _ 6 64 Try.underlying25 (info_parts infoEv).choose_spec.1 (info_parts infoEv).choose_spec.2.1 (info_parts infoEv).choose_spec.2.2.1 (info_parts infoEv).choose_spec.2.2.2 rfl (by decide) (.slice (some ⟨w1.heap.size, 0, none⟩) 0 0) 0 [] rfl (World.ownsRow_made w1 #[] 0 (Nat.le_refl _) (Nat.zero_le _) (by simp)) ad n ca (flatE rs) rfl (by rw [flatE_length, HNC.out]) (fun j u hj => Lib.cell?_alloc_some _ (HN2.out j u hj)) (flatE_one rs) (by simp [maxLen]; omega) (by omega) (by simp) ?_; intro v' w2 hown hgrow hnil; have HO := Lib.hid hown; have HG := Lib.hid hgrow; have HNN := Lib.hid hnil; clear hown hgrow hnil)
        go_meet
        case rel =>
          have h := HO.out
          rw [Nat.zero_add, List.nil_append, HN.out] at h
          obtain ⟨g, cap, rfl, h1, h2⟩ := row_held h (fun e => by have := HNN.out.1 e; simp at this)
          exact ⟨g, cap, by rw [HN.out], h1, h2, ((Upd.refl [] w1).alloc _).grown HG.out (fun k hk hl => by simp [Value.ownBlock] at hk; omega)⟩
    case rest =>
      obtain ⟨g, cap, rfl, HGG, HH0, HU2⟩ := hcut
      go_wp2_with fail
      go_loopg [5] n (fun gk vi wr => ∃ (i : Nat) (cs : List EvR), vi = .int .i64 i ∧ i + gk = n ∧ Hid (Args rs i cs) ∧ Hid (Held wr g cap cs) ∧ Hid (Upd [] w1 wr))
      case atStart => exact ⟨0, rs, rfl, by omega, args_start rs, HH0, HU2⟩
      case round =>
        clear HH0 HU2
        obtain ⟨i, cs, rfl, hig, HAR, HH, HU⟩ := hrel
        by_cases hlt : i < n
        · have hltz : (i : Int) < (n : Int) := by omega
          have hi : i < cs.length := by rw [HAR.out.len, ← HN.out]; exact hlt
          obtain ⟨c1, f1⟩ := HH.out.cell (i * 6 + 5) _ ((flatE_get cs i 5 hi (by omega)).trans rfl)
          generalize cs[i].ev.arg = oa at c1
          go_wp2_with fail
          go_roundg (gk - 1)
          case measure => omega
          case rel => exact ⟨i + 1, _, by go_num, by omega, HAR.out.step hi, HH.out.setArg i hi i, HU.out.setCell (fun h => by have := HGG.out; simp at h; omega) _⟩
        · obtain rfl : i = n := by omega
          have hltz : ¬ (i : Int) < (i : Int) := by omega
          have hlen : cs.length = i := by rw [HAR.out.len, ← HN.out]
          have hkeys : ∀ r ∈ cs, Ints wr r.ka r.ev.key := fun r hr => by
            obtain ⟨s, hs, e1, e2⟩ := HAR.out.key hr
            obtain ⟨j, hj, rfl⟩ := List.getElem_of_mem hs
            rw [e1, e2]
            exact (HA.out j hj).1.stay (HU1.out.trans HU.out (by simp))
          have hkl : ∀ r ∈ cs, r.ev.key.length ≤ 1000000 := fun r hr => by
            obtain ⟨s, hs, _, e2⟩ := HAR.out.key hr
            rw [e2]; exact HKS.out s hs
          have hEM := held_evs HH.out hkeys
          have hcall := SortEvents_any (some ⟨g, 0, none⟩) cap cs wr hEM (by omega) hkl
          rw [hlen] at hcall
          have HEM := Lib.hid hEM; have HKL := Lib.hid hkl; have HCALL := Lib.hid hcall; have HLEN := Lib.hid hlen
          clear hkeys hEM hcall hlen hkl
          go_wp2_with fail
          refine HCALL.out.mono ?_
          rintro e w3 ⟨ad, cap3, ss, rfl, hev, hso, hu⟩
          have hta : ∃ tg, Tagged cs ss tg := tagged_of hso (fun t ht => (HN.out ▸ HAR.out : Args rs rs.length cs).arg t ht)
          obtain ⟨tg, htg⟩ := hta
          have hsl : ss.length = i := by rw [htg.len, HLEN.out]
          have hskl : ∀ r ∈ ss, r.ev.key.length ≤ 1000000 := fun r hr => by
            have hm : r.ev ∈ evs ss := List.mem_map_of_mem hr
            obtain ⟨r', hr', he⟩ := List.mem_map.1 (hso.mem hm)
            rw [← he]; exact HKL.out r' hr'
          rw [hsl]
          have HTG := Lib.hid htg; have HSL := Lib.hid hsl; have HSKL := Lib.hid hskl
          have HES := Lib.hid hev; have HEM3 := Lib.hid (HEM.out.stay hu)
          have HU3 : Hid (Upd [] w w3) := (HU1.out.trans HU.out (by simp)).trans hu (by simp)
          clear htg hsl hskl hev hso hu HEM HCALL HAR HH HU
          have hmk := mkAny 42 4 (.bool false) 1 1 Try.underlying42 infoBool i (by omega) (by omega) (bcells (List.replicate i false)) (madeBools i)
          generalize hZ : bcells (List.replicate i false) = Z at hmk
          have HZ := Lib.hid hZ
          clear hZ
          go_wp2_with fail
          go_loopg [8] i (fun gk2 vk wr2 => ∃ (k : Nat) (bs : List Bool), vk = .int .i64 k ∧ k + gk2 = i ∧ Hid (bs.length = i) ∧ Hid (Met tg k bs) ∧ Hid (wr2.heap[w3.heap.size]? = some (.cells (bcells bs) 4 (0, 0))) ∧ Hid (Upd [] w3 wr2))
          case atStart => exact ⟨0, List.replicate i false, rfl, by omega, (show Hid _ from List.length_replicate), met_start tg i, (by rw [HZ.out]; exact Lib.hid (heap_alloc1 w3 _)), (Upd.refl [] w3).alloc _⟩
          case round =>
            obtain ⟨k, bs, rfl, hkg, HBL, HM, HB, HUW⟩ := hrel
            by_cases hk : k < i
            · have hkz : (k : Int) < (i : Int) := by omega
              have hks : k < ss.length := by rw [HSL.out]; exact hk
              have htl : tg k < cs.length := HTG.out.lt k hks
              have htb : tg k < bs.length := by rw [HBL.out, ← HLEN.out]; exact htl
              have hnew := HM.out.new HTG.out hks htb
              have hEs := HES.out.stay HUW.out
              have hEm := HEM3.out.stay HUW.out
              have hcall := fun n os => SameEvent_any ss[k] cs[tg k] (grow (wr.drewN n) os) ((hEs k hks).1.stay (Grown.upd ⟨n, os, rfl⟩)) ((hEm (tg k) htl).1.stay (Grown.upd ⟨n, os, rfl⟩)) (HSKL.out _ (List.getElem_mem _)) (HKL.out _ (List.getElem_mem _))
              rw [decide_eq_true (HTG.out.same k hks htl)] at hcall
              obtain ⟨b1, o1, rfl, _, hc⟩ := hEs.at k hks
              obtain ⟨b2, o2, he2, _, hd⟩ := hEm.at (tg k) htl
              obtain ⟨rfl, rfl⟩ : g = b2 ∧ 0 = o2 := by simpa using he2
              simp only [Nat.zero_add] at hd
              have harg := HTG.out.arg k hks
              rw [harg] at hc
              have harg0 : wr.cell? ⟨b1, o1 + k * 6 + 5, none⟩ = some (.int .i64 (tg k : Int)) := by
                have := (hc 0 #[]).2.2.2.2.2
                rw [grow_empty] at this
                exact this
              have hbl := lt_block HB.out
              have hmet : ∀ n os, (grow (wr.drewN n) os).cell? ⟨w3.heap.size, tg k, none⟩ = some (.bool false) := fun n os => cell_grown hbl (by rw [cell_block HB.out, bcells_get bs _ htb, hnew]) n os
              have htz : (tg k : Int) < (i : Int) := by have := HLEN.out; omega
              have hge : decide ((i : Int) ≤ (tg k : Int)) = false := by simp; omega
              have hneg : decide ((tg k : Int) < 0) = false := by simp
              have hgeN : decide (i ≤ tg k) = false := by simp; omega
              have HGO : Hid (∀ (W : World), Upd [] wr W → W.heap[w3.heap.size]? = some (.cells (bcells bs) 4 (0, 0))) := fun W hu => hu.at HB.out (by simp)
              simp only [encR] at hcall
              rw [harg] at hcall
              clear harg he2 hEs hEm
              generalize ss[k].ev.time = t1 at hc hcall
              generalize ss[k].ev.key.length = n1 at hc hcall
              generalize ss[k].ev.lp = l1 at hc hcall
              generalize ss[k].ev.kind = d1 at hc hcall
              generalize ss[k].ev.proc = p1 at hc hcall
              generalize ss[k].ka = a1 at hc hcall
              generalize ss[k].kc = c1 at hc hcall
              generalize cs[tg k].ev.time = t2 at hd hcall
              generalize cs[tg k].ev.key.length = n2 at hd hcall
              generalize cs[tg k].ev.lp = l2 at hd hcall
              generalize cs[tg k].ev.kind = d2 at hd hcall
              generalize cs[tg k].ev.proc = p2 at hd hcall
              generalize cs[tg k].ka = a2 at hd hcall
              generalize cs[tg k].kc = c2 at hd hcall
              generalize cs[tg k].ev.arg = g2 at hd hcall
              have HCALL := Lib.hid hcall
              clear hcall
              obtain ⟨tk, htk⟩ : ∃ x, x = tg k := ⟨_, rfl⟩
              rw [← htk] at hc harg0 hd hmet htz hge hneg hgeN HCALL
              have HTK := Lib.hid htk
              clear htk hnew hbl
              go_wp2_with fail
              go_quiet_grown (first | (go_at_call 24; exact Calls.grown_of (HCALL.out _ _)))
              have hgr : Grown wr (grow (wr.drewN nq) osq) := ⟨nq, osq, rfl⟩
              have hb4 := HGO.out _ hgr.upd
              have HU4 : Hid (Upd [] w3 (grow (wr.drewN nq) osq)) := HUW.out.trans hgr.upd (by simp)
              clear hc hd hmet harg0 hgr HCALL HB HUW HGO
              generalize grow (wr.drewN nq) osq = w4 at hb4 HU4 ⊢
              clear nq osq
              have cm : w4.cell? ⟨w3.heap.size, tk, none⟩ = some (.bool bs[tg k]) := by rw [HTK.out, cell_block hb4, bcells_get bs _ htb]
              have fm := free_block hb4 tk
              have HB5 : Hid ((w4.setCell ⟨w3.heap.size, tk, none⟩ (.bool true)).heap[w3.heap.size]? = some (.cells (bcells (bs.set (tg k) true)) 4 (0, 0))) := by
                show _ = _
                rw [setCell_block hb4, HTK.out, bcells_set]
              have HU5 : Hid (Upd [] w3 (w4.setCell ⟨w3.heap.size, tk, none⟩ (.bool true))) := HU4.out.setCell (by simp) _
              have HREL : Hid (∀ W, Upd [] (w4.setCell ⟨w3.heap.size, tk, none⟩ (.bool true)) W → ∃ (k' : Nat) (bs' : List Bool), Value.int .i64 ((k : Int) + 1) = .int .i64 k' ∧ k' + (gk - 1) = i ∧ Hid (bs'.length = i) ∧ Hid (Met tg k' bs') ∧ Hid (W.heap[w3.heap.size]? = some (.cells (bcells bs') 4 (0, 0))) ∧ Hid (Upd [] w3 W)) := fun W hu =>
                ⟨k + 1, bs.set (tg k) true, by go_num, by omega, (by rw [List.length_set]; exact HBL), HM.out.step, hu.at HB5.out (by simp), HU5.out.trans hu (by simp)⟩
              generalize bs[tg k] = ob at cm
              clear hb4 HB5
              by_cases hk0 : k = 0
              · subst hk0
                go_wp2_with fail
                go_roundg (gk - 1)
                case measure => omega
                case rel => exact HREL.out _ (Upd.refl _ _)
              · obtain ⟨q, rfl⟩ : ∃ q, k = q + 1 := ⟨k - 1, by omega⟩
                have hk0z : (((q : Int) + 1) == 0) = false := by rw [beq_eq_false_iff_ne]; omega
                go_wp2_with fail
                generalize w4.setCell ⟨w3.heap.size, tk, none⟩ (.bool true) = w5 at HREL HU5 ⊢
                have hq : q < ss.length := by omega
                have hwp : IntKind.i64.wrap (q : Int) = (q : Int) := by rw [IntKind.wrap_i64]; omega
                have hqz : (q : Int) < (i : Int) := by omega
                have hqz1 : (q : Int) + 1 < (i : Int) := by omega
                have p0 : (0 : Int) ≤ (q : Int) + 1 := by omega
                have e0 : ((q : Int) + 1).toNat = q + 1 := by omega
                have hE5 := HES.out.stay HU5.out
                have hcall := fun n os => CompareEvents_any ss[q] ss[q + 1] (grow (w5.drewN n) os) ((hE5 q hq).1.stay (Grown.upd ⟨n, os, rfl⟩)) ((hE5 (q + 1) hks).1.stay (Grown.upd ⟨n, os, rfl⟩)) (HSKL.out _ (List.getElem_mem _)) (HSKL.out _ (List.getElem_mem _))
                obtain ⟨b3, o3, he3, _, hc⟩ := hE5.at q hq
                obtain ⟨rfl, rfl⟩ : b1 = b3 ∧ o1 = o3 := by simpa using he3
                obtain ⟨b3, o3, he4, _, hd⟩ := hE5.at (q + 1) hks
                obtain ⟨rfl, rfl⟩ : b1 = b3 ∧ o1 = o3 := by simpa using he4
                have hg1 := HTG.out.arg q hq
                have hg2 := HTG.out.arg (q + 1) hks
                have hle := HTG.out.le q hks
                rw [hg1] at hc
                rw [hg2] at hd
                have HAR1 : Hid (∀ W, Upd [] w5 W → W.cell? ⟨b1, o1 + q * 6 + 5, none⟩ = some (.int .i64 (tg q : Int)) ∧ W.cell? ⟨b1, o1 + (q + 1) * 6 + 5, none⟩ = some (.int .i64 (tg (q + 1) : Int))) := fun W hu => by
                  obtain ⟨_, b3, o3, he5, _, _, _, _, _, c5⟩ := hE5.stay hu q hq
                  obtain ⟨rfl, rfl⟩ : b1 = b3 ∧ o1 = o3 := by simpa using he5
                  obtain ⟨_, b3, o3, he6, _, _, _, _, _, c6⟩ := hE5.stay hu (q + 1) hks
                  obtain ⟨rfl, rfl⟩ : b1 = b3 ∧ o1 = o3 := by simpa using he6
                  rw [hg1] at c5
                  rw [hg2] at c6
                  exact ⟨c5, c6⟩
                obtain ⟨z, hz⟩ : ∃ z, z = cmpE ss[q].ev ss[q + 1].ev := ⟨_, rfl⟩
                rw [← hz] at hcall hle
                have HLE := Lib.hid hle
                simp only [encR] at hcall
                rw [hg1, hg2] at hcall
                clear hz hle hg1 hg2 he3 he4 hE5
                generalize ss[q].ev.time = t3 at hc hcall
                generalize ss[q].ev.key.length = n3 at hc hcall
                generalize ss[q].ev.lp = l3 at hc hcall
                generalize ss[q].ev.kind = d3 at hc hcall
                generalize ss[q].ev.proc = p3 at hc hcall
                generalize ss[q].ka = a3 at hc hcall
                generalize ss[q].kc = c3 at hc hcall
                generalize ss[q + 1].ev.time = t4 at hd hcall
                generalize ss[q + 1].ev.key.length = n4 at hd hcall
                generalize ss[q + 1].ev.lp = l4 at hd hcall
                generalize ss[q + 1].ev.kind = d4 at hd hcall
                generalize ss[q + 1].ev.proc = p4 at hd hcall
                generalize ss[q + 1].ka = a4 at hd hcall
                generalize ss[q + 1].kc = c4 at hd hcall
                generalize tg q = tq at hc hcall HAR1 HLE
                generalize tg (q + 1) = tr at hd hcall HAR1 HLE
                have HCALL := Lib.hid hcall
                clear hcall
                go_quiet_grown (first | (go_at_call 11; exact Calls.grown_of (HCALL.out _ _)))
                have hgr : Grown w5 (grow (w5.drewN nq) osq) := ⟨nq, osq, rfl⟩
                obtain ⟨c5, c6⟩ := HAR1.out _ hgr.upd
                have HG6 := Lib.hid hgr
                clear hc hd hgr
                generalize grow (w5.drewN nq) osq = w6 at c5 c6 HG6 ⊢
                clear nq osq
                have hz0 := HLE.out.1
                by_cases hzz : z = 0
                · subst hzz
                  have htt := HLE.out.2 rfl
                  have hn1 : decide (tr < tq) = false := by simp; omega
                  have hn2 : decide ((tr : Int) < (tq : Int)) = false := by simp; omega
                  clear htt
                  go_wp2_with fail
                  go_quiet (fail)
                  go_wp2_with fail
                  go_roundg (gk - 1)
                  case measure => omega
                  case rel => exact HREL.out _ (HG6.out.upd.drewN _)
                · have hn1 : decide (0 < z) = false := by simp; omega
                  have hn2 : (z == 0) = false := by rw [beq_eq_false_iff_ne]; exact hzz
                  clear c5 c6
                  go_wp2_with fail
                  go_quiet (fail)
                  go_wp2_with fail
                  go_roundg (gk - 1)
                  case measure => omega
                  case rel => exact HREL.out _ (HG6.out.upd.drewN _)
            · obtain rfl : k = i := by omega
              have hkz : ¬ (k : Int) < (k : Int) := by omega
              have hcall := SortEvents_any ad cap3 ss wr (HES.out.stay HUW.out) (by rw [HSL.out]; omega) HSKL.out
              rw [HSL.out] at hcall
              have HCALL := Lib.hid hcall
              clear hcall
              go_wp2_with fail
              refine HCALL.out.mono ?_
              rintro e w7 ⟨ad7, cap7, ss7, rfl, hev7, hso7, hu7⟩
              have hsame : evs ss7 = evs ss := hso7.unique HTG.out.self
              have hl7 : ss7.length = ss.length := by have := congrArg List.length hsame; rwa [evs_length, evs_length] at this
              have hcall := SameEvents_any ad7 ad cap7 cap3 ss7 ss w7 hev7 ((HES.out.stay HUW.out).stay hu7) (by rw [hl7, HSL.out]; omega) (by rw [HSL.out]; omega) (fun r hr => by
                have hm : r.ev ∈ evs ss7 := List.mem_map_of_mem hr
                rw [hsame] at hm
                obtain ⟨r', hr', he⟩ := List.mem_map.1 hm
                rw [← he]; exact HSKL.out r' hr') HSKL.out
              rw [decide_eq_true hsame, hl7, HSL.out] at hcall
              rw [hl7, HSL.out]
              have HCALL2 := Lib.hid hcall
              have HU7 := Lib.hid ((HU3.out.trans HUW.out (by simp)).trans hu7 (by simp))
              clear hcall hev7 hso7 hu7 hsame hl7
              go_wp2_with fail
              refine HCALL2.out.mono ?_
              rintro e w8 ⟨rfl, hg8⟩
              have HU8 := Lib.hid (HU7.out.trans hg8.upd (by simp))
              clear hg8
              go_wp2_with fail
              go_ret
              exact ⟨rfl, HU8.out⟩
end Go.Proofs.Ytdkkgajamogmeaa
