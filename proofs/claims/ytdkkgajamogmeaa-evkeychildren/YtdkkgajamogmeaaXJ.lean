/- Contract: SortEvents, walked. -/
import Derived.Test.YtdkkgajamogmeaaXI
namespace Go.Proofs.Ytdkkgajamogmeaa
open Go.Shelf Go.RowKit Go.Sort Go.Lib

theorem sortStable_cs (wr : World) (g cap : Nat) (cs : List EvR) (hk : ∀ r ∈ cs, Ints wr r.ka r.ev.key) (hf : ∀ r ∈ cs, ∀ a, r.ka = some a → r.ev.key ≠ [] → a.block ≠ g) (hks : ∀ r ∈ cs, r.ev.key.length ≤ 1000000) (hh : Held wr g cap cs) (hx : cs.length ≤ 1000000) :
    Calls Try.prog 30 #[.slice (some ⟨g, 0, none⟩) cs.length cap, .func (.func 11) #[] #[]] wr fun e w' =>
      e = .returned (.tuple #[]) ∧ ∃ rs', rs'.length = cs.length ∧ Evs w' (some ⟨g, 0, none⟩) rs' ∧ IsSort (evs cs) (evs rs') ∧ Upd [g] wr w' := by
  have hcall := sortStable_any wr g cap (tagged cs hk hf hks) hh.lt (tagged_holds hh) (by rw [tagged_size]; omega) (fun p hp => tagged_tag p (by rw [tagged_size] at hp; exact hp))
  have hz : (tagged cs hk hf hks).size = cs.length := tagged_size
  refine (hz ▸ hcall).mono ?_
  rintro e w2 ⟨rfl, d', hp, hs, hsw⟩
  rw [← hz] at hp hs
  have hz1 := hp.1
  exact ⟨rfl, d'.toList.map EvT.r, by rw [List.length_map, Array.length_toList, hz1, hz], sorted_evs hh.lt (tagged_holds hh) hz1 hsw, sorted_isSort tagged_pairs hp hs, SWK.upd hsw⟩
/-- A slice of the events rs, sorted, is handed back; nothing old turned. -/
def GivesSorted (rs : List EvR) (w : World) (e : Ending) (w' : World) : Prop := ∃ ad cap rs', e = .returned (.slice ad rs'.length cap) ∧ Evs w' ad rs' ∧ IsSort (evs rs) (evs rs') ∧ Upd [] w w'

set_option maxHeartbeats 4000000 in
set_option maxRecDepth 100000 in
theorem SortEvents_any (a : Option Addr) (ca : Nat) (rs : List EvR) (w : World) (ha : Evs w a rs) (hx : rs.length ≤ 1000000) (hkx : ∀ r ∈ rs, r.ev.key.length ≤ 1000000) :
    Calls Try.prog 21 #[.slice a rs.length ca] w (GivesSorted rs w) := by
  have hcl := cloneEvs_any a ca rs w ha hx
  have HCL := Lib.hid hcl
  have HA := Lib.hid ha; have HKX := Lib.hid hkx
  clear hcl ha hkx
  by_cases h0 : rs = []
  · subst h0
    simp only [List.length_nil] at HCL ⊢
    go_enter Try.func21, Try.ntmps21
    go_wp2_with fail
    refine HCL.out.mono ?_
    rintro e w1 ⟨v, rfl, hv, hu⟩
    have hve : ∃ ad cap, v = .slice ad 0 cap := by
      rcases hv.2 with ⟨rfl, _⟩ | ⟨g, cap, cur, rfl, _⟩
      · exact ⟨_, _, rfl⟩
      · exact ⟨_, _, rfl⟩
    obtain ⟨ad, cap, rfl⟩ := hve
    have HU := Lib.hid hu
    clear hv hu
    go_wp2_with fail
    refine wp_loop_rounds 1 ?_
    rw [rounds_succ]
    go_wp2_with fail
    refine (sortStable_none _ _ _ _).mono ?_
    rintro e w2 ⟨rfl, rfl⟩
    go_wp2_with fail
    go_ret
    exact ⟨ad, cap, [], rfl, evs_nil _ _, isSort_nil, HU.out⟩
  · obtain ⟨n, hn⟩ : ∃ n, n = rs.length := ⟨_, rfl⟩
    rw [← hn]
    rw [← hn] at HCL
    have HN := Lib.hid hn
    rw [← hn] at hx
    clear hn
    have H0 := Lib.hid h0
    clear h0
    go_enter Try.func21, Try.ntmps21
    go_wp2_with fail
    refine HCL.out.mono ?_
    rintro e w1 ⟨v, rfl, hv, hu⟩
    rw [HN.out] at hv
    obtain ⟨g, cap, rfl, hg, hheld⟩ := held_row hv H0.out
    rw [← HN.out]
    have HC0 : Hid (Cloning w g cap rs 0 rs w1) := by
      refine ⟨rfl, rfl, hheld, fun r hr => ?_, fun r hr x hx hne => ?_, fun _ _ => rfl, hu⟩
      · obtain ⟨j, hj, rfl⟩ := List.getElem_of_mem hr
        exact ((HA.out j hj).1).stay hu
      · obtain ⟨j, hj, rfl⟩ := List.getElem_of_mem hr
        have hi := (HA.out j hj).1
        rw [hx] at hi
        have := hi.lt hne
        omega
    have HG := Lib.hid hg
    clear hv hu hheld hg
    go_wp2_with fail
    go_loopg [9] n (fun gk vi wr => ∃ (i : Nat) (cs : List EvR), vi = .int .i64 i ∧ i + gk = n ∧ Hid (Cloning w g cap rs i cs wr))
    case atStart => exact ⟨0, rs, rfl, by omega, HC0⟩
    case round =>
      clear HC0
      obtain ⟨i, cs, rfl, hig, HC⟩ := hrel
      by_cases hlt : i < n
      · have hltz : (i : Int) < (n : Int) := by omega
        have hi : i < cs.length := by rw [HC.out.len, ← HN.out]; exact hlt
        obtain ⟨c1, f1⟩ := HC.out.held.cell (i * 6 + 1) _ ((flatE_get cs i 1 hi (by omega)).trans rfl)
        have hcall := cloneInts_any cs[i].ka cs[i].kc cs[i].ev.key wr (HC.out.keys _ (List.getElem_mem hi)) (by
          have hm : cs[i].ev ∈ evs cs := List.mem_map_of_mem (List.getElem_mem hi)
          rw [HC.out.same] at hm
          obtain ⟨r, hr, he⟩ := List.mem_map.1 hm
          rw [← he]; exact HKX.out r hr)
        have HCALL := Lib.hid hcall
        clear hcall
        obtain ⟨ka, hka⟩ : ∃ x, x = cs[i].ka := ⟨_, rfl⟩
        obtain ⟨kc, hkc⟩ : ∃ x, x = cs[i].kc := ⟨_, rfl⟩
        obtain ⟨kl, hkl⟩ : ∃ x, x = cs[i].ev.key.length := ⟨_, rfl⟩
        rw [← hka, ← hkc, ← hkl] at c1
        rw [← hka, ← hkc, ← hkl] at HCALL
        have HKL := Lib.hid hkl
        clear hka hkc hkl
        go_wp2_with fail
        refine HCALL.out.mono ?_
        rintro e w2 ⟨v, rfl, hv, hu2⟩
        have hvs : ∃ b c, v = .slice b kl c ∧ Ints w2 b cs[i].ev.key ∧ ∀ x, b = some x → wr.heap.size ≤ x.block := by
          rcases hv.2 with ⟨rfl, hz⟩ | ⟨g2, c2, cur, rfl, hb2, _⟩
          · have hz' : cs[i].ev.key = [] := List.eq_nil_of_length_eq_zero (by rw [← HKL.out]; exact hz)
            exact ⟨none, 0, by rw [hz], by rw [hz']; exact ints_nil _ _, fun _ h => by simp at h⟩
          · exact ⟨_, c2, rfl, ints_row (by rw [HKL.out] at hv; exact hv), fun x hx => by obtain rfl := Option.some.inj hx; exact hb2⟩
        obtain ⟨b, c, rfl, hints, hfresh⟩ := hvs
        have hst := HC.out.step HG.out hi hu2 hints hfresh (c := c)
        rw [← HKL.out] at hst
        have HST := Lib.hid hst
        have hh2 := HC.out.held.keep hu2 (by simp)
        obtain ⟨c2, f2⟩ := hh2.cell (i * 6 + 1) _ ((flatE_get cs i 1 hi (by omega)).trans rfl)
        generalize cs[i].ka = ka2 at c2
        generalize cs[i].kc = kc2 at c2
        generalize cs[i].ev.key.length = kl2 at c2
        clear hv hu2 hints hfresh hst hh2 c1 f1
        go_wp2_with fail
        go_roundg (gk - 1)
        case measure => omega
        case rel => exact ⟨i + 1, _, by go_num, by omega, HST⟩
      · obtain rfl : i = n := by omega
        have hltz : ¬ (i : Int) < (i : Int) := by omega
        have hlen : cs.length = i := by rw [HC.out.len, ← HN.out]
        have hks : ∀ r ∈ cs, r.ev.key.length ≤ 1000000 := by
          intro r hr
          have hm : r.ev ∈ evs cs := List.mem_map_of_mem hr
          rw [HC.out.same] at hm
          obtain ⟨r', hr', he⟩ := List.mem_map.1 hm
          rw [← he]; exact HKX.out r' hr'
        have hcall := sortStable_cs wr g cap cs HC.out.keys HC.out.far hks HC.out.held (by omega)
        rw [hlen] at hcall
        have HCALL := Lib.hid hcall
        clear hcall hlen hks
        go_wp2_with fail
        refine HCALL.out.mono ?_
        rintro e w2 ⟨rfl, rs', hl', hev, hso, hup⟩
        have HRES : Hid (∃ rs', rs'.length = i ∧ Evs w2 (some ⟨g, 0, none⟩) rs' ∧ IsSort (evs rs) (evs rs') ∧ Upd [] w w2) := by
          rw [HC.out.same] at hso
          exact ⟨rs', hl', hev, hso, HC.out.upd.trans hup (fun x hx hxl => by simp at hx; have := HG.out; omega)⟩
        clear hl' hev hso hup
        go_wp2_with fail
        go_ret
        obtain ⟨rs', hl', h1, h2, h3⟩ := HRES.out
        exact ⟨_, cap, rs', by rw [hl']; rfl, h1, h2, h3⟩
end Go.Proofs.Ytdkkgajamogmeaa
