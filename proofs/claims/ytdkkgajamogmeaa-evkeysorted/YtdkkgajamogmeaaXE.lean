/- Contracts: equality of rows of events. -/
import Derived.Test.YtdkkgajamogmeaaXD
namespace Go.Proofs.Ytdkkgajamogmeaa
open Go.RowKit Go.Sort Go.Lib

def evs (rs : List EvR) : List Ev := rs.map EvR.ev
theorem evs_length (rs : List EvR) : (evs rs).length = rs.length := by simp [evs]
theorem evs_drop (rs : List EvR) (k : Nat) (h : k < rs.length) : (evs rs).drop k = rs[k].ev :: (evs rs).drop (k + 1) := by
  rw [List.drop_eq_getElem_cons (by rw [evs_length]; exact h)]
  simp [evs]
theorem Evs.at {w : World} {ad : Option Addr} {rs : List EvR} (h : Evs w ad rs) (k : Nat) (hk : k < rs.length) : ∃ b off, ad = some ⟨b, off, none⟩ ∧ b < w.heap.size ∧ ∀ (n : Nat) (os : Array Obj),
    (grow (w.drewN n) os).cell? ⟨b, off + k * 6, none⟩ = some (.int .i64 rs[k].ev.time) ∧ (grow (w.drewN n) os).cell? ⟨b, off + k * 6 + 1, none⟩ = some (.slice rs[k].ka rs[k].ev.key.length rs[k].kc) ∧ (grow (w.drewN n) os).cell? ⟨b, off + k * 6 + 2, none⟩ = some (.int .i64 rs[k].ev.lp) ∧
    (grow (w.drewN n) os).cell? ⟨b, off + k * 6 + 3, none⟩ = some (.int .i64 rs[k].ev.kind) ∧ (grow (w.drewN n) os).cell? ⟨b, off + k * 6 + 4, none⟩ = some (.int .i64 rs[k].ev.proc) ∧ (grow (w.drewN n) os).cell? ⟨b, off + k * 6 + 5, none⟩ = some (.int .i64 rs[k].ev.arg) := by
  obtain ⟨_, b, off, rfl, c0, c1, c2, c3, c4, c5⟩ := h k hk
  have hb : b < w.heap.size := World.block_lt_of_cell? w _ c0
  exact ⟨b, off, rfl, hb, fun n os => ⟨cell_grown hb c0 n os, cell_grown hb c1 n os, cell_grown hb c2 n os, cell_grown hb c3 n os, cell_grown hb c4 n os, cell_grown hb c5 n os⟩⟩

set_option maxHeartbeats 4000000 in
theorem SameEvents_any (a b : Option Addr) (ca cb : Nat) (rs ss : List EvR) (w : World) (ha : Evs w a rs) (hb : Evs w b ss) (hx : rs.length ≤ 1000000) (hy : ss.length ≤ 1000000) (hkx : ∀ r ∈ rs, r.ev.key.length ≤ 1000000) (hky : ∀ r ∈ ss, r.ev.key.length ≤ 1000000) :
    Calls Try.prog 20 #[.slice a rs.length ca, .slice b ss.length cb] w fun e w' => e = .returned (.bool (decide (evs rs = evs ss))) ∧ Grown w w' := by
  have mixed : Try.prog.follows .mixedOrders = true := by kernel_rfl
  obtain ⟨res, hres⟩ : ∃ r, r = decide (evs rs = evs ss) := ⟨_, rfl⟩
  rw [← hres]
  have HRES := Lib.hid hres
  have HA := Lib.hid ha; have HB := Lib.hid hb; have HKX := Lib.hid hkx; have HKY := Lib.hid hky
  clear hres ha hb hkx hky
  obtain ⟨nx, hnx⟩ : ∃ n, n = rs.length := ⟨_, rfl⟩
  obtain ⟨ny, hny⟩ : ∃ n, n = ss.length := ⟨_, rfl⟩
  rw [← hnx, ← hny]
  rw [← hnx] at hx
  rw [← hny] at hy
  have HNX := Lib.hid hnx; have HNY := Lib.hid hny
  clear hnx hny
  by_cases hn : nx = ny
  · subst hn
    go_enter Try.func20, Try.ntmps20
    go_wp2_with fail
    go_loopg [5] nx (fun gk vi wr => ∃ k : Nat, vi = .int .i64 k ∧ k + gk = nx ∧ Hid (res = decide ((evs rs).drop k = (evs ss).drop k)) ∧ Hid (Grown w wr))
    case atStart => exact ⟨0, rfl, by omega, HRES.out, Grown.refl w⟩
    case round =>
      obtain ⟨k, rfl, hkg, HK, HG⟩ := hrel
      by_cases hlt : k < nx
      · have hltz : (k : Int) < (nx : Int) := by omega
        have hk1 : k < rs.length := by have := HNX.out; omega
        have hk2 : k < ss.length := by have := HNY.out; omega
        have HA1 : Hid (Evs wr a rs) := HA.out.stay HG.out.upd
        have HB1 : Hid (Evs wr b ss) := HB.out.stay HG.out.upd
        obtain ⟨b1, o1, rfl, _, hc⟩ := HA1.out.at k hk1
        obtain ⟨b2, o2, rfl, _, hd⟩ := HB1.out.at k hk2
        have hcall := fun n os => SameEvent_any rs[k] ss[k] (grow (wr.drewN n) os) ((HA1.out k hk1).1.stay (Grown.upd ⟨n, os, rfl⟩)) ((HB1.out k hk2).1.stay (Grown.upd ⟨n, os, rfl⟩)) (HKX.out _ (List.getElem_mem _)) (HKY.out _ (List.getElem_mem _))
        have HKK : Hid (res = (decide (rs[k].ev = ss[k].ev) && decide ((evs rs).drop (k + 1) = (evs ss).drop (k + 1)))) := by
          show res = _
          rw [HK.out, ← Bool.decide_and]
          exact decide_eq_decide.2 (by rw [evs_drop rs k hk1, evs_drop ss k hk2, List.cons.injEq])
        generalize rs[k] = r at hc hcall HKK
        generalize ss[k] = s at hd hcall HKK
        generalize decide (r.ev = s.ev) = bq at hcall HKK
        simp only [encR] at hcall
        generalize r.ev.time = t1 at hc hcall
        generalize r.ev.key.length = n1 at hc hcall
        generalize r.ev.lp = l1 at hc hcall
        generalize r.ev.kind = d1 at hc hcall
        generalize r.ev.proc = p1 at hc hcall
        generalize r.ev.arg = g1 at hc hcall
        generalize s.ev.time = t2 at hd hcall
        generalize s.ev.key.length = n2 at hd hcall
        generalize s.ev.lp = l2 at hd hcall
        generalize s.ev.kind = d2 at hd hcall
        generalize s.ev.proc = p2 at hd hcall
        generalize s.ev.arg = g2 at hd hcall
        generalize r.ka = a1 at hc hcall
        generalize r.kc = c1 at hc hcall
        generalize s.ka = a2 at hd hcall
        generalize s.kc = c2 at hd hcall
        have HCALL := Lib.hid hcall
        clear hcall
        go_wp2_with fail
        go_quiet_grown (first | (go_at_call 24; exact Calls.grown_of (HCALL.out _ _)))
        have HG2 : Hid (Grown w (grow (wr.drewN nq) osq)) := HG.out.trans ⟨nq, osq, rfl⟩
        clear hc hd
        generalize grow (wr.drewN nq) osq = w2 at HG2 ⊢
        clear nq osq
        cases bq with
        | true =>
          go_wp2_with fail
          go_roundg (gk - 1)
          case measure => omega
          case rel => exact ⟨k + 1, by go_num, by omega, by
            show res = _
            rw [HKK.out]; rfl, HG2⟩
        | false =>
          go_wp2_with fail
          go_ret
          exact ⟨by rw [HKK.out]; rfl, HG2.out⟩
      · have hltz : ¬ (k : Int) < (nx : Int) := by omega
        go_wp2_with fail
        go_ret
        exact ⟨by rw [HK.out, decide_eq_true (by rw [List.drop_eq_nil_of_le (by rw [evs_length]; have := HNX.out; omega), List.drop_eq_nil_of_le (by rw [evs_length]; have := HNY.out; omega)])]; rfl, HG.out⟩
  · have hz : ((nx : Int) == (ny : Int)) = false := by rw [beq_eq_false_iff_ne]; omega
    go_enter Try.func20, Try.ntmps20
    go_wp2_with fail
    go_ret
    refine ⟨?_, Grown.refl w⟩
    rw [HRES.out, decide_eq_false]
    · rfl
    · intro h
      have := congrArg List.length h
      rw [evs_length, evs_length, ← HNX.out, ← HNY.out] at this
      exact hn this
end Go.Proofs.Ytdkkgajamogmeaa
