/- Contracts: equality of events, Great. -/
import Derived.Test.YtdkkgajamogmeaaXC
namespace Go.Proofs.Ytdkkgajamogmeaa
open Go.RowKit Go.Sort Go.Lib

/-- The slice at ad holds the events rs, and their keys can be read. -/
def Evs (w : World) (ad : Option Addr) (rs : List EvR) : Prop := ∀ j (h : j < rs.length), Ints w rs[j].ka rs[j].ev.key ∧ ∃ b off, ad = some ⟨b, off, none⟩ ∧
  w.cell? ⟨b, off + j * 6, none⟩ = some (.int .i64 rs[j].ev.time) ∧ w.cell? ⟨b, off + j * 6 + 1, none⟩ = some (.slice rs[j].ka rs[j].ev.key.length rs[j].kc) ∧ w.cell? ⟨b, off + j * 6 + 2, none⟩ = some (.int .i64 rs[j].ev.lp) ∧
  w.cell? ⟨b, off + j * 6 + 3, none⟩ = some (.int .i64 rs[j].ev.kind) ∧ w.cell? ⟨b, off + j * 6 + 4, none⟩ = some (.int .i64 rs[j].ev.proc) ∧ w.cell? ⟨b, off + j * 6 + 5, none⟩ = some (.int .i64 rs[j].ev.arg)
theorem Evs.keep {S : List Nat} {w w' : World} {ad : Option Addr} {rs : List EvR} (h : Evs w ad rs) (hu : Upd S w w') (h1 : ∀ a, ad = some a → a.block ∉ S) (h2 : ∀ r ∈ rs, ∀ a, r.ka = some a → a.block ∉ S) : Evs w' ad rs := by
  intro j hj
  obtain ⟨h0, b, off, rfl, c0, c1, c2, c3, c4, c5⟩ := h j hj
  have hb : b ∉ S := h1 _ rfl
  exact ⟨h0.keep hu (h2 _ (List.getElem_mem hj)), b, off, rfl, hu.cell c0 hb, hu.cell c1 hb, hu.cell c2 hb, hu.cell c3 hb, hu.cell c4 hb, hu.cell c5 hb⟩
theorem Evs.stay {w w' : World} {ad : Option Addr} {rs : List EvR} (h : Evs w ad rs) (hu : Upd [] w w') : Evs w' ad rs := h.keep hu (by simp) (by simp)
theorem evs_nil (w : World) (ad : Option Addr) : Evs w ad [] := by intro j hj; simp at hj

def greatB (rs : List EvR) : Bool := decide (100 < rs.length) || rs.any (fun r => decide (50 < r.ev.key.length))
theorem greatB_false {rs : List EvR} (h : greatB rs = false) : rs.length ≤ 100 ∧ ∀ r ∈ rs, r.ev.key.length ≤ 50 := by
  simp only [greatB, Bool.or_eq_false_iff, decide_eq_false_iff_not, List.any_eq_false, decide_eq_true_eq] at h
  exact ⟨by omega, fun r hr => by have := h.2 r hr; omega⟩

set_option maxHeartbeats 1000000 in
theorem Great_any (a : Option Addr) (ca : Nat) (rs : List EvR) (w : World) (ha : Evs w a rs) (_hx : rs.length ≤ maxLen) :
    Calls Try.prog 10 #[.slice a rs.length ca] w fun e w' => e = .returned (.bool (greatB rs)) ∧ w = w' := by
  obtain ⟨r, hr⟩ : ∃ r, r = greatB rs := ⟨_, rfl⟩
  rw [← hr]
  have HR := Lib.hid hr
  have HA := Lib.hid ha
  clear hr ha
  obtain ⟨nx, hnx⟩ : ∃ n, n = rs.length := ⟨_, rfl⟩
  rw [← hnx]
  have HNX := Lib.hid hnx
  clear hnx
  by_cases h100 : 100 < nx
  · have hz : (100 : Int) < (nx : Int) := by omega
    go_enter Try.func10, Try.ntmps10
    go_wp2_with fail
    go_ret
    exact ⟨by rw [HR.out, greatB, decide_eq_true (by rw [← HNX.out]; exact h100)]; rfl, rfl⟩
  · have hz : ¬ (100 : Int) < (nx : Int) := by omega
    go_enter Try.func10, Try.ntmps10
    go_wp2_with fail
    go_loopg [3] nx (fun gk vi wr => ∃ k : Nat, vi = .int .i64 k ∧ k + gk = nx ∧ Hid (r = (rs.drop k).any (fun r => decide (50 < r.ev.key.length))) ∧ w = wr)
    case atStart => exact ⟨0, rfl, by omega, by
      show r = _
      rw [HR.out, greatB, decide_eq_false (by rw [← HNX.out]; exact h100)]; rfl, rfl⟩
    case round =>
      obtain ⟨k, rfl, hkg, HK, rfl⟩ := hrel
      by_cases hlt : k < nx
      · have hltz : (k : Int) < (nx : Int) := by omega
        have hk1 : k < rs.length := by have := HNX.out; omega
        obtain ⟨_, b1, o1, rfl, _, c1, _, _, _, _⟩ := HA.out k hk1
        have HKK : Hid (r = (decide (50 < rs[k].ev.key.length) || (rs.drop (k + 1)).any (fun r => decide (50 < r.ev.key.length)))) := by
          show r = _
          rw [HK.out, List.drop_eq_getElem_cons hk1]; rfl
        generalize rs[k].ev.key.length = kl at c1 HKK
        generalize rs[k].ka = ka at c1
        generalize rs[k].kc = kc at c1
        by_cases h50 : 50 < kl
        · have h50z : (50 : Int) < (kl : Int) := by omega
          go_wp2_with fail
          go_ret
          exact ⟨by rw [HKK.out, decide_eq_true h50]; rfl, rfl⟩
        · have h50z : ¬ (50 : Int) < (kl : Int) := by omega
          go_wp2_with fail
          go_roundg (gk - 1)
          case measure => omega
          case rel => exact ⟨k + 1, by go_num, by omega, by
            show r = _
            rw [HKK.out, decide_eq_false h50]; rfl, rfl⟩
      · have hltz : ¬ (k : Int) < (nx : Int) := by omega
        go_wp2_with fail
        go_ret
        exact ⟨by rw [HK.out, List.drop_eq_nil_of_le (by have := HNX.out; omega)]; rfl, rfl⟩

theorem ev_ne {t1 t2 : Int} {k1 k2 : List Int} {l1 l2 d1 d2 p1 p2 g1 g2 : Int} (h : ¬ (t1 = t2 ∧ k1 = k2 ∧ l1 = l2 ∧ d1 = d2 ∧ p1 = p2 ∧ g1 = g2)) : decide ((⟨t1, k1, l1, d1, p1, g1⟩ : Ev) = ⟨t2, k2, l2, d2, p2, g2⟩) = false :=
  decide_eq_false (fun e => h (by simpa using e))
set_option maxHeartbeats 4000000 in
theorem SameEvent_any (r s : EvR) (w : World) (hr : Ints w r.ka r.ev.key) (hs : Ints w s.ka s.ev.key) (hrl : r.ev.key.length ≤ 1000000) (hsl : s.ev.key.length ≤ 1000000) :
    Calls Try.prog 24 #[.agg (encR r).toArray, .agg (encR s).toArray] w fun e w' => e = .returned (.bool (decide (r.ev = s.ev))) ∧ Grown w w' := by
  obtain ⟨⟨t1, k1, l1, d1, p1, g1⟩, a1, c1⟩ := r
  obtain ⟨⟨t2, k2, l2, d2, p2, g2⟩, a2, c2⟩ := s
  unfold encR
  simp only at hr hs hrl hsl ⊢
  have h2 := fun W (hu : Upd [] w W) => SameKey_any a1 a2 c1 c2 k1 k2 W (hr.stay hu) (hs.stay hu) hrl hsl
  obtain ⟨res, hres⟩ : ∃ b, b = decide ((⟨t1, k1, l1, d1, p1, g1⟩ : Ev) = ⟨t2, k2, l2, d2, p2, g2⟩) := ⟨_, rfl⟩
  rw [← hres]
  have HRES := Lib.hid hres
  obtain ⟨kq, hkq⟩ : ∃ b, b = decide (k1 = k2) := ⟨_, rfl⟩
  rw [← hkq] at h2
  have HKQ := Lib.hid hkq
  have H2 := Lib.hid h2
  clear hr hs hrl hsl h2 hres hkq
  generalize hn1 : k1.length = n1 at *
  generalize hn2 : k2.length = n2 at *
  clear hn1 hn2
  by_cases ht : t1 = t2
  · subst ht
    cases kq with
    | true =>
      have hk := of_decide_eq_true HKQ.out.symm
      by_cases e1 : l1 = l2
      · by_cases e2 : d1 = d2
        · by_cases e3 : p1 = p2
          · by_cases e4 : g1 = g2
            · have HRR : Hid (res = true) := by
                show res = true
                rw [HRES.out]; exact decide_eq_true (by rw [hk, e1, e2, e3, e4])
              clear hk HRES HKQ
              subst e1 e2 e3 e4
              go_enter Try.func24, Try.ntmps24
              go_wp2_with fail
              refine (H2.out _ (((Upd.refl [] w).alloc _).alloc _)).mono ?_
              rintro e w' ⟨rfl, hd⟩
              have HG : Hid (Grown w w') := (((Grown.refl w).alloc _).alloc _).trans hd.grown
              have hb1 := hd.grown.upd.at (((Upd.refl [] _).alloc _).at (heap_alloc1 w _) (by simp)) (by simp)
              have hb2 := hd.grown.upd.at (heap_alloc2 w _ _) (by simp)
              have x2 := cell_block hb1 2
              have x3 := cell_block hb1 3
              have x4 := cell_block hb1 4
              have x5 := cell_block hb1 5
              have y2 := cell_block hb2 2
              have y3 := cell_block hb2 3
              have y4 := cell_block hb2 4
              have y5 := cell_block hb2 5
              simp only [List.getElem?_toArray, List.getElem?_cons_zero, List.getElem?_cons_succ] at x2 x3 x4 x5 y2 y3 y4 y5
              clear hb1 hb2 hd
              go_wp2_with fail
              go_ret
              exact ⟨by rw [HRR.out]; rfl, HG.out⟩
            · have hn : (g1 == g2) = false := by rw [beq_eq_false_iff_ne]; exact e4
              have HRR : Hid (res = false) := by
                show res = false
                rw [HRES.out]; exact ev_ne (fun h => e4 h.2.2.2.2.2)
              clear hk HRES HKQ
              subst e1 e2 e3
              go_enter Try.func24, Try.ntmps24
              go_wp2_with fail
              refine (H2.out _ (((Upd.refl [] w).alloc _).alloc _)).mono ?_
              rintro e w' ⟨rfl, hd⟩
              have HG : Hid (Grown w w') := (((Grown.refl w).alloc _).alloc _).trans hd.grown
              have hb1 := hd.grown.upd.at (((Upd.refl [] _).alloc _).at (heap_alloc1 w _) (by simp)) (by simp)
              have hb2 := hd.grown.upd.at (heap_alloc2 w _ _) (by simp)
              have x2 := cell_block hb1 2
              have x3 := cell_block hb1 3
              have x4 := cell_block hb1 4
              have x5 := cell_block hb1 5
              have y2 := cell_block hb2 2
              have y3 := cell_block hb2 3
              have y4 := cell_block hb2 4
              have y5 := cell_block hb2 5
              simp only [List.getElem?_toArray, List.getElem?_cons_zero, List.getElem?_cons_succ] at x2 x3 x4 x5 y2 y3 y4 y5
              clear hb1 hb2 hd
              go_wp2_with fail
              go_ret
              exact ⟨by rw [HRR.out]; rfl, HG.out⟩
          · have hn : (p1 == p2) = false := by rw [beq_eq_false_iff_ne]; exact e3
            have HRR : Hid (res = false) := by
              show res = false
              rw [HRES.out]; exact ev_ne (fun h => e3 h.2.2.2.2.1)
            clear hk HRES HKQ
            subst e1 e2
            go_enter Try.func24, Try.ntmps24
            go_wp2_with fail
            refine (H2.out _ (((Upd.refl [] w).alloc _).alloc _)).mono ?_
            rintro e w' ⟨rfl, hd⟩
            have HG : Hid (Grown w w') := (((Grown.refl w).alloc _).alloc _).trans hd.grown
            have hb1 := hd.grown.upd.at (((Upd.refl [] _).alloc _).at (heap_alloc1 w _) (by simp)) (by simp)
            have hb2 := hd.grown.upd.at (heap_alloc2 w _ _) (by simp)
            have x2 := cell_block hb1 2
            have x3 := cell_block hb1 3
            have x4 := cell_block hb1 4
            have x5 := cell_block hb1 5
            have y2 := cell_block hb2 2
            have y3 := cell_block hb2 3
            have y4 := cell_block hb2 4
            have y5 := cell_block hb2 5
            simp only [List.getElem?_toArray, List.getElem?_cons_zero, List.getElem?_cons_succ] at x2 x3 x4 x5 y2 y3 y4 y5
            clear hb1 hb2 hd
            go_wp2_with fail
            go_ret
            exact ⟨by rw [HRR.out]; rfl, HG.out⟩
        · have hn : (d1 == d2) = false := by rw [beq_eq_false_iff_ne]; exact e2
          have HRR : Hid (res = false) := by
            show res = false
            rw [HRES.out]; exact ev_ne (fun h => e2 h.2.2.2.1)
          clear hk HRES HKQ
          subst e1
          go_enter Try.func24, Try.ntmps24
          go_wp2_with fail
          refine (H2.out _ (((Upd.refl [] w).alloc _).alloc _)).mono ?_
          rintro e w' ⟨rfl, hd⟩
          have HG : Hid (Grown w w') := (((Grown.refl w).alloc _).alloc _).trans hd.grown
          have hb1 := hd.grown.upd.at (((Upd.refl [] _).alloc _).at (heap_alloc1 w _) (by simp)) (by simp)
          have hb2 := hd.grown.upd.at (heap_alloc2 w _ _) (by simp)
          have x2 := cell_block hb1 2
          have x3 := cell_block hb1 3
          have x4 := cell_block hb1 4
          have x5 := cell_block hb1 5
          have y2 := cell_block hb2 2
          have y3 := cell_block hb2 3
          have y4 := cell_block hb2 4
          have y5 := cell_block hb2 5
          simp only [List.getElem?_toArray, List.getElem?_cons_zero, List.getElem?_cons_succ] at x2 x3 x4 x5 y2 y3 y4 y5
          clear hb1 hb2 hd
          go_wp2_with fail
          go_ret
          exact ⟨by rw [HRR.out]; rfl, HG.out⟩
      · have hn : (l1 == l2) = false := by rw [beq_eq_false_iff_ne]; exact e1
        have HRR : Hid (res = false) := by
          show res = false
          rw [HRES.out]; exact ev_ne (fun h => e1 h.2.2.1)
        clear hk HRES HKQ
        go_enter Try.func24, Try.ntmps24
        go_wp2_with fail
        refine (H2.out _ (((Upd.refl [] w).alloc _).alloc _)).mono ?_
        rintro e w' ⟨rfl, hd⟩
        have HG : Hid (Grown w w') := (((Grown.refl w).alloc _).alloc _).trans hd.grown
        have hb1 := hd.grown.upd.at (((Upd.refl [] _).alloc _).at (heap_alloc1 w _) (by simp)) (by simp)
        have hb2 := hd.grown.upd.at (heap_alloc2 w _ _) (by simp)
        have x2 := cell_block hb1 2
        have x3 := cell_block hb1 3
        have x4 := cell_block hb1 4
        have x5 := cell_block hb1 5
        have y2 := cell_block hb2 2
        have y3 := cell_block hb2 3
        have y4 := cell_block hb2 4
        have y5 := cell_block hb2 5
        simp only [List.getElem?_toArray, List.getElem?_cons_zero, List.getElem?_cons_succ] at x2 x3 x4 x5 y2 y3 y4 y5
        clear hb1 hb2 hd
        go_wp2_with fail
        go_ret
        exact ⟨by rw [HRR.out]; rfl, HG.out⟩
    | false =>
      have hk := of_decide_eq_false HKQ.out.symm
      have HRR : Hid (res = false) := by
        show res = false
        rw [HRES.out]; exact ev_ne (fun h => hk h.2.1)
      clear hk HRES HKQ
      go_enter Try.func24, Try.ntmps24
      go_wp2_with fail
      refine (H2.out _ (((Upd.refl [] w).alloc _).alloc _)).mono ?_
      rintro e w' ⟨rfl, hd⟩
      have HG : Hid (Grown w w') := (((Grown.refl w).alloc _).alloc _).trans hd.grown
      have hb1 := hd.grown.upd.at (((Upd.refl [] _).alloc _).at (heap_alloc1 w _) (by simp)) (by simp)
      have hb2 := hd.grown.upd.at (heap_alloc2 w _ _) (by simp)
      have x2 := cell_block hb1 2
      have x3 := cell_block hb1 3
      have x4 := cell_block hb1 4
      have x5 := cell_block hb1 5
      have y2 := cell_block hb2 2
      have y3 := cell_block hb2 3
      have y4 := cell_block hb2 4
      have y5 := cell_block hb2 5
      simp only [List.getElem?_toArray, List.getElem?_cons_zero, List.getElem?_cons_succ] at x2 x3 x4 x5 y2 y3 y4 y5
      clear hb1 hb2 hd
      go_wp2_with fail
      go_ret
      exact ⟨by rw [HRR.out]; rfl, HG.out⟩
  · have hn : (t1 == t2) = false := by rw [beq_eq_false_iff_ne]; exact ht
    have HRR : Hid (res = false) := by
      show res = false
      rw [HRES.out]; exact ev_ne (fun h => ht h.1)
    go_enter Try.func24, Try.ntmps24
    go_wp2_with fail
    go_ret
    exact ⟨by rw [HRR.out]; rfl, ((Grown.refl w).alloc _).alloc _⟩
end Go.Proofs.Ytdkkgajamogmeaa
