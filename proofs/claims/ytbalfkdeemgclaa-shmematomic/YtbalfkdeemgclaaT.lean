/- ShmemAtomic: the walk. -/
import Derived.Test.YtbalfkdeemgclaaL
namespace Go.Proofs.Ytbalfkdeemgclaa
open Go.RowKit

/-- What holds at the head of the loop that plays the operations, after k of them (w: the world at its start, with what the law itself holds). -/
def PlRel (w : World) (p bw bm : Nat) (rs : List Rw) (g : Nat) (i : Value) (wr : World) : Prop :=
  ∃ k F s, i = .int .i64 (k : Nat) ∧ k + g = rs.length ∧ Mem F p bw bm s wr ∧ Four k s ∧ (∀ x ∈ F, w.heap.size ≤ x) ∧ Upd [] w wr
theorem pl_next {w wr w2 w3 : World} {p bw bm k g : Nat} {rs : List Rw} {F2 F3 : List Nat} {s : St} {i : Value} (hi : i = .int .i64 ((k + 1 : Nat) : Int)) (hkg : k + 1 + g = rs.length) (h4 : Four k s) (o : Oq) (ho : 0 ≤ o.t) (hF2 : ∀ x ∈ F2, w.heap.size ≤ x) (hU : Upd [] w wr)
    (hu2 : Upd [] wr w2) (hG3 : Goes F2 F3 w2 w3) (hM3 : Mem F3 p bw bm (s.step o).1 w3) : PlRel w p bw bm rs g i w3 := by
  refine ⟨k + 1, F3, (s.step o).1, hi, hkg, hM3, h4.step o ho, fun x hx => (hG3.2 x hx).elim (hF2 x) (fun h => Nat.le_trans (Nat.le_trans hU.size hu2.size) h), ?_⟩
  exact (hU.trans hu2 (by simp)).trans hG3.1 (fun x hx hl => absurd (hF2 x hx) (by omega))

/-- The words behind an operation. -/
def wNew (o : Oq) (x : Int) : Int := if o.k = 2 then wrap64 (x + o.a) else if o.k = 4 then o.a else if o.k = 3 then (if x = o.a then o.b else x) else x
theorem w_step (s : St) (o : Oq) (h4w : s.ws.length = 4) (hk : 1 ≤ o.k) (j : Nat) (hj : j < 4) : (s.step o).1.x j = if o.i = j then wNew o (s.x j) else s.x j := by
  have hset : ∀ (y : Int), (s.ws.set o.i.toNat y).getD j 0 = if o.i.toNat = j then y else s.ws.getD j 0 := by
    intro y
    simp only [List.getD_eq_getElem?_getD, List.getElem?_set]
    split
    · rename_i h; subst h; simp [h4w, hj]
    · rfl
  by_cases hi : o.i = j
  · have hw : 0 ≤ o.i ∧ o.i < s.ws.length := by omega
    have ht : o.i.toNat = j := by omega
    rw [if_pos hi]
    unfold St.step wNew
    rw [if_pos hw, hi]
    rw [hi] at hset ht
    repeat' split
    all_goals first | (exfalso; omega) | rfl | (simp only [St.x] at *; simp [*]; done) | (simp only [St.x] at *; rw [hset]; simp [*])
  · rw [if_neg hi]
    unfold St.step
    repeat' split
    all_goals first | rfl | (simp only [St.x, Int.toNat_natCast]; rw [hset, if_neg (by omega)])
theorem n_step (s : St) (o : Oq) (h4w : s.ws.length = 4) (hi : 0 ≤ o.i ∧ o.i < 4) : (o.k = 2 → (s.step o).2.1 = wrap64 (s.x o.i + o.a)) ∧ (o.k = 1 → (s.step o).2.1 = s.x o.i) ∧ (o.k = 3 → (s.step o).2.2 = decide (s.x o.i = o.a)) := by
  have hw : 0 ≤ o.i ∧ o.i < s.ws.length := by omega
  refine ⟨fun h => ?_, fun h => ?_, fun h => ?_⟩
  · unfold St.step; simp [h, hw]
  · unfold St.step; simp [h, hw]
  · unfold St.step
    by_cases hx : s.x o.i = o.a <;> simp [h, hw, hx]

/-- The block of the words as they were: so far k of them are copied. -/
def WasAt (s : St) (wb k : Nat) (wr : World) : Prop := ∃ c : Array Value, wr.heap[wb]? = some (.cells c 45 (0, 0)) ∧ c.size = 4 ∧ ∀ j, j < k → c[j]? = some (.int .i64 (s.x j))
def WaRel (wC : World) (s : St) (wb : Nat) (F : List Nat) (p bw bm : Nat) (g : Nat) (i : Value) (wr : World) : Prop :=
  ∃ k, i = .int .i64 (k : Nat) ∧ k + g = 4 ∧ WasAt s wb k wr ∧ Mem F p bw bm s wr ∧ Upd [wb] wC wr
theorem wa_next {wC wr : World} {s : St} {wb : Nat} {F : List Nat} {p bw bm k g : Nat} {i : Value} (hi : i = .int .i64 ((k + 1 : Nat) : Int)) (hk : k + 1 + g = 4) (h : WasAt s wb k wr) (hM : Mem F p bw bm s wr) (hU : Upd [wb] wC wr) (hF : wb ∉ F) :
    WaRel wC s wb F p bw bm g i (wr.setCell ⟨wb, k, none⟩ (.int .i64 (s.x k))) := by
  obtain ⟨c, hc, hs, hj⟩ := h
  refine ⟨k + 1, hi, hk, ⟨_, setCell_block hc _, by simpa using hs, fun j hjk => ?_⟩, hM.keep ((Upd.refl [wb] wr).setCell (by simp) _) (fun x hx hx' => by simp at hx'; subst hx'; exact hF hx), hU.setCell (by simp) _⟩
  by_cases he : j = k
  · subst he
    rw [Array.getElem?_setIfInBounds_self_of_lt (by omega)]
  · rw [Array.getElem?_setIfInBounds_ne (by omega)]
    exact hj j (by omega)
theorem WasAt.cell {s : St} {wb k : Nat} {wr : World} (h : WasAt s wb k wr) (j : Nat) (hj : j < k) : wr.cell? ⟨wb, j, none⟩ = some (.int .i64 (s.x j)) := by
  obtain ⟨c, hc, hs, hx⟩ := h
  rw [cell_block hc, hx j hj]
theorem WasAt.some {s : St} {wb k : Nat} {wr : World} (h : WasAt s wb k wr) (j : Nat) (hj : j < 4) : (∃ v, wr.cell? ⟨wb, j, none⟩ = some v) ∧ wr.frozen? ⟨wb, j, none⟩ = false := by
  obtain ⟨c, hc, hs, hx⟩ := h
  exact ⟨⟨c[j]'(by omega), by rw [cell_block hc]; exact Array.getElem?_eq_getElem _⟩, free_block hc _⟩

set_option maxRecDepth 100000 in
set_option maxHeartbeats 4000000 in
theorem Atomic_any (ad : Option Addr) (rs : List Rw) (cap : Nat) (r : Rw) (w : World) (hr : Raws w ad rs) (hlen : rs.length ≤ maxLen) (hro : r.Ok) :
    Calls Try.prog 6 #[.slice ad rs.length cap, .agg #[.int .u8 r.k, .int .u8 r.t, .int .u8 r.i, .int .i64 r.a, .int .i64 r.b]] w fun e w' => e = .returned (.bool true) ∧ Upd [] w w' := by
  unfold maxLen at hlen
  have HR := Lib.hid hr; clear hr
  have hA := (Upd.refl [] w).alloc (.cells #[.int .u8 r.k, .int .u8 r.t, .int .u8 r.i, .int .i64 r.a, .int .i64 r.b] 32)
  have hxb := heap_alloc1 w (.cells #[.int .u8 r.k, .int .u8 r.t, .int .u8 r.i, .int .i64 r.a, .int .i64 r.b] 32)
  have hsz : (w.alloc (.cells #[.int .u8 r.k, .int .u8 r.t, .int .u8 r.i, .int .i64 r.a, .int .i64 r.b] 32)).heap.size = w.heap.size + 1 := by simp
  obtain ⟨wA, hwA⟩ : ∃ wA, wA = w.alloc (.cells #[.int .u8 r.k, .int .u8 r.t, .int .u8 r.i, .int .i64 r.a, .int .i64 r.b] 32) := ⟨_, rfl⟩
  rw [← hwA] at hA hxb hsz
  have HA := Lib.hid hA; have HXB := Lib.hid hxb; have HWA := Lib.hid hwA; have HSZ := Lib.hid hsz; clear hA hxb hwA hsz
  by_cases hn : 200 < rs.length
  · go_enter Try.func6, Try.ntmps6
    go_wp2_with fail
    rw [← HWA.out]
    refine (head_any _).mono ?_
    rintro e w0 ⟨rfl, hu0⟩
    go_wp2_with fail
    refine (New_yes 4 4 (by omega) (by omega) _).mono ?_
    rintro e w1 ⟨p, bw, bm, F, rfl, hM, hF, hu1⟩
    clear hM hF
    go_wp2_with fail
    go_ret
    exact ⟨rfl, (HA.out.trans hu0 (by simp)).trans hu1 (by simp)⟩
  · have hn0 : decide (200 < (rs.length : Int)) = false := by simp; omega
    go_enter Try.func6, Try.ntmps6
    go_wp2_with fail
    rw [← HWA.out]
    refine (head_any _).mono ?_
    rintro e w0 ⟨rfl, hu0⟩
    go_wp2_with fail
    refine (New_yes 4 4 (by omega) (by omega) _).mono ?_
    rintro e w1 ⟨p, bw, bm, F, rfl, hM, hF, hu1⟩
    have HM := Lib.hid hM; have HF := Lib.hid hF; clear hM hF
    go_wp2_with fail
    go_loopg [7] rs.length (fun g i wr => PlRel wA p bw bm rs g i wr)
    case atStart =>
      exact ⟨0, F, zeroSt 4 4, rfl, by omega, HM.out, four_zero, fun x hx => Nat.le_trans hu0.size (HF.out x hx), (hu0.trans hu1 (by simp))⟩
    case round =>
      obtain ⟨k, F2, s, rfl, hkg, hM, h4, hF2, hU⟩ := hrel
      have HM := Lib.hid hM; have H4 := Lib.hid h4; have HF2 := Lib.hid hF2; have HU := Lib.hid hU
      clear hM h4 hF2 hU
      by_cases hk : k < rs.length
      · obtain ⟨hok, bl, off, rfl, c0, c1, c2, c3, c4⟩ := (HR.out.keep (HA.out.trans HU.out (by simp))) k hk
        obtain ⟨k0, k1, t0, t1, i0, i1⟩ := hok
        go_wp2_with fail
        refine (Op_any _ _ _ _ _ ⟨k0, k1⟩ ⟨t0, t1⟩ ⟨i0, i1⟩ _).mono ?_
        rintro e w2 ⟨rfl, hu2⟩
        clear c0 c1 c2 c3 c4
        go_wp2_with fail
        refine (do_any (HM.out.stay hu2) (H4.out.small (by omega)) _ _ _ _ _ ⟨by omega, by omega⟩).mono ?_
        rintro e w3 ⟨rfl, F3, hM3, hG3⟩
        have HM3 := Lib.hid hM3; clear hM3
        go_wp2_with fail
        go_roundg (gk - 1)
        case measure => omega
        case rel => exact pl_next (by go_num) (by omega) H4.out _ (by simp only; omega) HF2.out HU.out hu2 hG3 HM3.out
      · obtain ⟨k0, k1, t0, t1, i0, i1⟩ := hro
        have hX := HU.out.at HXB.out (by simp)
        have x0 := cell_block hX 0
        have x1 := cell_block hX 1
        have x2 := cell_block hX 2
        have x3 := cell_block hX 3
        have x4 := cell_block hX 4
        simp only [List.getElem?_toArray, List.getElem?_cons_zero, List.getElem?_cons_succ] at x0 x1 x2 x3 x4
        clear hX
        go_wp2_with fail
        refine (Op_any _ _ _ _ _ ⟨k0, k1⟩ ⟨t0, t1⟩ ⟨i0, i1⟩ _).mono ?_
        rintro e w2 ⟨rfl, hu2⟩
        clear x0 x1 x2 x3 x4
        have kk0 : 1 ≤ r.k % 7 + 1 ∧ r.k % 7 + 1 ≤ 7 := by omega
        have tt0 : 0 ≤ r.t % 4 := by omega
        have ii0 : -1 ≤ r.i % 6 - 1 ∧ r.i % 6 - 1 ≤ 4 := by omega
        clear k0 k1 t0 t1 i0 i1
        generalize r.k % 7 + 1 = kk at *
        generalize r.t % 4 = tt at *
        generalize r.i % 6 - 1 = ii at *
        generalize r.a = aa at *
        generalize r.b = bb at *
        obtain ⟨kk0, kk1⟩ := kk0
        obtain ⟨ii0, ii1⟩ := ii0
        go_wp2_with fail
        obtain ⟨O, hO⟩ : ∃ O, O = Obj.cells #[.int .i64 kk, .int .i64 tt, .int .i64 ii, .int .i64 aa, .int .i64 bb] 29 := ⟨_, rfl⟩
        obtain ⟨Z, hZ⟩ : ∃ Z, Z = Obj.cells #[.int .i64 0, .int .i64 0, .int .i64 0, .int .i64 0] 45 := ⟨_, rfl⟩
        rw [← hO, ← hZ]
        have hC := ((Upd.refl [] w2).alloc O).alloc Z
        have hob := (((Upd.refl [] (w2.alloc O)).alloc Z).at (heap_alloc1 w2 O) (by simp))
        have hwb := heap_alloc2 w2 O Z
        have hcz : ((w2.alloc O).alloc Z).heap.size = w2.heap.size + 2 := by simp
        obtain ⟨wC, hwC⟩ : ∃ wC, wC = (w2.alloc O).alloc Z := ⟨_, rfl⟩
        rw [← hwC] at hC hob hwb hcz ⊢
        rw [hO] at hob
        rw [hZ] at hwb
        have HC := Lib.hid hC; have HOB := Lib.hid hob; have HWB := Lib.hid hwb; have HCZ := Lib.hid hcz
        clear hO hZ hC hob hwb hwC hcz
        have HMC := Lib.hid ((HM.out.stay hu2).stay HC.out)
        have hwF : w2.heap.size + 1 ∉ F2 := fun hx => by have := HM.out.lt _ hx; have := hu2.size; omega
        have hoF : w2.heap.size ∉ F2 := fun hx => by have := HM.out.lt _ hx; have := hu2.size; omega
        have HWF := Lib.hid hwF; have HOF := Lib.hid hoF; clear hwF hoF
        have hk200 : k ≤ 200 := by omega
        have hsm := H4.out.small (by omega)
        have hw4 := H4.out.ws
        have HW4 := Lib.hid hw4; clear hw4
        clear hk hkg
        have HWC : Hid (Upd [] w wC ∧ w.heap.size ≤ w2.heap.size) := ⟨((HA.out.trans HU.out (by simp)).trans hu2 (by simp)).trans HC.out (by simp), Nat.le_trans (HA.out.trans HU.out (by simp)).size hu2.size⟩
        go_loopg [10] 4 (fun g i wr => WaRel wC s (w2.heap.size + 1) F2 p bw bm g i wr)
        case atStart => exact ⟨0, rfl, rfl, ⟨_, HWB.out, rfl, fun j hj => absurd hj (by omega)⟩, HMC.out, Upd.refl _ _⟩
        case round =>
          obtain ⟨k2, rfl, hk2, hwas, hMq, hUq⟩ := hrel
          have HWAS := Lib.hid hwas; have HMQ := Lib.hid hMq; have HUQ := Lib.hid hUq
          clear hwas hMq hUq
          by_cases hk4 : k2 < 4
          · obtain ⟨⟨vo, hvo⟩, hfo⟩ := HWAS.out.some k2 hk4
            go_wp2_with fail
            refine (Word_in HMQ.out hsm k2 (by rw [HW4.out]; exact hk4)).mono ?_
            rintro e w5 ⟨rfl, rfl⟩
            rw [← x_at]
            go_wp2_with fail
            go_roundg (3 - k2)
            case measure => omega
            case rel => exact wa_next (by go_num) (by omega) HWAS.out HMQ.out HUQ.out HWF.out
          · obtain rfl : k2 = 4 := by omega
            have hobq := HUQ.out.at HOB.out (by simp)
            have y0 := cell_block hobq 0
            have y1 := cell_block hobq 1
            have y2 := cell_block hobq 2
            have y3 := cell_block hobq 3
            have y4 := cell_block hobq 4
            simp only [List.getElem?_toArray, List.getElem?_cons_zero, List.getElem?_cons_succ] at y0 y1 y2 y3 y4
            have HOBQ := Lib.hid hobq; clear hobq
            go_wp2_with fail
            refine (do_any HMQ.out hsm kk tt ii aa bb ⟨kk0, kk1⟩).mono ?_
            rintro e w3 ⟨rfl, F3, hM3, hG3⟩
            clear y0 y1 y2 y3 y4
            have HOB3 := Lib.hid (hG3.1.at HOBQ.out HOF.out)
            have HWAS3 : Hid (∀ j, j < 4 → w3.cell? ⟨w2.heap.size + 1, j, none⟩ = some (.int .i64 (s.x j))) := fun j hj => hG3.1.cell (HWAS.out.cell j hj) HWF.out
            have hfin : Upd [] w w3 := by
              have h3 : Upd [] w wr := HWC.out.1.trans HUQ.out (by intro x hx hl; simp at hx; have := HWC.out.2; omega)
              exact h3.trans hG3.1 (fun x hx hl => absurd (HF2.out x hx) (by have := HSZ.out; omega))
            have hns := fun hi => n_step s ⟨kk, tt, ii, aa, bb⟩ HW4.out hi
            have hws := fun j hj => w_step s ⟨kk, tt, ii, aa, bb⟩ HW4.out kk0 j hj
            have hsm1 := (H4.out.step ⟨kk, tt, ii, aa, bb⟩ tt0).small (by omega)
            have hw41 := (H4.out.step ⟨kk, tt, ii, aa, bb⟩ tt0).ws
            generalize hso : (s.step ⟨kk, tt, ii, aa, bb⟩).2.2 = ok at *
            generalize hsx : (s.step ⟨kk, tt, ii, aa, bb⟩).2.1 = xx at *
            generalize hs1 : (s.step ⟨kk, tt, ii, aa, bb⟩).1 = s1 at *
            have HM3 := Lib.hid hM3; have HNS := Lib.hid hns; have HWS := Lib.hid hws; have HW41 := Lib.hid hw41
            clear hso hsx hs1 hM3 hns hws hw41
            go_wp2_with fail
            go_loopg [13] 4 (fun g i wy => ∃ k3 : Nat, i = .int .i64 (k3 : Nat) ∧ k3 + g = 4 ∧ Upd [] w3 wy)
            case atStart => exact ⟨0, rfl, rfl, Upd.refl _ _⟩
            case round =>
              obtain ⟨k3, rfl, hk3, hUy⟩ := hrel
              by_cases hk34 : k3 < 4
              · have z0 := hUy.cell (HWAS3.out k3 hk34) (by simp)
                have hob3 := hUy.at HOB3.out (by simp)
                have y0 := cell_block hob3 0
                have y2 := cell_block hob3 2
                have y3 := cell_block hob3 3
                have y4 := cell_block hob3 4
                simp only [List.getElem?_toArray, List.getElem?_cons_zero, List.getElem?_cons_succ] at y0 y2 y3 y4
                clear hob3
                have HMY := Lib.hid (HM3.out.stay hUy)
                have hwk := HWS.out k3 hk34
                have hk31 : k3 < s1.ws.length := by rw [HW41.out]; exact hk34
                have hxk := x_at hk31
                by_cases hi : ii = k3
                · subst hi
                  rw [if_pos rfl] at hwk
                  obtain ⟨n2, n1, n3⟩ := HNS.out ⟨by omega, by omega⟩
                  have HWK := Lib.hid hwk; have HXK := Lib.hid hxk; have N1 := Lib.hid n1; have N2 := Lib.hid n2; have N3 := Lib.hid n3
                  clear hwk hxk n1 n2 n3
                  generalize hx : s.x (k3 : Nat) = x at *
                  clear hx
                  rcases (show kk = 1 ∨ kk = 2 ∨ kk = 3 ∨ kk = 4 ∨ 5 ≤ kk from by omega) with rfl | rfl | rfl | rfl | h5
                  · have hv : s1.ws[k3] = x := by rw [← HXK.out, HWK.out]; simp [wNew]
                    obtain rfl : xx = x := N1.out rfl
                    have HV := Lib.hid hv; clear hv
                    go_wp2_with fail
                    refine (Word_in HMY.out hsm1 k3 hk31).mono ?_
                    rintro e w5 ⟨rfl, rfl⟩
                    rw [HV.out]
                    go_wp2_with fail
                    go_roundg (3 - k3)
                    case measure => omega
                    case rel => exact ⟨k3 + 1, by go_num, by omega, hUy⟩
                  · have hv : s1.ws[k3] = wrap64 (x + aa) := by rw [← HXK.out, HWK.out]; simp [wNew]
                    obtain rfl : xx = wrap64 (x + aa) := N2.out rfl
                    have HV := Lib.hid hv; clear hv
                    go_wp2_with fail
                    go_quiet (fail)
                    go_wp2_with fail
                    refine (Word_in (HMY.out.stay ((Upd.refl [] wr).drewN _)) hsm1 k3 hk31).mono ?_
                    rintro e w5 ⟨rfl, rfl⟩
                    rw [HV.out]
                    go_wp2_with fail
                    go_roundg (3 - k3)
                    case measure => omega
                    case rel => exact ⟨k3 + 1, by go_num, by omega, hUy.drewN _⟩
                  · by_cases hxa : x = aa
                    · obtain rfl : ok = true := by rw [N3.out rfl]; simpa using hxa
                      have hv : s1.ws[k3] = bb := by rw [← HXK.out, HWK.out]; simp [wNew, hxa]
                      subst hxa
                      have HV := Lib.hid hv; clear hv
                      go_wp2_with fail
                      go_quiet (fail)
                      go_wp2_with fail
                      refine (Word_in (HMY.out.stay ((Upd.refl [] wr).drewN _)) hsm1 k3 hk31).mono ?_
                      rintro e w5 ⟨rfl, rfl⟩
                      rw [HV.out]
                      go_wp2_with fail
                      go_roundg (3 - k3)
                      case measure => omega
                      case rel => exact ⟨k3 + 1, by go_num, by omega, hUy.drewN _⟩
                    · obtain rfl : ok = false := by rw [N3.out rfl]; simpa using hxa
                      have hv : s1.ws[k3] = x := by rw [← HXK.out, HWK.out]; simp [wNew, hxa]
                      have hxa' : (x == aa) = false := by simpa using hxa
                      have HV := Lib.hid hv; clear hv hxa
                      go_wp2_with fail
                      go_quiet (fail)
                      go_wp2_with fail
                      refine (Word_in (HMY.out.stay ((Upd.refl [] wr).drewN _)) hsm1 k3 hk31).mono ?_
                      rintro e w5 ⟨rfl, rfl⟩
                      rw [HV.out]
                      go_wp2_with fail
                      go_roundg (3 - k3)
                      case measure => omega
                      case rel => exact ⟨k3 + 1, by go_num, by omega, hUy.drewN _⟩
                  · have hv : s1.ws[k3] = aa := by rw [← HXK.out, HWK.out]; simp [wNew]
                    have HV := Lib.hid hv; clear hv
                    go_wp2_with fail
                    refine (Word_in HMY.out hsm1 k3 hk31).mono ?_
                    rintro e w5 ⟨rfl, rfl⟩
                    rw [HV.out]
                    go_wp2_with fail
                    go_roundg (3 - k3)
                    case measure => omega
                    case rel => exact ⟨k3 + 1, by go_num, by omega, hUy⟩
                  · have hv : s1.ws[k3] = x := by
                      rw [← HXK.out, HWK.out]
                      unfold wNew
                      rw [if_neg (by simp only; omega), if_neg (by simp only; omega), if_neg (by simp only; omega)]
                    have HV := Lib.hid hv; clear hv
                    go_wp2_with fail
                    refine (Word_in HMY.out hsm1 k3 hk31).mono ?_
                    rintro e w5 ⟨rfl, rfl⟩
                    rw [HV.out]
                    go_wp2_with fail
                    go_roundg (3 - k3)
                    case measure => omega
                    case rel => exact ⟨k3 + 1, by go_num, by omega, hUy⟩
                · rw [if_neg hi] at hwk
                  have hv : s1.ws[k3] = s.x k3 := by rw [← hxk, hwk]
                  have HV := Lib.hid hv
                  have hki : ((k3 : Int) == ii) = false := by simp; omega
                  clear hv hwk hxk hi
                  go_wp2_with fail
                  refine (Word_in HMY.out hsm1 k3 hk31).mono ?_
                  rintro e w5 ⟨rfl, rfl⟩
                  rw [HV.out]
                  go_wp2_with fail
                  go_roundg (3 - k3)
                  case measure => omega
                  case rel => exact ⟨k3 + 1, by go_num, by omega, hUy⟩
              · go_wp2_with fail
                go_ret
                exact ⟨rfl, hfin.trans hUy (by simp)⟩
end Go.Proofs.Ytbalfkdeemgclaa
