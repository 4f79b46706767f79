/- ShmemReplay: the walk. -/
import Derived.Test.YtbalfkdeemgclaaY0
namespace Go.Proofs.Ytbalfkdeemgclaa
open Go.RowKit

theorem rp_len (l : List Acc) : (repl l).W.length = 4 ∧ (repl l).H.length = 4 ∧ (repl l).D.length = 4 := by
  have : ∀ (l : List Acc) (r : Rp), (r.W.length = 4 ∧ r.H.length = 4 ∧ r.D.length = 4) → ((l.foldl Rp.step r).W.length = 4 ∧ (l.foldl Rp.step r).H.length = 4 ∧ (l.foldl Rp.step r).D.length = 4) := by
    intro l
    induction l with
    | nil => exact fun r h => h
    | cons a t ih =>
      intro r h
      refine ih _ ?_
      unfold Rp.step
      repeat' split
      all_goals simpa using h
  exact this l Rp.init (by decide)
theorem repl_succ (l : List Acc) (q : Nat) (h : q < l.length) : repl (l.take (q + 1)) = (repl (l.take q)).step l[q] := by
  rw [repl, List.take_succ_eq_append_getElem h, List.foldl_append]; rfl
theorem getElem_acc (l : List Acc) (q c : Nat) (h : q < l.length) (hc : c < 6) : (l.flatMap Acc.cells)[q * 6 + c]? = l[q].cells[c]? := by
  induction l generalizing q with
  | nil => simp at h
  | cons a r ih =>
    have hl : a.cells.length = 6 := rfl
    cases q with
    | zero => simp only [List.flatMap_cons, Nat.zero_mul, Nat.zero_add, List.getElem_cons_zero]; rw [List.getElem?_append_left (by omega)]
    | succ q =>
      simp only [List.flatMap_cons, List.getElem_cons_succ]
      rw [List.getElem?_append_right (by omega), hl, show (q + 1) * 6 + c - 6 = q * 6 + c by omega]
      exact ih q (by simpa using h)
def ints (l : List Int) : Array Value := (l.map (Value.int .i64)).toArray
theorem ints_get (l : List Int) (j : Nat) (h : j < l.length) : (ints l)[j]? = some (.int .i64 (l.getD j 0)) := by simp [ints, h]
theorem ints_put (l : List Int) (j : Nat) (x : Int) : (ints l).setIfInBounds j (.int .i64 x) = ints (l.set j x) := by simp [ints]

/-- What holds at the head of the loop that plays the operations. -/
def PrRel (w : World) (p bw bm : Nat) (rs : List Rw) (g : Nat) (i : Value) (wr : World) : Prop :=
  ∃ k F s, i = .int .i64 (k : Nat) ∧ k + g = rs.length ∧ Mem F p bw bm s wr ∧ Four k s ∧ Replays s ∧ (∀ x ∈ F, w.heap.size ≤ x) ∧ Upd [] w wr
theorem pr_next {w wr w2 w3 : World} {p bw bm k g : Nat} {rs : List Rw} {F2 F3 : List Nat} {s : St} {i : Value} (hi : i = .int .i64 ((k + 1 : Nat) : Int)) (hkg : k + 1 + g = rs.length) (h4 : Four k s) (hR : Replays s) (o : Oq) (ho : 0 ≤ o.t) (hk : 1 ≤ o.k ∧ o.k ≤ 7) (hF2 : ∀ x ∈ F2, w.heap.size ≤ x) (hU : Upd [] w wr)
    (hu2 : Upd [] wr w2) (hG3 : Goes F2 F3 w2 w3) (hM3 : Mem F3 p bw bm (s.step o).1 w3) : PrRel w p bw bm rs g i w3 := by
  refine ⟨k + 1, F3, (s.step o).1, hi, hkg, hM3, h4.step o ho, hR.step h4 o hk, fun x hx => (hG3.2 x hx).elim (hF2 x) (fun h => Nat.le_trans (Nat.le_trans hU.size hu2.size) h), ?_⟩
  exact (hU.trans hu2 (by simp)).trans hG3.1 (fun x hx hl => absurd (hF2 x hx) (by omega))

/-- The three arrays of the law, at blocks b, b + 1, b + 1 + 1. -/
def Arr (b : Nat) (r : Rp) (w : World) : Prop :=
  w.heap[b]? = some (.cells (ints r.W) 45 (0, 0)) ∧ w.heap[b + 1]? = some (.cells (ints r.H) 45 (0, 0)) ∧ w.heap[b + 1 + 1]? = some (.cells (ints r.D) 45 (0, 0))
def RpRel (w4 : World) (b : Nat) (log : List Acc) (g : Nat) (i : Value) (wr : World) : Prop :=
  ∃ q, i = .int .i64 (q : Nat) ∧ q + g = log.length ∧ Arr b (repl (log.take q)) wr ∧ Upd [b, b + 1, b + 1 + 1] w4 wr
theorem Arr.start (w : World) : Arr w.heap.size Rp.init (((w.alloc (.cells #[.int .i64 0, .int .i64 0, .int .i64 0, .int .i64 0] 45)).alloc (.cells #[.int .i64 0, .int .i64 0, .int .i64 0, .int .i64 0] 45)).alloc (.cells #[.int .i64 (-1), .int .i64 (-1), .int .i64 (-1), .int .i64 (-1)] 45)) :=
  ⟨(((Upd.refl [] _).alloc _).alloc _).at (heap_alloc1 w _) (by simp), ((Upd.refl [] _).alloc _).at (heap_alloc2 w _ _) (by simp), heap_alloc3 w _ _ _⟩
theorem Arr.cells {b : Nat} {r : Rp} {w : World} (h : Arr b r w) (j : Nat) (hW : j < r.W.length) (hH : j < r.H.length) (hD : j < r.D.length) :
    w.cell? ⟨b, j, none⟩ = some (.int .i64 (r.W.getD j 0)) ∧ w.cell? ⟨b + 1, j, none⟩ = some (.int .i64 (r.H.getD j 0)) ∧ w.cell? ⟨b + 1 + 1, j, none⟩ = some (.int .i64 (r.D.getD j 0)) ∧
      w.frozen? ⟨b, j, none⟩ = false ∧ w.frozen? ⟨b + 1, j, none⟩ = false ∧ w.frozen? ⟨b + 1 + 1, j, none⟩ = false :=
  ⟨by rw [cell_block h.1, ints_get _ _ hW], by rw [cell_block h.2.1, ints_get _ _ hH], by rw [cell_block h.2.2, ints_get _ _ hD], free_block h.1 _, free_block h.2.1 _, free_block h.2.2 _⟩
theorem rp_next {w4 wr w5 : World} {b q g : Nat} {log : List Acc} {i : Value} {r : Rp} (hq : q < log.length) (hr : repl (log.take q) = r) (hi : i = .int .i64 ((q + 1 : Nat) : Int)) (hg : q + 1 + g = log.length) (hU : Upd [b, b + 1, b + 1 + 1] w4 wr) (hU5 : Upd [b, b + 1, b + 1 + 1] wr w5) (hA : Arr b (r.step log[q]) w5) : RpRel w4 b log g i w5 :=
  ⟨q + 1, hi, hg, by rw [repl_succ _ _ hq, hr]; exact hA, hU.trans hU5 (fun _ h _ => h)⟩
/-- The copy of the log as the loop reads it. -/
def LogAt (a : Option Addr) (S : List Nat) (log : List Acc) (w : World) : Prop :=
  ∀ q (h : q < log.length), ∃ g, a = some ⟨g, 0, none⟩ ∧ g ∉ S ∧ ∀ c u, log[q].cells[c]? = some u → w.cell? ⟨g, q * 6 + c, none⟩ = some u
theorem logAt_of {w : World} {base : Nat} {v : Value} {log : List Acc} {S : List Nat} (ho : w.ownsRow base 47 6 v log.length (log.flatMap Acc.cells)) (hS : ∀ x ∈ S, x < base) : ∃ a c, v = .slice a log.length c ∧ LogAt a S log w := by
  rcases ho.2 with ⟨rfl, hz⟩ | ⟨g, cap, cur, rfl, hb, _⟩
  · exact ⟨none, 0, by rw [hz], fun q h => absurd h (by omega)⟩
  · refine ⟨_, _, rfl, fun q h => ⟨g, rfl, fun hx => by have := hS g hx; omega, fun c u hc => ?_⟩⟩
    have hc6 : c < 6 := (List.getElem?_eq_some_iff.1 hc).1
    have := ho.cells (g := g) rfl (q * 6 + c) u (by rw [getElem_acc _ _ _ h hc6]; exact hc)
    have hadd : (⟨g, 0, none⟩ : Addr).add (q * 6 + c) = ⟨g, q * 6 + c, none⟩ := by unfold Addr.add; split <;> simp_all
    rwa [hadd] at this
theorem Arr.stay {b : Nat} {r : Rp} {w w' : World} (h : Arr b r w) (hu : Upd [] w w') : Arr b r w' := ⟨hu.at h.1 (by simp), hu.at h.2.1 (by simp), hu.at h.2.2 (by simp)⟩
theorem Arr.setW {b : Nat} {r : Rp} {w : World} (h : Arr b r w) (j : Nat) (x : Int) : Arr b { r with W := r.W.set j x } (w.setCell ⟨b, j, none⟩ (.int .i64 x)) :=
  ⟨by rw [setCell_block h.1, ints_put], by rw [Below.heap_setCell _ _ _ _ (by dsimp only; omega)]; exact h.2.1, by rw [Below.heap_setCell _ _ _ _ (by dsimp only; omega)]; exact h.2.2⟩
theorem Arr.setH {b : Nat} {r : Rp} {w : World} (h : Arr b r w) (j : Nat) (x : Int) : Arr b { r with H := r.H.set j x } (w.setCell ⟨b + 1, j, none⟩ (.int .i64 x)) :=
  ⟨by rw [Below.heap_setCell _ _ _ _ (by dsimp only; omega)]; exact h.1, by rw [setCell_block h.2.1, ints_put], by rw [Below.heap_setCell _ _ _ _ (by dsimp only; omega)]; exact h.2.2⟩
theorem Arr.setD {b : Nat} {r : Rp} {w : World} (h : Arr b r w) (j : Nat) (x : Int) : Arr b { r with D := r.D.set j x } (w.setCell ⟨b + 1 + 1, j, none⟩ (.int .i64 x)) :=
  ⟨by rw [Below.heap_setCell _ _ _ _ (by dsimp only; omega)]; exact h.1, by rw [Below.heap_setCell _ _ _ _ (by dsimp only; omega)]; exact h.2.1, by rw [setCell_block h.2.2, ints_put]⟩

set_option maxRecDepth 100000 in
set_option maxHeartbeats 4000000 in
theorem Replay_any (ad : Option Addr) (rs : List Rw) (cap : Nat) (w : World) (hr : Raws w ad rs) (hlen : rs.length ≤ maxLen) :
    Calls Try.prog 4 #[.slice ad rs.length cap] w fun e w' => e = .returned (.bool true) ∧ Upd [] w w' := by
  unfold maxLen at hlen
  have HR := Lib.hid hr; clear hr
  by_cases hn : 200 < rs.length
  · go_enter Try.func4, Try.ntmps4
    go_wp2_with fail
    refine (head_any _).mono ?_
    rintro e w0 ⟨rfl, hu0⟩
    go_wp2_with fail
    refine (New_yes 4 4 (by omega) (by omega) _).mono ?_
    rintro e w1 ⟨p, bw, bm, F, rfl, hM, hF, hu1⟩
    clear hM hF
    go_wp2_with fail
    go_ret
    exact ⟨rfl, hu0.trans hu1 (by simp)⟩
  · have hn0 : decide (200 < (rs.length : Int)) = false := by simp; omega
    go_enter Try.func4, Try.ntmps4
    go_wp2_with fail
    refine (head_any _).mono ?_
    rintro e w0 ⟨rfl, hu0⟩
    go_wp2_with fail
    refine (New_yes 4 4 (by omega) (by omega) _).mono ?_
    rintro e w1 ⟨p, bw, bm, F, rfl, hM, hF, hu1⟩
    have HM := Lib.hid hM; have HF := Lib.hid hF; clear hM hF
    go_wp2_with fail
    go_loopg [5] rs.length (fun g i wr => PrRel w p bw bm rs g i wr)
    case atStart =>
      exact ⟨0, F, zeroSt 4 4, rfl, by omega, HM.out, four_zero, replays_zero, fun x hx => Nat.le_trans hu0.size (HF.out x hx), (hu0.trans hu1 (by simp))⟩
    case round =>
      obtain ⟨k, F2, s, rfl, hkg, hM, h4, hR, hF2, hU⟩ := hrel
      have HM := Lib.hid hM; have H4 := Lib.hid h4; have HF2 := Lib.hid hF2; have HU := Lib.hid hU; have HRP := Lib.hid hR
      clear hM h4 hF2 hU hR
      by_cases hk : k < rs.length
      · obtain ⟨hok, bl, off, rfl, c0, c1, c2, c3, c4⟩ := (HR.out.keep HU.out) k hk
        obtain ⟨k0, k1, t0, t1, i0, i1⟩ := hok
        go_wp2_with fail
        refine (Op_any _ _ _ _ _ ⟨k0, k1⟩ ⟨t0, t1⟩ ⟨i0, i1⟩ _).mono ?_
        rintro e w2 ⟨rfl, hu2⟩
        clear c0 c1 c2 c3 c4
        go_wp2_with fail
        refine (do_any (HM.out.stay hu2) (H4.out.small (by omega)) _ _ _ _ _ ⟨by omega, by omega⟩).mono ?_
        rintro e w3 ⟨rfl, F3, hM3, hG3⟩
        have HM3 := Lib.hid hM3; clear hM3
        go_wp2_with fail
        go_roundg (gk - 1)
        case measure => omega
        case rel => exact pr_next (by go_num) (by omega) H4.out HRP.out _ (by simp only; omega) (by simp only; omega) HF2.out HU.out hu2 hG3 HM3.out
      · have hk200 : k ≤ 200 := by omega
        have hA0 := Arr.start wr
        have hC := (((Upd.refl [] wr).alloc (.cells #[.int .i64 0, .int .i64 0, .int .i64 0, .int .i64 0] 45)).alloc (.cells #[.int .i64 0, .int .i64 0, .int .i64 0, .int .i64 0] 45)).alloc (.cells #[.int .i64 (-1), .int .i64 (-1), .int .i64 (-1), .int .i64 (-1)] 45)
        have hcz : (((wr.alloc (.cells #[.int .i64 0, .int .i64 0, .int .i64 0, .int .i64 0] 45)).alloc (.cells #[.int .i64 0, .int .i64 0, .int .i64 0, .int .i64 0] 45)).alloc (.cells #[.int .i64 (-1), .int .i64 (-1), .int .i64 (-1), .int .i64 (-1)] 45)).heap.size = wr.heap.size + 3 := by simp
        have HA0 := Lib.hid hA0; have HC := Lib.hid hC; have HCZ := Lib.hid hcz
        clear hA0 hC hcz
        go_wp2_with fail
        clear hkg
        refine (Log_any (HM.out.stay HC.out) (H4.out.small (by omega))).mono ?_
        rintro e w4 ⟨v, rfl, ho, hu4⟩
        obtain ⟨va, vc, rfl, hla⟩ := logAt_of (S := [wr.heap.size, wr.heap.size + 1, wr.heap.size + 1 + 1]) ho (by
          intro x hx
          have := HCZ.out
          simp only [List.mem_cons, List.not_mem_nil, or_false] at hx
          omega)
        have HLA := Lib.hid hla; clear hla ho
        have hlog := H4.out.log
        have hA4 := HA0.out.stay hu4
        have HA4 := Lib.hid hA4; clear hA4
        have hM4 := (HM.out.stay HC.out).stay hu4
        have HM4 := Lib.hid hM4; clear hM4
        have HU4 : Hid (Upd [] w w4) := (HU.out.trans HC.out (by simp)).trans hu4 (by simp)
        have HBF : Hid (∀ x ∈ F2, x ∉ [wr.heap.size, wr.heap.size + 1, wr.heap.size + 1 + 1]) := fun x hx hx' => by
          have := HM.out.lt x hx
          simp only [List.mem_cons, List.not_mem_nil, or_false] at hx'
          omega
        have HSZ : Hid (w.heap.size ≤ wr.heap.size) := HU.out.size
        obtain ⟨B, hB⟩ : ∃ B, B = wr.heap.size := ⟨_, rfl⟩
        rw [← hB] at HA4 HBF HSZ HLA ⊢
        clear hB HC HCZ HA0 hu4
        go_wp2_with fail
        go_loopg [10] s.log.length (fun g i wq => RpRel w4 B s.log g i wq)
        case atStart => exact ⟨0, rfl, by omega, HA4.out, Upd.refl _ _⟩
        case round =>
          obtain ⟨q, rfl, hqg, hA, hUq⟩ := hrel
          have HA := Lib.hid hA; have HUQ := Lib.hid hUq
          clear hA hUq
          by_cases hq : q < s.log.length
          · obtain ⟨g, rfl, hgS, hcell⟩ := HLA.out q hq
            have hok := HRP.out.each q hq
            have hrl := rp_len (s.log.take q)
            have a0 := HUQ.out.cell (hcell 0 _ rfl) hgS
            rw [Nat.add_zero] at a0
            have a1 := HUQ.out.cell (hcell 1 _ rfl) hgS
            have a2 := HUQ.out.cell (hcell 2 _ rfl) hgS
            have a3 := HUQ.out.cell (hcell 3 _ rfl) hgS
            have a4 := HUQ.out.cell (hcell 4 _ rfl) hgS
            have a5 := HUQ.out.cell (hcell 5 _ rfl) hgS
            clear hcell
            have hnext := fun (w5 : World) (g : Nat) (i : Value) => rp_next (w4 := w4) (wr := wr) (w5 := w5) (b := B) (g := g) (i := i) hq rfl
            generalize repl (s.log.take q) = r at *
            generalize s.log[q] = a at *
            obtain ⟨t, kd, i, old, new, ok⟩ := a
            obtain ⟨i0, i1, hw, hh⟩ := hok
            simp only at a0 a1 a2 a3 a4 a5 i0 i1 hw hh
            obtain ⟨j, rfl⟩ := Int.eq_ofNat_of_zero_le i0
            have hj : j < 4 := by omega
            rw [Int.toNat_natCast] at hw hh
            obtain ⟨d6, d7, d8, f6, f7, f8⟩ := HA.out.cells j (by omega) (by omega) (by omega)
            have HN := Lib.hid hnext; clear hnext
            have HRL := Lib.hid hrl; clear hrl
            have hi0 : decide ((j : Int) < 0) = false := by simp
            have lb := lt_block HA.out.1
            have lb1 := lt_block HA.out.2.1
            have lb2 := lt_block HA.out.2.2
            have HUX : Hid (∀ O : Obj, Upd [B, B + 1, B + 1 + 1] wr (wr.alloc O)) := fun O => (Upd.refl _ _).alloc _
            by_cases hkd : kd < 5
            · obtain ⟨ho1, ho2⟩ := hw hkd
              clear hh
              generalize hWv : r.W.getD j 0 = Wv at *
              subst ho1
              have HWV := Lib.hid hWv; have HO2 := Lib.hid ho2
              clear hw ho2 hWv
              have hstep : ∀ ok, r.step ⟨t, kd, j, old, new, ok⟩ = { r with W := r.W.set j new } := fun ok => by simp [Rp.step, hkd]
              have HST := Lib.hid hstep; clear hstep
              cases ok
              · obtain rfl : new = old := HO2.out rfl
                go_wp2_with fail
                go_quiet (fail)
                go_wp2_with fail
                go_roundg (gk - 1)
                case measure => omega
                case rel => exact HN.out _ _ _ (by go_num) (by omega) HUQ.out (((HUX.out _).drewN _).setCell (by simp) _) (by rw [HST.out]; exact (HA.out.stay (((Upd.refl [] wr).alloc _).drewN _)).setW j _)
              · go_wp2_with fail
                go_quiet (fail)
                go_wp2_with fail
                go_roundg (gk - 1)
                case measure => omega
                case rel => exact HN.out _ _ _ (by go_num) (by omega) HUQ.out (((HUX.out _).drewN _).setCell (by simp) _) (by rw [HST.out]; exact (HA.out.stay (((Upd.refl [] wr).alloc _).drewN _)).setW j _)
            · obtain ⟨ho1, ho2⟩ := hh hkd
              clear hw
              generalize hWv : r.H.getD j 0 = Hv at *
              subst ho1
              have HWV := Lib.hid hWv; have HO2 := Lib.hid ho2
              clear hh ho2 hWv
              have hstep : ∀ ok, r.step ⟨t, kd, j, old, new, ok⟩ = { r with H := r.H.set j new, D := if new = 0 then r.D.set j (-1) else if ok = true then r.D.set j t else r.D } := fun ok => by simp [Rp.step, hkd]
              have HST := Lib.hid hstep; clear hstep
              cases ok
              · have he : (new != old) = false := HO2.out.symm
                by_cases hn0 : new = 0
                · subst hn0
                  go_wp2_with fail
                  go_quiet (fail)
                  go_wp2_with fail
                  go_roundg (gk - 1)
                  case measure => omega
                  case rel => exact HN.out _ _ _ (by go_num) (by omega) HUQ.out ((((HUX.out _).drewN _).setCell (by simp) _).setCell (by simp) _) (by rw [HST.out, if_pos trivial]; exact ((HA.out.stay (((Upd.refl [] wr).alloc _).drewN _)).setH j _).setD j _)
                · have hn1 : (new == 0) = false := by simpa using hn0
                  go_wp2_with fail
                  go_quiet (fail)
                  go_wp2_with fail
                  go_roundg (gk - 1)
                  case measure => omega
                  case rel => exact HN.out _ _ _ (by go_num) (by omega) HUQ.out (((HUX.out _).drewN _).setCell (by simp) _) (by rw [HST.out, if_neg hn0]; exact ((HA.out.stay (((Upd.refl [] wr).alloc _).drewN _)).setH j _))
              · have he : (new != old) = true := HO2.out.symm
                by_cases hn0 : new = 0
                · subst hn0
                  go_wp2_with fail
                  go_quiet (fail)
                  go_wp2_with fail
                  go_roundg (gk - 1)
                  case measure => omega
                  case rel => exact HN.out _ _ _ (by go_num) (by omega) HUQ.out (((((HUX.out _).drewN _).setCell (by simp) _).setCell (by simp) _).setCell (by simp) _) (by rw [HST.out, if_pos trivial]; have hz := (((HA.out.stay (((Upd.refl [] wr).alloc (.cells #[.int .i64 t, .int .i64 kd, .int .i64 j, .int .i64 old, .int .i64 0, .bool true] 47)).drewN nq)).setH j 0).setD j t).setD j (-1); simpa only [List.set_set] using hz)
                · have hn1 : (new == 0) = false := by simpa using hn0
                  go_wp2_with fail
                  go_quiet (fail)
                  go_wp2_with fail
                  go_roundg (gk - 1)
                  case measure => omega
                  case rel => exact HN.out _ _ _ (by go_num) (by omega) HUQ.out ((((HUX.out _).drewN _).setCell (by simp) _).setCell (by simp) _) (by rw [HST.out, if_neg hn0, if_pos rfl]; exact ((HA.out.stay (((Upd.refl [] wr).alloc _).drewN _)).setH j _).setD j _)
          · obtain rfl : q = s.log.length := by omega
            have hrp : repl (s.log.take s.log.length) = s.rp := by rw [List.take_length]; exact HRP.out.all
            have hA := HA.out
            rw [hrp] at hA
            have HA2 := Lib.hid hA
            have HMQ := Lib.hid (HM4.out.keep HUQ.out HBF.out)
            have hfin : Upd [] w wr := HU4.out.trans HUQ.out (fun x hx hl => by
              have := HSZ.out
              simp only [List.mem_cons, List.not_mem_nil, or_false] at hx
              omega)
            have hws := H4.out.ws
            have hms := H4.out.ms
            have hsm := H4.out.small (by omega)
            have HWS := Lib.hid hws; have HMS := Lib.hid hms; have HFIN := Lib.hid hfin
            clear hrp hA hws hms hfin hq hqg
            go_wp2_with fail
            go_loopg [12] 4 (fun g i wy => ∃ k3 : Nat, i = .int .i64 (k3 : Nat) ∧ k3 + g = 4 ∧ Upd [] wr wy)
            case atStart => exact ⟨0, rfl, rfl, Upd.refl _ _⟩
            case round =>
              obtain ⟨k3, rfl, hk3, hUy⟩ := hrel
              by_cases hk34 : k3 < 4
              · have hkw : k3 < s.ws.length := by rw [HWS.out]; exact hk34
                have hkm : k3 < s.ms.length := by rw [HMS.out]; exact hk34
                obtain ⟨z6, _, z8, _, _, _⟩ := (HA2.out.stay hUy).cells k3 hkw (by simpa [St.rp] using hkm) (by simpa [St.rp] using hkm)
                have e6 : s.rp.W.getD k3 0 = s.ws[k3] := by simp [St.rp, hkw]
                have e8 : s.rp.D.getD k3 0 = hold s.ms[k3] := by simp [St.rp, hkm]
                rw [e6] at z6
                rw [e8] at z8
                clear e6 e8
                have HMY := Lib.hid (HMQ.out.stay hUy)
                have HUY := Lib.hid hUy; clear hUy
                go_wp2_with fail
                go_region_with (first | (go_at_call 15; refine (Word_in (HMY.out.stay (Upd.refl [] _).drew) hsm k3 hkw).mono ?_; rintro e w' ⟨rfl, rfl⟩) | (go_at_call 16; refine (Holder_in (HMY.out.stay (Upd.refl [] _).drew) hsm k3 hkm).mono ?_; rintro e w' ⟨rfl, hu⟩; have z9 := hu.cell (p := ⟨B + 1 + 1, k3, none⟩) z8 (by simp)))
                all_goals
                  go_wp2_with fail
                  go_roundg (3 - k3)
                  case measure => omega
                  case rel => exact ⟨k3 + 1, by go_num, by omega, (HUY.out.drew).trans hu (by simp)⟩
              · go_wp2_with fail
                go_ret
                exact ⟨rfl, HFIN.out.trans hUy (by simp)⟩
end Go.Proofs.Ytbalfkdeemgclaa
