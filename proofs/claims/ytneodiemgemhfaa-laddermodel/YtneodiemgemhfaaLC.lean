/- Contracts: ContainsFunc, within, bound. -/
import Derived.Test.YtneodiemgemhfaaLB
namespace Go.Proofs.Ytneodiemgemhfaa
open Go.RowKit Go.Lib

set_option maxRecDepth 100000 in
set_option maxHeartbeats 2000000 in
theorem ContainsFunc_has (a : Option Addr) (c : Nat) (l : List It) (A B : Nat) (f t : Int) (w : World) (hr : Row LI w a l) (hl : l.length ≤ 1000000) (hA : w.cell? ⟨A, 0, none⟩ = some (.int .i64 f)) (hB : w.cell? ⟨B, 0, none⟩ = some (.int .i64 t)) :
    Calls Try.prog 55 #[.slice a l.length c, .func (.func 56) #[] #[.pointer (some ⟨A, 0, none⟩), .pointer (some ⟨B, 0, none⟩)]] w fun e w' => e = .returned (.bool (l.any (outB f t))) ∧ Upd [] w w' := by
  have HC := Lib.hid (IndexFunc_has a c l A B f t w hr hl hA hB)
  rw [← firstI_ge]
  generalize firstI (outB f t) l = r at *
  generalize l.length = n at *
  clear hr hA hB
  go_enter Try.func55, Try.ntmps55
  go_wp2_with (go_at_call 70; (with_reducible refine HC.out.mono ?_); rintro e w1 ⟨rfl, hu1⟩; have HU1 := Lib.hid hu1; clear hu1)
  go_ret
  exact ⟨rfl, HU1.out⟩
def withinB (l : List It) (f t : Int) : Bool := !(l.any (outB f t))
theorem withinB_yes {l : List It} {f t : Int} : withinB l f t = true ↔ ∀ it ∈ l, f ≤ it.t ∧ it.t < t := by
  unfold withinB outB
  simp only [Bool.not_eq_true', List.any_eq_false, Bool.or_eq_true, decide_eq_true_eq]
  constructor
  · intro h it hit
    have := h it hit
    omega
  · intro h it hit
    have := h it hit
    omega
set_option maxRecDepth 100000 in
set_option maxHeartbeats 2000000 in
theorem within_has (a : Option Addr) (c : Nat) (l : List It) (f t : Int) (w : World) (hr : Row LI w a l) (hl : l.length ≤ 1000000) :
    Calls Try.prog 41 #[.slice a l.length c, .int .i64 f, .int .i64 t] w fun e w' => e = .returned (.bool (withinB l f t)) ∧ Upd [] w w' := by
  have HR := Lib.hid hr
  have HC := Lib.hid (fun A B W (hu : Upd [] w W) => ContainsFunc_has a c l A B f t W (hr.stay hu) hl)
  unfold withinB
  generalize l.any (outB f t) = r at *
  generalize l.length = n at *
  clear hr
  go_enter Try.func41, Try.ntmps41
  go_upto_region 1 with (fail)
  generalize hA : (Obj.cells #[.int .i64 f] 3 : Obj) = A
  generalize hB : (Obj.cells #[.int .i64 t] 3 : Obj) = B
  obtain ⟨hu, b0, b1, hsz⟩ := two_boxes w A B
  generalize (w.alloc A).alloc B = W at *
  generalize w.heap.size = H at *
  rw [← hA] at b0
  rw [← hB] at b1
  have HC2 := Lib.hid (HC.out H (H + 1) W hu (by rw [cell_block b0]; rfl) (by rw [cell_block b1]; rfl))
  have HU := Lib.hid hu
  clear hu hA hB b0 b1 hsz
  go_wp2_with (go_at_call 55; (with_reducible refine HC2.out.mono ?_); rintro e w1 ⟨rfl, hu1⟩; have HU1 := Lib.hid (HU.out.thn hu1); clear hu1)
  go_ret
  exact ⟨rfl, HU1.out⟩
theorem boundR_take {b : Int} {rs : List Rg} {k : Nat} (h : k < rs.length) : boundR b (rs.take (k + 1)) = min (boundR b (rs.take k)) (curT rs[k]) := by
  rw [List.take_succ_eq_append_getElem h, boundR_append]
set_option maxRecDepth 100000 in
set_option maxHeartbeats 4000000 in
theorem bound_has (l : LdR) (m : Nat) (w : World) (h : HasD w l) (hm : m ≤ l.rs.l.length) (hl : l.rs.l.length ≤ 1000000) (hg : ∀ j (hj : j < l.rs.l.length), j < m → GoodR (l.rs.l[j]).rg) :
    Calls Try.prog 42 #[encD l, .int .i64 m] w fun e w' => e = .returned (.int .i64 (boundR l.ts ((l.rs.l.map RgR.rg).take m))) ∧ Upd [] w w' := by
  obtain ⟨ts, ⟨tl, ta, tc⟩, ⟨rl, ra, rc⟩, ⟨bl, ba, bc⟩, mv, cp⟩ := l
  have HD := Lib.hid h
  have hle : rl.length ≤ rc := h.rs.le
  have HG := Lib.hid hg
  have HSU : Hid (∀ k (hk : k < rl.length), boundR ts ((rl.map RgR.rg).take (k + 1)) = min (boundR ts ((rl.map RgR.rg).take k)) (curT rl[k].rg)) := fun k hk => by
    rw [boundR_take (by simpa using hk)]; simp
  have HZ : Hid (boundR ts ((rl.map RgR.rg).take 0) = ts) := rfl
  unfold encD cellsD
  simp only at hm hl HG ⊢
  generalize hf : (fun k => boundR ts ((rl.map RgR.rg).take k)) = bf at *
  have hfe : ∀ k, boundR ts ((rl.map RgR.rg).take k) = bf k := fun k => by rw [← hf]
  simp only [hfe] at HSU HZ ⊢
  clear hf hfe h hg
  obtain ⟨n, hn⟩ : ∃ n, n = rl.length := ⟨_, rfl⟩
  have HN := Lib.hid hn
  rw [← hn] at hm hl hle ⊢
  generalize tl.length = tn at *
  generalize bl.length = bn at *
  clear hn
  have hmc : m ≤ rc := by omega
  go_enter Try.func42, Try.ntmps42
  go_upto_region 1 with (fail)
  have hu := (Upd.refl [] w).alloc (.cells #[.int .i64 ts, .slice ta tn tc, .slice ra n rc, .slice ba bn bc, .int .i64 mv, .int .i64 cp] 27)
  have b0 := heap_alloc1 w (.cells #[.int .i64 ts, .slice ta tn tc, .slice ra n rc, .slice ba bn bc, .int .i64 mv, .int .i64 cp] 27)
  generalize w.alloc (.cells #[.int .i64 ts, .slice ta tn tc, .slice ra n rc, .slice ba bn bc, .int .i64 mv, .int .i64 cp] 27) = W at *
  generalize w.heap.size = P at *
  have HU := Lib.hid hu; have HB0 := Lib.hid b0
  obtain ⟨c0, c1, c2, c3, c4, c5⟩ := cells6 b0
  clear hu b0
  go_wp2_with fail
  clear c0 c1 c2 c3 c4 c5
  go_loopg [5, 15] m (fun gk vb vi wr => ∃ k : Nat, vi = .int .i64 k ∧ vb = .int .i64 (bf k) ∧ k + gk = m ∧ Hid (Upd [] W wr))
  case atStart => exact ⟨0, rfl, by rw [HZ.out], by omega, Upd.refl _ _⟩
  case round =>
    obtain ⟨k, rfl, rfl, hkg, HUR⟩ := hrel
    by_cases hlt : k < m
    · have hltz : (k : Int) < (m : Int) := by omega
      have hk1 : k < rl.length := by have := HN.out; omega
      have HSK := Lib.hid (HSU.out k hk1)
      have hD := HD.out.stay (HU.out.thn HUR.out)
      obtain ⟨b, off, hbo, x0, x1, x2, x3⟩ := hD.rs.row.rung k hk1
      simp only at hbo x0 x1 x2 x3
      subst hbo
      have HCU := Lib.hid (fun W' => Current_has rl[k] W' (HG.out k hk1 hlt))
      unfold encR at HCU
      generalize curT rl[k].rg = ct at *
      generalize rl[k].bk.l.length = y at *
      generalize rl[k].bk.ad = yad at *
      generalize rl[k].bk.cap = yc at *
      generalize rl[k].fr = yf at *
      generalize rl[k].wd = yw at *
      generalize rl[k].cu = yu at *
      clear hD
      go_upto_region 5 with (fail)
      have bq := heap_alloc1 wr (.cells #[.int .i64 yf, .int .i64 yw, .int .i64 yu, .slice yad y yc] 43)
      have hu4 := (Upd.refl [] wr).alloc (.cells #[.int .i64 yf, .int .i64 yw, .int .i64 yu, .slice yad y yc] 43)
      generalize wr.alloc (.cells #[.int .i64 yf, .int .i64 yw, .int .i64 yu, .slice yad y yc] 43) = W4 at *
      generalize wr.heap.size = Q at *
      clear x0 x1 x2 x3
      obtain ⟨x0, x1, x2, x3⟩ := cells4 bq
      have HU4 := Lib.hid hu4
      clear bq hu4
      go_wp2_with (go_at_call 14; (with_reducible refine (HCU.out _).mono ?_); rintro e w1 ⟨rfl, hu1⟩; have HU1 := Lib.hid ((HUR.out.thn HU4.out).thn hu1); clear hu1)
      go_roundg (m - (k + 1))
      case measure => omega
      case rel => exact ⟨k + 1, by go_num, by rw [HSK.out], by omega, HU1⟩
    · have hltz : ¬ (k : Int) < (m : Int) := by omega
      obtain rfl : m = k := by omega
      go_wp2_with fail
      go_ret
      exact ⟨rfl, HU.out.thn HUR.out⟩
end Go.Proofs.Ytneodiemgemhfaa
