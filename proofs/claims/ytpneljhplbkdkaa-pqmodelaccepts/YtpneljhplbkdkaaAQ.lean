
/- P10.2 (PqmodelInvariant), from what the program's functions are asked to do. -/
import Derived.Test.YtpneljhplbkdkaaAO
import Derived.Test.YtpneljhplbkdkaaAJ
namespace Go.Proofs.Ytpneljhplbkdkaa
open Go.RowKit Go.Lib

/-- What the laws ask of the program. -/
structure Bears : Prop where
  hd : ∀ W, Calls Try.prog 9 #[] W fun e w' => e = .returned (.bool true) ∧ Upd [] W w'
  dox : ∀ (m : MdR) (c : Ca) (h : Int) (W : World), HasM W m → OkM m.md → m.is.l.length ≤ 1000 → Calls Try.prog 14 #[encM m, encC c, .int .i64 h] W (GivesM m (doM m.md c h) W)
  val : ∀ (m : MdR) (W : World), HasM W m → m.es.l.length ≤ 1000 → m.is.l.length ≤ 1000 → Calls Try.prog 11 #[encM m] W fun e w' => e = .returned (.bool (validB m.md)) ∧ Upd [] W w'
def encS (s : St) : Value := .agg #[.int .i64 s.c.k, .int .i64 s.c.t, .int .i64 s.c.h, .int .i64 s.c.m, .int .i64 s.c.b, .int .i64 s.h]
theorem cells6 {w : World} {b : Nat} {x y z p q r : Value} {t : TypeId} {f : Nat × Nat} (h : w.heap[b]? = some (.cells #[x, y, z, p, q, r] t f)) : w.cell? ⟨b, 0, none⟩ = some x ∧ w.cell? ⟨b, 1, none⟩ = some y ∧ w.cell? ⟨b, 2, none⟩ = some z ∧ w.cell? ⟨b, 3, none⟩ = some p ∧ w.cell? ⟨b, 4, none⟩ = some q ∧ w.cell? ⟨b, 5, none⟩ = some r := ⟨cell_block h 0, cell_block h 1, cell_block h 2, cell_block h 3, cell_block h 4, cell_block h 5⟩
theorem ok_len {m : MdR} (h : OkM m.md) : m.es.l.length ≤ 64 := by
  have h1 := h.len
  have h2 := h.cap.2
  simp only [MdR.md] at h1 h2
  omega
set_option maxRecDepth 100000 in
set_option maxHeartbeats 8000000 in
theorem Invariant_any (hB : Bears) (c : Int) (la : Option Addr) (lc : Nat) (l : List St) (s : St) (w : World) (hc : 0 ≤ c ∧ c < 256) (hr : Row LP w la l) (hlm : l.length ≤ maxLen) :
    Calls Try.prog 4 #[.int .u8 c, .slice la l.length lc, encS s] w fun e w' => e = .returned (.bool true) ∧ Upd [] w w' := by
  have HHD := Lib.hid hB.hd
  have HMD := Lib.hid (fun W (hu : Upd [] w W) => Made_has c la lc l W hc (hr.stay hu) hlm)
  have hok := madeM_ok c l
  have HL : Hid (∀ x : MdR, x.md = madeM c l → x.es.l.length ≤ 64 ∧ x.is.l.length ≤ 100) := Lib.hid (fun x he => ⟨ok_len (he ▸ hok.1), by have h := hok.2; rw [← he] at h; exact h⟩)
  generalize madeM c l = g at *
  obtain ⟨hok, hli⟩ := hok
  have HDO := Lib.hid (fun (x : MdR) W (he : x.md = g) (h : HasM W x) => he ▸ hB.dox x s.c s.h W h (he ▸ hok) (by have := (HL.out x he).2; omega))
  have HVA := Lib.hid (fun (x : MdR) W (he : x.md = g) (h : HasM W x) => (validB_iff.2 (he ▸ hok) : validB x.md = true) ▸ hB.val x W h (by have := (HL.out x he).1; omega) (by have := (HL.out x he).2; omega))
  have hok2 := doM_ok hok s.c s.h
  have hgr := doM_grow g s.c s.h
  have hcap := doM_cap g s.c s.h
  have herr := doM_err g s.c s.h
  generalize doM g s.c s.h = gg at *
  have HVB := Lib.hid (fun (x : MdR) W (he : x.md = gg.1) (h : HasM W x) => (validB_iff.2 (he ▸ hok2) : validB x.md = true) ▸ hB.val x W h (by have := ok_len (he ▸ hok2 : OkM x.md); omega) (by have h1 := hgr; rw [← he] at h1; simp only [MdR.md] at h1; omega))
  have HSA := Lib.hid (fun (x y : MdR) W (he : x.md = g) (hf : y.md = gg.1) (h1 : gg.2.e ≠ 0) (hx : HasM W x) (hy : HasM W y) => (decide_eq_true (he.trans ((herr h1).symm.trans hf.symm)) : decide (x.md = y.md) = true) ▸ RSame_has x y W hx hy (by have := (HL.out x he).1; omega) (by have := (HL.out x he).2; omega))
  have HCAP := Lib.hid hcap
  obtain ⟨n, hn⟩ : ∃ n, n = l.length := ⟨_, rfl⟩
  rw [← hn] at HMD ⊢
  obtain ⟨⟨ck, ct, ch, cm, cb⟩, hh⟩ := s
  unfold encS
  unfold encC at HDO
  simp only at HDO ⊢
  clear hok hli hok2 hgr hcap herr hr hn hlm hc hB HL
  go_enter Try.func4, Try.ntmps4
  go_upto_region 1 with (fail)
  have hu0 := (Upd.refl [] w).alloc (.cells #[.int .i64 ck, .int .i64 ct, .int .i64 ch, .int .i64 cm, .int .i64 cb, .int .i64 hh] 30)
  have b0 := heap_alloc1 w (.cells #[.int .i64 ck, .int .i64 ct, .int .i64 ch, .int .i64 cm, .int .i64 cb, .int .i64 hh] 30)
  generalize w.alloc (.cells #[.int .i64 ck, .int .i64 ct, .int .i64 ch, .int .i64 cm, .int .i64 cb, .int .i64 hh] 30) = W0 at *
  generalize w.heap.size = P0 at *
  have HU0 := Lib.hid hu0; have HB0 := Lib.hid b0
  clear hu0 b0
  go_upto_region 2 with (go_at_call 9; (with_reducible refine (HHD.out _).mono ?_); rintro e w1 ⟨rfl, hu1⟩)
  have HU1 := Lib.hid (HU0.out.thn hu1)
  have HB1 := Lib.hid (hu1.at HB0.out (by simp))
  clear hu1 HHD HU0 HB0
  go_upto_region 3 with (go_at_call 13; (with_reducible refine (HMD.out _ HU1.out).mono ?_); rintro e w2 ⟨x, rfl, hM⟩; unfold encM cellsM)
  have hal := (Upd.refl [] w2).alloc (.cells #[.int .i64 x.cap, .slice x.es.ad x.es.l.length x.es.cap, .int .i64 x.nx, .slice x.is.ad x.is.l.length x.is.cap] 25)
  have b2 := heap_alloc1 w2 (.cells #[.int .i64 x.cap, .slice x.es.ad x.es.l.length x.es.cap, .int .i64 x.nx, .slice x.is.ad x.is.l.length x.is.cap] 25)
  generalize w2.alloc (.cells #[.int .i64 x.cap, .slice x.es.ad x.es.l.length x.es.cap, .int .i64 x.nx, .slice x.is.ad x.is.l.length x.is.cap] 25) = W2 at *
  generalize w2.heap.size = P2 at *
  have HU2 := Lib.hid (HU1.out.thn (hM.upd.thn hal))
  have HB2 := Lib.hid b2
  have HS2 := Lib.hid (hal.at (hM.upd.at HB1.out (by simp)) (by simp))
  have HX2 := Lib.hid (hM.has.stay hal)
  have HXM := Lib.hid hM.md
  clear hM hal b2 HMD HU1 HB1
  obtain ⟨x0, x1, x2', x3⟩ := cells4 HB2.out
  obtain ⟨s0, s1, s2, s3, s4, s5⟩ := cells6 HS2.out
  have hdo := HDO.out x W2 HXM.out HX2.out
  unfold GivesM encM encR cellsM cellsR at hdo
  have HD := Lib.hid hdo
  clear hdo HDO
  go_upto_region 4 with (go_at_call 14; (with_reducible refine HD.out.mono ?_); rintro e w3 ⟨x2, y, rfl, hD⟩)
  obtain ⟨hal, b3, b4, _⟩ := two_boxes w3 (.cells #[.int .i64 x2.cap, .slice x2.es.ad x2.es.l.length x2.es.cap, .int .i64 x2.nx, .slice x2.is.ad x2.is.l.length x2.is.cap] 25) (.cells #[.int .i64 y.e, .int .i64 y.h, .bool y.c, .slice y.ev.ad y.ev.l.length y.ev.cap] 34)
  generalize (w3.alloc (.cells #[.int .i64 x2.cap, .slice x2.es.ad x2.es.l.length x2.es.cap, .int .i64 x2.nx, .slice x2.is.ad x2.is.l.length x2.is.cap] 25)).alloc (.cells #[.int .i64 y.e, .int .i64 y.h, .bool y.c, .slice y.ev.ad y.ev.l.length y.ev.cap] 34) = W3 at *
  generalize w3.heap.size = P3 at *
  have HU3 := Lib.hid (HU2.out.thn (hD.upd.thn hal))
  have hu23 := hD.upd.thn hal
  have HX3 := Lib.hid (HX2.out.stay hu23)
  have HY3 := Lib.hid (hD.has.stay hal)
  have HYM := Lib.hid hD.md
  have hb2 := hu23.at HB2.out (by simp)
  have hye : y.e = gg.2.e := by have h := congrArg Rs.e hD.rs; exact h
  have hcp : (x2.cap == x.cap) = true := by have h1 := congrArg Md.cap hD.md; have h2 := congrArg Md.cap HXM.out; have h3 := HCAP.out; simp only [MdR.md] at h1 h2; simp; omega
  have HKP : Hid (∀ W, Upd [] W3 W → (W.cell? ⟨P2, 0, none⟩ = some (.int .i64 x.cap) ∧ W.cell? ⟨P2, 1, none⟩ = some (.slice x.es.ad x.es.l.length x.es.cap) ∧ W.cell? ⟨P2, 2, none⟩ = some (.int .i64 x.nx) ∧ W.cell? ⟨P2, 3, none⟩ = some (.slice x.is.ad x.is.l.length x.is.cap) ∧ W.cell? ⟨P3, 0, none⟩ = some (.int .i64 x2.cap) ∧ W.cell? ⟨P3, 1, none⟩ = some (.slice x2.es.ad x2.es.l.length x2.es.cap) ∧ W.cell? ⟨P3, 2, none⟩ = some (.int .i64 x2.nx) ∧ W.cell? ⟨P3, 3, none⟩ = some (.slice x2.is.ad x2.is.l.length x2.is.cap) ∧ W.cell? ⟨P3 + 1, 0, none⟩ = some (.int .i64 y.e))) := Lib.hid (fun W hu => by
    obtain ⟨q0, q1, q2, q3⟩ := cells4 (hu.at hb2 (by simp))
    obtain ⟨q4, q5, q6, q7⟩ := cells4 (hu.at b3 (by simp))
    obtain ⟨q8, _, _, _⟩ := cells4 (hu.at b4 (by simp))
    exact ⟨q0, q1, q2, q3, q4, q5, q6, q7, q8⟩)
  have hva := fun W (hu : Upd [] W3 W) => HVA.out x W HXM.out (HX3.out.stay hu)
  have hvb := fun W (hu : Upd [] W3 W) => HVB.out x2 W HYM.out (HY3.out.stay hu)
  have hsa := fun W (hn : gg.2.e ≠ 0) (hu : Upd [] W3 W) => HSA.out x x2 W HXM.out HYM.out hn (HX3.out.stay hu) (HY3.out.stay hu)
  unfold encM cellsM at hva hvb hsa
  have HA := Lib.hid hva; have HB := Lib.hid hvb; have HS := Lib.hid hsa
  clear hva hvb hsa HVA HVB HSA hD hal b3 b4 hu23 hb2 x0 x1 x2' x3 s0 s1 s2 s3 s4 s5 HD
  obtain ⟨q0, q1, q2, q3, q4, q5, q6, q7, q8⟩ := HKP.out W3 (Upd.refl [] _)
  by_cases he : gg.2.e = 0
  · have g1 : (y.e == 0) = true := by rw [hye, he]; rfl
    clear he hye
    go_wp2_with (first | (go_at_call 11; first | ((with_reducible refine (HA.out _ ?_).mono ?_); (repeat (first | assumption | with_reducible exact Upd.refl [] _ | with_reducible refine Upd.drew ?_ | with_reducible refine Upd.alloc ?_ _ | refine Upd.trans (T := []) ?_ (by assumption) (by simp))); rintro e w4 ⟨rfl, hu4⟩; obtain ⟨q0, q1, q2, q3, q4, q5, q6, q7, q8⟩ := HKP.out w4 (by (repeat (first | assumption | with_reducible exact Upd.refl [] _ | with_reducible refine Upd.drew ?_ | with_reducible refine Upd.alloc ?_ _ | refine Upd.trans (T := []) ?_ (by assumption) (by simp))))) | ((with_reducible refine (HB.out _ ?_).mono ?_); (repeat (first | assumption | with_reducible exact Upd.refl [] _ | with_reducible refine Upd.drew ?_ | with_reducible refine Upd.alloc ?_ _ | refine Upd.trans (T := []) ?_ (by assumption) (by simp))); rintro e w5 ⟨rfl, hu5⟩; obtain ⟨q0, q1, q2, q3, q4, q5, q6, q7, q8⟩ := HKP.out w5 (by (repeat (first | assumption | with_reducible exact Upd.refl [] _ | with_reducible refine Upd.drew ?_ | with_reducible refine Upd.alloc ?_ _ | refine Upd.trans (T := []) ?_ (by assumption) (by simp)))))) | (go_at_call 20; (with_reducible refine (HS.out _ HE.out ?_).mono ?_); (repeat (first | assumption | with_reducible exact Upd.refl [] _ | with_reducible refine Upd.drew ?_ | with_reducible refine Upd.alloc ?_ _ | refine Upd.trans (T := []) ?_ (by assumption) (by simp))); rintro e w6 ⟨rfl, hu6⟩; obtain ⟨q0, q1, q2, q3, q4, q5, q6, q7, q8⟩ := HKP.out w6 (by (repeat (first | assumption | with_reducible exact Upd.refl [] _ | with_reducible refine Upd.drew ?_ | with_reducible refine Upd.alloc ?_ _ | refine Upd.trans (T := []) ?_ (by assumption) (by simp))))))
    go_ret
    exact ⟨rfl, HU3.out.thn (by (repeat (first | assumption | with_reducible exact Upd.refl [] _ | with_reducible refine Upd.drew ?_ | with_reducible refine Upd.alloc ?_ _ | refine Upd.trans (T := []) ?_ (by assumption) (by simp))))⟩
  · have g1 : (y.e == 0) = false := by rw [hye]; simpa using he
    have HE := Lib.hid he
    clear he hye
    go_wp2_with (first | (go_at_call 11; first | ((with_reducible refine (HA.out _ ?_).mono ?_); (repeat (first | assumption | with_reducible exact Upd.refl [] _ | with_reducible refine Upd.drew ?_ | with_reducible refine Upd.alloc ?_ _ | refine Upd.trans (T := []) ?_ (by assumption) (by simp))); rintro e w4 ⟨rfl, hu4⟩; obtain ⟨q0, q1, q2, q3, q4, q5, q6, q7, q8⟩ := HKP.out w4 (by (repeat (first | assumption | with_reducible exact Upd.refl [] _ | with_reducible refine Upd.drew ?_ | with_reducible refine Upd.alloc ?_ _ | refine Upd.trans (T := []) ?_ (by assumption) (by simp))))) | ((with_reducible refine (HB.out _ ?_).mono ?_); (repeat (first | assumption | with_reducible exact Upd.refl [] _ | with_reducible refine Upd.drew ?_ | with_reducible refine Upd.alloc ?_ _ | refine Upd.trans (T := []) ?_ (by assumption) (by simp))); rintro e w5 ⟨rfl, hu5⟩; obtain ⟨q0, q1, q2, q3, q4, q5, q6, q7, q8⟩ := HKP.out w5 (by (repeat (first | assumption | with_reducible exact Upd.refl [] _ | with_reducible refine Upd.drew ?_ | with_reducible refine Upd.alloc ?_ _ | refine Upd.trans (T := []) ?_ (by assumption) (by simp)))))) | (go_at_call 20; (with_reducible refine (HS.out _ HE.out ?_).mono ?_); (repeat (first | assumption | with_reducible exact Upd.refl [] _ | with_reducible refine Upd.drew ?_ | with_reducible refine Upd.alloc ?_ _ | refine Upd.trans (T := []) ?_ (by assumption) (by simp))); rintro e w6 ⟨rfl, hu6⟩; obtain ⟨q0, q1, q2, q3, q4, q5, q6, q7, q8⟩ := HKP.out w6 (by (repeat (first | assumption | with_reducible exact Upd.refl [] _ | with_reducible refine Upd.drew ?_ | with_reducible refine Upd.alloc ?_ _ | refine Upd.trans (T := []) ?_ (by assumption) (by simp))))))
    go_ret
    exact ⟨rfl, HU3.out.thn (by (repeat (first | assumption | with_reducible exact Upd.refl [] _ | with_reducible refine Upd.drew ?_ | with_reducible refine Upd.alloc ?_ _ | refine Upd.trans (T := []) ?_ (by assumption) (by simp))))⟩
end Go.Proofs.Ytpneljhplbkdkaa
