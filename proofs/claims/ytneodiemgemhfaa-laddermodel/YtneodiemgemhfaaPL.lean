/- Contract: the program's span. -/
import Derived.Test.YtneodiemgemhfaaPK
namespace Go.Proofs.Ytneodiemgemhfaa
open Go.RowKit Go.Lib

theorem minT_succ {x : Int} {l : List It} {k : Nat} (h : k < l.length) : minT x (l.take (k + 1)) = min (minT x (l.take k)) l[k].t := by
  unfold minT; rw [List.take_succ_eq_append_getElem h, List.foldl_append]; rfl
theorem maxT_succ {x : Int} {l : List It} {k : Nat} (h : k < l.length) : maxT x (l.take (k + 1)) = max (maxT x (l.take k)) l[k].t := by
  unfold maxT; rw [List.take_succ_eq_append_getElem h, List.foldl_append]; rfl
set_option maxRecDepth 100000 in
set_option maxHeartbeats 4000000 in
theorem span_has (a : Option Addr) (c : Nat) (l : List It) (x : Int) (w : World) (hr : Row LI w a l) (h0 : 0 < l.length) (hx : l[0].t = x) (hn : l.length ≤ 1000000) :
    Calls Try.prog 68 #[.slice a l.length c] w fun e w' => e = .returned (.tuple #[.int .i64 (minT x l), .int .i64 (maxT x l)]) ∧ Upd [] w w' := by
  have HR := Lib.hid hr
  have HS1 := Lib.hid (fun k (h : k < l.length) => minT_succ (x := x) h)
  have HS2 := Lib.hid (fun k (h : k < l.length) => maxT_succ (x := x) h)
  have hz1 : minT x (l.take 0) = x := rfl
  have hz2 : maxT x (l.take 0) = x := rfl
  have HEN : Hid (minT x l = minT x (l.take l.length) ∧ maxT x l = maxT x (l.take l.length)) := by rw [List.take_length]; exact ⟨rfl, rfl⟩
  obtain ⟨n, hnn⟩ : ∃ n, n = l.length := ⟨_, rfl⟩
  obtain ⟨b, off, rfl, x0, x1, x2⟩ := hr.item 0 h0
  have HZ := Lib.hid (And.intro hz1 hz2)
  have HN := Lib.hid hnn
  rw [HEN.out.1, HEN.out.2, ← hnn]
  rw [hx] at x0
  rw [← hnn] at h0 hn
  clear hr hx hnn hz1 hz2 HEN
  generalize l[0].q = zq at *
  generalize l[0].s = zs at *
  go_enter Try.func68, Try.ntmps68
  go_upto_region 1 with (fail)
  simp only [Nat.zero_mul, Nat.add_zero] at x0 x1 x2
  go_quiet (fail)
  clear x0 x1 x2
  have HU0 : Hid (Upd [] w (w.drewN nq)) := (Upd.refl [] w).drewN nq
  generalize w.drewN nq = W at *
  go_wp2_with fail
  go_loopg [4, 5, 18] n (fun gk v4 v5 vi wr => ∃ k : Nat, v4 = .int .i64 (minT x (l.take k)) ∧ v5 = .int .i64 (maxT x (l.take k)) ∧ vi = .int .i64 k ∧ k + gk = n ∧ Hid (Upd [] w wr))
  case atStart => exact ⟨0, by rw [HZ.out.1], by rw [HZ.out.2], rfl, by omega, HU0⟩
  case round =>
    obtain ⟨k, rfl, rfl, rfl, hkg, HU⟩ := hrel
    by_cases hlt : k < n
    · have hltz : (k : Int) < (n : Int) := by omega
      have hk1 : k < l.length := by have := HN.out; omega
      obtain ⟨b', off', hbo, y0, y1, y2⟩ := (HR.out.stay HU.out).item k hk1
      simp only [Option.some.injEq, Addr.mk.injEq, and_true] at hbo
      obtain ⟨rfl, rfl⟩ := hbo
      have HM1 := Lib.hid (HS1.out k hk1)
      have HM2 := Lib.hid (HS2.out k hk1)
      generalize hma : minT x (l.take k) = ma at *
      generalize hmb : maxT x (l.take k) = mb at *
      generalize l[k].t = y at *
      generalize l[k].q = yq at *
      generalize l[k].s = ys at *
      clear hma hmb
      go_upto_region 5 with (fail)
      have hb := heap_alloc1 wr (.cells #[.int .i64 y, .int .i64 yq, .int .i64 ys] 34)
      have HU2 : Hid (Upd [] w (wr.alloc (.cells #[.int .i64 y, .int .i64 yq, .int .i64 ys] 34))) := HU.out.alloc _
      generalize wr.alloc (.cells #[.int .i64 y, .int .i64 yq, .int .i64 ys] 34) = W2 at *
      generalize wr.heap.size = P at *
      obtain ⟨c0, c1, c2⟩ := cells3 hb
      clear hb y0 y1 y2
      go_region
      go_wp2_with fail
      go_roundg (gk - 1)
      case measure => omega
      case rel => exact ⟨k + 1, by rw [HM1.out], by rw [HM2.out], by go_num, by omega, Lib.hid HU2.out.drew⟩
    · have hltz : ¬ (k : Int) < (n : Int) := by omega
      obtain rfl : k = n := by omega
      go_wp2_with fail
      go_ret2
      exact ⟨rfl, HU.out⟩
end Go.Proofs.Ytneodiemgemhfaa
