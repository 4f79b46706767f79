/- Contract: the program's Live. -/
import Derived.Test.YthpofcomlidoiaaDC
namespace Go.Proofs.Ythpofcomlidoiaa
open Go.RowKit Go.Lib

set_option maxHeartbeats 2000000 in
theorem PLive_has (r : ArR) (w : World) (h : HasA w r) (hl : r.ar.sl.length ≤ 1000000) :
    Calls Try.prog 25 #[encA r] w fun e w' => e = .returned (.int .i64 (liveL r.ar.sl : Nat)) ∧ Grown w w' := by
  obtain ⟨⟨l, id, nx⟩, sa, sc, ia, ic⟩ := r
  have HA := Lib.hid h.sl
  simp only at hl HA
  unfold encA
  simp only
  clear h
  obtain ⟨n, hn⟩ : ∃ n, n = l.length := ⟨_, rfl⟩
  obtain ⟨v, hv⟩ : ∃ v, v = liveL l := ⟨_, rfl⟩
  rw [← hn, ← hv]
  rw [← hn] at hl
  have HN := Lib.hid hn
  have HV := Lib.hid hv
  clear hn hv
  generalize id.length = ni
  go_enter Try.func25, Try.ntmps25
  go_wp2_with fail
  generalize hO : (Obj.cells #[.slice sa n sc, .slice ia ni ic, .int .i64 nx] 25 : Obj) = O
  have HGR : Hid (Grown w (w.alloc O)) := (Grown.refl _).alloc _
  generalize hW : w.alloc O = W at *
  clear hO hW
  go_loopg [3, 9] n (fun gk vc vi wr => ∃ k : Nat, vi = .int .i64 k ∧ vc = .int .i64 (liveTo l k : Nat) ∧ k + gk = n ∧ Hid (Grown w wr))
  case atStart => exact ⟨0, rfl, rfl, by omega, HGR⟩
  case round =>
    obtain ⟨k, rfl, rfl, hkg, HG⟩ := hrel
    have hle := liveTo_le l k
    by_cases hlt : k < n
    · have hltz : (k : Int) < (n : Int) := by omega
      have hk1 : k < l.length := by have := HN.out; omega
      obtain ⟨b1, o1, rfl, c0, c1, c2, c3⟩ := (HA.out.stay HG.out.upd) k hk1
      have HS := Lib.hid (liveTo_succ l k)
      rw [slAt_get hk1] at HS
      by_cases hz : l[k].s = 0
      · have hz2 : (l[k].s != 0) = false := by simpa using hz
        generalize l[k] = y at *
        generalize liveTo l k = m at *
        go_wp2_with fail
        go_roundg (gk - 1)
        case measure => omega
        case rel => exact ⟨k + 1, by go_num, by rw [HS.out, if_pos hz]; rfl, by omega, HG.out.alloc _⟩
      · have hz2 : (l[k].s != 0) = true := by simpa using hz
        generalize l[k] = y at *
        generalize liveTo l k = m at *
        go_wp2_with fail
        go_roundg (gk - 1)
        case measure => omega
        case rel => exact ⟨k + 1, by go_num, by rw [HS.out, if_neg hz]; go_num, by omega, HG.out.alloc _⟩
    · have hltz : ¬ (k : Int) < (n : Int) := by omega
      obtain rfl : k = n := by omega
      go_wp2_with fail
      go_ret
      exact ⟨ret_int (by rw [HV.out, HN.out]; rfl), HG.out⟩
end Go.Proofs.Ythpofcomlidoiaa
