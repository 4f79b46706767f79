/- Contract: the reference's Sort. -/
import Derived.Test.YtneodiemgemhfaaNF
namespace Go.Proofs.Ytneodiemgemhfaa
open Go.RowKit Go.Lib

theorem sort_take_succ {l : List It} {i : Nat} (h : i < l.length) : sortI (l.take (i + 1)) = plI (sortI (l.take i)) l[i] := by
  unfold sortI
  rw [List.take_succ_eq_append_getElem h, List.foldl_append]
  rfl
set_option maxRecDepth 100000 in
set_option maxHeartbeats 4000000 in
theorem Sort_has (s : SlR It) (w : World) (hs : HasS LI w s) (hl : s.l.length ≤ 100000) :
    Calls Try.prog 9 #[.slice s.ad s.l.length s.cap] w fun e w' => ∃ s', e = .returned (.slice s'.ad s'.l.length s'.cap) ∧ MadeS w (sortI s.l) w' s' := by
  obtain ⟨l, sa, sc⟩ := s
  simp only at hl ⊢
  have HS := Lib.hid hs
  obtain ⟨n, hn⟩ : ∃ n, n = l.length := ⟨_, rfl⟩
  have HN := Lib.hid hn
  rw [← hn] at hl ⊢
  have HFN : Hid (∀ wr (s' : SlR It), MadeS w (sortI (l.take n)) wr s' → ∃ s'' : SlR It, Ending.returned (.slice s'.ad s'.l.length s'.cap) = .returned (.slice s''.ad s''.l.length s''.cap) ∧ MadeS w (sortI l) wr s'') := fun wr s' h => ⟨s', rfl, by rw [show l.take n = l from by rw [HN.out]; exact List.take_length] at h; exact h⟩
  clear hs hn
  go_enter Try.func9, Try.ntmps9
  go_wp2_with fail
  go_loopg [3, 4] n (fun gk vo vi wr => ∃ (i : Nat) (o : SlR It), vo = .slice o.ad o.l.length o.cap ∧ vi = .int .i64 i ∧ i + gk = n ∧ Hid (MadeS w (sortI (l.take i)) wr o))
  case atStart => exact ⟨0, ⟨[], none, 0⟩, rfl, rfl, by omega, ⟨rfl, hasS_nil _ _, fun a e => by simp at e, Upd.refl _ _⟩⟩
  case round =>
    obtain ⟨i, o, rfl, rfl, hig, HO⟩ := hrel
    by_cases hlt : i < n
    · have hltz : (i : Int) < (n : Int) := by omega
      have hi1 : i < l.length := by have := HN.out; omega
      obtain ⟨b, off, hbo, x0, x1, x2⟩ := (HS.out.stay HO.out.upd).row.item i hi1
      simp only at hbo x0 x1 x2
      subst hbo
      have hol : o.l.length ≤ 100000 := by
        rw [HO.out.eq, sortI_length, List.length_take]
        omega
      have hpl := place_has o l[i] wr HO.out.has hol
      have HST := Lib.hid (sort_take_succ hi1)
      have hoe := HO.out.eq
      rw [hoe] at hpl
      generalize l[i] = y at *
      obtain ⟨yt, yq, ys⟩ := y
      simp only at x0 x1 x2
      unfold aggI at hpl
      simp only at hpl
      rw [← hoe] at hpl
      have HPL := Lib.hid hpl
      have HOE := Lib.hid hoe
      generalize o.l.length = on at *
      generalize o.ad = oad at *
      generalize o.cap = oc at *
      clear hpl hoe hol
      go_upto_region 4 with (go_at_call 19; (with_reducible refine HPL.out.mono ?_); rintro e w1 ⟨s', rfl, hM⟩)
      have HM : Hid (MadeS w (sortI (l.take (i + 1))) w1 s') := ⟨by rw [HST.out, ← HOE.out]; exact hM.eq, hM.has, fun a ea => Nat.le_trans HO.out.upd.size (hM.ge a ea), HO.out.upd.thn hM.upd⟩
      clear hM x0 x1 x2
      go_wp2_with fail
      go_roundg (n - (i + 1))
      case measure => omega
      case rel => exact ⟨i + 1, s', rfl, by go_num, by omega, HM⟩
    · have hltz : ¬ (i : Int) < (n : Int) := by omega
      have hin : i = n := by omega
      have HO2 := HFN.out wr o (by rw [← hin]; exact HO.out)
      have HO3 := Lib.hid HO2
      clear HO2 hin
      go_wp2_with fail
      go_ret
      exact HO3.out
end Go.Proofs.Ytneodiemgemhfaa
