/- Contracts: the program's distinct, validTop. -/
import Derived.Test.YtneodiemgemhfaaLF
import Derived.Shelf.SlSortCmp.NoneTotal
namespace Go.Proofs.Ytneodiemgemhfaa
open Go.RowKit Go.Lib Go.Sort

theorem sorted_next {l : List It} (hs : SortedI l) : DistI l ↔ ∀ i (h : i + 1 < l.length), ¬ eqK (l[i]'(by omega)) l[i + 1] := by
  constructor
  · intro h i hi
    exact pairwise_at.1 h i (i + 1) (by omega) hi (by omega)
  · intro h
    refine pairwise_at.2 fun i j hi hj hij hk => ?_
    have hs' := pairwise_at.1 hs
    have h1 := h i (by omega)
    by_cases e : i + 1 = j
    · subst e; exact h1 hk
    · have h2 := hs' i (i + 1) (by omega) (by omega) (by omega)
      have h3 := hs' (i + 1) j (by omega) hj (by omega)
      unfold ltI eqK at *
      omega
open Classical in
noncomputable def distinctB (l : List It) : Bool := decide (DistI l)
theorem distinctB_yes {l : List It} : distinctB l = true ↔ DistI l := by simp [distinctB]
theorem distinctB_no {l : List It} : distinctB l = false ↔ ¬ DistI l := by simp [distinctB]
set_option maxRecDepth 100000 in
set_option maxHeartbeats 4000000 in
theorem distinct_has (b0 : Nat) (va : Option Addr) (vc n : Nat) (l : List It) (w : World) (hn : n = l.length) (ho : w.ownsRow b0 34 3 (.slice va n vc) n (LI.flat l)) (hl : l.length ≤ 100000) :
    Calls Try.prog 25 #[.slice va n vc] w fun e w' => e = .returned (.bool (distinctB l)) ∧ Upd (Value.slice va n vc).ownBlock.toList w w' := by
  have HSO : Hid (Calls Try.prog 45 #[.slice va n vc, .func (.func 17) #[] #[]] w fun e w' => e = .returned (.tuple #[]) ∧ ∃ l', l'.Perm l ∧ SortedI l' ∧ Row LI w' va l' ∧ Upd (Value.slice va n vc).ownBlock.toList w w') := by
    by_cases h0 : 0 < n
    · obtain ⟨_, g, cap, ev, hbg, hh⟩ := held_row (L := LI) ho h0
      simp only [Value.slice.injEq] at ev
      obtain ⟨rfl, _, rfl⟩ := ev
      subst hn
      refine (SortFunc_has g vc l w (by omega) hh).mono ?_
      rintro e w' ⟨rfl, l', h1, h2, h3, h4⟩
      exact ⟨rfl, l', h1, h2, h3.row, h4⟩
    · obtain rfl : n = 0 := by omega
      obtain rfl : l = [] := List.eq_nil_of_length_eq_zero hn.symm
      refine (AnyF.slices_SortFunc_none sortLays va vc _ w).mono ?_
      rintro e w' ⟨rfl, rfl⟩
      exact ⟨rfl, [], List.Perm.refl _, List.Pairwise.nil, row_nil _ _ _, Upd.refl _ _⟩
  have HFN : Hid (∀ l', l'.Perm l → SortedI l' → (distinctB l = true ↔ ∀ i (h : i + 1 < l'.length), ¬ eqK (l'[i]'(by omega)) l'[i + 1]) ∧ l'.length = n) := fun l' hp hs => by
    refine ⟨?_, by rw [hp.length_eq, hn]⟩
    rw [distinctB_yes, ← sorted_next hs]
    exact ⟨fun h => h.perm hp.symm, fun h => h.perm hp⟩
  obtain ⟨r, hr⟩ : ∃ r, r = distinctB l := ⟨_, rfl⟩
  rw [← hr] at HFN ⊢
  obtain ⟨S, hS⟩ : ∃ S, S = (Value.slice va n vc).ownBlock.toList := ⟨_, rfl⟩
  rw [← hS] at HSO ⊢
  have hnl : n ≤ 100000 := by omega
  clear ho hl hr hS hn
  go_enter Try.func25, Try.ntmps25
  go_upto_region 2 with (go_at_call 45; (with_reducible refine HSO.out.mono ?_); rintro e w1 ⟨rfl, l', hp, hs, hrow, hu1⟩)
  obtain ⟨hiff, hlen⟩ := HFN.out l' hp hs
  have HIFF := Lib.hid hiff; have HLEN := Lib.hid hlen; have HROW := Lib.hid hrow; have HU1 := Lib.hid hu1
  clear hiff hlen hrow hu1 hp hs
  go_wp2_with fail
  go_loopg [3] (n + 1) (fun gk vi wr => ∃ k : Nat, vi = .int .i64 ((k : Int) + 1) ∧ k + gk = n + 1 ∧ Hid (Upd [] w1 wr) ∧ Hid (∀ i (h : i + 1 < l'.length), i < k → ¬ eqK (l'[i]'(by omega)) l'[i + 1]))
  case atStart => exact ⟨0, rfl, by omega, Upd.refl _ _, fun i h hi => by omega⟩
  case round =>
    obtain ⟨k, rfl, hkg, HUR, HF⟩ := hrel
    by_cases hlt : k + 1 < n
    · have hltz : (k : Int) + 1 < (n : Int) := by omega
      have hk1 : k + 1 < l'.length := by have := HLEN.out; omega
      obtain ⟨b, off, hbo, x0, x1, x2⟩ := (HROW.out.stay HUR.out).item k (by omega)
      subst hbo
      obtain ⟨b', off', hbo, y0, y1, y2⟩ := (HROW.out.stay HUR.out).item (k + 1) hk1
      simp only [Option.some.injEq, Addr.mk.injEq, and_true] at hbo
      obtain ⟨rfl, rfl⟩ := hbo
      have hw1 : IntKind.i64.wrap ((k : Int) + 1 - 1) = (k : Int) := by rw [IntKind.wrap_i64]; omega
      have hw2 : (k : Int) + 1 - 1 = (k : Int) := by omega
      have HCK := Lib.hid (fun W => (CompareItems_any (l'[k]'(by omega)) l'[k + 1] W).mono (R' := fun e w' => e = .returned (.int .i64 (cmpI (l'[k]'(by omega)) l'[k + 1])) ∧ Upd [] W w') (fun e w' h => ⟨h.1, h.2.upd⟩))
      have HLT : Hid (¬ cmpI (l'[k]'(by omega)) l'[k + 1] = 0 → ∀ i (h : i + 1 < l'.length), i < k + 1 → ¬ eqK (l'[i]'(by omega)) l'[i + 1]) := fun hc i h hi => by
        by_cases e : i = k
        · subst e; exact fun he => hc (cmpI_zero.2 he)
        · exact HF.out i h (by omega)
      have HNL : Hid (cmpI (l'[k]'(by omega)) l'[k + 1] = 0 → r = false) := fun hc => by
        cases hr : r with
        | false => rfl
        | true => exact absurd (cmpI_zero.1 hc) (HIFF.out.1 hr k hk1)
      have HIT1 : Hid (aggI (l'[k]'(by omega)) = .agg #[.int .i64 (l'[k]'(by omega)).t, .int .i64 (l'[k]'(by omega)).q, .int .i64 (l'[k]'(by omega)).s]) := rfl
      have HIT2 : Hid (aggI l'[k + 1] = .agg #[.int .i64 l'[k + 1].t, .int .i64 l'[k + 1].q, .int .i64 l'[k + 1].s]) := rfl
      rw [HIT1.out, HIT2.out] at HCK
      generalize cmpI (l'[k]'(by omega)) l'[k + 1] = cc at *
      generalize (l'[k]'(by omega)).t = a0 at *
      generalize (l'[k]'(by omega)).q = a1 at *
      generalize (l'[k]'(by omega)).s = a2 at *
      generalize l'[k + 1].t = e0 at *
      generalize l'[k + 1].q = e1 at *
      generalize l'[k + 1].s = e2 at *
      clear HIT1 HIT2
      have j0 := kept_at x0; have j1 := kept_at x1; have j2 := kept_at x2; have j3 := kept_at y0; have j4 := kept_at y1; have j5 := kept_at y2
      clear x0 x1 x2 y0 y1 y2
      go_upto_region 5 with (fail)
      refine wp_region_quiet_kept mixed (by kernel_rfl) ?_
      repeat (go_big_quiet_step (first | (go_at_call 17; exact calls_kept (HCK.out _))))
      refine wpQuiet_nil ?_
      intro Wx hw'
      obtain ⟨⟨Wy, hu⟩, hw''⟩ := hw'
      simp only at hw''
      subst hw''
      clear j0 j1 j2 j3 j4 j5
      have HUX := Lib.hid (HUR.out.thn hu)
      clear hu
      by_cases hc : cc = 0
      · have hd : (cc == 0) = true := by simpa using hc
        have HE := Lib.hid (HNL.out hc)
        have HC0 := Lib.hid hc
        clear hc
        go_wp2_with fail
        go_ret
        exact ⟨ret_bool HE.out.symm, HU1.out.trans HUX.out (by simp)⟩
      · have hd : (cc == 0) = false := by simpa using hc
        go_wp2_with fail
        go_roundg (gk - 1)
        case measure => omega
        case rel => exact ⟨k + 1, by go_num, by omega, HUX, HLT.out hc⟩
    · have hltz : ¬ (k : Int) + 1 < (n : Int) := by omega
      have HE : Hid (r = true) := HIFF.out.2 (fun i h => HF.out i h (by have := HLEN.out; omega))
      go_wp2_with fail
      go_ret
      exact ⟨ret_bool HE.out.symm, HU1.out.trans HUR.out (by simp)⟩
end Go.Proofs.Ytneodiemgemhfaa
