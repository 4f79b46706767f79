/- Contracts of the stable sort: the merge of two rows. -/
import Derived.Test.YtdkkgajamogmeaaXU
namespace Go.Proofs.Ytdkkgajamogmeaa
open Go.Shelf Go.RowKit Go.Lib Go.Sort
variable {α : Type} [Inhabited α]

/-- What the merge of two rows of at most n places together promises. -/
def SymOk (P : Program) (k : Nat) (enc : α → List Value) (cf : α → α → Int) (tag : α → Nat) (g : Nat) (cb : Array Value) (blk off cap : Nat) (d0 : Array α) (w0 : World) (n : Nat) : Prop :=
  ∀ (a m b : Nat) (d : Array α) (w : World), b - a ≤ n → d0.size = d.size → SWK enc k w0 blk off d w → a < m → m < b → b ≤ d.size →
    SortedIn (tlt (ltOf cf) tag) a m d → SortedIn (tlt (ltOf cf) tag) m b d → (∀ x y, a ≤ x → x < m → m ≤ y → y < b → tag d[x]! < tag d[y]!) →
    Calls P 34 #[.slice (some ⟨blk, off, none⟩) d0.size cap, .int .i64 a, .int .i64 m, .int .i64 b, .func (.func g) #[] cb] w fun e w' =>
      e = .returned (.tuple #[]) ∧ ∃ d', PermIn a b d d' ∧ SortedIn (tlt (ltOf cf) tag) a b d' ∧ SWK enc k w0 blk off d' w'

set_option maxHeartbeats 16000000 in
set_option maxRecDepth 1000000 in
theorem sym3_any {P : Program} {k : Nat} (B : Bed P k) (enc : α → List Value) (cf : α → α → Int) (tag : α → Nat) (hO : SWO (ltOf cf)) (g : Nat) (cb : Array Value) (blk off cap a m b N : Nat) (d0 d : Array α) (w0 w : World)
    (eg : ∀ args w, (callFunc g args).run P w = .ok (.enter g args) w) (hcmp : CmpLays P g cb enc k cf blk off d0.size w0) (R : RowK enc k w0 blk off d0) (hIH : SymOk P k enc cf tag g cb blk off cap d0 w0 N) (hN : b - a ≤ N + 1) (hs : d0.size = d.size) (S : SWK enc k w0 blk off d w) (ham : a + 1 < m) (hmb : m + 1 < b) (hb : b ≤ d.size) (hsz : d.size < 4611686018427387904)
    (s1 : SortedIn (tlt (ltOf cf) tag) a m d) (s2 : SortedIn (tlt (ltOf cf) tag) m b d) (ht : ∀ x y, a ≤ x → x < m → m ≤ y → y < b → tag d[x]! < tag d[y]!) (mid lo hi : Nat) (hmid : mid = (a + b) / 2) (hlh : (mid < m ∧ lo = mid + m - b ∧ hi = mid) ∨ (m ≤ mid ∧ lo = a ∧ hi = m)) :
    Calls P 34 #[.slice (some ⟨blk, off, none⟩) d0.size cap, .int .i64 a, .int .i64 m, .int .i64 b, .func (.func g) #[] cb] w fun e w' =>
      e = .returned (.tuple #[]) ∧ ∃ d', PermIn a b d d' ∧ SortedIn (tlt (ltOf cf) tag) a b d' ∧ SWK enc k w0 blk off d' w' := by
  have mixed := B.mixed; have t0 := B.t0; have a0 := B.a0; have z0 := B.z0; have v0 := B.v0; have t3 := B.t3; have a3 := B.a3; have z3 := B.z3; have v3 := B.v3; have t4 := B.t4; have a4 := B.a4; have z4 := B.z4; have v4 := B.v4; have t25 := B.t25; have a25 := B.a25; have z25 := B.z25; have v25 := B.v25; have t28 := B.t28; have a28 := B.a28; have z28 := B.z28; have v28 := B.v28; have aE := B.aE; have zE := B.zE; have t52 := B.t52; have a52 := B.a52; have z52 := B.z52; have v52 := B.v52
  have e34 : ∀ args w, (callFunc 34 args).run P w = .ok (.enter 34 args) w := enters_of B.f34 (by kernel_rfl) rfl
  have e35 : ∀ args w, (callFunc 35 args).run P w = .ok (.enter 35 args) w := enters_of B.f35 (by kernel_rfl) rfl
  have S0 : Aside (SWK enc k w0 blk off d w) := S
  have HC : Aside _ := hcmp
  have HI : Aside _ := hIH
  have HO := Lib.hid hO; have HS1 := Lib.hid s1; have HS2 := Lib.hid s2; have HT := Lib.hid ht; have HLH := Lib.hid hlh; have HMID := Lib.hid hmid
  have em : IntKind.i64.wrap ((m : Int) - (a : Int)) = (m : Int) - (a : Int) := by rw [IntKind.wrap_i64]; omega
  have en : IntKind.i64.wrap ((b : Int) - (m : Int)) = (b : Int) - (m : Int) := by rw [IntKind.wrap_i64]; omega
  have d1 : (((m : Int) - (a : Int)) == 1) = false := by simp; omega
  have d2 : (((b : Int) - (m : Int)) == 1) = false := by simp; omega
  have emid : ((a : Int) + (b : Int)) / 2 = (mid : Int) := by omega
  have hlo1 : a ≤ lo := by omega
  have hlo2 : lo ≤ hi := by omega
  have hhi1 : hi ≤ m := by omega
  have hhi2 : hi ≤ mid := by omega
  have hmb2 : mid < b := by omega
  have hmb3 : a < mid := by omega
  have hlo3 : mid + m ≤ lo + b := by omega
  have HSZ := Lib.hid hs
  have hb0 : b ≤ d0.size := by omega
  clear S hcmp hO s1 s2 ht hIH hmid hlh hs
  go_enter B.f34, Try.ntmps34
  go_upto_if 140 with (fail)
  go_cut [20, 21] from 138 to 146 (fun v20 v21 wx => v20 = .int .i64 lo ∧ v21 = .int .i64 hi ∧ w = wx)
  case first =>
    rcases HLH.out with ⟨c1, c2, c3⟩ | ⟨c1, c2, c3⟩
    · have elo : IntKind.i64.wrap ((mid : Int) + (m : Int) - (b : Int)) = (lo : Int) := by rw [IntKind.wrap_i64]; omega
      subst c3
      have c1z : (hi : Int) < (m : Int) := by omega
      clear c2
      go_wp2_with fail
      go_meet
      case rel => exact ⟨rfl, rfl, rfl⟩
    · have c1z : ¬ (mid : Int) < (m : Int) := by omega
      subst c2 c3
      go_wp2_with fail
      go_meet
      case rel => exact ⟨rfl, rfl, rfl⟩
  case rest =>
    obtain ⟨rfl, rfl, rfl⟩ := hcut
    obtain ⟨n1, hn1⟩ : ∃ n1 : Nat, n1 + 1 = mid + m := ⟨mid + m - 1, by omega⟩
    have ep : IntKind.i64.wrap ((mid : Int) + (m : Int) - 1) = (n1 : Int) := by rw [IntKind.wrap_i64]; omega
    go_wp2_with fail
    go_loopg [20, 21] (hi - lo) (fun gk vi vj wr => ∃ (i j : Nat), vi = .int .i64 i ∧ vj = .int .i64 j ∧ j - i ≤ gk ∧ lo ≤ i ∧ i ≤ j ∧ j ≤ hi ∧ Hid (i = lo ∨ ltOf cf d[mid + m - i]! d[i - 1]! = false) ∧ Hid (j = hi ∨ ltOf cf d[mid + m - j - 1]! d[j]! = true) ∧ Aside (SWK enc k w0 blk off d wr))
    case atStart => exact ⟨lo, hi, rfl, rfl, by omega, by omega, by omega, by omega, .inl rfl, .inl rfl, S0⟩
    case round =>
      clear S0
      obtain ⟨i, j, rfl, rfl, hg, hai, hij, hjb, H1, H2, S1⟩ := hrel
      by_cases hlt : i < j
      · have hltz : (i : Int) < (j : Int) := by omega
        obtain ⟨h, hh⟩ : ∃ h, h = (i + j) / 2 := ⟨_, rfl⟩
        have eh : ((i : Int) + (j : Int)) / 2 = (h : Int) := by omega
        have hih : i ≤ h := by omega
        have hhj : h < j := by omega
        obtain ⟨z, hz⟩ : ∃ z : Nat, z + h = n1 := ⟨n1 - h, by omega⟩
        have ez : IntKind.i64.wrap ((n1 : Int) - (h : Int)) = (z : Int) := by rw [IntKind.wrap_i64]; omega
        have hsz0 := HSZ.out
        have bc : (h : Int) < (d0.size : Int) := by omega
        have bz : (z : Int) < (d0.size : Int) := by omega
        obtain ⟨x, hx⟩ : ∃ x, x = d[z]! := ⟨_, rfl⟩
        obtain ⟨y, hy⟩ : ∃ x, x = d[h]! := ⟨_, rfl⟩
        have la := S1.out.ld R (by omega) P z (by omega)
        have lb := S1.out.ld R (by omega) P h (by omega)
        rw [← hx] at la
        rw [← hy] at lb
        have hc := S1.out.cmp HC.out (by omega) x y
        have HX := Lib.hid hx; have HY := Lib.hid hy; have HH := Lib.hid hh; have HZ := Lib.hid hz
        clear hx hy hh hsz0 hz
        by_cases hlv : cf x y < 0
        · have hd : decide (cf x y < 0) = true := decide_eq_true hlv
          go_wp2_with fail
          go_quiet_grown (first | (go_at_fn g; refine Calls.grown_of (hc _ _)))
          have S2 : Aside (SWK enc k w0 blk off d (grow (wr.drewN nq) osq)) := S1.out.grown nq osq
          clear la lb hc S1
          generalize grow (wr.drewN nq) osq = w2 at S2 ⊢
          clear nq osq
          go_wp2_with fail
          go_roundg (h - i)
          case measure => omega
          case rel => exact ⟨i, h, rfl, by first | rfl | go_num | (congr 1; omega), by omega, by omega, by omega, by omega, H1, .inr (by have := HZ.out; rw [show mid + m - h - 1 = z by omega, ← HX.out, ← HY.out]; exact hd), S2⟩
        · have hd : decide (cf x y < 0) = false := decide_eq_false hlv
          go_wp2_with fail
          go_quiet_grown (first | (go_at_fn g; refine Calls.grown_of (hc _ _)))
          have S2 : Aside (SWK enc k w0 blk off d (grow (wr.drewN nq) osq)) := S1.out.grown nq osq
          clear la lb hc S1
          generalize grow (wr.drewN nq) osq = w2 at S2 ⊢
          clear nq osq
          go_wp2_with fail
          go_roundg (j - (h + 1))
          case measure => omega
          case rel => exact ⟨h + 1, j, by first | rfl | go_num | (congr 1; omega), rfl, by omega, by omega, by omega, hjb, .inr (by have := HZ.out; rw [Nat.add_sub_cancel, show mid + m - (h + 1) = z by omega, ← HX.out, ← HY.out]; exact hd), H2, S2⟩
      · obtain rfl : i = j := by omega
        obtain ⟨e, he⟩ : ∃ e : Nat, e + i = mid + m := ⟨mid + m - i, by omega⟩
        have ee : IntKind.i64.wrap ((mid : Int) + (m : Int) - (i : Int)) = (e : Int) := by rw [IntKind.wrap_i64]; omega
        have hme : m ≤ e := by omega
        have heb : e ≤ b := by omega
        have hmide : mid ≤ e := by omega
        have HE := Lib.hid he
        clear he
        have hnot : ¬ (i : Int) < (i : Int) := by omega
        go_upto_region 39 with (fail)
        go_cut [185] from 178 to 184 (fun v wx => v = .bool (decide (i < m ∧ m < e)) ∧ wr = wx)
        case first =>
          by_cases c1 : i < m
          · by_cases c2 : m < e
            · have c1z : (i : Int) < (m : Int) := by omega
              have c2z : (m : Int) < (e : Int) := by omega
              go_wp2_with fail
              go_meet
              case rel => exact ⟨by simp [c1, c2], rfl⟩
            · have c1z : (i : Int) < (m : Int) := by omega
              have c2z : ¬ (m : Int) < (e : Int) := by omega
              go_wp2_with fail
              go_meet
              case rel => exact ⟨by simp [c1, c2], rfl⟩
          · have c1z : ¬ (i : Int) < (m : Int) := by omega
            go_wp2_with fail
            go_meet
            case rel => exact ⟨by simp [c1], rfl⟩
        case rest =>
          obtain ⟨rfl, rfl⟩ := hcut
          generalize hq1 : decide (i < m ∧ m < e) = q1
          have HQ1 := Lib.hid hq1
          clear hq1
          go_upto_if 185 with (fail)
          go_cut [] from 186 to 191 (fun wx => ∃ d1, Hid (Rot i m e d d1) ∧ Hid (PermIn a b d d1) ∧ Aside (SWK enc k w0 blk off d1 wx))
          case first =>
            cases q1 with
            | true =>
              obtain ⟨c1, c2⟩ := of_decide_eq_true HQ1.out
              have hc := rotate_any B enc g cb blk off cap i m e d0 d w0 wr R HSZ.out S1.out c1 c2 (by omega) hsz
              rw [← HSZ.out] at hc
              have HCC := Lib.hid hc
              clear hc
              go_wp2_with fail
              refine HCC.out.mono ?_
              rintro ex w' ⟨rfl, d1, hr, hp, hsw⟩
              have HR := Lib.hid hr; have HP := Lib.hid hp; have SW : Aside _ := hsw
              clear hr hp hsw
              go_wp2_with fail
              go_meet
              case rel => exact ⟨d1, HR, permIn_mono _ _ _ _ _ _ (by omega) (by omega) hb HP.out, SW⟩
            | false =>
              have hn := of_decide_eq_false HQ1.out
              have hr : Hid (Rot i m e d d) := by
                show Rot i m e d d
                by_cases c1 : i < m
                · obtain rfl : e = m := by omega
                  exact rot_refl' _ _ _
                · obtain rfl : i = m := by omega
                  exact rot_refl _ _ _
              clear hn
              go_wp2_with fail
              go_meet
              case rel => exact ⟨d, hr, permIn_refl _ _ _, S1⟩
          case rest =>
            obtain ⟨d1, HR, HP, SA⟩ := hcut
            have HHV : Hid (Halves (ltOf cf) tag a i mid e b d1) := by
              have he := HE.out
              have := halves HO.out HS1.out HS2.out HT.out (s := i) (e := e) (by omega) (by omega) hme heb (by
                rcases H1.out with c | c
                · have := HLH.out
                  omega
                · exact .inr (.inr (by rw [show mid + m - i = e by omega] at c; exact c))) (by
                rcases H2.out with c | c
                · have := HLH.out
                  omega
                · exact .inr (.inr (by rw [show mid + m - i - 1 = e - 1 by omega] at c; exact c))) HR.out
              rwa [show i + (e - m) = mid by omega] at this
            have HZ1 : Hid (d1.size = d.size) := HP.out.1
            clear S1 HR
            go_upto_region 41 with (fail)
            go_cut [199] from 192 to 198 (fun v wx => v = .bool (decide (a < i ∧ i < mid)) ∧ wc = wx)
            case first =>
              by_cases c1 : a < i
              · by_cases c2 : i < mid
                · have c1z : (a : Int) < (i : Int) := by omega
                  have c2z : (i : Int) < (mid : Int) := by omega
                  go_wp2_with fail
                  go_meet
                  case rel => exact ⟨by simp [c1, c2], rfl⟩
                · have c1z : (a : Int) < (i : Int) := by omega
                  have c2z : ¬ (i : Int) < (mid : Int) := by omega
                  go_wp2_with fail
                  go_meet
                  case rel => exact ⟨by simp [c1, c2], rfl⟩
              · have c1z : ¬ (a : Int) < (i : Int) := by omega
                go_wp2_with fail
                go_meet
                case rel => exact ⟨by simp [c1], rfl⟩
            case rest =>
              obtain ⟨rfl, rfl⟩ := hcut
              generalize hq2 : decide (a < i ∧ i < mid) = q2
              have HQ2 := Lib.hid hq2
              clear hq2
              go_upto_if 199 with (fail)
              go_cut [] from 200 to 205 (fun wx => ∃ d2, Hid (PermIn a mid d1 d2) ∧ Hid (SortedIn (tlt (ltOf cf) tag) a mid d2) ∧ Aside (SWK enc k w0 blk off d2 wx))
              case first =>
                cases q2 with
                | true =>
                  obtain ⟨c1, c2⟩ := of_decide_eq_true HQ2.out
                  have hc := HI.out a i mid d1 wc (by omega) (by have := HSZ.out; have := HZ1.out; omega) SA.out c1 c2 (by have := HZ1.out; omega) HHV.out.s1 HHV.out.s2 HHV.out.t1
                  have HCC := Lib.hid hc
                  clear hc
                  go_wp2_with fail
                  refine HCC.out.mono ?_
                  rintro ex w' ⟨rfl, d2, hp, hr, hsw⟩
                  have HR := Lib.hid hr; have HPP := Lib.hid hp; have SW : Aside _ := hsw
                  clear hr hp hsw
                  go_wp2_with fail
                  go_meet
                  case rel => exact ⟨d2, HPP, HR, SW⟩
                | false =>
                  have hn := of_decide_eq_false HQ2.out
                  have hr : Hid (SortedIn (tlt (ltOf cf) tag) a mid d1) := by
                    show SortedIn (tlt (ltOf cf) tag) a mid d1
                    by_cases c1 : a < i
                    · obtain rfl : i = mid := by omega
                      exact HHV.out.s1
                    · obtain rfl : i = a := by omega
                      exact HHV.out.s2
                  clear hn
                  go_wp2_with fail
                  go_meet
                  case rel => exact ⟨d1, permIn_refl _ _ _, hr, SA⟩
              case rest =>
                obtain ⟨d2, HP2, HR2, SB⟩ := hcut
                have HZ2 : Hid (d2.size = d.size) := HP2.out.1.trans HZ1.out
                clear SA
                have h3 : Hid (SortedIn (tlt (ltOf cf) tag) mid e d2) := sorted_congr HHV.out.s3 (fun p hp _ => HP2.out.2.1 p (.inr hp))
                have h4 : Hid (SortedIn (tlt (ltOf cf) tag) e b d2) := sorted_congr HHV.out.s4 (fun p hp _ => HP2.out.2.1 p (.inr (by omega)))
                have h5 : Hid (∀ x y, mid ≤ x → x < e → e ≤ y → y < b → tag d2[x]! < tag d2[y]!) := fun x y p1 p2 p3 p4 => by
                  rw [HP2.out.2.1 x (.inr p1), HP2.out.2.1 y (.inr (by omega))]; exact HHV.out.t2 x y p1 p2 p3 p4
                go_upto_region 43 with (fail)
                go_cut [213] from 206 to 212 (fun v wx => v = .bool (decide (mid < e ∧ e < b)) ∧ wc = wx)
                case first =>
                  by_cases c1 : mid < e
                  · by_cases c2 : e < b
                    · have c1z : (mid : Int) < (e : Int) := by omega
                      have c2z : (e : Int) < (b : Int) := by omega
                      go_wp2_with fail
                      go_meet
                      case rel => exact ⟨by simp [c1, c2], rfl⟩
                    · have c1z : (mid : Int) < (e : Int) := by omega
                      have c2z : ¬ (e : Int) < (b : Int) := by omega
                      go_wp2_with fail
                      go_meet
                      case rel => exact ⟨by simp [c1, c2], rfl⟩
                  · have c1z : ¬ (mid : Int) < (e : Int) := by omega
                    go_wp2_with fail
                    go_meet
                    case rel => exact ⟨by simp [c1], rfl⟩
                case rest =>
                  obtain ⟨rfl, rfl⟩ := hcut
                  generalize hq3 : decide (mid < e ∧ e < b) = q3
                  have HQ3 := Lib.hid hq3
                  clear hq3
                  cases q3 with
                  | true =>
                    obtain ⟨c1, c2⟩ := of_decide_eq_true HQ3.out
                    have hc := HI.out mid e b d2 wc (by omega) (by have := HSZ.out; have := HZ2.out; omega) SB.out c1 c2 (by have := HZ2.out; omega) h3.out h4.out h5.out
                    have HCC := Lib.hid hc
                    clear hc
                    go_wp2_with fail
                    refine HCC.out.mono ?_
                    rintro ex w' ⟨rfl, d3, hp, hr, hsw⟩
                    have HR := Lib.hid hr; have HPP := Lib.hid hp; have SW : Aside _ := hsw
                    clear hr hp hsw
                    go_wp2_with fail
                    go_end0
                    exact ⟨rfl, d3, permIn_trans _ _ _ _ _ (permIn_trans _ _ _ _ _ HP.out (permIn_mono _ _ _ _ _ _ (by omega) (by omega) (by rw [HZ1.out]; omega) HP2.out)) (permIn_mono _ _ _ _ _ _ (by omega) (by omega) (by rw [HZ2.out]; omega) HPP.out), halves_done HHV.out (by omega) (by omega) (by rw [HZ1.out]; omega) HP2.out HR2.out HPP.out HR.out, SW.out⟩
                  | false =>
                    have hn := of_decide_eq_false HQ3.out
                    have hr : Hid (SortedIn (tlt (ltOf cf) tag) mid b d2) := by
                      show SortedIn (tlt (ltOf cf) tag) mid b d2
                      by_cases c1 : mid < e
                      · obtain rfl : e = b := by omega
                        exact h3.out
                      · obtain rfl : e = mid := by omega
                        exact h4.out
                    clear hn
                    go_wp2_with fail
                    go_end0
                    exact ⟨rfl, d2, permIn_trans _ _ _ _ _ HP.out (permIn_mono _ _ _ _ _ _ (by omega) (by omega) (by rw [HZ1.out]; omega) HP2.out), halves_done HHV.out (by omega) (by omega) (by rw [HZ1.out]; omega) HP2.out HR2.out (permIn_refl _ _ _) hr.out, SB.out⟩
end Go.Proofs.Ytdkkgajamogmeaa
