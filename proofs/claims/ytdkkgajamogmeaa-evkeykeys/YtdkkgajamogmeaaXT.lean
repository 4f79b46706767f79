/- Contracts of the stable sort: the merge of one element with a row. -/
import Derived.Test.YtdkkgajamogmeaaXQ
namespace Go.Proofs.Ytdkkgajamogmeaa
open Go.Shelf Go.RowKit Go.Lib Go.Sort
variable {α : Type} [Inhabited α]

theorem rot_step1 {a j : Nat} {d dk : Array α} (h : Rot a (a + 1) (j + 1) d dk) (ha : a ≤ j) (hj : j + 1 < d.size) : Rot a (a + 1) (j + 2) d (swp dk j (j + 1)) := by
  have hs := h.size
  refine ⟨by rw [swp_size, hs], fun p h1 h2 => ?_, fun p hp => ?_⟩
  · rw [swp_get dk (by omega) (by omega)]
    by_cases e1 : p = j + 1
    · subst e1
      rw [if_pos rfl, h.inn j ha (by omega), rotF, rotF, if_neg (by omega), if_neg (by omega)]
      congr 1; omega
    · rw [if_neg e1]
      by_cases e2 : p = j
      · subst e2
        rw [if_pos rfl, h.out (p + 1) (by omega), rotF, if_pos (by omega)]
        congr 1; omega
      · rw [if_neg e2, h.inn p h1 (by omega), rotF, rotF, if_pos (by omega), if_pos (by omega)]
  · rw [swp_get dk (by omega) (by omega), if_neg (by omega), if_neg (by omega), h.out p (by omega)]
theorem rot_step2 {i m : Nat} {d dk : Array α} (h : Rot (i + 1) m (m + 1) d dk) (ha : i < m) (hj : m < d.size) : Rot i m (m + 1) d (swp dk (i + 1) i) := by
  have hs := h.size
  refine ⟨by rw [swp_size, hs], fun p h1 h2 => ?_, fun p hp => ?_⟩
  · rw [swp_get dk (by omega) (by omega)]
    by_cases e1 : p = i
    · subst e1
      rw [if_pos rfl, h.inn (p + 1) (by omega) (by omega), rotF, rotF, if_pos (by omega), if_pos (by omega)]
      congr 1; omega
    · rw [if_neg e1]
      by_cases e2 : p = i + 1
      · subst e2
        rw [if_pos rfl, h.out i (by omega), rotF, if_neg (by omega)]
        congr 1; omega
      · rw [if_neg e2, h.inn p (by omega) h2, rotF, rotF, if_neg (by omega), if_neg (by omega)]
        congr 1; omega
  · rw [swp_get dk (by omega) (by omega), if_neg (by omega), if_neg (by omega), h.out p (by omega)]

set_option maxHeartbeats 8000000 in
set_option maxRecDepth 1000000 in
theorem sym1_any {P : Program} {k : Nat} (B : Bed P k) (enc : α → List Value) (cf : α → α → Int) (tag : α → Nat) (hO : SWO (ltOf cf)) (g : Nat) (cb : Array Value) (blk off cap a b : Nat) (d0 d : Array α) (w0 w : World)
    (eg : ∀ args w, (callFunc g args).run P w = .ok (.enter g args) w) (hcmp : CmpLays P g cb enc k cf blk off d0.size w0) (R : RowK enc k w0 blk off d0) (hs : d0.size = d.size) (S : SWK enc k w0 blk off d w) (hab : a + 1 < b) (hb : b ≤ d.size) (hsz : d.size < 4611686018427387904)
    (s2 : SortedIn (tlt (ltOf cf) tag) (a + 1) b d) (ht : ∀ y, a + 1 ≤ y → y < b → tag d[a]! < tag d[y]!) :
    Calls P 34 #[.slice (some ⟨blk, off, none⟩) d.size cap, .int .i64 a, .int .i64 ((a + 1 : Nat) : Int), .int .i64 b, .func (.func g) #[] cb] w fun e w' =>
      e = .returned (.tuple #[]) ∧ ∃ d', PermIn a b d d' ∧ SortedIn (tlt (ltOf cf) tag) a b d' ∧ SWK enc k w0 blk off d' w' := by
  have mixed := B.mixed; have t0 := B.t0; have a0 := B.a0; have z0 := B.z0; have v0 := B.v0; have t3 := B.t3; have a3 := B.a3; have z3 := B.z3; have v3 := B.v3; have t4 := B.t4; have a4 := B.a4; have z4 := B.z4; have v4 := B.v4; have t25 := B.t25; have a25 := B.a25; have z25 := B.z25; have v25 := B.v25; have t28 := B.t28; have a28 := B.a28; have z28 := B.z28; have v28 := B.v28; have aE := B.aE; have zE := B.zE; have t52 := B.t52; have a52 := B.a52; have z52 := B.z52; have v52 := B.v52
  have S0 : Aside (SWK enc k w0 blk off d w) := S
  have HC : Aside _ := hcmp
  have HO := Lib.hid hO; have HS := Lib.hid s2; have HT := Lib.hid ht
  clear S hcmp hO s2 ht
  have em : IntKind.i64.wrap ((a : Int) + 1 - (a : Int)) = 1 := by rw [IntKind.wrap_i64]; omega
  go_enter B.f34, Try.ntmps34
  go_wp2_with fail
  go_loopg [10, 11] (b - a) (fun gk vi vj wr => ∃ (i j : Nat), vi = .int .i64 i ∧ vj = .int .i64 j ∧ j - i ≤ gk ∧ a + 1 ≤ i ∧ i ≤ j ∧ j ≤ b ∧ Hid (i = a + 1 ∨ ltOf cf d[i - 1]! d[a]! = true) ∧ Hid (j = b ∨ ltOf cf d[j]! d[a]! = false) ∧ Aside (SWK enc k w0 blk off d wr))
  case atStart => exact ⟨a + 1, b, by go_num, rfl, by omega, by omega, by omega, by omega, .inl rfl, .inl rfl, S0⟩
  case round =>
    clear S0
    obtain ⟨i, j, rfl, rfl, hg, hai, hij, hjb, H1, H2, S1⟩ := hrel
    by_cases hlt : i < j
    · have hltz : (i : Int) < (j : Int) := by omega
      obtain ⟨h, hh⟩ : ∃ h, h = (i + j) / 2 := ⟨_, rfl⟩
      have eh : ((i : Int) + (j : Int)) / 2 = (h : Int) := by omega
      have hih : i ≤ h := by omega
      have hhj : h < j := by omega
      have ec : ((h : Int)).toNat = h := by omega
      have pc : (0 : Int) ≤ (h : Int) := by omega
      have bc : (h : Int) < (d.size : Int) := by omega
      have ba : (a : Int) < (d.size : Int) := by omega
      obtain ⟨x, hx⟩ : ∃ x, x = d[h]! := ⟨_, rfl⟩
      obtain ⟨y, hy⟩ : ∃ x, x = d[a]! := ⟨_, rfl⟩
      have la := S1.out.ld R (by omega) P h (by omega)
      have lb := S1.out.ld R (by omega) P a (by omega)
      rw [← hx] at la
      rw [← hy] at lb
      have hc := S1.out.cmp HC.out (by omega) x y
      have HX := Lib.hid hx; have HY := Lib.hid hy
      clear hx hy hh
      have HEH := Lib.hid eh
      by_cases hlv : cf x y < 0
      · have hd : decide (cf x y < 0) = true := decide_eq_true hlv
        go_wp2_with fail
        go_quiet_grown (first | (go_at_fn g; refine Calls.grown_of (hc _ _)))
        have S2 : Aside (SWK enc k w0 blk off d (grow (wr.drewN nq) osq)) := S1.out.grown nq osq
        clear la lb hc S1
        generalize grow (wr.drewN nq) osq = w2 at S2 ⊢
        clear nq osq
        go_wp2_with fail
        go_roundg (j - (h + 1))
        case measure => omega
        case rel => exact ⟨h + 1, j, by first | rfl | go_num | (congr 1; omega), rfl, by omega, by omega, by omega, hjb, .inr (by rw [Nat.add_sub_cancel, ← HX.out, ← HY.out]; exact hd), H2, S2⟩
      · have hd : decide (cf x y < 0) = false := decide_eq_false hlv
        go_wp2_with fail
        go_quiet_grown (first | (go_at_fn g; refine Calls.grown_of (hc _ _)))
        have S2 : Aside (SWK enc k w0 blk off d (grow (wr.drewN nq) osq)) := S1.out.grown nq osq
        clear la lb hc S1
        generalize grow (wr.drewN nq) osq = w2 at S2 ⊢
        clear nq osq
        go_wp2_with fail
        go_roundg (h - i)
        case measure => omega
        case rel => exact ⟨i, h, rfl, by first | rfl | go_num | (congr 1; omega), by omega, by omega, by omega, by omega, H1, .inr (by rw [← HX.out, ← HY.out]; exact hd), S2⟩
    · obtain rfl : i = j := by omega
      have ei : IntKind.i64.wrap ((i : Int) - 1) = (i : Int) - 1 := by rw [IntKind.wrap_i64]; omega
      go_wp2_with fail
      go_loopg [13] (i - a) (fun gk2 vk wr2 => ∃ (q : Nat) (dk : Array α), vk = .int .i64 q ∧ a ≤ q ∧ q + 1 ≤ i ∧ i - q ≤ gk2 + 1 ∧ Hid (Rot a (a + 1) (q + 1) d dk) ∧ Hid (PermIn a b d dk) ∧ Aside (SWK enc k w0 blk off dk wr2))
      case atStart => exact ⟨a, d, rfl, by omega, by omega, by omega, rot_refl' _ _ _, permIn_refl _ _ _, S1⟩
      case round =>
        clear S1
        obtain ⟨q, dk, rfl, haq, hqi, hgk, HR, HP, S3⟩ := hrel
        have hds := HR.out.size
        by_cases hq : q + 1 < i
        · have hqz : (q : Int) < (i : Int) - 1 := by omega
          have rc : IntKind.i64.wrap ((q : Int) + 1) = (q : Int) + 1 := by rw [IntKind.wrap_i64]; omega
          have ec : ((q : Int) + 1).toNat = q + 1 := by omega
          have pc : (0 : Int) ≤ (q : Int) + 1 := by omega
          have bc : (q : Int) + 1 < (d.size : Int) := by omega
          have ba : (q : Int) < (d.size : Int) := by omega
          have S4 : Aside (SWK enc k w0 blk off (swp dk q (q + 1)) ((wr.drew.setCells blk (off + q * k) (enc dk[q + 1]!)).setCells blk (off + (q + 1) * k) (enc dk[q]!))) := S3.out.swapped R q (q + 1) (by omega) (by omega)
          have la := S3.out.ld1 R (by omega) P q (by omega)
          have lb := S3.out.ld1 R (by omega) P (q + 1) (by omega)
          have sa := S3.out.st1 R (by omega) P q (by omega) dk[q + 1]!
          have sb := S3.out.st2 R (by omega) P q (q + 1) (by omega) (by omega) dk[q + 1]! dk[q]!
          have na : (enc dk[q]!).length = k := R.hk _
          have nb : (enc dk[q + 1]!).length = k := R.hk _
          generalize enc dk[q]! = cI at S4 la sb na
          generalize enc dk[q + 1]! = cJ at S4 lb sa sb nb
          clear S3
          go_wp2_with fail
          go_big_region_o
          clear la lb sa sb
          generalize (wr.drew.setCells blk (off + q * k) cJ).setCells blk (off + (q + 1) * k) cI = w2 at S4 ⊢
          go_wp2_with fail
          go_roundg (gk - 1)
          case measure => omega
          case rel => exact ⟨q + 1, _, by go_num, by omega, by omega, by omega, rot_step1 HR.out haq (by omega), permIn_trans _ _ _ _ _ HP.out (swp_permIn _ _ _ _ _ (by omega) (by omega) (by omega) (by omega) (by omega)), S4⟩
        · obtain rfl : i = q + 1 := by omega
          have hqz : ¬ (q : Int) < ((q + 1 : Nat) : Int) - 1 := by omega
          go_wp2_with fail
          (try simp only [Exit.inBlock, Exit.then])
          refine bodyPost_ret (results_none rfl _ _ _) rfl ?_
          exact ⟨rfl, dk, HP.out, merge1 HO.out HS.out HT.out hai hjb H1.out H2.out HR.out, S3.out⟩
end Go.Proofs.Ytdkkgajamogmeaa
