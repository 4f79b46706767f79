/- Contracts of the stable sort: the merge at every length; the blocks. -/
import Derived.Test.YtdkkgajamogmeaaXV
namespace Go.Proofs.Ytdkkgajamogmeaa
open Go.Shelf Go.RowKit Go.Lib Go.Sort
variable {α : Type} [Inhabited α]

theorem sym_all {P : Program} {k : Nat} (B : Bed P k) (enc : α → List Value) (cf : α → α → Int) (tag : α → Nat) (hO : SWO (ltOf cf)) (g : Nat) (cb : Array Value) (blk off cap : Nat) (d0 : Array α) (w0 : World)
    (eg : ∀ args w, (callFunc g args).run P w = .ok (.enter g args) w) (hcmp : CmpLays P g cb enc k cf blk off d0.size w0) (R : RowK enc k w0 blk off d0) (hsz : d0.size < 4611686018427387904) (n : Nat) :
    SymOk P k enc cf tag g cb blk off cap d0 w0 n := by
  induction n with
  | zero => intro a m b d w h; intros; omega
  | succ n ih =>
    intro a m b d w hn hs S ham hmb hb s1 s2 ht
    by_cases c1 : m = a + 1
    · subst c1
      have := sym1_any B enc cf tag hO g cb blk off cap a b d0 d w0 w eg hcmp R hs S hmb hb (by omega) s2 (fun y h1 h2 => ht a y (Nat.le_refl _) ham h1 h2)
      rw [← hs] at this
      exact this
    · by_cases c2 : b = m + 1
      · subst c2
        have := sym2_any B enc cf tag hO g cb blk off cap a m d0 d w0 w eg hcmp R hs S (by omega) hb (by omega) s1 (fun x h1 h2 => ht x m h1 h2 (Nat.le_refl _) (by omega))
        rw [← hs] at this
        exact this
      · by_cases c3 : (a + b) / 2 < m
        · exact sym3_any B enc cf tag hO g cb blk off cap a m b n d0 d w0 w eg hcmp R ih (by omega) hs S (by omega) (by omega) hb (by omega) s1 s2 ht ((a + b) / 2) ((a + b) / 2 + m - b) ((a + b) / 2) rfl (.inl ⟨c3, rfl, rfl⟩)
        · exact sym3_any B enc cf tag hO g cb blk off cap a m b n d0 d w0 w eg hcmp R ih (by omega) hs S (by omega) (by omega) hb (by omega) s1 s2 ht ((a + b) / 2) a m rfl (.inr ⟨by omega, rfl, rfl⟩)

theorem rot_at {j i : Nat} {d d' : Array α} (h : Rot j i (i + 1) d d') (hj : j ≤ i) : d'[j]! = d[i]! := by
  rw [h.inn j (Nat.le_refl _) (by omega), rotF, if_pos (by omega)]; congr 1; omega

set_option maxHeartbeats 8000000 in
set_option maxRecDepth 1000000 in
theorem ins_any {P : Program} {k : Nat} (B : Bed P k) (enc : α → List Value) (cf : α → α → Int) (tag : α → Nat) (hO : SWO (ltOf cf)) (g : Nat) (cb : Array Value) (blk off cap a b : Nat) (d0 d : Array α) (w0 w : World)
    (eg : ∀ args w, (callFunc g args).run P w = .ok (.enter g args) w) (hcmp : CmpLays P g cb enc k cf blk off d0.size w0) (R : RowK enc k w0 blk off d0) (hs : d0.size = d.size) (S : SWK enc k w0 blk off d w) (hab : a ≤ b) (hb : b ≤ d.size) (hsz : d.size < 4611686018427387904)
    (ht : ∀ x y, a ≤ x → x < y → y < b → tag d[x]! < tag d[y]!) :
    Calls P 33 #[.slice (some ⟨blk, off, none⟩) d0.size cap, .int .i64 a, .int .i64 b, .func (.func g) #[] cb] w fun e w' =>
      e = .returned (.tuple #[]) ∧ ∃ d', PermIn a b d d' ∧ SortedIn (tlt (ltOf cf) tag) a b d' ∧ SWK enc k w0 blk off d' w' := by
  have mixed := B.mixed; have t0 := B.t0; have a0 := B.a0; have z0 := B.z0; have v0 := B.v0; have t3 := B.t3; have a3 := B.a3; have z3 := B.z3; have v3 := B.v3; have t4 := B.t4; have a4 := B.a4; have z4 := B.z4; have v4 := B.v4; have t25 := B.t25; have a25 := B.a25; have z25 := B.z25; have v25 := B.v25; have t28 := B.t28; have a28 := B.a28; have z28 := B.z28; have v28 := B.v28; have aE := B.aE; have zE := B.zE
  have S0 : Aside (SWK enc k w0 blk off d w) := S
  have HC : Aside _ := hcmp
  have HO := Lib.hid hO; have HT := Lib.hid ht; have HSZ := Lib.hid hs
  have hb0 : b ≤ d0.size := by omega
  clear S hcmp hO ht hs
  have ea : IntKind.i64.wrap ((a : Int) + 1) = (a : Int) + 1 := by rw [IntKind.wrap_i64]; omega
  go_enter B.f33, Try.ntmps33
  go_wp2_with fail
  go_loopg [8] (b - a) (fun gk vi wr => ∃ (i : Nat) (dk : Array α), vi = .int .i64 i ∧ a < i ∧ (i ≤ b ∨ i = a + 1) ∧ b - i ≤ gk ∧ Hid (PermIn a i d dk) ∧ Hid (SortedIn (tlt (ltOf cf) tag) a i dk) ∧ Aside (SWK enc k w0 blk off dk wr))
  case atStart => exact ⟨a + 1, d, by go_num, by omega, .inr rfl, by omega, permIn_refl _ _ _, fun p q h1 h2 h3 => (show False by omega).elim, S0⟩
  case round =>
    clear S0
    obtain ⟨i, dk, rfl, hai, hib, hg, HP, HS, S1⟩ := hrel
    have hds := HP.out.1
    by_cases hlt : i < b
    · have hltz : (i : Int) < (b : Int) := by omega
      have HDS := Lib.hid hds
      clear hds
      have HTT : Hid (∀ x, a ≤ x → x < i → tag dk[x]! < tag dk[i]!) := fun x h1 h2 => by
        obtain ⟨z, z1, z2, ez⟩ := permIn_at (by omega) HP.out h1 h2
        rw [ez, HP.out.2.1 i (.inr (Nat.le_refl _))]
        exact HT.out z i z1 z2 hlt
      go_wp2_with fail
      go_loopg [9] i (fun gk2 vj wr2 => ∃ (j : Nat) (dj : Array α), vj = .int .i64 j ∧ a ≤ j ∧ j ≤ i ∧ j ≤ gk2 ∧ Hid (Rot j i (i + 1) dk dj) ∧ Hid (PermIn a (i + 1) dk dj) ∧ Hid (j = i ∨ ltOf cf dk[i]! dk[j]! = true) ∧ Aside (SWK enc k w0 blk off dj wr2))
      case atStart => exact ⟨i, dk, rfl, by omega, by omega, by omega, rot_refl _ _ _, permIn_refl _ _ _, .inl rfl, S1⟩
      case round =>
        clear S1
        obtain ⟨j, dj, rfl, haj, hji, hg2, HR, HPJ, HJ, S2⟩ := hrel
        have HDJ : Hid (dj.size = d0.size) := (HPJ.out.1.trans HDS.out).trans HSZ.out.symm
        have OUT : Aside ((j = a ∨ ltOf cf dk[i]! dk[j - 1]! = false) → PermIn a (i + 1) d dj ∧ SortedIn (tlt (ltOf cf) tag) a (i + 1) dj) := fun h =>
          ⟨permIn_trans _ _ _ _ _ (permIn_mono _ _ _ _ _ _ (Nat.le_refl _) (by omega) (by omega) HP.out) HPJ.out, merge2 HO.out HS.out HTT.out haj hji h HJ.out HR.out⟩
        by_cases hja : a < j
        · have hjaz : (a : Int) < (j : Int) := by omega
          obtain ⟨q, rfl⟩ : ∃ q, j = q + 1 := ⟨j - 1, by omega⟩
          have hwp : IntKind.i64.wrap (q : Int) = (q : Int) := by rw [IntKind.wrap_i64]; omega
          have jz : (q : Int) + 1 < (d0.size : Int) := by omega
          have jz1 : (q : Int) < (d0.size : Int) := by omega
          have hjaz' : (a : Int) < (q : Int) + 1 := by omega
          have p0 : (0 : Int) ≤ (q : Int) + 1 := by omega
          have e0 : ((q : Int) + 1).toNat = q + 1 := by omega
          have hdj := HDJ.out
          obtain ⟨x, hx⟩ : ∃ x, x = dj[q + 1]! := ⟨_, rfl⟩
          obtain ⟨y, hy⟩ : ∃ x, x = dj[q]! := ⟨_, rfl⟩
          have la := S2.out.ld R (by omega) P (q + 1) (by omega)
          have lb := S2.out.ld R (by omega) P q (by omega)
          rw [← hx] at la
          rw [← hy] at lb
          have hc := S2.out.cmp HC.out (by omega) x y
          have HX : Hid (x = dk[i]!) := hx.trans (rot_at HR.out hji)
          have HY : Hid (y = dk[q]!) := hy.trans (HR.out.out q (.inl (by omega)))
          have HX0 := Lib.hid hx; have HY0 := Lib.hid hy
          clear hx hy hdj
          by_cases hlv : cf x y < 0
          · have hd : decide (cf x y < 0) = true := decide_eq_true hlv
            go_wp2_with fail
            go_quiet_grown (first | (go_at_fn g; refine Calls.grown_of (hc _ _)))
            have S3 : Aside (SWK enc k w0 blk off dj (grow (wr.drewN nq) osq)) := S2.out.grown nq osq
            clear la lb hc S2
            generalize grow (wr.drewN nq) osq = w2 at S3 ⊢
            clear nq osq
            have hdj := HDJ.out
            have S4 : Aside (SWK enc k w0 blk off (swp dj (q + 1) q) ((w2.drew.setCells blk (off + (q + 1) * k) (enc dj[q]!)).setCells blk (off + q * k) (enc dj[q + 1]!))) := S3.out.swapped R (q + 1) q (by omega) (by omega)
            have la := S3.out.ld1 R (by omega) P (q + 1) (by omega)
            have lb := S3.out.ld1 R (by omega) P q (by omega)
            have sa := S3.out.st1 R (by omega) P (q + 1) (by omega) dj[q]!
            have sb := S3.out.st2 R (by omega) P (q + 1) q (by omega) (by omega) dj[q]! dj[q + 1]!
            have na : (enc dj[q + 1]!).length = k := R.hk _
            have nb : (enc dj[q]!).length = k := R.hk _
            generalize enc dj[q + 1]! = cI at S4 la sb na
            generalize enc dj[q]! = cJ at S4 lb sa sb nb
            clear S3 hdj
            go_wp2_with fail
            go_big_region_o
            clear la lb sa sb
            generalize (w2.drew.setCells blk (off + (q + 1) * k) cJ).setCells blk (off + q * k) cI = w3 at S4 ⊢
            go_wp2_with fail
            go_roundg (gk - 1)
            case measure => omega
            case rel => exact ⟨q, _, by first | rfl | go_num | (congr 1; omega), by omega, by omega, by omega, rot_step2 HR.out (by omega) (by have := HDS.out; omega), permIn_trans _ _ _ _ _ HPJ.out (swp_permIn _ _ _ _ _ (by omega) (by omega) (by omega) (by omega) (by have := HDJ.out; omega)), .inr (by rw [← HX.out, ← HY.out]; exact hd), S4⟩
          · have hd : decide (cf x y < 0) = false := decide_eq_false hlv
            go_wp2_with fail
            go_quiet_grown (first | (go_at_fn g; refine Calls.grown_of (hc _ _)))
            have S3 : Aside (SWK enc k w0 blk off dj (grow (wr.drewN nq) osq)) := S2.out.grown nq osq
            clear la lb hc S2
            generalize grow (wr.drewN nq) osq = w2 at S3 ⊢
            clear nq osq
            go_wp2_with fail
            go_roundg (b - (i + 1))
            case measure => omega
            case rel =>
              have h := OUT.out (.inr (by rw [Nat.add_sub_cancel, ← HX.out, ← HY.out]; exact hd))
              exact ⟨i + 1, dj, by go_num, by omega, .inl (by omega), by omega, h.1, h.2, S3⟩
        · obtain rfl : j = a := by omega
          have hjaz' : ¬ (j : Int) < (j : Int) := by omega
          have S3 : Aside (SWK enc k w0 blk off dj wr.drew) := S2.out.drew
          clear S2
          go_wp2_with fail
          go_big_region_o
          all_goals go_wp2_with fail
          go_roundg (b - (i + 1))
          case measure => omega
          case rel =>
            have h := OUT.out (by simp)
            exact ⟨i + 1, dj, by go_num, by omega, .inl (by omega), by omega, h.1, h.2, S3⟩
    · have hltz : ¬ (i : Int) < (b : Int) := by omega
      go_wp2_with fail
      go_end0
      have HPP := HP.out
      have HSS := HS.out
      by_cases hbi : i = b
      · subst hbi
        exact ⟨rfl, dk, HPP, HSS, S1.out⟩
      · obtain rfl : i = a + 1 := by omega
        obtain rfl : b = a := by omega
        refine ⟨rfl, dk, ?_, fun p q h1 h2 h3 => (show False by omega).elim, S1.out⟩
        have he : ∀ p, dk[p]! = d[p]! := fun p => by
          by_cases hp : p = b
          · subst hp
            by_cases hz : p + 1 ≤ d.size
            · obtain ⟨j, j1, j2, ej⟩ := permIn_at (by omega) HPP (Nat.le_refl p) (by omega)
              obtain rfl : j = p := by omega
              exact ej
            · rw [getElem!_neg _ _ (by omega), getElem!_neg _ _ (by omega)]
          · exact HPP.2.1 p (by omega)
        exact ⟨HPP.1, fun p _ => he p, by rw [Array.extract_eq_empty_of_le (by omega), Array.extract_eq_empty_of_le (by omega)]⟩
end Go.Proofs.Ytdkkgajamogmeaa
