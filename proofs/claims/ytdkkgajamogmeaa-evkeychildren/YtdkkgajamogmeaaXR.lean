/- Contracts of the stable sort: rotation. -/
import Derived.Test.YtdkkgajamogmeaaXS
namespace Go.Proofs.Ytdkkgajamogmeaa
open Go.Shelf Go.RowKit Go.Lib Go.Sort
variable {α : Type} [Inhabited α]

/-- What lies at p once the parts from a to m and from m to b have changed places. -/
def rotF (a m b : Nat) (d : Array α) (p : Nat) : α := if p < a + (b - m) then d[m + (p - a)]! else d[a + (p - (a + (b - m)))]!
structure Rot (a m b : Nat) (d d' : Array α) : Prop where
  size : d'.size = d.size
  inn : ∀ p, a ≤ p → p < b → d'[p]! = rotF a m b d p
  out : ∀ p, (p < a ∨ b ≤ p) → d'[p]! = d[p]!

structure RotInv (a m b i j : Nat) (d dk : Array α) : Prop where
  size : dk.size = d.size
  i1 : 1 ≤ i
  im : i + a ≤ m
  j1 : 1 ≤ j
  jm : m + j ≤ b
  left : ∀ p, a ≤ p → p + i < m → dk[p]! = rotF a m b d p
  right : ∀ p, m + j ≤ p → p < b → dk[p]! = rotF a m b d p
  win1 : ∀ t, t < j → dk[m + t]! = rotF a m b d (m - i + t)
  win2 : ∀ t, t < i → dk[m - i + t]! = rotF a m b d (m - i + j + t)
  out : ∀ p, (p < a ∨ b ≤ p) → dk[p]! = d[p]!
theorem RotInv.start {a m b : Nat} (d : Array α) (h1 : a < m) (h2 : m < b) : RotInv a m b (m - a) (b - m) d d := by
  refine ⟨rfl, by omega, by omega, by omega, by omega, fun p _ _ => (show False by omega).elim, fun p _ _ => (show False by omega).elim, fun t ht => ?_, fun t ht => ?_, fun _ _ => rfl⟩
  · rw [rotF, if_pos (by omega)]; congr 1; omega
  · rw [rotF, if_neg (by omega)]; congr 1; omega
theorem RotInv.gt {a m b i j : Nat} {d dk d' : Array α} (h : RotInv a m b i j d dk) (hij : j < i) (hs : SwapR (m - i) m j dk d') : RotInv a m b (i - j) j d d' := by
  have := h.im; have := h.jm; have := h.j1
  refine ⟨hs.size.trans h.size, by omega, by omega, by omega, by omega, fun p h1 h2 => ?_, fun p h1 h2 => ?_, fun t ht => ?_, fun t ht => ?_, fun p hp => ?_⟩
  · by_cases hp : p + i < m
    · rw [hs.out p (by omega) (by omega)]; exact h.left p h1 hp
    · obtain ⟨t, rfl⟩ : ∃ t, p = m - i + t := ⟨p - (m - i), by omega⟩
      rw [hs.lo t (by omega)]; exact h.win1 t (by omega)
  · rw [hs.out p (by omega) (by omega)]; exact h.right p h1 h2
  · rw [hs.hi t (by omega), h.win2 t (by omega)]; congr 1; omega
  · rw [hs.out _ (by omega) (by omega), show m - (i - j) + t = m - i + (j + t) by omega, h.win2 (j + t) (by omega)]; congr 1; omega
  · rw [hs.out p (by omega) (by omega)]; exact h.out p hp
theorem RotInv.lt {a m b i j : Nat} {d dk d' : Array α} (h : RotInv a m b i j d dk) (hij : i < j) (hs : SwapR (m - i) (m + j - i) i dk d') : RotInv a m b i (j - i) d d' := by
  have := h.im; have := h.jm; have := h.i1
  refine ⟨hs.size.trans h.size, by omega, by omega, by omega, by omega, fun p h1 h2 => ?_, fun p h1 h2 => ?_, fun t ht => ?_, fun t ht => ?_, fun p hp => ?_⟩
  · rw [hs.out p (by omega) (by omega)]; exact h.left p h1 h2
  · by_cases hp : m + j ≤ p
    · rw [hs.out p (by omega) (by omega)]; exact h.right p hp h2
    · obtain ⟨t, rfl⟩ : ∃ t, p = m + j - i + t := ⟨p - (m + j - i), by omega⟩
      rw [hs.hi t (by omega), h.win2 t (by omega)]; congr 1; omega
  · rw [hs.out _ (by omega) (by omega)]; exact h.win1 t (by omega)
  · rw [hs.lo t (by omega), show m + j - i + t = m + (j - i + t) by omega, h.win1 _ (by omega)]; congr 1; omega
  · rw [hs.out p (by omega) (by omega)]; exact h.out p hp
theorem RotInv.done {a m b i : Nat} {d dk d' : Array α} (h : RotInv a m b i i d dk) (hs : SwapR (m - i) m i dk d') : Rot a m b d d' := by
  have := h.im; have := h.jm; have := h.i1
  refine ⟨hs.size.trans h.size, fun p h1 h2 => ?_, fun p hp => ?_⟩
  · by_cases c1 : p + i < m
    · rw [hs.out p (by omega) (by omega)]; exact h.left p h1 c1
    · by_cases c2 : p < m
      · obtain ⟨t, rfl⟩ : ∃ t, p = m - i + t := ⟨p - (m - i), by omega⟩
        rw [hs.lo t (by omega)]; exact h.win1 t (by omega)
      · by_cases c3 : p < m + i
        · obtain ⟨t, rfl⟩ : ∃ t, p = m + t := ⟨p - m, by omega⟩
          rw [hs.hi t (by omega), h.win2 t (by omega)]; congr 1; omega
        · rw [hs.out p (by omega) (by omega)]; exact h.right p (by omega) h2
  · rw [hs.out p (by omega) (by omega)]; exact h.out p hp

set_option maxHeartbeats 4000000 in
set_option maxRecDepth 1000000 in
theorem rotate_any {P : Program} {k : Nat} (B : Bed P k) (enc : α → List Value) (g : Nat) (cb : Array Value) (blk off cap a m b : Nat) (d0 d : Array α) (w0 w : World)
    (R : RowK enc k w0 blk off d0) (hs : d0.size = d.size) (S : SWK enc k w0 blk off d w) (ham : a < m) (hmb : m < b) (hb : b ≤ d.size) (hsz : d.size < 4611686018427387904) :
    Calls P 35 #[.slice (some ⟨blk, off, none⟩) d.size cap, .int .i64 a, .int .i64 m, .int .i64 b, .func (.func g) #[] cb] w fun e w' =>
      e = .returned (.tuple #[]) ∧ ∃ d', Rot a m b d d' ∧ PermIn a b d d' ∧ SWK enc k w0 blk off d' w' := by
  have mixed := B.mixed; have t0 := B.t0; have a0 := B.a0; have z0 := B.z0; have v0 := B.v0; have t3 := B.t3; have a3 := B.a3; have z3 := B.z3; have v3 := B.v3; have t4 := B.t4; have a4 := B.a4; have z4 := B.z4; have v4 := B.v4; have t25 := B.t25; have a25 := B.a25; have z25 := B.z25; have v25 := B.v25; have t28 := B.t28; have a28 := B.a28; have z28 := B.z28; have v28 := B.v28
  have e36 : ∀ args w, (callFunc 36 args).run P w = .ok (.enter 36 args) w := enters_of B.f36 (by kernel_rfl) rfl
  have S0 : Aside (SWK enc k w0 blk off d w) := S
  clear S
  have eia : IntKind.i64.wrap ((m : Int) - (a : Int)) = ((m - a : Nat) : Int) := by rw [IntKind.wrap_i64]; omega
  have eib : IntKind.i64.wrap ((b : Int) - (m : Int)) = ((b - m : Nat) : Int) := by rw [IntKind.wrap_i64]; omega
  go_enter B.f35, Try.ntmps35
  go_wp2_with fail
  go_loopg [10, 11] (b - a) (fun gk vi vj wr => ∃ (i j : Nat) (dk : Array α), vi = .int .i64 i ∧ vj = .int .i64 j ∧ i + j ≤ gk ∧ Hid (RotInv a m b i j d dk) ∧ Hid (PermIn a b d dk) ∧ Aside (SWK enc k w0 blk off dk wr))
  case atStart => exact ⟨m - a, b - m, d, by first | rfl | go_num | (congr 1; omega), by first | rfl | go_num | (congr 1; omega), by omega, RotInv.start d ham hmb, permIn_refl _ _ _, S0⟩
  case round =>
    clear S0
    obtain ⟨i, j, dk, rfl, rfl, hij, HR, HP, S1⟩ := hrel
    have hds := HR.out.size; have him := HR.out.im; have hjm := HR.out.jm; have hi1 := HR.out.i1; have hj1 := HR.out.j1
    have emi : IntKind.i64.wrap ((m : Int) - (i : Int)) = ((m - i : Nat) : Int) := by rw [IntKind.wrap_i64]; omega
    have hdse : Hid (dk.size = d.size) := hds
    rcases Nat.lt_trichotomy i j with hlt | heq | hgt
    · have d1 : ((i : Int) == (j : Int)) = false := by simp; omega
      have d2 : decide ((j : Int) < (i : Int)) = false := by simp; omega
      have emj : IntKind.i64.wrap ((m : Int) + (j : Int)) = (m : Int) + (j : Int) := by rw [IntKind.wrap_i64]; omega
      have emj2 : IntKind.i64.wrap ((m : Int) + (j : Int) - (i : Int)) = ((m + j - i : Nat) : Int) := by rw [IntKind.wrap_i64]; omega
      have eji : IntKind.i64.wrap ((j : Int) - (i : Int)) = ((j - i : Nat) : Int) := by rw [IntKind.wrap_i64]; omega
      have hc := swapRange_any B enc g cb blk off cap (m - i) (m + j - i) i d0 dk w0 wr R (by omega) S1.out (by omega) (by omega) (by omega)
      rw [hds] at hc
      have HC := Lib.hid hc
      clear hc hds
      go_wp2_with fail
      refine HC.out.mono ?_
      rintro e w' ⟨rfl, d', hsr, hpr, hsw⟩
      have HS := Lib.hid hsr; have HPP := Lib.hid hpr; have HW : Aside _ := hsw
      clear hsr hpr hsw
      go_wp2_with fail
      go_roundg (i + (j - i))
      case measure => omega
      case rel => exact ⟨i, j - i, d', rfl, by first | rfl | go_num | (congr 1; omega), by omega, HR.out.lt hlt HS.out, permIn_trans _ _ _ _ _ HP.out (permIn_mono _ _ _ _ _ _ (by omega) (by omega) (by rw [hdse.out]; omega) HPP.out), HW⟩
    · subst heq
      have hc := swapRange_any B enc g cb blk off cap (m - i) m i d0 dk w0 wr R (by omega) S1.out (by omega) (by omega) (by omega)
      rw [hds] at hc
      have HC := Lib.hid hc
      clear hc hds
      go_wp2_with fail
      refine HC.out.mono ?_
      rintro e w' ⟨rfl, d', hsr, hpr, hsw⟩
      go_wp2_with fail
      go_end0
      exact ⟨rfl, d', HR.out.done hsr, permIn_trans _ _ _ _ _ HP.out (permIn_mono _ _ _ _ _ _ (by omega) (by omega) (by rw [hdse.out]; omega) hpr), hsw⟩
    · have d1 : ((i : Int) == (j : Int)) = false := by simp; omega
      have d2 : decide ((j : Int) < (i : Int)) = true := by simp; omega
      have eji : IntKind.i64.wrap ((i : Int) - (j : Int)) = ((i - j : Nat) : Int) := by rw [IntKind.wrap_i64]; omega
      have hc := swapRange_any B enc g cb blk off cap (m - i) m j d0 dk w0 wr R (by omega) S1.out (by omega) (by omega) (by omega)
      rw [hds] at hc
      have HC := Lib.hid hc
      clear hc hds
      go_wp2_with fail
      refine HC.out.mono ?_
      rintro e w' ⟨rfl, d', hsr, hpr, hsw⟩
      have HS := Lib.hid hsr; have HPP := Lib.hid hpr; have HW : Aside _ := hsw
      clear hsr hpr hsw
      go_wp2_with fail
      go_roundg (i - j + j)
      case measure => omega
      case rel => exact ⟨i - j, j, d', by first | rfl | go_num | (congr 1; omega), rfl, by omega, HR.out.gt hgt HS.out, permIn_trans _ _ _ _ _ HP.out (permIn_mono _ _ _ _ _ _ (by omega) (by omega) (by rw [hdse.out]; omega) HPP.out), HW⟩
end Go.Proofs.Ytdkkgajamogmeaa
