/- Contracts of the stable sort at structs of six cells: exchange of ranges. -/
import Derived.Test.YtdkkgajamogmeaaG
import Derived.Shelf.SlSortCmp.KitK
import Derived.Sort.Lot0
import Derived.Sort.LotA
import Derived.Deep.LoopGhost
namespace Go.Proofs.Ytdkkgajamogmeaa
open Go.Shelf Go.RowKit Go.Lib Go.Sort
variable {α : Type} [Inhabited α]

/-- What the walks of the stable sort ask of a program: its five functions, and the types that they name; an element takes k cells. -/
structure Bed (P : Program) (k : Nat) : Prop where
  mixed : P.follows .mixedOrders = true
  f32 : P.funcs[32]? = some Try.f32
  f33 : P.funcs[33]? = some Try.f33
  f34 : P.funcs[34]? = some Try.f34
  f35 : P.funcs[35]? = some Try.f35
  f36 : P.funcs[36]? = some Try.f36
  t0 : P.underlying 0 = some (.tuple #[])
  a0 : ∀ w, (isAgg 0).run P w = .ok false w
  z0 : ∀ w, (Go.sizeOf 0).run P w = .ok 1 w
  v0 : ∀ w, (zeroValue 0).run P w = .ok (.tuple #[]) w
  t3 : P.underlying 3 = some (.int .i64)
  a3 : ∀ w, (isAgg 3).run P w = .ok false w
  z3 : ∀ w, (Go.sizeOf 3).run P w = .ok 1 w
  v3 : ∀ w, (zeroValue 3).run P w = .ok (.int .i64 0) w
  t4 : P.underlying 4 = some .bool
  a4 : ∀ w, (isAgg 4).run P w = .ok false w
  z4 : ∀ w, (Go.sizeOf 4).run P w = .ok 1 w
  v4 : ∀ w, (zeroValue 4).run P w = .ok (.bool false) w
  t52 : P.underlying 52 = some (.int .u64)
  a52 : ∀ w, (isAgg 52).run P w = .ok false w
  z52 : ∀ w, (Go.sizeOf 52).run P w = .ok 1 w
  v52 : ∀ w, (zeroValue 52).run P w = .ok (.int .u64 0) w
  t25 : P.underlying 25 = some (.slice 30)
  a25 : ∀ w, (isAgg 25).run P w = .ok false w
  z25 : ∀ w, (Go.sizeOf 25).run P w = .ok 1 w
  v25 : ∀ w, (zeroValue 25).run P w = .ok (.slice none 0 0) w
  t28 : P.underlying 28 = some (.func #[30, 30] #[3] false)
  a28 : ∀ w, (isAgg 28).run P w = .ok false w
  z28 : ∀ w, (Go.sizeOf 28).run P w = .ok 1 w
  v28 : ∀ w, (zeroValue 28).run P w = .ok .nilFunc w
  aE : ∀ w, (isAgg 30).run P w = .ok true w
  zE : ∀ w, (Go.sizeOf 30).run P w = .ok k w
theorem bed : Bed Try.prog 6 :=
  { mixed := by kernel_rfl
    f32 := Try.func32, f33 := Try.func33, f34 := Try.func34, f35 := Try.func35, f36 := Try.func36
    t0 := Try.underlying0, a0 := Try.isAgg0, z0 := Try.sizeOf0, v0 := Try.zeroValue0
    t3 := Try.underlying3, a3 := Try.isAgg3, z3 := Try.sizeOf3, v3 := Try.zeroValue3
    t4 := Try.underlying4, a4 := Try.isAgg4, z4 := Try.sizeOf4, v4 := Try.zeroValue4
    t52 := Try.underlying52, a52 := Try.isAgg52, z52 := Try.sizeOf52, v52 := Try.zeroValue52
    t25 := Try.underlying25, a25 := Try.isAgg25, z25 := Try.sizeOf25, v25 := Try.zeroValue25
    t28 := Try.underlying28, a28 := Try.isAgg28, z28 := Try.sizeOf28, v28 := Try.zeroValue28
    aE := Try.isAgg30, zE := Try.sizeOf30 }

/-- The ranges of n places from a and from b are exchanged. -/
structure SwapR (a b n : Nat) (d d' : Array α) : Prop where
  size : d'.size = d.size
  lo : ∀ t, t < n → d'[a + t]! = d[b + t]!
  hi : ∀ t, t < n → d'[b + t]! = d[a + t]!
  out : ∀ p, (p < a ∨ a + n ≤ p) → (p < b ∨ b + n ≤ p) → d'[p]! = d[p]!
theorem SwapR.start (a b : Nat) (d : Array α) : SwapR a b 0 d d := ⟨rfl, fun _ h => absurd h (by omega), fun _ h => absurd h (by omega), fun _ _ _ => rfl⟩
theorem SwapR.step {a b n k : Nat} {d d' : Array α} (h : SwapR a b k d d') (hk : k < n) (hab : a + n ≤ b) (hb : b + n ≤ d.size) : SwapR a b (k + 1) d (swp d' (a + k) (b + k)) := by
  have hs := h.size
  refine ⟨by rw [swp_size, hs], ?_, ?_, ?_⟩
  · intro t ht
    rw [swp_get d' (by omega) (by omega)]
    by_cases e : t = k
    · subst e
      have := h.out (b + t) (by omega) (by omega)
      simp [this]; omega
    · simp [show a + t ≠ b + k by omega, e]
      exact h.lo t (by omega)
  · intro t ht
    rw [swp_get d' (by omega) (by omega)]
    by_cases e : t = k
    · subst e
      have := h.out (a + t) (by omega) (by omega)
      simp [this]
    · simp [e, show b + t ≠ a + k by omega]
      exact h.hi t (by omega)
  · intro p h1 h2
    rw [swp_get d' (by omega) (by omega)]
    simp [show p ≠ b + k by omega, show p ≠ a + k by omega]
    exact h.out p (by omega) (by omega)

set_option maxHeartbeats 4000000 in
set_option maxRecDepth 1000000 in
theorem swapRange_any {P : Program} {k : Nat} (B : Bed P k) (enc : α → List Value) (g : Nat) (cb : Array Value) (blk off cap a b n : Nat) (d0 d : Array α) (w0 w : World)
    (R : RowK enc k w0 blk off d0) (hs : d0.size = d.size) (S : SWK enc k w0 blk off d w) (hab : a + n ≤ b) (hb : b + n ≤ d.size) (hsz : d.size < 4611686018427387904) :
    Calls P 36 #[.slice (some ⟨blk, off, none⟩) d.size cap, .int .i64 a, .int .i64 b, .int .i64 n, .func (.func g) #[] cb] w fun e w' =>
      e = .returned (.tuple #[]) ∧ ∃ d', SwapR a b n d d' ∧ PermIn a (b + n) d d' ∧ SWK enc k w0 blk off d' w' := by
  have mixed := B.mixed; have t0 := B.t0; have a0 := B.a0; have z0 := B.z0; have v0 := B.v0; have t3 := B.t3; have a3 := B.a3; have z3 := B.z3; have v3 := B.v3; have t4 := B.t4; have a4 := B.a4; have z4 := B.z4; have v4 := B.v4; have t25 := B.t25; have a25 := B.a25; have z25 := B.z25; have v25 := B.v25; have t28 := B.t28; have a28 := B.a28; have z28 := B.z28; have v28 := B.v28; have aE := B.aE; have zE := B.zE
  have S0 : Aside (SWK enc k w0 blk off d w) := S
  clear S
  go_enter B.f36, Try.ntmps36
  go_wp2_with fail
  go_loopg [10] n (fun gk vi wr => ∃ (i : Nat) (dk : Array α), vi = .int .i64 i ∧ i + gk = n ∧ Hid (SwapR a b i d dk) ∧ Hid (PermIn a (b + n) d dk) ∧ Aside (SWK enc k w0 blk off dk wr))
  case atStart => exact ⟨0, d, rfl, by omega, SwapR.start a b d, permIn_refl _ _ _, S0⟩
  case round =>
    clear S0
    obtain ⟨i, dk, rfl, hkg, HS, HP, S1⟩ := hrel
    have hds := HS.out.size
    by_cases hlt : i < n
    · have ea : ((a : Int) + (i : Int)).toNat = a + i := by omega
      have pa : (0 : Int) ≤ (a : Int) + (i : Int) := by omega
      have ba : (a : Int) + (i : Int) < (d.size : Int) := by omega
      have ra : IntKind.i64.wrap ((a : Int) + (i : Int)) = (a : Int) + (i : Int) := by rw [IntKind.wrap_i64]; omega
      have ec : ((b : Int) + (i : Int)).toNat = b + i := by omega
      have pc : (0 : Int) ≤ (b : Int) + (i : Int) := by omega
      have bc : (b : Int) + (i : Int) < (d.size : Int) := by omega
      have rc : IntKind.i64.wrap ((b : Int) + (i : Int)) = (b : Int) + (i : Int) := by rw [IntKind.wrap_i64]; omega
      have S2 : Aside (SWK enc k w0 blk off (swp dk (a + i) (b + i)) ((wr.drew.setCells blk (off + (a + i) * k) (enc dk[b + i]!)).setCells blk (off + (b + i) * k) (enc dk[a + i]!))) := S1.out.swapped R (a + i) (b + i) (by omega) (by omega)
      have la := S1.out.ld1 R (by omega) P (a + i) (by omega)
      have lb := S1.out.ld1 R (by omega) P (b + i) (by omega)
      have sa := S1.out.st1 R (by omega) P (a + i) (by omega) dk[b + i]!
      have sb := S1.out.st2 R (by omega) P (a + i) (b + i) (by omega) (by omega) dk[b + i]! dk[a + i]!
      have na : (enc dk[a + i]!).length = k := R.hk _
      have nb : (enc dk[b + i]!).length = k := R.hk _
      generalize enc dk[a + i]! = cI at S2 la sb na
      generalize enc dk[b + i]! = cJ at S2 lb sa sb nb
      clear S1
      go_wp2_with fail
      go_big_region_o
      clear la lb sa sb
      generalize (wr.drew.setCells blk (off + (a + i) * k) cJ).setCells blk (off + (b + i) * k) cI = w2 at S2 ⊢
      go_wp2
      go_roundg (gk - 1)
      case measure => omega
      case rel => exact ⟨i + 1, _, by go_num, by omega, HS.out.step hlt hab hb, permIn_trans _ _ _ _ _ HP.out (swp_permIn _ _ _ _ _ (by omega) (by omega) (by omega) (by omega) (by omega)), S2⟩
    · obtain rfl : i = n := by omega
      go_wp2_with fail
      go_end0
      exact ⟨rfl, dk, HS.out, HP.out, S1.out⟩
end Go.Proofs.Ytdkkgajamogmeaa
