/- Contract: SortStableFunc over events. -/
import Derived.Test.YtdkkgajamogmeaaXG
namespace Go.Proofs.Ytdkkgajamogmeaa
open Go.Shelf Go.RowKit Go.Sort Go.Lib

theorem upd_sortWorldK {α : Type} [Inhabited α] (enc : α → List Value) (k : Nat) (w : World) (blk off m : Nat) (dk : Array α) (os : Array Obj) : Upd [blk] w (sortWorldK enc k w blk off m dk os) := by
  have h1 : Upd [blk] w (putRowK enc k (Sort.ahead w m) blk off dk) := by
    refine ⟨rfl, rfl, rfl, by rw [size_putRowK]; exact Nat.le_refl _, fun i hi hn => ?_⟩
    show ((Sort.ahead w m).heap.modify blk _)[i]? = _
    rw [Array.getElem?_modify, if_neg (by intro h; exact hn (by simp [h]))]
    rfl
  exact h1.trans (T := []) (upd_grow _ os) (by simp)
theorem SWK.upd {α : Type} [Inhabited α] {enc : α → List Value} {k : Nat} {w W : World} {blk off : Nat} {dk : Array α} (h : SWK enc k w blk off dk W) : Upd [blk] w W := by
  obtain ⟨m, os, rfl⟩ := h
  exact upd_sortWorldK enc k w blk off m dk os

theorem Ints.lt {w : World} {a : Addr} {xs : List Int} (h : Ints w (some a) xs) (hx : xs ≠ []) : a.block < w.heap.size := by
  obtain ⟨b, off, he, hc⟩ := h 0 (List.length_pos_iff.2 hx)
  obtain rfl := Option.some.inj he
  exact World.block_lt_of_cell? w _ hc
theorem Ints.keep' {S : List Nat} {w w' : World} {ad : Option Addr} {xs : List Int} (h : Ints w ad xs) (hu : Upd S w w') (hS : ∀ a, ad = some a → xs ≠ [] → a.block ∉ S) : Ints w' ad xs := by
  intro j hj
  obtain ⟨b, off, rfl, hc⟩ := h j hj
  exact ⟨b, off, rfl, hu.cell hc (show b ∉ S from hS ⟨b, off, none⟩ rfl (by intro h; subst h; simp at hj))⟩

/-- An event whose key lies in w, outside of block g; and where it came from. -/
structure EvT (w : World) (g : Nat) where
  r : EvR
  tag : Nat
  key : Ints w r.ka r.ev.key
  far : ∀ a, r.ka = some a → r.ev.key ≠ [] → a.block ≠ g
  small : r.ev.key.length ≤ 1000000
instance (w : World) (g : Nat) : Inhabited (EvT w g) := ⟨⟨⟨⟨0, [], 0, 0, 0, 0⟩, none, 0⟩, 0, ints_nil _ _, fun _ h => by simp at h, by simp⟩⟩
def encT {w : World} {g : Nat} (x : EvT w g) : List Value := encR x.r
def cfT {w : World} {g : Nat} (x y : EvT w g) : Int := cmpE x.r.ev y.r.ev
theorem cmpLaysT (w : World) (g n : Nat) : CmpLays Try.prog 11 #[] (encT (w := w) (g := g)) 6 cfT g 0 n w := by
  intro m os dk _ x y
  have hu := upd_sortWorldK (encT (w := w) (g := g)) 6 w g 0 m dk os
  have := CompareEvents_any x.r y.r (sortWorldK encT 6 w g 0 m dk os) (x.key.keep' hu (fun a ha hn => by simpa using x.far a ha hn)) (y.key.keep' hu (fun a ha hn => by simpa using y.far a ha hn)) x.small y.small
  exact this
theorem rowT {w : World} {g : Nat} {d0 : Array (EvT w g)} (hb : g < w.heap.size) (hH : HoldsK encT 6 w g 0 d0) : RowK encT 6 w g 0 d0 :=
  ⟨fun _ => rfl, fun x v hv => by
    have : v ∈ encR x.r := hv
    simp only [encR, List.mem_cons, List.not_mem_nil, or_false] at this
    rcases this with rfl | rfl | rfl | rfl | rfl | rfl <;> rfl, hH, hb⟩

set_option maxHeartbeats 1000000 in
theorem ins_none (v f : Value) (w : World) : Calls Try.prog 33 #[v, .int .i64 0, .int .i64 0, f] w fun e w' => e = .returned (.tuple #[]) ∧ w = w' := by
  go_enter Try.func33, Try.ntmps33
  go_wp2_with fail
  refine wp_loop_rounds 1 ?_
  rw [rounds_succ]
  go_wp2_with fail
  go_end0
  exact ⟨rfl, rfl⟩
set_option maxHeartbeats 1000000 in
theorem stable_none (v f : Value) (w : World) : Calls Try.prog 32 #[v, .int .i64 0, f] w fun e w' => e = .returned (.tuple #[]) ∧ w = w' := by
  go_enter Try.func32, Try.ntmps32
  go_wp2_with fail
  refine wp_loop_rounds 1 ?_
  rw [rounds_succ]
  go_wp2_with fail
  refine (ins_none _ _ _).mono ?_
  rintro e w' ⟨rfl, rfl⟩
  go_wp2_with fail
  refine wp_loop_rounds 1 ?_
  rw [rounds_succ]
  go_wp2_with fail
  go_end0
  exact ⟨rfl, rfl⟩
set_option maxHeartbeats 1000000 in
theorem sortStable_none (a : Option Addr) (cap : Nat) (f : Value) (w : World) : Calls Try.prog 30 #[.slice a 0 cap, f] w fun e w' => e = .returned (.tuple #[]) ∧ w = w' := by
  go_enter Try.func30, Try.ntmps30
  go_wp2_with fail
  refine (stable_none _ _ _).mono ?_
  rintro e w' ⟨rfl, rfl⟩
  go_wp2_with fail
  go_end0
  exact ⟨rfl, rfl⟩
set_option maxHeartbeats 1000000 in
theorem sortStable_any (w : World) (g cap : Nat) (d0 : Array (EvT w g)) (hb : g < w.heap.size) (hH : HoldsK encT 6 w g 0 d0) (hsz : d0.size ≤ 1000000) (ht : ∀ p, p < d0.size → (d0[p]!).tag = p) :
    Calls Try.prog 30 #[.slice (some ⟨g, 0, none⟩) d0.size cap, .func (.func 11) #[] #[]] w fun e w' =>
      e = .returned (.tuple #[]) ∧ ∃ d', PermIn 0 d0.size d0 d' ∧ SortedIn (tlt (ltOf cfT) EvT.tag) 0 d0.size d' ∧ SWK encT 6 w g 0 d' w' := by
  have hc := stable_any bed (encT (w := w) (g := g)) cfT EvT.tag (ordE.swo (fun x : EvT w g => x.r.ev)) 11 #[] g 0 cap d0 w (enters_of Try.func11 (by kernel_rfl) rfl) (cmpLaysT w g d0.size) (rowT hb hH) hsz ht
  have HC := Lib.hid hc
  clear hc hH ht
  generalize d0.size = n at *
  go_enter Try.func30, Try.ntmps30
  go_wp2_with fail
  refine HC.out.mono ?_
  rintro e w' ⟨rfl, h⟩
  have HH := Lib.hid h
  clear h
  go_wp2_with fail
  go_end0
  exact ⟨rfl, HH.out⟩
end Go.Proofs.Ytdkkgajamogmeaa
