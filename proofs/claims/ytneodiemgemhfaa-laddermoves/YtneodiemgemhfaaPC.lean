/- Contracts: slices.Clone of rungs and of buckets; a record's one cell set in a row. -/
import Derived.Test.YtneodiemgemhfaaGE
import Derived.Test.YtneodiemgemhfaaUS
namespace Go.Proofs.Ytneodiemgemhfaa
open Go.RowKit Go.Lib

theorem Held.own {α : Type} {L : Lay α} {te : TypeId} {w : World} {g cap base : Nat} {l : List α} (h : Held L te w g cap l) (hb : base ≤ g) (hm : cap ≤ maxLen) : w.ownsRow base te L.k (.slice (some ⟨g, 0, none⟩) l.length cap) l.length (L.flat l) := by
  obtain ⟨cur, h1, h2, h3⟩ := h.ex
  exact ⟨L.flat_length l, .inr ⟨g, cap, cur, rfl, hb, h1, h.le, hm, h2, h3⟩⟩
theorem own_cap {w : World} {base size n : Nat} {e : TypeId} {ad : Option Addr} {m c : Nat} {xs : List Value} (h : w.ownsRow base e size (.slice ad m c) n xs) : c ≤ maxLen := by
  rcases h.2 with ⟨h1, _⟩ | ⟨g, cap, cur, h1, _, _, _, h2, _⟩
  · simp only [Value.slice.injEq] at h1; obtain ⟨_, _, rfl⟩ := h1; exact Nat.zero_le _
  · simp only [Value.slice.injEq] at h1; obtain ⟨_, _, rfl⟩ := h1; exact h2
theorem Lay.flat_set1 {α : Type} (L : Lay α) : ∀ (l : List α) (j : Nat) (hj : j < l.length) (t : Nat) (u : Value) (x : α), t < L.k → L.enc x = (L.enc l[j]).set t u → L.flat (l.set j x) = (L.flat l).set (j * L.k + t) u
  | y :: l, 0, _, t, u, x, ht, hx => by
    simp only [List.getElem_cons_zero] at hx
    rw [List.set_cons_zero, L.flat_cons, L.flat_cons, Nat.zero_mul, Nat.zero_add, List.set_append, if_pos (by rw [L.len]; exact ht), hx]
  | y :: l, j + 1, hj, t, u, x, ht, hx => by
    have ih := L.flat_set1 l j (by simpa using hj) t u x ht (by simpa using hx)
    have e : (j + 1) * L.k + t = L.k + (j * L.k + t) := by rw [Nat.add_mul]; omega
    rw [List.set_cons_succ, L.flat_cons, L.flat_cons, e, List.set_append, if_neg (by rw [L.len]; omega), L.len, Nat.add_sub_cancel_left, ih]
theorem Held.set1 {α : Type} {L : Lay α} {te : TypeId} {w : World} {g cap : Nat} {l : List α} (h : Held L te w g cap l) (j : Nat) (hj : j < l.length) (t : Nat) (u : Value) (x : α) (ht : t < L.k) (hx : L.enc x = (L.enc l[j]).set t u) : Held L te (w.setCell ⟨g, j * L.k + t, none⟩ u) g cap (l.set j x) := by
  obtain ⟨cur, h1, h2, h3⟩ := h.ex
  refine ⟨⟨cur.setIfInBounds (j * L.k + t) u, setCell_block h1 u, by simp [h2], ?_⟩, by simpa using h.le⟩
  rw [List.length_set, L.flat_set1 l j hj t u x ht hx, ← h3]
  have e : (cur.setIfInBounds (j * L.k + t) u).toList = cur.toList.set (j * L.k + t) u := by simp
  rw [e, List.take_set]
set_option maxRecDepth 100000 in
set_option maxHeartbeats 2000000 in
theorem CloneR_has (a : Option Addr) (c : Nat) (xs : List RgR) (w : World) (ha : Row LR w a xs) (hnl : a = none → c = 0) (hx : xs.length ≤ 1000000) :
    Calls Try.prog 28 #[.slice a xs.length c] w fun e w' => ∃ va vc, e = .returned (.slice va xs.length vc) ∧ w'.ownsRow w.heap.size 43 4 (.slice va xs.length vc) xs.length (LR.flat xs) ∧ Upd [] w w' := by
  have q22 : ∀ (w : World) (a : Option Addr) (n c n' c' : Nat), (binOp .eql 25 (.slice a n c) (.slice none n' c')).run Try.prog w = .ok (.bool a.isNone) w := fun w a n c n' c' => Lib.run_eql_slice_nil w _ _ a n c n' c' Try.underlying25
  have HA := Lib.hid ha
  clear ha
  cases a with
  | none =>
    have hn : xs = [] := row_none HA.out
    subst hn
    clear HA
    go_enter Try.func28, Try.ntmps28
    go_wp2_with fail
    go_ret
    exact ⟨_, _, rfl, World.ownsRow_nil _ _ _ _, Upd.refl _ _⟩
  | some ad =>
    obtain ⟨n, hn⟩ : ∃ n, n = xs.length := ⟨_, rfl⟩
    rw [← hn] at hx ⊢
    have HN := Lib.hid hn
    have HR := Lib.hid (HA.out.stay ((Upd.refl [] w).alloc (.cells #[] 43)))
    clear hn HA
    go_enter Try.func28, Try.ntmps28
    go_wp2_with (at_builtin; refine app_row tyR rfl _ _ rfl w.heap.size (.slice (some ⟨w.heap.size, 0, none⟩) 0 0) 0 [] rfl (World.ownsRow_made w #[] 0 (Nat.le_refl _) (Nat.zero_le _) (by simp)) (some ad) n c xs rfl HN.out HR.out (fun e => by simp at e) (by omega) (by simp) ?_; intro v' w1 hown hgrow)
    rw [Nat.zero_add, List.nil_append] at hown
    have HU : Hid (Upd [] w w1) := ((Upd.refl [] w).alloc _).grown hgrow (fun k hk hl => by simp [Value.ownBlock] at hk; omega)
    obtain ⟨va, vc, rfl⟩ := row_shape hown
    have HO := Lib.hid hown
    clear hown hgrow
    go_wp2_with fail
    go_ret
    exact ⟨va, vc, rfl, HO.out, HU.out⟩
set_option maxRecDepth 100000 in
set_option maxHeartbeats 2000000 in
theorem CloneB_has (a : Option Addr) (c : Nat) (xs : List (SlR It)) (w : World) (ha : Row LB w a xs) (hnl : a = none → c = 0) (hx : xs.length ≤ 1000000) :
    Calls Try.prog 29 #[.slice a xs.length c] w fun e w' => ∃ va vc, e = .returned (.slice va xs.length vc) ∧ w'.ownsRow w.heap.size 24 1 (.slice va xs.length vc) xs.length (LB.flat xs) ∧ Upd [] w w' := by
  have q22 : ∀ (w : World) (a : Option Addr) (n c n' c' : Nat), (binOp .eql 41 (.slice a n c) (.slice none n' c')).run Try.prog w = .ok (.bool a.isNone) w := fun w a n c n' c' => Lib.run_eql_slice_nil w _ _ a n c n' c' Try.underlying41
  have HA := Lib.hid ha
  clear ha
  cases a with
  | none =>
    have hn : xs = [] := row_none HA.out
    subst hn
    clear HA
    go_enter Try.func29, Try.ntmps29
    go_wp2_with fail
    go_ret
    exact ⟨_, _, rfl, World.ownsRow_nil _ _ _ _, Upd.refl _ _⟩
  | some ad =>
    obtain ⟨n, hn⟩ : ∃ n, n = xs.length := ⟨_, rfl⟩
    rw [← hn] at hx ⊢
    have HN := Lib.hid hn
    have HR := Lib.hid (HA.out.stay ((Upd.refl [] w).alloc (.cells #[] 24)))
    clear hn HA
    go_enter Try.func29, Try.ntmps29
    go_wp2_with (at_builtin; refine app_row tyB rfl _ _ rfl w.heap.size (.slice (some ⟨w.heap.size, 0, none⟩) 0 0) 0 [] rfl (World.ownsRow_made w #[] 0 (Nat.le_refl _) (Nat.zero_le _) (by simp)) (some ad) n c xs rfl HN.out HR.out (fun e => by simp at e) (by omega) (by simp) ?_; intro v' w1 hown hgrow)
    rw [Nat.zero_add, List.nil_append] at hown
    have HU : Hid (Upd [] w w1) := ((Upd.refl [] w).alloc _).grown hgrow (fun k hk hl => by simp [Value.ownBlock] at hk; omega)
    obtain ⟨va, vc, rfl⟩ := row_shape hown
    have HO := Lib.hid hown
    clear hown hgrow
    go_wp2_with fail
    go_ret
    exact ⟨va, vc, rfl, HO.out, HU.out⟩
end Go.Proofs.Ytneodiemgemhfaa
