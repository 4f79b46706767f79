/- Contract: the reference's Alloc. -/
/- Contract: the reference's New. -/
import Derived.Test.YtmfnfinbkdemkaaGreatCF
namespace Go.Proofs.YtmfnfinbkdemkaaGreat.A5
open Go.RowKit Go.Lib

def GivesAHE (r : ArR) (p : Ar × Int × Int) (w : World) (e : Ending) (w' : World) : Prop := ∃ r', e = .returned (.tuple #[encA r', .int .i64 p.2.1, .int .i64 p.2.2]) ∧ Nxt w r p.1 w' r'

theorem row_ints {w : World} {base n : Nat} {v : Value} {xs : List Int} (h : w.ownsRow base 3 1 v n (xs.map (Value.int .i64))) : ∃ va vc, v = .slice va n vc ∧ Ints w va xs ∧ n ≤ vc ∧ (va = none → vc = 0) ∧ ∀ ad, va = some ad → base ≤ ad.block := by
  have hn : n = xs.length := by have := h.1; simp at this; omega
  subst hn
  rcases h.2 with ⟨rfl, h0⟩ | ⟨g, cap, cur, rfl, hb, _, hc, _⟩
  · obtain rfl : xs = [] := List.eq_nil_of_length_eq_zero h0
    exact ⟨none, 0, rfl, ints_nil _ _, Nat.le_refl _, fun _ => rfl, fun ad e => by simp at e⟩
  · exact ⟨some ⟨g, 0, none⟩, cap, rfl, ints_row h, hc, fun e => by simp at e, fun ad e => by rw [← Option.some.inj e]; exact hb⟩
end Go.Proofs.YtmfnfinbkdemkaaGreat.A5
namespace Go.Proofs.YtmfnfinbkdemkaaGreat.A5
open Go.RowKit Go.Lib

/-- An arena that a call made out of nothing. -/
structure Born (w : World) (a' : Ar) (w' : World) (r' : ArR) : Prop where
  eq : r'.ar = a'
  has : HasA w' r'
  av : ∀ b, b < w.heap.size → Avoids r' b
  upd : Upd [] w w'
def zeroA : Value := .agg #[.slice none 0 0, .slice none 0 0, .int .i64 0]

def zs (k : Nat) : List Sl := List.replicate k ⟨0, 0, 0, 0⟩
def ids (n k : Nat) : List Int := (List.range k).map (fun i : Nat => (n : Int) - 1 - i)
theorem zs_succ (k : Nat) : zs k ++ [⟨0, 0, 0, 0⟩] = zs (k + 1) := by simp [zs, List.replicate_succ']
theorem ids_succ (n k : Nat) : ids n k ++ [(n : Int) - 1 - k] = ids n (k + 1) := by simp [ids, List.range_succ]
theorem ids_length (n k : Nat) : (ids n k).length = k := by simp [ids]
theorem zs_length (k : Nat) : (zs k).length = k := by simp [zs]
/-- The state of New's loop: the result's box H, the arena's box behind it, its two rows behind both. -/
structure NewAt (w : World) (n H j k : Nat) (v1 v2 : Value) (wr : World) : Prop where
  bx : wr.heap[H + 1]? = some (.cells #[v1, v2, .int .i64 0] 45 (0, 0))
  rb : wr.heap[H]? = some (.cells #[.slice none 0 0, .slice none 0 0, .int .i64 0] 45 (0, 0))
  r1 : wr.ownsRow (H + 2) 52 4 v1 j (flatS (zs j))
  r2 : wr.ownsRow (H + 2) 3 1 v2 k ((ids n k).map (Value.int .i64))
  upd : Upd [] w wr
theorem own_ge {w : World} {base size n : Nat} {e : TypeId} {v : Value} {xs : List Value} (h : w.ownsRow base e size v n xs) : ∀ k, v.ownBlock = some k → base ≤ k := fun k hk => (h.lt k hk).1
theorem own_ne {w : World} {base base' size size' n n' : Nat} {e e' : TypeId} {v v' : Value} {xs xs' : List Value} (h : w.ownsRow base e size v n xs) (h' : w.ownsRow base' e' size' v' n' xs') (hte : e ≠ e') : ∀ k, v.ownBlock = some k → v'.ownBlock ≠ some k := by
  intro k hk
  rcases h.2 with ⟨rfl, _⟩ | ⟨g, cap, cur, rfl, _, hg, _⟩
  · simp [Value.ownBlock] at hk
  · have : g = k := by simpa [Value.ownBlock] using hk
    subst this
    exact ne_own hg h' hte
theorem upd_grown {w w' : World} {row : Option Nat} (h : w.grownBy w' row) : Upd row.toList w w' := (Upd.refl row.toList w).grown h (fun k hk _ => by simp [hk])
/-- One append to a row v, kept in the box: what else there is stays. -/
theorem NewAt.app {w wr w2 : World} {n H j k : Nat} {v1 v2 v : Value} {O : Obj} (h : NewAt w n H j k v1 v2 wr) (hH : w.heap.size = H) (hv : v = v1 ∨ v = v2) (hg : (wr.alloc O).grownBy w2 v.ownBlock) (u : Value) (o : Nat) :
    w2.heap[H + 1]? = some (.cells #[v1, v2, .int .i64 0] 45 (0, 0)) ∧ (w2.setCell ⟨H + 1, o, none⟩ u).heap[H]? = some (.cells #[.slice none 0 0, .slice none 0 0, .int .i64 0] 45 (0, 0)) ∧ Upd [] w (w2.setCell ⟨H + 1, o, none⟩ u) := by
  have hu := upd_grown hg
  have hge : ∀ k, v.ownBlock = some k → H + 2 ≤ k := by
    rcases hv with rfl | rfl
    · exact own_ge h.r1
    · exact own_ge h.r2
  have hb0 : (H : Nat) ∉ v.ownBlock.toList := fun hm => by have := hge _ (toList_of hm); omega
  have hb1 : (H + 1 : Nat) ∉ v.ownBlock.toList := fun hm => by have := hge _ (toList_of hm); omega
  have ha := (Upd.refl [] wr).alloc O
  have hset := (Upd.refl [H + 1] w2).setCell (p := ⟨H + 1, o, none⟩) (fun _ => by simp) u
  exact ⟨hu.at (ha.at h.bx (by simp)) hb1, hset.at (hu.at (ha.at h.rb (by simp)) hb0) (by simp), ((h.upd.trans ha (by simp)).trans hu (fun x hx hl => by have := hge _ (toList_of hx); omega)).trans hset (fun x hx hl => by simp at hx; omega)⟩
theorem NewAt.first {w wr w2 : World} {n H k : Nat} {v1 v2 v1' : Value} {O : Obj} (h : NewAt w n H k k v1 v2 wr) (hH : w.heap.size = H) (ho : w2.ownsRow (H + 2) 52 4 v1' (k + 1) (flatS (zs k ++ [⟨0, 0, 0, 0⟩]))) (hg : (wr.alloc O).grownBy w2 v1.ownBlock) :
    NewAt w n H (k + 1) k v1' v2 (w2.setCell ⟨H + 1, 0, none⟩ v1') := by
  obtain ⟨e1, e0, hU⟩ := h.app hH (.inl rfl) hg v1' 0
  have hu := upd_grown hg
  have hset := (Upd.refl [H + 1] w2).setCell (p := ⟨H + 1, 0, none⟩) (fun _ => by simp) v1'
  have r2 := hu.row (h.r2.alloc O) (fun k hk hm => own_ne (h.r2.alloc O) (h.r1.alloc O) (by decide) k hk (toList_of hm))
  exact ⟨setCell_block e1 _, e0, by rw [← zs_succ]; exact hset.row ho (fun k hk => by have := own_ge ho k hk; simp; omega), hset.row r2 (fun k hk => by have := own_ge r2 k hk; simp; omega), hU⟩
theorem NewAt.second {w wr w2 : World} {n H k : Nat} {v1 v2 v2' : Value} {O : Obj} (h : NewAt w n H (k + 1) k v1 v2 wr) (hH : w.heap.size = H) (ho : w2.ownsRow (H + 2) 3 1 v2' (k + 1) ((ids n k ++ [(n : Int) - 1 - k]).map (Value.int .i64))) (hg : (wr.alloc O).grownBy w2 v2.ownBlock) :
    NewAt w n H (k + 1) (k + 1) v1 v2' (w2.setCell ⟨H + 1, 1, none⟩ v2') := by
  obtain ⟨e1, e0, hU⟩ := h.app hH (.inr rfl) hg v2' 1
  have hu := upd_grown hg
  have hset := (Upd.refl [H + 1] w2).setCell (p := ⟨H + 1, 1, none⟩) (fun _ => by simp) v2'
  have r1 := hu.row (h.r1.alloc O) (fun k hk hm => own_ne (h.r1.alloc O) (h.r2.alloc O) (by decide) k hk (toList_of hm))
  exact ⟨setCell_block e1 _, e0, hset.row r1 (fun k hk => by have := own_ge r1 k hk; simp; omega), by rw [← ids_succ]; exact hset.row ho (fun k hk => by have := own_ge ho k hk; simp; omega), hU⟩
theorem row_slots {w : World} {base n : Nat} {v : Value} {l : List Sl} (h : w.ownsRow base 52 4 v n (flatS l)) : ∃ va vc, v = .slice va n vc ∧ Slots w va l ∧ n ≤ vc ∧ (va = none → vc = 0) ∧ ∀ ad, va = some ad → base ≤ ad.block := by
  have hn : n = l.length := by have := h.1; rw [flatS_length] at this; omega
  subst hn
  rcases h.2 with ⟨rfl, h0⟩ | ⟨g, cap, cur, rfl, hb, _, hc, _⟩
  · obtain rfl : l = [] := List.eq_nil_of_length_eq_zero h0
    exact ⟨none, 0, rfl, slots_nil _ _, Nat.le_refl _, fun _ => rfl, fun ad e => by simp at e⟩
  · exact ⟨some ⟨g, 0, none⟩, cap, rfl, slots_row h, hc, fun e => by simp at e, fun ad e => by rw [← Option.some.inj e]; exact hb⟩
theorem NewAt.born {w wr w5 : World} {n H va1c va2c : Nat} {va1 va2 : Option Addr} (h : NewAt w n H n n (.slice va1 n va1c) (.slice va2 n va2c) wr) (hH : w.heap.size = H) (hu : Upd [H] wr w5) : Born w (newA n) w5 ⟨newA n, va1, va1c, va2, va2c⟩ := by
  obtain ⟨a1, c1, e1, s1, l1, n1, g1⟩ := row_slots h.r1
  obtain ⟨a2, c2, e2, s2, l2, n2, g2⟩ := row_ints h.r2
  simp only [Value.slice.injEq, true_and] at e1 e2
  obtain ⟨rfl, rfl⟩ := e1
  obtain ⟨rfl, rfl⟩ := e2
  refine ⟨rfl, ⟨?_, ?_, by simpa [newA] using l1, by simpa [newA] using l2, n1, n2⟩, fun b hb => ⟨fun _ ad e => ?_, fun _ ad e => ?_⟩, h.upd.trans hu (fun x hx hl => by simp at hx; omega)⟩
  · exact s1.keep hu (fun ad e => by have := g1 ad e; simp; omega)
  · exact s2.keep hu (fun ad e => by have := g2 ad e; simp; omega)
  · have := g1 ad e; omega
  · have := g2 ad e; omega
theorem one_slot {w : World} {b : Nat} {s : Sl} {t : TypeId} {f : Nat × Nat} (h : w.heap[b]? = some (.cells #[.int .i64 s.g, .int .i64 s.s, .int .i64 s.t, .int .i64 s.q] t f)) : ∀ t u, (flatS [s])[t]? = some u → w.cell? ((⟨b, 0, none⟩ : Addr).add t) = some u := by
  intro t u hu
  have e : flatS [s] = [.int .i64 s.g, .int .i64 s.s, .int .i64 s.t, .int .i64 s.q] := rfl
  rw [e] at hu
  rw [Addr.add_lit, Nat.zero_add, cell_block h, List.getElem?_toArray]; exact hu
theorem row_shape {w : World} {base size n : Nat} {e : TypeId} {v : Value} {xs : List Value} (h : w.ownsRow base e size v n xs) : ∃ va vc, v = .slice va n vc := by
  rcases h.2 with ⟨rfl, rfl⟩ | ⟨g, cap, cur, rfl, _⟩
  · exact ⟨none, 0, rfl⟩
  · exact ⟨_, _, rfl⟩

end Go.Proofs.YtmfnfinbkdemkaaGreat.A5
