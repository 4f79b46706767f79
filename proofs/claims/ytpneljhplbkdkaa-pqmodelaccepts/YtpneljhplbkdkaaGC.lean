
/- Rows of records in memory, whatever the record: read, kept, owned, grown, set. -/
import Derived.Test.YtpneljhplbkdkaaGB
namespace Go.Proofs.Ytpneljhplbkdkaa
open Go.RowKit Go.Lib

/-- How a record lies: in k cells. -/
structure Lay (α : Type) where
  k : Nat
  enc : α → List Value
  len : ∀ x, (enc x).length = k
  one : ∀ x, ∀ v ∈ enc x, v.oneCell' = true
  pos : 0 < k
variable {α : Type}
def Lay.flat (L : Lay α) (l : List α) : List Value := l.flatMap L.enc
theorem Lay.flat_cons (L : Lay α) (x : α) (l : List α) : L.flat (x :: l) = L.enc x ++ L.flat l := rfl
theorem Lay.flat_nil (L : Lay α) : L.flat [] = [] := rfl
theorem Lay.flat_length (L : Lay α) (l : List α) : (L.flat l).length = l.length * L.k := by
  induction l with
  | nil => simp [Lay.flat_nil]
  | cons x l ih => rw [L.flat_cons, List.length_append, L.len, ih, List.length_cons, Nat.add_mul, Nat.one_mul, Nat.add_comm]
theorem Lay.flat_append (L : Lay α) (l m : List α) : L.flat (l ++ m) = L.flat l ++ L.flat m := by simp [Lay.flat]
theorem Lay.flat_single (L : Lay α) (x : α) : L.flat [x] = L.enc x := by simp [Lay.flat]
theorem Lay.flat_one (L : Lay α) (l : List α) : ∀ v ∈ L.flat l, v.oneCell' = true := by
  intro v hv
  obtain ⟨s, _, h⟩ := List.mem_flatMap.1 hv
  exact L.one s v h
theorem Lay.lt (L : Lay α) {x : α} {t : Nat} {u : Value} (h : (L.enc x)[t]? = some u) : t < L.k := by
  rw [← L.len x]; exact (List.getElem?_eq_some_iff.1 h).1
theorem Lay.flat_at (L : Lay α) : ∀ (l : List α) (j : Nat) (h : j < l.length) (t : Nat) (u : Value), (L.enc l[j])[t]? = some u → (L.flat l)[j * L.k + t]? = some u
  | x :: l, 0, _, t, u, hu => by
    have ht := L.lt hu
    rw [L.flat_cons, List.getElem?_append_left (by rw [L.len]; omega)]
    simpa using hu
  | x :: l, j + 1, h, t, u, hu => by
    have ih := L.flat_at l j (by simpa using h) t u (by simpa using hu)
    have e : (j + 1) * L.k + t = L.k + (j * L.k + t) := by rw [Nat.add_mul]; omega
    rw [L.flat_cons, e, List.getElem?_append_right (by rw [L.len]; omega), L.len, Nat.add_sub_cancel_left]
    exact ih
theorem Lay.flat_of (L : Lay α) : ∀ (l : List α) (t : Nat) (u : Value), (L.flat l)[t]? = some u → ∃ (j : Nat) (h : j < l.length) (s : Nat), t = j * L.k + s ∧ (L.enc l[j])[s]? = some u
  | [], t, u, hu => by simp [Lay.flat_nil] at hu
  | x :: l, t, u, hu => by
    rw [L.flat_cons] at hu
    by_cases ht : t < L.k
    · rw [List.getElem?_append_left (by rw [L.len]; omega)] at hu
      exact ⟨0, by simp, t, by simp, by simpa using hu⟩
    · rw [List.getElem?_append_right (by rw [L.len]; omega), L.len] at hu
      obtain ⟨j, h, s, e, hs⟩ := L.flat_of l _ u hu
      exact ⟨j + 1, by simpa using h, s, by rw [Nat.add_mul]; omega, by simpa using hs⟩
theorem Lay.flat_set (L : Lay α) : ∀ (l : List α) (i : Nat) (_ : i < l.length) (x : α), L.flat (l.set i x) = (L.flat l).take (i * L.k) ++ L.enc x ++ (L.flat l).drop (i * L.k + L.k)
  | y :: l, 0, _, x => by
    rw [List.set_cons_zero, L.flat_cons, L.flat_cons]
    simp only [Nat.zero_mul, List.take_zero, List.nil_append, Nat.zero_add]
    have e : (L.enc y ++ L.flat l).drop L.k = L.flat l := by
      conv => lhs; rw [← L.len y]
      exact List.drop_left
    rw [e]
  | y :: l, i + 1, h, x => by
    have ih := L.flat_set l i (by simpa using h) x
    have e1 : (i + 1) * L.k = (L.enc y).length + i * L.k := by rw [L.len, Nat.add_mul]; omega
    have e2 : (i + 1) * L.k + L.k = (L.enc y).length + (i * L.k + L.k) := by omega
    rw [List.set_cons_succ, L.flat_cons, L.flat_cons, ih, e2, e1]
    rw [List.take_length_add_append, List.drop_length_add_append]
    simp [List.append_assoc]

/-- The slice at ad holds l. -/
def Row (L : Lay α) (w : World) (ad : Option Addr) (l : List α) : Prop := ∀ j (h : j < l.length), ∃ b off, ad = some ⟨b, off, none⟩ ∧ ∀ t u, (L.enc l[j])[t]? = some u → w.cell? ⟨b, off + j * L.k + t, none⟩ = some u
theorem Row.keep {L : Lay α} {S : List Nat} {w w' : World} {ad : Option Addr} {l : List α} (h : Row L w ad l) (hu : Upd S w w') (hS : l ≠ [] → ∀ a, ad = some a → a.block ∉ S) : Row L w' ad l := by
  intro j hj
  obtain ⟨b, off, rfl, c⟩ := h j hj
  have hb : b ∉ S := hS (by intro e; subst e; simp at hj) _ rfl
  exact ⟨b, off, rfl, fun t u ht => hu.cell (c t u ht) hb⟩
theorem Row.stay {L : Lay α} {w w' : World} {ad : Option Addr} {l : List α} (h : Row L w ad l) (hu : Upd [] w w') : Row L w' ad l := h.keep hu (by simp)
theorem row_nil (L : Lay α) (w : World) (ad : Option Addr) : Row L w ad [] := by intro j hj; simp at hj
theorem row_none {L : Lay α} {w : World} {l : List α} (h : Row L w none l) : l = [] := by
  cases l with
  | nil => rfl
  | cons x xs => obtain ⟨b, off, h, _⟩ := h 0 (by simp); simp at h
theorem Row.lt {L : Lay α} {w : World} {ad : Option Addr} {l : List α} (h : Row L w ad l) (hn : l ≠ []) {a : Addr} (ha : ad = some a) : a.block < w.heap.size := by
  obtain ⟨b, off, rfl, c⟩ := h 0 (List.length_pos_iff.2 hn)
  obtain rfl := Option.some.inj ha
  have hk := L.pos
  have hl := L.len (l[0]'(List.length_pos_iff.2 hn))
  have := World.block_lt_of_cell? w _ (c 0 ((L.enc (l[0]'(List.length_pos_iff.2 hn)))[0]'(by omega)) (List.getElem?_eq_getElem (by omega)))
  simpa using this
theorem Row.cells {L : Lay α} {w : World} {ad : Addr} {l : List α} (h : Row L w (some ad) l) : ∀ (t : Nat) (u : Value), (L.flat l)[t]? = some u → w.cell? (ad.add t) = some u := fun t u ht => by
  obtain ⟨j, hj, s, rfl, hs⟩ := L.flat_of l t u ht
  obtain ⟨b, off, e, c⟩ := h j hj
  obtain rfl := Option.some.inj e
  rw [Addr.add_lit, ← Nat.add_assoc]
  exact c s u hs
/-- A row read in part. -/
theorem Row.part {L : Lay α} {w : World} {ad : Option Addr} {l : List α} (h : Row L w ad l) (n : Nat) : Row L w ad (l.take n) := by
  intro j hj
  have hl : j < l.length := by simp at hj; omega
  obtain ⟨b, off, e, c⟩ := h j hl
  exact ⟨b, off, e, fun t u ht => c t u (by simpa using ht)⟩

/-- A slice of records as it lies. -/
structure SlR (α : Type) where
  l : List α
  ad : Option Addr
  cap : Nat
def SlR.v (s : SlR α) : Value := .slice s.ad s.l.length s.cap
structure HasS (L : Lay α) (w : World) (s : SlR α) : Prop where
  row : Row L w s.ad s.l
  le : s.l.length ≤ s.cap
  nn : s.ad = none → s.cap = 0
/-- The slice lies outside of block b. -/
def AvS (s : SlR α) (b : Nat) : Prop := s.l ≠ [] → ∀ a, s.ad = some a → a.block ≠ b
theorem HasS.stay {L : Lay α} {w w' : World} {s : SlR α} (h : HasS L w s) (hu : Upd [] w w') : HasS L w' s := ⟨h.row.stay hu, h.le, h.nn⟩
theorem HasS.keep1 {L : Lay α} {w w' : World} {s : SlR α} {b : Nat} (h : HasS L w s) (hu : Upd [b] w w') (ha : AvS s b) : HasS L w' s := ⟨h.row.keep hu (fun hn a e => by simpa using ha hn a e), h.le, h.nn⟩
theorem HasS.avoids {L : Lay α} {w : World} {s : SlR α} (h : HasS L w s) {b : Nat} (hb : w.heap.size ≤ b) : AvS s b := fun hn a e => by
  have := h.row.lt hn e
  omega
theorem hasS_nil (L : Lay α) (w : World) : HasS L w ⟨[], none, 0⟩ := ⟨row_nil L w none, by simp, fun _ => rfl⟩
theorem avS_nil (b : Nat) (ad : Option Addr) (c : Nat) : AvS (⟨[], ad, c⟩ : SlR α) b := fun h => absurd rfl h
/-- A row of the call's own, as a slice. -/
theorem hasS_row {L : Lay α} {w : World} {base n : Nat} {e : TypeId} {v : Value} {l : List α} (h : w.ownsRow base e L.k v n (L.flat l)) : n = l.length ∧ ∃ ad cap, v = .slice ad n cap ∧ HasS L w ⟨l, ad, cap⟩ ∧ ∀ a, ad = some a → base ≤ a.block := by
  have hn : n = l.length := by
    have h1 := h.1
    rw [L.flat_length] at h1
    exact (Nat.eq_of_mul_eq_mul_right L.pos h1).symm
  subst hn
  refine ⟨rfl, ?_⟩
  rcases h.2 with ⟨rfl, h0⟩ | ⟨g, cap, cur, rfl, hb, hg, hc, _, hs, ht⟩
  · obtain rfl : l = [] := List.eq_nil_of_length_eq_zero h0
    exact ⟨none, 0, rfl, hasS_nil L w, fun a e => by simp at e⟩
  · refine ⟨_, _, rfl, ⟨fun j hj => ⟨g, 0, rfl, fun t u hu => ?_⟩, hc, fun e => by simp at e⟩, fun a e => by obtain rfl := Option.some.inj e; exact hb⟩
    have := h.cells (g := g) rfl _ u (L.flat_at l j hj t u hu)
    rw [Addr.add_lit, ← Nat.add_assoc] at this
    exact this

/-- The types of a row: of the slice and of its element. -/
structure RowTy (L : Lay α) (ts te : TypeId) : Prop where
  un : Try.prog.underlying ts = some (.slice te)
  info : ∃ i z b, Try.prog.info? te = some i ∧ i.zero = some z ∧ i.size = L.k ∧ i.bytes = b ∧ z.cells.size = L.k ∧ b ≤ 1000
theorem rowTy {L : Lay α} {ts te : TypeId} (un : Try.prog.underlying ts = some (.slice te)) (z : Value) (b : Nat) (hi : (Try.prog.info? te).map (fun i => (i.zero, i.size, i.bytes)) = some (some z, L.k, b)) (hz : z.cells.size = L.k) (hb : b ≤ 1000) : RowTy L ts te := by
  obtain ⟨i, h1, h2, h3, h4⟩ := info_parts hi
  exact ⟨un, i, z, b, h1, h2, h3, h4, hz, hb⟩
/-- append of a slice to a row of the call's own. -/
theorem app_row {L : Lay α} {ts te : TypeId} (T : RowTy L ts te) {w : World} {ops : Array Oper} {rest : List Oper} {o : Oper} {a : Act} {Q : Exit → Act → World → Prop} (hgd : o.guard = none) (s x : Operand)
    (ho : o.op = .call { callee := .builtin .append, args := #[s, x], argTypes := #[ts, ts] })
    (base : Nat) (v : Value) (n : Nat) (xs : List α) (hs : a.eval s = v) (hown : w.ownsRow base te L.k v n (L.flat xs))
    (ad : Option Addr) (m c : Nat) (ys : List α) (hx : a.eval x = .slice ad m c) (hm : m = ys.length) (hy : Row L w ad ys) (hnil : ad = none → c = 0) (hn : n + m ≤ 1000000) (hbase : base ≤ w.heap.size)
    (h : ∀ v' w', w'.ownsRow base te L.k v' (n + m) (L.flat (xs ++ ys)) → w.grownBy w' v.ownBlock → wpList Try.prog ops Q rest (a.put o.dst v') w') :
    wpList Try.prog ops Q (o :: rest) a w := by
  obtain ⟨i0, z, b, hi0, hz0, hz1, hz2, hz3, hb⟩ := T.info
  cases ad with
  | none =>
    have e := row_none hy
    subst e
    obtain rfl := hnil rfl
    obtain rfl : m = 0 := by simpa using hm
    exact wpList_append_own_none hgd s x ts ho base te i0 L.k T.un hi0 v n _ hs hown hx (h v w (by simpa using hown) (grownBy_refl _ _))
  | some ad =>
    have hbb : (n + m) * b ≤ 1000000 * 1000 := Nat.mul_le_mul hn hb
    refine wpList_append_own _ hgd s x ts ho base te i0 z L.k b T.un hi0 hz0 hz1 hz2 hz3 L.pos v n _ hs hown ad m c (L.flat ys) hx (by rw [L.flat_length, hm]) hy.cells (L.flat_one ys) (by simp [maxLen]; omega) (by omega) hbase ?_
    intro v' w' h1 h2 _
    exact h v' w' (by rw [L.flat_append]; exact h1) h2

/-- The block g holds l in its first cells. -/
structure Held (L : Lay α) (te : TypeId) (w : World) (g cap : Nat) (l : List α) : Prop where
  ex : ∃ cur, w.heap[g]? = some (.cells cur te (0, 0)) ∧ cur.size = cap * L.k ∧ cur.toList.take (l.length * L.k) = L.flat l
  le : l.length ≤ cap
theorem held_row {L : Lay α} {te : TypeId} {w : World} {base n : Nat} {v : Value} {l : List α} (h : w.ownsRow base te L.k v n (L.flat l)) (h0 : 0 < n) : n = l.length ∧ ∃ g cap, v = .slice (some ⟨g, 0, none⟩) n cap ∧ base ≤ g ∧ Held L te w g cap l := by
  have hn := (hasS_row h).1
  refine ⟨hn, ?_⟩
  rcases h.2 with ⟨_, h1⟩ | ⟨g, cap, cur, rfl, hb, hg, hc, _, hs, ht⟩
  · omega
  · exact ⟨g, cap, rfl, hb, ⟨cur, hg, hs, by rw [← hn]; exact ht⟩, by omega⟩
theorem Held.lt {L : Lay α} {te : TypeId} {w : World} {g cap : Nat} {l : List α} (h : Held L te w g cap l) : g < w.heap.size := by
  obtain ⟨cur, h, _⟩ := h.ex
  exact lt_block h
theorem Held.cell {L : Lay α} {te : TypeId} {w : World} {g cap : Nat} {l : List α} (h : Held L te w g cap l) (j : Nat) (hj : j < l.length) (t : Nat) (u : Value) (hu : (L.enc l[j])[t]? = some u) : w.cell? ⟨g, j * L.k + t, none⟩ = some u ∧ w.frozen? ⟨g, j * L.k + t, none⟩ = false := by
  obtain ⟨cur, hg, hs, ht⟩ := h.ex
  refine ⟨?_, free_block hg _⟩
  rw [cell_block hg]
  have hf := L.flat_at l j hj t u hu
  rw [← ht, List.getElem?_take] at hf
  split at hf
  · rw [← Array.getElem?_toList]; exact hf
  · simp at hf
theorem Held.keep {L : Lay α} {te : TypeId} {S : List Nat} {w w' : World} {g cap : Nat} {l : List α} (h : Held L te w g cap l) (hu : Upd S w w') (hg : g ∉ S) : Held L te w' g cap l := by
  obtain ⟨cur, h1, h2, h3⟩ := h.ex
  exact ⟨⟨cur, hu.at h1 hg, h2, h3⟩, h.le⟩
theorem Held.has {L : Lay α} {te : TypeId} {w : World} {g cap : Nat} {l : List α} (h : Held L te w g cap l) : HasS L w ⟨l, some ⟨g, 0, none⟩, cap⟩ :=
  ⟨fun j hj => ⟨g, 0, rfl, fun t u hu => by rw [Nat.zero_add]; exact (h.cell j hj t u hu).1⟩, h.le, fun e => by simp at e⟩
/-- Cells stored one behind the other. -/
def stores (w : World) (g : Nat) : Nat → List Value → World
  | _, [] => w
  | o, v :: vs => stores (w.setCell ⟨g, o, none⟩ v) g (o + 1) vs
theorem stores_upd : ∀ (vs : List Value) (w : World) (g o : Nat), Upd [g] w (stores w g o vs)
  | [], w, g, o => Upd.refl _ _
  | v :: vs, w, g, o => (upd_set1 w g o v).trans (stores_upd vs _ g (o + 1)) (by simp)
theorem stores_block : ∀ (vs : List Value) {w : World} {g o : Nat} {c : Array Value} {t : TypeId} {f : Nat × Nat}, w.heap[g]? = some (.cells c t f) → o + vs.length ≤ c.size →
    ∃ c', (stores w g o vs).heap[g]? = some (.cells c' t f) ∧ c'.toList = c.toList.take o ++ vs ++ c.toList.drop (o + vs.length)
  | [], w, g, o, c, t, f, h, _ => ⟨c, h, by simp⟩
  | v :: vs, w, g, o, c, t, f, h, hl => by
    simp only [List.length_cons] at hl
    obtain ⟨c', h1, h2⟩ := stores_block vs (setCell_block (o := o) h v) (o := o + 1) (by simp; omega)
    refine ⟨c', h1, ?_⟩
    rw [h2]
    have ho : o < c.toList.length := by simp; omega
    have e : (c.setIfInBounds o v).toList = c.toList.set o v := by simp
    rw [e, List.length_cons, show o + (vs.length + 1) = o + 1 + vs.length by omega]
    have e2 : (c.toList.set o v).take (o + 1) = c.toList.take o ++ [v] := by
      have hmin : (c.toList.take o).length = o := by simp; simp at ho; omega
      rw [List.take_set, List.take_succ_eq_append_getElem ho, List.set_append, if_neg (by omega), hmin, Nat.sub_self]
      simp
    rw [e2, List.drop_set_of_lt (by omega)]
    simp
theorem Held.set {L : Lay α} {te : TypeId} {w : World} {g cap : Nat} {l : List α} (h : Held L te w g cap l) (i : Nat) (hi : i < l.length) (x : α) : Held L te (stores w g (i * L.k) (L.enc x)) g cap (l.set i x) := by
  obtain ⟨cur, h1, h2, h3⟩ := h.ex
  have hle := h.le
  have hik : i * L.k + L.k ≤ l.length * L.k := by
    have := Nat.mul_le_mul_right L.k (show i + 1 ≤ l.length by omega)
    rwa [Nat.add_mul, Nat.one_mul] at this
  have hlc : l.length * L.k ≤ cur.size := by rw [h2]; exact Nat.mul_le_mul_right _ hle
  obtain ⟨c', q1, q2⟩ := stores_block (L.enc x) (o := i * L.k) h1 (by rw [L.len]; omega)
  refine ⟨⟨c', q1, ?_, ?_⟩, by simpa using hle⟩
  · have := congrArg List.length q2
    simp only [Array.length_toList, List.length_append, List.length_take, List.length_drop, L.len] at this
    omega
  · rw [q2, L.len, L.flat_set l i hi, List.length_set, ← h3]
    have hlen : (cur.toList.take (i * L.k) ++ L.enc x).length = i * L.k + L.k := by simp [L.len]; omega
    rw [List.take_append, hlen, List.take_of_length_le (by rw [hlen]; omega), List.take_take, List.drop_take, Nat.min_eq_left (by omega)]
end Go.Proofs.Ytpneljhplbkdkaa
