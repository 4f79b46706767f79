/- Rows of records in memory, whatever the record: read, kept, owned, grown, set. -/
/- Rungs in memory: a row of buckets, each a row of items. -/
/- General facts on rungs in memory, of no function: what contracts of both sides lean on. -/
/- Ladder queues in memory. -/
import Derived.Test.YtmfnfinbkdemkaaGreatCA
import Derived.Test.YtmfnfinbkdemkaaGreatNA
import Derived.Laws.StructEq
import Derived.Test.YtmfnfinbkdemkaaGreatIB
namespace Go.Proofs.YtmfnfinbkdemkaaGreat
open Go.RowKit Go.Lib

/-- How a record lies: in k cells. -/
structure Lay (α : Type) where
  k : Nat
  enc : α → List Value
  len : ∀ x, (enc x).length = k
  one : ∀ x, ∀ v ∈ enc x, v.oneCell' = true
  pos : 0 < k
variable {α : Type}
def Lay.flat (L : Lay α) (l : List α) : List Value := l.flatMap L.enc
theorem Lay.flat_cons (L : Lay α) (x : α) (l : List α) : L.flat (x :: l) = L.enc x ++ L.flat l := rfl
theorem Lay.flat_nil (L : Lay α) : L.flat [] = [] := rfl
theorem Lay.flat_length (L : Lay α) (l : List α) : (L.flat l).length = l.length * L.k := by
  induction l with
  | nil => simp [Lay.flat_nil]
  | cons x l ih => rw [L.flat_cons, List.length_append, L.len, ih, List.length_cons, Nat.add_mul, Nat.one_mul, Nat.add_comm]
theorem Lay.flat_append (L : Lay α) (l m : List α) : L.flat (l ++ m) = L.flat l ++ L.flat m := by simp [Lay.flat]
theorem Lay.flat_single (L : Lay α) (x : α) : L.flat [x] = L.enc x := by simp [Lay.flat]
theorem Lay.flat_one (L : Lay α) (l : List α) : ∀ v ∈ L.flat l, v.oneCell' = true := by
  intro v hv
  obtain ⟨s, _, h⟩ := List.mem_flatMap.1 hv
  exact L.one s v h
theorem Lay.lt (L : Lay α) {x : α} {t : Nat} {u : Value} (h : (L.enc x)[t]? = some u) : t < L.k := by
  rw [← L.len x]; exact (List.getElem?_eq_some_iff.1 h).1
theorem Lay.flat_at (L : Lay α) : ∀ (l : List α) (j : Nat) (h : j < l.length) (t : Nat) (u : Value), (L.enc l[j])[t]? = some u → (L.flat l)[j * L.k + t]? = some u
  | x :: l, 0, _, t, u, hu => by
    have ht := L.lt hu
    rw [L.flat_cons, List.getElem?_append_left (by rw [L.len]; omega)]
    simpa using hu
  | x :: l, j + 1, h, t, u, hu => by
    have ih := L.flat_at l j (by simpa using h) t u (by simpa using hu)
    have e : (j + 1) * L.k + t = L.k + (j * L.k + t) := by rw [Nat.add_mul]; omega
    rw [L.flat_cons, e, List.getElem?_append_right (by rw [L.len]; omega), L.len, Nat.add_sub_cancel_left]
    exact ih
theorem Lay.flat_of (L : Lay α) : ∀ (l : List α) (t : Nat) (u : Value), (L.flat l)[t]? = some u → ∃ (j : Nat) (h : j < l.length) (s : Nat), t = j * L.k + s ∧ (L.enc l[j])[s]? = some u
  | [], t, u, hu => by simp [Lay.flat_nil] at hu
  | x :: l, t, u, hu => by
    rw [L.flat_cons] at hu
    by_cases ht : t < L.k
    · rw [List.getElem?_append_left (by rw [L.len]; omega)] at hu
      exact ⟨0, by simp, t, by simp, by simpa using hu⟩
    · rw [List.getElem?_append_right (by rw [L.len]; omega), L.len] at hu
      obtain ⟨j, h, s, e, hs⟩ := L.flat_of l _ u hu
      exact ⟨j + 1, by simpa using h, s, by rw [Nat.add_mul]; omega, by simpa using hs⟩
theorem Lay.flat_set (L : Lay α) : ∀ (l : List α) (i : Nat) (_ : i < l.length) (x : α), L.flat (l.set i x) = (L.flat l).take (i * L.k) ++ L.enc x ++ (L.flat l).drop (i * L.k + L.k)
  | y :: l, 0, _, x => by
    rw [List.set_cons_zero, L.flat_cons, L.flat_cons]
    simp only [Nat.zero_mul, List.take_zero, List.nil_append, Nat.zero_add]
    have e : (L.enc y ++ L.flat l).drop L.k = L.flat l := by
      conv => lhs; rw [← L.len y]
      exact List.drop_left
    rw [e]
  | y :: l, i + 1, h, x => by
    have ih := L.flat_set l i (by simpa using h) x
    have e1 : (i + 1) * L.k = (L.enc y).length + i * L.k := by rw [L.len, Nat.add_mul]; omega
    have e2 : (i + 1) * L.k + L.k = (L.enc y).length + (i * L.k + L.k) := by omega
    rw [List.set_cons_succ, L.flat_cons, L.flat_cons, ih, e2, e1]
    rw [List.take_length_add_append, List.drop_length_add_append]
    simp [List.append_assoc]

/-- The slice at ad holds l. -/
def Row (L : Lay α) (w : World) (ad : Option Addr) (l : List α) : Prop := ∀ j (h : j < l.length), ∃ b off, ad = some ⟨b, off, none⟩ ∧ ∀ t u, (L.enc l[j])[t]? = some u → w.cell? ⟨b, off + j * L.k + t, none⟩ = some u
theorem Row.keep {L : Lay α} {S : List Nat} {w w' : World} {ad : Option Addr} {l : List α} (h : Row L w ad l) (hu : Upd S w w') (hS : l ≠ [] → ∀ a, ad = some a → a.block ∉ S) : Row L w' ad l := by
  intro j hj
  obtain ⟨b, off, rfl, c⟩ := h j hj
  have hb : b ∉ S := hS (by intro e; subst e; simp at hj) _ rfl
  exact ⟨b, off, rfl, fun t u ht => hu.cell (c t u ht) hb⟩
theorem Row.stay {L : Lay α} {w w' : World} {ad : Option Addr} {l : List α} (h : Row L w ad l) (hu : Upd [] w w') : Row L w' ad l := h.keep hu (by simp)
theorem row_nil (L : Lay α) (w : World) (ad : Option Addr) : Row L w ad [] := by intro j hj; simp at hj
theorem row_none {L : Lay α} {w : World} {l : List α} (h : Row L w none l) : l = [] := by
  cases l with
  | nil => rfl
  | cons x xs => obtain ⟨b, off, h, _⟩ := h 0 (by simp); simp at h
theorem Row.lt {L : Lay α} {w : World} {ad : Option Addr} {l : List α} (h : Row L w ad l) (hn : l ≠ []) {a : Addr} (ha : ad = some a) : a.block < w.heap.size := by
  obtain ⟨b, off, rfl, c⟩ := h 0 (List.length_pos_iff.2 hn)
  obtain rfl := Option.some.inj ha
  have hk := L.pos
  have hl := L.len (l[0]'(List.length_pos_iff.2 hn))
  have := World.block_lt_of_cell? w _ (c 0 ((L.enc (l[0]'(List.length_pos_iff.2 hn)))[0]'(by omega)) (List.getElem?_eq_getElem (by omega)))
  simpa using this
theorem Row.cells {L : Lay α} {w : World} {ad : Addr} {l : List α} (h : Row L w (some ad) l) : ∀ (t : Nat) (u : Value), (L.flat l)[t]? = some u → w.cell? (ad.add t) = some u := fun t u ht => by
  obtain ⟨j, hj, s, rfl, hs⟩ := L.flat_of l t u ht
  obtain ⟨b, off, e, c⟩ := h j hj
  obtain rfl := Option.some.inj e
  rw [Addr.add_lit, ← Nat.add_assoc]
  exact c s u hs
/-- A row read in part. -/
theorem Row.part {L : Lay α} {w : World} {ad : Option Addr} {l : List α} (h : Row L w ad l) (n : Nat) : Row L w ad (l.take n) := by
  intro j hj
  have hl : j < l.length := by simp at hj; omega
  obtain ⟨b, off, e, c⟩ := h j hl
  exact ⟨b, off, e, fun t u ht => c t u (by simpa using ht)⟩

/-- A slice of records as it lies. -/
structure SlR (α : Type) where
  l : List α
  ad : Option Addr
  cap : Nat
def SlR.v (s : SlR α) : Value := .slice s.ad s.l.length s.cap
structure HasS (L : Lay α) (w : World) (s : SlR α) : Prop where
  row : Row L w s.ad s.l
  le : s.l.length ≤ s.cap
  nn : s.ad = none → s.cap = 0
/-- The slice lies outside of block b. -/
def AvS (s : SlR α) (b : Nat) : Prop := s.l ≠ [] → ∀ a, s.ad = some a → a.block ≠ b
theorem HasS.stay {L : Lay α} {w w' : World} {s : SlR α} (h : HasS L w s) (hu : Upd [] w w') : HasS L w' s := ⟨h.row.stay hu, h.le, h.nn⟩
theorem HasS.keep1 {L : Lay α} {w w' : World} {s : SlR α} {b : Nat} (h : HasS L w s) (hu : Upd [b] w w') (ha : AvS s b) : HasS L w' s := ⟨h.row.keep hu (fun hn a e => by simpa using ha hn a e), h.le, h.nn⟩
theorem HasS.avoids {L : Lay α} {w : World} {s : SlR α} (h : HasS L w s) {b : Nat} (hb : w.heap.size ≤ b) : AvS s b := fun hn a e => by
  have := h.row.lt hn e
  omega
theorem hasS_nil (L : Lay α) (w : World) : HasS L w ⟨[], none, 0⟩ := ⟨row_nil L w none, by simp, fun _ => rfl⟩
theorem avS_nil (b : Nat) (ad : Option Addr) (c : Nat) : AvS (⟨[], ad, c⟩ : SlR α) b := fun h => absurd rfl h
/-- A row of the call's own, as a slice. -/
theorem hasS_row {L : Lay α} {w : World} {base n : Nat} {e : TypeId} {v : Value} {l : List α} (h : w.ownsRow base e L.k v n (L.flat l)) : n = l.length ∧ ∃ ad cap, v = .slice ad n cap ∧ HasS L w ⟨l, ad, cap⟩ ∧ ∀ a, ad = some a → base ≤ a.block := by
  have hn : n = l.length := by
    have h1 := h.1
    rw [L.flat_length] at h1
    exact (Nat.eq_of_mul_eq_mul_right L.pos h1).symm
  subst hn
  refine ⟨rfl, ?_⟩
  rcases h.2 with ⟨rfl, h0⟩ | ⟨g, cap, cur, rfl, hb, hg, hc, _, hs, ht⟩
  · obtain rfl : l = [] := List.eq_nil_of_length_eq_zero h0
    exact ⟨none, 0, rfl, hasS_nil L w, fun a e => by simp at e⟩
  · refine ⟨_, _, rfl, ⟨fun j hj => ⟨g, 0, rfl, fun t u hu => ?_⟩, hc, fun e => by simp at e⟩, fun a e => by obtain rfl := Option.some.inj e; exact hb⟩
    have := h.cells (g := g) rfl _ u (L.flat_at l j hj t u hu)
    rw [Addr.add_lit, ← Nat.add_assoc] at this
    exact this

/-- The types of a row: of the slice and of its element. -/
structure RowTy (L : Lay α) (ts te : TypeId) : Prop where
  un : Tryz.prog.underlying ts = some (.slice te)
  info : ∃ i z b, Tryz.prog.info? te = some i ∧ i.zero = some z ∧ i.size = L.k ∧ i.bytes = b ∧ z.cells.size = L.k ∧ b ≤ 1000
theorem rowTy {L : Lay α} {ts te : TypeId} (un : Tryz.prog.underlying ts = some (.slice te)) (z : Value) (b : Nat) (hi : (Tryz.prog.info? te).map (fun i => (i.zero, i.size, i.bytes)) = some (some z, L.k, b)) (hz : z.cells.size = L.k) (hb : b ≤ 1000) : RowTy L ts te := by
  obtain ⟨i, h1, h2, h3, h4⟩ := info_parts hi
  exact ⟨un, i, z, b, h1, h2, h3, h4, hz, hb⟩
/-- append of a slice to a row of the call's own. -/
theorem app_row {L : Lay α} {ts te : TypeId} (T : RowTy L ts te) {w : World} {ops : Array Oper} {rest : List Oper} {o : Oper} {a : Act} {Q : Exit → Act → World → Prop} (hgd : o.guard = none) (s x : Operand)
    (ho : o.op = .call { callee := .builtin .append, args := #[s, x], argTypes := #[ts, ts] })
    (base : Nat) (v : Value) (n : Nat) (xs : List α) (hs : a.eval s = v) (hown : w.ownsRow base te L.k v n (L.flat xs))
    (ad : Option Addr) (m c : Nat) (ys : List α) (hx : a.eval x = .slice ad m c) (hm : m = ys.length) (hy : Row L w ad ys) (hnil : ad = none → c = 0) (hn : n + m ≤ 1000000) (hbase : base ≤ w.heap.size)
    (h : ∀ v' w', w'.ownsRow base te L.k v' (n + m) (L.flat (xs ++ ys)) → w.grownBy w' v.ownBlock → wpList Tryz.prog ops Q rest (a.put o.dst v') w') :
    wpList Tryz.prog ops Q (o :: rest) a w := by
  obtain ⟨i0, z, b, hi0, hz0, hz1, hz2, hz3, hb⟩ := T.info
  cases ad with
  | none =>
    have e := row_none hy
    subst e
    obtain rfl := hnil rfl
    obtain rfl : m = 0 := by simpa using hm
    exact wpList_append_own_none hgd s x ts ho base te i0 L.k T.un hi0 v n _ hs hown hx (h v w (by simpa using hown) (grownBy_refl _ _))
  | some ad =>
    have hbb : (n + m) * b ≤ 1000000 * 1000 := Nat.mul_le_mul hn hb
    refine wpList_append_own _ hgd s x ts ho base te i0 z L.k b T.un hi0 hz0 hz1 hz2 hz3 L.pos v n _ hs hown ad m c (L.flat ys) hx (by rw [L.flat_length, hm]) hy.cells (L.flat_one ys) (by simp [maxLen]; omega) (by omega) hbase ?_
    intro v' w' h1 h2 _
    exact h v' w' (by rw [L.flat_append]; exact h1) h2

/-- The block g holds l in its first cells. -/
structure Held (L : Lay α) (te : TypeId) (w : World) (g cap : Nat) (l : List α) : Prop where
  ex : ∃ cur, w.heap[g]? = some (.cells cur te (0, 0)) ∧ cur.size = cap * L.k ∧ cur.toList.take (l.length * L.k) = L.flat l
  le : l.length ≤ cap
theorem held_row {L : Lay α} {te : TypeId} {w : World} {base n : Nat} {v : Value} {l : List α} (h : w.ownsRow base te L.k v n (L.flat l)) (h0 : 0 < n) : n = l.length ∧ ∃ g cap, v = .slice (some ⟨g, 0, none⟩) n cap ∧ base ≤ g ∧ Held L te w g cap l := by
  have hn := (hasS_row h).1
  refine ⟨hn, ?_⟩
  rcases h.2 with ⟨_, h1⟩ | ⟨g, cap, cur, rfl, hb, hg, hc, _, hs, ht⟩
  · omega
  · exact ⟨g, cap, rfl, hb, ⟨cur, hg, hs, by rw [← hn]; exact ht⟩, by omega⟩
theorem Held.lt {L : Lay α} {te : TypeId} {w : World} {g cap : Nat} {l : List α} (h : Held L te w g cap l) : g < w.heap.size := by
  obtain ⟨cur, h, _⟩ := h.ex
  exact lt_block h
theorem Held.cell {L : Lay α} {te : TypeId} {w : World} {g cap : Nat} {l : List α} (h : Held L te w g cap l) (j : Nat) (hj : j < l.length) (t : Nat) (u : Value) (hu : (L.enc l[j])[t]? = some u) : w.cell? ⟨g, j * L.k + t, none⟩ = some u ∧ w.frozen? ⟨g, j * L.k + t, none⟩ = false := by
  obtain ⟨cur, hg, hs, ht⟩ := h.ex
  refine ⟨?_, free_block hg _⟩
  rw [cell_block hg]
  have hf := L.flat_at l j hj t u hu
  rw [← ht, List.getElem?_take] at hf
  split at hf
  · rw [← Array.getElem?_toList]; exact hf
  · simp at hf
theorem Held.keep {L : Lay α} {te : TypeId} {S : List Nat} {w w' : World} {g cap : Nat} {l : List α} (h : Held L te w g cap l) (hu : Upd S w w') (hg : g ∉ S) : Held L te w' g cap l := by
  obtain ⟨cur, h1, h2, h3⟩ := h.ex
  exact ⟨⟨cur, hu.at h1 hg, h2, h3⟩, h.le⟩
theorem Held.has {L : Lay α} {te : TypeId} {w : World} {g cap : Nat} {l : List α} (h : Held L te w g cap l) : HasS L w ⟨l, some ⟨g, 0, none⟩, cap⟩ :=
  ⟨fun j hj => ⟨g, 0, rfl, fun t u hu => by rw [Nat.zero_add]; exact (h.cell j hj t u hu).1⟩, h.le, fun e => by simp at e⟩
/-- Cells stored one behind the other. -/
def stores (w : World) (g : Nat) : Nat → List Value → World
  | _, [] => w
  | o, v :: vs => stores (w.setCell ⟨g, o, none⟩ v) g (o + 1) vs
theorem stores_upd : ∀ (vs : List Value) (w : World) (g o : Nat), Upd [g] w (stores w g o vs)
  | [], w, g, o => Upd.refl _ _
  | v :: vs, w, g, o => (upd_set1 w g o v).trans (stores_upd vs _ g (o + 1)) (by simp)
theorem stores_block : ∀ (vs : List Value) {w : World} {g o : Nat} {c : Array Value} {t : TypeId} {f : Nat × Nat}, w.heap[g]? = some (.cells c t f) → o + vs.length ≤ c.size →
    ∃ c', (stores w g o vs).heap[g]? = some (.cells c' t f) ∧ c'.toList = c.toList.take o ++ vs ++ c.toList.drop (o + vs.length)
  | [], w, g, o, c, t, f, h, _ => ⟨c, h, by simp⟩
  | v :: vs, w, g, o, c, t, f, h, hl => by
    simp only [List.length_cons] at hl
    obtain ⟨c', h1, h2⟩ := stores_block vs (setCell_block (o := o) h v) (o := o + 1) (by simp; omega)
    refine ⟨c', h1, ?_⟩
    rw [h2]
    have ho : o < c.toList.length := by simp; omega
    have e : (c.setIfInBounds o v).toList = c.toList.set o v := by simp
    rw [e, List.length_cons, show o + (vs.length + 1) = o + 1 + vs.length by omega]
    have e2 : (c.toList.set o v).take (o + 1) = c.toList.take o ++ [v] := by
      have hmin : (c.toList.take o).length = o := by simp; simp at ho; omega
      rw [List.take_set, List.take_succ_eq_append_getElem ho, List.set_append, if_neg (by omega), hmin, Nat.sub_self]
      simp
    rw [e2, List.drop_set_of_lt (by omega)]
    simp
theorem Held.set {L : Lay α} {te : TypeId} {w : World} {g cap : Nat} {l : List α} (h : Held L te w g cap l) (i : Nat) (hi : i < l.length) (x : α) : Held L te (stores w g (i * L.k) (L.enc x)) g cap (l.set i x) := by
  obtain ⟨cur, h1, h2, h3⟩ := h.ex
  have hle := h.le
  have hik : i * L.k + L.k ≤ l.length * L.k := by
    have := Nat.mul_le_mul_right L.k (show i + 1 ≤ l.length by omega)
    rwa [Nat.add_mul, Nat.one_mul] at this
  have hlc : l.length * L.k ≤ cur.size := by rw [h2]; exact Nat.mul_le_mul_right _ hle
  obtain ⟨c', q1, q2⟩ := stores_block (L.enc x) (o := i * L.k) h1 (by rw [L.len]; omega)
  refine ⟨⟨c', q1, ?_, ?_⟩, by simpa using hle⟩
  · have := congrArg List.length q2
    simp only [Array.length_toList, List.length_append, List.length_take, List.length_drop, L.len] at this
    omega
  · rw [q2, L.len, L.flat_set l i hi, List.length_set, ← h3]
    have hlen : (cur.toList.take (i * L.k) ++ L.enc x).length = i * L.k + L.k := by simp [L.len]; omega
    rw [List.take_append, hlen, List.take_of_length_le (by rw [hlen]; omega), List.take_take, List.drop_take, Nat.min_eq_left (by omega)]
end Go.Proofs.YtmfnfinbkdemkaaGreat
namespace Go.Proofs.YtmfnfinbkdemkaaGreat
open Go.RowKit Go.Lib

def LI : Lay It := ⟨3, fun x => [.int .i64 x.t, .int .i64 x.q, .int .i64 x.s], fun _ => rfl, fun x v hv => by
  simp only [List.mem_cons, List.not_mem_nil, or_false] at hv
  rcases hv with rfl | rfl | rfl <;> rfl, by decide⟩
def LB : Lay (SlR It) := ⟨1, fun s => [.slice s.ad s.l.length s.cap], fun _ => rfl, fun x v hv => by
  simp only [List.mem_cons, List.not_mem_nil, or_false] at hv
  rcases hv with rfl; rfl, by decide⟩
def aggI (x : It) : Value := .agg #[.int .i64 x.t, .int .i64 x.q, .int .i64 x.s]
theorem infoItem : (Tryz.prog.info? 36).map (fun i => (i.zero, i.size, i.bytes)) = some (some (.agg #[.int .i64 0, .int .i64 0, .int .i64 0]), 3, 24) := by kernel_rfl
theorem infoItems : (Tryz.prog.info? 47).map (fun i => (i.zero, i.size, i.bytes)) = some (some (.slice none 0 0), 1, 24) := by kernel_rfl
theorem tyI : RowTy LI 47 36 := rowTy Tryz.underlying47 _ 24 infoItem rfl (by decide)
theorem tyB : RowTy LB 91 47 := rowTy Tryz.underlying91 _ 24 infoItems rfl (by decide)
theorem Row.item {w : World} {ad : Option Addr} {l : List It} (h : Row LI w ad l) (j : Nat) (hj : j < l.length) : ∃ b off, ad = some ⟨b, off, none⟩ ∧ w.cell? ⟨b, off + j * 3, none⟩ = some (.int .i64 l[j].t) ∧ w.cell? ⟨b, off + j * 3 + 1, none⟩ = some (.int .i64 l[j].q) ∧ w.cell? ⟨b, off + j * 3 + 2, none⟩ = some (.int .i64 l[j].s) := by
  obtain ⟨b, off, e, c⟩ := h j hj
  exact ⟨b, off, e, c 0 _ rfl, c 1 _ rfl, c 2 _ rfl⟩
theorem Row.bucket {w : World} {ad : Option Addr} {l : List (SlR It)} (h : Row LB w ad l) (j : Nat) (hj : j < l.length) : ∃ b off, ad = some ⟨b, off, none⟩ ∧ w.cell? ⟨b, off + j, none⟩ = some (.slice l[j].ad l[j].l.length l[j].cap) := by
  obtain ⟨b, off, e, c⟩ := h j hj
  have c0 := c 0 _ rfl
  rw [show off + j * LB.k + 0 = off + j from by show off + j * 1 + 0 = _; omega] at c0
  exact ⟨b, off, e, c0⟩

/-- A rung as it lies. -/
structure RgR where
  fr : Int
  wd : Int
  cu : Int
  bk : SlR (SlR It)
def rowsOf (l : List (SlR It)) : List (List It) := l.map SlR.l
def RgR.rg (r : RgR) : Rg := ⟨r.fr, r.wd, r.cu, rowsOf r.bk.l⟩
theorem rowsOf_length (l : List (SlR It)) : (rowsOf l).length = l.length := by simp [rowsOf]
theorem rowsOf_get {l : List (SlR It)} {j : Nat} (h : j < l.length) : (rowsOf l)[j]'(by rw [rowsOf_length]; exact h) = l[j].l := by simp [rowsOf]
theorem rowsOf_at {l : List (SlR It)} {j : Nat} (h : j < l.length) : bAt (rowsOf l) j = l[j].l := by rw [bAt_get (by rw [rowsOf_length]; exact h), rowsOf_get h]
theorem rowsOf_set (l : List (SlR It)) (i : Nat) (s : SlR It) : rowsOf (l.set i s) = (rowsOf l).set i s.l := by simp [rowsOf]
def encR (r : RgR) : Value := .agg #[.int .i64 r.fr, .int .i64 r.wd, .int .i64 r.cu, .slice r.bk.ad r.bk.l.length r.bk.cap]
def cellsR (r : RgR) : Array Value := #[.int .i64 r.fr, .int .i64 r.wd, .int .i64 r.cu, .slice r.bk.ad r.bk.l.length r.bk.cap]
structure HasR (w : World) (r : RgR) : Prop where
  bk : HasS LB w r.bk
  its : ∀ s ∈ r.bk.l, HasS LI w s
theorem HasR.at {w : World} {r : RgR} (h : HasR w r) {j : Nat} (hj : j < r.bk.l.length) : HasS LI w r.bk.l[j] := h.its _ (List.getElem_mem hj)
theorem HasR.stay {w w' : World} {r : RgR} (h : HasR w r) (hu : Upd [] w w') : HasR w' r := ⟨h.bk.stay hu, fun s hs => (h.its s hs).stay hu⟩
/-- The rung lies outside of block b. -/
structure AvR (r : RgR) (b : Nat) : Prop where
  bk : AvS r.bk b
  its : ∀ s ∈ r.bk.l, AvS s b
theorem HasR.keep1 {w w' : World} {r : RgR} {b : Nat} (h : HasR w r) (hu : Upd [b] w w') (ha : AvR r b) : HasR w' r := ⟨h.bk.keep1 hu ha.bk, fun s hs => (h.its s hs).keep1 hu (ha.its s hs)⟩
theorem HasR.avoids {w : World} {r : RgR} (h : HasR w r) {b : Nat} (hb : w.heap.size ≤ b) : AvR r b := ⟨h.bk.avoids hb, fun s hs => (h.its s hs).avoids hb⟩
/-- From the rung r in w a call came to the rung r' in w', which holds g. -/
structure Nxt (w : World) (r : RgR) (g : Rg) (w' : World) (r' : RgR) : Prop where
  eq : r'.rg = g
  has : HasR w' r'
  av : ∀ b, b < w.heap.size → AvR r b → AvR r' b
  upd : Upd [] w w'
theorem Nxt.same {w w' : World} {r : RgR} (h : HasR w r) (hu : Upd [] w w') : Nxt w r r.rg w' r := ⟨rfl, h.stay hu, fun _ _ h => h, hu⟩
theorem Nxt.of_upd {w w0 : World} {r : RgR} {g : Rg} {w' : World} {r' : RgR} (h : Nxt w0 r g w' r') (hu : Upd [] w w0) : Nxt w r g w' r' :=
  ⟨h.eq, h.has, fun b hb ha => h.av b (by have := hu.size; omega) ha, hu.thn h.upd⟩
theorem Nxt.up {w : World} {r : RgR} {g : Rg} {w' w2 : World} {r' : RgR} (h : Nxt w r g w' r') (hu : Upd [] w' w2) : Nxt w r g w2 r' :=
  ⟨h.eq, h.has.stay hu, h.av, h.upd.thn hu⟩
/-- A rung made anew: nothing of it is older than w. -/
structure Born (w : World) (g : Rg) (w' : World) (r' : RgR) : Prop where
  eq : r'.rg = g
  has : HasR w' r'
  av : ∀ b, b < w.heap.size → AvR r' b
  upd : Upd [] w w'
/-- What a call gives of items. -/
structure Gave (w : World) (r : RgR) (l : List It) (w' : World) (s : SlR It) : Prop where
  eq : s.l = l
  has : HasS LI w' s
  av : ∀ b, b < w.heap.size → AvR r b → AvS s b
theorem zeroR_has (w : World) : HasR w ⟨0, 0, 0, ⟨[], none, 0⟩⟩ := ⟨hasS_nil LB w, fun s hs => by simp at hs⟩
end Go.Proofs.YtmfnfinbkdemkaaGreat
namespace Go.Proofs.YtmfnfinbkdemkaaGreat
open Go.RowKit Go.Lib
theorem madeOne (v : Value) (n : Nat) : madeCells #[v] (n * 1) = (List.replicate n v).toArray := by
  apply Array.ext
  · simp [madeCells]
  · intro i h1 h2
    simp [madeCells, Nat.mod_one]
def nilB : SlR It := ⟨[], none, 0⟩
theorem held_made {w : World} {g : Nat} (h : w.heap[g]? = some (.cells (List.replicate 8 (Value.slice none 0 0)).toArray 47 (0, 0))) : Held LB 47 w g 8 (List.replicate 8 nilB) :=
  ⟨⟨_, h, rfl, rfl⟩, by simp⟩
theorem guardItem : Tryz.prog.eqGuardType Tryz.prog.depth 36 = false := by kernel_rfl
theorem eqlItem (x y : It) (w : World) : (binOp .eql 36 (.agg #[.int .i64 x.t, .int .i64 x.q, .int .i64 x.s]) (.agg #[.int .i64 y.t, .int .i64 y.q, .int .i64 y.s])).run Tryz.prog w = .ok (.bool (decide (x = y))) w := by
  have u3 := Tryz.underlying3
  have a3 := Tryz.isAgg3
  have z3 := Tryz.sizeOf3
  have hS : Tryz.prog.underlying 36 = some (.struct (Tryz.prog.fieldsOf 36)) := by kernel_rfl
  have hp : Tryz.prog.stoodInHeld 36 = false := by kernel_rfl
  obtain ⟨t, q, s⟩ := x
  obtain ⟨t', q', s'⟩ := y
  rw [run_eql_struct, show (10000 : Nat) = 9999 + 1 from rfl, run_equalIn_agg w 9999 36 _ _ hS hp]
  simp only [Program.fieldsOf, Tryz.underlying36]
  go_simp
  by_cases h2 : s = s' <;> by_cases h3 : t = t' <;> by_cases h4 : q = q' <;> simp [h2, h3, h4]
theorem neqItem (x y : It) (w : World) : (binOp .neq 36 (.agg #[.int .i64 x.t, .int .i64 x.q, .int .i64 x.s]) (.agg #[.int .i64 y.t, .int .i64 y.q, .int .i64 y.s])).run Tryz.prog w = .ok (.bool (!decide (x = y))) w := by
  have h := eqlItem x y w
  rw [run_eql_struct] at h
  rw [run_neq_struct]
  generalize (Op.equalIn 10000 36 (.agg #[.int .i64 x.t, .int .i64 x.q, .int .i64 x.s]) (.agg #[.int .i64 y.t, .int .i64 y.q, .int .i64 y.s])).run Tryz.prog w = r at h ⊢
  cases r with
  | ok b w' => simp only [Result.andThen_ok, Result.ok.injEq, Value.bool.injEq] at h ⊢; obtain ⟨rfl, rfl⟩ := h; simp
  | halt e w' => simp [Result.andThen] at h

def withR (r : RgR) (i : Nat) (s : SlR It) (g cap : Nat) : RgR := ⟨r.fr, r.wd, r.cu, ⟨r.bk.l.set i s, some ⟨g, 0, none⟩, cap⟩⟩
theorem with_nxt {w w' : World} {r : RgR} {i : Nat} {s : SlR It} {g cap : Nat} (h : HasR w' (withR r i s g cap)) (hg : w.heap.size ≤ g) (hu : Upd [] w w') (hs : ∀ b, b < w.heap.size → AvR r b → AvS s b) : Nxt w r ⟨r.fr, r.wd, r.cu, r.rg.bs.set i s.l⟩ w' (withR r i s g cap) :=
  ⟨by simp [RgR.rg, withR, rowsOf_set], h, fun b hb ha => ⟨fun _ a e => by obtain rfl := Option.some.inj e; simp only; omega, fun x hx => by
    rcases List.mem_or_eq_of_mem_set hx with h | h
    · exact ha.its x h
    · rw [h]; exact hs b hb ha⟩, hu⟩
def GivesRB (r : RgR) (p : Rg × Bool) (w : World) (e : Ending) (w' : World) : Prop := ∃ r', e = .returned (.tuple #[encR r', .bool p.2]) ∧ Nxt w r p.1 w' r'
theorem row_one {w : World} {b : Nat} {it : It} {e : TypeId} {f : Nat × Nat} (h : w.heap[b]? = some (.cells #[.int .i64 it.t, .int .i64 it.q, .int .i64 it.s] e f)) : Row LI w (some ⟨b, 0, none⟩) [it] := by
  intro j hj
  obtain rfl : j = 0 := by simp at hj; omega
  refine ⟨b, 0, rfl, fun t u hu => ?_⟩
  rw [cell_block h]
  simp only [List.getElem_cons_zero] at hu
  have ht := LI.lt hu
  rw [show 0 + 0 * LI.k + t = t by omega]
  simpa [LI] using hu
theorem ar_one (it : It) : (LI.enc it) = [.int .i64 it.t, .int .i64 it.q, .int .i64 it.s] := rfl
def GivesRN (r : RgR) (p : Rg × List It × Int × Bool) (w : World) (e : Ending) (w' : World) : Prop := ∃ (r' : RgR) (s : SlR It), e = .returned (.tuple #[encR r', .slice s.ad s.l.length s.cap, .int .i64 p.2.2.1, .bool p.2.2.2]) ∧ Nxt w r p.1 w' r' ∧ Gave w r p.2.1 w' s
theorem withR_len (r : RgR) (i : Nat) (s : SlR It) (g cap : Nat) : (withR r i s g cap).bk.l.length = r.bk.l.length := by simp [withR]
def nilS : SlR It := ⟨[], none, 0⟩
/-- What Valid asks of a bucket. -/
def BOk (r : Rg) (i : Nat) : Prop := ((i : Int) < r.cu → bAt r.bs i = []) ∧ ∀ it ∈ bAt r.bs i, InB r i it
structure Shp (r : Rg) : Prop where
  fr0 : 0 ≤ r.fr
  fr1 : r.fr ≤ 1152921504606846976
  wd0 : 1 ≤ r.wd
  wd1 : r.wd ≤ 144115188075855873
  cu0 : 0 ≤ r.cu
  cu1 : r.cu ≤ 8
  len : r.bs.length = 8
theorem good_iff (r : Rg) : GoodR r ↔ Shp r ∧ ∀ i, i < 8 → BOk r i := by
  constructor
  · intro h
    exact ⟨⟨h.fr0, h.fr1, h.wd0, h.wd1, h.cu0, h.cu1, h.len⟩, fun i hi => ⟨h.low i hi, h.inb i hi⟩⟩
  · rintro ⟨h, k⟩
    exact ⟨h.fr0, h.fr1, h.wd0, h.wd1, h.cu0, h.cu1, h.len, fun i hi => (k i hi).1, fun i hi => (k i hi).2⟩
theorem ret_valid {r : Rg} {b : Bool} (h : b = validR r) : Ending.returned (.bool b) = .returned (.bool (validR r)) := by rw [h]
theorem bad_shp {r : Rg} (h : ¬ Shp r) : false = validR r := (validR_no.2 (fun k => h ((good_iff r).1 k).1)).symm
theorem bad_bok {r : Rg} {i : Nat} (hi : i < 8) (h : ¬ BOk r i) : false = validR r := (validR_no.2 (fun k => h (((good_iff r).1 k).2 i hi))).symm
theorem good_all {r : Rg} (h : Shp r) (k : ∀ i, i < 8 → BOk r i) : true = validR r := (validR_yes.2 ((good_iff r).2 ⟨h, k⟩)).symm
theorem bok_of {r : Rg} {i : Nat} {l : List It} (h : bAt r.bs i = l) (h1 : (i : Int) < r.cu → l = []) (h2 : ∀ k (hk : k < l.length), InB r i l[k]) : BOk r i := by
  subst h
  exact ⟨h1, fun it hit => by obtain ⟨k, hk, rfl⟩ := List.mem_iff_getElem.1 hit; exact h2 k hk⟩
theorem not_bok1 {r : Rg} {i : Nat} {l : List It} (h : bAt r.bs i = l) (h1 : (i : Int) < r.cu) (h2 : l ≠ []) : ¬ BOk r i := fun k => h2 (h ▸ k.1 h1)
theorem not_bok2 {r : Rg} {i : Nat} {l : List It} (h : bAt r.bs i = l) {k : Nat} (hk : k < l.length) (h2 : ¬ InB r i l[k]) : ¬ BOk r i := fun q => h2 (q.2 _ (by subst h; exact List.getElem_mem hk))

def U64 (x : Int) : Prop := 0 ≤ x ∧ x < 18446744073709551616
/-- The box Q holds the rung r', which a call made out of r. -/
structure Boxed (w : World) (r : RgR) (g : Rg) (Q : Nat) (wx : World) (r' : RgR) : Prop where
  blk : wx.heap[Q]? = some (.cells (cellsR r') 93 (0, 0))
  ge : w.heap.size ≤ Q
  nxt : Nxt w r g wx r'
  av : AvR r' Q
theorem boxed_last {w w1 w4 : World} {r r' : RgR} {g : Rg} (h : Nxt w1 r g w4 r') (hu : Upd [] w w1) : Boxed w r g w4.heap.size (w4.alloc (.cells (cellsR r') 93)) r' :=
  ⟨heap_alloc1 _ _, Nat.le_trans hu.size h.upd.size, (h.of_upd hu).up ((Upd.refl _ _).alloc _), h.has.avoids (Nat.le_refl _)⟩
theorem boxed_at {w w1 w4 : World} {r r' : RgR} {g : Rg} {Q : Nat} {x y z p : Value} (hr : HasR w r) (hQ : w1.heap[Q]? = some (.cells #[x, y, z, p] 93 (0, 0))) (h : Nxt w1 r g w4 r') (hu : Upd [] w w1) (hge : w.heap.size ≤ Q) :
    Boxed w r g Q ((((w4.setCell ⟨Q, 0, none⟩ (.int .i64 r'.fr)).setCell ⟨Q, 1, none⟩ (.int .i64 r'.wd)).setCell ⟨Q, 2, none⟩ (.int .i64 r'.cu)).setCell ⟨Q, 3, none⟩ (.slice r'.bk.ad r'.bk.l.length r'.bk.cap)) r' := by
  have h1 := h.upd.at hQ (by simp)
  have h2 := upd_set4 w4 Q (.int .i64 r'.fr) (.int .i64 r'.wd) (.int .i64 r'.cu) (.slice r'.bk.ad r'.bk.l.length r'.bk.cap)
  have h3 := h.av Q (lt_block hQ) (hr.avoids hge)
  exact ⟨stored4 h1 _ _ _ _, hge, ⟨h.eq, h.has.keep1 h2 h3, fun b hb ha => h.av b (by have := hu.size; omega) ha, (hu.thn h.upd).new h2 hge⟩, h3⟩
/-- What Small answers. -/
def SmallPost (bl : List (SlR It)) (w : World) (e : Ending) (w' : World) : Prop := ∃ b, e = .returned (.bool b) ∧ (b = true → bl.length ≤ 20 ∧ ∀ s ∈ bl, s.l.length ≤ 200) ∧ Upd [] w w'
end Go.Proofs.YtmfnfinbkdemkaaGreat
namespace Go.Proofs.YtmfnfinbkdemkaaGreat
open Go.RowKit Go.Lib
def LR : Lay RgR := ⟨4, fun r => [.int .i64 r.fr, .int .i64 r.wd, .int .i64 r.cu, .slice r.bk.ad r.bk.l.length r.bk.cap], fun _ => rfl, fun x v hv => by
  simp only [List.mem_cons, List.not_mem_nil, or_false] at hv
  rcases hv with rfl | rfl | rfl | rfl <;> rfl, by decide⟩
theorem infoRung : (Tryz.prog.info? 93).map (fun i => (i.zero, i.size, i.bytes)) = some (some (.agg #[.int .i64 0, .int .i64 0, .int .i64 0, .slice none 0 0]), 4, 48) := by kernel_rfl
theorem tyR : RowTy LR 66 93 := rowTy Tryz.underlying66 _ 48 infoRung rfl (by decide)
theorem Row.rung {w : World} {ad : Option Addr} {l : List RgR} (h : Row LR w ad l) (j : Nat) (hj : j < l.length) : ∃ b off, ad = some ⟨b, off, none⟩ ∧ w.cell? ⟨b, off + j * 4, none⟩ = some (.int .i64 l[j].fr) ∧ w.cell? ⟨b, off + j * 4 + 1, none⟩ = some (.int .i64 l[j].wd) ∧ w.cell? ⟨b, off + j * 4 + 2, none⟩ = some (.int .i64 l[j].cu) ∧ w.cell? ⟨b, off + j * 4 + 3, none⟩ = some (.slice l[j].bk.ad l[j].bk.l.length l[j].bk.cap) := by
  obtain ⟨b, off, e, c⟩ := h j hj
  exact ⟨b, off, e, c 0 _ rfl, c 1 _ rfl, c 2 _ rfl, c 3 _ rfl⟩
/-- A ladder queue as it lies. -/
structure LdR where
  ts : Int
  top : SlR It
  rs : SlR RgR
  bot : SlR It
  mv : Int
  cp : Int
def LdR.ld (l : LdR) : Ld := ⟨l.ts, l.top.l, l.rs.l.map RgR.rg, l.bot.l, l.mv, l.cp⟩
def cellsD (l : LdR) : Array Value := #[.int .i64 l.ts, .slice l.top.ad l.top.l.length l.top.cap, .slice l.rs.ad l.rs.l.length l.rs.cap, .slice l.bot.ad l.bot.l.length l.bot.cap, .int .i64 l.mv, .int .i64 l.cp]
def encD (l : LdR) : Value := .agg (cellsD l)
structure HasD (w : World) (l : LdR) : Prop where
  top : HasS LI w l.top
  rs : HasS LR w l.rs
  rg : ∀ r ∈ l.rs.l, HasR w r
  bot : HasS LI w l.bot
theorem HasD.stay {w w' : World} {l : LdR} (h : HasD w l) (hu : Upd [] w w') : HasD w' l := ⟨h.top.stay hu, h.rs.stay hu, fun r hr => (h.rg r hr).stay hu, h.bot.stay hu⟩
structure AvD (l : LdR) (b : Nat) : Prop where
  top : AvS l.top b
  rs : AvS l.rs b
  rg : ∀ r ∈ l.rs.l, AvR r b
  bot : AvS l.bot b
theorem HasD.keep1 {w w' : World} {l : LdR} {b : Nat} (h : HasD w l) (hu : Upd [b] w w') (ha : AvD l b) : HasD w' l := ⟨h.top.keep1 hu ha.top, h.rs.keep1 hu ha.rs, fun r hr => (h.rg r hr).keep1 hu (ha.rg r hr), h.bot.keep1 hu ha.bot⟩
theorem HasD.avoids {w : World} {l : LdR} (h : HasD w l) {b : Nat} (hb : w.heap.size ≤ b) : AvD l b := ⟨h.top.avoids hb, h.rs.avoids hb, fun r hr => (h.rg r hr).avoids hb, h.bot.avoids hb⟩
/-- From the queue l in w a call came to the queue l' in w', which holds g. -/
structure NxtD (w : World) (l : LdR) (g : Ld) (w' : World) (l' : LdR) : Prop where
  eq : l'.ld = g
  has : HasD w' l'
  av : ∀ b, b < w.heap.size → AvD l b → AvD l' b
  upd : Upd [] w w'
theorem cells6 {w : World} {b : Nat} {x y z p q r : Value} {t : TypeId} {f : Nat × Nat} (h : w.heap[b]? = some (.cells #[x, y, z, p, q, r] t f)) : w.cell? ⟨b, 0, none⟩ = some x ∧ w.cell? ⟨b, 1, none⟩ = some y ∧ w.cell? ⟨b, 2, none⟩ = some z ∧ w.cell? ⟨b, 3, none⟩ = some p ∧ w.cell? ⟨b, 4, none⟩ = some q ∧ w.cell? ⟨b, 5, none⟩ = some r := ⟨cell_block h 0, cell_block h 1, cell_block h 2, cell_block h 3, cell_block h 4, cell_block h 5⟩
theorem free6 {w : World} {b : Nat} {c : Array Value} {t : TypeId} (h : w.heap[b]? = some (.cells c t (0, 0))) : w.frozen? ⟨b, 0, none⟩ = false ∧ w.frozen? ⟨b, 1, none⟩ = false ∧ w.frozen? ⟨b, 2, none⟩ = false ∧ w.frozen? ⟨b, 3, none⟩ = false ∧ w.frozen? ⟨b, 4, none⟩ = false ∧ w.frozen? ⟨b, 5, none⟩ = false := ⟨free_block h 0, free_block h 1, free_block h 2, free_block h 3, free_block h 4, free_block h 5⟩
theorem stored6 {w : World} {b : Nat} {x y z p q r : Value} {t : TypeId} {f : Nat × Nat} (h : w.heap[b]? = some (.cells #[x, y, z, p, q, r] t f)) (u v s a c d : Value) :
    ((((((w.setCell ⟨b, 0, none⟩ u).setCell ⟨b, 1, none⟩ v).setCell ⟨b, 2, none⟩ s).setCell ⟨b, 3, none⟩ a).setCell ⟨b, 4, none⟩ c).setCell ⟨b, 5, none⟩ d).heap[b]? = some (.cells #[u, v, s, a, c, d] t f) := setCell_block (setCell_block (setCell_block (setCell_block (setCell_block (setCell_block h _) _) _) _) _) _
theorem upd_set6 (w : World) (b : Nat) (u v s a c d : Value) : Upd [b] w ((((((w.setCell ⟨b, 0, none⟩ u).setCell ⟨b, 1, none⟩ v).setCell ⟨b, 2, none⟩ s).setCell ⟨b, 3, none⟩ a).setCell ⟨b, 4, none⟩ c).setCell ⟨b, 5, none⟩ d) :=
  ((upd_set4 w b u v s a).setCell (p := ⟨b, 4, none⟩) (fun _ => by simp) _).setCell (p := ⟨b, 5, none⟩) (fun _ => by simp) _

/-- How many items the first k rungs hold. -/
def lenRs (rs : List Rg) (k : Nat) : Nat := ((rs.take k).map (fun r => lenL r.bs)).sum
theorem lenRs_succ {rs : List Rg} {k : Nat} (h : k < rs.length) : lenRs rs (k + 1) = lenRs rs k + lenL rs[k].bs := by
  unfold lenRs
  rw [List.take_succ_eq_append_getElem h, List.map_append, List.sum_append]
  simp only [List.map_cons, List.map_nil, List.sum_cons, List.sum_nil, Nat.add_zero]
theorem lenRs_le (rs : List Rg) (k : Nat) : lenRs rs k ≤ (rs.map (fun r => lenL r.bs)).sum := by
  unfold lenRs
  conv => rhs; rw [← List.take_append_drop k rs]
  rw [List.map_append, List.sum_append]
  omega
end Go.Proofs.YtmfnfinbkdemkaaGreat
