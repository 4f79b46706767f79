/- append to a row of the call's own: the new row's block is the old one or new. -/
import Derived.Test.YtneodiemgemhfaaGC
import Derived.Deep.AppendSrc
namespace Go.Proofs.Ytneodiemgemhfaa
open Go.RowKit Go.Lib
variable {α : Type}
theorem own_box {w w' : World} {b : Nat} {c : Array Value} {t e : TypeId} {f : Nat × Nat} {base size n : Nat} {v : Value} {xs : List Value} (hb : w.heap[b]? = some (.cells c t f)) (h : w.ownsRow base e size v n xs) (ht : t ≠ e) (hu : Upd [b] w w') : w'.ownsRow base e size v n xs :=
  hu.row h (fun x hx hm => ne_own hb h ht (by simp only [List.mem_singleton] at hm; rw [← hm]; exact hx))
theorem app_where {L : Lay α} {ts te : TypeId} (T : RowTy L ts te) {w w' : World} {ty : TypeId} {base : Nat} {v v' : Value} {n : Nat} {xs : List α} (hown : w.ownsRow base te L.k v n (L.flat xs)) {ad : Addr} {m c : Nat} {ys : List α} (hm : m = ys.length) (hm0 : 0 < m) (hy : Row L w (some ad) ys) (hn : n + m ≤ 1000000)
    (hr : (Builtin.append_ #[ts, ts] ty #[v, .slice (some ad) m c]).run Try.prog w = .ok v' w') : v'.ownBlock = v.ownBlock ∨ v'.ownBlock = some w.heap.size := by
  obtain ⟨i0, z, b, hi0, hz0, hz1, hz2, hz3, hb⟩ := T.info
  have hsrc : Src Try.prog i0.size ts (.slice (some ad) m c) m (L.flat ys) w := by
    rw [hz1]; exact Src.ofSlice w T.un ad m c (L.flat ys) (by rw [L.flat_length, hm]) hy.cells (L.flat_one ys)
  have hfit : ∀ cp, cp < n + m → Builtin.nextslicecap (n + m) cp * i0.bytes ≤ 281474976710656 := fun cp hcp => growslice_fits hcp (by
    rw [hz2]
    exact Nat.le_trans (Nat.mul_le_mul hn hb) (by decide))
  rcases hown.2 with ⟨rfl, rfl⟩ | ⟨g, cap, cur, rfl, hbg, hg, hc, hmx, hs, ht⟩
  · have hold : (Builtin.firstCells i0.size 0 (.slice none 0 0)).run Try.prog w.drew = .ok ([] : List Value).toArray w.drew := run_firstCells_none w.drew _ 0 0 0
    have := run_append_grow_src (P := Try.prog) w ts ts ty te i0 z T.un hi0 hz0 none 0 0 [] hold _ m _ hsrc (by omega) (by omega) (hfit 0 (by omega))
    rw [hr] at this
    simp only [Result.ok.injEq] at this
    rw [this.1]
    exact .inr rfl
  · have hrow : ∀ j u, (L.flat xs)[j]? = some u → w.cell? ((⟨g, 0, none⟩ : Addr).add j) = some u := fun j u hj => hown.cells (g := g) rfl j u hj
    by_cases hroom : n + m ≤ cap
    · have hlen : n * L.k + m * L.k ≤ cur.size := by
        rw [hs, ← Nat.add_mul]; exact Nat.mul_le_mul_right _ hroom
      have hfl : (L.flat ys).length = m * L.k := by rw [L.flat_length, hm]
      have := run_append_room_src (P := Try.prog) w ts ts ty te i0 T.un hi0 g 0 n cap _ m _ hsrc hroom (fun j hj => by
        rw [cell_block hg, hz1, Nat.zero_add, Array.getElem?_eq_getElem (by omega)]; rfl) (fun j hj => free_block hg _)
      rw [hr] at this
      simp only [Result.ok.injEq] at this
      rw [this.1]
      exact .inl rfl
    · have hold : (Builtin.firstCells i0.size n (.slice (some ⟨g, 0, none⟩) n cap)).run Try.prog w.drew = .ok (L.flat xs).toArray w.drew := by
        rw [hz1]
        exact run_firstCells_some w.drew _ n ⟨g, 0, none⟩ n cap (L.flat xs) (by rw [hown.1]) (fun j u hj => hrow j u hj)
      have := run_append_grow_src (P := Try.prog) w ts ts ty te i0 z T.un hi0 hz0 (some ⟨g, 0, none⟩) n cap _ hold _ m _ hsrc (by omega) (by omega) (hfit cap (by omega))
      rw [hr] at this
      simp only [Result.ok.injEq] at this
      rw [this.1]
      exact .inr rfl
/-- append of a slice to a row of the call's own: where the row lies then. -/
theorem app_row2 {L : Lay α} {ts te : TypeId} (T : RowTy L ts te) {w : World} {ops : Array Oper} {rest : List Oper} {o : Oper} {a : Act} {Q : Exit → Act → World → Prop} (hgd : o.guard = none) (s x : Operand)
    (ho : o.op = .call { callee := .builtin .append, args := #[s, x], argTypes := #[ts, ts] })
    (base : Nat) (v : Value) (n : Nat) (xs : List α) (hs : a.eval s = v) (hown : w.ownsRow base te L.k v n (L.flat xs))
    (ad : Addr) (m c : Nat) (ys : List α) (hx : a.eval x = .slice (some ad) m c) (hm : m = ys.length) (hm0 : 0 < m) (hy : Row L w (some ad) ys) (hn : n + m ≤ 1000000) (hbase : base ≤ w.heap.size)
    (h : ∀ v' w', w'.ownsRow base te L.k v' (n + m) (L.flat (xs ++ ys)) → w.grownBy w' v.ownBlock → (v'.ownBlock = v.ownBlock ∨ v'.ownBlock = some w.heap.size) → wpList Try.prog ops Q rest (a.put o.dst v') w') :
    wpList Try.prog ops Q (o :: rest) a w := by
  obtain ⟨i0, z, b, hi0, hz0, hz1, hz2, hz3, hb⟩ := T.info
  refine wpList_plain hgd fun _ hK => ?_
  have hbb : (n + m) * b ≤ 1000000 * 1000 := Nat.mul_le_mul hn hb
  obtain ⟨v', w', hr, h2, h3, _⟩ := run_append_own (P := Try.prog) w base ts o.type te i0 z L.k b T.un hi0 hz0 hz1 hz2 hz3 L.pos v n _ hown ad m c (L.flat ys) (by rw [L.flat_length, hm]) hy.cells (L.flat_one ys) (by simp [maxLen]; omega) (by omega) hbase
  have hw := app_where T hown hm hm0 hy hn hr
  rw [← L.flat_append] at h2
  unfold Oper.wp execOp
  simp only [ho, resolve, invoke, builtin, Sem.run_bind, Sem.run_pure, Result.andThen_ok, List.map_toArray, List.map_cons, List.map_nil, hs, hx, hr]
  exact hK _ _ (h v' w' h2 h3 hw)
end Go.Proofs.Ytneodiemgemhfaa
