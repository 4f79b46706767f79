/- Contract: the reference's SortEvents. -/
import Derived.Test.YtdkkgajamogmeaaXJ
import Derived.Laws.AppendOwnNone
namespace Go.Proofs.Ytdkkgajamogmeaa
open Go.Shelf Go.RowKit Go.Sort Go.Lib

/-- append of events to a row of the call's own. -/
theorem app_evs {w : World} {ops : Array Oper} {rest : List Oper} {o : Oper} {a : Act} {Q : Exit → Act → World → Prop} (hgd : o.guard = none) (s x : Operand)
    (ho : o.op = .call { callee := .builtin .append, args := #[s, x], argTypes := #[25, 25] })
    (base : Nat) (v : Value) (n : Nat) (xs : List EvR) (hs : a.eval s = v) (hown : w.ownsRow base 30 6 v n (flatE xs))
    (ad : Addr) (m c : Nat) (ys : List EvR) (hx : a.eval x = .slice (some ad) m c) (hm : ys.length = m) (hc : ∀ t u, (flatE ys)[t]? = some u → w.cell? (ad.add t) = some u) (hn : n + m ≤ 1000000) (hbase : base ≤ w.heap.size)
    (h : ∀ v' w', w'.ownsRow base 30 6 v' (n + m) (flatE (xs ++ ys)) → w.grownBy w' v.ownBlock → wpList Try.prog ops Q rest (a.put o.dst v') w') :
    wpList Try.prog ops Q (o :: rest) a w := by
  obtain ⟨i0, hi0, hz0, hz1, hz2⟩ := info_parts infoEv
  refine wpList_append_own _ hgd s x 25 ho base 30 i0 _ 6 64 Try.underlying25 hi0 hz0 hz1 hz2 rfl (by decide) v n _ hs hown ad m c (flatE ys) hx (by rw [flatE_length, hm]) hc (flatE_one ys) (by simp [maxLen]; omega) (by omega) hbase ?_
  intro v' w' h1 h2 _
  exact h v' w' (by rw [flatE_append]; exact h1) h2
theorem app_none {w : World} {ops : Array Oper} {rest : List Oper} {o : Oper} {a : Act} {Q : Exit → Act → World → Prop} (hgd : o.guard = none) (s x : Operand)
    (ho : o.op = .call { callee := .builtin .append, args := #[s, x], argTypes := #[25, 25] })
    (base : Nat) (v : Value) (n : Nat) (xs : List EvR) (hs : a.eval s = v) (hown : w.ownsRow base 30 6 v n (flatE xs)) (hx : a.eval x = .slice none 0 0)
    (h : wpList Try.prog ops Q rest (a.put o.dst v) w) : wpList Try.prog ops Q (o :: rest) a w := by
  obtain ⟨i0, hi0, hz0, hz1, hz2⟩ := info_parts infoEv
  exact wpList_append_own_none hgd s x 25 ho base 30 i0 6 Try.underlying25 hi0 v n _ hs hown hx h
theorem row_mono {w : World} {base base' : Nat} {e : TypeId} {size : Nat} {v : Value} {n : Nat} {xs : List Value} (h : w.ownsRow base e size v n xs) (hb : base' ≤ base) : w.ownsRow base' e size v n xs := by
  refine ⟨h.1, ?_⟩
  rcases h.2 with hn | ⟨g, cap, cur, rfl, hb', rest⟩
  · exact .inl hn
  · exact .inr ⟨g, cap, cur, rfl, by omega, rest⟩
theorem flatE_take (cs : List EvR) (k : Nat) : ∀ (t : Nat) (u : Value), (flatE (cs.take k))[t]? = some u → (flatE cs)[t]? = some u := by
  intro t u h
  have : flatE cs = flatE (cs.take k) ++ flatE (cs.drop k) := by rw [← flatE_append, List.take_append_drop]
  rw [this, List.getElem?_append_left (List.getElem?_eq_some_iff.1 h).1]; exact h
theorem flatE_drop (cs : List EvR) (k : Nat) (hk : k ≤ cs.length) : ∀ (t : Nat) (u : Value), (flatE (cs.drop k))[t]? = some u → (flatE cs)[k * 6 + t]? = some u := by
  intro t u h
  have : flatE cs = flatE (cs.take k) ++ flatE (cs.drop k) := by rw [← flatE_append, List.take_append_drop]
  have hl : (flatE (cs.take k)).length = k * 6 := by rw [flatE_length, List.length_take, Nat.min_eq_left hk]
  rw [this, List.getElem?_append_right (by omega), hl, Nat.add_sub_cancel_left]; exact h

/-- The first i events, sorted. -/
structure Ins (rs : List EvR) (i : Nat) (cs : List EvR) : Prop where
  len : cs.length = i
  mem : ∀ r ∈ cs, r ∈ rs
  srt : ∃ p : List (Ev × Nat), p.Perm ((evs rs).take i).zipIdx ∧ Srt p ∧ p.map Prod.fst = evs cs
theorem ins_start (rs : List EvR) : Ins rs 0 [] := ⟨rfl, by simp, [], by simp, List.Pairwise.nil, rfl⟩
theorem Ins.step {rs : List EvR} {i : Nat} {cs : List EvR} (h : Ins rs i cs) (hi : i < rs.length) (k : Nat) (hk : k ≤ i) (h1 : k = 0 ∨ ∃ hk' : k - 1 < cs.length, cmpE cs[k - 1].ev rs[i].ev ≤ 0) (h2 : ∀ j (hj : j < cs.length), k ≤ j → 0 < cmpE cs[j].ev rs[i].ev) :
    Ins rs (i + 1) (cs.take k ++ [rs[i]] ++ cs.drop k) := by
  obtain ⟨p, p1, p2, p3⟩ := h.srt
  have hl := h.len
  have hpl : p.length = i := by rw [← hl]; have := congrArg List.length p3; simpa [evs] using this
  have hpe : ∀ j (hj : j < p.length), p[j].1 = (cs[j]'(by omega)).ev := by
    intro j hj
    have e1 : (p.map Prod.fst)[j]? = (evs cs)[j]? := by rw [p3]
    rw [List.getElem?_map, List.getElem?_eq_getElem hj] at e1
    unfold evs at e1
    rw [List.getElem?_map, List.getElem?_eq_getElem (by omega)] at e1
    simpa using e1
  refine ⟨by simp only [List.length_append, List.length_take, List.length_drop, List.length_singleton]; omega, ?_, p.take k ++ (rs[i].ev, i) :: p.drop k, ?_, ?_, ?_⟩
  · intro r hr
    simp only [List.mem_append, List.mem_singleton] at hr
    rcases hr with (hr | rfl) | hr
    · exact h.mem r (List.mem_of_mem_take hr)
    · exact List.getElem_mem hi
    · exact h.mem r (List.mem_of_mem_drop hr)
  · have e1 : (evs rs).take (i + 1) = (evs rs).take i ++ [rs[i].ev] := by
      rw [List.take_succ_eq_append_getElem (by rw [evs_length]; exact hi)]
      simp [evs]
    rw [e1, List.zipIdx_append]
    have e2 : [rs[i].ev].zipIdx (0 + ((evs rs).take i).length) = [(rs[i].ev, i)] := by
      rw [List.length_take, evs_length, Nat.min_eq_left (by omega)]; simp
    rw [e2]
    refine List.Perm.trans ?_ (List.perm_append_singleton _ _).symm
    refine List.perm_middle.trans (List.Perm.cons _ ?_)
    rw [List.take_append_drop]; exact p1
  · refine srt_insert (by rw [List.take_append_drop]; exact p2) (fun y hy => ?_) (fun y hy => ?_) (fun y hy => ?_)
    · rw [List.take_append_drop] at hy
      have := p1.mem_iff.1 hy
      obtain ⟨a, b⟩ := y
      have := List.mem_zipIdx this
      rw [List.length_take, evs_length] at this
      simp only; omega
    · rcases h1 with rfl | ⟨hk', hc⟩
      · simp at hy
      · rw [List.getLast?_eq_getElem?, List.length_take, Nat.min_eq_left (by omega), List.getElem?_take] at hy
        by_cases hk0 : k = 0
        · subst hk0; simp at hy
        · rw [if_pos (by omega), List.getElem?_eq_getElem (by omega)] at hy
          simp only [Option.some.injEq] at hy
          rw [← hy, hpe _ (by omega)]; exact hc
    · obtain ⟨j, hj, rfl⟩ := List.getElem_of_mem hy
      rw [List.getElem_drop, hpe _ (by rw [List.length_drop] at hj; omega)]
      exact h2 _ (by rw [List.length_drop] at hj; omega) (by omega)
  · rw [List.map_append, List.map_cons, List.map_take, List.map_drop, p3]
    simp [evs, List.map_take, List.map_drop]
theorem Ins.done {rs cs : List EvR} (h : Ins rs rs.length cs) : IsSort (evs rs) (evs cs) := by
  obtain ⟨p, p1, p2, p3⟩ := h.srt
  refine ⟨p, ?_, p2, p3⟩
  rwa [List.take_of_length_le (by rw [evs_length]; exact Nat.le_refl _)] at p1
end Go.Proofs.Ytdkkgajamogmeaa
