
/- Groups of operations in a region that draws its order: two that make memory and a call behind both; one that makes memory and a call behind it, beside another. What follows is shown once, for whatever addresses. Plain facts on orders, for any program. -/
import Derived.Test.YtmfnfinbkdemkaaGreatM
import Derived.Deep.RegionHeld3
namespace Go.Proofs.YtmfnfinbkdemkaaGreat
section
variable {P : Program} {ops : Array Oper} {Q : Exit → Act → World → Prop} {md : Region.Mode} {S : World → Prop}

/-- An operation that yields a value in a world. -/
theorem op_value {i : Nat} {o : Oper} {a : Act} {w w' : World} {v : Value} {K : Act → World → Prop} (ho : ops[i]? = some o) (hw : Region.wanted o (yielded ops a.tmps) = true) (hr : (execOp a.eval o).run P w = .ok (.value v) w') (h : K (a.put o.dst v) w') : wpOp P ops Q i K a w := by
  unfold wpOp
  simp only [ho, hw, if_true]
  refine .inl ?_
  unfold Oper.wp
  rw [hr]
  exact h
/-- A call under a contract. -/
theorem op_call {i : Nat} {o : Oper} {a : Act} {w : World} {f : FuncId} {args : Array Value} {R : Value → World → Prop} {K : Act → World → Prop} (ho : ops[i]? = some o) (hw : Region.wanted o (yielded ops a.tmps) = true) (hr : (execOp a.eval o).run P w = .ok (.enter f args) w)
    (hc : Calls P f args w fun e w' => ∃ v, e = .returned v ∧ R v w') (h : ∀ v w', R v w' → K (a.put o.dst v) w') : wpOp P ops Q i K a w := by
  unfold wpOp
  simp only [ho, hw, if_true]
  refine .inl ?_
  unfold Oper.wp
  rw [hr]
  show Calls P f args w _
  refine hc.mono ?_
  rintro e w' ⟨v, rfl, hR⟩
  exact h v w' hR
/-- One alone may come up. -/
theorem any_one {i fuel : Nat} {listed : Array Bool} {a : Act} {w : World} (hr : Region.ready md ops listed = [i])
    (h : wpOp P ops Q i (fun a' w' => S w' ∧ wpAnyH P md ops Q S fuel (listed.setIfInBounds i true) a' w') a w) : wpAnyH P md ops Q S (fuel + 1) listed a w := by
  refine ⟨fun e => by rw [hr] at e; simp at e, fun j hj => ?_⟩
  rw [hr] at hj
  obtain rfl : j = i := by simpa using hj
  exact h
theorem any_two {i j fuel : Nat} {listed : Array Bool} {a : Act} {w : World} (hr : Region.ready md ops listed = [i, j])
    (h1 : wpOp P ops Q i (fun a' w' => S w' ∧ wpAnyH P md ops Q S fuel (listed.setIfInBounds i true) a' w') a w)
    (h2 : wpOp P ops Q j (fun a' w' => S w' ∧ wpAnyH P md ops Q S fuel (listed.setIfInBounds j true) a' w') a w) : wpAnyH P md ops Q S (fuel + 1) listed a w := by
  refine ⟨fun e => by rw [hr] at e; simp at e, fun k hk => ?_⟩
  rw [hr] at hk
  rcases (by simpa using hk : k = i ∨ k = j) with rfl | rfl
  · exact h1
  · exact h2

/-- A call alone. -/
theorem one_call {c fuel : Nat} {oc : Oper} {dc : Tmp} {listed : Array Bool} {a : Act} {w : World} {f : FuncId} {args : Array Value} {x : Value} (hc : ops[c]? = some oc) (edc : oc.dst = some dc) (r : Region.ready md ops listed = [c]) (wc : Region.wanted oc (yielded ops a.tmps) = true)
    (ec : (execOp a.eval oc).run P w = .ok (.enter f args) w) (hcall : Calls P f args w fun e w' => e = .returned x ∧ Upd [] w w') (hS : ∀ W, Upd [] w W → S W)
    (rest : ∀ W, Upd [] w W → wpAnyH P md ops Q S fuel (listed.setIfInBounds c true) (a.put (some dc) x) W) : wpAnyH P md ops Q S (fuel + 1) listed a w :=
  any_one r (op_call (R := fun v w' => v = x ∧ Upd [] w w') hc wc ec (hcall.mono fun e w' h => ⟨x, h.1, rfl, h.2⟩) (fun v w' h => by
    obtain ⟨rfl, h2⟩ := h
    exact ⟨hS _ h2, by rw [edc]; exact rest _ h2⟩))
/-- One that reads no more than S tells, taken first. -/
theorem take_one {i fuel : Nat} {oi : Oper} {d : Tmp} {v : Value} {listed : Array Bool} {a : Act} {w : World} (hi : ops[i]? = some oi) (ed : oi.dst = some d)
    (hs : Region.noSelect ops = true) (hf : Region.free md ops listed i = true) (hr : (Region.ready md ops listed).contains i = true) (hQ : ∀ c a w d v, Q (.panic c) (a.put d v) w → Q (.panic c) a w)
    (hw : Region.wanted oi (yielded ops a.tmps) = true) (hy : ∀ wz, S wz → (execOp a.eval oi).run P wz = .ok (.value v) wz) (hS : S w)
    (rest : wpAnyH P md ops Q S fuel (listed.setIfInBounds i true) (a.put (some d) v) w) : wpAnyH P md ops Q S (fuel + 1) listed a w :=
  wpAnyH_take hi hs hf hr (fun c a w => hQ c a w _ _) (.inl ⟨hw, hy⟩) hS (by rw [ed]; exact rest)

/-- Two operations that make memory, in either order, then a call that waits for both. -/
theorem pair_call {i j c fuel : Nat} {oi oj oc : Oper} {di dj dc : Tmp} {listed : Array Bool} {a : Act} {w : World} {Ai Aj : Obj} {si sj : Nat → Value} {f : FuncId} {args : Nat → Nat → Array Value} {x : Value}
    (hi : ops[i]? = some oi) (hj : ops[j]? = some oj) (hc : ops[c]? = some oc) (edi : oi.dst = some di) (edj : oj.dst = some dj) (edc : oc.dst = some dc)
    (r0 : Region.ready md ops listed = [i, j]) (r1 : Region.ready md ops (listed.setIfInBounds i true) = [j]) (r2 : Region.ready md ops (listed.setIfInBounds j true) = [i]) (r3 : Region.ready md ops ((listed.setIfInBounds i true).setIfInBounds j true) = [c])
    (hne : i ≠ j) (hnd : di ≠ dj)
    (wi : ∀ a', (a' = a ∨ ∃ u, a' = a.put (some dj) u) → Region.wanted oi (yielded ops a'.tmps) = true ∧ ∀ W, (execOp a'.eval oi).run P W = .ok (.value (si W.heap.size)) (W.alloc Ai))
    (wj : ∀ a', (a' = a ∨ ∃ u, a' = a.put (some di) u) → Region.wanted oj (yielded ops a'.tmps) = true ∧ ∀ W, (execOp a'.eval oj).run P W = .ok (.value (sj W.heap.size)) (W.alloc Aj))
    (wc : ∀ u v, Region.wanted oc (yielded ops ((a.put (some di) u).put (some dj) v).tmps) = true)
    (ec : ∀ bi bj W, (execOp ((a.put (some di) (si bi)).put (some dj) (sj bj)).eval oc).run P W = .ok (.enter f (args bi bj)) W)
    (hcall : ∀ bi bj W, W.heap[bi]? = some Ai → W.heap[bj]? = some Aj → Upd [] w W → Calls P f (args bi bj) W fun e w' => e = .returned x ∧ Upd [] W w')
    (hS : ∀ W, Upd [] w W → S W)
    (rest : ∀ u v W, Upd [] w W → wpAnyH P md ops Q S fuel (((listed.setIfInBounds i true).setIfInBounds j true).setIfInBounds c true) (((a.put (some di) u).put (some dj) v).put (some dc) x) W) :
    wpAnyH P md ops Q S (fuel + 2 + 1) listed a w := by
  have key : ∀ bi bj W, W.heap[bi]? = some Ai → W.heap[bj]? = some Aj → Upd [] w W → wpAnyH P md ops Q S (fuel + 1) ((listed.setIfInBounds i true).setIfInBounds j true) ((a.put (some di) (si bi)).put (some dj) (sj bj)) W := fun bi bj W h1 h2 hu =>
    any_one r3 (op_call (R := fun v w' => v = x ∧ Upd [] W w') hc (wc _ _) (ec bi bj W) ((hcall bi bj W h1 h2 hu).mono fun e w' h => ⟨x, h.1, rfl, h.2⟩) (fun v w' h => by
      obtain ⟨rfl, h2⟩ := h
      exact ⟨hS _ (hu.trans h2 (by simp)), by rw [edc]; exact rest _ _ _ (hu.trans h2 (by simp))⟩))
  refine any_two r0 ?_ ?_
  · obtain ⟨q1, q2⟩ := wi a (.inl rfl)
    refine op_value hi q1 (q2 w) ⟨hS _ ((Upd.refl [] w).alloc _), ?_⟩
    rw [edi]
    refine any_one r1 ?_
    obtain ⟨q3, q4⟩ := wj (a.put (some di) (si w.heap.size)) (.inr ⟨_, rfl⟩)
    refine op_value hj q3 (q4 _) ⟨hS _ (((Upd.refl [] w).alloc _).alloc _), ?_⟩
    rw [edj]
    exact key _ _ _ (((Upd.refl [] _).alloc _).at (heap_alloc1 w _) (by simp)) (heap_alloc1 _ _) (((Upd.refl [] w).alloc _).alloc _)
  · obtain ⟨q1, q2⟩ := wj a (.inl rfl)
    refine op_value hj q1 (q2 w) ⟨hS _ ((Upd.refl [] w).alloc _), ?_⟩
    rw [edj]
    refine any_one r2 ?_
    obtain ⟨q3, q4⟩ := wi (a.put (some dj) (sj w.heap.size)) (.inr ⟨_, rfl⟩)
    refine op_value hi q3 (q4 _) ⟨hS _ (((Upd.refl [] w).alloc _).alloc _), ?_⟩
    rw [edi, Act.put_comm a _ _ (by simpa using hnd), Array.setIfInBounds_comm _ _ (Ne.symm hne)]
    exact key _ _ _ (heap_alloc1 _ _) (((Upd.refl [] _).alloc _).at (heap_alloc1 w _) (by simp)) (((Upd.refl [] w).alloc _).alloc _)

/-- One that makes memory and a call behind it, beside another that makes memory; then a call that waits for both. -/
theorem triple_call {i p j c fuel : Nat} {oi op oj oc : Oper} {di dp dj dc : Tmp} {listed : Array Bool} {a : Act} {w : World} {Ai Aj : Obj} {si sj : Nat → Value} {f g : FuncId} {args : Nat → Array Value} {args2 : Value → Nat → Array Value} {Pv : Value → World → Prop} {x : Value}
    (hi : ops[i]? = some oi) (hp : ops[p]? = some op) (hj : ops[j]? = some oj) (hc : ops[c]? = some oc) (edi : oi.dst = some di) (edp : op.dst = some dp) (edj : oj.dst = some dj) (edc : oc.dst = some dc)
    (r0 : Region.ready md ops listed = [i, j]) (r1 : Region.ready md ops (listed.setIfInBounds i true) = [p, j]) (r2 : Region.ready md ops (listed.setIfInBounds j true) = [i]) (r3 : Region.ready md ops ((listed.setIfInBounds i true).setIfInBounds p true) = [j]) (r4 : Region.ready md ops ((listed.setIfInBounds i true).setIfInBounds j true) = [p])
    (r5 : Region.ready md ops (((listed.setIfInBounds i true).setIfInBounds p true).setIfInBounds j true) = [c]) (hij : i ≠ j) (hpj : p ≠ j) (ndij : di ≠ dj) (ndpj : dp ≠ dj)
    (wi : ∀ a', (a' = a ∨ ∃ u, a' = a.put (some dj) u) → Region.wanted oi (yielded ops a'.tmps) = true ∧ ∀ W, (execOp a'.eval oi).run P W = .ok (.value (si W.heap.size)) (W.alloc Ai))
    (wj : ∀ a', (a' = a ∨ (∃ u, a' = a.put (some di) u) ∨ ∃ u v, a' = (a.put (some di) u).put (some dp) v) → Region.wanted oj (yielded ops a'.tmps) = true ∧ ∀ W, (execOp a'.eval oj).run P W = .ok (.value (sj W.heap.size)) (W.alloc Aj))
    (wp : ∀ b a', (a' = a.put (some di) (si b) ∨ ∃ v, a' = (a.put (some di) (si b)).put (some dj) v) → Region.wanted op (yielded ops a'.tmps) = true ∧ ∀ W, (execOp a'.eval op).run P W = .ok (.enter f (args b)) W)
    (hcp : ∀ b W, W.heap[b]? = some Ai → Upd [] w W → Calls P f (args b) W fun e w' => ∃ v, e = .returned v ∧ Pv v w' ∧ Upd [] W w')
    (hst : ∀ v W W', Pv v W → Upd [] W W' → Pv v W')
    (wc : ∀ u v b, Region.wanted oc (yielded ops (((a.put (some di) u).put (some dp) v).put (some dj) (sj b)).tmps) = true)
    (ec : ∀ u v b W, Pv v W → (execOp (((a.put (some di) u).put (some dp) v).put (some dj) (sj b)).eval oc).run P W = .ok (.enter g (args2 v b)) W)
    (hcc : ∀ v b W, Pv v W → W.heap[b]? = some Aj → Upd [] w W → Calls P g (args2 v b) W fun e w' => e = .returned x ∧ Upd [] W w')
    (hS : ∀ W, Upd [] w W → S W)
    (rest : ∀ u v y W, Upd [] w W → wpAnyH P md ops Q S fuel ((((listed.setIfInBounds i true).setIfInBounds p true).setIfInBounds j true).setIfInBounds c true) ((((a.put (some di) u).put (some dp) v).put (some dj) y).put (some dc) x) W) :
    wpAnyH P md ops Q S (fuel + 3 + 1) listed a w := by
  have key : ∀ u v b W, Pv v W → W.heap[b]? = some Aj → Upd [] w W → wpAnyH P md ops Q S (fuel + 1) (((listed.setIfInBounds i true).setIfInBounds p true).setIfInBounds j true) (((a.put (some di) u).put (some dp) v).put (some dj) (sj b)) W := fun u v b W h1 h2 hu =>
    any_one r5 (op_call (R := fun v w' => v = x ∧ Upd [] W w') hc (wc _ _ _) (ec u v b W h1) ((hcc v b W h1 h2 hu).mono fun e w' h => ⟨x, h.1, rfl, h.2⟩) (fun v w' h => by
      obtain ⟨rfl, h2⟩ := h
      exact ⟨hS _ (hu.trans h2 (by simp)), by rw [edc]; exact rest _ _ _ _ (hu.trans h2 (by simp))⟩))
  -- the call behind its own memory, the other memory there already
  have late : ∀ b b' W, W.heap[b]? = some Ai → W.heap[b']? = some Aj → Upd [] w W → wpAnyH P md ops Q S (fuel + 1 + 1) ((listed.setIfInBounds i true).setIfInBounds j true) ((a.put (some di) (si b)).put (some dj) (sj b')) W := fun b b' W h1 h2 hu => by
    obtain ⟨q1, q2⟩ := wp b _ (.inr ⟨sj b', rfl⟩)
    refine any_one r4 (op_call (R := fun v w' => Pv v w' ∧ Upd [] W w') hp q1 (q2 W) (hcp b W h1 hu) (fun v w' h => ⟨hS _ (hu.trans h.2 (by simp)), ?_⟩))
    rw [edp, Act.put_comm _ _ _ (by simpa using ndpj), Array.setIfInBounds_comm _ _ (Ne.symm hpj)]
    exact key _ v b' w' h.1 (h.2.at h2 (by simp)) (hu.trans h.2 (by simp))
  refine any_two r0 ?_ ?_
  · obtain ⟨q1, q2⟩ := wi a (.inl rfl)
    refine op_value hi q1 (q2 w) ⟨hS _ ((Upd.refl [] w).alloc _), ?_⟩
    rw [edi]
    refine any_two r1 ?_ ?_
    · obtain ⟨q3, q4⟩ := wp w.heap.size _ (.inl rfl)
      refine op_call (R := fun v w' => Pv v w' ∧ Upd [] (w.alloc Ai) w') hp q3 (q4 _) (hcp _ _ (heap_alloc1 w _) ((Upd.refl [] w).alloc _)) (fun v w' h => ⟨hS _ (((Upd.refl [] w).alloc _).trans h.2 (by simp)), ?_⟩)
      rw [edp]
      refine any_one r3 ?_
      obtain ⟨q5, q6⟩ := wj _ (.inr (.inr ⟨si w.heap.size, v, rfl⟩))
      have hu : Upd [] w w' := ((Upd.refl [] w).alloc _).trans h.2 (by simp)
      refine op_value hj q5 (q6 w') ⟨hS _ (hu.alloc _), ?_⟩
      rw [edj]
      exact key _ v _ _ (hst v _ _ h.1 ((Upd.refl [] w').alloc _)) (heap_alloc1 w' _) (hu.alloc _)
    · obtain ⟨q3, q4⟩ := wj _ (.inr (.inl ⟨si w.heap.size, rfl⟩))
      refine op_value hj q3 (q4 _) ⟨hS _ (((Upd.refl [] w).alloc _).alloc _), ?_⟩
      rw [edj]
      exact late _ _ _ (((Upd.refl [] _).alloc _).at (heap_alloc1 w _) (by simp)) (heap_alloc1 _ _) (((Upd.refl [] w).alloc _).alloc _)
  · obtain ⟨q1, q2⟩ := wj a (.inl rfl)
    refine op_value hj q1 (q2 w) ⟨hS _ ((Upd.refl [] w).alloc _), ?_⟩
    rw [edj]
    refine any_one r2 ?_
    obtain ⟨q3, q4⟩ := wi _ (.inr ⟨sj w.heap.size, rfl⟩)
    refine op_value hi q3 (q4 _) ⟨hS _ (((Upd.refl [] w).alloc _).alloc _), ?_⟩
    rw [edi, Act.put_comm a _ _ (by simpa using ndij), Array.setIfInBounds_comm _ _ (Ne.symm hij)]
    exact late _ _ _ (heap_alloc1 _ _) (((Upd.refl [] _).alloc _).at (heap_alloc1 w _) (by simp)) (((Upd.refl [] w).alloc _).alloc _)
end
end Go.Proofs.YtmfnfinbkdemkaaGreat
