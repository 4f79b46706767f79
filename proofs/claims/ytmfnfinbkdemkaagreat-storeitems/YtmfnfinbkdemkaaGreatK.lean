
/- A region that draws its order, whose last operation (number k) waits for every load: what the loads read need hold only as long as k has not come up. Plain facts on orders, for any program. -/
import Derived.OrdersHeld
import Derived.Test.YtmfnfinbkdemkaaGreatRows
namespace Go.Proofs.YtmfnfinbkdemkaaGreat
section
variable {P : Program} {ops : Array Oper} {Q : Exit → Act → World → Prop} {md : Region.Mode} {S : World → Prop} {k : Nat}

/-- Whatever order is picked from here on; S holds behind every operation but number k. -/
def wpAnyK (P : Program) (md : Region.Mode) (ops : Array Oper) (Q : Exit → Act → World → Prop) (S : World → Prop) (k : Nat) : Nat → Array Bool → Act → World → Prop
  | 0, listed, a, w => Region.ready md ops listed = [] ∧ Q .normal a w
  | fuel + 1, listed, a, w =>
    (Region.ready md ops listed = [] → Q .normal a w) ∧
    ∀ i ∈ Region.ready md ops listed, wpOp P ops Q i (fun a' w' => (i = k ∨ S w') ∧ wpAnyK P md ops Q S k fuel (listed.setIfInBounds i true) a' w') a w
theorem wpAny_of_K : ∀ (fuel : Nat) (listed : Array Bool) (a : Act) (w : World), wpAnyK P md ops Q S k fuel listed a w → wpAny P md ops Q fuel listed a w
  | 0, _, _, _, h => h
  | fuel + 1, _, _, _, h => ⟨h.1, fun i hi => wpOp_mono (fun a' w' h' => wpAny_of_K fuel _ a' w' h'.2) (h.2 i hi)⟩
/-- As long as number i has not come up, whatever else may come up does not wait for it. -/
theorem no_wait {i j : Nat} {oj : Oper} {listed : Array Bool} (hi : i ∈ Region.ready md ops listed) (hj : j ∈ Region.ready md ops listed) (ho : ops[j]? = some oj) :
    ∀ e ∈ oj.after, Region.binds md e = true → e.on ≠ i := by
  rintro e he hb rfl
  have h0 := (mem_ready.1 hi).1
  obtain ⟨_, o, ho', hall⟩ := mem_ready.1 hj
  rw [ho] at ho'
  cases ho'
  have h1 := hall e he hb
  cases hx : listed[e.on]? with
  | none => simp [hx] at h1
  | some b => simp [hx] at h0 h1; rw [h0] at h1; cases h1
/-- Number i shares no slot with those that are still to come and do not wait for it. -/
def Loose (md : Region.Mode) (ops : Array Oper) (i : Nat) (oi : Oper) (listed : Array Bool) : Prop :=
  ∀ j oj, ops[j]? = some oj → j ≠ i → listed.getD j true = false → (∀ e ∈ oj.after, Region.binds md e = true → e.on ≠ i) → oi.apart ops oj = true
theorem Loose.more {i j : Nat} {oi : Oper} {listed : Array Bool} (h : Loose md ops i oi listed) (hj : listed.getD j true = false) : Loose md ops i oi (listed.setIfInBounds j true) := by
  intro x ox hx hxi hun hno
  refine h x ox hx hxi ?_ hno
  rcases Nat.decEq j x with hne | he
  · rwa [getD_set_ne true hne] at hun
  · exact he ▸ hj
theorem wpAnyK_first {i : Nat} {oi : Oper} {v : Value} (hi : ops[i]? = some oi) (hsel : ∀ (j : Nat) (o : Oper) cs b, ops[j]? = some o → o.op ≠ .select cs b)
    (hQ : ∀ c a w, Q (.panic c) (a.put oi.dst v) w → Q (.panic c) a w) (hwait : ∀ ok, ops[k]? = some ok → ∃ e ∈ ok.after, Region.binds md e = true ∧ e.on = i)
    (fuel : Nat) : ∀ (listed : Array Bool) (a : Act) (w : World), Loose md ops i oi listed → i ∈ Region.ready md ops listed → YieldsIf P ops S oi v a → S w →
      wpAnyK P md ops Q S k fuel (listed.setIfInBounds i true) (a.put oi.dst v) w → wpAnyK P md ops Q S k (fuel + 1) listed a w := by
  induction fuel with
  | zero =>
    intro listed a w _ hr hy hS H
    constructor
    · intro h; rw [h] at hr; cases hr
    · intro j hj
      rcases Nat.decEq j i with hne | he
      · have hj' := ready_mono hj hne
        rw [H.1] at hj'
        cases hj'
      · subst he; exact hy.wpOp hi hS ⟨.inr hS, H⟩
  | succ fuel ih =>
    intro listed a w hl hr hy hS H
    constructor
    · intro h; rw [h] at hr; cases hr
    · intro j hj
      rcases Nat.decEq j i with hne | he
      · obtain ⟨hun, oj, hoj, _⟩ := mem_ready.1 hj
        have hno := no_wait hr hj hoj
        have hjk : j ≠ k := by
          rintro rfl
          obtain ⟨e, he, hb, ho⟩ := hwait oj hoj
          exact hno e he hb ho
        have step := wpOp_putIf hoj (hl j oj hoj hne hun hno) (fun cs b => hsel i oi cs b hi) (fun cs b => hsel j oj cs b hoj) hQ hy (H.2 j (ready_mono hj hne))
        refine wpOp_mono ?_ step
        rintro a' w' ⟨hy', hS', rest⟩
        rw [Array.setIfInBounds_comm _ _ (Ne.symm hne)] at rest
        exact ⟨hS', ih _ a' w' (hl.more hun) (ready_mono hr (Ne.symm hne)) hy' (hS'.resolve_left hjk) rest⟩
      · subst he; exact hy.wpOp hi hS ⟨.inr hS, H⟩
/-- k waits for i. -/
def waits (md : Region.Mode) (ops : Array Oper) (k i : Nat) : Bool := match ops[k]? with
  | some ok => ok.after.any fun e => Region.binds md e && e.on == i
  | none => false
theorem waits_spec {i : Nat} (h : waits md ops k i = true) : ∀ ok, ops[k]? = some ok → ∃ e ∈ ok.after, Region.binds md e = true ∧ e.on = i := by
  intro ok hok
  simp only [waits, hok, Array.any_eq_true'] at h
  obtain ⟨e, he, hb⟩ := h
  simp only [Bool.and_eq_true, beq_iff_eq] at hb
  exact ⟨e, he, hb.1, hb.2⟩
/-- Everything that the taking of number i asks of the region's text, as one Bool. -/
def takable (md : Region.Mode) (ops : Array Oper) (k i : Nat) (listed : Array Bool) : Bool :=
  Region.noSelect ops && Region.free md ops listed i && (Region.ready md ops listed).contains i && waits md ops k i
theorem wpAnyK_take {i : Nat} {oi : Oper} {v : Value} {d : Option Tmp} {fuel : Nat} {listed : Array Bool} {a : Act} {w : World} (hi : ops[i]? = some oi) (hd : oi.dst = d)
    (ht : takable md ops k i listed = true) (hQ : ∀ c a w, Q (.panic c) (a.put d v) w → Q (.panic c) a w) (hy : YieldsIf P ops S oi v a) (hS : S w)
    (h : wpAnyK P md ops Q S k fuel (listed.setIfInBounds i true) (a.put d v) w) : wpAnyK P md ops Q S k (fuel + 1) listed a w := by
  subst hd
  simp only [takable, Bool.and_eq_true] at ht
  obtain ⟨⟨⟨hs, hf⟩, hr⟩, hw⟩ := ht
  exact wpAnyK_first hi (Region.noSelect_spec hs) hQ (waits_spec hw) fuel listed a w (fun j oj => Region.free_spec hi hf j oj) (by simpa using hr) hy hS h
/-- The one that alone may come up. -/
theorem wpAnyK_one {i : Nat} {fuel : Nat} {listed : Array Bool} {a : Act} {w : World} (hr : Region.ready md ops listed = [i])
    (h : wpOp P ops Q i (fun a' w' => (i = k ∨ S w') ∧ wpAnyK P md ops Q S k fuel (listed.setIfInBounds i true) a' w') a w) : wpAnyK P md ops Q S k (fuel + 1) listed a w :=
  ⟨(fun h0 => by rw [hr] at h0; cases h0), (fun j hj => by rw [hr] at hj; simp only [List.mem_singleton] at hj; subst hj; exact h)⟩
theorem wpOp_wp {i : Nat} {o : Oper} {a : Act} {w : World} {K : Act → World → Prop} (hi : ops[i]? = some o) (hw : Region.wanted o (yielded ops a.tmps) = true) (h : o.wp P a w K Q) : wpOp P ops Q i K a w := by
  unfold wpOp
  simp only [hi, hw, if_true]
  exact .inl h
theorem wp_value {o : Oper} {a : Act} {w w' : World} {v : Value} {K : Act → World → Prop} (hr : (execOp a.eval o).run P w = .ok (.value v) w') (h : K (a.put o.dst v) w') : o.wp P a w K Q := by
  unfold Oper.wp
  rw [hr]
  exact h
theorem wp_skip {o : Oper} {a : Act} {w w' : World} {K : Act → World → Prop} (hr : (execOp a.eval o).run P w = .ok .skip w') (h : K (a.put o.dst undef) w') : o.wp P a w K Q := by
  unfold Oper.wp
  rw [hr]
  exact h
/-- An operation that alone may come up and yields a value. -/
theorem wpAnyK_value {i : Nat} {o : Oper} {v : Value} {d : Option Tmp} {fuel : Nat} {listed : Array Bool} {a : Act} {w w' : World} (hi : ops[i]? = some o) (hd : o.dst = d) (hr : Region.ready md ops listed = [i]) (hw : Region.wanted o (yielded ops a.tmps) = true)
    (hrun : (execOp a.eval o).run P w = .ok (.value v) w') (hS : i = k ∨ S w') (h : wpAnyK P md ops Q S k fuel (listed.setIfInBounds i true) (a.put d v) w') : wpAnyK P md ops Q S k (fuel + 1) listed a w := by
  subst hd
  exact wpAnyK_one hr (wpOp_wp hi hw (wp_value hrun ⟨hS, h⟩))
theorem wpAnyK_skip {i : Nat} {o : Oper} {d : Option Tmp} {fuel : Nat} {listed : Array Bool} {a : Act} {w w' : World} (hi : ops[i]? = some o) (hd : o.dst = d) (hr : Region.ready md ops listed = [i]) (hw : Region.wanted o (yielded ops a.tmps) = true)
    (hrun : (execOp a.eval o).run P w = .ok .skip w') (hS : i = k ∨ S w') (h : wpAnyK P md ops Q S k fuel (listed.setIfInBounds i true) (a.put d undef) w') : wpAnyK P md ops Q S k (fuel + 1) listed a w := by
  subst hd
  exact wpAnyK_one hr (wpOp_wp hi hw (wp_skip hrun ⟨hS, h⟩))
/-- An operation that alone may come up, by a law on it that goes on at 'd'. -/
theorem wpAnyK_law {i : Nat} {o : Oper} {d : Option Tmp} {fuel : Nat} {listed : Array Bool} {a : Act} {w : World} (hi : ops[i]? = some o) (_hd : o.dst = d) (hr : Region.ready md ops listed = [i]) (hw : Region.wanted o (yielded ops a.tmps) = true)
    (R : Value → World → Prop) (h : ∀ K : Act → World → Prop, (∀ v w', R v w' → K (a.put d v) w') → o.wp P a w K Q) (hR : ∀ v w', R v w' → (i = k ∨ S w') ∧ wpAnyK P md ops Q S k fuel (listed.setIfInBounds i true) (a.put d v) w') : wpAnyK P md ops Q S k (fuel + 1) listed a w :=
  wpAnyK_one hr (wpOp_wp hi hw (h _ hR))
theorem wpAnyK_done {listed : Array Bool} {a : Act} {w : World} (hr : Region.ready md ops listed = []) (h : Q .normal a w) :
    ∀ fuel, wpAnyK P md ops Q S k fuel listed a w
  | 0 => ⟨hr, h⟩
  | _ + 1 => ⟨fun _ => h, by rw [hr]; simp⟩
theorem wp_region_K (S : World → Prop) (k : Nat) {id : Nat} {a : Act} {w : World} (hm : P.follows .mixedOrders = true)
    (h : wpAnyK P .any ops Q S k ops.size (Array.replicate ops.size false) a w.drew) : (Code.region id ops true).wp P Q a w :=
  wp_region_any hm (wpAny_of_K _ _ _ _ h)
end
end Go.Proofs.YtmfnfinbkdemkaaGreat
