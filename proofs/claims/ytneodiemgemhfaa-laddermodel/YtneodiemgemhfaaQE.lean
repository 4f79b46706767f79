/- What LadderModel carries: the sorted list; an append in a drawn region; Sort of a row of the call's own. -/
import Derived.Test.YtneodiemgemhfaaQA
import Derived.Test.YtneodiemgemhfaaNG
namespace Go.Proofs.Ytneodiemgemhfaa
open Go.RowKit Go.Lib

theorem ReachM.sorts {n i : Nat} {l : Ld} (h : ReachM n i l) (it : It) (h0 : 0 ≤ it.t ∧ it.t ≤ MaxT) (hq : it.q = (i : Int)) {xs : List It} (e : xs = sortI (itemsL l)) : sortI (xs ++ [it]) = sortI (itemsL (insertL l it)) := by
  have hp := insert_its h.good h0.1 h0.2
  have hg := (h.insert it h0 hq).good.dist
  refine (sortI_of_perm hg (hp.trans ?_)).symm
  rw [e]
  refine List.Perm.trans ?_ (List.perm_append_comm (l₁ := [it]))
  exact List.Perm.cons it (sortI_perm _).symm
theorem ReachM.pops {n i : Nat} {l : Ld} (h : ReachM n i l) {xs : List It} (e : xs = sortI (itemsL l)) :
    ((popL l).2.2 = false ∧ xs = [] ∧ sortI (itemsL (popL l).1) = []) ∨ ((popL l).2.2 = true ∧ xs = (popL l).2.1 :: sortI (itemsL (popL l).1)) := by
  have hr := refill_ok h.good
  cases pop_ok h.good with
  | no e0 p _ =>
    have hl := hr.its
    rw [e0] at hl
    have h1 : itemsL (refillL l) = [] := List.perm_nil.1 hl
    rw [p]
    refine .inl ⟨rfl, ?_, ?_⟩
    · rw [e, e0]; rfl
    · simp only [h1]; rfl
  | yes x l' p _ good its least hpot mv cp bot =>
    rw [p]
    exact .inr ⟨rfl, by rw [e]; exact Popped.sort h.good its least⟩
/-- The sorted list in memory. -/
structure SortedAs (w : World) (P : Nat) (l : Ld) (s : SlR It) : Prop where
  eq : s.l = sortI (itemsL l)
  has : HasS LI w s
  av : AvS s P
theorem hasS_of {w : World} {s : SlR It} (h : HasS LI w s) {l : List It} (e : s.l = l) : HasS LI w ⟨l, s.ad, s.cap⟩ := by
  subst e
  exact h
def GaveS (V : World) (n : Nat) (l : List It) (e : Ending) (w' : World) : Prop := ∃ ad c, e = .returned (.slice ad n c) ∧ HasS LI w' ⟨l, ad, c⟩ ∧ (∀ a, ad = some a → V.heap.size ≤ a.block) ∧ Upd [] V w'
theorem Sort_row {V : World} {base n : Nat} {va : Option Addr} {vc : Nat} {l : List It} (h : V.ownsRow base 34 3 (.slice va n vc) n (LI.flat l)) (hn : n ≤ 1000) : Calls Try.prog 9 #[.slice va n vc] V (GaveS V n (sortI l)) := by
  obtain ⟨e, ad, cap, ev, hs, _⟩ := hasS_row (L := LI) h
  simp only [Value.slice.injEq, true_and] at ev
  obtain ⟨rfl, rfl⟩ := ev
  subst e
  refine (Sort_has ⟨l, va, vc⟩ V hs (by simp only; omega)).mono ?_
  rintro e w' ⟨⟨l2, a2, c2⟩, rfl, hM⟩
  have e2 : l2 = sortI l := hM.eq
  subst e2
  exact ⟨a2, c2, by simp only [sortI_length], hM.has, hM.ge, hM.upd⟩
/-- append to a row of the call's own in a region that draws its order. -/
theorem step_app {α : Type} {L : Lay α} {ts te : TypeId} (T : RowTy L ts te) {w : World} {o : Oper} {a : Act} {K : Act → World → Prop} {Q : Exit → Act → World → Prop} {ops : Array Oper} {E : Prop} (hgd : o.guard = none) (s x : Operand)
    (ho : o.op = .call { callee := .builtin .append, args := #[s, x], argTypes := #[ts, ts] })
    (base : Nat) (v : Value) (n : Nat) (xs : List α) (hs : a.eval s = v) (hown : w.ownsRow base te L.k v n (L.flat xs))
    (ad : Option Addr) (m c : Nat) (ys : List α) (hx : a.eval x = .slice ad m c) (hm : m = ys.length) (hy : Row L w ad ys) (hnil : ad = none → c = 0) (hn : n + m ≤ 1000000) (hbase : base ≤ w.heap.size)
    (h : ∀ v' w', w'.ownsRow base te L.k v' (n + m) (L.flat (xs ++ ys)) → w.grownBy w' v.ownBlock → K (a.put o.dst v') w') :
    if Region.wanted o (yielded ops a.tmps) = true then Oper.wp Try.prog o a w K Q else E := by
  have hw : Region.wanted o (yielded ops a.tmps) = true := by simp [Region.wanted, hgd]
  rw [if_pos hw]
  obtain ⟨i0, z, b, hi0, hz0, hz1, hz2, hz3, hb⟩ := T.info
  cases ad with
  | none =>
    have e := row_none hy
    subst e
    obtain rfl := hnil rfl
    obtain rfl : m = 0 := by simpa using hm
    have hK := h v w (by simpa using hown) (grownBy_refl _ _)
    have hrun := run_append_owned_none (P := Try.prog) (w := w) base ts o.type te i0 L.k T.un hi0 v n _ hown
    unfold Oper.wp
    simp [execOp, ho, resolve, invoke, builtin, hs, hx, hrun, Result.andThen]
    exact hK
  | some ad =>
    have hbb : (n + m) * b ≤ 1000000 * 1000 := Nat.mul_le_mul hn hb
    refine wp_append_own w s x ts ho base te i0 z L.k b T.un hi0 hz0 hz1 hz2 hz3 L.pos v n _ hs hown ad m c (L.flat ys) hx (by rw [L.flat_length, hm]) hy.cells (L.flat_one ys) (by simp [maxLen]; omega) (by omega) hbase ?_
    intro v' w' h1 h2 _
    exact h v' w' (by rw [L.flat_append]; exact h1) h2
theorem row_mono {w : World} {base base' : Nat} {e : TypeId} {size : Nat} {v : Value} {n : Nat} {xs : List Value} (h : w.ownsRow base e size v n xs) (hb : base' ≤ base) : w.ownsRow base' e size v n xs := by
  refine ⟨h.1, ?_⟩
  rcases h.2 with hn | ⟨g, cap, cur, rfl, hb', rest⟩
  · exact .inl hn
  · exact .inr ⟨g, cap, cur, rfl, by omega, rest⟩
theorem made_second (w : World) (O : Obj) : ((w.alloc O).alloc (.cells #[] 34)).ownsRow w.heap.size 34 3 (.slice (some ⟨w.heap.size + 1, 0, none⟩) 0 0) 0 [] := by
  have h := World.ownsRow_made (e := 34) (size := 3) (w.alloc O) #[] 0 (Nat.le_refl _) (Nat.zero_le _) (by simp)
  rw [show (w.alloc O).heap.size = w.heap.size + 1 by simp] at h
  exact row_mono h (by omega)
end Go.Proofs.Ytneodiemgemhfaa
