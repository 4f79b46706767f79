/- Plain maths: Insert and the steps of refilling keep a ladder queue valid and its items. Nothing of the program. -/
import Derived.Test.YtneodiemgemhfaaNB
namespace Go.Proofs.Ytneodiemgemhfaa

theorem GoodR.its_lo {r : Rg} (h : GoodR r) {it : It} (hit : it ∈ itsR r) : curT r ≤ it.t ∧ 0 ≤ it.t := by
  obtain ⟨i, hi, hm⟩ := mem_itsR.1 hit
  have hi8 : i < 8 := by rw [h.len] at hi; exact hi
  have hb := (h.inb i hi8 it hm).1
  have hc : r.cu ≤ (i : Int) := by
    apply Classical.byContradiction
    intro hlt
    rw [h.low i hi8 (by omega)] at hm
    simp at hm
  have hmm := mul_mono (a := r.cu) (b := (i : Int)) (w := r.wd) hc h.wd0
  have ht := h.times
  unfold curT at ht ⊢
  omega
theorem okRs_mem : ∀ {rs : List Rg} {b : Int} {r : Rg}, OkRs b rs → r ∈ rs → GoodR r ∧ ∀ it ∈ itsR r, it.t < b ∧ it.t ≤ MaxT
  | x :: xs, b, r, h, hr => by
    rcases List.mem_cons.1 hr with rfl | hr
    · exact ⟨h.1.good, h.1.its⟩
    · obtain ⟨h1, h2⟩ := okRs_mem h.2 hr
      exact ⟨h1, fun it hit => ⟨by have := (h2 it hit).1; omega, (h2 it hit).2⟩⟩
theorem mem_itsRs {rs : List Rg} {it : It} : it ∈ itsRs rs ↔ ∃ r ∈ rs, it ∈ itsR r := by
  unfold itsRs
  rw [List.mem_flatten]
  constructor
  · rintro ⟨b, hb, hit⟩
    obtain ⟨r, hr, rfl⟩ := List.mem_map.1 hb
    exact ⟨r, hr, hit⟩
  · rintro ⟨r, hr, hit⟩
    exact ⟨_, List.mem_map.2 ⟨r, hr, rfl⟩, hit⟩
/-- All items of a valid queue have times in 0..MaxT; those of the bottom are before all others. -/
theorem GoodL.times {l : Ld} (h : GoodL l) {it : It} (hit : it ∈ itemsL l) : 0 ≤ it.t ∧ it.t ≤ MaxT := by
  have := h.ts0
  rcases List.mem_append.1 hit with hit | hit
  · rcases List.mem_append.1 hit with hit | hit
    · have := h.top it hit; omega
    · have := h.bot it hit; omega
  · obtain ⟨r, hr, hi⟩ := mem_itsRs.1 hit
    obtain ⟨h1, h2⟩ := okRs_mem h.rs hr
    exact ⟨(h1.its_lo hi).2, (h2 it hi).2⟩
theorem GoodL.before {l : Ld} (h : GoodL l) {x y : It} (hx : x ∈ l.bot) (hy : y ∈ l.top ∨ y ∈ itsRs l.rs) : x.t < y.t := by
  have hb := (h.bot x hx).2.2
  have hl := boundR_le l.rs l.ts
  rcases hy with hy | hy
  · have := (h.top y hy).1
    have := hl.1
    omega
  · obtain ⟨r, hr, hi⟩ := mem_itsRs.1 hy
    obtain ⟨h1, _⟩ := okRs_mem h.rs hr
    have := (h1.its_lo hi).1
    have := hl.2 r hr
    omega

/-- Put into the rungs. -/
theorem insR_ok : ∀ {rs : List Rg} {b : Int} {it : It}, OkRs b rs → it.t < b → 0 ≤ it.t → it.t ≤ MaxT →
    OkRs b (insR rs it).1 ∧ boundR b (insR rs it).1 = boundR b rs ∧ ((insR rs it).2.2 = true → (itsRs (insR rs it).1).Perm (it :: itsRs rs)) ∧ ((insR rs it).2.2 = false → (insR rs it).1 = rs ∧ it.t < boundR b rs)
  | [], b, it, _, h1, _, _ => ⟨trivial, rfl, fun h => by simp [insR] at h, fun _ => ⟨rfl, h1⟩⟩
  | r :: rs, b, it, h, h1, h2, h3 => by
    by_cases hc : curT r ≤ it.t
    · have hf : Fits r it.t := ⟨hc, by have := h.1.ends; omega⟩
      have e : insR (r :: rs) it = ((putR r it).1 :: rs, 1, true) := by rw [insR, if_pos hc]
      have ec : curT (putR r it).1 = curT r := by unfold curT; rw [(putR_fr r it).1, (putR_fr r it).2, putR_cu]
      have ee : endT (putR r it).1 = endT r := by unfold endT; rw [(putR_fr r it).1, (putR_fr r it).2]
      have hp : (itsR (putR r it).1).Perm (it :: itsR r) := by rw [putR_yes hf]; exact addR_its h.1.good hf
      rw [e]
      refine ⟨⟨⟨h.1.good.put it, by rw [ee]; exact h.1.ends, fun x hx => ?_⟩, by rw [ec]; exact h.2⟩, ?_, fun _ => ?_, fun h => by simp at h⟩
      · rcases List.mem_cons.1 (hp.subset hx) with rfl | hx
        · exact ⟨h1, h3⟩
        · exact h.1.its x hx
      · show boundR (min b (curT (putR r it).1)) rs = boundR (min b (curT r)) rs
        rw [ec]
      · rw [itsRs_cons, itsRs_cons]
        exact hp.append_right _
    · have e : insR (r :: rs) it = (r :: (insR rs it).1, (insR rs it).2.1 + 1, (insR rs it).2.2) := by rw [insR, if_neg hc]
      obtain ⟨i1, i2, i3, i4⟩ := insR_ok (it := it) h.2 (by omega) h2 h3
      rw [e]
      refine ⟨⟨h.1, i1⟩, i2, fun hb => ?_, fun hb => ?_⟩
      · have := i3 hb
        rw [itsRs_cons, itsRs_cons]
        exact (this.append_left (itsR r)).trans List.perm_middle
      · obtain ⟨q1, q2⟩ := i4 hb
        exact ⟨by rw [q1], q2⟩
theorem insert_its {l : Ld} (h : GoodL l) {it : It} (h1 : 0 ≤ it.t) (h2 : it.t ≤ MaxT) : (itemsL (insertL l it)).Perm (it :: itemsL l) := by
  unfold insertL
  by_cases ht : l.ts ≤ it.t
  · rw [if_pos ht]
    unfold itemsL
    simp only [List.append_assoc]
    exact List.perm_middle
  · rw [if_neg ht]
    obtain ⟨_, _, i3, i4⟩ := insR_ok (it := it) h.rs (by omega) h1 h2
    cases hb : (insR l.rs it).2.2 with
    | true =>
      rw [if_pos rfl]
      unfold itemsL
      simp only
      exact ((i3 hb).append_left (l.top ++ l.bot)).trans List.perm_middle
    | false =>
      rw [if_neg (by simp)]
      unfold itemsL
      simp only [List.append_assoc]
      refine (((plI_perm l.bot it).append_right _).append_left l.top).trans ?_
      exact List.perm_middle
theorem insert_good {l : Ld} (h : GoodL l) {it : It} (h1 : 0 ≤ it.t) (h2 : it.t ≤ MaxT) (hd : ∀ x ∈ itemsL l, ¬ eqK it x) : GoodL (insertL l it) := by
  have hp := insert_its h h1 h2
  have hdist : DistI (itemsL (insertL l it)) := DistI.perm (List.pairwise_cons.2 ⟨hd, h.dist⟩) hp.symm
  have hm := h.mv0
  have hcp := h.cp0
  unfold insertL at hdist ⊢
  by_cases ht : l.ts ≤ it.t
  · rw [if_pos ht] at hdist ⊢
    refine ⟨h.ts0, h.ts1, fun x hx => ?_, h.len, h.rs, h.bot, h.srt, hdist, by simp only; omega, by simp only; omega⟩
    rcases List.mem_append.1 hx with hx | hx
    · exact h.top x hx
    · obtain rfl : x = it := by simpa using hx
      exact ⟨ht, h2⟩
  · rw [if_neg ht] at hdist ⊢
    obtain ⟨i1, i2, i3, i4⟩ := insR_ok (it := it) h.rs (by omega) h1 h2
    have hle := insR_le l.rs it
    cases hb : (insR l.rs it).2.2 with
    | true =>
      rw [hb, if_pos rfl] at hdist
      rw [if_pos rfl]
      exact ⟨h.ts0, h.ts1, h.top, by simp only; have := h.len; omega, i1, fun x hx => by simp only at hx ⊢; rw [i2]; exact h.bot x hx, h.srt, hdist, by simp only; omega, by simp only; omega⟩
    | false =>
      rw [hb, if_neg (by simp)] at hdist
      rw [if_neg (by simp)]
      obtain ⟨q1, q2⟩ := i4 hb
      refine ⟨h.ts0, h.ts1, h.top, h.len, h.rs, fun x hx => ?_, ?_, hdist, by simp only; omega, by simp only; omega⟩
      · rcases List.mem_cons.1 ((plI_perm l.bot it).subset hx) with rfl | hx
        · exact ⟨h1, h2, q2⟩
        · exact h.bot x hx
      · refine strict_of (plI_sorted h.srt.sorted it) (DistI.perm (List.pairwise_cons.2 ⟨fun x hx => hd x ?_, h.srt.dist⟩) (plI_perm l.bot it).symm)
        unfold itemsL
        exact List.mem_append_left _ (List.mem_append_right _ hx)
end Go.Proofs.Ytneodiemgemhfaa
