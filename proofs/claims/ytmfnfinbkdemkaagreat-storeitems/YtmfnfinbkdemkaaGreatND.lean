/- Plain maths: a ladder queue as lists, its operations, when it is valid. Nothing of the program. -/
/- Plain maths: Insert and the steps of refilling keep a ladder queue valid and its items. Nothing of the program. -/
/- Plain maths: a step of refilling keeps a ladder queue valid, its items, and comes nearer to the end; what it costs. Nothing of the program. -/
import Derived.Test.YtmfnfinbkdemkaaGreatNA
namespace Go.Proofs.YtmfnfinbkdemkaaGreat

structure Ld where
  ts : Int
  top : List It
  rs : List Rg
  bot : List It
  mv : Int
  cp : Int
def itsR (r : Rg) : List It := r.bs.flatten
def itsRs (rs : List Rg) : List It := (rs.map itsR).flatten
def itemsL (l : Ld) : List It := l.top ++ l.bot ++ itsRs l.rs
theorem itsRs_append (a b : List Rg) : itsRs (a ++ b) = itsRs a ++ itsRs b := by simp [itsRs]
theorem itsRs_cons (r : Rg) (rs : List Rg) : itsRs (r :: rs) = itsR r ++ itsRs rs := by simp [itsRs]
theorem itsR_length (r : Rg) : (itsR r).length = lenL r.bs := by simp [itsR, lenL, List.length_flatten]
theorem mem_itsR {r : Rg} {it : It} : it ∈ itsR r ↔ ∃ i, i < r.bs.length ∧ it ∈ bAt r.bs i := by
  unfold itsR
  rw [List.mem_flatten]
  constructor
  · rintro ⟨b, hb, hit⟩
    obtain ⟨i, hi, rfl⟩ := List.mem_iff_getElem.1 hb
    exact ⟨i, hi, by rw [bAt_get hi]; exact hit⟩
  · rintro ⟨i, hi, hit⟩
    rw [bAt_get hi] at hit
    exact ⟨_, List.getElem_mem hi, hit⟩
theorem flatten_set_perm : ∀ {bs : List (List It)} {i : Nat} (h : i < bs.length) (s : List It), ((bs.set i s).flatten ++ bs[i]).Perm (s ++ bs.flatten)
  | b :: bs, 0, _, s => by
    simp only [List.set_cons_zero, List.flatten_cons, List.getElem_cons_zero, List.append_assoc]
    exact (List.perm_append_comm).append_left s
  | b :: bs, i + 1, h, s => by
    have ih := flatten_set_perm (bs := bs) (i := i) (by simpa using h) s
    simp only [List.set_cons_succ, List.flatten_cons, List.getElem_cons_succ, List.append_assoc]
    refine (ih.append_left b).trans ?_
    rw [← List.append_assoc, ← List.append_assoc]
    exact (List.perm_append_comm).append_right _
theorem addR_its {r : Rg} (hg : GoodR r) {it : It} (hf : Fits r it.t) : (itsR (addR r it)).Perm (it :: itsR r) := by
  have hi : ixR r it.t < r.bs.length := by rw [hg.len]; exact (hg.ix hf).1
  have h := flatten_set_perm hi (bAt r.bs (ixR r it.t) ++ [it])
  rw [bAt_get hi] at h
  have h2 : ((r.bs.set (ixR r it.t) (r.bs[ixR r it.t] ++ [it])).flatten ++ r.bs[ixR r it.t]).Perm ((it :: r.bs.flatten) ++ r.bs[ixR r it.t]) := by
    refine h.trans ?_
    rw [List.append_assoc]
    exact List.perm_append_comm
  have h3 := (List.perm_append_right_iff _).1 h2
  unfold itsR addR
  rw [bAt_get hi]
  exact h3
theorem takeR_its {r : Rg} {i : Nat} (hi : i < r.bs.length) : (bAt r.bs i ++ itsR (takeR r i)).Perm (itsR r) := by
  have h := flatten_set_perm hi []
  rw [List.nil_append] at h
  unfold itsR takeR
  rw [bAt_get hi]
  exact List.perm_append_comm.trans h
/-- Put, over a list. -/
def spreadR (f d : Int) (its : List It) : Rg := its.foldl (fun r it => (putR r it).1) (newR f d)
theorem putR_cu (r : Rg) (it : It) : (putR r it).1.cu = r.cu := by unfold putR; split <;> rfl
theorem fold_put {f d : Int} : ∀ (its : List It) (r : Rg), GoodR r → r.fr = f → r.wd = d → r.cu = 0 → (∀ it ∈ its, f ≤ it.t ∧ it.t < f + 8 * d) →
    GoodR (its.foldl (fun r it => (putR r it).1) r) ∧ (its.foldl (fun r it => (putR r it).1) r).fr = f ∧ (its.foldl (fun r it => (putR r it).1) r).wd = d ∧ (its.foldl (fun r it => (putR r it).1) r).cu = 0 ∧ (itsR (its.foldl (fun r it => (putR r it).1) r)).Perm (its ++ itsR r)
  | [], r, hg, h1, h2, h3, _ => ⟨hg, h1, h2, h3, List.Perm.refl _⟩
  | x :: xs, r, hg, h1, h2, h3, hin => by
    have hx := hin x (List.mem_cons_self)
    have hf : Fits r x.t := by unfold Fits curT endT; rw [h1, h2, h3]; omega
    have h := fold_put (f := f) (d := d) xs (putR r x).1 (hg.put x) (by rw [(putR_fr r x).1]; exact h1) (by rw [(putR_fr r x).2]; exact h2) (by rw [putR_cu]; exact h3) (fun it hit => hin it (List.mem_cons_of_mem _ hit))
    refine ⟨h.1, h.2.1, h.2.2.1, h.2.2.2.1, h.2.2.2.2.trans ?_⟩
    rw [putR_yes hf]
    refine ((addR_its hg hf).append_left xs).trans ?_
    exact List.perm_middle
theorem newR_its (f d : Int) : itsR (newR f d) = [] := by simp [itsR, newR]
theorem spread_good {f d : Int} (h1 : 0 ≤ f) (h2 : f ≤ 1152921504606846976) (h3 : 1 ≤ d) (h4 : d ≤ 144115188075855873) {its : List It} (hin : ∀ it ∈ its, f ≤ it.t ∧ it.t < f + 8 * d) :
    GoodR (spreadR f d its) ∧ (spreadR f d its).fr = f ∧ (spreadR f d its).wd = d ∧ (spreadR f d its).cu = 0 ∧ (itsR (spreadR f d its)).Perm its := by
  have h := fold_put its (newR f d) (newR_good h1 h2 h3 h4) rfl rfl rfl hin
  refine ⟨h.1, h.2.1, h.2.2.1, h.2.2.2.1, ?_⟩
  have h5 := h.2.2.2.2
  rw [newR_its, List.append_nil] at h5
  exact h5

def minT (x : Int) (l : List It) : Int := l.foldl (fun a it => min a it.t) x
def maxT (x : Int) (l : List It) : Int := l.foldl (fun a it => max a it.t) x
theorem minT_le : ∀ (l : List It) (x : Int), minT x l ≤ x ∧ (∀ it ∈ l, minT x l ≤ it.t) ∧ (minT x l = x ∨ ∃ it ∈ l, minT x l = it.t)
  | [], x => ⟨Int.le_refl _, fun it h => by simp at h, .inl rfl⟩
  | y :: ys, x => by
    obtain ⟨h1, h2, h3⟩ := minT_le ys (min x y.t)
    have e : minT x (y :: ys) = minT (min x y.t) ys := rfl
    rw [e]
    refine ⟨by omega, fun it hit => ?_, ?_⟩
    · rcases List.mem_cons.1 hit with rfl | hit
      · omega
      · exact h2 it hit
    · rcases h3 with h3 | ⟨it, hit, h3⟩
      · by_cases hm : x ≤ y.t
        · exact .inl (by omega)
        · exact .inr ⟨y, List.mem_cons_self, by omega⟩
      · exact .inr ⟨it, List.mem_cons_of_mem _ hit, h3⟩
theorem maxT_le : ∀ (l : List It) (x : Int), x ≤ maxT x l ∧ (∀ it ∈ l, it.t ≤ maxT x l) ∧ (maxT x l = x ∨ ∃ it ∈ l, maxT x l = it.t)
  | [], x => ⟨Int.le_refl _, fun it h => by simp at h, .inl rfl⟩
  | y :: ys, x => by
    obtain ⟨h1, h2, h3⟩ := maxT_le ys (max x y.t)
    have e : maxT x (y :: ys) = maxT (max x y.t) ys := rfl
    rw [e]
    refine ⟨by omega, fun it hit => ?_, ?_⟩
    · rcases List.mem_cons.1 hit with rfl | hit
      · omega
      · exact h2 it hit
    · rcases h3 with h3 | ⟨it, hit, h3⟩
      · by_cases hm : y.t ≤ x
        · exact .inl (by omega)
        · exact .inr ⟨y, List.mem_cons_self, by omega⟩
      · exact .inr ⟨it, List.mem_cons_of_mem _ hit, h3⟩

/-- Put into the first rung whose current time is at most the item's: the rungs then, how many were examined, whether there was one. -/
def insR : List Rg → It → List Rg × Nat × Bool
  | [], _ => ([], 0, false)
  | r :: rs, it => if curT r ≤ it.t then ((putR r it).1 :: rs, 1, true) else (r :: (insR rs it).1, (insR rs it).2.1 + 1, (insR rs it).2.2)
theorem insR_at : ∀ {rs : List Rg} {it : It} {k : Nat} (hk : k < rs.length), (∀ j (h : j < k), ¬ curT (rs[j]'(by omega)) ≤ it.t) → curT rs[k] ≤ it.t → insR rs it = (rs.set k (putR rs[k] it).1, k + 1, true)
  | r :: rs, it, 0, _, _, h => by
    have h' : curT r ≤ it.t := h
    rw [insR, if_pos h']; rfl
  | r :: rs, it, k + 1, hk, h0, h => by
    have h1 : ¬ curT r ≤ it.t := h0 0 (by omega)
    have ih := insR_at (rs := rs) (it := it) (k := k) (by simpa using hk) (fun j hj => h0 (j + 1) (by omega)) (by simpa using h)
    rw [insR, if_neg h1, ih]
    simp
theorem insR_no : ∀ {rs : List Rg} {it : It}, (∀ j (h : j < rs.length), ¬ curT rs[j] ≤ it.t) → insR rs it = (rs, rs.length, false)
  | [], _, _ => rfl
  | r :: rs, it, h => by
    have h1 : ¬ curT r ≤ it.t := h 0 (by simp)
    have ih := insR_no (rs := rs) (it := it) (fun j hj => h (j + 1) (by simpa using hj))
    rw [insR, if_neg h1, ih]
    simp
theorem insR_le : ∀ (rs : List Rg) (it : It), (insR rs it).2.1 ≤ rs.length ∧ (insR rs it).1.length = rs.length
  | [], _ => by simp [insR]
  | r :: rs, it => by
    have ih := insR_le rs it
    unfold insR
    split
    · simp
    · simp; omega
def insertL (l : Ld) (it : It) : Ld :=
  if l.ts ≤ it.t then { l with top := l.top ++ [it], mv := l.mv + 1, cp := l.cp + 1 }
  else if (insR l.rs it).2.2 then { l with rs := (insR l.rs it).1, mv := l.mv + 1, cp := l.cp + 1 + (insR l.rs it).2.1 }
  else { l with bot := plI l.bot it, mv := l.mv + 1, cp := l.cp + 1 + (insR l.rs it).2.1 }

def fromTop (l : Ld) : Ld :=
  if l.top.length ≤ 4 then { ts := maxT (l.top.headD default).t l.top + 1, top := [], rs := l.rs, bot := sortI l.top, mv := l.mv + l.top.length, cp := l.cp }
  else { ts := maxT (l.top.headD default).t l.top + 1, top := [], rs := l.rs ++ [spreadR (minT (l.top.headD default).t l.top) ((maxT (l.top.headD default).t l.top - minT (l.top.headD default).t l.top) / 8 + 1) l.top], bot := l.bot, mv := l.mv + l.top.length, cp := l.cp }
/-- A step from the last rung r, the rungs before it rs0. -/
def fromRung (l : Ld) (rs0 : List Rg) (r : Rg) : Ld :=
  if (nextR r).2.2.2 = false then { l with rs := rs0 }
  else if 4 < (nextR r).2.1.length ∧ rs0.length + 1 < 4 ∧ 1 < r.wd then { l with rs := rs0 ++ [(nextR r).1] ++ [spreadR (nextR r).2.2.1 ((r.wd + 7) / 8) (nextR r).2.1], mv := l.mv + (nextR r).2.1.length }
  else { l with rs := rs0 ++ [(nextR r).1], bot := sortI (nextR r).2.1, mv := l.mv + (nextR r).2.1.length }
def stepL (l : Ld) : Ld := match l.rs.getLast? with
  | none => fromTop l
  | some r => fromRung l l.rs.dropLast r
theorem stepL_top {l : Ld} (h : l.rs = []) : stepL l = fromTop l := by simp [stepL, h]
theorem stepL_rung {l : Ld} {rs0 : List Rg} {r : Rg} (h : l.rs = rs0 ++ [r]) : stepL l = fromRung l rs0 r := by simp [stepL, h]

def MaxT : Int := 1152921504606846976
/-- The least of the bound and of the current times. -/
def boundR (b : Int) (rs : List Rg) : Int := rs.foldl (fun b r => min b (curT r)) b
theorem boundR_append (b : Int) (rs : List Rg) (r : Rg) : boundR b (rs ++ [r]) = min (boundR b rs) (curT r) := by simp [boundR]
theorem boundR_le (rs : List Rg) : ∀ b, boundR b rs ≤ b ∧ ∀ r ∈ rs, boundR b rs ≤ curT r := by
  induction rs with
  | nil => intro b; exact ⟨Int.le_refl _, fun r h => by simp at h⟩
  | cons r rs ih =>
    intro b
    have h := ih (min b (curT r))
    have e : boundR b (r :: rs) = boundR (min b (curT r)) rs := rfl
    rw [e]
    refine ⟨by have := h.1; omega, fun x hx => ?_⟩
    rcases List.mem_cons.1 hx with rfl | hx
    · have := h.1; omega
    · exact h.2 x hx
theorem boundR_gt : ∀ (rs : List Rg) (b t : Int), t < b → (∀ r ∈ rs, t < curT r) → t < boundR b rs
  | [], _, _, h, _ => h
  | r :: rs, b, t, h, k => by
    have e : boundR b (r :: rs) = boundR (min b (curT r)) rs := rfl
    rw [e]
    exact boundR_gt rs _ t (by have := k r (List.mem_cons_self); omega) (fun x hx => k x (List.mem_cons_of_mem _ hx))
structure OkR (b : Int) (r : Rg) : Prop where
  good : GoodR r
  ends : b ≤ endT r
  its : ∀ it ∈ itsR r, it.t < b ∧ it.t ≤ MaxT
def OkRs : Int → List Rg → Prop
  | _, [] => True
  | b, r :: rs => OkR b r ∧ OkRs (min b (curT r)) rs
theorem okRs_append : ∀ (rs : List Rg) (b : Int) (r : Rg), OkRs b (rs ++ [r]) ↔ OkRs b rs ∧ OkR (boundR b rs) r
  | [], b, r => by simp [OkRs, boundR]
  | x :: xs, b, r => by
    have ih := okRs_append xs (min b (curT x)) r
    have e : boundR b (x :: xs) = boundR (min b (curT x)) xs := rfl
    simp only [List.cons_append, OkRs, ih, e, and_assoc]
structure GoodL (l : Ld) : Prop where
  ts0 : 0 ≤ l.ts
  ts1 : l.ts ≤ MaxT + 1
  top : ∀ it ∈ l.top, l.ts ≤ it.t ∧ it.t ≤ MaxT
  len : l.rs.length ≤ 4
  rs : OkRs l.ts l.rs
  bot : ∀ it ∈ l.bot, 0 ≤ it.t ∧ it.t ≤ MaxT ∧ it.t < boundR l.ts l.rs
  srt : StrictI l.bot
  dist : DistI (itemsL l)
  mv0 : 0 ≤ l.mv
  cp0 : 0 ≤ l.cp
end Go.Proofs.YtmfnfinbkdemkaaGreat
namespace Go.Proofs.YtmfnfinbkdemkaaGreat

theorem GoodR.its_lo {r : Rg} (h : GoodR r) {it : It} (hit : it ∈ itsR r) : curT r ≤ it.t ∧ 0 ≤ it.t := by
  obtain ⟨i, hi, hm⟩ := mem_itsR.1 hit
  have hi8 : i < 8 := by rw [h.len] at hi; exact hi
  have hb := (h.inb i hi8 it hm).1
  have hc : r.cu ≤ (i : Int) := by
    apply Classical.byContradiction
    intro hlt
    rw [h.low i hi8 (by omega)] at hm
    simp at hm
  have hmm := mul_mono (a := r.cu) (b := (i : Int)) (w := r.wd) hc h.wd0
  have ht := h.times
  unfold curT at ht ⊢
  omega
theorem okRs_mem : ∀ {rs : List Rg} {b : Int} {r : Rg}, OkRs b rs → r ∈ rs → GoodR r ∧ ∀ it ∈ itsR r, it.t < b ∧ it.t ≤ MaxT
  | x :: xs, b, r, h, hr => by
    rcases List.mem_cons.1 hr with rfl | hr
    · exact ⟨h.1.good, h.1.its⟩
    · obtain ⟨h1, h2⟩ := okRs_mem h.2 hr
      exact ⟨h1, fun it hit => ⟨by have := (h2 it hit).1; omega, (h2 it hit).2⟩⟩
theorem mem_itsRs {rs : List Rg} {it : It} : it ∈ itsRs rs ↔ ∃ r ∈ rs, it ∈ itsR r := by
  unfold itsRs
  rw [List.mem_flatten]
  constructor
  · rintro ⟨b, hb, hit⟩
    obtain ⟨r, hr, rfl⟩ := List.mem_map.1 hb
    exact ⟨r, hr, hit⟩
  · rintro ⟨r, hr, hit⟩
    exact ⟨_, List.mem_map.2 ⟨r, hr, rfl⟩, hit⟩
/-- All items of a valid queue have times in 0..MaxT; those of the bottom are before all others. -/
theorem GoodL.times {l : Ld} (h : GoodL l) {it : It} (hit : it ∈ itemsL l) : 0 ≤ it.t ∧ it.t ≤ MaxT := by
  have := h.ts0
  rcases List.mem_append.1 hit with hit | hit
  · rcases List.mem_append.1 hit with hit | hit
    · have := h.top it hit; omega
    · have := h.bot it hit; omega
  · obtain ⟨r, hr, hi⟩ := mem_itsRs.1 hit
    obtain ⟨h1, h2⟩ := okRs_mem h.rs hr
    exact ⟨(h1.its_lo hi).2, (h2 it hi).2⟩
theorem GoodL.before {l : Ld} (h : GoodL l) {x y : It} (hx : x ∈ l.bot) (hy : y ∈ l.top ∨ y ∈ itsRs l.rs) : x.t < y.t := by
  have hb := (h.bot x hx).2.2
  have hl := boundR_le l.rs l.ts
  rcases hy with hy | hy
  · have := (h.top y hy).1
    have := hl.1
    omega
  · obtain ⟨r, hr, hi⟩ := mem_itsRs.1 hy
    obtain ⟨h1, _⟩ := okRs_mem h.rs hr
    have := (h1.its_lo hi).1
    have := hl.2 r hr
    omega

/-- Put into the rungs. -/
theorem insR_ok : ∀ {rs : List Rg} {b : Int} {it : It}, OkRs b rs → it.t < b → 0 ≤ it.t → it.t ≤ MaxT →
    OkRs b (insR rs it).1 ∧ boundR b (insR rs it).1 = boundR b rs ∧ ((insR rs it).2.2 = true → (itsRs (insR rs it).1).Perm (it :: itsRs rs)) ∧ ((insR rs it).2.2 = false → (insR rs it).1 = rs ∧ it.t < boundR b rs)
  | [], b, it, _, h1, _, _ => ⟨trivial, rfl, fun h => by simp [insR] at h, fun _ => ⟨rfl, h1⟩⟩
  | r :: rs, b, it, h, h1, h2, h3 => by
    by_cases hc : curT r ≤ it.t
    · have hf : Fits r it.t := ⟨hc, by have := h.1.ends; omega⟩
      have e : insR (r :: rs) it = ((putR r it).1 :: rs, 1, true) := by rw [insR, if_pos hc]
      have ec : curT (putR r it).1 = curT r := by unfold curT; rw [(putR_fr r it).1, (putR_fr r it).2, putR_cu]
      have ee : endT (putR r it).1 = endT r := by unfold endT; rw [(putR_fr r it).1, (putR_fr r it).2]
      have hp : (itsR (putR r it).1).Perm (it :: itsR r) := by rw [putR_yes hf]; exact addR_its h.1.good hf
      rw [e]
      refine ⟨⟨⟨h.1.good.put it, by rw [ee]; exact h.1.ends, fun x hx => ?_⟩, by rw [ec]; exact h.2⟩, ?_, fun _ => ?_, fun h => by simp at h⟩
      · rcases List.mem_cons.1 (hp.subset hx) with rfl | hx
        · exact ⟨h1, h3⟩
        · exact h.1.its x hx
      · show boundR (min b (curT (putR r it).1)) rs = boundR (min b (curT r)) rs
        rw [ec]
      · rw [itsRs_cons, itsRs_cons]
        exact hp.append_right _
    · have e : insR (r :: rs) it = (r :: (insR rs it).1, (insR rs it).2.1 + 1, (insR rs it).2.2) := by rw [insR, if_neg hc]
      obtain ⟨i1, i2, i3, i4⟩ := insR_ok (it := it) h.2 (by omega) h2 h3
      rw [e]
      refine ⟨⟨h.1, i1⟩, i2, fun hb => ?_, fun hb => ?_⟩
      · have := i3 hb
        rw [itsRs_cons, itsRs_cons]
        exact (this.append_left (itsR r)).trans List.perm_middle
      · obtain ⟨q1, q2⟩ := i4 hb
        exact ⟨by rw [q1], q2⟩
theorem insert_its {l : Ld} (h : GoodL l) {it : It} (h1 : 0 ≤ it.t) (h2 : it.t ≤ MaxT) : (itemsL (insertL l it)).Perm (it :: itemsL l) := by
  unfold insertL
  by_cases ht : l.ts ≤ it.t
  · rw [if_pos ht]
    unfold itemsL
    simp only [List.append_assoc]
    exact List.perm_middle
  · rw [if_neg ht]
    obtain ⟨_, _, i3, i4⟩ := insR_ok (it := it) h.rs (by omega) h1 h2
    cases hb : (insR l.rs it).2.2 with
    | true =>
      rw [if_pos rfl]
      unfold itemsL
      simp only
      exact ((i3 hb).append_left (l.top ++ l.bot)).trans List.perm_middle
    | false =>
      rw [if_neg (by simp)]
      unfold itemsL
      simp only [List.append_assoc]
      refine (((plI_perm l.bot it).append_right _).append_left l.top).trans ?_
      exact List.perm_middle
theorem insert_good {l : Ld} (h : GoodL l) {it : It} (h1 : 0 ≤ it.t) (h2 : it.t ≤ MaxT) (hd : ∀ x ∈ itemsL l, ¬ eqK it x) : GoodL (insertL l it) := by
  have hp := insert_its h h1 h2
  have hdist : DistI (itemsL (insertL l it)) := DistI.perm (List.pairwise_cons.2 ⟨hd, h.dist⟩) hp.symm
  have hm := h.mv0
  have hcp := h.cp0
  unfold insertL at hdist ⊢
  by_cases ht : l.ts ≤ it.t
  · rw [if_pos ht] at hdist ⊢
    refine ⟨h.ts0, h.ts1, fun x hx => ?_, h.len, h.rs, h.bot, h.srt, hdist, by simp only; omega, by simp only; omega⟩
    rcases List.mem_append.1 hx with hx | hx
    · exact h.top x hx
    · obtain rfl : x = it := by simpa using hx
      exact ⟨ht, h2⟩
  · rw [if_neg ht] at hdist ⊢
    obtain ⟨i1, i2, i3, i4⟩ := insR_ok (it := it) h.rs (by omega) h1 h2
    have hle := insR_le l.rs it
    cases hb : (insR l.rs it).2.2 with
    | true =>
      rw [hb, if_pos rfl] at hdist
      rw [if_pos rfl]
      exact ⟨h.ts0, h.ts1, h.top, by simp only; have := h.len; omega, i1, fun x hx => by simp only at hx ⊢; rw [i2]; exact h.bot x hx, h.srt, hdist, by simp only; omega, by simp only; omega⟩
    | false =>
      rw [hb, if_neg (by simp)] at hdist
      rw [if_neg (by simp)]
      obtain ⟨q1, q2⟩ := i4 hb
      refine ⟨h.ts0, h.ts1, h.top, h.len, h.rs, fun x hx => ?_, ?_, hdist, by simp only; omega, by simp only; omega⟩
      · rcases List.mem_cons.1 ((plI_perm l.bot it).subset hx) with rfl | hx
        · exact ⟨h1, h2, q2⟩
        · exact h.bot x hx
      · refine strict_of (plI_sorted h.srt.sorted it) (DistI.perm (List.pairwise_cons.2 ⟨fun x hx => hd x ?_, h.srt.dist⟩) (plI_perm l.bot it).symm)
        unfold itemsL
        exact List.mem_append_left _ (List.mem_append_right _ hx)
end Go.Proofs.YtmfnfinbkdemkaaGreat
namespace Go.Proofs.YtmfnfinbkdemkaaGreat

def mesRs : Nat → List Rg → Nat
  | _, [] => 0
  | e, r :: rs => (9 - r.cu).toNat * 10 ^ e + mesRs (e - 1) rs
theorem mesRs_append : ∀ (rs : List Rg) (e : Nat) (r : Rg), mesRs e (rs ++ [r]) = mesRs e rs + (9 - r.cu).toNat * 10 ^ (e - rs.length)
  | [], e, r => by simp [mesRs]
  | x :: xs, e, r => by
    have ih := mesRs_append xs (e - 1) r
    simp only [List.cons_append, mesRs, ih, List.length_cons]
    rw [show e - (xs.length + 1) = e - 1 - xs.length by omega]
    omega
def mes (l : Ld) : Nat := (if l.top = [] then 0 else 1000000) + mesRs 4 l.rs
def potRs : Nat → List Rg → Nat
  | _, [] => 0
  | e, r :: rs => e * lenL r.bs + potRs (e - 1) rs
theorem potRs_append : ∀ (rs : List Rg) (e : Nat) (r : Rg), potRs e (rs ++ [r]) = potRs e rs + (e - rs.length) * lenL r.bs
  | [], e, r => by simp [potRs]
  | x :: xs, e, r => by
    have ih := potRs_append xs (e - 1) r
    simp only [List.cons_append, potRs, ih, List.length_cons]
    rw [show e - (xs.length + 1) = e - 1 - xs.length by omega]
    omega
/-- Moves so far, and how many the items may still make. -/
def pot (l : Ld) : Int := l.mv + 5 * l.top.length + potRs 4 l.rs
theorem pow_gt {k : Nat} (h : k + 1 ≤ 4) : 9 * 10 ^ (4 - (k + 1)) < 10 ^ (4 - k) := by
  rcases (show k = 0 ∨ k = 1 ∨ k = 2 ∨ k = 3 by omega) with rfl | rfl | rfl | rfl <;> decide
theorem pow_pos4 (k : Nat) : 0 < 10 ^ (4 - k) := Nat.pow_pos (by decide)
theorem lenL_perm {r : Rg} {l : List It} (h : (itsR r).Perm l) : lenL r.bs = l.length := by rw [← itsR_length]; exact h.length_eq

/-- What a step brings. -/
structure Stepped (l l' : Ld) : Prop where
  good : GoodL l'
  its : (itemsL l').Perm (itemsL l)
  mes : mes l' < mes l
  pot : pot l' ≤ pot l
  mv : l.mv ≤ l'.mv
  cp : l'.cp = l.cp
theorem dist_top {l : Ld} (h : DistI (itemsL l)) : DistI l.top := by
  unfold itemsL at h
  unfold DistI at *
  exact (List.pairwise_append.1 (List.pairwise_append.1 h).1).1
theorem fromTop_ok {l : Ld} (h : GoodL l) (hb : l.bot = []) (hr : l.rs = []) (ht : l.top ≠ []) : Stepped l (fromTop l) := by
  obtain ⟨ts, top, rs, bot, mv, cp⟩ := l
  simp only at hb hr ht
  subst hb hr
  obtain ⟨x, xs, rfl⟩ := List.exists_cons_of_ne_nil ht
  have hmx := maxT_le (x :: xs) x.t
  have hmn := minT_le (x :: xs) x.t
  have htop := h.top
  have hdt := dist_top h.dist
  have hts := h.ts0
  have hmv := h.mv0
  have hcp := h.cp0
  simp only at htop hdt hts hmv hcp
  have hx := htop x (List.mem_cons_self)
  have hhi : 0 ≤ maxT x.t (x :: xs) ∧ maxT x.t (x :: xs) ≤ MaxT := by
    rcases hmx.2.2 with e | ⟨it, hit, e⟩
    · rw [e]; omega
    · have := htop it hit; omega
  have hlo : 0 ≤ minT x.t (x :: xs) ∧ minT x.t (x :: xs) ≤ MaxT := by
    rcases hmn.2.2 with e | ⟨it, hit, e⟩
    · rw [e]; omega
    · have := htop it hit; omega
  have hle : minT x.t (x :: xs) ≤ maxT x.t (x :: xs) := by have := hmx.1; have := hmn.1; omega
  have hmes : mes ⟨ts, x :: xs, [], [], mv, cp⟩ = 1000000 := by simp [mes, mesRs]
  unfold fromTop
  simp only [List.headD_cons]
  generalize maxT x.t (x :: xs) = hi at *
  generalize minT x.t (x :: xs) = lo at *
  generalize hL : x :: xs = L at *
  by_cases h4 : L.length ≤ 4
  · rw [if_pos h4]
    refine ⟨⟨by simp only; omega, by simp only; omega, fun it hit => by simp at hit, by simp, trivial, fun it hit => ?_, sortI_strict hdt, ?_, by simp only; omega, hcp⟩, ?_, ?_, ?_, by simp only; omega, rfl⟩
    · have hit := (sortI_perm L).subset hit
      have h1 := htop it hit
      have h2 := hmx.2.1 it hit
      exact ⟨by omega, h1.2, by simp only [boundR, List.foldl_nil]; omega⟩
    · unfold itemsL itsRs
      simp only [List.nil_append, List.map_nil, List.flatten_nil, List.append_nil]
      exact (sortI_strict hdt).dist
    · unfold itemsL itsRs
      simp only [List.nil_append, List.map_nil, List.flatten_nil, List.append_nil]
      exact sortI_perm L
    · rw [hmes]; simp [mes, mesRs]
    · simp only [pot, List.length_nil]
      omega
  · rw [if_neg h4]
    have hMx : MaxT = 1152921504606846976 := rfl
    have hw : lo + 8 * ((hi - lo) / 8 + 1) ≥ hi + 1 := by omega
    obtain ⟨s1, s2, s3, s4, s5⟩ := spread_good (f := lo) (d := (hi - lo) / 8 + 1) (its := L) (by omega) (by omega) (by omega) (by omega) (fun it hit => ⟨hmn.2.1 it hit, by have := hmx.2.1 it hit; omega⟩)
    generalize spreadR lo ((hi - lo) / 8 + 1) L = sp at *
    have hcu : curT sp = lo := by unfold curT; rw [s2, s4]; omega
    have hen : endT sp = lo + 8 * ((hi - lo) / 8 + 1) := by unfold endT; rw [s2, s3]
    have hln := lenL_perm s5
    refine ⟨⟨by simp only; omega, by simp only; omega, fun it hit => by simp at hit, by simp, ⟨⟨s1, by rw [hen]; simp only; omega, fun it hit => ?_⟩, trivial⟩, fun it hit => by simp at hit, List.Pairwise.nil, ?_, by simp only; omega, hcp⟩, ?_, ?_, ?_, by simp only; omega, rfl⟩
    · have hit := s5.subset hit
      have h1 := htop it hit
      have h2 := hmx.2.1 it hit
      exact ⟨by simp only; omega, h1.2⟩
    · unfold itemsL itsRs
      simp only [List.nil_append, List.map_cons, List.map_nil, List.flatten_cons, List.flatten_nil, List.append_nil]
      exact hdt.perm s5.symm
    · unfold itemsL itsRs
      simp only [List.nil_append, List.map_cons, List.map_nil, List.flatten_cons, List.flatten_nil, List.append_nil]
      exact s5
    · rw [hmes]; simp [mes, mesRs, s4]
    · simp only [pot, potRs, List.nil_append, List.length_nil, hln]
      omega

theorem perm_swap3 (A B C : List It) : (A ++ (B ++ C)).Perm (B ++ (A ++ C)) := by
  rw [← List.append_assoc, ← List.append_assoc]
  exact List.perm_append_comm.append_right C
theorem fromRung_ok {l : Ld} (h : GoodL l) (hb : l.bot = []) {rs0 : List Rg} {r : Rg} (hr : l.rs = rs0 ++ [r]) : Stepped l (fromRung l rs0 r) := by
  obtain ⟨ts, top, rs, bot, mv, cp⟩ := l
  simp only at hb hr
  subst hb hr
  have hrs := (okRs_append rs0 ts r).1 h.rs
  obtain ⟨hr0, hr1⟩ := hrs
  have hlen := h.len
  have hmv := h.mv0
  simp only [List.length_append, List.length_singleton] at hlen hmv
  have hl0 := h.ts0; have hl1 := h.ts1
  simp only at hl0 hl1
  have hmb : mes ⟨ts, top, rs0 ++ [r], [], mv, cp⟩ = (if top = [] then 0 else 1000000) + (mesRs 4 rs0 + (9 - r.cu).toNat * 10 ^ (4 - rs0.length)) := by
    simp only [mes, mesRs_append]
  have hpb : pot ⟨ts, top, rs0 ++ [r], [], mv, cp⟩ = mv + 5 * top.length + (potRs 4 rs0 + (4 - rs0.length) * lenL r.bs : Nat) := by
    simp only [pot, potRs_append]
  have hib : itemsL ⟨ts, top, rs0 ++ [r], [], mv, cp⟩ = top ++ (itsRs rs0 ++ itsR r) := by
    simp [itemsL, itsRs]
  have hcu0 := hr1.good.cu0; have hcu8 := hr1.good.cu1
  have hpw := pow_pos4 rs0.length
  unfold fromRung
  rcases nextR_cases r with ⟨i, hi, hne, h0, e⟩ | ⟨h0, e⟩
  · have hi8 : i < 8 := by rw [hr1.good.len] at hi; exact hi
    have hcui : r.cu ≤ (i : Int) := by
      apply Classical.byContradiction
      intro hlt
      exact hne (hr1.good.low i hi8 (by omega))
    have hgt := hr1.good.take hi h0
    have hits := takeR_its hi
    have hin : ∀ it ∈ bAt r.bs i, r.fr + i * r.wd ≤ it.t ∧ it.t < r.fr + i * r.wd + r.wd ∧ it.t < boundR ts rs0 ∧ it.t ≤ MaxT ∧ 0 ≤ it.t := fun it hit => by
      have h1 := hr1.good.inb i hi8 it hit
      have h2 := hr1.its it (hits.subset (List.mem_append_left _ hit))
      have h3 := hr1.good.its_lo (hits.subset (List.mem_append_left _ hit))
      have h4 : ((i : Int) + 1) * r.wd = (i : Int) * r.wd + r.wd := by rw [Int.add_mul]; omega
      have h5 := h1.1; have h6 := h1.2
      exact ⟨h5, by omega, h2.1, h2.2, h3.2⟩
    have hct : curT (takeR r i) = r.fr + i * r.wd + r.wd := by
      have h4 : ((i : Int) + 1) * r.wd = (i : Int) * r.wd + r.wd := by rw [Int.add_mul]; omega
      simp only [curT, takeR]
      omega
    have hok : OkR (boundR ts rs0) (takeR r i) := ⟨hgt, hr1.ends, fun it hit => hr1.its it (hits.subset (List.mem_append_right _ hit))⟩
    have hdb : DistI (bAt r.bs i) := by
      have hd := h.dist
      rw [hib] at hd
      have h2 : DistI (itsR r) := (List.pairwise_append.1 (List.pairwise_append.1 hd).2.1).2.1
      exact (List.pairwise_append.1 (DistI.perm h2 hits.symm)).1
    have hlt : lenL r.bs = (bAt r.bs i).length + lenL (takeR r i).bs := by
      have h1 := hits.length_eq
      rw [List.length_append, itsR_length, itsR_length] at h1
      omega
    have hcut : (takeR r i).cu = (i : Int) + 1 := rfl
    have hmd : (9 - (takeR r i).cu).toNat + 1 ≤ (9 - r.cu).toNat := by rw [hcut]; omega
    have hmul := Nat.mul_le_mul_right (10 ^ (4 - rs0.length)) hmd
    rw [Nat.add_mul, Nat.one_mul] at hmul
    rw [e]
    simp only [Bool.true_eq_false, if_false]
    generalize hB : bAt r.bs i = B at *
    generalize hT : takeR r i = T at *
    by_cases hc : 4 < B.length ∧ rs0.length + 1 < 4 ∧ 1 < r.wd
    · rw [if_pos hc]
      have hMx : MaxT = 1152921504606846976 := rfl
      obtain ⟨y, hy⟩ := List.exists_mem_of_ne_nil B hne
      have hy2 := hin y hy
      have hpi := hr1.good.prod (i := i) (by omega) (by omega)
      have hf0 := hr1.good.fr0; have hw0 := hr1.good.wd0; have hw1 := hr1.good.wd1
      obtain ⟨s1, s2, s3, s4, s5⟩ := spread_good (f := r.fr + i * r.wd) (d := (r.wd + 7) / 8) (its := B) (by omega) (by omega) (by omega) (by omega) (fun it hit => ⟨(hin it hit).1, by have := (hin it hit).2.1; omega⟩)
      generalize spreadR (r.fr + i * r.wd) ((r.wd + 7) / 8) B = sp at *
      have hcu : curT sp = r.fr + i * r.wd := by unfold curT; rw [s2, s4]; omega
      have hen : endT sp = r.fr + i * r.wd + 8 * ((r.wd + 7) / 8) := by unfold endT; rw [s2, s3]
      have hln := lenL_perm s5
      have hii : itemsL ⟨ts, top, rs0 ++ [T] ++ [sp], [], mv + B.length, cp⟩ = top ++ (itsRs rs0 ++ (itsR T ++ itsR sp)) := by
        simp [itemsL, itsRs]
      have hperm : (itemsL ⟨ts, top, rs0 ++ [T] ++ [sp], [], mv + B.length, cp⟩).Perm (itemsL ⟨ts, top, rs0 ++ [r], [], mv, cp⟩) := by
        rw [hii, hib]
        refine ((List.Perm.append_left _ ?_).append_left _)
        exact ((s5.append_left (itsR T)).trans List.perm_append_comm).trans hits
      have hgood : OkRs ts (rs0 ++ [T] ++ [sp]) := by
        rw [okRs_append, okRs_append, boundR_append]
        refine ⟨⟨hr0, hok⟩, s1, ?_, fun it hit => ?_⟩
        · rw [hct, hen]; omega
        · have h1 := hin it (s5.subset hit)
          rw [hct]
          exact ⟨by omega, h1.2.2.2.1⟩
      refine ⟨⟨hl0, hl1, h.top, by simp; omega, hgood, fun it hit => by simp at hit, List.Pairwise.nil, h.dist.perm hperm.symm, by simp only; omega, h.cp0⟩, hperm, ?_, ?_, by simp only; omega, rfl⟩
      · rw [hmb]
        simp only [mes, mesRs_append, List.length_append, List.length_singleton, s4]
        have hp := pow_gt (k := rs0.length) (by omega)
        have h9 : (9 - (0 : Int)).toNat = 9 := rfl
        rw [h9]
        omega
      · rw [hpb]
        simp only [pot, potRs_append, List.length_append, List.length_singleton, hln]
        rw [hlt, Nat.mul_add]
        rcases (show rs0.length = 0 ∨ rs0.length = 1 ∨ rs0.length = 2 by omega) with hk | hk | hk <;> rw [hk] <;> omega
    · rw [if_neg hc]
      have hii : itemsL ⟨ts, top, rs0 ++ [T], sortI B, mv + B.length, cp⟩ = top ++ (sortI B ++ (itsRs rs0 ++ itsR T)) := by
        simp [itemsL, itsRs]
      have hperm : (itemsL ⟨ts, top, rs0 ++ [T], sortI B, mv + B.length, cp⟩).Perm (itemsL ⟨ts, top, rs0 ++ [r], [], mv, cp⟩) := by
        rw [hii, hib]
        refine List.Perm.append_left _ ?_
        refine (perm_swap3 _ _ _).trans ?_
        refine List.Perm.append_left _ ?_
        exact ((sortI_perm B).append_right _).trans hits
      refine ⟨⟨hl0, hl1, h.top, by simp; omega, (okRs_append _ _ _).2 ⟨hr0, hok⟩, fun it hit => ?_, sortI_strict hdb, h.dist.perm hperm.symm, by simp only; omega, h.cp0⟩, hperm, ?_, ?_, by simp only; omega, rfl⟩
      · have h1 := hin it ((sortI_perm B).subset hit)
        refine ⟨h1.2.2.2.2, h1.2.2.2.1, ?_⟩
        simp only [boundR_append]
        rw [hct]
        omega
      · rw [hmb]
        simp only [mes, mesRs_append]
        omega
      · rw [hpb]
        simp only [pot, potRs_append]
        rw [hlt, Nat.mul_add]
        have : B.length ≤ (4 - rs0.length) * B.length := Nat.le_mul_of_pos_left _ (by omega)
        omega
  · rw [e]
    simp only [if_true]
    have hemp : itsR r = [] := by
      cases hq : itsR r with
      | nil => rfl
      | cons y ys =>
        obtain ⟨i, hi, hm⟩ := mem_itsR.1 (show y ∈ itsR r by rw [hq]; exact List.mem_cons_self)
        rw [h0 i hi] at hm
        simp at hm
    have hii : itemsL ⟨ts, top, rs0, [], mv, cp⟩ = top ++ (itsRs rs0 ++ itsR r) := by
      simp [itemsL, hemp]
    refine ⟨⟨hl0, hl1, h.top, by simp only; omega, hr0, fun it hit => by simp at hit, List.Pairwise.nil, ?_, hmv, h.cp0⟩, ?_, ?_, ?_, Int.le_refl _, rfl⟩
    · rw [hii, ← hib]; exact h.dist
    · rw [hii, hib]
    · rw [hmb]
      simp only [mes]
      have h9 : 1 ≤ (9 - r.cu).toNat := by omega
      have := Nat.mul_le_mul_right (10 ^ (4 - rs0.length)) h9
      omega
    · rw [hpb]
      simp only [pot]
      omega
theorem step_ok {l : Ld} (h : GoodL l) (hb : l.bot = []) (hne : l.rs ≠ [] ∨ l.top ≠ []) : Stepped l (stepL l) := by
  by_cases hr : l.rs = []
  · rw [stepL_top hr]
    exact fromTop_ok h hb hr (hne.resolve_left (fun k => k hr))
  · obtain ⟨rs0, r, e⟩ : ∃ rs0 r, l.rs = rs0 ++ [r] := ⟨l.rs.dropLast, l.rs.getLast hr, (List.dropLast_concat_getLast hr).symm⟩
    rw [stepL_rung e]
    exact fromRung_ok h hb e
end Go.Proofs.YtmfnfinbkdemkaaGreat
