/- Plain maths: Insert and the steps of refilling keep a ladder queue valid and its items. Nothing of the program. -/
/- Plain maths: a step of refilling keeps a ladder queue valid, its items, and comes nearer to the end; what it costs. Nothing of the program. -/
import Derived.Test.YtpabapjodcafkaaGreatNB
namespace Go.Proofs.YtpabapjodcafkaaGreat

theorem GoodR.its_lo {r : Rg} (h : GoodR r) {it : It} (hit : it ∈ itsR r) : curT r ≤ it.t ∧ 0 ≤ it.t := by
  obtain ⟨i, hi, hm⟩ := mem_itsR.1 hit
  have hi8 : i < 8 := by rw [h.len] at hi; exact hi
  have hb := (h.inb i hi8 it hm).1
  have hc : r.cu ≤ (i : Int) := by
    apply Classical.byContradiction
    intro hlt
    rw [h.low i hi8 (by omega)] at hm
    simp at hm
  have hmm := mul_mono (a := r.cu) (b := (i : Int)) (w := r.wd) hc h.wd0
  have ht := h.times
  unfold curT at ht ⊢
  omega
theorem okRs_mem : ∀ {rs : List Rg} {b : Int} {r : Rg}, OkRs b rs → r ∈ rs → GoodR r ∧ ∀ it ∈ itsR r, it.t < b ∧ it.t ≤ MaxT
  | x :: xs, b, r, h, hr => by
    rcases List.mem_cons.1 hr with rfl | hr
    · exact ⟨h.1.good, h.1.its⟩
    · obtain ⟨h1, h2⟩ := okRs_mem h.2 hr
      exact ⟨h1, fun it hit => ⟨by have := (h2 it hit).1; omega, (h2 it hit).2⟩⟩
theorem mem_itsRs {rs : List Rg} {it : It} : it ∈ itsRs rs ↔ ∃ r ∈ rs, it ∈ itsR r := by
  unfold itsRs
  rw [List.mem_flatten]
  constructor
  · rintro ⟨b, hb, hit⟩
    obtain ⟨r, hr, rfl⟩ := List.mem_map.1 hb
    exact ⟨r, hr, hit⟩
  · rintro ⟨r, hr, hit⟩
    exact ⟨_, List.mem_map.2 ⟨r, hr, rfl⟩, hit⟩
/-- All items of a valid queue have times in 0..MaxT; those of the bottom are before all others. -/
theorem GoodL.times {l : Ld} (h : GoodL l) {it : It} (hit : it ∈ itemsL l) : 0 ≤ it.t ∧ it.t ≤ MaxT := by
  have := h.ts0
  rcases List.mem_append.1 hit with hit | hit
  · rcases List.mem_append.1 hit with hit | hit
    · have := h.top it hit; omega
    · have := h.bot it hit; omega
  · obtain ⟨r, hr, hi⟩ := mem_itsRs.1 hit
    obtain ⟨h1, h2⟩ := okRs_mem h.rs hr
    exact ⟨(h1.its_lo hi).2, (h2 it hi).2⟩
theorem GoodL.before {l : Ld} (h : GoodL l) {x y : It} (hx : x ∈ l.bot) (hy : y ∈ l.top ∨ y ∈ itsRs l.rs) : x.t < y.t := by
  have hb := (h.bot x hx).2.2
  have hl := boundR_le l.rs l.ts
  rcases hy with hy | hy
  · have := (h.top y hy).1
    have := hl.1
    omega
  · obtain ⟨r, hr, hi⟩ := mem_itsRs.1 hy
    obtain ⟨h1, _⟩ := okRs_mem h.rs hr
    have := (h1.its_lo hi).1
    have := hl.2 r hr
    omega

/-- Put into the rungs. -/
theorem insR_ok : ∀ {rs : List Rg} {b : Int} {it : It}, OkRs b rs → it.t < b → 0 ≤ it.t → it.t ≤ MaxT →
    OkRs b (insR rs it).1 ∧ boundR b (insR rs it).1 = boundR b rs ∧ ((insR rs it).2.2 = true → (itsRs (insR rs it).1).Perm (it :: itsRs rs)) ∧ ((insR rs it).2.2 = false → (insR rs it).1 = rs ∧ it.t < boundR b rs)
  | [], b, it, _, h1, _, _ => ⟨trivial, rfl, fun h => by simp [insR] at h, fun _ => ⟨rfl, h1⟩⟩
  | r :: rs, b, it, h, h1, h2, h3 => by
    by_cases hc : curT r ≤ it.t
    · have hf : Fits r it.t := ⟨hc, by have := h.1.ends; omega⟩
      have e : insR (r :: rs) it = ((putR r it).1 :: rs, 1, true) := by rw [insR, if_pos hc]
      have ec : curT (putR r it).1 = curT r := by unfold curT; rw [(putR_fr r it).1, (putR_fr r it).2, putR_cu]
      have ee : endT (putR r it).1 = endT r := by unfold endT; rw [(putR_fr r it).1, (putR_fr r it).2]
      have hp : (itsR (putR r it).1).Perm (it :: itsR r) := by rw [putR_yes hf]; exact addR_its h.1.good hf
      rw [e]
      refine ⟨⟨⟨h.1.good.put it, by rw [ee]; exact h.1.ends, fun x hx => ?_⟩, by rw [ec]; exact h.2⟩, ?_, fun _ => ?_, fun h => by simp at h⟩
      · rcases List.mem_cons.1 (hp.subset hx) with rfl | hx
        · exact ⟨h1, h3⟩
        · exact h.1.its x hx
      · show boundR (min b (curT (putR r it).1)) rs = boundR (min b (curT r)) rs
        rw [ec]
      · rw [itsRs_cons, itsRs_cons]
        exact hp.append_right _
    · have e : insR (r :: rs) it = (r :: (insR rs it).1, (insR rs it).2.1 + 1, (insR rs it).2.2) := by rw [insR, if_neg hc]
      obtain ⟨i1, i2, i3, i4⟩ := insR_ok (it := it) h.2 (by omega) h2 h3
      rw [e]
      refine ⟨⟨h.1, i1⟩, i2, fun hb => ?_, fun hb => ?_⟩
      · have := i3 hb
        rw [itsRs_cons, itsRs_cons]
        exact (this.append_left (itsR r)).trans List.perm_middle
      · obtain ⟨q1, q2⟩ := i4 hb
        exact ⟨by rw [q1], q2⟩
theorem insert_its {l : Ld} (h : GoodL l) {it : It} (h1 : 0 ≤ it.t) (h2 : it.t ≤ MaxT) : (itemsL (insertL l it)).Perm (it :: itemsL l) := by
  unfold insertL
  by_cases ht : l.ts ≤ it.t
  · rw [if_pos ht]
    unfold itemsL
    simp only [List.append_assoc]
    exact List.perm_middle
  · rw [if_neg ht]
    obtain ⟨_, _, i3, i4⟩ := insR_ok (it := it) h.rs (by omega) h1 h2
    cases hb : (insR l.rs it).2.2 with
    | true =>
      rw [if_pos rfl]
      unfold itemsL
      simp only
      exact ((i3 hb).append_left (l.top ++ l.bot)).trans List.perm_middle
    | false =>
      rw [if_neg (by simp)]
      unfold itemsL
      simp only [List.append_assoc]
      refine (((plI_perm l.bot it).append_right _).append_left l.top).trans ?_
      exact List.perm_middle
theorem insert_good {l : Ld} (h : GoodL l) {it : It} (h1 : 0 ≤ it.t) (h2 : it.t ≤ MaxT) (hd : ∀ x ∈ itemsL l, ¬ eqK it x) : GoodL (insertL l it) := by
  have hp := insert_its h h1 h2
  have hdist : DistI (itemsL (insertL l it)) := DistI.perm (List.pairwise_cons.2 ⟨hd, h.dist⟩) hp.symm
  have hm := h.mv0
  have hcp := h.cp0
  unfold insertL at hdist ⊢
  by_cases ht : l.ts ≤ it.t
  · rw [if_pos ht] at hdist ⊢
    refine ⟨h.ts0, h.ts1, fun x hx => ?_, h.len, h.rs, h.bot, h.srt, hdist, by simp only; omega, by simp only; omega⟩
    rcases List.mem_append.1 hx with hx | hx
    · exact h.top x hx
    · obtain rfl : x = it := by simpa using hx
      exact ⟨ht, h2⟩
  · rw [if_neg ht] at hdist ⊢
    obtain ⟨i1, i2, i3, i4⟩ := insR_ok (it := it) h.rs (by omega) h1 h2
    have hle := insR_le l.rs it
    cases hb : (insR l.rs it).2.2 with
    | true =>
      rw [hb, if_pos rfl] at hdist
      rw [if_pos rfl]
      exact ⟨h.ts0, h.ts1, h.top, by simp only; have := h.len; omega, i1, fun x hx => by simp only at hx ⊢; rw [i2]; exact h.bot x hx, h.srt, hdist, by simp only; omega, by simp only; omega⟩
    | false =>
      rw [hb, if_neg (by simp)] at hdist
      rw [if_neg (by simp)]
      obtain ⟨q1, q2⟩ := i4 hb
      refine ⟨h.ts0, h.ts1, h.top, h.len, h.rs, fun x hx => ?_, ?_, hdist, by simp only; omega, by simp only; omega⟩
      · rcases List.mem_cons.1 ((plI_perm l.bot it).subset hx) with rfl | hx
        · exact ⟨h1, h2, q2⟩
        · exact h.bot x hx
      · refine strict_of (plI_sorted h.srt.sorted it) (DistI.perm (List.pairwise_cons.2 ⟨fun x hx => hd x ?_, h.srt.dist⟩) (plI_perm l.bot it).symm)
        unfold itemsL
        exact List.mem_append_left _ (List.mem_append_right _ hx)
end Go.Proofs.YtpabapjodcafkaaGreat
namespace Go.Proofs.YtpabapjodcafkaaGreat

def mesRs : Nat → List Rg → Nat
  | _, [] => 0
  | e, r :: rs => (9 - r.cu).toNat * 10 ^ e + mesRs (e - 1) rs
theorem mesRs_append : ∀ (rs : List Rg) (e : Nat) (r : Rg), mesRs e (rs ++ [r]) = mesRs e rs + (9 - r.cu).toNat * 10 ^ (e - rs.length)
  | [], e, r => by simp [mesRs]
  | x :: xs, e, r => by
    have ih := mesRs_append xs (e - 1) r
    simp only [List.cons_append, mesRs, ih, List.length_cons]
    rw [show e - (xs.length + 1) = e - 1 - xs.length by omega]
    omega
def mes (l : Ld) : Nat := (if l.top = [] then 0 else 1000000) + mesRs 4 l.rs
def potRs : Nat → List Rg → Nat
  | _, [] => 0
  | e, r :: rs => e * lenL r.bs + potRs (e - 1) rs
theorem potRs_append : ∀ (rs : List Rg) (e : Nat) (r : Rg), potRs e (rs ++ [r]) = potRs e rs + (e - rs.length) * lenL r.bs
  | [], e, r => by simp [potRs]
  | x :: xs, e, r => by
    have ih := potRs_append xs (e - 1) r
    simp only [List.cons_append, potRs, ih, List.length_cons]
    rw [show e - (xs.length + 1) = e - 1 - xs.length by omega]
    omega
/-- Moves so far, and how many the items may still make. -/
def pot (l : Ld) : Int := l.mv + 5 * l.top.length + potRs 4 l.rs
theorem pow_gt {k : Nat} (h : k + 1 ≤ 4) : 9 * 10 ^ (4 - (k + 1)) < 10 ^ (4 - k) := by
  rcases (show k = 0 ∨ k = 1 ∨ k = 2 ∨ k = 3 by omega) with rfl | rfl | rfl | rfl <;> decide
theorem pow_pos4 (k : Nat) : 0 < 10 ^ (4 - k) := Nat.pow_pos (by decide)
theorem lenL_perm {r : Rg} {l : List It} (h : (itsR r).Perm l) : lenL r.bs = l.length := by rw [← itsR_length]; exact h.length_eq

/-- What a step brings. -/
structure Stepped (l l' : Ld) : Prop where
  good : GoodL l'
  its : (itemsL l').Perm (itemsL l)
  mes : mes l' < mes l
  pot : pot l' ≤ pot l
  mv : l.mv ≤ l'.mv
  cp : l'.cp = l.cp
theorem dist_top {l : Ld} (h : DistI (itemsL l)) : DistI l.top := by
  unfold itemsL at h
  unfold DistI at *
  exact (List.pairwise_append.1 (List.pairwise_append.1 h).1).1
theorem fromTop_ok {l : Ld} (h : GoodL l) (hb : l.bot = []) (hr : l.rs = []) (ht : l.top ≠ []) : Stepped l (fromTop l) := by
  obtain ⟨ts, top, rs, bot, mv, cp⟩ := l
  simp only at hb hr ht
  subst hb hr
  obtain ⟨x, xs, rfl⟩ := List.exists_cons_of_ne_nil ht
  have hmx := maxT_le (x :: xs) x.t
  have hmn := minT_le (x :: xs) x.t
  have htop := h.top
  have hdt := dist_top h.dist
  have hts := h.ts0
  have hmv := h.mv0
  have hcp := h.cp0
  simp only at htop hdt hts hmv hcp
  have hx := htop x (List.mem_cons_self)
  have hhi : 0 ≤ maxT x.t (x :: xs) ∧ maxT x.t (x :: xs) ≤ MaxT := by
    rcases hmx.2.2 with e | ⟨it, hit, e⟩
    · rw [e]; omega
    · have := htop it hit; omega
  have hlo : 0 ≤ minT x.t (x :: xs) ∧ minT x.t (x :: xs) ≤ MaxT := by
    rcases hmn.2.2 with e | ⟨it, hit, e⟩
    · rw [e]; omega
    · have := htop it hit; omega
  have hle : minT x.t (x :: xs) ≤ maxT x.t (x :: xs) := by have := hmx.1; have := hmn.1; omega
  have hmes : mes ⟨ts, x :: xs, [], [], mv, cp⟩ = 1000000 := by simp [mes, mesRs]
  unfold fromTop
  simp only [List.headD_cons]
  generalize maxT x.t (x :: xs) = hi at *
  generalize minT x.t (x :: xs) = lo at *
  generalize hL : x :: xs = L at *
  by_cases h4 : L.length ≤ 4
  · rw [if_pos h4]
    refine ⟨⟨by simp only; omega, by simp only; omega, fun it hit => by simp at hit, by simp, trivial, fun it hit => ?_, sortI_strict hdt, ?_, by simp only; omega, hcp⟩, ?_, ?_, ?_, by simp only; omega, rfl⟩
    · have hit := (sortI_perm L).subset hit
      have h1 := htop it hit
      have h2 := hmx.2.1 it hit
      exact ⟨by omega, h1.2, by simp only [boundR, List.foldl_nil]; omega⟩
    · unfold itemsL itsRs
      simp only [List.nil_append, List.map_nil, List.flatten_nil, List.append_nil]
      exact (sortI_strict hdt).dist
    · unfold itemsL itsRs
      simp only [List.nil_append, List.map_nil, List.flatten_nil, List.append_nil]
      exact sortI_perm L
    · rw [hmes]; simp [mes, mesRs]
    · simp only [pot, List.length_nil]
      omega
  · rw [if_neg h4]
    have hMx : MaxT = 1152921504606846976 := rfl
    have hw : lo + 8 * ((hi - lo) / 8 + 1) ≥ hi + 1 := by omega
    obtain ⟨s1, s2, s3, s4, s5⟩ := spread_good (f := lo) (d := (hi - lo) / 8 + 1) (its := L) (by omega) (by omega) (by omega) (by omega) (fun it hit => ⟨hmn.2.1 it hit, by have := hmx.2.1 it hit; omega⟩)
    generalize spreadR lo ((hi - lo) / 8 + 1) L = sp at *
    have hcu : curT sp = lo := by unfold curT; rw [s2, s4]; omega
    have hen : endT sp = lo + 8 * ((hi - lo) / 8 + 1) := by unfold endT; rw [s2, s3]
    have hln := lenL_perm s5
    refine ⟨⟨by simp only; omega, by simp only; omega, fun it hit => by simp at hit, by simp, ⟨⟨s1, by rw [hen]; simp only; omega, fun it hit => ?_⟩, trivial⟩, fun it hit => by simp at hit, List.Pairwise.nil, ?_, by simp only; omega, hcp⟩, ?_, ?_, ?_, by simp only; omega, rfl⟩
    · have hit := s5.subset hit
      have h1 := htop it hit
      have h2 := hmx.2.1 it hit
      exact ⟨by simp only; omega, h1.2⟩
    · unfold itemsL itsRs
      simp only [List.nil_append, List.map_cons, List.map_nil, List.flatten_cons, List.flatten_nil, List.append_nil]
      exact hdt.perm s5.symm
    · unfold itemsL itsRs
      simp only [List.nil_append, List.map_cons, List.map_nil, List.flatten_cons, List.flatten_nil, List.append_nil]
      exact s5
    · rw [hmes]; simp [mes, mesRs, s4]
    · simp only [pot, potRs, List.nil_append, List.length_nil, hln]
      omega

theorem perm_swap3 (A B C : List It) : (A ++ (B ++ C)).Perm (B ++ (A ++ C)) := by
  rw [← List.append_assoc, ← List.append_assoc]
  exact List.perm_append_comm.append_right C
theorem fromRung_ok {l : Ld} (h : GoodL l) (hb : l.bot = []) {rs0 : List Rg} {r : Rg} (hr : l.rs = rs0 ++ [r]) : Stepped l (fromRung l rs0 r) := by
  obtain ⟨ts, top, rs, bot, mv, cp⟩ := l
  simp only at hb hr
  subst hb hr
  have hrs := (okRs_append rs0 ts r).1 h.rs
  obtain ⟨hr0, hr1⟩ := hrs
  have hlen := h.len
  have hmv := h.mv0
  simp only [List.length_append, List.length_singleton] at hlen hmv
  have hl0 := h.ts0; have hl1 := h.ts1
  simp only at hl0 hl1
  have hmb : mes ⟨ts, top, rs0 ++ [r], [], mv, cp⟩ = (if top = [] then 0 else 1000000) + (mesRs 4 rs0 + (9 - r.cu).toNat * 10 ^ (4 - rs0.length)) := by
    simp only [mes, mesRs_append]
  have hpb : pot ⟨ts, top, rs0 ++ [r], [], mv, cp⟩ = mv + 5 * top.length + (potRs 4 rs0 + (4 - rs0.length) * lenL r.bs : Nat) := by
    simp only [pot, potRs_append]
  have hib : itemsL ⟨ts, top, rs0 ++ [r], [], mv, cp⟩ = top ++ (itsRs rs0 ++ itsR r) := by
    simp [itemsL, itsRs]
  have hcu0 := hr1.good.cu0; have hcu8 := hr1.good.cu1
  have hpw := pow_pos4 rs0.length
  unfold fromRung
  rcases nextR_cases r with ⟨i, hi, hne, h0, e⟩ | ⟨h0, e⟩
  · have hi8 : i < 8 := by rw [hr1.good.len] at hi; exact hi
    have hcui : r.cu ≤ (i : Int) := by
      apply Classical.byContradiction
      intro hlt
      exact hne (hr1.good.low i hi8 (by omega))
    have hgt := hr1.good.take hi h0
    have hits := takeR_its hi
    have hin : ∀ it ∈ bAt r.bs i, r.fr + i * r.wd ≤ it.t ∧ it.t < r.fr + i * r.wd + r.wd ∧ it.t < boundR ts rs0 ∧ it.t ≤ MaxT ∧ 0 ≤ it.t := fun it hit => by
      have h1 := hr1.good.inb i hi8 it hit
      have h2 := hr1.its it (hits.subset (List.mem_append_left _ hit))
      have h3 := hr1.good.its_lo (hits.subset (List.mem_append_left _ hit))
      have h4 : ((i : Int) + 1) * r.wd = (i : Int) * r.wd + r.wd := by rw [Int.add_mul]; omega
      have h5 := h1.1; have h6 := h1.2
      exact ⟨h5, by omega, h2.1, h2.2, h3.2⟩
    have hct : curT (takeR r i) = r.fr + i * r.wd + r.wd := by
      have h4 : ((i : Int) + 1) * r.wd = (i : Int) * r.wd + r.wd := by rw [Int.add_mul]; omega
      simp only [curT, takeR]
      omega
    have hok : OkR (boundR ts rs0) (takeR r i) := ⟨hgt, hr1.ends, fun it hit => hr1.its it (hits.subset (List.mem_append_right _ hit))⟩
    have hdb : DistI (bAt r.bs i) := by
      have hd := h.dist
      rw [hib] at hd
      have h2 : DistI (itsR r) := (List.pairwise_append.1 (List.pairwise_append.1 hd).2.1).2.1
      exact (List.pairwise_append.1 (DistI.perm h2 hits.symm)).1
    have hlt : lenL r.bs = (bAt r.bs i).length + lenL (takeR r i).bs := by
      have h1 := hits.length_eq
      rw [List.length_append, itsR_length, itsR_length] at h1
      omega
    have hcut : (takeR r i).cu = (i : Int) + 1 := rfl
    have hmd : (9 - (takeR r i).cu).toNat + 1 ≤ (9 - r.cu).toNat := by rw [hcut]; omega
    have hmul := Nat.mul_le_mul_right (10 ^ (4 - rs0.length)) hmd
    rw [Nat.add_mul, Nat.one_mul] at hmul
    rw [e]
    simp only [Bool.true_eq_false, if_false]
    generalize hB : bAt r.bs i = B at *
    generalize hT : takeR r i = T at *
    by_cases hc : 4 < B.length ∧ rs0.length + 1 < 4 ∧ 1 < r.wd
    · rw [if_pos hc]
      have hMx : MaxT = 1152921504606846976 := rfl
      obtain ⟨y, hy⟩ := List.exists_mem_of_ne_nil B hne
      have hy2 := hin y hy
      have hpi := hr1.good.prod (i := i) (by omega) (by omega)
      have hf0 := hr1.good.fr0; have hw0 := hr1.good.wd0; have hw1 := hr1.good.wd1
      obtain ⟨s1, s2, s3, s4, s5⟩ := spread_good (f := r.fr + i * r.wd) (d := (r.wd + 7) / 8) (its := B) (by omega) (by omega) (by omega) (by omega) (fun it hit => ⟨(hin it hit).1, by have := (hin it hit).2.1; omega⟩)
      generalize spreadR (r.fr + i * r.wd) ((r.wd + 7) / 8) B = sp at *
      have hcu : curT sp = r.fr + i * r.wd := by unfold curT; rw [s2, s4]; omega
      have hen : endT sp = r.fr + i * r.wd + 8 * ((r.wd + 7) / 8) := by unfold endT; rw [s2, s3]
      have hln := lenL_perm s5
      have hii : itemsL ⟨ts, top, rs0 ++ [T] ++ [sp], [], mv + B.length, cp⟩ = top ++ (itsRs rs0 ++ (itsR T ++ itsR sp)) := by
        simp [itemsL, itsRs]
      have hperm : (itemsL ⟨ts, top, rs0 ++ [T] ++ [sp], [], mv + B.length, cp⟩).Perm (itemsL ⟨ts, top, rs0 ++ [r], [], mv, cp⟩) := by
        rw [hii, hib]
        refine ((List.Perm.append_left _ ?_).append_left _)
        exact ((s5.append_left (itsR T)).trans List.perm_append_comm).trans hits
      have hgood : OkRs ts (rs0 ++ [T] ++ [sp]) := by
        rw [okRs_append, okRs_append, boundR_append]
        refine ⟨⟨hr0, hok⟩, s1, ?_, fun it hit => ?_⟩
        · rw [hct, hen]; omega
        · have h1 := hin it (s5.subset hit)
          rw [hct]
          exact ⟨by omega, h1.2.2.2.1⟩
      refine ⟨⟨hl0, hl1, h.top, by simp; omega, hgood, fun it hit => by simp at hit, List.Pairwise.nil, h.dist.perm hperm.symm, by simp only; omega, h.cp0⟩, hperm, ?_, ?_, by simp only; omega, rfl⟩
      · rw [hmb]
        simp only [mes, mesRs_append, List.length_append, List.length_singleton, s4]
        have hp := pow_gt (k := rs0.length) (by omega)
        have h9 : (9 - (0 : Int)).toNat = 9 := rfl
        rw [h9]
        omega
      · rw [hpb]
        simp only [pot, potRs_append, List.length_append, List.length_singleton, hln]
        rw [hlt, Nat.mul_add]
        rcases (show rs0.length = 0 ∨ rs0.length = 1 ∨ rs0.length = 2 by omega) with hk | hk | hk <;> rw [hk] <;> omega
    · rw [if_neg hc]
      have hii : itemsL ⟨ts, top, rs0 ++ [T], sortI B, mv + B.length, cp⟩ = top ++ (sortI B ++ (itsRs rs0 ++ itsR T)) := by
        simp [itemsL, itsRs]
      have hperm : (itemsL ⟨ts, top, rs0 ++ [T], sortI B, mv + B.length, cp⟩).Perm (itemsL ⟨ts, top, rs0 ++ [r], [], mv, cp⟩) := by
        rw [hii, hib]
        refine List.Perm.append_left _ ?_
        refine (perm_swap3 _ _ _).trans ?_
        refine List.Perm.append_left _ ?_
        exact ((sortI_perm B).append_right _).trans hits
      refine ⟨⟨hl0, hl1, h.top, by simp; omega, (okRs_append _ _ _).2 ⟨hr0, hok⟩, fun it hit => ?_, sortI_strict hdb, h.dist.perm hperm.symm, by simp only; omega, h.cp0⟩, hperm, ?_, ?_, by simp only; omega, rfl⟩
      · have h1 := hin it ((sortI_perm B).subset hit)
        refine ⟨h1.2.2.2.2, h1.2.2.2.1, ?_⟩
        simp only [boundR_append]
        rw [hct]
        omega
      · rw [hmb]
        simp only [mes, mesRs_append]
        omega
      · rw [hpb]
        simp only [pot, potRs_append]
        rw [hlt, Nat.mul_add]
        have : B.length ≤ (4 - rs0.length) * B.length := Nat.le_mul_of_pos_left _ (by omega)
        omega
  · rw [e]
    simp only [if_true]
    have hemp : itsR r = [] := by
      cases hq : itsR r with
      | nil => rfl
      | cons y ys =>
        obtain ⟨i, hi, hm⟩ := mem_itsR.1 (show y ∈ itsR r by rw [hq]; exact List.mem_cons_self)
        rw [h0 i hi] at hm
        simp at hm
    have hii : itemsL ⟨ts, top, rs0, [], mv, cp⟩ = top ++ (itsRs rs0 ++ itsR r) := by
      simp [itemsL, hemp]
    refine ⟨⟨hl0, hl1, h.top, by simp only; omega, hr0, fun it hit => by simp at hit, List.Pairwise.nil, ?_, hmv, h.cp0⟩, ?_, ?_, ?_, Int.le_refl _, rfl⟩
    · rw [hii, ← hib]; exact h.dist
    · rw [hii, hib]
    · rw [hmb]
      simp only [mes]
      have h9 : 1 ≤ (9 - r.cu).toNat := by omega
      have := Nat.mul_le_mul_right (10 ^ (4 - rs0.length)) h9
      omega
    · rw [hpb]
      simp only [pot]
      omega
theorem step_ok {l : Ld} (h : GoodL l) (hb : l.bot = []) (hne : l.rs ≠ [] ∨ l.top ≠ []) : Stepped l (stepL l) := by
  by_cases hr : l.rs = []
  · rw [stepL_top hr]
    exact fromTop_ok h hb hr (hne.resolve_left (fun k => k hr))
  · obtain ⟨rs0, r, e⟩ : ∃ rs0 r, l.rs = rs0 ++ [r] := ⟨l.rs.dropLast, l.rs.getLast hr, (List.dropLast_concat_getLast hr).symm⟩
    rw [stepL_rung e]
    exact fromRung_ok h hb e
end Go.Proofs.YtpabapjodcafkaaGreat
