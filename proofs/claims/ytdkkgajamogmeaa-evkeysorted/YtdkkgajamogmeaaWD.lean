/- EvkeySorted: what it leans on. -/
import Derived.Test.YtdkkgajamogmeaaXP
namespace Go.Proofs.Ytdkkgajamogmeaa
open Go.Shelf Go.RowKit Go.Sort Go.Lib

def setArg (r : EvR) (n : Int) : EvR := ⟨{ r.ev with arg := n }, r.ka, r.kc⟩
theorem flatE_setArg : ∀ (cs : List EvR) (i : Nat) (hi : i < cs.length) (n : Int), flatE (cs.set i (setArg cs[i] n)) = (flatE cs).set (i * 6 + 5) (.int .i64 n)
  | r :: cs, 0, _, n => by
    simp only [flatE, List.set_cons_zero, List.flatMap_cons, List.getElem_cons_zero]
    rw [List.set_append_left _ _ (by rw [encR_len]; omega)]
    rfl
  | r :: cs, i + 1, hi, n => by
    simp only [flatE, List.set_cons_succ, List.flatMap_cons, List.getElem_cons_succ]
    rw [List.set_append_right _ _ (by rw [encR_len]; omega), encR_len, show (i + 1) * 6 + 5 - 6 = i * 6 + 5 by omega]
    exact congrArg (encR r ++ ·) (flatE_setArg cs i (by simpa using hi) n)
theorem Held.setArg {w : World} {g cap : Nat} {cs : List EvR} (h : Held w g cap cs) (i : Nat) (hi : i < cs.length) (n : Int) : Held (w.setCell ⟨g, i * 6 + 5, none⟩ (.int .i64 n)) g cap (cs.set i (setArg cs[i] n)) := by
  obtain ⟨cur, h1, h2, h3⟩ := h.ex
  refine ⟨⟨_, setCell_block h1 _, by simpa using h2, ?_⟩, by simpa using h.le⟩
  rw [flatE_setArg, ← h3, List.length_set, Array.toList_setIfInBounds, List.take_set]
/-- The first i events bear their places. -/
structure Args (rs : List EvR) (i : Nat) (cs : List EvR) : Prop where
  len : cs.length = rs.length
  at' : ∀ j (h : j < cs.length) (h' : j < rs.length), cs[j] = if j < i then setArg rs[j] j else rs[j]
theorem args_start (rs : List EvR) : Args rs 0 rs := ⟨rfl, fun j h h' => by simp⟩
theorem Args.step {rs : List EvR} {i : Nat} {cs : List EvR} (h : Args rs i cs) (hi : i < cs.length) : Args rs (i + 1) (cs.set i (Ytdkkgajamogmeaa.setArg cs[i] i)) := by
  refine ⟨by rw [List.length_set]; exact h.len, fun j hj hj' => ?_⟩
  rw [List.getElem_set]
  have hl := h.len
  by_cases e : i = j
  · subst e
    rw [if_pos rfl, if_pos (by omega), h.at' i hi hj', if_neg (by omega)]
  · rw [if_neg e, h.at' j (by rw [List.length_set] at hj; exact hj) hj']
    by_cases c : j < i
    · rw [if_pos c, if_pos (by omega)]
    · rw [if_neg c, if_neg (by omega)]
theorem Args.key {rs : List EvR} {i : Nat} {cs : List EvR} (h : Args rs i cs) {r : EvR} (hr : r ∈ cs) : ∃ s ∈ rs, r.ka = s.ka ∧ r.ev.key = s.ev.key := by
  obtain ⟨j, hj, rfl⟩ := List.getElem_of_mem hr
  have hj' : j < rs.length := by have := h.len; omega
  refine ⟨rs[j], List.getElem_mem hj', ?_⟩
  rw [h.at' j hj hj']
  split <;> exact ⟨rfl, rfl⟩
theorem Args.arg {rs cs : List EvR} (h : Args rs rs.length cs) (t : Nat) (ht : t < cs.length) : cs[t].ev.arg = t := by
  have hl := h.len
  rw [h.at' t ht (by omega), if_pos (by omega)]; rfl

/-- What is known of a sorted row whose events bore their places. -/
structure Tagged (ms ss : List EvR) (tg : Nat → Nat) : Prop where
  len : ss.length = ms.length
  lt : ∀ i, i < ss.length → tg i < ms.length
  arg : ∀ i (h : i < ss.length), ss[i].ev.arg = tg i
  same : ∀ i (h : i < ss.length) (h' : tg i < ms.length), ss[i].ev = ms[tg i].ev
  inj : ∀ i j, i < j → j < ss.length → tg i ≠ tg j
  le : ∀ i (h : i + 1 < ss.length), cmpE ss[i].ev ss[i + 1].ev ≤ 0 ∧ (cmpE ss[i].ev ss[i + 1].ev = 0 → tg i ≤ tg (i + 1))
  self : IsSort (evs ss) (evs ss)
theorem tagged_of {ms ss : List EvR} (h : IsSort (evs ms) (evs ss)) (ha : ∀ t (ht : t < ms.length), ms[t].ev.arg = t) : ∃ tg, Tagged ms ss tg := by
  have hlen : ss.length = ms.length := by have := h.length; simpa [evs] using this
  obtain ⟨p, p1, p2, p3⟩ := h
  have hpl : p.length = ss.length := by have := congrArg List.length p3; simpa [evs] using this
  have hpe : ∀ j (hj : j < p.length) (hj' : j < ss.length), p[j].1 = ss[j].ev := by
    intro j hj hj'
    have e1 : (p.map Prod.fst)[j]? = (evs ss)[j]? := by rw [p3]
    rw [List.getElem?_map, List.getElem?_eq_getElem hj] at e1
    unfold evs at e1
    rw [List.getElem?_map, List.getElem?_eq_getElem hj'] at e1
    simpa using e1
  have hmem : ∀ j (hj : j < p.length), (evs ms)[p[j].2]? = some p[j].1 := by
    intro j hj
    have := p1.mem_iff.1 (List.getElem_mem hj)
    rw [show p[j] = (p[j].1, p[j].2) from rfl, List.mk_mem_zipIdx_iff_getElem?] at this
    exact this
  have hnd : (p.map Prod.snd).Nodup := by
    have : (p.map Prod.snd).Perm ((evs ms).zipIdx.map Prod.snd) := p1.map _
    refine this.nodup_iff.2 ?_
    rw [List.zipIdx_map_snd]
    exact List.nodup_range'
  refine ⟨fun i => if h : i < p.length then p[i].2 else 0, hlen, ?_, ?_, ?_, ?_, ?_, ?_⟩
  · intro i hi
    have hi' : i < p.length := by omega
    simp only [hi', dif_pos]
    have := (List.getElem?_eq_some_iff.1 (hmem i hi')).1
    rwa [evs_length] at this
  · intro i hi
    have hi' : i < p.length := by omega
    simp only [hi', dif_pos]
    obtain ⟨hl, he⟩ := List.getElem?_eq_some_iff.1 (hmem i hi')
    rw [evs_length] at hl
    rw [← hpe i hi' hi, ← he]
    simp only [evs, List.getElem_map]
    exact ha _ hl
  · intro i hi hi2
    have hi' : i < p.length := by omega
    simp only [hi', dif_pos] at hi2 ⊢
    obtain ⟨hl, he⟩ := List.getElem?_eq_some_iff.1 (hmem i hi')
    rw [← hpe i hi' hi, ← he]
    simp only [evs, List.getElem_map]
  · intro i j hij hj
    have hi' : i < p.length := by omega
    have hj' : j < p.length := by omega
    simp only [hi', hj', dif_pos]
    have := (List.pairwise_iff_getElem.1 hnd) i j (by simpa using hi') (by simpa using hj') hij
    simpa using this
  · intro i hi
    have hi' : i < p.length := by omega
    have hj' : i + 1 < p.length := by omega
    simp only [hi', hj', dif_pos]
    have := srt_next p2 hi' hj' (by omega)
    rw [hpe i hi' (by omega), hpe (i + 1) hj' hi] at this
    exact this
  · refine isSort_self (fun i j hi hj hij => ?_)
    rw [evs_length] at hi hj
    have := (srt_next p2 (i := i) (j := j) (by omega) (by omega) hij).1
    rw [hpe i (by omega) hi, hpe j (by omega) hj] at this
    simpa [evs] using this

def bcells (bs : List Bool) : Array Value := (bs.map Value.bool).toArray
theorem bcells_get (bs : List Bool) (k : Nat) (h : k < bs.length) : (bcells bs)[k]? = some (.bool bs[k]) := by simp [bcells, h]
theorem bcells_set (bs : List Bool) (k : Nat) (x : Bool) : (bcells bs).setIfInBounds k (.bool x) = bcells (bs.set k x) := by simp [bcells]
theorem infoBool : (Try.prog.info? 4).map (fun i => (i.zero, i.size, i.bytes)) = some (some (.bool false), 1, 1) := by kernel_rfl
theorem madeBools (n : Nat) : madeCells #[Value.bool false] (n * 1) = bcells (List.replicate n false) := by
  apply Array.ext
  · simp [madeCells, bcells]
  · intro i h1 h2
    simp [madeCells, bcells, Nat.mod_one]
/-- What is marked are places that have been met. -/
def Met (tg : Nat → Nat) (k : Nat) (bs : List Bool) : Prop := ∀ x (h : x < bs.length), bs[x] = true → ∃ j, j < k ∧ tg j = x
theorem met_start (tg : Nat → Nat) (n : Nat) : Met tg 0 (List.replicate n false) := by intro x h hb; simp at hb
theorem Met.step {tg : Nat → Nat} {k : Nat} {bs : List Bool} (h : Met tg k bs) : Met tg (k + 1) (bs.set (tg k) true) := by
  intro x hx hb
  rw [List.getElem_set] at hb
  split at hb
  · rename_i e; exact ⟨k, by omega, e⟩
  · obtain ⟨j, hj, he⟩ := h x (by rw [List.length_set] at hx; exact hx) hb
    exact ⟨j, by omega, he⟩
theorem Met.new {ms ss : List EvR} {tg : Nat → Nat} {k : Nat} {bs : List Bool} (h : Met tg k bs) (ht : Tagged ms ss tg) (hk : k < ss.length) (hl : tg k < bs.length) : bs[tg k] = false := by
  cases hb : bs[tg k] with
  | false => rfl
  | true =>
    obtain ⟨j, hj, he⟩ := h _ hl hb
    exact absurd he (ht.inj j k hj hk)
end Go.Proofs.Ytdkkgajamogmeaa
