/- Contract: SortEvents. -/
import Derived.Test.YtdkkgajamogmeaaXH
namespace Go.Proofs.Ytdkkgajamogmeaa
open Go.Shelf Go.RowKit Go.Sort Go.Lib

/-- The block g holds the events cs in its first cells. -/
structure Held (w : World) (g cap : Nat) (cs : List EvR) : Prop where
  ex : ∃ cur, w.heap[g]? = some (.cells cur 30 (0, 0)) ∧ cur.size = cap * 6 ∧ cur.toList.take (cs.length * 6) = flatE cs
  le : cs.length ≤ cap
theorem held_row {w : World} {base : Nat} {v : Value} {cs : List EvR} (h : w.ownsRow base 30 6 v cs.length (flatE cs)) (hn : cs ≠ []) : ∃ g cap, v = .slice (some ⟨g, 0, none⟩) cs.length cap ∧ base ≤ g ∧ Held w g cap cs := by
  rcases h.2 with ⟨rfl, h0⟩ | ⟨g, cap, cur, rfl, hb, hg, hc, _, hs, ht⟩
  · exact absurd (List.eq_nil_of_length_eq_zero h0) hn
  · exact ⟨g, cap, rfl, hb, ⟨cur, hg, hs, ht⟩, hc⟩
theorem Held.lt {w : World} {g cap : Nat} {cs : List EvR} (h : Held w g cap cs) : g < w.heap.size := by
  obtain ⟨cur, h, _⟩ := h.ex
  exact lt_block h
theorem Held.cell {w : World} {g cap : Nat} {cs : List EvR} (h : Held w g cap cs) (t : Nat) (u : Value) (hu : (flatE cs)[t]? = some u) : w.cell? ⟨g, t, none⟩ = some u ∧ w.frozen? ⟨g, t, none⟩ = false := by
  obtain ⟨cur, hg, hs, ht⟩ := h.ex
  refine ⟨?_, free_block hg t⟩
  rw [cell_block hg]
  rw [← ht, List.getElem?_take] at hu
  split at hu
  · rw [← Array.getElem?_toList]; exact hu
  · simp at hu
theorem Held.keep {S : List Nat} {w w' : World} {g cap : Nat} {cs : List EvR} (h : Held w g cap cs) (hu : Upd S w w') (hg : g ∉ S) : Held w' g cap cs := by
  obtain ⟨cur, h1, h2, h3⟩ := h.ex
  exact ⟨⟨cur, hu.at h1 hg, h2, h3⟩, h.le⟩
def setKey (r : EvR) (a : Option Addr) (c : Nat) : EvR := ⟨r.ev, a, c⟩
theorem flatE_setKey : ∀ (cs : List EvR) (i : Nat) (hi : i < cs.length) (a : Option Addr) (c : Nat), flatE (cs.set i (setKey cs[i] a c)) = (flatE cs).set (i * 6 + 1) (.slice a cs[i].ev.key.length c)
  | r :: cs, 0, _, a, c => by
    simp only [flatE, List.set_cons_zero, List.flatMap_cons, List.getElem_cons_zero]
    rw [List.set_append_left _ _ (by rw [encR_len]; omega)]
    rfl
  | r :: cs, i + 1, hi, a, c => by
    simp only [flatE, List.set_cons_succ, List.flatMap_cons, List.getElem_cons_succ]
    rw [List.set_append_right _ _ (by rw [encR_len]; omega), encR_len, show (i + 1) * 6 + 1 - 6 = i * 6 + 1 by omega]
    exact congrArg (encR r ++ ·) (flatE_setKey cs i (by simpa using hi) a c)
theorem Held.setKey {w : World} {g cap : Nat} {cs : List EvR} (h : Held w g cap cs) (i : Nat) (hi : i < cs.length) (a : Option Addr) (c : Nat) : Held (w.setCell ⟨g, i * 6 + 1, none⟩ (.slice a cs[i].ev.key.length c)) g cap (cs.set i (setKey cs[i] a c)) := by
  obtain ⟨cur, h1, h2, h3⟩ := h.ex
  refine ⟨⟨_, setCell_block h1 _, by simpa using h2, ?_⟩, by simpa using h.le⟩
  rw [flatE_setKey, ← h3, List.length_set, Array.toList_setIfInBounds, List.take_set]

/-- The keys of the first i events have been copied. -/
structure Cloning (w : World) (g cap : Nat) (rs : List EvR) (i : Nat) (cs : List EvR) (wr : World) : Prop where
  len : cs.length = rs.length
  same : evs cs = evs rs
  held : Held wr g cap cs
  keys : ∀ r ∈ cs, Ints wr r.ka r.ev.key
  far : ∀ r ∈ cs, ∀ a, r.ka = some a → r.ev.key ≠ [] → a.block ≠ g
  old : ∀ j, i ≤ j → cs[j]? = rs[j]?
  upd : Upd [] w wr
theorem evs_setKey (cs : List EvR) (i : Nat) (hi : i < cs.length) (a : Option Addr) (c : Nat) : evs (cs.set i (setKey cs[i] a c)) = evs cs := by
  unfold evs
  apply List.ext_getElem
  · simp
  · intro n h1 h2
    simp only [List.getElem_map, List.getElem_set]
    split
    · rename_i h; subst h; rfl
    · rfl
theorem Cloning.step {w : World} {g cap : Nat} {rs : List EvR} {i : Nat} {cs : List EvR} {wr w' : World} (h : Cloning w g cap rs i cs wr) (hg : w.heap.size ≤ g) (hi : i < cs.length) (hu : Upd [] wr w') {a : Option Addr} {c : Nat} (hk : Ints w' a cs[i].ev.key) (hf : ∀ x, a = some x → wr.heap.size ≤ x.block) :
    Cloning w g cap rs (i + 1) (cs.set i (Ytdkkgajamogmeaa.setKey cs[i] a c)) (w'.setCell ⟨g, i * 6 + 1, none⟩ (.slice a cs[i].ev.key.length c)) := by
  have hgl := h.held.lt
  have hU : Upd [g] w' (w'.setCell ⟨g, i * 6 + 1, none⟩ (.slice a cs[i].ev.key.length c)) := (Upd.refl [g] w').setCell (by simp) _
  have hfar : ∀ r ∈ cs.set i (Ytdkkgajamogmeaa.setKey cs[i] a c), ∀ x, r.ka = some x → r.ev.key ≠ [] → x.block ≠ g := by
    intro r hr x hx hn
    rcases List.mem_or_eq_of_mem_set hr with hr | rfl
    · exact h.far r hr x hx hn
    · have := hf x hx; omega
  refine ⟨by rw [List.length_set]; exact h.len, by rw [evs_setKey]; exact h.same, (h.held.keep hu (by simp)).setKey i hi a c, ?_, hfar, ?_, ?_⟩
  · intro r hr
    have hr0 := hr
    rcases List.mem_or_eq_of_mem_set hr with hr | rfl
    · exact ((h.keys r hr).stay hu).keep' hU (fun x hx hn => by simpa using hfar r hr0 x hx hn)
    · exact hk.keep' hU (fun x hx hn => by simpa using hfar _ hr0 x hx hn)
  · intro j hj
    rw [List.getElem?_set, if_neg (by omega)]; exact h.old j (by omega)
  · exact (h.upd.trans hu (by simp)).setCell (by simp; omega) _

/-- The events with their places, for the sort. -/
def tagged {w : World} {g : Nat} (cs : List EvR) (hk : ∀ r ∈ cs, Ints w r.ka r.ev.key) (hf : ∀ r ∈ cs, ∀ a, r.ka = some a → r.ev.key ≠ [] → a.block ≠ g) (hl : ∀ r ∈ cs, r.ev.key.length ≤ 1000000) : Array (EvT w g) :=
  Array.ofFn (n := cs.length) (fun i => ⟨cs[i], i, hk _ (List.getElem_mem _), hf _ (List.getElem_mem _), hl _ (List.getElem_mem _)⟩)
section
variable {w : World} {g : Nat} {cs : List EvR} {hk : ∀ r ∈ cs, Ints w r.ka r.ev.key} {hf : ∀ r ∈ cs, ∀ a, r.ka = some a → r.ev.key ≠ [] → a.block ≠ g} {hl : ∀ r ∈ cs, r.ev.key.length ≤ 1000000}
theorem tagged_size : (tagged cs hk hf hl).size = cs.length := by simp [tagged]
theorem tagged_tag (p : Nat) (hp : p < cs.length) : ((tagged cs hk hf hl)[p]!).tag = p := by
  rw [getElem!_pos _ p (by rw [tagged_size]; exact hp)]; simp [tagged]
theorem tagged_r (p : Nat) (hp : p < cs.length) : ((tagged cs hk hf hl)[p]!).r = cs[p] := by
  rw [getElem!_pos _ p (by rw [tagged_size]; exact hp)]; simp [tagged]
theorem tagged_pairs : (tagged cs hk hf hl).toList.map (fun x => (x.r.ev, x.tag)) = (evs cs).zipIdx := by
  apply List.ext_getElem
  · simp [tagged, evs]
  · intro n h1 h2
    simp [tagged, evs]
theorem tagged_holds {cap : Nat} (h : Held w g cap cs) : HoldsK encT 6 w g 0 (tagged cs hk hf hl) := by
  intro t ht
  rw [size_flatK, tagged_size] at ht
  have hj : t / 6 < cs.length := by omega
  rw [get_flatK _ _ _ _ (by rw [tagged_size]; exact ht)]
  have e : encT (tagged cs hk hf hl)[t / 6]! = encR cs[t / 6] := by unfold encT; rw [tagged_r _ hj]
  rw [e]
  have hm : t % 6 < (encR cs[t / 6]).length := by rw [encR_len]; exact Nat.mod_lt _ (by omega)
  have := h.cell t (encR cs[t / 6])[t % 6]! (by
    have := flatE_get cs (t / 6) (t % 6) hj (Nat.mod_lt _ (by omega))
    rw [show t / 6 * 6 + t % 6 = t by omega] at this
    rw [this, List.getElem?_eq_getElem hm, getElem!_pos (encR cs[t / 6]) (t % 6) hm])
  rw [Nat.zero_add]
  exact this
end
/-- What the sort leaves. -/
theorem sorted_evs {w W : World} {g : Nat} {d0 d' : Array (EvT w g)} (hb : g < w.heap.size) (hH : HoldsK encT 6 w g 0 d0) (hs : d'.size = d0.size) (h : SWK encT 6 w g 0 d' W) : Evs W (some ⟨g, 0, none⟩) (d'.toList.map EvT.r) := by
  have hW := h.holds hb hH hs
  have hu := SWK.upd h
  refine evs_cells (fun t u hu' => ?_) (fun r hr => ?_)
  · have ht : t < d'.size * 6 := by
      have := (List.getElem?_eq_some_iff.1 hu').1
      rw [flatE_length] at this; simpa using this
    have := hW t (by rw [size_flatK]; exact ht)
    rw [get_flatK _ _ _ _ ht] at this
    rw [this.1]
    have hj : t / 6 < d'.size := by omega
    have hg := flatE_get (d'.toList.map EvT.r) (t / 6) (t % 6) (by simpa using hj) (Nat.mod_lt _ (by omega))
    rw [show t / 6 * 6 + t % 6 = t by omega, hu'] at hg
    simp only [List.getElem_map, Array.getElem_toList] at hg
    have hm : t % 6 < (encR d'[t / 6].r).length := by rw [encR_len]; exact Nat.mod_lt _ (by omega)
    rw [List.getElem?_eq_getElem hm] at hg
    rw [getElem!_pos d' _ hj]
    show some (encR d'[t / 6].r)[t % 6]! = some u
    rw [getElem!_pos (encR d'[t / 6].r) (t % 6) hm]; exact hg.symm
  · obtain ⟨x, _, rfl⟩ := List.mem_map.1 hr
    exact x.key.keep' hu (fun a ha hn => by simpa using x.far a ha hn)
theorem sorted_isSort {w : World} {g : Nat} {d0 d' : Array (EvT w g)} {l : List Ev} (h0 : d0.toList.map (fun x => (x.r.ev, x.tag)) = l.zipIdx) (hp : PermIn 0 d0.size d0 d') (hs : SortedIn (tlt (ltOf cfT) EvT.tag) 0 d0.size d') : IsSort l (evs (d'.toList.map EvT.r)) := by
  obtain ⟨hz, _, hperm⟩ := hp
  have e1 : d'.extract 0 d0.size = d' := by rw [← hz]; exact Array.extract_size
  rw [e1, Array.extract_size] at hperm
  refine ⟨d'.toList.map (fun x => (x.r.ev, x.tag)), ?_, ?_, by simp [evs]⟩
  · rw [← h0]; exact hperm.map _
  · rw [Srt, List.pairwise_map, List.pairwise_iff_getElem]
    intro i j hi hj hij
    have hi' : i < d'.size := by simpa using hi
    have hj' : j < d'.size := by simpa using hj
    have := hs i j (Nat.zero_le _) hij (by omega)
    rw [getElem!_pos d' j hj', getElem!_pos d' i hi'] at this
    exact this
end Go.Proofs.Ytdkkgajamogmeaa
