
/- Plain maths: what the laws of layer 10 ask of the model: order of a batch, events that are gone, capacity, acceptance. Nothing of the program. -/
import Derived.Test.YtpneljhplbkdkaaAA
namespace Go.Proofs.Ytpneljhplbkdkaa

/-- Where the i-th of those that p keeps stands. -/
def idxF (p : En → Bool) : List En → Nat → Nat
  | [], _ => 0
  | e :: l, i => if p e = true then (match i with | 0 => 0 | i + 1 => idxF p l i + 1) else idxF p l i + 1
theorem idxF_at (p : En → Bool) : ∀ (l : List En) (i : Nat) (h : i < (l.filter p).length), ∃ hj : idxF p l i < l.length, l[idxF p l i] = (l.filter p)[i]
  | [], i, h => by simp at h
  | e :: l, i, h => by
    by_cases hp : p e = true
    · have hf : (e :: l).filter p = e :: l.filter p := List.filter_cons_of_pos hp
      simp only [hf, List.length_cons] at h
      cases i with
      | zero =>
        have e0 : idxF p (e :: l) 0 = 0 := by simp [idxF, hp]
        simp only [e0, hf]
        exact ⟨by simp, rfl⟩
      | succ i =>
        obtain ⟨h1, h2⟩ := idxF_at p l i (by omega)
        have e0 : idxF p (e :: l) (i + 1) = idxF p l i + 1 := by simp [idxF, hp]
        simp only [e0, hf]
        exact ⟨by simp; omega, by simpa using h2⟩
    · have hf : (e :: l).filter p = l.filter p := List.filter_cons_of_neg hp
      simp only [hf] at h
      obtain ⟨h1, h2⟩ := idxF_at p l i h
      have e0 : idxF p (e :: l) i = idxF p l i + 1 := by simp [idxF, hp]
      simp only [e0, hf]
      exact ⟨by simp; omega, by simpa using h2⟩
theorem idxF_lt (p : En → Bool) : ∀ (l : List En) (i k : Nat) (_ : i < k) (_ : k < (l.filter p).length), idxF p l i < idxF p l k
  | [], i, k, _, h => by simp at h
  | e :: l, i, k, hik, h => by
    by_cases hp : p e = true
    · have hf : (e :: l).filter p = e :: l.filter p := List.filter_cons_of_pos hp
      simp only [hf, List.length_cons] at h
      obtain ⟨k, rfl⟩ : ∃ k', k = k' + 1 := ⟨k - 1, by omega⟩
      have e1 : idxF p (e :: l) (k + 1) = idxF p l k + 1 := by simp [idxF, hp]
      cases i with
      | zero =>
        have e0 : idxF p (e :: l) 0 = 0 := by simp [idxF, hp]
        omega
      | succ i =>
        have e0 : idxF p (e :: l) (i + 1) = idxF p l i + 1 := by simp [idxF, hp]
        have := idxF_lt p l i k (by omega) (by omega)
        omega
    · have hf : (e :: l).filter p = l.filter p := List.filter_cons_of_neg hp
      simp only [hf] at h
      have e0 : idxF p (e :: l) i = idxF p l i + 1 := by simp [idxF, hp]
      have e1 : idxF p (e :: l) k = idxF p l k + 1 := by simp [idxF, hp]
      have := idxF_lt p l i k hik h
      omega
def liveE (e : En) : Bool := !e.d
/-- What a batch gives: its events stand in the model, in order; what remains. -/
structure OutB (m : Md) (b mx : Int) (ev : List Ev) (left : List En) : Prop where
  le : (ev.length : Int) ≤ mx
  at' : ∀ i (h : i < ev.length), ∃ hj : idxF liveE m.es i < m.es.length, (m.es[idxF liveE m.es i]).t = ev[i].t ∧ (m.es[idxF liveE m.es i]).h = ev[i].h ∧ (m.es[idxF liveE m.es i]).d = false ∧ ev[i].t < b
  lt : ∀ i k (_ : i < k) (_ : k < ev.length), idxF liveE m.es i < idxF liveE m.es k
  rest : (ev.length : Int) < mx → ∀ e ∈ left, b ≤ e.t
  len : left.length ≤ m.es.length
theorem scanB_le {b mx : Int} : ∀ (es : List En) (out : List Ev), (out.length : Int) ≤ mx → ((scanB b mx es out).1.length : Int) ≤ mx
  | [], out, h => h
  | e :: es, out, h => by
    by_cases hc : e.t < b ∧ (out.length : Int) < mx
    · simp only [scanB]
      rw [if_pos hc]
      refine scanB_le es _ ?_
      split
      · exact h
      · simp only [List.length_append, List.length_singleton]; omega
    · simp only [scanB]
      rw [if_neg hc]
      exact h
theorem outB {m : Md} (hm : OkM m) {b mx : Int} (hx : 0 ≤ mx) : OutB m b mx (scanB b mx m.es []).1 (scanB b mx m.es []).2 := by
  obtain ⟨n, h1, h2, h3, h4, h5⟩ := scanB_sub (b := b) (mx := mx) m.es []
  have hle := scanB_le (b := b) (mx := mx) m.es [] (by simpa using hx)
  have hsp : m.es.filter liveE = (m.es.take n).filter liveE ++ (m.es.drop n).filter liveE := by rw [← List.filter_append, List.take_append_drop]
  have h3' : (scanB b mx m.es []).1 = ((m.es.take n).filter liveE).map (fun e => ⟨e.t, e.h⟩) := by rw [h3]; rfl
  have hlen : (scanB b mx m.es []).1.length = ((m.es.take n).filter liveE).length := by rw [h3']; simp
  have hlt : ∀ i, i < (scanB b mx m.es []).1.length → i < (m.es.filter liveE).length := fun i hi => by
    rw [hlen] at hi
    rw [hsp, List.length_append]; omega
  refine ⟨hle, fun i hi => ?_, fun i k hik hk => idxF_lt liveE m.es i k hik (hlt k hk), fun hmx e he => ?_, by rw [h1]; simp⟩
  · obtain ⟨hj, he⟩ := idxF_at liveE m.es i (hlt i hi)
    have hi2 : i < ((m.es.take n).filter liveE).length := by omega
    have e1 : (m.es.filter liveE)[i]'(hlt i hi) = ((m.es.take n).filter liveE)[i] := by
      simp only [hsp]
      rw [List.getElem_append_left hi2]
    have e2 : (scanB b mx m.es []).1[i] = ⟨(((m.es.take n).filter liveE)[i]).t, (((m.es.take n).filter liveE)[i]).h⟩ := by
      simp only [h3', List.getElem_map]
    have hmem := List.getElem_mem hi2
    obtain ⟨hm1, hm2⟩ := List.mem_filter.1 hmem
    refine ⟨hj, ?_⟩
    rw [he, e1, e2]
    exact ⟨rfl, rfl, by simpa [liveE] using hm2, h4 _ hm1⟩
  · rw [h1] at he
    rcases h5 with ⟨hn, h6⟩ | h6
    · have h7 : ¬ m.es[n].t < b := fun h => h6 ⟨h, hmx⟩
      obtain ⟨i, hi, rfl⟩ := List.mem_iff_getElem.1 he
      rw [List.length_drop] at hi
      rw [List.getElem_drop]
      rcases Nat.eq_zero_or_pos i with rfl | hp
      · simp only [Nat.add_zero]; omega
      · have h8 := (List.pairwise_iff_getElem.1 hm.ord n (n + i) (by omega) (by omega) (by omega)).2.2
        unfold ltE at h8
        omega
    · rw [h6, List.drop_length] at he
      simp at he
/-- Handles stand once. -/
theorem OkM.one {m : Md} (hm : OkM m) {i j : Nat} (hi : i < m.es.length) (hj : j < m.es.length) (h : m.es[i].h = m.es[j].h) : i = j := by
  rcases Nat.lt_trichotomy i j with h1 | h1 | h1
  · exact absurd h (List.pairwise_iff_getElem.1 hm.ord i j hi hj h1).2.1
  · exact h1
  · exact absurd h.symm (List.pairwise_iff_getElem.1 hm.ord j i hj hi h1).2.1
/-- The handles g are gone: no live entry bears one, and all were issued. -/
structure Gone (g : List Int) (m : Md) : Prop where
  live : ∀ e ∈ m.es, e.d = false → e.h ∉ g
  iss : ∀ h ∈ g, h ∈ m.is
def goneOf (c : Ca) (r : Rs) : List Int := (if r.c = true then [c.h] else []) ++ r.ev.map (fun e => e.h)
theorem mem_putE {es : List En} {e x : En} : x ∈ putE es e ↔ x = e ∨ x ∈ es := by
  have h : es = es.take (posM es e.t) ++ es.drop (posM es e.t) := (List.take_append_drop _ _).symm
  constructor
  · intro hx
    rcases List.mem_append.1 hx with hx | hx
    · exact .inr (List.mem_of_mem_take hx)
    · rcases List.mem_cons.1 hx with rfl | hx
      · exact .inl rfl
      · exact .inr (List.mem_of_mem_drop hx)
  · rintro (rfl | hx)
    · exact List.mem_append_right _ List.mem_cons_self
    · rw [h] at hx
      rcases List.mem_append.1 hx with hx | hx
      · exact List.mem_append_left _ hx
      · exact List.mem_append_right _ (List.mem_cons_of_mem _ hx)
theorem scanB_ev {b mx : Int} {es : List En} : ∀ v ∈ (scanB b mx es []).1, ∃ e ∈ es, e.d = false ∧ v = ⟨e.t, e.h⟩ := fun v hv => by
  obtain ⟨n, _, _, h3, _⟩ := scanB_sub (b := b) (mx := mx) es []
  rw [h3, List.nil_append] at hv
  obtain ⟨e, he, rfl⟩ := List.mem_map.1 hv
  obtain ⟨h1, h2⟩ := List.mem_filter.1 he
  exact ⟨e, List.mem_of_mem_take h1, by simpa using h2, rfl⟩
theorem gone_step {m : Md} {g : List Int} (hg : Gone g m) (c : Ca) (h : Int) :
    Gone g (doM m c h).1 ∧ ((doM m c h).2.e = 0 → c.k = 1 → (doM m c h).2.h ∉ g) ∧ ((doM m c h).2.c = true → c.h ∉ g) ∧ ∀ v ∈ (doM m c h).2.ev, v.h ∉ g := by
  unfold doM
  split
  · unfold insM
    split
    · exact ⟨hg, fun he => absurd he (by simp [errR]), fun he => absurd he (by simp [errR]), fun v hv => by simp [errR] at hv⟩
    · split
      · exact ⟨hg, fun he => absurd he (by simp [errR]), fun he => absurd he (by simp [errR]), fun v hv => by simp [errR] at hv⟩
      · split
        · exact ⟨hg, fun he => absurd he (by simp [errR]), fun he => absurd he (by simp [errR]), fun v hv => by simp [errR] at hv⟩
        · rename_i hh
          rw [not_or] at hh
          have hng : h ∉ g := fun hx => hh.2 (hg.iss h hx)
          refine ⟨⟨fun e he hd => ?_, fun x hx => List.mem_append_left _ (hg.iss x hx)⟩, fun _ _ => hng, fun he => by simp at he, fun v hv => by simp at hv⟩
          rcases mem_putE.1 he with rfl | he
          · exact hng
          · exact hg.live e he hd
  · rename_i hk
    split
    · unfold canM
      split
      · rename_i es hk
        obtain ⟨a, e, b, h1, rfl, h3, h4⟩ := killE_some hk
        refine ⟨⟨fun f hf hd => ?_, hg.iss⟩, fun _ h5 => absurd h5 ‹_›, fun _ => ?_, fun v hv => by simp at hv⟩
        · rcases List.mem_append.1 hf with hf | hf
          · exact hg.live f (by rw [h1]; exact List.mem_append_left _ hf) hd
          · rcases List.mem_cons.1 hf with rfl | hf
            · simp at hd
            · exact hg.live f (by rw [h1]; exact List.mem_append_right _ (List.mem_cons_of_mem _ hf)) hd
        · rw [← h3]
          exact hg.live e (by rw [h1]; simp) h4
      · exact ⟨hg, fun _ h5 => absurd h5 ‹_›, fun he => by simp [errR] at he, fun v hv => by simp [errR] at hv⟩
    · split
      · unfold batM
        split
        · exact ⟨hg, fun he => absurd he (by simp [errR]), fun he => absurd he (by simp [errR]), fun v hv => by simp [errR] at hv⟩
        · obtain ⟨n, h1, _⟩ := scanB_sub (b := c.b) (mx := c.m) m.es []
          refine ⟨⟨fun e he hd => ?_, hg.iss⟩, fun _ h5 => absurd h5 ‹_›, fun he => by simp at he, fun v hv => ?_⟩
          · simp only [h1] at he
            exact hg.live e (List.mem_of_mem_drop he) hd
          · obtain ⟨e, he, hd, rfl⟩ := scanB_ev v hv
            exact hg.live e he hd
      · exact ⟨hg, fun he => absurd he (by simp [errR]), fun he => absurd he (by simp [errR]), fun v hv => by simp [errR] at hv⟩
theorem gone_start {m : Md} (hm : OkM m) (c : Ca) (h : Int) : Gone (goneOf c (doM m c h).2) (doM m c h).1 := by
  unfold doM
  split
  · unfold insM
    split
    · exact ⟨fun e _ _ => by simp [goneOf, errR], fun x hx => by simp [goneOf, errR] at hx⟩
    · split
      · exact ⟨fun e _ _ => by simp [goneOf, errR], fun x hx => by simp [goneOf, errR] at hx⟩
      · split
        · exact ⟨fun e _ _ => by simp [goneOf, errR], fun x hx => by simp [goneOf, errR] at hx⟩
        · exact ⟨fun e _ _ => by simp [goneOf], fun x hx => by simp [goneOf] at hx⟩
  · split
    · unfold canM
      split
      · rename_i es hk
        obtain ⟨a, e, b, h1, rfl, h3, h4⟩ := killE_some hk
        have hord := hm.ord
        rw [h1] at hord
        obtain ⟨p1, p2, p3⟩ := List.pairwise_append.1 hord
        obtain ⟨p4, p5⟩ := List.pairwise_cons.1 p2
        refine ⟨fun f hf hd => ?_, fun x hx => ?_⟩
        · simp only [goneOf, if_true, List.map_nil, List.append_nil, List.mem_singleton]
          rw [← h3]
          rcases List.mem_append.1 hf with hf | hf
          · exact (p3 f hf e (by simp)).2.1
          · rcases List.mem_cons.1 hf with rfl | hf
            · simp at hd
            · exact fun e2 => (p4 f hf).2.1 e2.symm
        · simp only [goneOf, if_true, List.map_nil, List.append_nil, List.mem_singleton] at hx
          rw [hx, ← h3]
          exact (hm.ent e (by rw [h1]; simp)).2.2.2.2
      · exact ⟨fun e _ _ => by simp [goneOf, errR], fun x hx => by simp [goneOf, errR] at hx⟩
    · split
      · unfold batM
        split
        · exact ⟨fun e _ _ => by simp [goneOf, errR], fun x hx => by simp [goneOf, errR] at hx⟩
        · obtain ⟨n, h1, h2, h3, _⟩ := scanB_sub (b := c.b) (mx := c.m) m.es []
          have hsp := hm.ord
          rw [← List.take_append_drop n m.es] at hsp
          obtain ⟨_, _, p3⟩ := List.pairwise_append.1 hsp
          refine ⟨fun e he _ => ?_, fun x hx => ?_⟩
          · simp only [h1] at he
            simp only [goneOf, Bool.false_eq_true, if_false, List.nil_append, h3]
            intro hx
            obtain ⟨v, hv, e1⟩ := List.mem_map.1 hx
            obtain ⟨f, hf, rfl⟩ := List.mem_map.1 hv
            exact (p3 f (List.mem_filter.1 hf).1 e he).2.1 e1
          · simp only [goneOf, Bool.false_eq_true, if_false, List.nil_append] at hx
            obtain ⟨v, hv, rfl⟩ := List.mem_map.1 hx
            obtain ⟨e, he, _, rfl⟩ := scanB_ev v hv
            exact (hm.ent e he).2.2.2.2
      · exact ⟨fun e _ _ => by simp [goneOf, errR], fun x hx => by simp [goneOf, errR] at hx⟩
theorem canM_len (m : Md) (c : Ca) : (canM m c).1.es.length = m.es.length := by
  unfold canM
  split
  · rename_i es hk
    obtain ⟨a, e, b, h1, rfl, _, _⟩ := killE_some hk
    rw [h1]; simp
  · rfl
theorem insM_full {m : Md} (hm : OkM m) {c : Ca} (ht : 0 ≤ c.t ∧ c.t ≤ MaxV) (h : Int) : (insM m c h).2.e = 10 ↔ (m.es.length : Int) = m.cap := by
  have hl := hm.len
  unfold insM
  rw [if_neg (fun h2 => h2 ht)]
  by_cases h1 : m.cap ≤ (m.es.length : Int)
  · rw [if_pos h1]
    exact ⟨fun _ => by omega, fun _ => rfl⟩
  · rw [if_neg h1]
    split
    · exact ⟨fun h2 => absurd (show (1 : Int) = 10 from h2) (by decide), fun h2 => by omega⟩
    · exact ⟨fun h2 => absurd (show (0 : Int) = 10 from h2) (by decide), fun h2 => by omega⟩
theorem scanB_all {b mx : Int} : ∀ (es : List En) (out : List Ev), (∀ e ∈ es, e.t < b) → ((out.length + es.length : Nat) : Int) ≤ mx → (scanB b mx es out).2 = []
  | [], _, _, _ => rfl
  | e :: es, out, hb, hx => by
    simp only [List.length_cons] at hx
    simp only [scanB]
    rw [if_pos ⟨hb e (by simp), by omega⟩]
    refine scanB_all es _ (fun f hf => hb f (by simp [hf])) ?_
    split
    · omega
    · simp only [List.length_append, List.length_singleton]; omega
/-- What Accepts answers. -/
def accM (m : Md) (c : Ca) (r : Rs) : Md × Bool := if r = (doM m c r.h).2 then ((doM m c r.h).1, true) else (m, false)
theorem doM_irr (m : Md) {c : Ca} (hk : c.k ≠ 1) (h h' : Int) : doM m c h = doM m c h' := by
  unfold doM
  rw [if_neg hk, if_neg hk]
theorem doM_hdl (m : Md) (c : Ca) (h : Int) (hk : c.k = 1) (he : (doM m c h).2.e = 0) : (doM m c h).2.h = h := by
  revert he
  unfold doM insM
  rw [if_pos hk]
  repeat' split
  all_goals first | (intro _; rfl) | (intro he; exact absurd he (by simp [errR]))
theorem acc_own (m : Md) (c : Ca) (h : Int) (hx : ¬ (c.k = 1 ∧ (doM m c h).2.e ≠ 0)) : doM m c (doM m c h).2.h = doM m c h := by
  by_cases hk : c.k = 1
  · have he : (doM m c h).2.e = 0 := Classical.not_not.1 (fun h2 => hx ⟨hk, h2⟩)
    rw [doM_hdl m c h hk he]
  · exact doM_irr m hk _ _
end Go.Proofs.Ytpneljhplbkdkaa
