
/- Plain maths: the sequential model of layer 10: entries, issued handles, calls, results. Nothing of the program. -/
import Derived.Test.YtpneljhplbkdkaaF
namespace Go.Proofs.Ytpneljhplbkdkaa

structure En where
  t : Int
  q : Int
  h : Int
  d : Bool
deriving DecidableEq
structure Ev where
  t : Int
  h : Int
deriving DecidableEq
structure Md where
  cap : Int
  es : List En
  nx : Int
  is : List Int
deriving DecidableEq
structure Ca where
  k : Int
  t : Int
  h : Int
  m : Int
  b : Int
structure Rs where
  e : Int
  h : Int
  c : Bool
  ev : List Ev
deriving DecidableEq
def MaxV : Int := 1152921504606846976
def okH (h : Int) : Bool := decide (0 ≤ h) && decide (h ≤ 70368744177727)
/-- An entry stands ahead of another. -/
def ltE (f e : En) : Prop := f.t < e.t ∨ (f.t = e.t ∧ f.q < e.q)
instance (f e : En) : Decidable (ltE f e) := by unfold ltE; infer_instance
structure OkM (m : Md) : Prop where
  cap : 1 ≤ m.cap ∧ m.cap ≤ 64
  len : (m.es.length : Int) ≤ m.cap
  nx : m.nx = (m.is.length : Int)
  ent : ∀ e ∈ m.es, 0 ≤ e.t ∧ e.t ≤ MaxV ∧ 0 ≤ e.q ∧ e.q < m.nx ∧ e.h ∈ m.is
  ord : m.es.Pairwise (fun f e => f.q ≠ e.q ∧ f.h ≠ e.h ∧ ltE f e)
  hv : ∀ h ∈ m.is, okH h = true
  nodup : m.is.Nodup
/-- The place behind the last entry, among the first n, that is not later than t. -/
def posN (es : List En) (t : Int) : Nat → Nat
  | 0 => 0
  | n + 1 => if t < (es.getD n ⟨0, 0, 0, false⟩).t then posN es t n else n + 1
theorem posN_le (es : List En) (t : Int) : ∀ n, posN es t n ≤ n
  | 0 => Nat.le_refl _
  | n + 1 => by
    simp only [posN]
    split
    · have := posN_le es t n; omega
    · exact Nat.le_refl _
def posM (es : List En) (t : Int) : Nat := posN es t es.length
theorem posM_le (es : List En) (t : Int) : posM es t ≤ es.length := posN_le es t _
theorem getD_get {es : List En} {i : Nat} (h : i < es.length) : es.getD i ⟨0, 0, 0, false⟩ = es[i] := by simp [List.getD, List.getElem?_eq_getElem h]
theorem posN_gt {es : List En} {t : Int} : ∀ {n i : Nat} (hn : n ≤ es.length) (_ : posN es t n ≤ i) (h2 : i < n), t < (es[i]'(by omega)).t
  | 0, i, _, _, h2 => absurd h2 (by omega)
  | n + 1, i, hn, h1, h2 => by
    simp only [posN] at h1
    split at h1
    · rename_i hc
      rw [getD_get (by omega)] at hc
      rcases Nat.lt_succ_iff_lt_or_eq.1 h2 with h | h
      · exact posN_gt (by omega) h1 h
      · subst h; exact hc
    · omega
theorem posN_last {es : List En} {t : Int} : ∀ {n : Nat} (hn : n ≤ es.length) (h : 0 < posN es t n), (es[posN es t n - 1]'(by have := posN_le es t n; omega)).t ≤ t
  | 0, _, h => absurd h (by simp [posN])
  | n + 1, hn, h => by
    by_cases hc : t < (es.getD n ⟨0, 0, 0, false⟩).t
    · have e : posN es t (n + 1) = posN es t n := by simp only [posN]; rw [if_pos hc]
      simp only [e] at h ⊢
      exact posN_last (by omega) h
    · have e : posN es t (n + 1) = n + 1 := by simp only [posN]; rw [if_neg hc]
      simp only [e, Nat.add_sub_cancel]
      rw [getD_get (by omega)] at hc
      omega
def putE (es : List En) (e : En) : List En := es.take (posM es e.t) ++ e :: es.drop (posM es e.t)
def errR (e : Int) : Rs := ⟨e, 0, false, []⟩
/-- An insertion. -/
def insM (m : Md) (c : Ca) (h : Int) : Md × Rs :=
  if ¬ (0 ≤ c.t ∧ c.t ≤ MaxV) then (m, errR 1)
  else if m.cap ≤ (m.es.length : Int) then (m, errR 10)
  else if okH h = false ∨ h ∈ m.is then (m, errR 1)
  else (⟨m.cap, putE m.es ⟨c.t, m.nx, h, false⟩, m.nx + 1, m.is ++ [h]⟩, ⟨0, h, false, []⟩)
/-- The first live entry with the handle becomes dead. -/
def killE (h : Int) : List En → Option (List En)
  | [] => none
  | e :: es => if e.h = h ∧ e.d = false then some (⟨e.t, e.q, e.h, true⟩ :: es) else (killE h es).map (e :: ·)
def canM (m : Md) (c : Ca) : Md × Rs :=
  match killE c.h m.es with
  | some es => (⟨m.cap, es, m.nx, m.is⟩, ⟨0, 0, true, []⟩)
  | none => (m, errR 0)
/-- A batch: what is out, what remains. -/
def scanB (b : Int) (mx : Int) : List En → List Ev → List Ev × List En
  | [], out => (out, [])
  | e :: es, out => if e.t < b ∧ (out.length : Int) < mx then scanB b mx es (if e.d = true then out else out ++ [⟨e.t, e.h⟩]) else (out, e :: es)
def batM (m : Md) (c : Ca) : Md × Rs :=
  if ¬ (0 ≤ c.m ∧ c.m ≤ 64) then (m, errR 1)
  else (⟨m.cap, (scanB c.b c.m m.es []).2, m.nx, m.is⟩, ⟨0, 0, false, (scanB c.b c.m m.es []).1⟩)
def doM (m : Md) (c : Ca) (h : Int) : Md × Rs :=
  if c.k = 1 then insM m c h else if c.k = 2 then canM m c else if c.k = 3 then batM m c else (m, errR 1)
def newM (n : Int) : Md × Int := if n < 1 ∨ 64 < n then (⟨0, [], 0, []⟩, 1) else (⟨n, [], 0, []⟩, 0)
theorem newM_ok {n : Int} (h : 1 ≤ n ∧ n ≤ 64) : OkM (newM n).1 := by
  unfold newM
  rw [if_neg (by omega)]
  exact ⟨h, by simp; omega, rfl, fun e he => by simp at he, List.Pairwise.nil, fun e he => by simp at he, List.nodup_nil⟩
/-- Insertions keep a model valid. -/
theorem insM_ok {m : Md} (hm : OkM m) (c : Ca) (h : Int) : OkM (insM m c h).1 := by
  unfold insM
  split
  · exact hm
  · rename_i ht
    split
    · exact hm
    · rename_i hl
      split
      · exact hm
      · rename_i hh
        have ht := Classical.not_not.1 ht
        rw [not_or] at hh
        have hh1 : okH h = true := by simpa using hh.1
        have hp := posM_le m.es c.t
        have hn := hm.nx
        refine ⟨hm.cap, ?_, ?_, ?_, ?_, ?_, ?_⟩
        · simp only [putE, List.length_append, List.length_cons, List.length_take, List.length_drop]; omega
        · simp only [List.length_append, List.length_singleton]; omega
        · intro e he
          simp only [putE] at he
          have hold : ∀ e ∈ m.es, 0 ≤ e.t ∧ e.t ≤ MaxV ∧ 0 ≤ e.q ∧ e.q < m.nx + 1 ∧ e.h ∈ m.is ++ [h] := fun e he => by
            obtain ⟨h1, h2, h3, h4, h5⟩ := hm.ent e he
            exact ⟨h1, h2, h3, by omega, List.mem_append_left _ h5⟩
          rcases List.mem_append.1 he with he | he
          · exact hold e (List.mem_of_mem_take he)
          · rcases List.mem_cons.1 he with rfl | he
            · exact ⟨ht.1, ht.2, by simp only; omega, by simp only; omega, by simp⟩
            · exact hold e (List.mem_of_mem_drop he)
        · simp only [putE]
          have hnew : ∀ e ∈ m.es, e.q ≠ m.nx ∧ e.h ≠ h := fun e he => by
            obtain ⟨_, _, _, h4, h5⟩ := hm.ent e he
            exact ⟨by omega, fun e2 => hh.2 (e2 ▸ h5)⟩
          have hdr : ∀ e ∈ m.es.drop (posM m.es c.t), c.t < e.t := fun e he => by
            obtain ⟨i, hi, rfl⟩ := List.mem_iff_getElem.1 he
            rw [List.length_drop] at hi
            rw [List.getElem_drop]
            exact posN_gt (Nat.le_refl _) (Nat.le_add_right _ _) (by have := hi; unfold posM at *; omega)
          have htk : ∀ e ∈ m.es.take (posM m.es c.t), e.t ≤ c.t := fun e he => by
            obtain ⟨i, hi, rfl⟩ := List.mem_iff_getElem.1 he
            rw [List.length_take] at hi
            rw [List.getElem_take]
            have hpos : 0 < posN m.es c.t m.es.length := by unfold posM at hi; omega
            have h1 := posN_last (Nat.le_refl _) hpos
            by_cases e2 : i = posN m.es c.t m.es.length - 1
            · subst e2; exact h1
            · have h2 := (List.pairwise_iff_getElem.1 hm.ord i (posN m.es c.t m.es.length - 1) (by omega) (by have := posN_le m.es c.t m.es.length; omega) (by unfold posM at hi; omega)).2.2
              unfold ltE at h2
              omega
          refine List.pairwise_append.2 ⟨hm.ord.sublist (List.take_sublist _ _), List.pairwise_cons.2 ⟨fun e he => ?_, hm.ord.sublist (List.drop_sublist _ _)⟩, fun f hf e he => ?_⟩
          · obtain ⟨h1, h2⟩ := hnew e (List.mem_of_mem_drop he)
            exact ⟨fun e2 => h1 e2.symm, fun e2 => h2 e2.symm, .inl (hdr e he)⟩
          · rcases List.mem_cons.1 he with rfl | he
            · obtain ⟨h1, h2⟩ := hnew f (List.mem_of_mem_take hf)
              have h3 := htk f hf
              have h4 := (hm.ent f (List.mem_of_mem_take hf)).2.2.2.1
              refine ⟨h1, h2, ?_⟩
              unfold ltE
              simp only
              omega
            · have h5 : m.es = m.es.take (posM m.es c.t) ++ m.es.drop (posM m.es c.t) := (List.take_append_drop _ _).symm
              have h6 := hm.ord
              rw [h5] at h6
              exact (List.pairwise_append.1 h6).2.2 f hf e he
        · intro x hx
          rcases List.mem_append.1 hx with hx | hx
          · exact hm.hv x hx
          · obtain rfl := List.mem_singleton.1 hx; exact hh1
        · exact List.nodup_append.2 ⟨hm.nodup, by simp, fun a ha b hb e => by
            obtain rfl := List.mem_singleton.1 hb
            exact hh.2 (e ▸ ha)⟩
/-- What killE does: the same entries but for one that was alive and is dead now. -/
theorem killE_some {h : Int} : ∀ {es es' : List En}, killE h es = some es' → ∃ a e b, es = a ++ e :: b ∧ es' = a ++ ⟨e.t, e.q, e.h, true⟩ :: b ∧ e.h = h ∧ e.d = false
  | [], es', hk => by simp [killE] at hk
  | e :: es, es', hk => by
    simp only [killE] at hk
    split at hk
    · rename_i hc
      obtain rfl := Option.some.inj hk
      exact ⟨[], e, es, rfl, rfl, hc⟩
    · obtain ⟨x, hx, rfl⟩ := Option.map_eq_some_iff.1 hk
      obtain ⟨a, f, b, rfl, rfl, h1⟩ := killE_some hx
      exact ⟨e :: a, f, b, rfl, rfl, h1⟩
theorem killE_none {h : Int} : ∀ {es : List En}, killE h es = none → ∀ e ∈ es, e.h = h → e.d = true
  | [], _, e, he, _ => by simp at he
  | f :: es, hk, e, he, hh => by
    simp only [killE] at hk
    split at hk
    · simp at hk
    · rename_i hc
      rcases List.mem_cons.1 he with rfl | he
      · cases hd : e.d
        · exact absurd ⟨hh, hd⟩ hc
        · rfl
      · exact killE_none (by simpa using hk) e he hh
theorem canM_ok {m : Md} (hm : OkM m) (c : Ca) : OkM (canM m c).1 := by
  unfold canM
  split
  · rename_i es hk
    obtain ⟨a, e, b, h1, rfl, _, _⟩ := killE_some hk
    have hlen := hm.len
    have hent := hm.ent
    have hord := hm.ord
    rw [h1] at hlen hent hord
    refine ⟨hm.cap, by simpa using hlen, hm.nx, fun f hf => ?_, ?_, hm.hv, hm.nodup⟩
    · rcases List.mem_append.1 hf with hf | hf
      · exact hent f (List.mem_append_left _ hf)
      · rcases List.mem_cons.1 hf with rfl | hf
        · exact hent e (by simp)
        · exact hent f (by simp [hf])
    · obtain ⟨p1, p2, p3⟩ := List.pairwise_append.1 hord
      obtain ⟨p4, p5⟩ := List.pairwise_cons.1 p2
      refine List.pairwise_append.2 ⟨p1, List.pairwise_cons.2 ⟨fun x hx => p4 x hx, p5⟩, fun f hf x hx => ?_⟩
      rcases List.mem_cons.1 hx with rfl | hx
      · exact p3 f hf e (by simp)
      · exact p3 f hf x (by simp [hx])
  · exact hm
theorem scanB_sub {b mx : Int} : ∀ (es : List En) (out : List Ev), ∃ n, (scanB b mx es out).2 = es.drop n ∧ n ≤ es.length ∧ (scanB b mx es out).1 = out ++ ((es.take n).filter (fun e => !e.d)).map (fun e => ⟨e.t, e.h⟩) ∧
    (∀ e ∈ es.take n, e.t < b) ∧ ((∃ h : n < es.length, ¬ (es[n].t < b ∧ ((scanB b mx es out).1.length : Int) < mx)) ∨ n = es.length)
  | [], out => ⟨0, by simp [scanB], by simp, by simp [scanB], by simp, .inr rfl⟩
  | e :: es, out => by
    by_cases hc : e.t < b ∧ (out.length : Int) < mx
    · obtain ⟨n, h1, h2, h3, h4, h5⟩ := scanB_sub es (if e.d = true then out else out ++ [⟨e.t, e.h⟩])
      have e0 : scanB b mx (e :: es) out = scanB b mx es (if e.d = true then out else out ++ [⟨e.t, e.h⟩]) := by simp only [scanB]; rw [if_pos hc]
      rw [e0]
      refine ⟨n + 1, by rw [h1]; rfl, by simp; omega, ?_, ?_, ?_⟩
      · rw [h3]
        cases hd : e.d <;> simp [hd, List.take_succ_cons]
      · intro f hf
        rw [List.take_succ_cons] at hf
        rcases List.mem_cons.1 hf with rfl | hf
        · exact hc.1
        · exact h4 f hf
      · rcases h5 with ⟨h, h6⟩ | h6
        · exact .inl ⟨by simp; omega, by simpa using h6⟩
        · exact .inr (by simp; omega)
    · have e0 : scanB b mx (e :: es) out = (out, e :: es) := by simp only [scanB]; rw [if_neg hc]
      rw [e0]
      exact ⟨0, rfl, by simp, by simp, by simp, .inl ⟨by simp, by simpa using hc⟩⟩
theorem batM_ok {m : Md} (hm : OkM m) (c : Ca) : OkM (batM m c).1 := by
  unfold batM
  split
  · exact hm
  · obtain ⟨n, h1, h2, _⟩ := scanB_sub (b := c.b) (mx := c.m) m.es []
    simp only [h1]
    have hl := hm.len
    exact ⟨hm.cap, by simp only [List.length_drop]; omega, hm.nx, fun e he => hm.ent e (List.mem_of_mem_drop he), hm.ord.sublist (List.drop_sublist _ _), hm.hv, hm.nodup⟩
theorem doM_ok {m : Md} (hm : OkM m) (c : Ca) (h : Int) : OkM (doM m c h).1 := by
  unfold doM
  split
  · exact insM_ok hm c h
  · split
    · exact canM_ok hm c
    · split
      · exact batM_ok hm c
      · exact hm
theorem doM_cap (m : Md) (c : Ca) (h : Int) : (doM m c h).1.cap = m.cap := by
  unfold doM insM canM batM
  repeat (first | rfl | split)
theorem doM_err (m : Md) (c : Ca) (h : Int) (he : (doM m c h).2.e ≠ 0) : (doM m c h).1 = m := by
  revert he
  unfold doM insM canM batM
  repeat' split
  all_goals first | (intro _; rfl) | (intro he; exact absurd rfl he)
end Go.Proofs.Ytpneljhplbkdkaa
