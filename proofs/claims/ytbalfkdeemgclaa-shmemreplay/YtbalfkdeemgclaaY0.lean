/- Replaying a log: plain facts. -/
import Derived.Test.YtbalfkdeemgclaaL
namespace Go.Proofs.Ytbalfkdeemgclaa
open Go.RowKit

structure Rp where
  (W H D : List Int)
def Rp.init : Rp := ⟨[0, 0, 0, 0], [0, 0, 0, 0], [-1, -1, -1, -1]⟩
def Rp.step (r : Rp) (a : Acc) : Rp :=
  if a.k < 5 then { r with W := r.W.set a.i.toNat a.new }
  else { r with H := r.H.set a.i.toNat a.new, D := if a.new = 0 then r.D.set a.i.toNat (-1) else if a.ok then r.D.set a.i.toNat a.t else r.D }
structure Rp.Ok (r : Rp) (a : Acc) : Prop where
  i0 : 0 ≤ a.i
  i1 : a.i < 4
  w : a.k < 5 → a.old = r.W.getD a.i.toNat 0 ∧ (a.ok = false → a.new = a.old)
  h : ¬ a.k < 5 → a.old = r.H.getD a.i.toNat 0 ∧ a.ok = (a.new != a.old)
def repl (l : List Acc) : Rp := l.foldl Rp.step Rp.init
def St.rp (s : St) : Rp := ⟨s.ws, s.ms.map (fun o => b2i o.1), s.ms.map hold⟩
/-- The log of a state replays to it. -/
structure Replays (s : St) : Prop where
  each : ∀ q (h : q < s.log.length), (repl (s.log.take q)).Ok s.log[q]
  all : repl s.log = s.rp
theorem replays_zero : Replays (zeroSt 4 4) := ⟨fun q h => absurd h (by simp [zeroSt]), rfl⟩
theorem Replays.push {s s' : St} (h : Replays s) (a : Acc) (hl : s'.log = s.log ++ [a]) (ho : s.rp.Ok a) (he : s.rp.step a = s'.rp) : Replays s' := by
  refine ⟨fun q hq => ?_, ?_⟩
  · have hq' : q < (s.log ++ [a]).length := by rw [← hl]; exact hq
    have e1 : s'.log[q] = (s.log ++ [a])[q] := by simp [hl]
    rw [e1, hl]
    by_cases hlt : q < s.log.length
    · rw [List.getElem_append_left hlt, List.take_append_of_le_length (by omega)]
      exact h.each q hlt
    · have : q = s.log.length := by simp at hq'; omega
      subst this
      rw [List.getElem_append_right (by omega)]
      simp only [Nat.sub_self, List.getElem_cons_zero, List.take_left']
      rw [h.all]
      exact ho
  · rw [hl, repl, List.foldl_append]
    show Rp.step (repl s.log) a = _
    rw [h.all, he]
theorem Replays.same {s s' : St} (h : Replays s) (hl : s'.log = s.log) (hw : s'.ws = s.ws) (hm : s'.ms = s.ms) : Replays s' := by
  obtain ⟨ws, ms, log, v⟩ := s
  obtain ⟨ws', ms', log', v'⟩ := s'
  simp only at hl hw hm
  subst hl; subst hw; subst hm
  exact ⟨h.each, h.all⟩
theorem set_same (l : List Int) (k : Nat) (x : Int) (h : l.getD k 0 = x) (hk : k < l.length) : l.set k x = l := by
  subst h
  rw [List.getD_eq_getElem?_getD, List.getElem?_eq_getElem hk]
  simp
theorem Replays.step {n : Nat} {s : St} (h : Replays s) (h4 : Four n s) (o : Oq) (hk : 1 ≤ o.k ∧ o.k ≤ 7) : Replays (s.step o).1 := by
  have hw4 := h4.ws
  have hm4 := h4.ms
  obtain ⟨hk1, hk7⟩ := hk
  unfold St.step
  by_cases c4 : o.k ≤ 4
  · rw [if_pos c4]
    by_cases hi : 0 ≤ o.i ∧ o.i < s.ws.length
    · rw [if_pos hi]
      have hj : o.i.toNat < s.ws.length := by omega
      have hset : ∀ x, s.x o.i = x → s.ws.set o.i.toNat x = s.ws := fun x hx => set_same _ _ _ hx hj
      by_cases k1 : o.k = 1
      · rw [if_pos k1]
        exact h.push _ rfl ⟨hi.1, by simp only; omega, fun _ => ⟨rfl, fun h => by cases h⟩, fun h => absurd (show (1 : Int) < 5 by omega) h⟩ (by simp only [Rp.step, St.rp, if_pos (show (1 : Int) < 5 by omega), hset _ rfl])
      · rw [if_neg k1]
        by_cases k2 : o.k = 2
        · rw [if_pos k2]
          exact h.push _ rfl ⟨hi.1, by simp only; omega, fun _ => ⟨rfl, fun h => by cases h⟩, fun h => absurd (show (2 : Int) < 5 by omega) h⟩ (by simp only [Rp.step, St.rp, if_pos (show (2 : Int) < 5 by omega)])
        · rw [if_neg k2]
          by_cases k3 : o.k = 3
          · rw [if_pos k3]
            by_cases hx : s.x o.i = o.a
            · rw [if_pos hx]
              exact h.push _ rfl ⟨hi.1, by simp only; omega, fun _ => ⟨rfl, fun h => by cases h⟩, fun h => absurd (show (3 : Int) < 5 by omega) h⟩ (by simp only [Rp.step, St.rp, if_pos (show (3 : Int) < 5 by omega)])
            · rw [if_neg hx]
              exact h.push _ rfl ⟨hi.1, by simp only; omega, fun _ => ⟨rfl, fun _ => rfl⟩, fun h => absurd (show (3 : Int) < 5 by omega) h⟩ (by simp only [Rp.step, St.rp, if_pos (show (3 : Int) < 5 by omega), hset _ rfl])
          · rw [if_neg k3]
            exact h.push _ rfl ⟨hi.1, by simp only; omega, fun _ => ⟨rfl, fun h => by cases h⟩, fun h => absurd (show (4 : Int) < 5 by omega) h⟩ (by simp only [Rp.step, St.rp, if_pos (show (4 : Int) < 5 by omega)])
    · rw [if_neg hi]; exact h
  · rw [if_neg c4]
    by_cases hi : 0 ≤ o.i ∧ o.i < s.ms.length
    · rw [if_pos hi]
      have hj : o.i.toNat < s.ms.length := by omega
      have hmi : s.m o.i = s.ms[o.i.toNat] := by simp [St.m, hj]
      have hH : s.rp.H.getD o.i.toNat 0 = b2i (s.m o.i).1 := by simp [St.rp, hj, hmi]
      have hHs : ∀ x, b2i (s.m o.i).1 = x → (s.ms.map (fun o => b2i o.1)).set o.i.toNat x = s.ms.map (fun o => b2i o.1) := fun x hx => set_same _ _ _ (hH.trans hx) (by simpa using hj)
      by_cases k5 : o.k = 5
      · rw [if_pos k5]
        by_cases hm : (s.m o.i).1 = true
        · rw [if_pos hm]
          have h1 : b2i (s.m o.i).1 = 1 := by rw [hm]; rfl
          exact h.push _ rfl ⟨hi.1, by simp only; omega, fun h => absurd h (by simp), fun _ => ⟨by simp only; rw [hH, h1], by simp⟩⟩ (by simp [Rp.step, St.rp, hHs _ h1])
        · rw [if_neg hm]
          have h1 : b2i (s.m o.i).1 = 0 := by simp [b2i, hm]
          refine h.push _ rfl ⟨hi.1, by simp only; omega, fun h => absurd h (by simp), fun _ => ⟨by simp only; rw [hH, h1], by simp⟩⟩ ?_
          simp [Rp.step, St.rp, b2i, hold, List.map_set]
      · rw [if_neg k5]
        by_cases k6 : o.k = 6
        · rw [if_pos k6]
          by_cases hm : s.m o.i = (true, o.t)
          · rw [if_pos hm]
            have h1 : b2i (s.m o.i).1 = 1 := by rw [hm]; rfl
            refine h.push _ rfl ⟨hi.1, by simp only; omega, fun h => absurd h (by simp), fun _ => ⟨by simp only; rw [hH, h1], by simp⟩⟩ ?_
            simp [Rp.step, St.rp, b2i, hold, List.map_set]
          · rw [if_neg hm]
            refine h.push _ rfl ⟨hi.1, by simp only; omega, fun h => absurd h (by simp), fun _ => ⟨by simp only; rw [hH], by simp⟩⟩ ?_
            have hd : b2i (s.m o.i).1 = 0 → (s.ms.map hold).set o.i.toNat (-1) = s.ms.map hold := by
              intro h0
              refine set_same _ _ _ ?_ (by simpa using hj)
              have : (s.m o.i).1 = false := by
                cases hb : (s.m o.i).1
                · rfl
                · rw [hb] at h0; simp [b2i] at h0
              rw [List.getD_eq_getElem?_getD, List.getElem?_map, List.getElem?_eq_getElem hj]
              simp only [Option.map_some, Option.getD_some]
              rw [← hmi, hold, this]; rfl
            by_cases h0 : b2i (s.m o.i).1 = 0
            · simp [Rp.step, St.rp, h0, hd h0]
              rw [← h0, hHs _ rfl]
            · simp [Rp.step, St.rp, hHs _ rfl, h0]
        · rw [if_neg k6]
          split
          · exact h
          · exact h.same rfl rfl rfl
    · rw [if_neg hi]
      split
      · exact h
      · exact h.same rfl rfl rfl
end Go.Proofs.Ytbalfkdeemgclaa
