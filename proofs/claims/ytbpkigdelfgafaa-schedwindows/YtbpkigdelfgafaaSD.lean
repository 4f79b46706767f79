/- Contracts: Repair of package sched and of the reference. -/
import Derived.Test.YtbpkigdelfgafaaSC
namespace Go.Proofs.Ytbpkigdelfgafaa
open Go.RowKit

theorem ageL_nil (n : Nat) : ageL n [] = List.replicate n 0 := by
  apply List.ext_getElem
  · simp [ageL]
  · intro i h1 h2
    simp [ageL, ages, age_nil]
def RepRel (ps : List Int) (n v : Nat) (w : World) (b : Nat) (g : Nat) (iv : Value) (wr : World) : Prop :=
  ∃ k, iv = .int .i64 (k : Nat) ∧ k + g = ps.length ∧ wr.heap[b]? = some (.cells (icells (ageL n (repair n v (ps.take k)))) 3 (0, 0)) ∧
    wr.heap[b + 1]? = some (.cells (icells (repair n v (ps.take k) ++ List.replicate (ps.length - k) 0)) 3 (0, 0)) ∧ Upd [] w wr
theorem rep_next {ps : List Int} {n v : Nat} {w wr w2 : World} {b k g : Nat} {c : Int} {l : List Int} (hl : repair n v (ps.take k) = l) (hk : k < ps.length) (hkg : k + 1 + g = ps.length) (hc : choice n v l ps[k] = c) (hbw : w.heap.size ≤ b)
    (hr : wr.heap[b + 1]? = some (.cells (icells (l ++ List.replicate (ps.length - k) 0)) 3 (0, 0))) (hU : Upd [] w wr)
    (ha : w2.heap[b]? = some (.cells (icells (ageL n (l ++ [c]))) 3 (0, 0))) (hu : Upd [b] (wr.setCell ⟨b + 1, k, none⟩ (.int .i64 c)) w2) (iv : Value) (hiv : iv = .int .i64 ((k + 1 : Nat) : Int)) : RepRel ps n v w b g iv w2 := by
  have e : repair n v (ps.take (k + 1)) = l ++ [c] := by rw [repair_take_succ n v ps k hk, hl, hc]
  refine ⟨k + 1, hiv, hkg, by rw [e]; exact ha, ?_, (hU.setCell (by simp; omega) _).trans hu (by simp; omega)⟩
  rw [e]
  exact hu.at (fill_block (by rw [← hl]; exact repair_take_length n v ps k (by omega)) hk hr hU) (by simp)

set_option maxRecDepth 100000 in
set_option maxHeartbeats 2000000 in
theorem Repair_any (ad : Option Addr) (cp : Nat) (ps : List Int) (n v : Nat) (hn0 : 1 ≤ n) (hn : n ≤ 64) (hnv : n ≤ v) (hv : v ≤ 100000) (hm : ps.length ≤ 65536) (hT : Thr n ps) (w : World) (hi : Ints w ad ps) :
    Calls Try.prog 19 #[.slice ad ps.length cp, .int .i64 n, .int .i64 v] w (Gives (repair n v ps) w) := by
  have HI := Lib.hid hi; have HT := Lib.hid hT; clear hi hT
  have hmk := mkAny 26 3 (.int .i64 0) 1 8 Try.underlying26 infoInt ps.length (by omega) (by omega) (icells (List.replicate ps.length (0 : Int))) (madeInts ps.length)
  generalize hZ : icells (List.replicate ps.length (0 : Int)) = Z at *
  have HZ := Lib.hid hZ; clear hZ
  have hmk2 := mkAny 50 3 (.int .i64 0) 1 8 Try.underlying50 infoInt n (by omega) (by omega) (icells (List.replicate n (0 : Int))) (madeInts n)
  generalize hY : icells (List.replicate n (0 : Int)) = Y at *
  have HY := Lib.hid hY; clear hY
  have hd : decide (v < n) = false := by simp; omega
  go_enter Try.func19, Try.ntmps19
  go_wp2_with fail
  refine (validThreads_yes n (by omega) hn _).mono ?_
  rintro e w' ⟨rfl, rfl⟩
  go_wp2_with fail
  go_loopg [27] ps.length (fun g i wr => RepRel ps n v w w.heap.size g i wr)
  case atStart =>
    refine ⟨0, rfl, by omega, ?_, ?_, ((Upd.refl [] w).alloc _).alloc _⟩
    · rw [((Upd.refl [] _).alloc _).at (heap_alloc1 w _) (by simp), ← HY.out, ← ageL_nil]; rfl
    · rw [heap_alloc2, ← HZ.out]; rfl
  case round =>
    obtain ⟨k, rfl, hkg, ha, hr, hU⟩ := hrel
    have HA := Lib.hid ha; have HU := Lib.hid hU; have HR := Lib.hid hr
    by_cases hk : k < ps.length
    · clear ha hU hr
      obtain ⟨b, off, rfl, hc⟩ := (HI.out.stay HU.out) k hk
      have hth := HT.out _ (List.getElem_mem hk)
      have hlen := repair_take_length n v ps k (by omega)
      have hch : choice n v (repair n v (ps.take k)) ps[k] = if v - n ≤ ages (repair n v (ps.take k)) (old (ages (repair n v (ps.take k))) n) then ((old (ages (repair n v (ps.take k))) n : Nat) : Int) else ps[k] := rfl
      obtain ⟨p, hp⟩ := Int.eq_ofNat_of_zero_le hth.1
      have hp2 : p < n := by omega
      rw [hp] at hc hch
      have HP := Lib.hid hp; clear hp hth
      generalize hL : repair n v (ps.take k) = l at *
      have HL := Lib.hid hL; clear hL
      have HCH := Lib.hid hch; clear hch
      have hll : l.length ≤ 65536 := by omega
      have hol := old_lt (ages l) n (by omega)
      go_wp2_with fail
      refine (oldest_any _ n l hn0 hn _ HA.out).mono ?_
      rintro e w' ⟨rfl, rfl⟩
      have c1 := ageL_cell HA.out _ hol
      obtain ⟨u, c2⟩ := icell_some HR.out k (by rw [fill_length _ _ k hlen (by omega)]; exact hk)
      have f2 := free_block HR.out k
      generalize hO : old (ages l) n = o at *
      have HO := Lib.hid hO; clear hO
      generalize hG : ages l o = A at *
      have HG := Lib.hid hG; clear hG
      have hne : w.heap.size ≠ w.heap.size + 1 := by omega
      by_cases hdue : v - n ≤ A
      · have hd2 : decide ((v : Int) - n ≤ A) = true := by simp; omega
        go_wp2_with fail
        refine (advance_any _ n o l hol hn hll _ (by rw [Below.heap_setCell _ _ _ _ hne]; exact HA.out)).mono ?_
        rintro e w2 ⟨rfl, ha2, hu2⟩
        have HA2 := Lib.hid ha2; clear ha2
        go_wp2_with fail
        go_roundg (gk - 1)
        case measure => omega
        case rel => exact rep_next HL.out hk (by omega) (by rw [HP.out, HCH.out, if_pos hdue]) (Nat.le_refl _) HR.out HU.out HA2.out hu2 _ (by go_num)
      · have hd2 : decide ((v : Int) - n ≤ A) = false := by simp; omega
        go_wp2_with fail
        refine (advance_any _ n p l hp2 hn hll _ (by rw [Below.heap_setCell _ _ _ _ hne]; exact HA.out)).mono ?_
        rintro e w2 ⟨rfl, ha2, hu2⟩
        have HA2 := Lib.hid ha2; clear ha2
        go_wp2_with fail
        go_roundg (gk - 1)
        case measure => omega
        case rel => exact rep_next HL.out hk (by omega) (by rw [HP.out, HCH.out, if_neg hdue]) (Nat.le_refl _) HR.out HU.out HA2.out hu2 _ (by go_num)
    · obtain rfl : k = ps.length := by omega
      clear ha hU hr
      go_wp2_with fail
      go_ret
      have := HR.out
      rw [fill_end, List.take_length] at this
      exact gives (repair_length _ _ _).symm (Nat.le_refl _) (ints_block this) HU.out

/-- A row of ints, of which the first are xs. -/
def Row (w : World) (g cap : Nat) (xs : List Int) : Prop := ∃ cur : Array Value, w.heap[g]? = some (.cells cur 3 (0, 0)) ∧ xs.length ≤ cap ∧ cap ≤ maxLen ∧ cur.size = cap ∧ cur.toList.take xs.length = xs.map (Value.int .i64)
theorem Row.stay {w w' : World} {g cap : Nat} {xs : List Int} (h : Row w g cap xs) (hu : Upd [] w w') : Row w' g cap xs := by
  obtain ⟨cur, h1, h2⟩ := h
  exact ⟨cur, hu.at h1 (by simp), h2⟩
theorem Row.keep {S : List Nat} {w w' : World} {g cap : Nat} {xs : List Int} (h : Row w g cap xs) (hu : Upd S w w') (hS : g ∉ S) : Row w' g cap xs := by
  obtain ⟨cur, h1, h2⟩ := h
  exact ⟨cur, hu.at h1 hS, h2⟩
theorem Row.cap {w : World} {g cap : Nat} {xs : List Int} (h : Row w g cap xs) : xs.length ≤ cap := by obtain ⟨cur, h1, h2, _⟩ := h; exact h2
theorem Row.lt {w : World} {g cap : Nat} {xs : List Int} (h : Row w g cap xs) : g < w.heap.size := by obtain ⟨cur, h1, _⟩ := h; exact lt_block h1
theorem Row.free {w : World} {g cap : Nat} {xs : List Int} (h : Row w g cap xs) (o : Nat) : w.frozen? ⟨g, o, none⟩ = false := by obtain ⟨cur, h1, _⟩ := h; exact free_block h1 o
theorem Row.get {w : World} {g cap : Nat} {xs : List Int} (h : Row w g cap xs) (k : Nat) (hk : k < xs.length) : w.cell? ⟨g, k, none⟩ = some (.int .i64 xs[k]) := by
  obtain ⟨cur, h1, h2, h3, h4, h5⟩ := h
  rw [cell_block h1]
  have : (cur.toList.take xs.length)[k]? = some (.int .i64 xs[k]) := by rw [h5]; simp [hk]
  rw [List.getElem?_take_of_lt hk] at this
  simpa using this
theorem Row.some {w : World} {g cap : Nat} {xs : List Int} (h : Row w g cap xs) (k : Nat) (hk : k < xs.length) : ∃ v, w.cell? ⟨g, k, none⟩ = Option.some (.int .i64 v) := ⟨_, h.get k hk⟩
theorem Row.set {w : World} {g cap : Nat} {xs : List Int} (h : Row w g cap xs) (k : Nat) (x : Int) (_hk : k < xs.length) : Row (w.setCell ⟨g, k, none⟩ (.int .i64 x)) g cap (xs.set k x) := by
  obtain ⟨cur, h1, h2, h3, h4, h5⟩ := h
  refine ⟨_, setCell_block h1 _, by simpa using h2, h3, by simpa using h4, ?_⟩
  rw [List.length_set, Array.toList_setIfInBounds, List.take_set, h5, List.map_set]
theorem row_of_own {w : World} {base g n cap : Nat} {xs : List Int} (h : w.ownsRow base 3 1 (.slice (some ⟨g, 0, none⟩) n cap) n (xs.map (Value.int .i64))) : Row w g cap xs := by
  have hn : xs.length = n := by have := h.1; simpa using this
  rcases h.2 with ⟨h0, _⟩ | ⟨g', cap', cur, hv, hb, hgg, hnc, hcm, hcs, htk⟩
  · cases h0
  · cases hv
    exact ⟨cur, hgg, by omega, hcm, by omega, by rw [hn]; simpa using htk⟩

def dueB (f : Nat → Nat) (D : Nat) : Nat → Bool
  | 0 => false
  | t + 1 => dueB f D t || decide (D ≤ f t)
theorem dueB_iff (f : Nat → Nat) (D n : Nat) : dueB f D n = true ↔ ∃ s, s < n ∧ D ≤ f s := by
  induction n with
  | zero => simp [dueB]
  | succ n ih =>
    simp only [dueB, Bool.or_eq_true, ih, decide_eq_true_eq]
    constructor
    · rintro (⟨s, h1, h2⟩ | h)
      · exact ⟨s, by omega, h2⟩
      · exact ⟨n, by omega, h⟩
    · rintro ⟨s, h1, h2⟩
      by_cases e : s = n
      · subst e; exact .inr h2
      · exact .inl ⟨s, by omega, h2⟩
theorem dueB_old (f : Nat → Nat) (D n : Nat) (hn : 1 ≤ n) : dueB f D n = decide (D ≤ f (old f n)) := by
  rw [Bool.eq_iff_iff, dueB_iff, decide_eq_true_eq]
  constructor
  · rintro ⟨s, h1, h2⟩
    exact Nat.le_trans h2 (old_max f n s h1)
  · intro h
    exact ⟨_, old_lt f n (by omega), h⟩

def ZeroRel (w : World) (n g : Nat) (v i : Value) (wr : World) : Prop :=
  ∃ k, i = .int .i64 (k : Nat) ∧ k + g = n ∧ wr.ownsRow w.heap.size 3 1 v k ((List.replicate k (0 : Int)).map (Value.int .i64)) ∧ Upd [] w wr ∧ (k = 0 → v = .slice (some ⟨w.heap.size, 0, none⟩) 0 0)
def RRepRel (ps : List Int) (n v cap0 g0 H1 : Nat) (w : World) (g : Nat) (ov iv : Value) (wr : World) : Prop :=
  ∃ k, iv = .int .i64 (k : Nat) ∧ k + g = ps.length ∧ Row wr g0 cap0 (ageL n (repair n v (ps.take k))) ∧ wr.ownsRow H1 3 1 ov k ((repair n v (ps.take k)).map (Value.int .i64)) ∧ Upd [] w wr ∧ H1 ≤ wr.heap.size
def ROldRel (l : List Int) (n D : Nat) (w0 : World) (g : Nat) (tv dv iv : Value) (wr : World) : Prop :=
  ∃ k : Nat, iv = .int .i64 (k : Nat) ∧ k + g = n ∧ tv = .int .i64 (old (ages l) k : Nat) ∧ dv = .bool (dueB (ages l) D k) ∧ Upd [] w0 wr
def RUpRel (l : List Int) (n cap0 g0 : Nat) (w0 : World) (g : Nat) (iv : Value) (wr : World) : Prop :=
  ∃ k : Nat, iv = .int .i64 (k : Nat) ∧ k + g = n ∧ Row wr g0 cap0 (upL n l k) ∧ Upd [g0] w0 wr
theorem rrep_next {ps : List Int} {n v cap0 g0 H1 k g gb capb p : Nat} {w w3 w4 w5 : World} {l : List Int} {ov : Value} {O : Obj} (hl : repair n v (ps.take k) = l) (hk : k < ps.length) (hkg : k + 1 + g = ps.length) (hc : choice n v l ps[k] = (p : Int))
    (hg0 : w.heap.size ≤ g0) (hH1 : g0 < H1) (hU : Upd [] w w3) (hr4 : Row w4 g0 cap0 (upL n l n)) (hU4 : Upd [g0] w3 w4) (hp : p < n)
    (hrow : (w4.setCell ⟨g0, p, none⟩ (.int .i64 0)).ownsRow H1 3 1 ov k (l.map (Value.int .i64)))
    (ho : w5.ownsRow H1 3 1 (.slice (some ⟨gb, 0, none⟩) (k + 1) capb) (k + 1) ((l ++ [(p : Int)]).map (Value.int .i64))) (hg : ((w4.setCell ⟨g0, p, none⟩ (.int .i64 0)).alloc O).grownBy w5 ov.ownBlock) (iv : Value) (hiv : iv = .int .i64 ((k + 1 : Nat) : Int)) :
    RRepRel ps n v cap0 g0 H1 w g (.slice (some ⟨gb, 0, none⟩) (k + 1) capb) iv w5 := by
  have e : repair n v (ps.take (k + 1)) = l ++ [(p : Int)] := by rw [repair_take_succ n v ps k hk, hl, hc]
  have hr5 : Row (w4.setCell ⟨g0, p, none⟩ (.int .i64 0)) g0 cap0 (ageL n (l ++ [(p : Int)])) := by
    rw [← upL_done n l p hp]; exact hr4.set p 0 (by rw [upL_length]; exact hp)
  have hUw : Upd [] w (w4.setCell ⟨g0, p, none⟩ (.int .i64 0)) := (hU.trans hU4 (by simp; omega)).setCell (by simp; omega) _
  have hb := (ho.lt gb rfl)
  refine ⟨k + 1, hiv, hkg, ?_, by rw [e]; exact ho, (hUw.alloc O).grown hg (fun x hx hxl => by have := (hrow.lt x hx).1; omega), by omega⟩
  rw [e]
  have hg' : Upd ov.ownBlock.toList (w4.setCell ⟨g0, p, none⟩ (.int .i64 0)) w5 := ((Upd.refl _ _).alloc O).grown hg (fun x hx _ => by simp [hx])
  exact hr5.keep hg' (fun hx => by have := (hrow.lt g0 (toList_of hx)).1; omega)

set_option maxRecDepth 100000 in
set_option maxHeartbeats 4000000 in
theorem RRepair_any (ad : Option Addr) (cp : Nat) (ps : List Int) (n v : Nat) (hn0 : 1 ≤ n) (hn : n ≤ 64) (hnv : n ≤ v) (hv : v ≤ 100000) (hm : ps.length ≤ 65536) (hT : Thr n ps) (w : World) (hi : Ints w ad ps) :
    Calls Try.prog 20 #[.slice ad ps.length cp, .int .i64 n, .int .i64 v] w (Gives (repair n v ps) w) := by
  have HI := Lib.hid hi; have HT := Lib.hid hT; clear hi hT
  have hmk := mkAny 26 3 (.int .i64 0) 1 8 Try.underlying26 infoInt 0 (by omega) (by omega) #[] (madeInts 0)
  have hmk' := fun w => hmk w
  simp only [Int.natCast_zero] at hmk'
  clear hmk
  go_enter Try.func20, Try.ntmps20
  go_wp2_with fail
  go_loopg [7, 8] n (fun g v i wr => ZeroRel w n g v i wr)
  case atStart => exact ⟨0, rfl, by omega, World.ownsRow_made w #[] 0 (Nat.le_refl _) (by decide) (by simp), (Upd.refl [] w).alloc _, fun _ => rfl⟩
  case round =>
    obtain ⟨k, rfl, hkg, hr, hU, hv0⟩ := hrel
    have HR := Lib.hid hr; have HU := Lib.hid hU; clear hv0
    by_cases hk : k < n
    · have hsz := hU.size
      clear hr hU
      go_wp2_with (at_builtin; refine app_int rfl _ _ rfl w.heap.size _ k (List.replicate k 0) rfl (by exact HR.out.alloc _) _ _ rfl (heap_alloc1 _ _) (by omega) (by simp; omega) ?_; intro g cap w1 hown hgrow hat hlt; have HO := Lib.hid hown; have HG := Lib.hid hgrow; clear hown hgrow hat)
      go_roundg (gk - 1)
      case measure => omega
      case rel =>
        refine ⟨k + 1, by go_num, by omega, ?_, app_upd HU.out HR.out HG.out, fun h => by omega⟩
        rw [List.replicate_succ']
        exact HO.out
    · obtain rfl : n = k := by omega
      obtain ⟨g0, cap0, rfl, hg0, hH1'⟩ := hr.form (by omega)
      have hrow0 := row_of_own hr
      rw [← ageL_nil] at hrow0
      have HR0 := Lib.hid hrow0
      clear hr hU hrow0
      generalize hH : wr.heap.size = H1 at *
      have HH := Lib.hid hH; clear hH
      have hH1 : g0 < H1 := hH1'
      go_wp2_with fail
      go_loopg [9, 10] ps.length (fun g ov iv wr => RRepRel ps n v cap0 g0 H1 w g ov iv wr)
      case atStart => exact ⟨0, rfl, by omega, HR0.out, World.ownsRow_nil _ _ _ _, HU.out, by have := HH.out; omega⟩
      clear HR0 HU HH HR
      case round =>
      obtain ⟨k, rfl, hkg, hr, hrow, hU, hsz⟩ := hrel
      have HR0 := Lib.hid hr; have HU := Lib.hid hU; have HROW := Lib.hid hrow; clear hr hU hrow
      by_cases hkp : k < ps.length
      · obtain ⟨b, off, rfl, hc⟩ := (HI.out.stay HU.out) k hkp
        have hth := HT.out _ (List.getElem_mem hkp)
        have hlen := repair_take_length n v ps k (by omega)
        have hch : choice n v (repair n v (ps.take k)) ps[k] = if v - n ≤ ages (repair n v (ps.take k)) (old (ages (repair n v (ps.take k))) n) then ((old (ages (repair n v (ps.take k))) n : Nat) : Int) else ps[k] := rfl
        obtain ⟨p, hp⟩ := Int.eq_ofNat_of_zero_le hth.1
        have hp2 : p < n := by omega
        rw [hp] at hc hch
        have HP := Lib.hid hp; clear hp hth
        generalize hL : repair n v (ps.take k) = l at *
        have HL := Lib.hid hL; clear hL
        have HCH := Lib.hid hch; clear hch
        have hll : l.length ≤ 65536 := by omega
        have hcp := HR0.out.cap
        rw [ageL_length] at hcp
        go_wp2_with fail
        go_loopg [12, 13, 14] n (fun g tv dv iv wr2 => ROldRel l n (v - n) wr g tv dv iv wr2)
        case atStart => exact ⟨0, rfl, by omega, rfl, rfl, Upd.refl _ _⟩
        case round =>
          obtain ⟨t, rfl, htg, rfl, rfl, hU3⟩ := hrel
          have HU3 := Lib.hid hU3; clear hU3
          by_cases ht : t < n
          · have hol := old_le (ages l) n t ht
            have hr3 := HR0.out.stay HU3.out
            have c1 := hr3.get t (by rw [ageL_length]; exact ht)
            rw [ageL_get n l t ht] at c1
            have c2 := hr3.get _ (by rw [ageL_length]; exact hol)
            rw [ageL_get n l _ hol] at c2
            have hy := old_yes (ages l) t
            have hno := old_no (ages l) t
            have hdd : dueB (ages l) (v - n) (t + 1) = (dueB (ages l) (v - n) t || decide (v - n ≤ ages l t)) := rfl
            have HY := Lib.hid hy; have HN := Lib.hid hno; have HDD := Lib.hid hdd; clear hy hno hdd hr3
            generalize hO : old (ages l) t = o at *
            have HO := Lib.hid hO; clear hO
            generalize hA : ages l t = A at *
            have HA := Lib.hid hA; clear hA
            generalize hA2 : ages l o = A2 at *
            have HA2 := Lib.hid hA2; clear hA2
            generalize hD : dueB (ages l) (v - n) t = d at *
            have HD := Lib.hid hD; clear hD
            by_cases hc1 : A2 < A
            · by_cases hc2 : v - n ≤ A
              · have hd2 : decide ((v : Int) - n ≤ A) = true := by simp; omega
                go_wp2_with fail
                go_quiet (fail)
                all_goals go_wp2_with fail
                go_roundg (n - (t + 1))
                case measure => omega
                case rel => exact ⟨t + 1, by go_num, by omega, by rw [HY.out hc1], by rw [HDD.out]; simp [hc2], HU3.out.drewN _⟩
              · have hd2 : decide ((v : Int) - n ≤ A) = false := by simp; omega
                go_wp2_with fail
                go_quiet (fail)
                all_goals go_wp2_with fail
                go_roundg (n - (t + 1))
                case measure => omega
                case rel => exact ⟨t + 1, by go_num, by omega, by rw [HY.out hc1], by rw [HDD.out]; simp [hc2], HU3.out.drewN _⟩
            · by_cases hc2 : v - n ≤ A
              · have hd2 : decide ((v : Int) - n ≤ A) = true := by simp; omega
                go_wp2_with fail
                go_quiet (fail)
                all_goals go_wp2_with fail
                go_roundg (n - (t + 1))
                case measure => omega
                case rel => exact ⟨t + 1, by go_num, by omega, by rw [HN.out hc1], by rw [HDD.out]; simp [hc2], HU3.out.drewN _⟩
              · have hd2 : decide ((v : Int) - n ≤ A) = false := by simp; omega
                go_wp2_with fail
                go_quiet (fail)
                all_goals go_wp2_with fail
                go_roundg (n - (t + 1))
                case measure => omega
                case rel => exact ⟨t + 1, by go_num, by omega, by rw [HN.out hc1], by rw [HDD.out]; simp [hc2], HU3.out.drewN _⟩
          · obtain rfl : n = t := by omega
            rw [dueB_old _ _ _ hn0]
            have hol := old_lt (ages l) n (by omega)
            have HR3 := Lib.hid (HR0.out.stay HU3.out)
            have HROW3 := Lib.hid (HU3.out.row HROW.out (by simp))
            have HU2 := Lib.hid (HU.out.trans HU3.out (by simp))
            have hsz3 := HU3.out.size
            generalize hO : old (ages l) n = o at *
            have HO := Lib.hid hO; clear hO
            generalize hG : ages l o = A at *
            have HG := Lib.hid hG; clear hG
            clear HU3
            by_cases hdue : v - n ≤ A
            · rw [decide_eq_true hdue]
              go_wp2_with fail
              go_loopg [15] n (fun g iv wr2 => RUpRel l n cap0 g0 wr g iv wr2)
              case atStart => exact ⟨0, rfl, by omega, by rw [upL_zero]; exact HR3.out, Upd.refl _ _⟩
              case round =>
                obtain ⟨t, rfl, htg, hr4, hU4⟩ := hrel
                have HR4 := Lib.hid hr4; have HU4 := Lib.hid hU4
                by_cases ht : t < n
                · have c1 := hr4.get t (by rw [upL_length]; exact ht)
                  rw [upL_get n l t ht] at c1
                  have f1 := hr4.free t
                  have hag : ages l t ≤ 65536 := Nat.le_trans (age_le _ _) hll
                  have hcp := hr4.cap
                  rw [upL_length] at hcp
                  clear hr4 hU4
                  go_wp2_with fail
                  go_roundg (n - (t + 1))
                  case measure => omega
                  case rel => exact ⟨t + 1, by go_num, by omega, by rw [← upL_set n l t ht]; exact HR4.out.set t _ (by rw [upL_length]; exact ht), HU4.out.setCell (by simp) _⟩
                · obtain rfl : t = n := by omega
                  obtain ⟨u, c1⟩ := hr4.some o (by rw [upL_length]; exact hol)
                  have f1 := hr4.free o
                  have hcp := hr4.cap
                  rw [upL_length] at hcp
                  have hrow5 := HU4.out.row HROW3.out (fun x hx => by have := (HROW3.out.lt x hx).1; simp; omega)
                  have hsz5 := HU4.out.size
                  have HROW5 := Lib.hid (row_setCell hrow5 (a := ⟨g0, o, none⟩) (fun hx => by have := (hrow5.lt _ hx).1; simp at this; omega) (.int .i64 0))
                  clear hr4 hU4 hrow5
                  go_wp2_with (at_builtin; refine app_int rfl _ _ rfl H1 _ k l rfl (by exact HROW5.out.alloc _) _ _ rfl (heap_alloc_at _ (by simp [World.setCell])) (by omega) (by simp [World.setCell]; omega) ?_; intro g cap w1 hown hgrow hat hlt; have HO5 := Lib.hid hown; have HG5 := Lib.hid hgrow; clear hown hgrow hat)
                  go_roundg (ps.length - (k + 1))
                  case measure => omega
                  case rel => exact rrep_next HL.out hkp (by omega) (by rw [HP.out, HCH.out, if_pos hdue]) hg0 hH1 HU2.out HR4.out HU4.out hol HROW5.out HO5.out HG5.out _ (by go_num)
            · rw [decide_eq_false hdue]
              go_wp2_with fail
              go_loopg [15] n (fun g iv wr2 => RUpRel l n cap0 g0 wr g iv wr2)
              case atStart => exact ⟨0, rfl, by omega, by rw [upL_zero]; exact HR3.out, Upd.refl _ _⟩
              case round =>
                obtain ⟨t, rfl, htg, hr4, hU4⟩ := hrel
                have HR4 := Lib.hid hr4; have HU4 := Lib.hid hU4
                by_cases ht : t < n
                · have c1 := hr4.get t (by rw [upL_length]; exact ht)
                  rw [upL_get n l t ht] at c1
                  have f1 := hr4.free t
                  have hag : ages l t ≤ 65536 := Nat.le_trans (age_le _ _) hll
                  have hcp := hr4.cap
                  rw [upL_length] at hcp
                  clear hr4 hU4
                  go_wp2_with fail
                  go_roundg (n - (t + 1))
                  case measure => omega
                  case rel => exact ⟨t + 1, by go_num, by omega, by rw [← upL_set n l t ht]; exact HR4.out.set t _ (by rw [upL_length]; exact ht), HU4.out.setCell (by simp) _⟩
                · obtain rfl : t = n := by omega
                  obtain ⟨u, c1⟩ := hr4.some p (by rw [upL_length]; exact hp2)
                  have f1 := hr4.free p
                  have hcp := hr4.cap
                  rw [upL_length] at hcp
                  have hrow5 := HU4.out.row HROW3.out (fun x hx => by have := (HROW3.out.lt x hx).1; simp; omega)
                  have hsz5 := HU4.out.size
                  have HROW5 := Lib.hid (row_setCell hrow5 (a := ⟨g0, p, none⟩) (fun hx => by have := (hrow5.lt _ hx).1; simp at this; omega) (.int .i64 0))
                  clear hr4 hU4 hrow5
                  go_wp2_with (at_builtin; refine app_int rfl _ _ rfl H1 _ k l rfl (by exact HROW5.out.alloc _) _ _ rfl (heap_alloc_at _ (by simp [World.setCell])) (by omega) (by simp [World.setCell]; omega) ?_; intro g cap w1 hown hgrow hat hlt; have HO5 := Lib.hid hown; have HG5 := Lib.hid hgrow; clear hown hgrow hat)
                  go_roundg (ps.length - (k + 1))
                  case measure => omega
                  case rel => exact rrep_next HL.out hkp (by omega) (by rw [HP.out, HCH.out, if_neg hdue]) hg0 hH1 HU2.out HR4.out HU4.out hp2 HROW5.out HO5.out HG5.out _ (by go_num)
      · obtain rfl : ps.length = k := by omega
        go_wp2_with fail
        go_ret
        have := HROW.out
        rw [List.take_length] at this
        exact gives_row' this (by omega) HU.out
end Go.Proofs.Ytbpkigdelfgafaa
