/- General facts on rungs in memory, of no function: what contracts of both sides lean on. -/
import Derived.Test.YtneodiemgemhfaaUB
import Derived.Laws.StructEq
namespace Go.Proofs.Ytneodiemgemhfaa
open Go.RowKit Go.Lib
theorem madeOne (v : Value) (n : Nat) : madeCells #[v] (n * 1) = (List.replicate n v).toArray := by
  apply Array.ext
  · simp [madeCells]
  · intro i h1 h2
    simp [madeCells, Nat.mod_one]
def nilB : SlR It := ⟨[], none, 0⟩
theorem held_made {w : World} {g : Nat} (h : w.heap[g]? = some (.cells (List.replicate 8 (Value.slice none 0 0)).toArray 24 (0, 0))) : Held LB 24 w g 8 (List.replicate 8 nilB) :=
  ⟨⟨_, h, rfl, rfl⟩, by simp⟩
theorem guardItem : Try.prog.eqGuardType Try.prog.depth 34 = false := by kernel_rfl
theorem eqlItem (x y : It) (w : World) : (binOp .eql 34 (.agg #[.int .i64 x.t, .int .i64 x.q, .int .i64 x.s]) (.agg #[.int .i64 y.t, .int .i64 y.q, .int .i64 y.s])).run Try.prog w = .ok (.bool (decide (x = y))) w := by
  have u3 := Try.underlying3
  have a3 := Try.isAgg3
  have z3 := Try.sizeOf3
  have hS : Try.prog.underlying 34 = some (.struct (Try.prog.fieldsOf 34)) := by kernel_rfl
  have hp : Try.prog.stoodInHeld 34 = false := by kernel_rfl
  obtain ⟨t, q, s⟩ := x
  obtain ⟨t', q', s'⟩ := y
  rw [run_eql_struct, show (10000 : Nat) = 9999 + 1 from rfl, run_equalIn_agg w 9999 34 _ _ hS hp]
  simp only [Program.fieldsOf, Try.underlying34]
  go_simp
  by_cases h2 : s = s' <;> by_cases h3 : t = t' <;> by_cases h4 : q = q' <;> simp [h2, h3, h4]
theorem neqItem (x y : It) (w : World) : (binOp .neq 34 (.agg #[.int .i64 x.t, .int .i64 x.q, .int .i64 x.s]) (.agg #[.int .i64 y.t, .int .i64 y.q, .int .i64 y.s])).run Try.prog w = .ok (.bool (!decide (x = y))) w := by
  have h := eqlItem x y w
  rw [run_eql_struct] at h
  rw [run_neq_struct]
  generalize (Op.equalIn 10000 34 (.agg #[.int .i64 x.t, .int .i64 x.q, .int .i64 x.s]) (.agg #[.int .i64 y.t, .int .i64 y.q, .int .i64 y.s])).run Try.prog w = r at h ⊢
  cases r with
  | ok b w' => simp only [Result.andThen_ok, Result.ok.injEq, Value.bool.injEq] at h ⊢; obtain ⟨rfl, rfl⟩ := h; simp
  | halt e w' => simp [Result.andThen] at h

def withR (r : RgR) (i : Nat) (s : SlR It) (g cap : Nat) : RgR := ⟨r.fr, r.wd, r.cu, ⟨r.bk.l.set i s, some ⟨g, 0, none⟩, cap⟩⟩
theorem with_nxt {w w' : World} {r : RgR} {i : Nat} {s : SlR It} {g cap : Nat} (h : HasR w' (withR r i s g cap)) (hg : w.heap.size ≤ g) (hu : Upd [] w w') (hs : ∀ b, b < w.heap.size → AvR r b → AvS s b) : Nxt w r ⟨r.fr, r.wd, r.cu, r.rg.bs.set i s.l⟩ w' (withR r i s g cap) :=
  ⟨by simp [RgR.rg, withR, rowsOf_set], h, fun b hb ha => ⟨fun _ a e => by obtain rfl := Option.some.inj e; simp only; omega, fun x hx => by
    rcases List.mem_or_eq_of_mem_set hx with h | h
    · exact ha.its x h
    · rw [h]; exact hs b hb ha⟩, hu⟩
def GivesRB (r : RgR) (p : Rg × Bool) (w : World) (e : Ending) (w' : World) : Prop := ∃ r', e = .returned (.tuple #[encR r', .bool p.2]) ∧ Nxt w r p.1 w' r'
theorem row_one {w : World} {b : Nat} {it : It} {e : TypeId} {f : Nat × Nat} (h : w.heap[b]? = some (.cells #[.int .i64 it.t, .int .i64 it.q, .int .i64 it.s] e f)) : Row LI w (some ⟨b, 0, none⟩) [it] := by
  intro j hj
  obtain rfl : j = 0 := by simp at hj; omega
  refine ⟨b, 0, rfl, fun t u hu => ?_⟩
  rw [cell_block h]
  simp only [List.getElem_cons_zero] at hu
  have ht := LI.lt hu
  rw [show 0 + 0 * LI.k + t = t by omega]
  simpa [LI] using hu
theorem ar_one (it : It) : (LI.enc it) = [.int .i64 it.t, .int .i64 it.q, .int .i64 it.s] := rfl
def GivesRN (r : RgR) (p : Rg × List It × Int × Bool) (w : World) (e : Ending) (w' : World) : Prop := ∃ (r' : RgR) (s : SlR It), e = .returned (.tuple #[encR r', .slice s.ad s.l.length s.cap, .int .i64 p.2.2.1, .bool p.2.2.2]) ∧ Nxt w r p.1 w' r' ∧ Gave w r p.2.1 w' s
theorem withR_len (r : RgR) (i : Nat) (s : SlR It) (g cap : Nat) : (withR r i s g cap).bk.l.length = r.bk.l.length := by simp [withR]
def nilS : SlR It := ⟨[], none, 0⟩
/-- What Valid asks of a bucket. -/
def BOk (r : Rg) (i : Nat) : Prop := ((i : Int) < r.cu → bAt r.bs i = []) ∧ ∀ it ∈ bAt r.bs i, InB r i it
structure Shp (r : Rg) : Prop where
  fr0 : 0 ≤ r.fr
  fr1 : r.fr ≤ 1152921504606846976
  wd0 : 1 ≤ r.wd
  wd1 : r.wd ≤ 144115188075855873
  cu0 : 0 ≤ r.cu
  cu1 : r.cu ≤ 8
  len : r.bs.length = 8
theorem good_iff (r : Rg) : GoodR r ↔ Shp r ∧ ∀ i, i < 8 → BOk r i := by
  constructor
  · intro h
    exact ⟨⟨h.fr0, h.fr1, h.wd0, h.wd1, h.cu0, h.cu1, h.len⟩, fun i hi => ⟨h.low i hi, h.inb i hi⟩⟩
  · rintro ⟨h, k⟩
    exact ⟨h.fr0, h.fr1, h.wd0, h.wd1, h.cu0, h.cu1, h.len, fun i hi => (k i hi).1, fun i hi => (k i hi).2⟩
theorem ret_valid {r : Rg} {b : Bool} (h : b = validR r) : Ending.returned (.bool b) = .returned (.bool (validR r)) := by rw [h]
theorem bad_shp {r : Rg} (h : ¬ Shp r) : false = validR r := (validR_no.2 (fun k => h ((good_iff r).1 k).1)).symm
theorem bad_bok {r : Rg} {i : Nat} (hi : i < 8) (h : ¬ BOk r i) : false = validR r := (validR_no.2 (fun k => h (((good_iff r).1 k).2 i hi))).symm
theorem good_all {r : Rg} (h : Shp r) (k : ∀ i, i < 8 → BOk r i) : true = validR r := (validR_yes.2 ((good_iff r).2 ⟨h, k⟩)).symm
theorem bok_of {r : Rg} {i : Nat} {l : List It} (h : bAt r.bs i = l) (h1 : (i : Int) < r.cu → l = []) (h2 : ∀ k (hk : k < l.length), InB r i l[k]) : BOk r i := by
  subst h
  exact ⟨h1, fun it hit => by obtain ⟨k, hk, rfl⟩ := List.mem_iff_getElem.1 hit; exact h2 k hk⟩
theorem not_bok1 {r : Rg} {i : Nat} {l : List It} (h : bAt r.bs i = l) (h1 : (i : Int) < r.cu) (h2 : l ≠ []) : ¬ BOk r i := fun k => h2 (h ▸ k.1 h1)
theorem not_bok2 {r : Rg} {i : Nat} {l : List It} (h : bAt r.bs i = l) {k : Nat} (hk : k < l.length) (h2 : ¬ InB r i l[k]) : ¬ BOk r i := fun q => h2 (q.2 _ (by subst h; exact List.getElem_mem hk))

def U64 (x : Int) : Prop := 0 ≤ x ∧ x < 18446744073709551616
/-- The box Q holds the rung r', which a call made out of r. -/
structure Boxed (w : World) (r : RgR) (g : Rg) (Q : Nat) (wx : World) (r' : RgR) : Prop where
  blk : wx.heap[Q]? = some (.cells (cellsR r') 43 (0, 0))
  ge : w.heap.size ≤ Q
  nxt : Nxt w r g wx r'
  av : AvR r' Q
theorem boxed_last {w w1 w4 : World} {r r' : RgR} {g : Rg} (h : Nxt w1 r g w4 r') (hu : Upd [] w w1) : Boxed w r g w4.heap.size (w4.alloc (.cells (cellsR r') 43)) r' :=
  ⟨heap_alloc1 _ _, Nat.le_trans hu.size h.upd.size, (h.of_upd hu).up ((Upd.refl _ _).alloc _), h.has.avoids (Nat.le_refl _)⟩
theorem boxed_at {w w1 w4 : World} {r r' : RgR} {g : Rg} {Q : Nat} {x y z p : Value} (hr : HasR w r) (hQ : w1.heap[Q]? = some (.cells #[x, y, z, p] 43 (0, 0))) (h : Nxt w1 r g w4 r') (hu : Upd [] w w1) (hge : w.heap.size ≤ Q) :
    Boxed w r g Q ((((w4.setCell ⟨Q, 0, none⟩ (.int .i64 r'.fr)).setCell ⟨Q, 1, none⟩ (.int .i64 r'.wd)).setCell ⟨Q, 2, none⟩ (.int .i64 r'.cu)).setCell ⟨Q, 3, none⟩ (.slice r'.bk.ad r'.bk.l.length r'.bk.cap)) r' := by
  have h1 := h.upd.at hQ (by simp)
  have h2 := upd_set4 w4 Q (.int .i64 r'.fr) (.int .i64 r'.wd) (.int .i64 r'.cu) (.slice r'.bk.ad r'.bk.l.length r'.bk.cap)
  have h3 := h.av Q (lt_block hQ) (hr.avoids hge)
  exact ⟨stored4 h1 _ _ _ _, hge, ⟨h.eq, h.has.keep1 h2 h3, fun b hb ha => h.av b (by have := hu.size; omega) ha, (hu.thn h.upd).new h2 hge⟩, h3⟩
/-- What Small answers. -/
def SmallPost (bl : List (SlR It)) (w : World) (e : Ending) (w' : World) : Prop := ∃ b, e = .returned (.bool b) ∧ (b = true → bl.length ≤ 20 ∧ ∀ s ∈ bl, s.l.length ≤ 200) ∧ Upd [] w w'
end Go.Proofs.Ytneodiemgemhfaa
