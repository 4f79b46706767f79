
/- Contract: the program's Sorted of layer 9. -/
import Derived.Test.YtpabapjodcafkaaYS
namespace Go.Proofs.Ytpabapjodcafkaa
open Go.RowKit Go.Lib

theorem sort_ins {l : Ld} {it : It} (hg : GoodL l) (h0 : 0 ≤ it.t) (h1 : it.t ≤ MaxT) (hd : ∀ x ∈ itemsL l, ¬ eqK it x) : sortI (itemsL (insertL l it)) = plI (sortI (itemsL l)) it := by
  have hp := insert_its hg h0 h1
  have hg2 := (insert_good hg h0 h1 hd).dist
  have hq : (plI (sortI (itemsL l)) it).Perm (itemsL (insertL l it)) := ((plI_perm _ it).trans ((sortI_perm _).cons it)).trans hp.symm
  exact sortI_unique (strict_of (plI_sorted (sortI_sorted _) it) (hg2.perm hq.symm)) hq
/-- What Sorted keeps while execute runs. -/
structure SorI (w : World) (P : Nat) (s : Sw) (wr : World) : Prop where
  run : ∃ pa pc oa oc, LisP w.heap.size P (sortI (itemsL s.l)) s.out wr pa pc oa oc
  upd : Upd [] w wr
  ord : w.heap.size ≤ P
theorem SorI.stay {w : World} {P : Nat} {s : Sw} {a b : World} (h : SorI w P s a) (hu : Upd [] a b) : SorI w P s b := by
  obtain ⟨pa, pc, oa, oc, h1⟩ := h.run
  exact ⟨⟨pa, pc, oa, oc, h1.stay hu⟩, h.upd.thn hu, h.ord⟩
theorem kept_blk {b0 P : Nat} {w w' : World} {l : List It} {ad : Option Addr} {cap : Nat} {c : Array Value} {t : TypeId} {f : Nat × Nat} (h : PendR b0 w l ad cap) (hb : w.heap[P]? = some (.cells c t f)) (hu : Upd (P :: blkA ad cap) w w') : MapsKept w w' :=
  mapsKept_of hu (fun x hx => by
    rcases List.mem_cons.1 hx with rfl | hx
    · exact ⟨_, _, _, hb⟩
    · obtain ⟨_, _, cs, hc⟩ := h.lt x hx
      exact ⟨_, _, _, hc⟩)
theorem new_blk {b0 P : Nat} {w0 w w' : World} {l : List It} {ad : Option Addr} {cap : Nat} (h : PendR b0 w l ad cap) (hb : w0.heap.size ≤ b0) (hP : w0.heap.size ≤ P) (h0 : Upd [] w0 w) (hu : Upd (P :: blkA ad cap) w w') : Upd [] w0 w' :=
  h0.trans hu (fun x hx hlt => by
    rcases List.mem_cons.1 hx with e | hx
    · omega
    · have := (h.lt x hx).1; omega)
theorem sorI_ins {w : World} {P k : Nat} {s : Sw} {W : World} {t : Int} (h : SorI w P s W) (hok : OkW k s) (hb : 0 ≤ t ∧ t ≤ MaxT) (hk : k ≤ 2000) :
    Calls Try.prog 18 #[.pointer (some ⟨P, 0, none⟩), .agg #[.int .i64 t, .int .i64 (k : Nat), .int .i64 0]] W fun e b => e = .returned (.tuple #[]) ∧ SorI w P (stepW s k ⟨false, t⟩) b ∧ MapsKept W b := by
  obtain ⟨pa, pc, oa, oc, h1⟩ := h.run
  have hfr := hok.reach.fresh ⟨t, (k : Nat), 0⟩ rfl
  have hlen := hok.reach.len
  have hik := hok.ik
  refine (llInsert_has w.heap.size P _ s.out pa oa pc oc ⟨t, (k : Nat), 0⟩ W h1 (sortI_sorted _) (fun x hx => hfr x ((sortI_perm _).subset hx)) (by rw [sortI_length, ← lenD_its]; omega) h.upd.size).mono ?_
  rintro e b ⟨rfl, pa2, pc2, oa2, oc2, h2, hu⟩
  refine ⟨rfl, ⟨⟨pa2, pc2, oa2, oc2, ?_⟩, new_blk h1.q (Nat.le_refl _) h.ord h.upd hu, h.ord⟩, kept_blk h1.q h1.box hu⟩
  rw [← sort_ins hok.reach.good hb.1 hb.2 hfr] at h2
  exact h2
theorem sorI_del {w : World} {P k : Nat} {s : Sw} {W : World} {t : Int} (h : SorI w P s W) (hok : OkW k s) (hk : k ≤ 2000) :
    Calls Try.prog 19 #[.pointer (some ⟨P, 0, none⟩), .agg #[.int .i64 t, .int .i64 (k : Nat), .int .i64 0]] W fun e b => e = .returned (.tuple #[]) ∧ SorI w P (stepW s k ⟨true, t⟩) b ∧ MapsKept W b := by
  obtain ⟨pa, pc, oa, oc, h1⟩ := h.run
  have hlen := hok.reach.len
  have hik := hok.ik
  have hcnt := hok.cnt
  cases hok.reach.pop with
  | no e p2 its2 reach len len0 =>
    have e1 : sortI (itemsL s.l) = [] := by rw [e]; rfl
    have e2 : sortI (itemsL (stepW s k ⟨true, t⟩).l) = [] := by simp only [stepW, nxtW, if_true]; rw [its2]; rfl
    have e3 : (stepW s k ⟨true, t⟩).out = s.out := by simp only [stepW, if_true]; rw [p2]; rfl
    rw [e1] at h1
    refine (llRemove_no w.heap.size P s.out pa oa pc oc ⟨t, (k : Nat), 0⟩ W h1).mono ?_
    rintro e b ⟨rfl, pa2, pc2, oa2, oc2, h2, hu⟩
    exact ⟨rfl, ⟨⟨pa2, pc2, oa2, oc2, by rw [e2, e3]; exact h2⟩, new_blk h1.o (Nat.le_refl _) h.ord h.upd hu, h.ord⟩, kept_blk h1.o h1.box hu⟩
  | yes x p2 its least reach len =>
    have e1 : sortI (itemsL s.l) = x :: sortI (itemsL (stepW s k ⟨true, t⟩).l) := by simp only [stepW, nxtW, if_true]; exact Popped.sort hok.reach.good its least
    have e3 : (stepW s k ⟨true, t⟩).out = s.out ++ [x] := by simp only [stepW, if_true]; rw [p2]; rfl
    have e4 : (sortI (itemsL (stepW s k ⟨true, t⟩).l)).length + 1 = lenD s.l := by
      have h5 := congrArg List.length e1
      rw [List.length_cons, sortI_length, ← lenD_its] at h5
      omega
    rw [e1] at h1
    refine (llRemove_yes w.heap.size P x _ s.out pa oa pc oc ⟨t, (k : Nat), 0⟩ W h1 (by omega) (by omega) h.upd.size).mono ?_
    rintro e b ⟨rfl, pa2, pc2, oa2, oc2, h2, hu⟩
    exact ⟨rfl, ⟨⟨pa2, pc2, oa2, oc2, by rw [e3]; exact h2⟩, new_blk h1.o (Nat.le_refl _) h.ord h.upd hu, h.ord⟩, kept_blk h1.o h1.box hu⟩
theorem sorI_doer {w : World} {P : Nat} {la : Option Addr} {os : List Wo} (ho : Row LW w la os) (hl : os.length ≤ 1000) (hb : ∀ o ∈ os, 0 ≤ o.t ∧ o.t ≤ MaxT) :
    Doer os la 18 19 P (fun k wr => SorI w P (runW os k) wr) where
  stay := fun h hu => h.stay hu
  row := fun h => ho.stay h.upd
  e1 := enters_of Try.func18 (by kernel_rfl) rfl
  e2 := enters_of Try.func19 (by kernel_rfl) rfl
  ins := fun k h a hi hp => by
    have h1 := okW os hb k
    have h2 := hb _ (List.getElem_mem h)
    rw [runW_succ h]
    generalize runW os k = s at *
    obtain ⟨⟨p, t⟩, hx⟩ : ∃ x, x = os[k] := ⟨_, rfl⟩
    rw [← hx] at hp h2 ⊢
    simp only at hp
    subst hp
    exact sorI_ins hi h1 h2 (by omega)
  del := fun k h a hi hp => by
    have h1 := okW os hb k
    rw [runW_succ h]
    generalize runW os k = s at *
    obtain ⟨⟨p, t⟩, hx⟩ : ∃ x, x = os[k] := ⟨_, rfl⟩
    rw [← hx] at hp ⊢
    simp only at hp
    subst hp
    exact sorI_del hi h1 (by omega)
def SortedP (w : World) (l : List It) (e : Ending) (w' : World) : Prop := ∃ oa oc, e = .returned (.slice oa l.length oc) ∧ HasS LI w' ⟨l, oa, oc⟩ ∧ (∀ a, oa = some a → w.heap.size ≤ a.block) ∧ Upd [] w w'
set_option maxRecDepth 100000 in
set_option maxHeartbeats 8000000 in
theorem PSorted_has (la : Option Addr) (lc : Nat) (os : List Wo) (w : World) (ho : Row LW w la os) (hl : os.length ≤ 1000) (hb : ∀ o ∈ os, 0 ≤ o.t ∧ o.t ≤ MaxT) :
    Calls Try.prog 13 #[.slice la os.length lc] w (SortedP w (runW os os.length).out) := by
  have HEX : Hid (∀ P W, SorI w P (runW os 0) W → Calls Try.prog 15 #[.slice la os.length lc, .func (.func 18) #[.pointer (some ⟨P, 0, none⟩)] #[], .func (.func 19) #[.pointer (some ⟨P, 0, none⟩)] #[]] W fun e w' => e = .returned (.tuple #[]) ∧ SorI w P (runW os os.length) w') := fun P W h0 =>
    execute_has la lc os _ _ P (fun k wr => SorI w P (runW os k) wr) (sorI_doer ho hl hb) W h0 (by omega)
  have HZ : Hid (runW os 0 = ⟨newL, [], 0, 0, 0⟩) := rfl
  generalize runW os os.length = s at *
  generalize runW os 0 = s0 at *
  generalize os.length = n at *
  clear ho hl hb
  go_enter Try.func13, Try.ntmps13
  go_upto_region 2 with (fail)
  have b0 := heap_alloc1 w (.cells #[.slice none 0 0, .slice none 0 0] 52)
  have hu0 := (Upd.refl [] w).alloc (.cells #[.slice none 0 0, .slice none 0 0] 52)
  have HM0 : Hid (SorI w w.heap.size s0 (w.alloc (.cells #[.slice none 0 0, .slice none 0 0] 52))) := by
    rw [HZ.out]
    exact ⟨⟨none, 0, none, 0, b0, pend_nil _ _, pend_nil _ _, fun x hx => by simp [blkA] at hx⟩, hu0, Nat.le_refl _⟩
  have HEX2 := Lib.hid (HEX.out _ _ HM0.out)
  generalize w.alloc (.cells #[.slice none 0 0, .slice none 0 0] 52) = W1 at *
  generalize w.heap.size = P at *
  clear b0 hu0 HM0 HEX
  go_upto_region 3 with (go_at_call 15; (with_reducible refine HEX2.out.mono ?_); rintro e W3 ⟨rfl, hI⟩)
  obtain ⟨pa, pc, oa, oc, hR⟩ := hI.run
  have HL := Lib.hid (And.intro hR.o.has (And.intro hR.o.ge hI.upd))
  obtain ⟨c0, c1⟩ := cells2 hR.box
  clear hR hI c0 HEX2 HZ
  go_wp2_with fail
  go_ret
  exact ⟨oa, oc, rfl, HL.out⟩
end Go.Proofs.Ytpabapjodcafkaa
