/- Contracts: slices.Clone of ints and of slots; the program's clone. -/
import Derived.Test.YthpofcomlidoiaaDG
import Derived.Test.YthpofcomlidoiaaCI
import Derived.Lib.Walk
import Derived.Lib.SliceRun
namespace Go.Proofs.Ythpofcomlidoiaa
open Go.RowKit Go.Lib

theorem row_base {w : World} {base base' size n : Nat} {e : TypeId} {v : Value} {xs : List Value} (h : w.ownsRow base e size v n xs) (hb : base' ≤ base) : w.ownsRow base' e size v n xs := by
  refine ⟨h.1, ?_⟩
  rcases h.2 with hn | ⟨g, cap, cur, rfl, hg, rest⟩
  · exact .inl hn
  · exact .inr ⟨g, cap, cur, rfl, by omega, rest⟩

set_option maxHeartbeats 2000000 in
theorem cloneInts_any (a : Option Addr) (c : Nat) (xs : List Int) (w : World) (ha : Ints w a xs) (hx : xs.length ≤ 1000000) :
    Calls Try.prog 49 #[.slice a xs.length c] w fun e w' => ∃ va vc, e = .returned (.slice va xs.length vc) ∧ w'.ownsRow w.heap.size 3 1 (.slice va xs.length vc) xs.length (xs.map (Value.int .i64)) ∧ Upd [] w w' := by
  obtain ⟨i0, hi0, hz0, hz1, hz2⟩ := info_parts infoInt
  have q22 : ∀ (w : World) (a : Option Addr) (n c n' c' : Nat), (binOp .eql 23 (.slice a n c) (.slice none n' c')).run Try.prog w = .ok (.bool a.isNone) w := fun w a n c n' c' => Lib.run_eql_slice_nil w _ _ a n c n' c' Try.underlying23
  have HA := Lib.hid ha
  clear ha
  cases a with
  | none =>
    have hn : xs = [] := ints_none HA.out
    subst hn
    clear HA
    go_enter Try.func49, Try.ntmps49
    go_wp2_with fail
    go_ret
    exact ⟨_, _, rfl, World.ownsRow_nil _ _ _ _, Upd.refl _ _⟩
  | some ad =>
    have HN := Lib.hid (ints_cells HA.out)
    clear HA
    go_enter Try.func49, Try.ntmps49
    go_wp2_with (at_builtin; refine wpList_append_own _ rfl _ _ 23 rfl w.heap.size 3 i0 _ 1 8 Try.underlying23 hi0 hz0 hz1 hz2 rfl (by decide) _ _ _ rfl (World.ownsRow_made w #[] 0 (Nat.le_refl _) (Nat.zero_le _) (by simp)) ad xs.length c (xs.map (Value.int .i64)) rfl ?qc1 ?qc2 ?qc3 ?qc4 ?qc5 ?qc6 ?_)
    case qc1 => simp
    case qc2 => exact fun j u hj => Lib.cell?_alloc_some _ (HN.out j u hj)
    case qc3 => simp [Value.oneCell']
    case qc4 => simp [maxLen]; omega
    case qc5 => omega
    case qc6 => simp
    intro v' w1 hown hgrow hnil
    have HU : Hid (Upd [] w w1) := ((Upd.refl [] w).alloc _).grown hgrow (fun k hk hl => by simp [Value.ownBlock] at hk; omega)
    obtain ⟨va, vc, rfl⟩ := row_shape hown
    have HO := Lib.hid hown
    clear hown hgrow hnil
    go_wp2_with fail
    go_ret
    exact ⟨va, vc, rfl, HO.out, HU.out⟩

set_option maxHeartbeats 2000000 in
theorem cloneSlots_any (a : Option Addr) (c : Nat) (xs : List Sl) (w : World) (ha : Slots w a xs) (hx : xs.length ≤ 1000000) :
    Calls Try.prog 48 #[.slice a xs.length c] w fun e w' => ∃ va vc, e = .returned (.slice va xs.length vc) ∧ w'.ownsRow w.heap.size 44 4 (.slice va xs.length vc) xs.length (flatS xs) ∧ Upd [] w w' := by
  obtain ⟨i0, hi0, hz0, hz1, hz2⟩ := info_parts infoSlot
  have q22 : ∀ (w : World) (a : Option Addr) (n c n' c' : Nat), (binOp .eql 22 (.slice a n c) (.slice none n' c')).run Try.prog w = .ok (.bool a.isNone) w := fun w a n c n' c' => Lib.run_eql_slice_nil w _ _ a n c n' c' Try.underlying22
  have HA := Lib.hid ha
  clear ha
  cases a with
  | none =>
    have hn : xs = [] := slots_none HA.out
    subst hn
    clear HA
    go_enter Try.func48, Try.ntmps48
    go_wp2_with fail
    go_ret
    exact ⟨_, _, rfl, World.ownsRow_nil _ _ _ _, Upd.refl _ _⟩
  | some ad =>
    have HN := Lib.hid (slots_cells HA.out)
    have H4 := Lib.hid (flatS_length xs)
    have H1 := Lib.hid (flatS_one xs)
    clear HA
    generalize flatS xs = fl at *
    go_enter Try.func48, Try.ntmps48
    go_wp2_with (at_builtin; refine wpList_append_own _ rfl _ _ 22 rfl w.heap.size 44 i0 _ 4 32 Try.underlying22 hi0 hz0 hz1 hz2 rfl (by decide) _ _ _ rfl (World.ownsRow_made w #[] 0 (Nat.le_refl _) (Nat.zero_le _) (by simp)) ad xs.length c fl rfl ?qc1 ?qc2 ?qc3 ?qc4 ?qc5 ?qc6 ?_)
    case qc1 => exact H4.out
    case qc2 => exact fun j u hj => Lib.cell?_alloc_some _ (HN.out j u hj)
    case qc3 => exact H1.out
    case qc4 => simp [maxLen]; omega
    case qc5 => omega
    case qc6 => simp
    intro v' w1 hown hgrow hnil
    have HU : Hid (Upd [] w w1) := ((Upd.refl [] w).alloc _).grown hgrow (fun k hk hl => by simp [Value.ownBlock] at hk; omega)
    obtain ⟨va, vc, rfl⟩ := row_shape hown
    have HO := Lib.hid hown
    clear hown hgrow hnil
    go_wp2_with fail
    go_ret
    exact ⟨va, vc, rfl, HO.out, HU.out⟩

/-- The arena r holds a, in rows of its own, from block B on. -/
structure Own (B : Nat) (a : Ar) (w : World) (r : ArR) : Prop where
  eq : r.ar = a
  sl : w.ownsRow B 44 4 (.slice r.sa a.sl.length r.sc) a.sl.length (flatS a.sl)
  id : w.ownsRow B 3 1 (.slice r.ia a.id.length r.ic) a.id.length (a.id.map (Value.int .i64))
theorem Own.has {B : Nat} {a : Ar} {w : World} {r : ArR} (h : Own B a w r) : HasA w r := by
  obtain ⟨a1, c1, e1, s1, l1, n1, g1⟩ := row_slots h.sl
  obtain ⟨a2, c2, e2, s2, l2, n2, g2⟩ := row_ints h.id
  simp only [Value.slice.injEq, true_and] at e1 e2
  obtain ⟨rfl, rfl⟩ := e1
  obtain ⟨rfl, rfl⟩ := e2
  obtain ⟨ar, sa, sc, ia, ic⟩ := r
  obtain rfl : ar = a := h.eq
  exact ⟨s1, s2, l1, l2, n1, n2⟩
theorem Own.av {B : Nat} {a : Ar} {w : World} {r : ArR} (h : Own B a w r) {b : Nat} (hb : b < B) : Avoids r b := by
  obtain ⟨a1, c1, e1, s1, l1, n1, g1⟩ := row_slots h.sl
  obtain ⟨a2, c2, e2, s2, l2, n2, g2⟩ := row_ints h.id
  simp only [Value.slice.injEq, true_and] at e1 e2
  obtain ⟨rfl, rfl⟩ := e1
  obtain ⟨rfl, rfl⟩ := e2
  exact ⟨fun _ ad e => by have := g1 ad e; omega, fun _ ad e => by have := g2 ad e; omega⟩
theorem Own.keep {B : Nat} {a : Ar} {w w' : World} {r : ArR} {S : List Nat} (h : Own B a w r) (hu : Upd S w w') (hS : ∀ x ∈ S, x < B) : Own B a w' r :=
  ⟨h.eq, hu.row h.sl (fun k hk hm => by have := own_ge h.sl k hk; have := hS k hm; omega), hu.row h.id (fun k hk hm => by have := own_ge h.id k hk; have := hS k hm; omega)⟩
theorem Own.stay {B : Nat} {a : Ar} {w w' : World} {r : ArR} (h : Own B a w r) (hu : Upd [] w w') : Own B a w' r := h.keep hu (by simp)
theorem Own.base {B B' : Nat} {a : Ar} {w : World} {r : ArR} (h : Own B a w r) (hb : B' ≤ B) : Own B' a w r := ⟨h.eq, row_base h.sl hb, row_base h.id hb⟩
theorem Own.nxt {a : Ar} {w w' : World} {r r' : ArR} {B : Nat} (h : Own B a w' r') (hB : w.heap.size ≤ B) (hu : Upd [] w w') : Nxt w r a w' r' := ⟨h.eq, h.has, fun b hb _ => h.av (by omega), hu⟩
/-- What comes back: an arena in rows of its own. -/
def GivesOwn (a : Ar) (w : World) (e : Ending) (w' : World) : Prop := ∃ r', e = .returned (encA r') ∧ Own w.heap.size a w' r' ∧ Upd [] w w'

set_option maxHeartbeats 4000000 in
theorem clone_has (r : ArR) (w : World) (h : HasA w r) (hl : r.ar.sl.length ≤ 100000) (hi : r.ar.id.length ≤ 100000) :
    Calls Try.prog 34 #[encA r] w (GivesOwn r.ar w) := by
  have HCS := Lib.hid (fun W (hu : Upd [] w W) => cloneSlots_any r.sa r.sc r.ar.sl W (h.stay hu).sl (by omega))
  have HCI := Lib.hid (fun W (hu : Upd [] w W) => cloneInts_any r.ia r.ic r.ar.id W (h.stay hu).id (by omega))
  obtain ⟨a, sa, sc, ia, ic⟩ := r
  rw [show encA ⟨a, sa, sc, ia, ic⟩ = .agg #[.slice sa a.sl.length sc, .slice ia a.id.length ic, .int .i64 a.nx] from rfl]
  simp only at HCS HCI ⊢
  clear h hl hi
  have HG : Hid (∀ sa' sc' ia' ic' w', w'.ownsRow w.heap.size 44 4 (.slice sa' a.sl.length sc') a.sl.length (flatS a.sl) → w'.ownsRow w.heap.size 3 1 (.slice ia' a.id.length ic') a.id.length (a.id.map (Value.int .i64)) → Upd [] w w' → GivesOwn a w (.returned (.agg #[.slice sa' a.sl.length sc', .slice ia' a.id.length ic', .int .i64 a.nx])) w') :=
    fun sa' sc' ia' ic' w' h1 h2 hu => ⟨⟨a, sa', sc', ia', ic'⟩, rfl, ⟨rfl, h1, h2⟩, hu⟩
  generalize a.sl.length = n at *
  generalize a.id.length = m at *
  generalize a.nx = nx at *
  generalize flatS a.sl = fl at *
  generalize a.id.map (Value.int .i64) = fi at *
  go_enter Try.func34, Try.ntmps34
  go_upto_region 1 with (fail)
  generalize hA : (Obj.cells #[.slice sa n sc, .slice ia m ic, .int .i64 nx] 25 : Obj) = A
  generalize hB : (Obj.cells #[.slice none 0 0, .slice none 0 0, .int .i64 0] 25 : Obj) = B
  obtain ⟨hu, b0, b1, hsz⟩ := two_boxes w A B
  generalize (w.alloc A).alloc B = W at *
  generalize hH : w.heap.size = H at *
  rw [← hA] at b0
  rw [← hB] at b1
  have HU := Lib.hid hu; have HB0 := Lib.hid b0; have HB1 := Lib.hid b1; have HH := Lib.hid hH; have HSZ := Lib.hid hsz
  obtain ⟨c0, c1, c2⟩ := cells3 b0
  clear hu hA hB b0 b1 hH hsz
  have HKP : Hid (∀ W', Upd [H + 1] W W' → W'.cell? ⟨H, 0, none⟩ = some (.slice sa n sc) ∧ W'.cell? ⟨H, 1, none⟩ = some (.slice ia m ic) ∧ W'.cell? ⟨H, 2, none⟩ = some (.int .i64 nx)) := fun W' hu => ⟨hu.cell c0 (by simp), hu.cell c1 (by simp), hu.cell c2 (by simp)⟩
  have HS1 : Hid (∀ W', Upd [] W W' → Calls Try.prog 48 #[.slice sa n sc] W' fun e w' => ∃ va vc, e = .returned (.slice va n vc) ∧ w'.ownsRow W.heap.size 44 4 (.slice va n vc) n fl ∧ Upd [] W' w') := fun W' hu => (HCS.out W' (HU.out.trans hu (by simp))).mono (fun e w' ⟨va, vc, h1, h2, h3⟩ => ⟨va, vc, h1, row_base h2 hu.size, h3⟩)
  have HS2 : Hid (∀ W', Upd [] W W' → Calls Try.prog 49 #[.slice ia m ic] W' fun e w' => ∃ va vc, e = .returned (.slice va m vc) ∧ w'.ownsRow W.heap.size 3 1 (.slice va m vc) m fi ∧ Upd [] W' w') := fun W' hu => (HCI.out W' (HU.out.trans hu (by simp))).mono (fun e w' ⟨va, vc, h1, h2, h3⟩ => ⟨va, vc, h1, row_base h2 hu.size, h3⟩)
  clear HCS HCI
  have HFR : Hid (∀ W', Upd [] W W' → W'.frozen? ⟨H + 1, 0, none⟩ = false ∧ W'.frozen? ⟨H + 1, 1, none⟩ = false ∧ W'.frozen? ⟨H + 1, 2, none⟩ = false) := fun W' hu => free3 (hu.at HB1.out (by simp))
  have HCE : Hid (∀ W', Upd [] W W' → W'.cell? ⟨H + 1, 0, none⟩ = some (.slice none 0 0) ∧ W'.cell? ⟨H + 1, 1, none⟩ = some (.slice none 0 0) ∧ W'.cell? ⟨H + 1, 2, none⟩ = some (.int .i64 0)) := fun W' hu => cells3 (hu.at HB1.out (by simp))
  go_region_held3 (fun wz => wz.cell? ⟨H, 0, none⟩ = some (.slice sa n sc) ∧ wz.cell? ⟨H, 1, none⟩ = some (.slice ia m ic) ∧ wz.cell? ⟨H, 2, none⟩ = some (.int .i64 nx)) (first | exact ⟨c0, c1, c2⟩ | (refine HKP.out _ ?_; (repeat (first | exact Upd.refl _ _ | refine Upd.drew ?_ | refine Upd.setCell ?_ (by simp) _ | refine Upd.trans (T := []) ?_ (by assumption) (by simp))))) (first | (go_at_call 48; (with_reducible refine (HS1.out _ ?_).mono ?_); ((repeat (first | exact Upd.refl [] _ | refine Upd.drew ?_ | refine Upd.trans (T := []) ?_ (by assumption) (by simp)))); rintro e ws ⟨vas, vcs, rfl, hos, hus⟩; have hWs : Upd [] W ws := (by (repeat (first | exact Upd.refl [] _ | refine Upd.drew ?_ | refine Upd.trans (T := []) ?_ (by assumption) (by simp)))); obtain ⟨x0, x1, x2⟩ := HCE.out _ hWs; obtain ⟨y0, y1, y2⟩ := HFR.out _ hWs) | (go_at_call 49; (with_reducible refine (HS2.out _ ?_).mono ?_); ((repeat (first | exact Upd.refl [] _ | refine Upd.drew ?_ | refine Upd.trans (T := []) ?_ (by assumption) (by simp)))); rintro e wi ⟨vai, vci, rfl, hoi, hui⟩; have hWi : Upd [] W wi := (by (repeat (first | exact Upd.refl [] _ | refine Upd.drew ?_ | refine Upd.trans (T := []) ?_ (by assumption) (by simp)))); obtain ⟨x0, x1, x2⟩ := HCE.out _ hWi; obtain ⟨y0, y1, y2⟩ := HFR.out _ hWi))
  · have hb := hWi.at HB1.out (by simp)
    have pf := stored3 hb (.slice vas n vcs) (.slice vai m vci) (.int .i64 nx)
    have hU5 := upd_set3 wi (H + 1) (.slice vas n vcs) (.slice vai m vci) (.int .i64 nx)
    generalize (((wi.setCell ⟨H + 1, 0, none⟩ (.slice vas n vcs)).setCell ⟨H + 1, 1, none⟩ (.slice vai m vci)).setCell ⟨H + 1, 2, none⟩ (.int .i64 nx)) = w5 at *
    obtain ⟨r0, r1, r2⟩ := cells3 pf
    have hsz := HSZ.out
    have hh := HH.out
    have HF := Lib.hid (HG.out vas vcs vai vci w5 (row_base (hU5.row (hui.row hos (by simp)) (fun k hk hm => by have := own_ge hos k hk; simp at hm; omega)) (by omega)) (row_base (hU5.row hoi (fun k hk hm => by have := own_ge hoi k hk; simp at hm; omega)) (by omega)) ((HU.out.trans hWi (by simp)).trans hU5 (fun x hx hl => by simp at hx; omega)))
    go_wp2_with fail
    exact bodyPost_ret (v := .agg #[.slice vas n vcs, .slice vai m vci, .int .i64 nx]) (by simp [results, Try.results34, go_sem, r0, r1, r2]) rfl HF.out
end Go.Proofs.Ythpofcomlidoiaa
