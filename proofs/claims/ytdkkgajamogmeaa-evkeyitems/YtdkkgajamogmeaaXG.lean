/- Contracts: slices.Clone of ints and of events. -/
import Derived.Test.YtdkkgajamogmeaaXF
import Derived.Lib.Walk
import Derived.Lib.SliceRun
namespace Go.Proofs.Ytdkkgajamogmeaa
open Go.RowKit Go.Sort Go.Lib

theorem infoEv : (Try.prog.info? 30).map (fun i => (i.zero, i.size, i.bytes)) = some (some (.agg #[.int .i64 0, .slice none 0 0, .int .i64 0, .int .i64 0, .int .i64 0, .int .i64 0]), 6, 64) := by kernel_rfl

set_option maxHeartbeats 2000000 in
set_option maxRecDepth 100000 in
theorem cloneInts_any (a : Option Addr) (c : Nat) (xs : List Int) (w : World) (ha : Ints w a xs) (hx : xs.length ≤ 1000000) :
    Calls Try.prog 29 #[.slice a xs.length c] w fun e w' => ∃ v, e = .returned v ∧ w'.ownsRow w.heap.size 3 1 v xs.length (xs.map (Value.int .i64)) ∧ Upd [] w w' := by
  obtain ⟨i0, hi0, hz0, hz1, hz2⟩ := info_parts infoInt
  have q22 : ∀ (w : World) (a : Option Addr) (n c n' c' : Nat), (binOp .eql 24 (.slice a n c) (.slice none n' c')).run Try.prog w = .ok (.bool a.isNone) w := fun w a n c n' c' => Lib.run_eql_slice_nil w _ _ a n c n' c' Try.underlying24
  have HA := Lib.hid ha
  clear ha
  cases a with
  | none =>
    have hn : xs = [] := by
      cases xs with
      | nil => rfl
      | cons x xs => obtain ⟨b, off, h, _⟩ := HA.out 0 (by simp); simp at h
    subst hn
    clear HA
    go_enter Try.func29, Try.ntmps29
    go_wp2_with fail
    go_ret
    exact ⟨_, rfl, World.ownsRow_nil _ _ _ _, Upd.refl _ _⟩
  | some ad =>
    have HN : Hid (∀ j u, (xs.map (Value.int .i64))[j]? = some u → w.cell? (ad.add j) = some u) := fun j u hj => by
      rw [List.getElem?_map] at hj
      obtain ⟨x, hx, rfl⟩ := Option.map_eq_some_iff.1 hj
      obtain ⟨hl, rfl⟩ := List.getElem?_eq_some_iff.1 hx
      obtain ⟨b, off, h, hc⟩ := HA.out j hl
      obtain rfl := Option.some.inj h
      rw [Addr.add_lit]; exact hc
    clear HA
    go_enter Try.func29, Try.ntmps29
    go_wp2_with (at_builtin; refine wpList_append_own _ rfl _ _ 24 rfl w.heap.size 3 i0 _ 1 8 Try.underlying24 hi0 hz0 hz1 hz2 rfl (by decide) _ _ _ rfl (World.ownsRow_made w #[] 0 (Nat.le_refl _) (Nat.zero_le _) (by simp)) ad xs.length c (xs.map (Value.int .i64)) rfl ?qc1 ?qc2 ?qc3 ?qc4 ?qc5 ?qc6 ?_)
    case qc1 => simp
    case qc2 => exact fun j u hj => Lib.cell?_alloc_some _ (HN.out j u hj)
    case qc3 => simp [Value.oneCell']
    case qc4 => simp [maxLen]; omega
    case qc5 => omega
    case qc6 => simp
    intro v' w1 hown hgrow hnil
    have HU : Hid (Upd [] w w1) := ((Upd.refl [] w).alloc _).grown hgrow (fun k hk hl => by simp [Value.ownBlock] at hk; omega)
    have HO := Lib.hid hown
    clear hown hgrow hnil
    go_wp2_with fail
    go_ret
    exact ⟨v', rfl, by simpa using HO.out, HU.out⟩

def flatE (rs : List EvR) : List Value := rs.flatMap encR
theorem flatE_length (rs : List EvR) : (flatE rs).length = rs.length * 6 := by
  induction rs with
  | nil => rfl
  | cons r rs ih => simp only [flatE, List.flatMap_cons, List.length_append, encR_len, List.length_cons] at *; omega
theorem flatE_get : ∀ (rs : List EvR) (j c : Nat) (hj : j < rs.length) (_ : c < 6), (flatE rs)[j * 6 + c]? = (encR rs[j])[c]?
  | r :: rs, 0, c, _, hc => by
    simp only [flatE, List.flatMap_cons, List.getElem_cons_zero]
    rw [Nat.zero_mul, Nat.zero_add, List.getElem?_append_left (by rw [encR_len]; exact hc)]
  | r :: rs, j + 1, c, hj, hc => by
    simp only [flatE, List.flatMap_cons, List.getElem_cons_succ]
    rw [List.getElem?_append_right (by rw [encR_len]; omega), encR_len, show (j + 1) * 6 + c - 6 = j * 6 + c by omega]
    exact flatE_get rs j c (by simpa using hj) hc
theorem flatE_one (rs : List EvR) : ∀ u ∈ flatE rs, u.oneCell' = true := by
  intro u hu
  simp only [flatE, List.mem_flatMap] at hu
  obtain ⟨r, _, hr⟩ := hu
  simp only [encR, List.mem_cons, List.not_mem_nil, or_false] at hr
  rcases hr with rfl | rfl | rfl | rfl | rfl | rfl <;> rfl
theorem flatE_append (a b : List EvR) : flatE (a ++ b) = flatE a ++ flatE b := by simp [flatE]
/-- The cells of a row that holds the events. -/
theorem evs_cells {w : World} {b off : Nat} {rs : List EvR} (h : ∀ t u, (flatE rs)[t]? = some u → w.cell? ⟨b, off + t, none⟩ = some u) (hk : ∀ r ∈ rs, Ints w r.ka r.ev.key) : Evs w (some ⟨b, off, none⟩) rs := by
  intro j hj
  have g := fun c (hc : c < 6) u (hu : (encR rs[j])[c]? = some u) => h (j * 6 + c) u ((flatE_get rs j c hj hc).trans hu)
  refine ⟨hk _ (List.getElem_mem hj), b, off, rfl, ?_, ?_, ?_, ?_, ?_, ?_⟩
  · have := g 0 (by omega) _ rfl; simpa using this
  · have := g 1 (by omega) _ rfl; rwa [← Nat.add_assoc] at this
  · have := g 2 (by omega) _ rfl; rwa [← Nat.add_assoc] at this
  · have := g 3 (by omega) _ rfl; rwa [← Nat.add_assoc] at this
  · have := g 4 (by omega) _ rfl; rwa [← Nat.add_assoc] at this
  · have := g 5 (by omega) _ rfl; rwa [← Nat.add_assoc] at this
theorem cells_evs {w : World} {ad : Addr} {rs : List EvR} (h : Evs w (some ad) rs) : ∀ t u, (flatE rs)[t]? = some u → w.cell? (ad.add t) = some u := by
  intro t u hu
  have ht : t < rs.length * 6 := by rw [← flatE_length]; exact (List.getElem?_eq_some_iff.1 hu).1
  obtain ⟨j, c, hj, hc, rfl⟩ : ∃ j c, j < rs.length ∧ c < 6 ∧ t = j * 6 + c := ⟨t / 6, t % 6, by omega, Nat.mod_lt _ (by omega), by omega⟩
  rw [flatE_get rs j c hj hc] at hu
  obtain ⟨_, b, off, he, c0, c1, c2, c3, c4, c5⟩ := h j hj
  obtain rfl := Option.some.inj he
  rw [Addr.add_lit, ← Nat.add_assoc]
  match c, hc with
  | 0, _ => simp only [encR, List.getElem?_cons_zero, Option.some.injEq] at hu; rw [← hu]; exact c0
  | 1, _ => simp only [encR, List.getElem?_cons_zero, List.getElem?_cons_succ, Option.some.injEq] at hu; rw [← hu]; exact c1
  | 2, _ => simp only [encR, List.getElem?_cons_zero, List.getElem?_cons_succ, Option.some.injEq] at hu; rw [← hu]; exact c2
  | 3, _ => simp only [encR, List.getElem?_cons_zero, List.getElem?_cons_succ, Option.some.injEq] at hu; rw [← hu]; exact c3
  | 4, _ => simp only [encR, List.getElem?_cons_zero, List.getElem?_cons_succ, Option.some.injEq] at hu; rw [← hu]; exact c4
  | 5, _ => simp only [encR, List.getElem?_cons_zero, List.getElem?_cons_succ, Option.some.injEq] at hu; rw [← hu]; exact c5

set_option maxHeartbeats 2000000 in
set_option maxRecDepth 100000 in
theorem cloneEvs_any (a : Option Addr) (c : Nat) (rs : List EvR) (w : World) (ha : Evs w a rs) (hx : rs.length ≤ 1000000) :
    Calls Try.prog 28 #[.slice a rs.length c] w fun e w' => ∃ v, e = .returned v ∧ w'.ownsRow w.heap.size 30 6 v rs.length (flatE rs) ∧ Upd [] w w' := by
  obtain ⟨i0, hi0, hz0, hz1, hz2⟩ := info_parts infoEv
  have q22 : ∀ (w : World) (a : Option Addr) (n c n' c' : Nat), (binOp .eql 25 (.slice a n c) (.slice none n' c')).run Try.prog w = .ok (.bool a.isNone) w := fun w a n c n' c' => Lib.run_eql_slice_nil w _ _ a n c n' c' Try.underlying25
  have HA := Lib.hid ha
  clear ha
  cases a with
  | none =>
    have hn : rs = [] := by
      cases rs with
      | nil => rfl
      | cons x xs => obtain ⟨_, b, off, h, _⟩ := HA.out 0 (by simp); simp at h
    subst hn
    clear HA
    go_enter Try.func28, Try.ntmps28
    go_wp2_with fail
    go_ret
    exact ⟨_, rfl, World.ownsRow_nil _ _ _ _, Upd.refl _ _⟩
  | some ad =>
    have HN := Lib.hid (cells_evs HA.out)
    have H6 := Lib.hid (flatE_length rs)
    have H1 := Lib.hid (flatE_one rs)
    clear HA
    generalize flatE rs = fl at *
    go_enter Try.func28, Try.ntmps28
    go_wp2_with (at_builtin; refine wpList_append_own _ rfl _ _ 25 rfl w.heap.size 30 i0 _ 6 64 Try.underlying25 hi0 hz0 hz1 hz2 rfl (by decide) _ _ _ rfl (World.ownsRow_made w #[] 0 (Nat.le_refl _) (Nat.zero_le _) (by simp)) ad rs.length c fl rfl ?qc1 ?qc2 ?qc3 ?qc4 ?qc5 ?qc6 ?_)
    case qc1 => exact H6.out
    case qc2 => exact fun j u hj => Lib.cell?_alloc_some _ (HN.out j u hj)
    case qc3 => exact H1.out
    case qc4 => simp [maxLen]; omega
    case qc5 => omega
    case qc6 => simp
    intro v' w1 hown hgrow hnil
    have HU : Hid (Upd [] w w1) := ((Upd.refl [] w).alloc _).grown hgrow (fun k hk hl => by simp [Value.ownBlock] at hk; omega)
    have HO := Lib.hid hown
    clear hown hgrow hnil
    go_wp2_with fail
    go_ret
    exact ⟨v', rfl, by simpa using HO.out, HU.out⟩
end Go.Proofs.Ytdkkgajamogmeaa
