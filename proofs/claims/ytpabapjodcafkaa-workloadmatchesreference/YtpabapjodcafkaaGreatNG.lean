/- Contracts: the reference's Compare, CompareItems, place, Sort. -/
/- Contract: the reference's Sort. -/
import Derived.Test.YtpabapjodcafkaaGreatGD
import Derived.Test.YtpabapjodcafkaaGreatNB
namespace Go.Proofs.YtpabapjodcafkaaGreat
open Go.RowKit Go.Lib

def cmpZ (a b : Int) : Int := if a < b then -1 else if b < a then 1 else 0
theorem cmpI_eq (x y : It) : cmpI x y = if x.t = y.t then cmpZ x.q y.q else cmpZ x.t y.t := by
  have a1 : ltI x y ↔ x.t < y.t ∨ (x.t = y.t ∧ x.q < y.q) := Iff.rfl
  have a2 : ltI y x ↔ y.t < x.t ∨ (y.t = x.t ∧ y.q < x.q) := Iff.rfl
  unfold cmpI cmpZ
  by_cases h : x.t = y.t
  · rw [if_pos h]
    by_cases p : ltI x y
    · rw [if_pos p, if_pos (by have := a1.1 p; omega)]
    · rw [if_neg p, if_neg (fun k => p (a1.2 (.inr ⟨h, k⟩)))]
      by_cases q : ltI y x
      · rw [if_pos q, if_pos (by have := a2.1 q; omega)]
      · rw [if_neg q, if_neg (fun k => q (a2.2 (.inr ⟨h.symm, k⟩)))]
  · rw [if_neg h]
    by_cases p : ltI x y
    · rw [if_pos p, if_pos (by have := a1.1 p; omega)]
    · rw [if_neg p, if_neg (fun k => p (a1.2 (.inl k)))]
      by_cases q : ltI y x
      · rw [if_pos q, if_pos (by have := a2.1 q; omega)]
      · rw [if_neg q, if_neg (fun k => q (a2.2 (.inl k)))]
set_option maxRecDepth 100000 in
set_option maxHeartbeats 400000 in
theorem RCompare_in (a b : Int) (w : World) : Calls Tryz.prog 63 #[.int .i64 a, .int .i64 b] w fun e w' => e = .returned (.int .i64 (cmpZ a b)) ∧ Upd [] w w' := by
  unfold cmpZ
  by_cases h1 : a < b
  · rw [if_pos h1]
    have d1 : decide (a < b) = true := by simpa using h1
    go_enter Tryz.func63, Tryz.ntmps63
    go_wp2_with fail
    go_ret
    exact ⟨rfl, Upd.refl _ _⟩
  · rw [if_neg h1]
    have d1 : decide (a < b) = false := by simpa using h1
    by_cases h2 : b < a
    · rw [if_pos h2]
      have d2 : decide (b < a) = true := by simpa using h2
      go_enter Tryz.func63, Tryz.ntmps63
      go_wp2_with fail
      go_ret
      exact ⟨rfl, Upd.refl _ _⟩
    · rw [if_neg h2]
      have d2 : decide (b < a) = false := by simpa using h2
      go_enter Tryz.func63, Tryz.ntmps63
      go_wp2_with fail
      go_ret
      exact ⟨rfl, Upd.refl _ _⟩
set_option maxRecDepth 100000 in
set_option maxHeartbeats 1000000 in
theorem RCompareItems_has (x y : It) (w : World) : Calls Tryz.prog 47 #[aggI x, aggI y] w fun e w' => e = .returned (.int .i64 (cmpI x y)) ∧ Upd [] w w' := by
  have HC := Lib.hid cmpI_eq
  rw [HC.out]
  obtain ⟨t, q, s⟩ := x
  obtain ⟨t', q', s'⟩ := y
  unfold aggI
  simp only
  have E1 := Lib.hid (RCompare_in t t')
  have E2 := Lib.hid (RCompare_in q q')
  by_cases h : t = t'
  · rw [if_pos h]
    have d : (t != t') = false := by simpa using h
    clear h
    generalize cmpZ q q' = c at *
    go_enter Tryz.func47, Tryz.ntmps47
    go_upto_region 1 with (fail)
    generalize hA : (Obj.cells #[.int .i64 t, .int .i64 q, .int .i64 s] 38 : Obj) = A
    generalize hB : (Obj.cells #[.int .i64 t', .int .i64 q', .int .i64 s'] 38 : Obj) = B
    obtain ⟨hu, b0, b1, hsz⟩ := two_boxes w A B
    generalize (w.alloc A).alloc B = W at *
    generalize w.heap.size = H at *
    rw [← hA] at b0
    rw [← hB] at b1
    obtain ⟨c0, c1, c2⟩ := cells3 b0
    obtain ⟨d0, d1, d2⟩ := cells3 b1
    have HU := Lib.hid hu
    clear hu hA hB b0 b1 hsz
    go_wp2_with fail
    (with_reducible refine (E2.out _).mono ?_)
    rintro e w' ⟨rfl, hu2⟩
    go_wp2_with fail
    go_ret
    exact ⟨rfl, HU.out.thn hu2⟩
  · rw [if_neg h]
    have d : (t != t') = true := by simpa using h
    clear h
    generalize cmpZ t t' = c at *
    go_enter Tryz.func47, Tryz.ntmps47
    go_upto_region 1 with (fail)
    generalize hA : (Obj.cells #[.int .i64 t, .int .i64 q, .int .i64 s] 38 : Obj) = A
    generalize hB : (Obj.cells #[.int .i64 t', .int .i64 q', .int .i64 s'] 38 : Obj) = B
    obtain ⟨hu, b0, b1, hsz⟩ := two_boxes w A B
    generalize (w.alloc A).alloc B = W at *
    generalize w.heap.size = H at *
    rw [← hA] at b0
    rw [← hB] at b1
    obtain ⟨c0, c1, c2⟩ := cells3 b0
    obtain ⟨d0, d1, d2⟩ := cells3 b1
    have HU := Lib.hid hu
    clear hu hA hB b0 b1 hsz
    go_wp2_with fail
    (with_reducible refine (E1.out _).mono ?_)
    rintro e w' ⟨rfl, hu2⟩
    go_wp2_with fail
    go_ret
    exact ⟨rfl, HU.out.thn hu2⟩

/-- A row that a call made, as a slice. -/
structure MadeS (w : World) (l : List It) (w' : World) (s : SlR It) : Prop where
  eq : s.l = l
  has : HasS LI w' s
  ge : ∀ a, s.ad = some a → w.heap.size ≤ a.block
  upd : Upd [] w w'
theorem Row.drop {L : Lay It} {w : World} {b off : Nat} {l : List It} (h : Row L w (some ⟨b, off, none⟩) l) (n : Nat) : Row L w (some ⟨b, off + n * L.k, none⟩) (l.drop n) := by
  intro j hj
  have hl : n + j < l.length := by simp at hj; omega
  obtain ⟨b', off', e, c⟩ := h (n + j) hl
  simp only [Option.some.injEq, Addr.mk.injEq, and_true] at e
  obtain ⟨rfl, rfl⟩ := e
  refine ⟨b, off + n * L.k, rfl, fun t u hu => ?_⟩
  rw [List.getElem_drop] at hu
  have := c t u hu
  rw [show off + n * L.k + j * L.k + t = off + (n + j) * L.k + t by rw [Nat.add_mul]; omega]
  exact this
theorem ret_slice {a : Option Addr} {n m c : Nat} (h : n = m) : Ending.returned (.slice a n c) = .returned (.slice a m c) := by rw [h]
theorem row_cells {w : World} {b : Nat} {it : It} {e : TypeId} {f : Nat × Nat} (h : w.heap[b]? = some (.cells #[.int .i64 it.t, .int .i64 it.q, .int .i64 it.s] e f)) : Row LI w (some ⟨b, 0, none⟩) [it] := by
  intro j hj
  obtain rfl : j = 0 := by simp at hj; omega
  refine ⟨b, 0, rfl, fun t u hu => ?_⟩
  rw [cell_block h]
  simp only [List.getElem_cons_zero] at hu
  have ht := LI.lt hu
  rw [show 0 + 0 * LI.k + t = t by omega]
  simpa [LI] using hu
set_option maxRecDepth 100000 in
set_option maxHeartbeats 8000000 in
theorem place_has (s : SlR It) (it : It) (w : World) (hs : HasS LI w s) (hl : s.l.length ≤ 100000) :
    Calls Tryz.prog 32 #[.slice s.ad s.l.length s.cap, aggI it] w fun e w' => ∃ s', e = .returned (.slice s'.ad s'.l.length s'.cap) ∧ MadeS w (plI s.l it) w' s' := by
  obtain ⟨l, sa, sc⟩ := s
  simp only at hl ⊢
  have HC := Lib.hid (fun x => RCompareItems_has x it)
  have HS := Lib.hid hs
  obtain ⟨k0, hk0⟩ : ∃ k, k = plAt it l := ⟨_, rfl⟩
  have HPL : Hid (∀ k (hk : k ≤ l.length), (∀ i (h : i < l.length), k ≤ i → ltI it l[i]) → (∀ h : 0 < k, ¬ ltI it (l[k - 1]'(by omega))) → plAt it l = k) := fun k hk h1 h2 => plAt_is hk h1 h2
  obtain ⟨t, q, s⟩ := it
  obtain ⟨n, hn⟩ : ∃ n, n = l.length := ⟨_, rfl⟩
  rw [← hn] at hl ⊢
  have HN := Lib.hid hn
  unfold aggI at HC ⊢
  simp only at HC ⊢
  clear hs hn hk0
  go_enter Tryz.func32, Tryz.ntmps32
  go_upto_region 1 with (fail)
  have hu := (Upd.refl [] w).alloc (.cells #[.int .i64 t, .int .i64 q, .int .i64 s] 38)
  have b0 := heap_alloc1 w (.cells #[.int .i64 t, .int .i64 q, .int .i64 s] 38)
  generalize w.alloc (.cells #[.int .i64 t, .int .i64 q, .int .i64 s] 38) = W at *
  generalize hH : w.heap.size = H at *
  have HU := Lib.hid hu; have HB0 := Lib.hid b0; have HH := Lib.hid hH
  clear hu b0 hH
  go_wp2_with fail
  go_loopg [5] n (fun gk v wr => ∃ k : Nat, v = .int .i64 k ∧ k = gk ∧ k ≤ n ∧ Hid (∀ i (h : i < l.length), k ≤ i → ltI ⟨t, q, s⟩ l[i]) ∧ Hid (Upd [] W wr))
  case atStart => exact ⟨n, rfl, rfl, Nat.le_refl _, fun i h hi => by have := HN.out; omega, Lib.hid (Upd.refl _ _)⟩
  case round =>
    obtain ⟨k, rfl, hkg, hkn, HG, HUR⟩ := hrel
    subst hkg
    obtain ⟨e0, e1, e2⟩ := cells3 (HUR.out.at HB0.out (by simp))
    have HUW : Hid (Upd [] w wr) := HU.out.thn HUR.out
    have hdone : ((k = 0) ∨ (0 < k ∧ ∀ h : k - 1 < l.length, ¬ ltI ⟨t, q, s⟩ l[k - 1])) ∨ (0 < k ∧ ∃ h : k - 1 < l.length, ltI ⟨t, q, s⟩ l[k - 1]) := by
      by_cases h0 : k = 0
      · exact .inl (.inl h0)
      · have hk1 : k - 1 < l.length := by have := HN.out; omega
        by_cases hlt : ltI ⟨t, q, s⟩ l[k - 1]
        · exact .inr ⟨by omega, hk1, hlt⟩
        · exact .inl (.inr ⟨by omega, fun _ => hlt⟩)
    rcases hdone with hstop | ⟨hk0, hk1, hlt⟩
    · rcases hstop with hk0 | ⟨hk0, hnl⟩
      · have HPK : Hid (plAt ⟨t, q, s⟩ l = 0) := HPL.out 0 (by omega) (fun i h hi => HG.out i h (by omega)) (fun h => by omega)
        subst hk0
        have g0 : decide (0 < (0 : Nat)) = false := rfl
        clear HG HPL HC
        go_upto_region 2 with (fail)
        refine wp_region_quiet_kept mixed (by kernel_rfl) ?_
        repeat (go_big_quiet_step (fail))
        refine wpQuiet_nil ?_
        intro W3 hw'
        obtain ⟨⟨Wx, huq⟩, hw''⟩ := hw'
        simp only at hw''
        subst hw''
        have HU3 := Lib.hid (HUR.out.thn huq)
        clear e0 e1 e2 huq
        by_cases hn0 : n = 0
        · obtain rfl : l = [] := List.eq_nil_of_length_eq_zero (by rw [← HN.out]; exact hn0)
          subst hn0
          have hcz := HS.out.nn
          simp only at hcz
          cases sa with
          | none =>
            have hc0 := hcz rfl
            subst hc0
            clear hcz
            have HUW3 : Hid (Upd [] w W3) := HU.out.thn HU3.out
            go_upto_region 5 with (at_builtin; refine app_row tyI rfl _ _ rfl W3.heap.size (.slice (some ⟨W3.heap.size, 0, none⟩) 0 0) 0 [] rfl (World.ownsRow_made W3 #[] 0 (Nat.le_refl _) (Nat.zero_le _) (by simp)) none 0 0 ([] : List It) (by first | rfl | simp) rfl (row_nil _ _ _) (fun _ => rfl) (by omega) (by simp) ?_; intro v1 w1 hown1 hgrow1)
            have HO1 := Lib.hid hown1
            have HV1 : Hid (Upd [] W3 w1) := ((Upd.refl [] W3).alloc _).grown hgrow1 (fun x hx hl => by simp [Value.ownBlock] at hx; omega)
            obtain ⟨e0, e1, e2⟩ := cells3 (HV1.out.at (HU3.out.at HB0.out (by simp)) (by simp))
            have hu5 := (Upd.refl [] w1).alloc (.cells #[.int .i64 t, .int .i64 q, .int .i64 s] 38)
            have HR2 := Lib.hid (row_cells (it := ⟨t, q, s⟩) (heap_alloc1 w1 (.cells #[.int .i64 t, .int .i64 q, .int .i64 s] 38)))
            have HO2 := Lib.hid (hu5.row HO1.out (by simp))
            have HSZ1 := Lib.hid HV1.out.size
            clear hown1 hgrow1
            go_upto_region 6 with (at_builtin; refine app_row tyI rfl _ _ rfl W3.heap.size v1 (0 + 0) ([] ++ []) (by first | rfl | simp) HO2.out (some ⟨w1.heap.size, 0, none⟩) 1 1 [⟨t, q, s⟩] rfl rfl HR2.out (fun e => by simp at e) (by omega) (by have := HSZ1.out; simp; omega) ?_; intro v2 w2 hown2 hgrow2)
            have HO3 := Lib.hid hown2
            have HV2 : Hid (Upd [] W3 w2) := (HV1.out.thn hu5).grown hgrow2 (fun x hx hl => by have := own_ge HO1.out x hx; omega)
            have HSZ2 := Lib.hid HV2.out.size
            clear hown2 hgrow2 hu5 e0 e1 e2
            go_upto_region 7 with (at_builtin; refine app_row tyI rfl _ _ rfl W3.heap.size v2 (0 + 0 + 1) ([] ++ [] ++ [⟨t, q, s⟩]) (by first | rfl | simp) HO3.out none 0 0 ([] : List It) (by first | rfl | simp) rfl (row_nil _ _ _) (fun _ => rfl) (by omega) (by have := HSZ2.out; omega) ?_; intro v3 w3 hown3 hgrow3)
            have hV3 : Upd [] W3 w3 := HV2.out.grown hgrow3 (fun x hx hl => by have := own_ge HO3.out x hx; omega)
            obtain ⟨hnn, ad3, cap3, rfl, hS3, hge3⟩ := hasS_row hown3
            have HFIN : Hid (MadeS w (plI [] ⟨t, q, s⟩) w3 ⟨[] ++ [] ++ [⟨t, q, s⟩] ++ [], ad3, cap3⟩) := ⟨by simp [plI, plAt], hS3, fun a ea => Nat.le_trans HUW3.out.size (hge3 a ea), HUW3.out.thn hV3⟩
            have HNNN := Lib.hid hnn
            clear hown3 hgrow3 hV3 hnn hS3 hge3
            go_wp2_with fail
            go_ret
            (refine ⟨_, ?_, HFIN.out⟩; exact ret_slice HNNN.out)
          | some ad =>
            obtain ⟨b, off, sp⟩ := ad
            clear hcz
            by_cases hsc : 0 < sc
            · have hscz : (0 : Int) < (sc : Int) := by omega
              have hscn : ¬ sc = 0 := by omega
              have hsle : (0 : Int) ≤ (sc : Int) := by omega
              have HUW3 : Hid (Upd [] w W3) := HU.out.thn HU3.out
              go_upto_region 5 with (at_builtin; refine app_row tyI rfl _ _ rfl W3.heap.size (.slice (some ⟨W3.heap.size, 0, none⟩) 0 0) 0 [] rfl (World.ownsRow_made W3 #[] 0 (Nat.le_refl _) (Nat.zero_le _) (by simp)) (some ⟨b, off, sp⟩) 0 sc ([] : List It) (by first | rfl | simp) rfl (row_nil _ _ _) (fun e => by simp at e) (by omega) (by simp) ?_; intro v1 w1 hown1 hgrow1)
              have HO1 := Lib.hid hown1
              have HV1 : Hid (Upd [] W3 w1) := ((Upd.refl [] W3).alloc _).grown hgrow1 (fun x hx hl => by simp [Value.ownBlock] at hx; omega)
              obtain ⟨e0, e1, e2⟩ := cells3 (HV1.out.at (HU3.out.at HB0.out (by simp)) (by simp))
              have hu5 := (Upd.refl [] w1).alloc (.cells #[.int .i64 t, .int .i64 q, .int .i64 s] 38)
              have HR2 := Lib.hid (row_cells (it := ⟨t, q, s⟩) (heap_alloc1 w1 (.cells #[.int .i64 t, .int .i64 q, .int .i64 s] 38)))
              have HO2 := Lib.hid (hu5.row HO1.out (by simp))
              have HSZ1 := Lib.hid HV1.out.size
              clear hown1 hgrow1
              go_upto_region 6 with (at_builtin; refine app_row tyI rfl _ _ rfl W3.heap.size v1 (0 + 0) ([] ++ []) (by first | rfl | simp) HO2.out (some ⟨w1.heap.size, 0, none⟩) 1 1 [⟨t, q, s⟩] rfl rfl HR2.out (fun e => by simp at e) (by omega) (by have := HSZ1.out; simp; omega) ?_; intro v2 w2 hown2 hgrow2)
              have HO3 := Lib.hid hown2
              have HV2 : Hid (Upd [] W3 w2) := (HV1.out.thn hu5).grown hgrow2 (fun x hx hl => by have := own_ge HO1.out x hx; omega)
              have HSZ2 := Lib.hid HV2.out.size
              clear hown2 hgrow2 hu5 e0 e1 e2
              go_upto_region 7 with (at_builtin; refine app_row tyI rfl _ _ rfl W3.heap.size v2 (0 + 0 + 1) ([] ++ [] ++ [⟨t, q, s⟩]) (by first | rfl | simp) HO3.out (some ⟨b, off, sp⟩) 0 sc ([] : List It) (by first | rfl | simp) rfl (row_nil _ _ _) (fun e => by simp at e) (by omega) (by have := HSZ2.out; omega) ?_; intro v3 w3 hown3 hgrow3)
              have hV3 : Upd [] W3 w3 := HV2.out.grown hgrow3 (fun x hx hl => by have := own_ge HO3.out x hx; omega)
              obtain ⟨hnn, ad3, cap3, rfl, hS3, hge3⟩ := hasS_row hown3
              have HFIN : Hid (MadeS w (plI [] ⟨t, q, s⟩) w3 ⟨[] ++ [] ++ [⟨t, q, s⟩] ++ [], ad3, cap3⟩) := ⟨by simp [plI, plAt], hS3, fun a ea => Nat.le_trans HUW3.out.size (hge3 a ea), HUW3.out.thn hV3⟩
              have HNNN := Lib.hid hnn
              clear hown3 hgrow3 hV3 hnn hS3 hge3
              go_wp2_with fail
              go_ret
              (refine ⟨_, ?_, HFIN.out⟩; exact ret_slice HNNN.out)
            · obtain rfl : sc = 0 := by omega
              have HUW3 : Hid (Upd [] w W3) := HU.out.thn HU3.out
              go_upto_region 5 with (at_builtin; refine app_row tyI rfl _ _ rfl W3.heap.size (.slice (some ⟨W3.heap.size, 0, none⟩) 0 0) 0 [] rfl (World.ownsRow_made W3 #[] 0 (Nat.le_refl _) (Nat.zero_le _) (by simp)) (some ⟨b, off, sp⟩) 0 0 ([] : List It) (by first | rfl | simp) rfl (row_nil _ _ _) (fun e => by simp at e) (by omega) (by simp) ?_; intro v1 w1 hown1 hgrow1)
              have HO1 := Lib.hid hown1
              have HV1 : Hid (Upd [] W3 w1) := ((Upd.refl [] W3).alloc _).grown hgrow1 (fun x hx hl => by simp [Value.ownBlock] at hx; omega)
              obtain ⟨e0, e1, e2⟩ := cells3 (HV1.out.at (HU3.out.at HB0.out (by simp)) (by simp))
              have hu5 := (Upd.refl [] w1).alloc (.cells #[.int .i64 t, .int .i64 q, .int .i64 s] 38)
              have HR2 := Lib.hid (row_cells (it := ⟨t, q, s⟩) (heap_alloc1 w1 (.cells #[.int .i64 t, .int .i64 q, .int .i64 s] 38)))
              have HO2 := Lib.hid (hu5.row HO1.out (by simp))
              have HSZ1 := Lib.hid HV1.out.size
              clear hown1 hgrow1
              go_upto_region 6 with (at_builtin; refine app_row tyI rfl _ _ rfl W3.heap.size v1 (0 + 0) ([] ++ []) (by first | rfl | simp) HO2.out (some ⟨w1.heap.size, 0, none⟩) 1 1 [⟨t, q, s⟩] rfl rfl HR2.out (fun e => by simp at e) (by omega) (by have := HSZ1.out; simp; omega) ?_; intro v2 w2 hown2 hgrow2)
              have HO3 := Lib.hid hown2
              have HV2 : Hid (Upd [] W3 w2) := (HV1.out.thn hu5).grown hgrow2 (fun x hx hl => by have := own_ge HO1.out x hx; omega)
              have HSZ2 := Lib.hid HV2.out.size
              clear hown2 hgrow2 hu5 e0 e1 e2
              go_upto_region 7 with (at_builtin; refine app_row tyI rfl _ _ rfl W3.heap.size v2 (0 + 0 + 1) ([] ++ [] ++ [⟨t, q, s⟩]) (by first | rfl | simp) HO3.out (some ⟨b, off, sp⟩) 0 0 ([] : List It) (by first | rfl | simp) rfl (row_nil _ _ _) (fun e => by simp at e) (by omega) (by have := HSZ2.out; omega) ?_; intro v3 w3 hown3 hgrow3)
              have hV3 : Upd [] W3 w3 := HV2.out.grown hgrow3 (fun x hx hl => by have := own_ge HO3.out x hx; omega)
              obtain ⟨hnn, ad3, cap3, rfl, hS3, hge3⟩ := hasS_row hown3
              have HFIN : Hid (MadeS w (plI [] ⟨t, q, s⟩) w3 ⟨[] ++ [] ++ [⟨t, q, s⟩] ++ [], ad3, cap3⟩) := ⟨by simp [plI, plAt], hS3, fun a ea => Nat.le_trans HUW3.out.size (hge3 a ea), HUW3.out.thn hV3⟩
              have HNNN := Lib.hid hnn
              clear hown3 hgrow3 hV3 hnn hS3 hge3
              go_wp2_with fail
              go_ret
              (refine ⟨_, ?_, HFIN.out⟩; exact ret_slice HNNN.out)
        · obtain ⟨b, off, hbo, x0, x1, x2⟩ := (HS.out.stay HUW.out).row.item 0 (by show 0 < l.length; have := HN.out; omega)
          simp only at hbo
          subst hbo
          clear x0 x1 x2
          have HUW3 : Hid (Upd [] w W3) := HU.out.thn HU3.out
          have HS3 := Lib.hid (HS.out.stay HUW3.out)
          have hu4 := (Upd.refl [] W3).alloc (.cells #[] 38)
          have HR1 : Hid (Row LI (W3.alloc (.cells #[] 38)) (some ⟨b, off, none⟩) (l.take 0)) := (HS3.out.stay hu4).row.part 0
          have HL1 : Hid (0 = (l.take 0).length) := by show 0 = _; rw [List.length_take]; have := HN.out; omega
          have HNN := Lib.hid HS3.out.nn
          have hcap := HS3.out.le
          simp only at hcap HNN
          rw [← HN.out] at hcap
          have hkc : (0 : Int) ≤ (sc : Int) := by omega
          have hkn2 : (0 : Int) ≤ (n : Int) := by omega
          have ck : ((sc : Int) - (0 : Int)).toNat = sc - 0 := by omega
          have cn : ((n : Int) - (0 : Int)).toNat = n - 0 := by omega
          have hnc : (n : Int) ≤ (sc : Int) := by omega
          go_upto_region 5 with (at_builtin; refine app_row tyI rfl _ _ rfl W3.heap.size (.slice (some ⟨W3.heap.size, 0, none⟩) 0 0) 0 [] rfl (World.ownsRow_made W3 #[] 0 (Nat.le_refl _) (Nat.zero_le _) (by simp)) (some ⟨b, off, none⟩) 0 sc (l.take 0) (by first | rfl | simp) HL1.out HR1.out (fun e => by simp at e) (by omega) (by simp) ?_; intro v1 w1 hown1 hgrow1)
          have HO1 := Lib.hid hown1
          have HV1 : Hid (Upd [] W3 w1) := hu4.grown hgrow1 (fun x hx hl => by simp [Value.ownBlock] at hx; omega)
          obtain ⟨e0, e1, e2⟩ := cells3 (HV1.out.at (HU3.out.at HB0.out (by simp)) (by simp))
          have hu5 := (Upd.refl [] w1).alloc (.cells #[.int .i64 t, .int .i64 q, .int .i64 s] 38)
          have HR2 := Lib.hid (row_cells (it := ⟨t, q, s⟩) (heap_alloc1 w1 (.cells #[.int .i64 t, .int .i64 q, .int .i64 s] 38)))
          have HO2 := Lib.hid (hu5.row HO1.out (by simp))
          have HSZ1 := Lib.hid HV1.out.size
          clear hown1 hgrow1 hu4
          go_upto_region 6 with (at_builtin; refine app_row tyI rfl _ _ rfl W3.heap.size v1 (0 + 0) ([] ++ l.take 0) (by first | rfl | simp) HO2.out (some ⟨w1.heap.size, 0, none⟩) 1 1 [⟨t, q, s⟩] rfl rfl HR2.out (fun e => by simp at e) (by omega) (by have := HSZ1.out; simp; omega) ?_; intro v2 w2 hown2 hgrow2)
          have HO3 := Lib.hid hown2
          have HV2 : Hid (Upd [] W3 w2) := (HV1.out.thn hu5).grown hgrow2 (fun x hx hl => by have := own_ge HO1.out x hx; omega)
          have HSZ2 := Lib.hid HV2.out.size
          clear hown2 hgrow2 hu5 e0 e1 e2
          by_cases hkcap : 0 < sc
          · have hkcz : (0 : Int) < (sc : Int) := by omega
            have hkne : ¬ sc = 0 := by omega
            have hkne2 : (sc - 0 = 0) = False := by simp; omega
            have HR3 : Hid (Row LI w2 (some ⟨b, off + 0 * 3, none⟩) (l.drop 0)) := ((HS3.out.stay HV2.out).row).drop 0
            have HL3 : Hid (n - 0 = (l.drop 0).length) := by show n - 0 = _; rw [List.length_drop, ← HN.out]
            go_upto_region 7 with (at_builtin; refine app_row tyI rfl _ _ rfl W3.heap.size v2 (0 + 0 + 1) ([] ++ l.take 0 ++ [⟨t, q, s⟩]) (by first | rfl | simp) HO3.out (some ⟨b, off + 0 * 3, none⟩) (n - 0) (sc - 0) (l.drop 0) (by first | rfl | simp) HL3.out HR3.out (fun e => by simp at e) (by omega) (by have := HSZ2.out; omega) ?_; intro v3 w3 hown3 hgrow3)
            have hV3 : Upd [] W3 w3 := HV2.out.grown hgrow3 (fun x hx hl => by have := own_ge HO3.out x hx; omega)
            obtain ⟨hnn, ad3, cap3, rfl, hS3, hge3⟩ := hasS_row hown3
            have HFIN : Hid (MadeS w (plI l ⟨t, q, s⟩) w3 ⟨[] ++ l.take 0 ++ [⟨t, q, s⟩] ++ l.drop 0, ad3, cap3⟩) := ⟨by simp only [plI, HPK.out]; simp, hS3, fun a ea => Nat.le_trans HUW3.out.size (hge3 a ea), HUW3.out.thn hV3⟩
            have HNNN := Lib.hid hnn
            clear hown3 hgrow3 hV3 hnn hS3 hge3
            go_wp2_with fail
            go_ret
            (refine ⟨_, ?_, HFIN.out⟩; exact ret_slice HNNN.out)
          · exact absurd (by omega : n = 0) hn0
      · have hk1 : k - 1 < l.length := by have := HN.out; omega
        have hn1 := hnl hk1
        have HPK : Hid (plAt ⟨t, q, s⟩ l = k) := HPL.out k (by have := HN.out; omega) (fun i h hi => HG.out i h hi) (fun _ => hn1)
        obtain ⟨b, off, hbo, x0, x1, x2⟩ := (HS.out.stay HUW.out).row.item (k - 1) hk1
        simp only at hbo x0 x1 x2
        subst hbo
        have hcmp := HC.out l[k - 1]
        have hneg : ¬ 0 < cmpI l[k - 1] ⟨t, q, s⟩ := fun h => hn1 (cmpI_gt.1 h)
        have g1 : decide (0 < cmpI l[k - 1] ⟨t, q, s⟩) = false := by simpa using hneg
        clear hneg hn1 hnl
        generalize l[k - 1] = y at *
        obtain ⟨yt, yq, ys⟩ := y
        simp only at hcmp x0 x1 x2
        generalize cmpI ⟨yt, yq, ys⟩ ⟨t, q, s⟩ = cv at *
        have HCM := Lib.hid hcmp
        have g0 : decide (0 < k) = true := by simpa using hk0
        have g2 : decide (0 < (k : Int)) = true := by simp; omega
        have hw1 : IntKind.i64.wrap ((k : Int) - 1) = ((k - 1 : Nat) : Int) := by rw [IntKind.wrap_i64]; omega
        have hix : ((k - 1 : Nat) : Int) < (n : Int) := by omega
        have j0 := kept_at e0; have j1 := kept_at e1; have j2 := kept_at e2; have y0 := kept_at x0; have y1 := kept_at x1; have y2 := kept_at x2
        clear hcmp e0 e1 e2 x0 x1 x2 HG HPL HC
        go_upto_region 2 with (fail)
        refine wp_region_quiet_kept mixed (by kernel_rfl) ?_
        repeat (go_big_quiet_step (first | (go_at_call 47; with_reducible exact calls_kept (HCM.out _))))
        refine wpQuiet_nil ?_
        intro W3 hw'
        obtain ⟨⟨Wx, huq⟩, hw''⟩ := hw'
        simp only at hw''
        subst hw''
        have HU3 := Lib.hid (HUR.out.thn huq)
        clear j0 j1 j2 y0 y1 y2 huq
        have HUW3 : Hid (Upd [] w W3) := HU.out.thn HU3.out
        have HS3 := Lib.hid (HS.out.stay HUW3.out)
        have hu4 := (Upd.refl [] W3).alloc (.cells #[] 38)
        have HR1 : Hid (Row LI (W3.alloc (.cells #[] 38)) (some ⟨b, off, none⟩) (l.take k)) := (HS3.out.stay hu4).row.part k
        have HL1 : Hid (k = (l.take k).length) := by show k = _; rw [List.length_take]; have := HN.out; omega
        have HNN := Lib.hid HS3.out.nn
        have hcap := HS3.out.le
        simp only at hcap HNN
        rw [← HN.out] at hcap
        have hkc : (k : Int) ≤ (sc : Int) := by omega
        have hkn2 : (k : Int) ≤ (n : Int) := by omega
        have ck : ((sc : Int) - (k : Int)).toNat = sc - k := by omega
        have cn : ((n : Int) - (k : Int)).toNat = n - k := by omega
        have hnc : (n : Int) ≤ (sc : Int) := by omega
        go_upto_region 5 with (at_builtin; refine app_row tyI rfl _ _ rfl W3.heap.size (.slice (some ⟨W3.heap.size, 0, none⟩) 0 0) 0 [] rfl (World.ownsRow_made W3 #[] 0 (Nat.le_refl _) (Nat.zero_le _) (by simp)) (some ⟨b, off, none⟩) k sc (l.take k) (by first | rfl | simp) HL1.out HR1.out (fun e => by simp at e) (by omega) (by simp) ?_; intro v1 w1 hown1 hgrow1)
        have HO1 := Lib.hid hown1
        have HV1 : Hid (Upd [] W3 w1) := hu4.grown hgrow1 (fun x hx hl => by simp [Value.ownBlock] at hx; omega)
        obtain ⟨e0, e1, e2⟩ := cells3 (HV1.out.at (HU3.out.at HB0.out (by simp)) (by simp))
        have hu5 := (Upd.refl [] w1).alloc (.cells #[.int .i64 t, .int .i64 q, .int .i64 s] 38)
        have HR2 := Lib.hid (row_cells (it := ⟨t, q, s⟩) (heap_alloc1 w1 (.cells #[.int .i64 t, .int .i64 q, .int .i64 s] 38)))
        have HO2 := Lib.hid (hu5.row HO1.out (by simp))
        have HSZ1 := Lib.hid HV1.out.size
        clear hown1 hgrow1 hu4
        go_upto_region 6 with (at_builtin; refine app_row tyI rfl _ _ rfl W3.heap.size v1 (0 + k) ([] ++ l.take k) (by first | rfl | simp) HO2.out (some ⟨w1.heap.size, 0, none⟩) 1 1 [⟨t, q, s⟩] rfl rfl HR2.out (fun e => by simp at e) (by omega) (by have := HSZ1.out; simp; omega) ?_; intro v2 w2 hown2 hgrow2)
        have HO3 := Lib.hid hown2
        have HV2 : Hid (Upd [] W3 w2) := (HV1.out.thn hu5).grown hgrow2 (fun x hx hl => by have := own_ge HO1.out x hx; omega)
        have HSZ2 := Lib.hid HV2.out.size
        clear hown2 hgrow2 hu5 e0 e1 e2
        by_cases hkcap : k < sc
        · have hkcz : (k : Int) < (sc : Int) := by omega
          have hkne : ¬ sc = k := by omega
          have hkne2 : (sc - k = 0) = False := by simp; omega
          have HR3 : Hid (Row LI w2 (some ⟨b, off + k * 3, none⟩) (l.drop k)) := ((HS3.out.stay HV2.out).row).drop k
          have HL3 : Hid (n - k = (l.drop k).length) := by show n - k = _; rw [List.length_drop, ← HN.out]
          go_upto_region 7 with (at_builtin; refine app_row tyI rfl _ _ rfl W3.heap.size v2 (0 + k + 1) ([] ++ l.take k ++ [⟨t, q, s⟩]) (by first | rfl | simp) HO3.out (some ⟨b, off + k * 3, none⟩) (n - k) (sc - k) (l.drop k) (by first | rfl | simp) HL3.out HR3.out (fun e => by simp at e) (by omega) (by have := HSZ2.out; omega) ?_; intro v3 w3 hown3 hgrow3)
          have hV3 : Upd [] W3 w3 := HV2.out.grown hgrow3 (fun x hx hl => by have := own_ge HO3.out x hx; omega)
          obtain ⟨hnn, ad3, cap3, rfl, hS3, hge3⟩ := hasS_row hown3
          have HFIN : Hid (MadeS w (plI l ⟨t, q, s⟩) w3 ⟨[] ++ l.take k ++ [⟨t, q, s⟩] ++ l.drop k, ad3, cap3⟩) := ⟨by simp only [plI, HPK.out]; simp, hS3, fun a ea => Nat.le_trans HUW3.out.size (hge3 a ea), HUW3.out.thn hV3⟩
          have HNNN := Lib.hid hnn
          clear hown3 hgrow3 hV3 hnn hS3 hge3
          go_wp2_with fail
          go_ret
          (refine ⟨_, ?_, HFIN.out⟩; exact ret_slice HNNN.out)
        · have hke : sc = k := by omega
          have hnk : n = k := by omega
          subst hke
          subst hnk
          have HR3 : Hid (Row LI w2 (some ⟨b, off, none⟩) ([] : List It)) := row_nil _ _ _
          have HL3 : Hid (0 = ([] : List It).length) := rfl
          go_upto_region 7 with (at_builtin; refine app_row tyI rfl _ _ rfl W3.heap.size v2 (0 + n + 1) ([] ++ l.take n ++ [⟨t, q, s⟩]) (by first | rfl | simp) HO3.out (some ⟨b, off, none⟩) (0) (0) ([] : List It) (by first | rfl | simp) HL3.out HR3.out (fun e => by simp at e) (by omega) (by have := HSZ2.out; omega) ?_; intro v3 w3 hown3 hgrow3)
          have hV3 : Upd [] W3 w3 := HV2.out.grown hgrow3 (fun x hx hl => by have := own_ge HO3.out x hx; omega)
          obtain ⟨hnn, ad3, cap3, rfl, hS3, hge3⟩ := hasS_row hown3
          have HFIN : Hid (MadeS w (plI l ⟨t, q, s⟩) w3 ⟨[] ++ l.take n ++ [⟨t, q, s⟩] ++ [], ad3, cap3⟩) := ⟨by simp only [plI, HPK.out]; rw [HN.out]; simp, hS3, fun a ea => Nat.le_trans HUW3.out.size (hge3 a ea), HUW3.out.thn hV3⟩
          have HNNN := Lib.hid hnn
          clear hown3 hgrow3 hV3 hnn hS3 hge3
          go_wp2_with fail
          go_ret
          (refine ⟨_, ?_, HFIN.out⟩; exact ret_slice HNNN.out)
    · obtain ⟨b, off, hbo, x0, x1, x2⟩ := (HS.out.stay HUW.out).row.item (k - 1) hk1
      simp only at hbo x0 x1 x2
      subst hbo
      have hcmp := HC.out l[k - 1]
      have HG2 : Hid (∀ i (h : i < l.length), k - 1 ≤ i → ltI ⟨t, q, s⟩ l[i]) := fun i h hi => by
        by_cases e : i = k - 1
        · subst e; exact hlt
        · exact HG.out i h (by omega)
      have hpos := cmpI_gt.2 hlt
      have g1 : decide (0 < cmpI l[k - 1] ⟨t, q, s⟩) = true := by simpa using hpos
      generalize l[k - 1] = y at *
      obtain ⟨yt, yq, ys⟩ := y
      simp only at hcmp x0 x1 x2
      generalize cmpI ⟨yt, yq, ys⟩ ⟨t, q, s⟩ = cv at *
      have HCM := Lib.hid hcmp
      have g0 : decide (0 < k) = true := by simpa using hk0
      have g2 : decide (0 < (k : Int)) = true := by simp; omega
      have hw1 : IntKind.i64.wrap ((k : Int) - 1) = ((k - 1 : Nat) : Int) := by rw [IntKind.wrap_i64]; omega
      have hix : ((k - 1 : Nat) : Int) < (n : Int) := by omega
      have j0 := kept_at e0; have j1 := kept_at e1; have j2 := kept_at e2; have y0 := kept_at x0; have y1 := kept_at x1; have y2 := kept_at x2
      clear hcmp hpos hlt e0 e1 e2 x0 x1 x2 HG HPL HC
      go_upto_region 2 with (fail)
      refine wp_region_quiet_kept mixed (by kernel_rfl) ?_
      repeat (go_big_quiet_step (first | (go_at_call 47; with_reducible exact calls_kept (HCM.out _))))
      refine wpQuiet_nil ?_
      intro W3 hw'
      obtain ⟨⟨Wx, huq⟩, hw''⟩ := hw'
      simp only at hw''
      subst hw''
      have HU2 := Lib.hid (HUR.out.thn huq)
      clear j0 j1 j2 y0 y1 y2 huq
      go_wp2_with fail
      go_roundg (k - 1)
      case measure => omega
      case rel => exact ⟨k - 1, rfl, rfl, by omega, HG2, HU2⟩
end Go.Proofs.YtpabapjodcafkaaGreat
namespace Go.Proofs.YtpabapjodcafkaaGreat
open Go.RowKit Go.Lib

theorem sort_take_succ {l : List It} {i : Nat} (h : i < l.length) : sortI (l.take (i + 1)) = plI (sortI (l.take i)) l[i] := by
  unfold sortI
  rw [List.take_succ_eq_append_getElem h, List.foldl_append]
  rfl
set_option maxRecDepth 100000 in
set_option maxHeartbeats 4000000 in
theorem Sort_has (s : SlR It) (w : World) (hs : HasS LI w s) (hl : s.l.length ≤ 100000) :
    Calls Tryz.prog 72 #[.slice s.ad s.l.length s.cap] w fun e w' => ∃ s', e = .returned (.slice s'.ad s'.l.length s'.cap) ∧ MadeS w (sortI s.l) w' s' := by
  obtain ⟨l, sa, sc⟩ := s
  simp only at hl ⊢
  have HS := Lib.hid hs
  obtain ⟨n, hn⟩ : ∃ n, n = l.length := ⟨_, rfl⟩
  have HN := Lib.hid hn
  rw [← hn] at hl ⊢
  have HFN : Hid (∀ wr (s' : SlR It), MadeS w (sortI (l.take n)) wr s' → ∃ s'' : SlR It, Ending.returned (.slice s'.ad s'.l.length s'.cap) = .returned (.slice s''.ad s''.l.length s''.cap) ∧ MadeS w (sortI l) wr s'') := fun wr s' h => ⟨s', rfl, by rw [show l.take n = l from by rw [HN.out]; exact List.take_length] at h; exact h⟩
  clear hs hn
  go_enter Tryz.func72, Tryz.ntmps72
  go_wp2_with fail
  go_loopg [3, 4] n (fun gk vo vi wr => ∃ (i : Nat) (o : SlR It), vo = .slice o.ad o.l.length o.cap ∧ vi = .int .i64 i ∧ i + gk = n ∧ Hid (MadeS w (sortI (l.take i)) wr o))
  case atStart => exact ⟨0, ⟨[], none, 0⟩, rfl, rfl, by omega, ⟨rfl, hasS_nil _ _, fun a e => by simp at e, Upd.refl _ _⟩⟩
  case round =>
    obtain ⟨i, o, rfl, rfl, hig, HO⟩ := hrel
    by_cases hlt : i < n
    · have hltz : (i : Int) < (n : Int) := by omega
      have hi1 : i < l.length := by have := HN.out; omega
      obtain ⟨b, off, hbo, x0, x1, x2⟩ := (HS.out.stay HO.out.upd).row.item i hi1
      simp only at hbo x0 x1 x2
      subst hbo
      have hol : o.l.length ≤ 100000 := by
        rw [HO.out.eq, sortI_length, List.length_take]
        omega
      have hpl := place_has o l[i] wr HO.out.has hol
      have HST := Lib.hid (sort_take_succ hi1)
      have hoe := HO.out.eq
      rw [hoe] at hpl
      generalize l[i] = y at *
      obtain ⟨yt, yq, ys⟩ := y
      simp only at x0 x1 x2
      unfold aggI at hpl
      simp only at hpl
      rw [← hoe] at hpl
      have HPL := Lib.hid hpl
      have HOE := Lib.hid hoe
      generalize o.l.length = on at *
      generalize o.ad = oad at *
      generalize o.cap = oc at *
      clear hpl hoe hol
      go_upto_region 4 with (go_at_call 32; (with_reducible refine HPL.out.mono ?_); rintro e w1 ⟨s', rfl, hM⟩)
      have HM : Hid (MadeS w (sortI (l.take (i + 1))) w1 s') := ⟨by rw [HST.out, ← HOE.out]; exact hM.eq, hM.has, fun a ea => Nat.le_trans HO.out.upd.size (hM.ge a ea), HO.out.upd.thn hM.upd⟩
      clear hM x0 x1 x2
      go_wp2_with fail
      go_roundg (n - (i + 1))
      case measure => omega
      case rel => exact ⟨i + 1, s', rfl, by go_num, by omega, HM⟩
    · have hltz : ¬ (i : Int) < (n : Int) := by omega
      have hin : i = n := by omega
      have HO2 := HFN.out wr o (by rw [← hin]; exact HO.out)
      have HO3 := Lib.hid HO2
      clear HO2 hin
      go_wp2_with fail
      go_ret
      exact HO3.out
end Go.Proofs.YtpabapjodcafkaaGreat
