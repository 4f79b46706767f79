
/- Contracts of layer 10: the program's all, validEntry, and whether entries are sorted. -/
import Derived.Test.YtpneljhplbkdkaaHK
namespace Go.Proofs.Ytpneljhplbkdkaa
open Go.RowKit Go.Lib

set_option maxRecDepth 100000 in
theorem AllN1_has (A : Nat) (x : Int) (w : World) (hA : w.cell? ⟨A, 0, none⟩ = some (.func (.func 37) #[] #[])) :
    Calls Try.prog 57 #[.int .i64 x, .pointer (some ⟨A, 0, none⟩)] w fun e w' => e = .returned (.bool (!okH x)) ∧ Upd [] w w' := by
  have HV := Lib.hid (PHV_has x)
  generalize okH x = r at *
  have eg : ∀ args w, (callFunc 37 args).run Try.prog w = .ok (.enter 37 args) w := enters_of Try.func37 (by kernel_rfl) rfl
  go_enter Try.func57, Try.ntmps57
  go_wp2_with (go_at_call 37; (with_reducible refine (HV.out _).mono ?_); rintro e w1 ⟨rfl, rfl⟩)
  go_ret
  exact ⟨rfl, Upd.refl _ _⟩
set_option maxRecDepth 100000 in
set_option maxHeartbeats 2000000 in
theorem IndexN_has (a : Option Addr) (c : Nat) (l : List Int) (A : Addr) (p : Int → Bool) (w : World) (hr : Row LN w a l) (hl : l.length ≤ 1000000) (hc : ∀ x W, Upd [] w W → Calls Try.prog 57 #[.int .i64 x, .pointer (some A)] W fun e w' => e = .returned (.bool (p x)) ∧ Upd [] W w') :
    Calls Try.prog 64 #[.slice a l.length c, .func (.func 57) #[] #[.pointer (some A)]] w fun e w' => (∃ i : Int, e = .returned (.int .i64 i) ∧ FirstAt p l i) ∧ Upd [] w w' := by
  have HR := Lib.hid hr
  have HC := Lib.hid hc
  have H1 : Hid (∀ k (hk : k < l.length), (∀ j (hj : j < k) (h : j < l.length), p l[j] = false) → p l[k] = true → FirstAt p l k) := fun k hk h0 h1 => .inl ⟨k, hk, rfl, h1, fun j hj => h0 j hj (by omega)⟩
  have H2 : Hid ((∀ j (hj : j < l.length), p l[j] = false) → FirstAt p l (-1)) := fun h => .inr ⟨rfl, fun x hx => by
    obtain ⟨j, hj, rfl⟩ := List.mem_iff_getElem.1 hx
    exact h j hj⟩
  obtain ⟨n, hn⟩ : ∃ n, n = l.length := ⟨_, rfl⟩
  have HN := Lib.hid hn
  rw [← hn] at hl ⊢
  clear hr hn hc
  have eg : ∀ args w, (callFunc 57 args).run Try.prog w = .ok (.enter 57 args) w := enters_of Try.func57 (by kernel_rfl) rfl
  go_enter Try.func64, Try.ntmps64
  go_wp2_with fail
  go_loopg [8] n (fun gk vi wr => ∃ k : Nat, vi = .int .i64 k ∧ k + gk = n ∧ Hid (Upd [] w wr) ∧ Hid (∀ j (hj : j < k) (h : j < l.length), p l[j] = false))
  case atStart => exact ⟨0, rfl, by omega, Upd.refl _ _, fun j hj => by omega⟩
  case round =>
    obtain ⟨k, rfl, hkg, HU, HF⟩ := hrel
    by_cases hlt : k < n
    · have hltz : (k : Int) < (n : Int) := by omega
      have hk1 : k < l.length := by have := HN.out; omega
      obtain ⟨b, off, hbo, x0⟩ := (HR.out.stay HU.out).num k hk1
      subst hbo
      have HCK := Lib.hid (HC.out l[k] wr HU.out)
      have HH1 := Lib.hid (H1.out k hk1)
      have HNX : Hid (p l[k] = false → ∀ j (hj : j < k + 1) (h : j < l.length), p l[j] = false) := fun he j hj h => by
        by_cases e : j = k
        · subst e; exact he
        · exact HF.out j (by omega) h
      skip
      generalize p l[k] = bb at *
      generalize l[k] = y0 at *
      cases bb with
      | true =>
        go_wp2_with (go_at_call 57; go_loud ((with_reducible refine HCK.out.mono ?_); rintro e w1 ⟨rfl, hu1⟩; have HU1 := Lib.hid (HU.out.thn hu1); clear hu1))
        go_ret
        exact ⟨⟨(k : Int), rfl, HH1.out HF.out (by first | rfl | trivial)⟩, HU1.out⟩
      | false =>
        go_wp2_with (go_at_call 57; go_loud ((with_reducible refine HCK.out.mono ?_); rintro e w1 ⟨rfl, hu1⟩; have HU1 := Lib.hid (HU.out.thn hu1); clear hu1))
        go_roundg (gk - 1)
        case measure => omega
        case rel => exact ⟨k + 1, by go_num, by omega, HU1, HNX.out (by first | rfl | trivial)⟩
    · have hltz : ¬ (k : Int) < (n : Int) := by omega
      have HE := Lib.hid (H2.out (fun j hj => HF.out j (by have := HN.out; omega) hj))
      go_wp2_with fail
      go_ret
      exact ⟨⟨-1, rfl, HE.out⟩, HU.out⟩
set_option maxRecDepth 100000 in
set_option maxHeartbeats 2000000 in
theorem ContN_has (a : Option Addr) (c : Nat) (l : List Int) (A : Addr) (p : Int → Bool) (w : World) (hr : Row LN w a l) (hl : l.length ≤ 1000000) (hc : ∀ x W, Upd [] w W → Calls Try.prog 57 #[.int .i64 x, .pointer (some A)] W fun e w' => e = .returned (.bool (p x)) ∧ Upd [] W w') :
    Calls Try.prog 56 #[.slice a l.length c, .func (.func 57) #[] #[.pointer (some A)]] w fun e w' => e = .returned (.bool (l.any p)) ∧ Upd [] w w' := by
  have HC := Lib.hid (IndexN_has a c l A p w hr hl hc)
  have HANY : Hid (∀ i, FirstAt p l i → decide (0 ≤ i) = l.any p) := fun i h => h.any
  generalize l.any p = r at *
  generalize l.length = n at *
  clear hr hc
  go_enter Try.func56, Try.ntmps56
  go_wp2_with (go_at_call 64; (with_reducible refine HC.out.mono ?_); rintro e w1 ⟨⟨i, rfl, hfi⟩, hu1⟩; have hd := HANY.out i hfi; have HU1 := Lib.hid hu1; clear hu1 hfi)
  go_ret
  exact ⟨ret_bool (by first | rfl | exact hd), HU1.out⟩
theorem all_not {α : Type} (l : List α) (p : α → Bool) : (!(l.any (fun x => !p x))) = l.all p := by
  induction l with
  | nil => rfl
  | cons x l ih => rw [List.any_cons, List.all_cons, Bool.not_or, Bool.not_not, ih]
set_option maxRecDepth 100000 in
set_option maxHeartbeats 2000000 in
theorem AllN_has (a : Option Addr) (c : Nat) (l : List Int) (w : World) (hr : Row LN w a l) (hl : l.length ≤ 1000000) :
    Calls Try.prog 36 #[.slice a l.length c, .func (.func 37) #[] #[]] w fun e w' => e = .returned (.bool (l.all okH)) ∧ Upd [] w w' := by
  have HC := Lib.hid (fun A W (hu : Upd [] w W) (hA : W.cell? ⟨A, 0, none⟩ = some (.func (.func 37) #[] #[])) => ContN_has a c l ⟨A, 0, none⟩ (fun x => !okH x) W (hr.stay hu) hl (fun x W2 hu2 => AllN1_has A x W2 (hu2.cell hA (by simp))))
  rw [← all_not]
  generalize l.any (fun x => !okH x) = r at *
  generalize l.length = n at *
  clear hr
  go_enter Try.func36, Try.ntmps36
  go_upto_region 1 with (fail)
  have hu := (Upd.refl [] w).alloc (.cells #[.func (.func 37) #[] #[]] 58)
  have b0 := heap_alloc1 w (.cells #[.func (.func 37) #[] #[]] 58)
  have hc := HC.out w.heap.size _ hu (by rw [cell_block b0]; rfl)
  generalize w.alloc (.cells #[.func (.func 37) #[] #[]] 58) = W at *
  generalize w.heap.size = P at *
  have HC2 := Lib.hid hc; have HU := Lib.hid hu
  clear hc hu b0 HC
  go_wp2_with (go_at_call 56; (with_reducible refine HC2.out.mono ?_); rintro e w1 ⟨rfl, hu1⟩; have HU1 := Lib.hid (HU.out.thn hu1); clear hu1)
  go_ret
  exact ⟨rfl, HU1.out⟩
/-- What concerns one entry alone. -/
def entB (nx : Int) (is : List Int) (e : En) : Bool := inB 0 MaxV e.t && decide (0 ≤ e.q) && decide (e.q < nx) && decide (e.h ∈ is)
set_option maxRecDepth 100000 in
set_option maxHeartbeats 4000000 in
theorem PEnt_has (m : MdR) (x : En) (w : World) (hm : HasM w m) (hi : m.is.l.length ≤ 1000000) :
    Calls Try.prog 42 #[encM m, aggE x] w fun e w' => e = .returned (.bool (entB m.nx m.is.l x)) ∧ Upd [] w w' := by
  have HVT := Lib.hid (PTime_has x.t)
  have HCO := Lib.hid (fun W (hu : Upd [] w W) => PContains_has m.is.ad m.is.cap m.is.l x.h W (hm.is.row.stay hu) hi)
  obtain ⟨cap, ⟨es, ea, ec⟩, nx, ⟨is, ia, ic⟩⟩ := m
  obtain ⟨i0, i1, i2, i3⟩ := x
  unfold encM cellsM aggE entB
  simp only at HCO HVT ⊢
  generalize inB 0 MaxV i0 = bt at *
  generalize decide (i2 ∈ is) = bh at *
  generalize es.length = n at *
  generalize is.length = q at *
  clear hm hi
  obtain ⟨hu0, b0, b1, -⟩ := two_boxes w (.cells #[.int .i64 cap, .slice ea n ec, .int .i64 nx, .slice ia q ic] 25) (.cells #[.int .i64 i0, .int .i64 i1, .int .i64 i2, .bool i3] 49)
  have HU0 := Lib.hid hu0; have HB0 := Lib.hid b0; have HB1 := Lib.hid b1
  clear hu0 b0 b1
  cases bt with
  | false =>
    go_enter Try.func42, Try.ntmps42
    go_upto_region 1 with (fail)
    generalize (w.alloc (.cells #[.int .i64 cap, .slice ea n ec, .int .i64 nx, .slice ia q ic] 25)).alloc (.cells #[.int .i64 i0, .int .i64 i1, .int .i64 i2, .bool i3] 49) = W at *
    generalize w.heap.size = P at *
    obtain ⟨m0, m1, m2, m3⟩ := cells4 HB0.out
    obtain ⟨x0, x1, x2, x3⟩ := cells4 HB1.out
    go_wp2_with (first | (go_at_call 50; (with_reducible refine (HVT.out _).mono ?_); rintro e w1 ⟨rfl, rfl⟩) | (go_at_call 51; (with_reducible refine (HCO.out _ HU0.out).mono ?_); rintro e w1 ⟨rfl, rfl⟩))
    go_ret
    exact ⟨ret_bool (by simp), HU0.out⟩
  | true =>
    by_cases h1 : 0 ≤ i1
    · have d1 : decide (0 ≤ i1) = true := decide_eq_true h1
      by_cases h2 : i1 < nx
      · have d2 : decide (i1 < nx) = true := decide_eq_true h2
        have HD : Hid ((true && decide (0 ≤ i1) && decide (i1 < nx) && bh) = bh) := Lib.hid (by rw [d1, d2]; simp)
        rw [HD.out]
        clear HD
        go_enter Try.func42, Try.ntmps42
        go_upto_region 1 with (fail)
        generalize (w.alloc (.cells #[.int .i64 cap, .slice ea n ec, .int .i64 nx, .slice ia q ic] 25)).alloc (.cells #[.int .i64 i0, .int .i64 i1, .int .i64 i2, .bool i3] 49) = W at *
        generalize w.heap.size = P at *
        obtain ⟨m0, m1, m2, m3⟩ := cells4 HB0.out
        obtain ⟨x0, x1, x2, x3⟩ := cells4 HB1.out
        go_wp2_with (first | (go_at_call 50; (with_reducible refine (HVT.out _).mono ?_); rintro e w1 ⟨rfl, rfl⟩) | (go_at_call 51; (with_reducible refine (HCO.out _ HU0.out).mono ?_); rintro e w1 ⟨rfl, rfl⟩))
        go_ret
        exact ⟨ret_bool (by rfl), HU0.out⟩
      · have d2 : decide (i1 < nx) = false := decide_eq_false h2
        have HD : Hid ((true && decide (0 ≤ i1) && decide (i1 < nx) && bh) = false) := Lib.hid (by rw [d1, d2]; simp)
        rw [HD.out]
        clear HD
        go_enter Try.func42, Try.ntmps42
        go_upto_region 1 with (fail)
        generalize (w.alloc (.cells #[.int .i64 cap, .slice ea n ec, .int .i64 nx, .slice ia q ic] 25)).alloc (.cells #[.int .i64 i0, .int .i64 i1, .int .i64 i2, .bool i3] 49) = W at *
        generalize w.heap.size = P at *
        obtain ⟨m0, m1, m2, m3⟩ := cells4 HB0.out
        obtain ⟨x0, x1, x2, x3⟩ := cells4 HB1.out
        go_wp2_with (first | (go_at_call 50; (with_reducible refine (HVT.out _).mono ?_); rintro e w1 ⟨rfl, rfl⟩) | (go_at_call 51; (with_reducible refine (HCO.out _ HU0.out).mono ?_); rintro e w1 ⟨rfl, rfl⟩))
        go_ret
        exact ⟨ret_bool (by rfl), HU0.out⟩
    · have d1 : decide (0 ≤ i1) = false := decide_eq_false h1
      have HD : Hid ((true && decide (0 ≤ i1) && decide (i1 < nx) && bh) = false) := Lib.hid (by rw [d1]; simp)
      rw [HD.out]
      clear HD
      go_enter Try.func42, Try.ntmps42
      go_upto_region 1 with (fail)
      generalize (w.alloc (.cells #[.int .i64 cap, .slice ea n ec, .int .i64 nx, .slice ia q ic] 25)).alloc (.cells #[.int .i64 i0, .int .i64 i1, .int .i64 i2, .bool i3] 49) = W at *
      generalize w.heap.size = P at *
      obtain ⟨m0, m1, m2, m3⟩ := cells4 HB0.out
      obtain ⟨x0, x1, x2, x3⟩ := cells4 HB1.out
      go_wp2_with (first | (go_at_call 50; (with_reducible refine (HVT.out _).mono ?_); rintro e w1 ⟨rfl, rfl⟩) | (go_at_call 51; (with_reducible refine (HCO.out _ HU0.out).mono ?_); rintro e w1 ⟨rfl, rfl⟩))
      go_ret
      exact ⟨ret_bool (by rfl), HU0.out⟩
set_option maxRecDepth 100000 in
set_option maxHeartbeats 2000000 in
theorem VEnt1_has (B : Nat) (m : MdR) (x : En) (w : World) (hm : HasM w m) (hi : m.is.l.length ≤ 1000000) (hB : w.heap[B]? = some (.cells (cellsM m) 25 (0, 0))) :
    Calls Try.prog 41 #[aggE x, .pointer (some ⟨B, 0, none⟩)] w fun e w' => e = .returned (.bool (entB m.nx m.is.l x)) ∧ Upd [] w w' := by
  have HPE := Lib.hid (fun W (hu : Upd [] w W) => PEnt_has m x W (hm.stay hu) hi)
  generalize entB m.nx m.is.l x = r at *
  obtain ⟨cap, ⟨es, ea, ec⟩, nx, ⟨is, ia, ic⟩⟩ := m
  obtain ⟨i0, i1, i2, i3⟩ := x
  unfold cellsM at hB
  unfold encM cellsM aggE at HPE
  unfold aggE
  simp only at HPE hB ⊢
  generalize es.length = n at *
  generalize is.length = q at *
  clear hm hi
  go_enter Try.func41, Try.ntmps41
  go_upto_region 1 with (fail)
  have hu := (Upd.refl [] w).alloc (.cells #[.int .i64 i0, .int .i64 i1, .int .i64 i2, .bool i3] 49)
  have b0 := heap_alloc1 w (.cells #[.int .i64 i0, .int .i64 i1, .int .i64 i2, .bool i3] 49)
  have hb := hu.at hB (by simp)
  generalize w.alloc (.cells #[.int .i64 i0, .int .i64 i1, .int .i64 i2, .bool i3] 49) = W at *
  generalize w.heap.size = P at *
  obtain ⟨c0, c1, c2, c3⟩ := cells4 b0
  obtain ⟨m0, m1, m2, m3⟩ := cells4 hb
  have HU := Lib.hid hu
  clear hu b0 hb hB
  go_wp2_with (go_at_call 42; (with_reducible refine (HPE.out _ HU.out).mono ?_); rintro e w1 ⟨rfl, hu1⟩; have HU1 := Lib.hid (HU.out.thn hu1); clear hu1)
  go_ret
  exact ⟨rfl, HU1.out⟩
set_option maxRecDepth 100000 in
set_option maxHeartbeats 2000000 in
theorem AllE1_has (A : Nat) (B : Addr) (p : En → Bool) (x : En) (w : World) (hA : w.cell? ⟨A, 0, none⟩ = some (.func (.func 41) #[] #[.pointer (some B)])) (hp : ∀ W, Upd [] w W → Calls Try.prog 41 #[aggE x, .pointer (some B)] W fun e w' => e = .returned (.bool (p x)) ∧ Upd [] W w') :
    Calls Try.prog 59 #[aggE x, .pointer (some ⟨A, 0, none⟩)] w fun e w' => e = .returned (.bool (!p x)) ∧ Upd [] w w' := by
  have HP := Lib.hid hp
  generalize p x = r at *
  obtain ⟨i0, i1, i2, i3⟩ := x
  simp only [aggE_eq] at HP ⊢
  clear hp
  have eg : ∀ args w, (callFunc 41 args).run Try.prog w = .ok (.enter 41 args) w := enters_of Try.func41 (by kernel_rfl) rfl
  go_enter Try.func59, Try.ntmps59
  go_upto_region 1 with (fail)
  have hu := (Upd.refl [] w).alloc (.cells #[.int .i64 i0, .int .i64 i1, .int .i64 i2, .bool i3] 49)
  have b0 := heap_alloc1 w (.cells #[.int .i64 i0, .int .i64 i1, .int .i64 i2, .bool i3] 49)
  have hb := hu.cell hA (by simp)
  generalize w.alloc (.cells #[.int .i64 i0, .int .i64 i1, .int .i64 i2, .bool i3] 49) = W at *
  generalize w.heap.size = P at *
  obtain ⟨c0, c1, c2, c3⟩ := cells4 b0
  have HU := Lib.hid hu
  clear hu b0 hA
  go_wp2_with (go_at_call 41; (with_reducible refine (HP.out _ HU.out).mono ?_); rintro e w1 ⟨rfl, hu1⟩; have HU1 := Lib.hid (HU.out.thn hu1); clear hu1)
  go_ret
  exact ⟨rfl, HU1.out⟩
set_option maxRecDepth 100000 in
set_option maxHeartbeats 2000000 in
theorem IndexE_has (a : Option Addr) (c : Nat) (l : List En) (A : Addr) (p : En → Bool) (w : World) (hr : Row LE w a l) (hl : l.length ≤ 1000000) (hc : ∀ x W, Upd [] w W → Calls Try.prog 59 #[aggE x, .pointer (some A)] W fun e w' => e = .returned (.bool (p x)) ∧ Upd [] W w') :
    Calls Try.prog 54 #[.slice a l.length c, .func (.func 59) #[] #[.pointer (some A)]] w fun e w' => (∃ i : Int, e = .returned (.int .i64 i) ∧ FirstAt p l i) ∧ Upd [] w w' := by
  have HR := Lib.hid hr
  have HC := Lib.hid hc
  have H1 : Hid (∀ k (hk : k < l.length), (∀ j (hj : j < k) (h : j < l.length), p l[j] = false) → p l[k] = true → FirstAt p l k) := fun k hk h0 h1 => .inl ⟨k, hk, rfl, h1, fun j hj => h0 j hj (by omega)⟩
  have H2 : Hid ((∀ j (hj : j < l.length), p l[j] = false) → FirstAt p l (-1)) := fun h => .inr ⟨rfl, fun x hx => by
    obtain ⟨j, hj, rfl⟩ := List.mem_iff_getElem.1 hx
    exact h j hj⟩
  obtain ⟨n, hn⟩ : ∃ n, n = l.length := ⟨_, rfl⟩
  have HN := Lib.hid hn
  rw [← hn] at hl ⊢
  clear hr hn hc
  have eg : ∀ args w, (callFunc 59 args).run Try.prog w = .ok (.enter 59 args) w := enters_of Try.func59 (by kernel_rfl) rfl
  go_enter Try.func54, Try.ntmps54
  go_wp2_with fail
  go_loopg [8] n (fun gk vi wr => ∃ k : Nat, vi = .int .i64 k ∧ k + gk = n ∧ Hid (Upd [] w wr) ∧ Hid (∀ j (hj : j < k) (h : j < l.length), p l[j] = false))
  case atStart => exact ⟨0, rfl, by omega, Upd.refl _ _, fun j hj => by omega⟩
  case round =>
    obtain ⟨k, rfl, hkg, HU, HF⟩ := hrel
    by_cases hlt : k < n
    · have hltz : (k : Int) < (n : Int) := by omega
      have hk1 : k < l.length := by have := HN.out; omega
      obtain ⟨b, off, hbo, x0, x1, x2, x3⟩ := (HR.out.stay HU.out).ent k hk1
      subst hbo
      have HCK := Lib.hid (HC.out l[k] wr HU.out)
      have HH1 := Lib.hid (H1.out k hk1)
      have HNX : Hid (p l[k] = false → ∀ j (hj : j < k + 1) (h : j < l.length), p l[j] = false) := fun he j hj h => by
        by_cases e : j = k
        · subst e; exact he
        · exact HF.out j (by omega) h
      simp only [aggE_eq] at HCK
      generalize p l[k] = bb at *
      generalize l[k].t = y0 at *
      generalize l[k].q = y1 at *
      generalize l[k].h = y2 at *
      generalize l[k].d = y3 at *
      cases bb with
      | true =>
        go_wp2_with (go_at_call 59; go_loud ((with_reducible refine HCK.out.mono ?_); rintro e w1 ⟨rfl, hu1⟩; have HU1 := Lib.hid (HU.out.thn hu1); clear hu1))
        go_ret
        exact ⟨⟨(k : Int), rfl, HH1.out HF.out (by first | rfl | trivial)⟩, HU1.out⟩
      | false =>
        go_wp2_with (go_at_call 59; go_loud ((with_reducible refine HCK.out.mono ?_); rintro e w1 ⟨rfl, hu1⟩; have HU1 := Lib.hid (HU.out.thn hu1); clear hu1))
        go_roundg (gk - 1)
        case measure => omega
        case rel => exact ⟨k + 1, by go_num, by omega, HU1, HNX.out (by first | rfl | trivial)⟩
    · have hltz : ¬ (k : Int) < (n : Int) := by omega
      have HE := Lib.hid (H2.out (fun j hj => HF.out j (by have := HN.out; omega) hj))
      go_wp2_with fail
      go_ret
      exact ⟨⟨-1, rfl, HE.out⟩, HU.out⟩
set_option maxRecDepth 100000 in
set_option maxHeartbeats 2000000 in
theorem ContE_has (a : Option Addr) (c : Nat) (l : List En) (A : Addr) (p : En → Bool) (w : World) (hr : Row LE w a l) (hl : l.length ≤ 1000000) (hc : ∀ x W, Upd [] w W → Calls Try.prog 59 #[aggE x, .pointer (some A)] W fun e w' => e = .returned (.bool (p x)) ∧ Upd [] W w') :
    Calls Try.prog 58 #[.slice a l.length c, .func (.func 59) #[] #[.pointer (some A)]] w fun e w' => e = .returned (.bool (l.any p)) ∧ Upd [] w w' := by
  have HC := Lib.hid (IndexE_has a c l A p w hr hl hc)
  have HANY : Hid (∀ i, FirstAt p l i → decide (0 ≤ i) = l.any p) := fun i h => h.any
  generalize l.any p = r at *
  generalize l.length = n at *
  clear hr hc
  go_enter Try.func58, Try.ntmps58
  go_wp2_with (go_at_call 54; (with_reducible refine HC.out.mono ?_); rintro e w1 ⟨⟨i, rfl, hfi⟩, hu1⟩; have hd := HANY.out i hfi; have HU1 := Lib.hid hu1; clear hu1 hfi)
  go_ret
  exact ⟨ret_bool (by first | rfl | exact hd), HU1.out⟩
set_option maxRecDepth 100000 in
set_option maxHeartbeats 2000000 in
theorem AllE_has (a : Option Addr) (c : Nat) (l : List En) (B : Addr) (p : En → Bool) (w : World) (hr : Row LE w a l) (hl : l.length ≤ 1000000) (hp : ∀ x W, Upd [] w W → Calls Try.prog 41 #[aggE x, .pointer (some B)] W fun e w' => e = .returned (.bool (p x)) ∧ Upd [] W w') :
    Calls Try.prog 40 #[.slice a l.length c, .func (.func 41) #[] #[.pointer (some B)]] w fun e w' => e = .returned (.bool (l.all p)) ∧ Upd [] w w' := by
  have HC := Lib.hid (fun A W (hu : Upd [] w W) (hA : W.cell? ⟨A, 0, none⟩ = some (.func (.func 41) #[] #[.pointer (some B)])) => ContE_has a c l ⟨A, 0, none⟩ (fun x => !p x) W (hr.stay hu) hl (fun x W2 hu2 => AllE1_has A B p x W2 (hu2.cell hA (by simp)) (fun W3 hu3 => hp x W3 (hu.thn (hu2.thn hu3)))))
  rw [← all_not]
  generalize l.any (fun x => !p x) = r at *
  generalize l.length = n at *
  clear hr hp
  go_enter Try.func40, Try.ntmps40
  go_upto_region 1 with (fail)
  have hu := (Upd.refl [] w).alloc (.cells #[.func (.func 41) #[] #[.pointer (some B)]] 70)
  have b0 := heap_alloc1 w (.cells #[.func (.func 41) #[] #[.pointer (some B)]] 70)
  have hc := HC.out w.heap.size _ hu (by rw [cell_block b0]; rfl)
  generalize w.alloc (.cells #[.func (.func 41) #[] #[.pointer (some B)]] 70) = W at *
  generalize w.heap.size = P at *
  have HC2 := Lib.hid hc; have HU := Lib.hid hu
  clear hc hu b0 HC
  go_wp2_with (go_at_call 58; (with_reducible refine HC2.out.mono ?_); rintro e w1 ⟨rfl, hu1⟩; have HU1 := Lib.hid (HU.out.thn hu1); clear hu1)
  go_ret
  exact ⟨rfl, HU1.out⟩
end Go.Proofs.Ytpneljhplbkdkaa
