/- Contracts: the program's small functions: divide, Index, Start, start, Current, End, New; slices.Clone of items. -/
import Derived.Test.YtneodiemgemhfaaNA
namespace Go.Proofs.Ytneodiemgemhfaa
open Go.RowKit Go.Lib

theorem div_bd {a b : Int} (ha : 0 ≤ a) (hb : 1 ≤ b) : 0 ≤ a / b ∧ a / b ≤ a :=
  ⟨Int.ediv_nonneg ha (by omega), Int.ediv_le_self _ ha⟩
theorem mod_bd {a b : Int} (hb : 1 ≤ b) : 0 ≤ a % b ∧ a % b < b :=
  ⟨Int.emod_nonneg _ (by omega), Int.emod_lt_of_pos _ (by omega)⟩

set_option maxRecDepth 100000 in
set_option maxHeartbeats 1000000 in
theorem divide_down (a b : Int) (ha : 0 ≤ a ∧ a ≤ 4611686018427387904) (hb : 1 ≤ b ∧ b ≤ 4611686018427387904) (w : World) :
    Calls Try.prog 48 #[.int .i64 a, .int .i64 b, .bool false] w fun e w' => e = .returned (.int .i64 (a / b)) ∧ Upd [] w w' := by
  have hd : a.tdiv b = a / b := Int.tdiv_eq_ediv_of_nonneg ha.1
  have hm : a.tmod b = a % b := Int.tmod_eq_emod_of_nonneg ha.1
  have b1 := div_bd ha.1 hb.1
  have b2 := mod_bd (a := a) hb.1
  have hz : (b == 0) = false := by simp; omega
  have hz2 : decide (b ≤ 0) = false := by simp; omega
  have hn : decide (a % b < 0) = false := by simp; omega
  have hw1 : IntKind.i64.wrap (a / b) = a / b := by rw [IntKind.wrap_i64]; omega
  have hw2 : IntKind.i64.wrap (a % b) = a % b := by rw [IntKind.wrap_i64]; omega
  generalize a / b = q at *
  generalize a % b = r at *
  go_enter Try.func48, Try.ntmps48
  go_wp2_with fail
  go_quiet (fail)
  go_wp2_with fail
  go_ret
  exact ⟨rfl, (Upd.refl [] _).drewN _⟩

set_option maxRecDepth 100000 in
set_option maxHeartbeats 400000 in
theorem Index_in (f n t : Int) (hf : 0 ≤ f) (h : f ≤ t) (ht : t ≤ 4611686018427387904) (hn : 1 ≤ n ∧ n ≤ 4611686018427387904) (w : World) :
    Calls Try.prog 33 #[.int .i64 f, .int .i64 n, .int .i64 t] w fun e w' => e = .returned (.int .i64 ((t - f) / n)) ∧ Upd [] w w' := by
  have hs : IntKind.i64.wrap (t - f) = t - f := by rw [IntKind.wrap_i64]; omega
  have E1 := Lib.hid (divide_down (t - f) n (by omega) hn)
  go_enter Try.func33, Try.ntmps33
  go_wp2_with fail
  refine (E1.out _).mono ?_
  rintro e w' ⟨rfl, hu⟩
  go_wp2_with fail
  go_ret
  exact ⟨rfl, hu⟩
set_option maxRecDepth 100000 in
set_option maxHeartbeats 400000 in
theorem Start_in (f n i : Int) (hf : 0 ≤ f ∧ f ≤ 1152921504606846976) (hp : 0 ≤ i * n ∧ i * n ≤ 4611686018427387904) (w : World) :
    Calls Try.prog 46 #[.int .i64 f, .int .i64 n, .int .i64 i] w fun e w' => e = .returned (.int .i64 (f + i * n)) ∧ Upd [] w w' := by
  have hs : IntKind.i64.wrap (i * n) = i * n := by rw [IntKind.wrap_i64]; omega
  have ht : IntKind.i64.wrap (f + i * n) = f + i * n := by rw [IntKind.wrap_i64]; omega
  go_enter Try.func46, Try.ntmps46
  go_wp2_with fail
  go_ret
  exact ⟨rfl, Upd.refl [] _⟩

set_option maxRecDepth 100000 in
set_option maxHeartbeats 400000 in
theorem start_has (r : RgR) (i : Int) (w : World) (hf : 0 ≤ r.fr ∧ r.fr ≤ 1152921504606846976) (hp : 0 ≤ i * r.wd ∧ i * r.wd ≤ 4611686018427387904) :
    Calls Try.prog 30 #[encR r, .int .i64 i] w fun e w' => e = .returned (.int .i64 (r.fr + i * r.wd)) ∧ Upd [] w w' := by
  have E1 := Lib.hid (Start_in r.fr r.wd i hf hp)
  obtain ⟨fr, wd, cu, bl, ba, bc⟩ := r
  unfold encR
  simp only at E1 ⊢
  generalize bl.length = n
  clear hf hp
  go_enter Try.func30, Try.ntmps30
  go_upto_region 1 with (fail)
  have hu := (Upd.refl [] w).alloc (.cells #[.int .i64 fr, .int .i64 wd, .int .i64 cu, .slice ba n bc] 43)
  obtain ⟨c0, c1, c2, c3⟩ := cells4 (heap_alloc1 w (.cells #[.int .i64 fr, .int .i64 wd, .int .i64 cu, .slice ba n bc] 43))
  generalize w.alloc (.cells #[.int .i64 fr, .int .i64 wd, .int .i64 cu, .slice ba n bc] 43) = W at *
  generalize w.heap.size = P at *
  go_wp2_with fail
  (with_reducible refine (E1.out _).mono ?_)
  rintro e w' ⟨rfl, hu2⟩
  go_wp2_with fail
  go_ret
  exact ⟨rfl, hu.thn hu2⟩
set_option maxRecDepth 100000 in
set_option maxHeartbeats 400000 in
theorem Current_has (r : RgR) (w : World) (hg : GoodR r.rg) :
    Calls Try.prog 14 #[encR r] w fun e w' => e = .returned (.int .i64 (curT r.rg)) ∧ Upd [] w w' := by
  have h1 := hg.prod hg.cu0 hg.cu1
  have h2 := hg.fr0; have h3 := hg.fr1; have h4 := hg.wd1; have h5 := hg.wd0
  simp only [RgR.rg] at h1 h2 h3 h4 h5
  have E1 := Lib.hid (fun W => start_has r r.cu W (by omega) (by omega))
  obtain ⟨fr, wd, cu, bl, ba, bc⟩ := r
  unfold encR at E1 ⊢
  unfold curT
  simp only [RgR.rg] at E1 ⊢
  generalize bl.length = n at *
  clear hg h1 h2 h3 h4 h5
  go_enter Try.func14, Try.ntmps14
  go_upto_region 1 with (fail)
  have hu := (Upd.refl [] w).alloc (.cells #[.int .i64 fr, .int .i64 wd, .int .i64 cu, .slice ba n bc] 43)
  obtain ⟨c0, c1, c2, c3⟩ := cells4 (heap_alloc1 w (.cells #[.int .i64 fr, .int .i64 wd, .int .i64 cu, .slice ba n bc] 43))
  generalize w.alloc (.cells #[.int .i64 fr, .int .i64 wd, .int .i64 cu, .slice ba n bc] 43) = W at *
  generalize w.heap.size = P at *
  go_wp2_with fail
  (with_reducible refine (E1.out _).mono ?_)
  rintro e w' ⟨rfl, hu2⟩
  go_wp2_with fail
  go_ret
  exact ⟨rfl, hu.thn hu2⟩
set_option maxRecDepth 100000 in
set_option maxHeartbeats 400000 in
theorem End_has (r : RgR) (w : World) (hg : GoodR r.rg) :
    Calls Try.prog 32 #[encR r] w fun e w' => e = .returned (.int .i64 (endT r.rg)) ∧ Upd [] w w' := by
  have h1 := hg.prod hg.cu0 hg.cu1
  have h2 := hg.fr0; have h3 := hg.fr1; have h4 := hg.wd1; have h5 := hg.wd0
  simp only [RgR.rg] at h1 h2 h3 h4 h5
  have E1 := Lib.hid (fun W => start_has r 8 W (by omega) (by omega))
  obtain ⟨fr, wd, cu, bl, ba, bc⟩ := r
  unfold encR at E1 ⊢
  unfold endT
  simp only [RgR.rg] at E1 ⊢
  generalize bl.length = n at *
  clear hg h1 h2 h3 h4 h5
  go_enter Try.func32, Try.ntmps32
  go_upto_region 1 with (fail)
  have hu := (Upd.refl [] w).alloc (.cells #[.int .i64 fr, .int .i64 wd, .int .i64 cu, .slice ba n bc] 43)
  obtain ⟨c0, c1, c2, c3⟩ := cells4 (heap_alloc1 w (.cells #[.int .i64 fr, .int .i64 wd, .int .i64 cu, .slice ba n bc] 43))
  generalize w.alloc (.cells #[.int .i64 fr, .int .i64 wd, .int .i64 cu, .slice ba n bc] 43) = W at *
  generalize w.heap.size = P at *
  go_wp2_with fail
  (with_reducible refine (E1.out _).mono ?_)
  rintro e w' ⟨rfl, hu2⟩
  go_wp2_with fail
  go_ret
  exact ⟨rfl, hu.thn hu2⟩
set_option maxRecDepth 100000 in
set_option maxHeartbeats 2000000 in
theorem New_has (f d : Int) (w : World) :
    Calls Try.prog 65 #[.int .i64 f, .int .i64 d] w fun e w' => ∃ r', e = .returned (encR r') ∧ Born w (newR f d) w' r' := by
  have hmk : ∀ w : World, (Instr.makeSlice 41 (.int .i64 8) (.int .i64 8)).run Try.prog w = .ok (.slice (some ⟨w.heap.size, 0, none⟩) 8 8) (w.alloc (.cells (List.replicate 8 (Value.slice none 0 0)).toArray 24)) := mkAny 41 24 (.slice none 0 0) 1 24 Try.underlying41 infoItems 8 (by decide) (by decide) _ (madeOne _ 8)
  generalize hX : (List.replicate 8 (Value.slice none 0 0)).toArray = X at hmk
  have HX := Lib.hid hX
  clear hX
  go_enter Try.func65, Try.ntmps65
  go_upto_region 1 with (fail)
  have b0 := heap_alloc1 w (.cells #[.int .i64 0, .int .i64 0, .int .i64 0, .slice none 0 0] 43)
  have hu := (Upd.refl [] w).alloc (.cells #[.int .i64 0, .int .i64 0, .int .i64 0, .slice none 0 0] 43)
  have hs0 : (w.alloc (.cells #[.int .i64 0, .int .i64 0, .int .i64 0, .slice none 0 0] 43)).heap.size = w.heap.size + 1 := by simp
  generalize w.alloc (.cells #[.int .i64 0, .int .i64 0, .int .i64 0, .slice none 0 0] 43) = W at *
  generalize hP : w.heap.size = P at *
  have b1 := heap_alloc1 W (.cells X 24)
  have hu1 := (Upd.refl [] W).alloc (.cells X 24)
  have b2 := hu1.at b0 (by simp)
  obtain ⟨c0, c1, c2, c3⟩ := cells4 b2
  obtain ⟨z0, z1, z2, z3⟩ := free4 b2
  have HB1 := Lib.hid b1; have HU1 := Lib.hid hu1; have HB2 := Lib.hid b2; have HU := Lib.hid hu; have HP := Lib.hid hP; have HS0 := Lib.hid hs0
  clear b0 b1 hu1 b2 hu hP hs0
  go_wp2_with fail
  clear c0 c1 c2 c3 z0 z1 z2 z3
  generalize W.alloc (.cells X 24) = W1 at *
  generalize W.heap.size = g at *
  have p2 := stored4 HB2.out (.int .i64 f) (.int .i64 d) (.int .i64 0) (.slice (some ⟨g, 0, none⟩) 8 8)
  have hU5 := upd_set4 W1 P (.int .i64 f) (.int .i64 d) (.int .i64 0) (.slice (some ⟨g, 0, none⟩) 8 8)
  generalize (((W1.setCell ⟨P, 0, none⟩ (.int .i64 f)).setCell ⟨P, 1, none⟩ (.int .i64 d)).setCell ⟨P, 2, none⟩ (.int .i64 0)).setCell ⟨P, 3, none⟩ (.slice (some ⟨g, 0, none⟩) 8 8) = w4 at p2 hU5 ⊢
  obtain ⟨r0, r1, r2, r3⟩ := cells4 p2
  have hp := HP.out
  have hs := HS0.out
  have b1 := HB1.out
  rw [← HX.out] at b1
  have hh := ((held_made b1).keep hU5 (by simp; omega)).has
  exact bodyPost_ret (v := .agg #[.int .i64 f, .int .i64 d, .int .i64 0, .slice (some ⟨g, 0, none⟩) 8 8]) (by simp [results, Try.results65, go_sem, r0, r1, r2, r3]) rfl
    ⟨⟨f, d, 0, ⟨List.replicate 8 nilB, some ⟨g, 0, none⟩, 8⟩⟩, rfl, rfl, ⟨hh, fun s hs => by rw [(List.mem_replicate.1 hs).2]; exact hasS_nil LI _⟩,
      fun b hb => ⟨fun _ a e => by obtain rfl := Option.some.inj e; simp only; omega, fun s hs => by rw [(List.mem_replicate.1 hs).2]; exact avS_nil b _ _⟩, (HU.out.thn HU1.out).new hU5 (by omega)⟩

set_option maxRecDepth 100000 in
set_option maxHeartbeats 2000000 in
theorem Clone_has (a : Option Addr) (c : Nat) (xs : List It) (w : World) (ha : Row LI w a xs) (hnl : a = none → c = 0) (hx : xs.length ≤ 1000000) :
    Calls Try.prog 27 #[.slice a xs.length c] w fun e w' => ∃ va vc, e = .returned (.slice va xs.length vc) ∧ w'.ownsRow w.heap.size 34 3 (.slice va xs.length vc) xs.length (LI.flat xs) ∧ Upd [] w w' := by
  have q22 : ∀ (w : World) (a : Option Addr) (n c n' c' : Nat), (binOp .eql 24 (.slice a n c) (.slice none n' c')).run Try.prog w = .ok (.bool a.isNone) w := fun w a n c n' c' => Lib.run_eql_slice_nil w _ _ a n c n' c' Try.underlying24
  have HA := Lib.hid ha
  clear ha
  cases a with
  | none =>
    have hn : xs = [] := row_none HA.out
    subst hn
    clear HA
    go_enter Try.func27, Try.ntmps27
    go_wp2_with fail
    go_ret
    exact ⟨_, _, rfl, World.ownsRow_nil _ _ _ _, Upd.refl _ _⟩
  | some ad =>
    obtain ⟨n, hn⟩ : ∃ n, n = xs.length := ⟨_, rfl⟩
    rw [← hn] at hx ⊢
    have HN := Lib.hid hn
    have HR := Lib.hid (HA.out.stay ((Upd.refl [] w).alloc (.cells #[] 34)))
    clear hn HA
    go_enter Try.func27, Try.ntmps27
    go_wp2_with (at_builtin; refine app_row tyI rfl _ _ rfl w.heap.size (.slice (some ⟨w.heap.size, 0, none⟩) 0 0) 0 [] rfl (World.ownsRow_made w #[] 0 (Nat.le_refl _) (Nat.zero_le _) (by simp)) (some ad) n c xs rfl HN.out HR.out (fun e => by simp at e) (by omega) (by simp) ?_; intro v' w1 hown hgrow)
    rw [Nat.zero_add, List.nil_append] at hown
    have HU : Hid (Upd [] w w1) := ((Upd.refl [] w).alloc _).grown hgrow (fun k hk hl => by simp [Value.ownBlock] at hk; omega)
    obtain ⟨va, vc, rfl⟩ := row_shape hown
    have HO := Lib.hid hown
    clear hown hgrow
    go_wp2_with fail
    go_ret
    exact ⟨va, vc, rfl, HO.out, HU.out⟩
end Go.Proofs.Ytneodiemgemhfaa
