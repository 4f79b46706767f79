/- Contracts: the three closures. -/
import Derived.Test.YthpofcomlidoiaaDL
import Derived.Shelf.Abstract
namespace Go.Proofs.Ythpofcomlidoiaa
open Go.RowKit Go.Lib

theorem allocF_enter : ∀ args w, (callFunc 36 args).run Try.prog w = .ok (.enter 36 args) w := Go.Proofs.enters_of Try.func36 (by kernel_rfl) rfl
theorem transF_enter : ∀ args w, (callFunc 41 args).run Try.prog w = .ok (.enter 41 args) w := Go.Proofs.enters_of Try.func41 (by kernel_rfl) rfl
theorem relF_enter : ∀ args w, (callFunc 44 args).run Try.prog w = .ok (.enter 44 args) w := Go.Proofs.enters_of Try.func44 (by kernel_rfl) rfl

set_option maxHeartbeats 1000000 in
theorem allocF_any (s : Sl) (t nx : Int) (bt ba : Nat) (w : World) (ht : w.cell? ⟨bt, 0, none⟩ = some (.int .i64 t)) (hx : w.cell? ⟨ba, 2, none⟩ = some (.int .i64 nx)) :
    Calls Try.prog 36 #[aggS s, .pointer (some ⟨bt, 0, none⟩), .pointer (some ⟨ba, 0, none⟩)] w fun e w' => e = .returned (.tuple #[aggS ⟨s.g, 1, t, nx⟩, .bool true]) ∧ Upd [] w w' := by
  unfold aggS
  go_enter Try.func36, Try.ntmps36
  go_upto_region 1 with (fail)
  generalize hA : (Obj.cells #[.int .i64 s.g, .int .i64 s.s, .int .i64 s.t, .int .i64 s.q] 44 : Obj) = A
  generalize hB : (Obj.cells #[.int .i64 0, .int .i64 0, .int .i64 0, .int .i64 0] 44 : Obj) = B
  obtain ⟨hu, b0, b1, hsz⟩ := two_boxes w A B
  have e1 := hu.cell ht (by simp)
  have e2 := hu.cell hx (by simp)
  generalize (w.alloc A).alloc B = W at *
  generalize hH : w.heap.size = H at *
  rw [← hA] at b0
  rw [← hB] at b1
  have HU := Lib.hid hu; have HB1 := Lib.hid b1; have HH := Lib.hid hH
  obtain ⟨c0, c1, c2, c3⟩ := cells4 b0
  obtain ⟨d0, d1, d2, d3⟩ := cells4 b1
  obtain ⟨z0, z1, z2, z3⟩ := free4 b1
  clear hu hA hB b0 b1 hH hsz ht hx
  go_wp2_with fail
  have p1 := stored4 HB1.out (.int .i64 s.g) (.int .i64 1) (.int .i64 t) (.int .i64 nx)
  have hU5 := upd_sets4 W (H + 1) (.int .i64 s.g) (.int .i64 1) (.int .i64 t) (.int .i64 nx)
  generalize ((((W.setCell ⟨H + 1, 0, none⟩ (.int .i64 s.g)).setCell ⟨H + 1, 1, none⟩ (.int .i64 1)).setCell ⟨H + 1, 2, none⟩ (.int .i64 t)).setCell ⟨H + 1, 3, none⟩ (.int .i64 nx)) = w4 at p1 hU5 ⊢
  obtain ⟨r0, r1, r2, r3⟩ := cells4 p1
  have hh := HH.out
  exact bodyPost_ret (v := .tuple #[.agg #[.int .i64 s.g, .int .i64 1, .int .i64 t, .int .i64 nx], .bool true]) (by simp [results, Try.results36, go_sem, r0, r1, r2, r3]) rfl ⟨rfl, HU.out.trans hU5 (fun x hx hl => by simp at hx; omega)⟩

set_option maxHeartbeats 1000000 in
theorem relF_any (s : Sl) (hg : -1000000 ≤ s.g ∧ s.g ≤ 1099511627776) (w : World) :
    Calls Try.prog 44 #[aggS s] w fun e w' => e = .returned (.tuple #[aggS (freeS s), .bool (decide (s.g < 1099511627776))]) ∧ Upd [] w w' := by
  unfold aggS freeS
  have hwr : IntKind.i64.wrap (s.g + 1) = s.g + 1 := by rw [IntKind.wrap_i64]; omega
  generalize hd : decide (s.g < 1099511627776) = d
  have HD := Lib.hid hd
  go_enter Try.func44, Try.ntmps44
  go_upto_region 1 with (fail)
  generalize hA : (Obj.cells #[.int .i64 s.g, .int .i64 s.s, .int .i64 s.t, .int .i64 s.q] 44 : Obj) = A
  generalize hB : (Obj.cells #[.int .i64 0, .int .i64 0, .int .i64 0, .int .i64 0] 44 : Obj) = B
  obtain ⟨hu, b0, b1, hsz⟩ := two_boxes w A B
  generalize (w.alloc A).alloc B = W at *
  generalize hH : w.heap.size = H at *
  rw [← hA] at b0
  rw [← hB] at b1
  have HU := Lib.hid hu; have HB1 := Lib.hid b1; have HH := Lib.hid hH
  obtain ⟨c0, c1, c2, c3⟩ := cells4 b0
  obtain ⟨d0, d1, d2, d3⟩ := cells4 b1
  obtain ⟨z0, z1, z2, z3⟩ := free4 b1
  have HKP : Hid (∀ W', Upd [H + 1] W W' → W'.cell? ⟨H, 0, none⟩ = some (.int .i64 s.g)) := fun W' hu => hu.cell c0 (by simp)
  clear hu hA hB b0 b1 hH hsz
  go_region_held3 (fun wz => wz.cell? ⟨H, 0, none⟩ = some (.int .i64 s.g)) (first | exact c0 | (refine HKP.out _ ?_; (repeat (first | exact Upd.refl _ _ | refine Upd.drew ?_ | refine Upd.setCell ?_ (by simp) _)))) (fail)
  have p1 : (((((W.setCell ⟨H + 1, 0, none⟩ (.int .i64 (s.g + 1))).setCell ⟨H + 1, 1, none⟩ (.int .i64 0)).setCell ⟨H + 1, 2, none⟩ (.int .i64 0)).setCell ⟨H + 1, 3, none⟩ (.int .i64 0)).drew).heap[H + 1]? = _ := stored4 HB1.out (.int .i64 (s.g + 1)) (.int .i64 0) (.int .i64 0) (.int .i64 0)
  have hU5 := (upd_sets4 W (H + 1) (.int .i64 (s.g + 1)) (.int .i64 0) (.int .i64 0) (.int .i64 0)).drew
  generalize (((((W.setCell ⟨H + 1, 0, none⟩ (.int .i64 (s.g + 1))).setCell ⟨H + 1, 1, none⟩ (.int .i64 0)).setCell ⟨H + 1, 2, none⟩ (.int .i64 0)).setCell ⟨H + 1, 3, none⟩ (.int .i64 0)).drew) = w4 at *
  obtain ⟨r0, r1, r2, r3⟩ := cells4 p1
  have hh := HH.out
  clear hwr hd
  go_wp2_with fail
  exact bodyPost_ret (v := .tuple #[.agg #[.int .i64 (s.g + 1), .int .i64 0, .int .i64 0, .int .i64 0], .bool d]) (by simp [results, Try.results44, go_sem, r0, r1, r2, r3]) rfl ⟨rfl, HU.out.trans hU5 (fun x hx hl => by simp at hx; omega)⟩

def moveB (s : Sl) (f t : Int) : Bool := decide (s.s = f) && liveB t
set_option maxHeartbeats 2000000 in
theorem transF_any (s : Sl) (f t : Int) (bf bt : Nat) (w : World) (hf : w.cell? ⟨bf, 0, none⟩ = some (.int .i64 f)) (ht : w.cell? ⟨bt, 0, none⟩ = some (.int .i64 t)) :
    Calls Try.prog 41 #[aggS s, .pointer (some ⟨bf, 0, none⟩), .pointer (some ⟨bt, 0, none⟩)] w fun e w' => e = .returned (.tuple #[aggS (moveS s t), .bool (moveB s f t)]) ∧ Upd [] w w' := by
  have HLV := Lib.hid (isLive_any t)
  unfold aggS moveS
  obtain ⟨m, hm⟩ : ∃ m, m = moveB s f t := ⟨_, rfl⟩
  rw [← hm]
  have HM := Lib.hid hm
  clear hm
  go_enter Try.func41, Try.ntmps41
  go_upto_region 1 with (fail)
  generalize hA : (Obj.cells #[.int .i64 s.g, .int .i64 s.s, .int .i64 s.t, .int .i64 s.q] 44 : Obj) = A
  generalize hB : (Obj.cells #[.int .i64 0, .int .i64 0, .int .i64 0, .int .i64 0] 44 : Obj) = B
  obtain ⟨hu, b0, b1, hsz⟩ := two_boxes w A B
  have e1 := hu.cell hf (by simp)
  have e2 := hu.cell ht (by simp)
  have hlf := World.block_lt_of_cell? w _ hf
  have hlt := World.block_lt_of_cell? w _ ht
  generalize (w.alloc A).alloc B = W at *
  generalize hH : w.heap.size = H at *
  rw [← hA] at b0
  rw [← hB] at b1
  simp only at hlf hlt
  have HU := Lib.hid hu; have HB0 := Lib.hid b0; have HB1 := Lib.hid b1; have HH := Lib.hid hH
  obtain ⟨c0, c1, c2, c3⟩ := cells4 b0
  obtain ⟨z0, z1, z2, z3⟩ := free4 b0
  clear hu hA hB b0 b1 hH hsz hf ht
  go_upto_region 3 with (fail)
  have b0 : (W.setCell ⟨H, 1, none⟩ (.int .i64 t)).heap[H]? = some (.cells #[.int .i64 s.g, .int .i64 t, .int .i64 s.t, .int .i64 s.q] 44 (0, 0)) := setCell_block HB0.out _
  have hu2 := (Upd.refl [H] W).setCell (p := ⟨H, 1, none⟩) (fun _ => by simp) (.int .i64 t)
  have k2 := hu2.cell e2 (by simp; omega)
  have b1 := hu2.at HB1.out (by simp)
  generalize W.setCell ⟨H, 1, none⟩ (.int .i64 t) = W2 at *
  have HB12 := Lib.hid b1; have HU2 := Lib.hid hu2
  clear c0 c1 c2 c3 z0 z1 z2 z3 e1 e2
  obtain ⟨c0, c1, c2, c3⟩ := cells4 b0
  obtain ⟨d0, d1, d2, d3⟩ := cells4 b1
  obtain ⟨z0, z1, z2, z3⟩ := free4 b1
  have hh := HH.out
  have HKP : Hid (∀ W', Upd [H + 1] W2 W' → W'.cell? ⟨H, 0, none⟩ = some (.int .i64 s.g) ∧ W'.cell? ⟨H, 1, none⟩ = some (.int .i64 t) ∧ W'.cell? ⟨H, 2, none⟩ = some (.int .i64 s.t) ∧ W'.cell? ⟨H, 3, none⟩ = some (.int .i64 s.q) ∧ W'.cell? ⟨bt, 0, none⟩ = some (.int .i64 t)) := fun W' hu => ⟨hu.cell c0 (by simp), hu.cell c1 (by simp), hu.cell c2 (by simp), hu.cell c3 (by simp), hu.cell k2 (by simp; omega)⟩
  clear b0 b1 hu2
  by_cases hs : s.s = f
  · have hsz : (s.s == f) = true := by simpa using hs
    have hme : liveB t = m := by rw [HM.out, moveB]; simp [hs]
    rw [hme] at HLV
    clear hs hme
    rw [hsz]
    go_region_held3 (fun wz => wz.cell? ⟨H, 0, none⟩ = some (.int .i64 s.g) ∧ wz.cell? ⟨H, 1, none⟩ = some (.int .i64 t) ∧ wz.cell? ⟨H, 2, none⟩ = some (.int .i64 s.t) ∧ wz.cell? ⟨H, 3, none⟩ = some (.int .i64 s.q) ∧ wz.cell? ⟨bt, 0, none⟩ = some (.int .i64 t)) (first | exact ⟨c0, c1, c2, c3, k2⟩ | (refine HKP.out _ ?_; (repeat (first | exact Upd.refl _ _ | refine Upd.drew ?_ | refine Upd.setCell ?_ (by simp) _)))) (first | (go_at_call 42; refine (HLV.out _).mono ?_; rintro e w' ⟨rfl, rfl⟩))
    have p1 : (((((W2.setCell ⟨H + 1, 0, none⟩ (.int .i64 s.g)).setCell ⟨H + 1, 1, none⟩ (.int .i64 t)).setCell ⟨H + 1, 2, none⟩ (.int .i64 s.t)).setCell ⟨H + 1, 3, none⟩ (.int .i64 s.q)).drew).heap[H + 1]? = _ := stored4 HB12.out (.int .i64 s.g) (.int .i64 t) (.int .i64 s.t) (.int .i64 s.q)
    have hU5 := (upd_sets4 W2 (H + 1) (.int .i64 s.g) (.int .i64 t) (.int .i64 s.t) (.int .i64 s.q)).drew
    generalize (((((W2.setCell ⟨H + 1, 0, none⟩ (.int .i64 s.g)).setCell ⟨H + 1, 1, none⟩ (.int .i64 t)).setCell ⟨H + 1, 2, none⟩ (.int .i64 s.t)).setCell ⟨H + 1, 3, none⟩ (.int .i64 s.q)).drew) = w4 at *
    obtain ⟨r0, r1, r2, r3⟩ := cells4 p1
    go_wp2_with fail
    exact bodyPost_ret (v := .tuple #[.agg #[.int .i64 s.g, .int .i64 t, .int .i64 s.t, .int .i64 s.q], .bool m]) (by simp [results, Try.results41, go_sem, r0, r1, r2, r3]) rfl ⟨rfl, (HU.out.trans HU2.out (fun x hx hl => by simp at hx; omega)).trans hU5 (fun x hx hl => by simp at hx; omega)⟩
  · have hsz : (s.s == f) = false := by simpa using hs
    have hme : m = false := by rw [HM.out, moveB]; simp [hs]
    subst hme
    clear hs
    rw [hsz]
    go_region
    have p1 : (((((W2.setCell ⟨H + 1, 0, none⟩ (.int .i64 s.g)).setCell ⟨H + 1, 1, none⟩ (.int .i64 t)).setCell ⟨H + 1, 2, none⟩ (.int .i64 s.t)).setCell ⟨H + 1, 3, none⟩ (.int .i64 s.q)).drew).heap[H + 1]? = _ := stored4 HB12.out (.int .i64 s.g) (.int .i64 t) (.int .i64 s.t) (.int .i64 s.q)
    have hU5 := (upd_sets4 W2 (H + 1) (.int .i64 s.g) (.int .i64 t) (.int .i64 s.t) (.int .i64 s.q)).drew
    generalize (((((W2.setCell ⟨H + 1, 0, none⟩ (.int .i64 s.g)).setCell ⟨H + 1, 1, none⟩ (.int .i64 t)).setCell ⟨H + 1, 2, none⟩ (.int .i64 s.t)).setCell ⟨H + 1, 3, none⟩ (.int .i64 s.q)).drew) = w4 at *
    obtain ⟨r0, r1, r2, r3⟩ := cells4 p1
    go_wp2_with fail
    exact bodyPost_ret (v := .tuple #[.agg #[.int .i64 s.g, .int .i64 t, .int .i64 s.t, .int .i64 s.q], .bool false]) (by simp [results, Try.results41, go_sem, r0, r1, r2, r3]) rfl ⟨rfl, (HU.out.trans HU2.out (fun x hx hl => by simp at hx; omega)).trans hU5 (fun x hx hl => by simp at hx; omega)⟩
end Go.Proofs.Ythpofcomlidoiaa
