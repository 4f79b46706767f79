/- Contracts of the inner methods of package shmem. -/
/- Contracts of the public methods of package shmem. -/
import Derived.Test.YtmfnfinbkdemkaaGreatM
namespace Go.Proofs.YtmfnfinbkdemkaaGreat
open Go.RowKit

set_option maxHeartbeats 400000 in
theorem getw_in (p o bw : Nat) (n k : Nat) (x : Int) (w : World) (hc : w.cell? ⟨p, o, none⟩ = some (.slice (some ⟨bw, 0, none⟩) n n)) (hk : k < n) (_hn : n ≤ 256)
    (hx : w.cell? ⟨bw, k, none⟩ = some (.int .i64 x)) :
    Calls Tryz.prog 78 #[.pointer (some ⟨p, o, none⟩), .int .i64 k] w fun e w' => e = .returned (.tuple #[.int .i64 x, .bool true]) ∧ w = w' := by
  go_enter Tryz.func78, Tryz.ntmps78
  go_wp2
  go_ret2
  exact ⟨rfl, rfl⟩

set_option maxHeartbeats 400000 in
theorem getw_out (p o : Nat) (a : Option Addr) (n : Nat) (k : Int) (w : World) (hc : w.cell? ⟨p, o, none⟩ = some (.slice a n n)) (hk : k < 0 ∨ (n : Int) ≤ k) (_hn : n ≤ 256) :
    Calls Tryz.prog 78 #[.pointer (some ⟨p, o, none⟩), .int .i64 k] w fun e w' => e = .returned (.tuple #[.int .i64 0, .bool false]) ∧ w = w' := by
  by_cases h0 : k < 0
  · go_enter Tryz.func78, Tryz.ntmps78
    go_wp2
    go_ret2
    exact ⟨rfl, rfl⟩
  · have h1 : (n : Int) ≤ k := by omega
    clear hk
    have h0' : decide (k < 0) = false := by simpa using h0
    go_enter Tryz.func78, Tryz.ntmps78
    go_wp2
    go_ret2
    exact ⟨rfl, rfl⟩

set_option maxHeartbeats 400000 in
theorem geto_in (p o bw : Nat) (n k : Nat) (h : Bool) (t : Int) (w : World) (hc : w.cell? ⟨p, o, none⟩ = some (.slice (some ⟨bw, 0, none⟩) n n)) (hk : k < n) (_hn : n ≤ 256)
    (hx : w.cell? ⟨bw, k * 2, none⟩ = some (.bool h)) (hy : w.cell? ⟨bw, k * 2 + 1, none⟩ = some (.int .i64 t)) :
    Calls Tryz.prog 86 #[.pointer (some ⟨p, o, none⟩), .int .i64 k] w fun e w' => e = .returned (.tuple #[.agg #[.bool h, .int .i64 t], .bool true]) ∧ Upd [] w w' := by
  have lp : p < w.heap.size := World.block_lt_of_cell? w _ hc
  have lb : bw < w.heap.size := World.block_lt_of_cell? w _ hx
  go_enter Tryz.func86, Tryz.ntmps86
  go_wp2
  exact bodyPost_ret (v := .tuple #[.agg #[.bool h, .int .i64 t], .bool true]) (by simp [results, Tryz.results86, go_sem]) rfl ⟨rfl, (Upd.refl _ _).alloc _⟩

set_option maxHeartbeats 400000 in
theorem geto_out (p o : Nat) (a : Option Addr) (n : Nat) (k : Int) (w : World) (hc : w.cell? ⟨p, o, none⟩ = some (.slice a n n)) (hk : k < 0 ∨ (n : Int) ≤ k) (_hn : n ≤ 256) :
    Calls Tryz.prog 86 #[.pointer (some ⟨p, o, none⟩), .int .i64 k] w fun e w' => e = .returned (.tuple #[.agg #[.bool false, .int .i64 0], .bool false]) ∧ Upd [] w w' := by
  have lp : p < w.heap.size := World.block_lt_of_cell? w _ hc
  by_cases h0 : k < 0
  · go_enter Tryz.func86, Tryz.ntmps86
    go_wp2
    exact bodyPost_ret (v := .tuple #[.agg #[.bool false, .int .i64 0], .bool false]) (by simp [results, Tryz.results86, go_sem]) rfl ⟨rfl, ((Upd.refl _ _).alloc _).alloc _⟩
  · have h1 : (n : Int) ≤ k := by omega
    clear hk
    have h0' : decide (k < 0) = false := by simpa using h0
    go_enter Tryz.func86, Tryz.ntmps86
    go_wp2
    exact bodyPost_ret (v := .tuple #[.agg #[.bool false, .int .i64 0], .bool false]) (by simp [results, Tryz.results86, go_sem]) rfl ⟨rfl, ((Upd.refl _ _).alloc _).alloc _⟩

set_option maxHeartbeats 400000 in
theorem replacew (p bw n k : Nat) (x y : Int) (w : World) (hc : w.cell? ⟨p, 1, none⟩ = some (.slice (some ⟨bw, 0, none⟩) n n)) (hk : k < n) (hx : w.cell? ⟨bw, k, none⟩ = some (.int .i64 x)) (hf : w.frozen? ⟨bw, k, none⟩ = false) :
    Calls Tryz.prog 90 #[.pointer (some ⟨p, 1, none⟩), .int .i64 k, .int .i64 y] w fun e w' => e = .returned (.int .i64 x) ∧ w' = w.setCell ⟨bw, k, none⟩ (.int .i64 y) := by
  go_enter Tryz.func90, Tryz.ntmps90
  go_wp2
  go_ret
  exact ⟨rfl, rfl⟩

set_option maxHeartbeats 400000 in
theorem replaceo (p bm n k : Nat) (h h' : Bool) (t t' : Int) (w : World) (hc : w.cell? ⟨p, 2, none⟩ = some (.slice (some ⟨bm, 0, none⟩) n n)) (hk : k < n)
    (hx : w.cell? ⟨bm, k * 2, none⟩ = some (.bool h)) (hy : w.cell? ⟨bm, k * 2 + 1, none⟩ = some (.int .i64 t)) (hf : w.frozen? ⟨bm, k * 2, none⟩ = false) (hf1 : w.frozen? ⟨bm, k * 2 + 1, none⟩ = false) :
    Calls Tryz.prog 87 #[.pointer (some ⟨p, 2, none⟩), .int .i64 k, .agg #[.bool h', .int .i64 t']] w fun e w' => e = .returned (.agg #[.bool h, .int .i64 t]) ∧
      Upd [] ((w.setCell ⟨bm, k * 2, none⟩ (.bool h')).setCell ⟨bm, k * 2 + 1, none⟩ (.int .i64 t')) w' := by
  have lp : p < w.heap.size := World.block_lt_of_cell? w _ hc
  have lb : bm < w.heap.size := World.block_lt_of_cell? w _ hx
  have lp1 : p < w.heap.size + 1 := by omega
  have lp2 : p < w.heap.size + 2 := by omega
  have lp3 : p < w.heap.size + 1 + 1 := by omega
  have lb1 : bm < w.heap.size + 1 := by omega
  have lb2 : bm < w.heap.size + 2 := by omega
  have lb3 : bm < w.heap.size + 1 + 1 := by omega
  go_enter Tryz.func87, Tryz.ntmps87
  go_wp2
  go_region
  all_goals go_wp2
  all_goals exact bodyPost_ret (v := .agg #[.bool h, .int .i64 t]) (by simp [results, Tryz.results87, go_sem]) rfl ⟨rfl, ((((Upd.refl _ _).alloc _).alloc _).alloc _).drew⟩

section
variable {F : List Nat} {p bw bm : Nat} {s : St} {w : World}

set_option maxHeartbeats 400000 in
theorem word_in (h : Mem F p bw bm s w) (hs : s.Small) (k : Nat) (hk : k < s.ws.length) :
    Calls Tryz.prog 52 #[.pointer (some ⟨p, 0, none⟩), .int .i64 k] w fun e w' => e = .returned (.tuple #[.int .i64 s.ws[k], .bool true]) ∧ w = w' := by
  obtain ⟨vl, c0, c1, c2, c3⟩ := h.cells
  have hx := h.word hk
  have hn := hs.ws
  go_enter Tryz.func52, Tryz.ntmps52
  go_wp2_with (go_at_call 78; refine (getw_in p 1 bw _ k _ _ c1 hk hn hx).mono ?_; rintro e w' ⟨rfl, rfl⟩)
  go_ret2
  exact ⟨rfl, rfl⟩
set_option maxHeartbeats 400000 in
theorem word_out (h : Mem F p bw bm s w) (hs : s.Small) (k : Int) (hk : k < 0 ∨ (s.ws.length : Int) ≤ k) :
    Calls Tryz.prog 52 #[.pointer (some ⟨p, 0, none⟩), .int .i64 k] w fun e w' => e = .returned (.tuple #[.int .i64 0, .bool false]) ∧ w = w' := by
  obtain ⟨vl, c0, c1, c2, c3⟩ := h.cells
  have hn := hs.ws
  go_enter Tryz.func52, Tryz.ntmps52
  go_wp2_with (go_at_call 78; refine (getw_out p 1 _ _ k _ c1 hk hn).mono ?_; rintro e w' ⟨rfl, rfl⟩)
  go_ret2
  exact ⟨rfl, rfl⟩
set_option maxHeartbeats 400000 in
theorem mutex_in (h : Mem F p bw bm s w) (hs : s.Small) (k : Nat) (hk : k < s.ms.length) :
    Calls Tryz.prog 61 #[.pointer (some ⟨p, 0, none⟩), .int .i64 k] w fun e w' => e = .returned (.tuple #[.agg #[.bool s.ms[k].1, .int .i64 s.ms[k].2], .bool true]) ∧ Upd [] w w' := by
  have lp := h.lt p (by obtain ⟨vl, rfl, _⟩ := h; simp)
  have h' := Lib.hid h
  have hn := hs.ms
  go_enter Tryz.func61, Tryz.ntmps61
  go_wp2_with fail
  have h1 := h'.out.stay ((Upd.refl [] w).alloc (.cells #[.bool false, .int .i64 0] 107))
  obtain ⟨vl, c0, c1, c2, c3⟩ := h1.cells
  obtain ⟨hx, hy⟩ := h1.owner hk
  refine (geto_in p 2 bm _ k _ _ _ c2 hk hn hx hy).mono ?_
  rintro e w' ⟨rfl, hu⟩
  have hw := hu.at (heap_alloc1 w _) (by simp)
  have e0 := cell_block hw 0
  have e1 := cell_block hw 1
  have f0 := free_block hw 0
  have f1 := free_block hw 1
  clear c0 c1 c2 c3 hx hy h1 hw h
  simp only [List.getElem?_toArray, List.getElem?_cons_zero, List.getElem?_cons_succ] at e0 e1
  go_wp2_with fail
  exact bodyPost_ret (v := .tuple #[.agg #[.bool s.ms[k].1, .int .i64 s.ms[k].2], .bool true]) (by simp [results, Tryz.results61, go_sem, e0, e1]) rfl
    ⟨rfl, ((((Upd.refl [] w).alloc _).trans hu (by simp)).setCell (by simp) _).setCell (by simp) _⟩
set_option maxHeartbeats 400000 in
theorem mutex_out (h : Mem F p bw bm s w) (hs : s.Small) (k : Int) (hk : k < 0 ∨ (s.ms.length : Int) ≤ k) :
    Calls Tryz.prog 61 #[.pointer (some ⟨p, 0, none⟩), .int .i64 k] w fun e w' => e = .returned (.tuple #[.agg #[.bool false, .int .i64 0], .bool false]) ∧ Upd [] w w' := by
  have lp := h.lt p (by obtain ⟨vl, rfl, _⟩ := h; simp)
  have h' := Lib.hid h
  have hn := hs.ms
  go_enter Tryz.func61, Tryz.ntmps61
  go_wp2_with fail
  have h1 := h'.out.stay ((Upd.refl [] w).alloc (.cells #[.bool false, .int .i64 0] 107))
  obtain ⟨vl, c0, c1, c2, c3⟩ := h1.cells
  refine (geto_out p 2 _ _ k _ c2 hk hn).mono ?_
  rintro e w' ⟨rfl, hu⟩
  have hw := hu.at (heap_alloc1 w _) (by simp)
  have e0 := cell_block hw 0
  have e1 := cell_block hw 1
  have f0 := free_block hw 0
  have f1 := free_block hw 1
  clear c0 c1 c2 c3 h1 hw h
  simp only [List.getElem?_toArray, List.getElem?_cons_zero, List.getElem?_cons_succ] at e0 e1
  go_wp2_with fail
  exact bodyPost_ret (v := .tuple #[.agg #[.bool false, .int .i64 0], .bool false]) (by simp [results, Tryz.results61, go_sem, e0, e1]) rfl
    ⟨rfl, ((((Upd.refl [] w).alloc _).trans hu (by simp)).setCell (by simp) _).setCell (by simp) _⟩

set_option maxHeartbeats 400000 in
theorem accessWord_mem (h : Mem F p bw bm s w) (hs : s.Small) (t kind : Int) (k : Nat) (y : Int) (ok : Bool) (hk : k < s.ws.length) :
    Calls Tryz.prog 63 #[.pointer (some ⟨p, 0, none⟩), .int .i64 t, .int .i64 kind, .int .i64 k, .int .i64 y, .bool ok] w fun e w' =>
      e = .returned (.tuple #[]) ∧ ∃ F', Mem F' p bw bm { s with ws := s.ws.set k y, log := s.log ++ [⟨t, kind, k, s.ws[k], y, ok⟩] } w' ∧ Goes F F' w w' := by
  obtain ⟨vl, c0, c1, c2, c3⟩ := h.cells
  have hx := h.word hk
  have hf := (h.free k).2.1
  have hmem : bw ∈ F := by obtain ⟨vl, rfl, _⟩ := h; simp
  have H := Lib.hid h
  clear h
  go_enter Tryz.func63, Tryz.ntmps63
  go_wp2_with (go_at_call 90; refine (replacew p bw _ k _ _ _ c1 hk hx hf).mono ?_; rintro e w' ⟨rfl, rfl⟩)
  have h2 := H.out.setWord k y
  have hl := hs.log
  clear c0 c1 c2 c3 hx hf
  refine (record_mem h2 (by simpa using (by omega : s.log.length ≤ 1000000)) _ _ _ _ _ _).mono ?_
  rintro e w' ⟨rfl, F', hM, hG⟩
  have HM := Lib.hid hM
  clear hM h2
  go_wp2_with fail
  go_end0
  exact ⟨rfl, F', HM.out, ((Upd.refl F w).setCell (fun _ => hmem) _).trans hG.1 (fun x hx _ => hx), fun x hx => by have := hG.2 x hx; simpa [World.setCell] using this⟩

theorem replaceo_mem (h : Mem F p bw bm s w) (k : Nat) (b : Bool) (y : Int) (hk : k < s.ms.length) :
    Calls Tryz.prog 87 #[.pointer (some ⟨p, 2, none⟩), .int .i64 k, .agg #[.bool b, .int .i64 y]] w fun e w' => e = .returned (.agg #[.bool s.ms[k].1, .int .i64 s.ms[k].2]) ∧
      Mem F p bw bm { s with ms := s.ms.set k (b, y) } w' ∧ Upd [bm] w w' := by
  obtain ⟨vl, c0, c1, c2, c3⟩ := h.cells
  obtain ⟨hx, hy⟩ := h.owner hk
  refine (replaceo p bm _ k _ _ _ _ _ c2 hk hx hy (h.free _).2.2 (h.free _).2.2).mono ?_
  rintro e w' ⟨rfl, hu⟩
  exact ⟨rfl, (h.setOwner k (b, y)).stay hu, (((Upd.refl [bm] w).setCell (by simp) _).setCell (by simp) _).trans hu (by simp)⟩

/-- What holds behind accessMutex's first statement. -/
def AMid (F : List Nat) (p bw bm : Nat) (s : St) (o n : Bool × Int) (w : World) (v : Value) (wx : World) : Prop :=
  ∃ q, v = .pointer (some ⟨q, 0, none⟩) ∧ wx.heap[q]? = some (.cells #[.bool o.1, .int .i64 o.2] 107 (0, 0)) ∧ wx.heap[w.heap.size]? = some (.cells #[.bool n.1, .int .i64 n.2] 107 (0, 0)) ∧
    Mem F p bw bm s wx ∧ Upd F w wx
theorem amA {s1 : St} {o n : Bool × Int} {w' : World} {X O : Obj} (hX : X = .cells #[.bool n.1, .int .i64 n.2] 107 (0, 0)) (hO : O = .cells #[.bool o.1, .int .i64 o.2] 107 (0, 0)) (h : Mem F p bw bm s w) (hU : Upd [bm] (w.alloc X).drew w') (hM : Mem F p bw bm s1 w') :
    AMid F p bw bm s1 o n w (.pointer (some ⟨w'.heap.size, 0, none⟩)) (w'.alloc O) := by
  have lm := h.lt bm (by obtain ⟨vl, rfl, _⟩ := h; simp)
  have hm : bm ∈ F := by obtain ⟨vl, rfl, _⟩ := h; simp
  have h1 : w'.heap[w.heap.size]? = some X := hU.at (heap_alloc1 w X) (by simp; omega)
  subst hX; subst hO
  exact ⟨_, rfl, heap_alloc1 w' _, (((Upd.refl [] w').alloc _).at h1 (by simp)), hM.stay ((Upd.refl [] w').alloc _), ((((Upd.refl F w).alloc _).drew).trans hU (by simp; intro _; exact hm)).alloc _⟩
theorem amB {s1 : St} {o n : Bool × Int} {w' : World} {X Y : Obj} (hX : X = .cells #[.bool n.1, .int .i64 n.2] 107 (0, 0)) (hY : Y = .cells #[.bool false, .int .i64 0] 107 (0, 0)) (h : Mem F p bw bm s w) (hU : Upd [bm] ((w.alloc X).alloc Y).drew w') (hM : Mem F p bw bm s1 w') :
    AMid F p bw bm s1 o n w (.pointer (some ⟨w.heap.size + 1, 0, none⟩)) ((w'.setCell ⟨w.heap.size + 1, 0, none⟩ (.bool o.1)).setCell ⟨w.heap.size + 1, 1, none⟩ (.int .i64 o.2)) := by
  have lm := h.lt bm (by obtain ⟨vl, rfl, _⟩ := h; simp)
  have hm : bm ∈ F := by obtain ⟨vl, rfl, _⟩ := h; simp
  have h1 : w'.heap[w.heap.size]? = some X := hU.at (((Upd.refl [] (w.alloc X)).alloc Y).at (heap_alloc1 w X) (by simp)) (by simp; omega)
  have h2 : w'.heap[w.heap.size + 1]? = some Y := hU.at (heap_alloc2 w X Y) (by simp; omega)
  have hu2 : Upd [w.heap.size + 1] w' ((w'.setCell ⟨w.heap.size + 1, 0, none⟩ (.bool o.1)).setCell ⟨w.heap.size + 1, 1, none⟩ (.int .i64 o.2)) := ((Upd.refl _ _).setCell (by simp) _).setCell (by simp) _
  subst hX; subst hY
  refine ⟨_, rfl, ?_, hu2.at h1 (by simp), hM.keep hu2 ?_, ?_⟩
  · rw [setCell_block (setCell_block h2 _)]; rfl
  · intro x hx hx'
    simp at hx'
    have := h.lt x hx
    omega
  · exact (((((Upd.refl F w).alloc _).alloc _).drew).trans hU (by simp; intro _; exact hm)).trans hu2 (by simp; intro h; omega)

set_option maxHeartbeats 1000000 in
theorem accessMutex_mem (h : Mem F p bw bm s w) (hlog : s.log.length ≤ 1000000) (t kind : Int) (k : Nat) (b : Bool) (y : Int) (ok : Bool) (hk : k < s.ms.length) :
    Calls Tryz.prog 62 #[.pointer (some ⟨p, 0, none⟩), .int .i64 t, .int .i64 kind, .int .i64 k, .agg #[.bool b, .int .i64 y], .bool ok] w fun e w' =>
      e = .returned (.tuple #[]) ∧ ∃ F', Mem F' p bw bm { s with ms := s.ms.set k (b, y), log := s.log ++ [⟨t, kind, k, b2i s.ms[k].1, b2i b, ok⟩] } w' ∧ Goes F F' w w' := by
  have lp := h.lt p (by obtain ⟨vl, rfl, _⟩ := h; simp)
  have lm := h.lt bm (by obtain ⟨vl, rfl, _⟩ := h; simp)
  have H := Lib.hid h
  clear h
  go_enter Tryz.func62, Tryz.ntmps62
  go_wp2_with fail
  go_cut [12] (fun v wx => AMid F p bw bm { s with ms := s.ms.set k (b, y) } s.ms[k] (b, y) w v wx)
  case first =>
    go_region_with (go_at_call 87; refine (replaceo_mem (F := F) (bw := bw) (by first | exact H.out.stay ((Upd.refl [] w).alloc _).drew | exact H.out.stay (((Upd.refl [] w).alloc _).alloc _).drew) k b y hk).mono ?_; rintro e w' ⟨rfl, hM, hU⟩; have HM := Lib.hid hM; clear hM; (first | (have hq : w'.heap[w.heap.size + 1]? = some (.cells #[.bool false, .int .i64 0] 107 (0, 0)) := hU.at (heap_alloc2 w _ _) (by simp; omega); have e0 := cell_block hq 0; have e1 := cell_block hq 1; have f0 := free_block hq 0; have f1 := free_block hq 1; have HQ := Lib.hid hq; clear hq; simp only [List.getElem?_toArray, List.getElem?_cons_zero, List.getElem?_cons_succ] at e0 e1) | skip))
    all_goals (go_wp2_with fail; go_meet)
    all_goals first | exact amA rfl rfl H.out hU HM.out | exact amB rfl rfl H.out hU HM.out
  case rest =>
    obtain ⟨q, rfl, h1, h2, hM, hU⟩ := hcut
    have a0 := cell_block h1 0
    have a1 := cell_block h1 1
    have b0 := cell_block h2 0
    have b1 := cell_block h2 1
    simp only [List.getElem?_toArray, List.getElem?_cons_zero, List.getElem?_cons_succ] at a0 a1 b0 b1
    have lq := lt_block h1
    have lw := lt_block h2
    have lq1 : q < wc.heap.size + 1 := by omega
    have lw1 : w.heap.size < wc.heap.size + 1 := by omega
    have HM := Lib.hid hM
    clear h1 h2 hM
    go_wp2_with fail
    go_region_with (first | (go_at_call 89; refine (logged_any _ _ _).mono ?_; rintro e w' ⟨rfl, rfl⟩) | (go_at_call 88; refine (record_mem (F := F) (bw := bw) (bm := bm) (s := { s with ms := s.ms.set k (b, y) }) (by exact HM.out.stay (((Upd.refl [] wc).alloc _).alloc _).drew) hlog _ _ _ _ _ _).mono ?_; rintro e w' ⟨rfl, F', hM', hG'⟩; have HM' := Lib.hid hM'; clear hM'))
    all_goals (go_wp2_with fail; go_end0; exact ⟨rfl, F', HM'.out, goes_of hU (((Upd.refl [] wc).alloc _).alloc _).drew hG'⟩)
end
end Go.Proofs.YtmfnfinbkdemkaaGreat
namespace Go.Proofs.YtmfnfinbkdemkaaGreat
open Go.RowKit
section
variable {F : List Nat} {p bw bm : Nat} {s : St} {w : World}

set_option maxHeartbeats 400000 in
theorem Store_in (h : Mem F p bw bm s w) (hs : s.Small) (t : Int) (k : Nat) (y : Int) (hk : k < s.ws.length) :
    Calls Tryz.prog 70 #[.pointer (some ⟨p, 0, none⟩), .int .i64 t, .int .i64 k, .int .i64 y] w fun e w' =>
      e = .returned (.tuple #[]) ∧ ∃ F', Mem F' p bw bm { s with ws := s.ws.set k y, log := s.log ++ [⟨t, 4, k, s.ws[k], y, true⟩] } w' ∧ Goes F F' w w' := by
  have H := Lib.hid h; clear h
  go_enter Tryz.func70, Tryz.ntmps70
  go_wp2_with fail
  refine (word_in H.out hs k hk).mono ?_
  rintro e w' ⟨rfl, rfl⟩
  go_wp2_with fail
  refine (accessWord_mem H.out hs t 4 k _ true hk).mono ?_
  rintro e w' ⟨rfl, F', hM, hG⟩
  have HM := Lib.hid hM; clear hM
  go_wp2_with fail
  go_end0
  exact ⟨rfl, F', HM.out, hG⟩
set_option maxHeartbeats 400000 in
theorem Store_out (h : Mem F p bw bm s w) (hs : s.Small) (t : Int) (k : Int) (y : Int) (hk : k < 0 ∨ (s.ws.length : Int) ≤ k) :
    Calls Tryz.prog 70 #[.pointer (some ⟨p, 0, none⟩), .int .i64 t, .int .i64 k, .int .i64 y] w fun e w' => e = .returned (.tuple #[]) ∧ w = w' := by
  have H := Lib.hid h; clear h
  go_enter Tryz.func70, Tryz.ntmps70
  go_wp2_with fail
  refine (word_out H.out hs k hk).mono ?_
  rintro e w' ⟨rfl, rfl⟩
  go_wp2_with fail
  go_end0
  exact ⟨rfl, rfl⟩
set_option maxHeartbeats 400000 in
theorem CAS_yes (h : Mem F p bw bm s w) (hs : s.Small) (t : Int) (k : Nat) (x y : Int) (hk : k < s.ws.length) (hx : s.ws[k] = x) :
    Calls Tryz.prog 32 #[.pointer (some ⟨p, 0, none⟩), .int .i64 t, .int .i64 k, .int .i64 x, .int .i64 y] w fun e w' =>
      e = .returned (.bool true) ∧ ∃ F', Mem F' p bw bm { s with ws := s.ws.set k y, log := s.log ++ [⟨t, 3, k, s.ws[k], y, true⟩] } w' ∧ Goes F F' w w' := by
  subst hx
  have H := Lib.hid h; clear h
  go_enter Tryz.func32, Tryz.ntmps32
  go_wp2_with fail
  refine (word_in H.out hs k hk).mono ?_
  rintro e w' ⟨rfl, rfl⟩
  go_wp2_with fail
  refine (accessWord_mem H.out hs t 3 k _ true hk).mono ?_
  rintro e w' ⟨rfl, F', hM, hG⟩
  have HM := Lib.hid hM; clear hM
  go_wp2_with fail
  go_ret
  exact ⟨rfl, F', HM.out, hG⟩
set_option maxHeartbeats 400000 in
theorem CAS_no (h : Mem F p bw bm s w) (hs : s.Small) (t : Int) (k : Nat) (x y : Int) (hk : k < s.ws.length) (hx : (s.ws[k] == x) = false) :
    Calls Tryz.prog 32 #[.pointer (some ⟨p, 0, none⟩), .int .i64 t, .int .i64 k, .int .i64 x, .int .i64 y] w fun e w' =>
      e = .returned (.bool false) ∧ ∃ F', Mem F' p bw bm { s with log := s.log ++ [⟨t, 3, k, s.ws[k], s.ws[k], false⟩] } w' ∧ Goes F F' w w' := by
  have H := Lib.hid h; clear h
  go_enter Tryz.func32, Tryz.ntmps32
  go_wp2_with fail
  refine (word_in H.out hs k hk).mono ?_
  rintro e w' ⟨rfl, rfl⟩
  go_wp2_with fail
  refine (accessWord_mem H.out hs t 3 k _ false hk).mono ?_
  rintro e w' ⟨rfl, F', hM, hG⟩
  have HM := Lib.hid hM; clear hM
  go_wp2_with fail
  go_ret
  exact ⟨rfl, F', by simpa using HM.out, hG⟩
set_option maxHeartbeats 400000 in
theorem CAS_out (h : Mem F p bw bm s w) (hs : s.Small) (t : Int) (k : Int) (x y : Int) (hk : k < 0 ∨ (s.ws.length : Int) ≤ k) :
    Calls Tryz.prog 32 #[.pointer (some ⟨p, 0, none⟩), .int .i64 t, .int .i64 k, .int .i64 x, .int .i64 y] w fun e w' => e = .returned (.bool false) ∧ w = w' := by
  have H := Lib.hid h; clear h
  go_enter Tryz.func32, Tryz.ntmps32
  go_wp2_with fail
  refine (word_out H.out hs k hk).mono ?_
  rintro e w' ⟨rfl, rfl⟩
  go_wp2_with fail
  go_ret
  exact ⟨rfl, rfl⟩
set_option maxHeartbeats 400000 in
theorem Word_in (h : Mem F p bw bm s w) (hs : s.Small) (k : Nat) (hk : k < s.ws.length) :
    Calls Tryz.prog 21 #[.pointer (some ⟨p, 0, none⟩), .int .i64 k] w fun e w' => e = .returned (.int .i64 s.ws[k]) ∧ w = w' := by
  have H := Lib.hid h; clear h
  go_enter Tryz.func21, Tryz.ntmps21
  go_wp2_with fail
  refine (word_in H.out hs k hk).mono ?_
  rintro e w' ⟨rfl, rfl⟩
  go_wp2_with fail
  go_ret
  exact ⟨rfl, rfl⟩
set_option maxHeartbeats 400000 in
theorem Word_out (h : Mem F p bw bm s w) (hs : s.Small) (k : Int) (hk : k < 0 ∨ (s.ws.length : Int) ≤ k) :
    Calls Tryz.prog 21 #[.pointer (some ⟨p, 0, none⟩), .int .i64 k] w fun e w' => e = .returned (.int .i64 0) ∧ w = w' := by
  have H := Lib.hid h; clear h
  go_enter Tryz.func21, Tryz.ntmps21
  go_wp2_with fail
  refine (word_out H.out hs k hk).mono ?_
  rintro e w' ⟨rfl, rfl⟩
  go_wp2_with fail
  go_ret
  exact ⟨rfl, rfl⟩
set_option maxHeartbeats 400000 in
theorem Violations_any (h : Mem F p bw bm s w) :
    Calls Tryz.prog 11 #[.pointer (some ⟨p, 0, none⟩)] w fun e w' => e = .returned (.int .i64 s.v) ∧ w = w' := by
  obtain ⟨vl, c0, c1, c2, c3⟩ := h.cells
  clear h c0 c1 c2
  go_enter Tryz.func11, Tryz.ntmps11
  go_wp2_with fail
  go_ret
  exact ⟨rfl, rfl⟩
end
end Go.Proofs.YtmfnfinbkdemkaaGreat
