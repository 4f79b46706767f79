/- Contracts: the test whether a rung accepts a time. -/
/- Contracts: what the store's methods call of their own. -/
/- Contract: the store's setQueue. -/
import Derived.Test.YtmfnfinbkdemkaaGreatUM
import Derived.Test.YtmfnfinbkdemkaaGreatGE
import Derived.Shelf.Abstract
import Derived.Test.YtmfnfinbkdemkaaGreatID
namespace Go.Proofs.YtmfnfinbkdemkaaGreat
open Go.RowKit Go.Lib

def accB (t : Int) (r : RgR) : Bool := decide (curT r.rg ≤ t)
set_option maxRecDepth 100000 in
set_option maxHeartbeats 2000000 in
theorem accepts1_has (A : Nat) (t : Int) (r : RgR) (w : World) (hg : GoodR r.rg) (hA : w.cell? ⟨A, 0, none⟩ = some (.int .i64 t)) :
    Calls Tryz.prog 66 #[encR r, .pointer (some ⟨A, 0, none⟩)] w fun e w' => e = .returned (.bool (accB t r)) ∧ Upd [] w w' := by
  have HCC := Lib.hid (fun W => Current_has r W hg)
  unfold accB
  obtain ⟨fr, wd, cu, ⟨bl, ba, bc⟩⟩ := r
  unfold encR at *
  simp only at HCC ⊢
  generalize curT (RgR.rg ⟨fr, wd, cu, ⟨bl, ba, bc⟩⟩) = ct at *
  generalize bl.length = bn at *
  clear hg
  go_enter Tryz.func66, Tryz.ntmps66
  go_upto_region 1 with (fail)
  have hu := (Upd.refl [] w).alloc (.cells #[.int .i64 fr, .int .i64 wd, .int .i64 cu, .slice ba bn bc] 93)
  have b0 := heap_alloc1 w (.cells #[.int .i64 fr, .int .i64 wd, .int .i64 cu, .slice ba bn bc] 93)
  have k1 := hu.cell hA (by simp)
  generalize w.alloc (.cells #[.int .i64 fr, .int .i64 wd, .int .i64 cu, .slice ba bn bc] 93) = W at *
  generalize w.heap.size = P at *
  obtain ⟨c0, c1, c2, c3⟩ := cells4 b0
  have HU := Lib.hid hu
  clear hu b0 hA
  have j0 := kept_at c0; have j1 := kept_at c1; have j2 := kept_at c2; have j3 := kept_at c3; have j4 := kept_at k1
  clear c0 c1 c2 c3 k1
  refine wp_region_quiet_kept mixed (by kernel_rfl) ?_
  repeat (go_big_quiet_step (first | (go_at_call 67; exact calls_kept (HCC.out _))))
  refine wpQuiet_nil ?_
  intro W3 hw'
  obtain ⟨⟨Wx, hu⟩, hw''⟩ := hw'
  simp only at hw''
  subst hw''
  clear j0 j1 j2 j3 j4
  go_wp2_with fail
  go_ret
  exact ⟨rfl, HU.out.thn hu⟩
set_option maxRecDepth 100000 in
set_option maxHeartbeats 2000000 in
theorem IndexFuncR_has (a : Option Addr) (c : Nat) (l : List RgR) (A : Nat) (t : Int) (w : World) (hr : Row LR w a l) (hg : ∀ r ∈ l, GoodR r.rg) (hl : l.length ≤ 1000000) (hA : w.cell? ⟨A, 0, none⟩ = some (.int .i64 t)) :
    Calls Tryz.prog 92 #[.slice a l.length c, .func (.func 66) #[] #[.pointer (some ⟨A, 0, none⟩)]] w fun e w' => ∃ z : Int, e = .returned (.int .i64 z) ∧ decide (0 ≤ z) = l.any (accB t) ∧ Upd [] w w' := by
  have HR := Lib.hid hr
  have HC := Lib.hid (fun (x : RgR) (hx : x ∈ l) W (hu : Upd [] w W) => accepts1_has A t x W (hg x hx) (hu.cell hA (by simp)))
  have H1 : Hid (∀ k (hk : k < l.length), accB t l[k] = true → decide (0 ≤ (k : Int)) = l.any (accB t)) := fun k hk h1 => by
    rw [List.any_eq_true.2 ⟨_, List.getElem_mem hk, h1⟩]; simp
  have H2 : Hid ((∀ j (hj : j < l.length), accB t l[j] = false) → decide (0 ≤ (-1 : Int)) = l.any (accB t)) := fun h => by
    have : l.any (accB t) = false := by
      rw [List.any_eq_false]
      intro x hx
      obtain ⟨j, hj, rfl⟩ := List.mem_iff_getElem.1 hx
      rw [h j hj]; simp
    rw [this]; decide
  generalize l.any (accB t) = r at *
  obtain ⟨n, hn⟩ : ∃ n, n = l.length := ⟨_, rfl⟩
  have HN := Lib.hid hn
  rw [← hn] at hl ⊢
  clear hr hA hn hg
  have eg : ∀ args w, (callFunc 66 args).run Tryz.prog w = .ok (.enter 66 args) w := enters_of Tryz.func66 (by kernel_rfl) rfl
  go_enter Tryz.func92, Tryz.ntmps92
  go_wp2_with fail
  go_loopg [8] n (fun gk vi wr => ∃ k : Nat, vi = .int .i64 k ∧ k + gk = n ∧ Hid (Upd [] w wr) ∧ Hid (∀ j (hj : j < k) (h : j < l.length), accB t l[j] = false))
  case atStart => exact ⟨0, rfl, by omega, Upd.refl _ _, fun j hj => by omega⟩
  case round =>
    obtain ⟨k, rfl, hkg, HU, HF⟩ := hrel
    by_cases hlt : k < n
    · have hltz : (k : Int) < (n : Int) := by omega
      have hk1 : k < l.length := by have := HN.out; omega
      obtain ⟨b, off, hbo, x0, x1, x2, x3⟩ := (HR.out.stay HU.out).rung k hk1
      subst hbo
      have HCK := Lib.hid (HC.out l[k] (List.getElem_mem hk1) wr HU.out)
      have HH1 := Lib.hid (H1.out k hk1)
      have HNX : Hid (accB t l[k] = false → ∀ j (hj : j < k + 1) (h : j < l.length), accB t l[j] = false) := fun he j hj h => by
        by_cases e : j = k
        · subst e; exact he
        · exact HF.out j (by omega) h
      have HIT : Hid (encR l[k] = .agg #[.int .i64 l[k].fr, .int .i64 l[k].wd, .int .i64 l[k].cu, .slice l[k].bk.ad l[k].bk.l.length l[k].bk.cap]) := rfl
      rw [HIT.out] at HCK
      clear HIT
      generalize accB t l[k] = bb at *
      generalize l[k].fr = y0 at *
      generalize l[k].wd = y1 at *
      generalize l[k].cu = y2 at *
      generalize l[k].bk.ad = y3 at *
      generalize l[k].bk.l.length = y4 at *
      generalize l[k].bk.cap = y5 at *
      cases bb with
      | true =>
        go_wp2_with (go_at_call 66; go_loud ((with_reducible refine HCK.out.mono ?_); rintro e w1 ⟨rfl, hu1⟩; have HU1 := Lib.hid (HU.out.thn hu1); clear hu1))
        go_ret
        exact ⟨_, rfl, HH1.out (by first | rfl | trivial), HU1.out⟩
      | false =>
        go_wp2_with (go_at_call 66; go_loud ((with_reducible refine HCK.out.mono ?_); rintro e w1 ⟨rfl, hu1⟩; have HU1 := Lib.hid (HU.out.thn hu1); clear hu1))
        go_roundg (gk - 1)
        case measure => omega
        case rel => exact ⟨k + 1, by go_num, by omega, HU1, HNX.out (by first | rfl | trivial)⟩
    · have hltz : ¬ (k : Int) < (n : Int) := by omega
      have HE := Lib.hid (H2.out (fun j hj => HF.out j (by have := HN.out; omega) hj))
      go_wp2_with fail
      go_ret
      exact ⟨_, rfl, HE.out, HU.out⟩
set_option maxRecDepth 100000 in
set_option maxHeartbeats 2000000 in
theorem ContainsFuncR_has (a : Option Addr) (c : Nat) (l : List RgR) (A : Nat) (t : Int) (w : World) (hr : Row LR w a l) (hg : ∀ r ∈ l, GoodR r.rg) (hl : l.length ≤ 1000000) (hA : w.cell? ⟨A, 0, none⟩ = some (.int .i64 t)) :
    Calls Tryz.prog 65 #[.slice a l.length c, .func (.func 66) #[] #[.pointer (some ⟨A, 0, none⟩)]] w fun e w' => e = .returned (.bool (l.any (accB t))) ∧ Upd [] w w' := by
  have HC := Lib.hid (IndexFuncR_has a c l A t w hr hg hl hA)
  generalize l.any (accB t) = r at *
  generalize l.length = n at *
  clear hr hA hg
  go_enter Tryz.func65, Tryz.ntmps65
  go_wp2_with (go_at_call 92; (with_reducible refine HC.out.mono ?_); rintro e w1 ⟨z, rfl, hz, hu1⟩; have HU1 := Lib.hid hu1; have HZ := Lib.hid hz; clear hu1 hz)
  go_ret
  exact ⟨ret_bool HZ.out, HU1.out⟩
end Go.Proofs.YtmfnfinbkdemkaaGreat
namespace Go.Proofs.YtmfnfinbkdemkaaGreat
open Go.RowKit Go.Lib
open A5

section
variable {F : List Nat} {d : At} {r : Rw} {w : World}
set_option maxHeartbeats 1000000 in
theorem Memory_has (h : InR F d r w) : Calls Tryz.prog 10 #[.pointer (some ⟨d.p, 0, none⟩)] w fun e w' => e = .returned (.pointer (some ⟨d.m, 0, none⟩)) ∧ w = w' := by
  obtain ⟨FM, iv, l, rfl, h⟩ := h
  obtain ⟨c0, -⟩ := cells10 h.box
  have HC := Lib.hid (orNone_in d.p)
  clear h
  go_enter Tryz.func10, Tryz.ntmps10
  go_wp2_with fail
  refine (HC.out _).mono ?_
  rintro e w' ⟨rfl, rfl⟩
  go_wp2_with fail
  go_ret
  exact ⟨rfl, rfl⟩
set_option maxHeartbeats 1000000 in
theorem Capacity_has (h : InR F d r w) : Calls Tryz.prog 29 #[.pointer (some ⟨d.p, 0, none⟩)] w fun e w' => e = .returned (.int .i64 r.ar.sl.length) ∧ w = w' := by
  obtain ⟨FM, iv, l, rfl, h⟩ := h
  obtain ⟨c0, c1, -⟩ := cells10 h.box
  have HC := Lib.hid (orNone_in d.p)
  clear h
  go_enter Tryz.func29, Tryz.ntmps29
  go_wp2_with fail
  refine (HC.out _).mono ?_
  rintro e w' ⟨rfl, rfl⟩
  go_wp2_with fail
  go_ret
  exact ⟨rfl, rfl⟩
set_option maxHeartbeats 1000000 in
theorem word_has (h : InR F d r w) (hs : Sm r.mem) (i : Nat) (hi : i + 1 < r.ws.length) : Calls Tryz.prog 40 #[.pointer (some ⟨d.p, 0, none⟩), .int .i64 i] w fun e w' => e = .returned (.int .i64 r.ws[i + 1]) ∧ w = w' := by
  obtain ⟨FM, iv, l, rfl, h⟩ := h
  obtain ⟨c0, -⟩ := cells10 h.box
  have hsm : r.mem.Small := by have := hs.small (n := 0) (by omega); rwa [St.more_zero] at this
  have HC := Lib.hid (Word_in h.mem hsm (i + 1) hi)
  have hwl := hs.ws
  have hwl : r.ws.length ≤ 200 := hwl
  have hw : IntKind.i64.wrap (1 + (i : Int)) = ((i + 1 : Nat) : Int) := by rw [IntKind.wrap_i64]; omega
  simp only [Rw.mem] at HC
  generalize r.ws[i + 1] = y at *
  generalize i + 1 = j at *
  clear h hs hsm hi hwl
  go_enter Tryz.func40, Tryz.ntmps40
  go_wp2_with fail
  refine HC.out.mono ?_
  rintro e w' ⟨rfl, rfl⟩
  go_wp2_with fail
  go_ret
  exact ⟨rfl, rfl⟩
set_option maxHeartbeats 1000000 in
theorem setWord_has (h : InR F d r w) (hs : Sm r.mem) (t : Int) (i : Nat) (y : Int) (hi : i + 1 < r.ws.length) : Calls Tryz.prog 41 #[.pointer (some ⟨d.p, 0, none⟩), .int .i64 t, .int .i64 i, .int .i64 y] w fun e w' =>
    e = .returned (.tuple #[]) ∧ ∃ F' lg, lg.length ≤ r.log.length + 1 ∧ InR F' d { r with ws := r.ws.set (i + 1) y, log := lg } w' ∧ Goes F F' w w' := by
  obtain ⟨FM, iv, l, rfl, h⟩ := h
  obtain ⟨c0, -⟩ := cells10 h.box
  have hsm : r.mem.Small := by have := hs.small (n := 0) (by omega); rwa [St.more_zero] at this
  have HC : Hid (Calls Tryz.prog 70 #[.pointer (some ⟨d.m, 0, none⟩), .int .i64 t, .int .i64 ((i + 1 : Nat) : Int), .int .i64 y] w fun e w' => e = .returned (.tuple #[]) ∧ ∃ FM' lg, lg.length = r.log.length + 1 ∧ Mem FM' d.m d.bw d.bm ⟨r.ws.set (i + 1) y, r.ms, lg, r.v⟩ w' ∧ Goes FM FM' w w') :=
    (Store_in h.mem hsm t (i + 1) y hi).mono (fun e w' k => by
      obtain ⟨k1, FM', k2, k3⟩ := k
      exact ⟨k1, FM', _, by simp [Rw.mem], k2, k3⟩)
  have hwl : r.ws.length ≤ 200 := hs.ws
  have hw : IntKind.i64.wrap (1 + (i : Int)) = ((i + 1 : Nat) : Int) := by rw [IntKind.wrap_i64]; omega
  have HH := Lib.hid h
  have HFN : Hid (∀ FM' w' lg, lg.length = r.log.length + 1 → Mem FM' d.m d.bw d.bm ⟨r.ws.set (i + 1) y, r.ms, lg, r.v⟩ w' → Goes FM FM' w w' → ∃ F' lg, lg.length ≤ r.log.length + 1 ∧ InR F' d { r with ws := r.ws.set (i + 1) y, log := lg } w' ∧ Goes (foot d FM iv) F' w w') := by
    intro FM' w' lg hl hm hg
    obtain ⟨h1, h2⟩ := HH.out.memory (r' := { r with ws := r.ws.set (i + 1) y, log := lg }) hm hg rfl rfl
    exact ⟨_, lg, by omega, ⟨FM', iv, l, rfl, h1⟩, h2⟩
  clear h hs hsm hi hwl HH
  go_enter Tryz.func41, Tryz.ntmps41
  go_wp2_with fail
  refine HC.out.mono ?_
  rintro e w' ⟨rfl, FM', lg, hlg, hm, hg⟩
  have HLG := Lib.hid hlg; clear hlg
  have HM := Lib.hid hm; have HG := Lib.hid hg
  clear hm hg
  go_wp2_with fail
  go_end0
  exact ⟨rfl, HFN.out _ _ _ HLG.out HM.out HG.out⟩
set_option maxHeartbeats 1000000 in
theorem isSlot_in (h : InR F d r w) (i : Nat) (hi : i < r.ar.sl.length) : Calls Tryz.prog 53 #[.pointer (some ⟨d.p, 0, none⟩), .int .i64 i] w fun e w' => e = .returned (.bool true) ∧ w = w' := by
  obtain ⟨FM, iv, l, rfl, h⟩ := h
  obtain ⟨c0, c1, -⟩ := cells10 h.box
  have hd : decide ((i : Int) < (r.ar.sl.length : Int)) = true := by simp; omega
  clear h
  go_enter Tryz.func53, Tryz.ntmps53
  go_wp2_with fail
  go_ret
  exact ⟨rfl, rfl⟩
set_option maxRecDepth 100000 in
set_option maxHeartbeats 1000000 in
theorem rungAccepts_has (h : InR F d r w) (hg : GoodL r.q) (t : Int) : Calls Tryz.prog 36 #[.pointer (some ⟨d.p, 0, none⟩), .int .i64 t] w fun e w' => e = .returned (.bool (r.q.rs.any (fun x => decide (curT x ≤ t)))) ∧ Upd [] w w' := by
  obtain ⟨FM, iv, l, rfl, h⟩ := h
  have hgr : ∀ x ∈ l.rs.l, GoodR x.rg := fun x hx => (okRs_mem hg.rs (h.eq ▸ (List.mem_map_of_mem hx : x.rg ∈ l.ld.rs))).1
  have hle : l.rs.l.length ≤ 4 := by
    have h1 := hg.len
    rw [← h.eq] at h1
    simpa [LdR.ld] using h1
  have he : r.q.rs.any (fun x => decide (curT x ≤ t)) = l.rs.l.any (accB t) := by
    rw [← h.eq]; simp only [LdR.ld, List.any_map]; rfl
  rw [he]
  have hb := h.box
  have HC := Lib.hid (fun A W (hu : Upd [] w W) hA => ContainsFuncR_has l.rs.ad l.rs.cap l.rs.l A t W (h.stay hu).has.rs.row hgr (by omega) hA)
  generalize l.rs.l.any (accB t) = b at *
  unfold cellsT at hb
  generalize l.rs.ad = ra at *
  generalize l.rs.cap = rc at *
  generalize l.rs.l.length = rn at *
  clear h hg hgr he hle
  go_enter Tryz.func36, Tryz.ntmps36
  go_upto_region 1 with (fail)
  have hu := (Upd.refl [] w).alloc (.cells #[.int .i64 t] 3)
  have b0 := heap_alloc1 w (.cells #[.int .i64 t] 3)
  obtain ⟨-, -, -, -, -, -, c6, -⟩ := cells10 (hu.at hb (by simp))
  have k0 := cell_block b0 0
  generalize w.alloc (.cells #[.int .i64 t] 3) = W at *
  generalize w.heap.size = P at *
  have HU := Lib.hid hu; have HK : Hid (W.cell? ⟨P, 0, none⟩ = some (.int .i64 t)) := k0
  clear hu b0 hb k0
  go_wp2_with (go_at_call 65; (with_reducible refine (HC.out _ _ HU.out HK.out).mono ?_); rintro e w1 ⟨rfl, hu1⟩; have HU1 := Lib.hid (HU.out.thn hu1); clear hu1)
  go_ret
  exact ⟨rfl, HU1.out⟩
/-- What guardsOf gives: a new slice of mutexes. -/
def Guards (w : World) (e : Ending) (w' : World) : Prop := ∃ (b : Nat) (xs : List Nat), e = .returned (.slice (some ⟨b, 0, none⟩) xs.length xs.length) ∧ w'.heap[b]? = some (.cells (xs.map (fun k : Nat => Value.int .i64 k)).toArray 3 (0, 0)) ∧ w.heap.size ≤ b ∧ (∀ k ∈ xs, k < 4) ∧ xs.length ≤ 4 ∧ Upd [] w w'
theorem guards_of {w w1 : World} (xs : List Nat) (hu : Upd [] w w1) (h4 : ∀ k ∈ xs, k < 4) (hl : xs.length ≤ 4) {O : Obj} (hO : O = .cells (xs.map (fun k : Nat => Value.int .i64 k)).toArray 3 (0, 0)) {n : Nat} (hn : n = xs.length) : Guards w (.returned (.slice (some ⟨w1.heap.size, 0, none⟩) n n)) (w1.alloc O) := by
  subst hn
  refine ⟨w1.heap.size, xs, rfl, ?_, hu.size, h4, hl, hu.alloc _⟩
  rw [heap_alloc1, hO]
set_option maxRecDepth 100000 in
set_option maxHeartbeats 1000000 in
theorem guardsOf_has (h : InR F d r w) (hg : GoodL r.q) (t : Int) : Calls Tryz.prog 54 #[.pointer (some ⟨d.p, 0, none⟩), .int .i64 t] w (Guards w) := by
  have HC := Lib.hid (rungAccepts_has h hg t)
  obtain ⟨FM, iv, l, rfl, h⟩ := h
  obtain ⟨-, -, -, -, c4, -⟩ := cells10 h.box
  generalize r.q.rs.any (fun x => decide (curT x ≤ t)) = b at *
  generalize l.ts = ts at *
  clear h hg
  by_cases ht : ts ≤ t
  · go_enter Tryz.func54, Tryz.ntmps54
    go_wp2_with fail
    refine bodyPost_ret (v := .slice (some ⟨w.heap.size, 0, none⟩) 1 1) (by simp [results, Tryz.results54, go_sem]) rfl (guards_of [0] (Upd.refl _ _) (by decide) (by decide) rfl rfl)
  · cases b with
    | true =>
      go_enter Tryz.func54, Tryz.ntmps54
      go_wp2_with fail
      refine HC.out.mono ?_
      rintro e w1 ⟨rfl, hu1⟩
      have HU1 := Lib.hid hu1; clear hu1
      go_wp2_with fail
      refine bodyPost_ret (v := .slice (some ⟨w1.heap.size, 0, none⟩) 1 1) (by simp [results, Tryz.results54, go_sem]) rfl (guards_of [1] HU1.out (by decide) (by decide) rfl rfl)
    | false =>
      go_enter Tryz.func54, Tryz.ntmps54
      go_wp2_with fail
      refine HC.out.mono ?_
      rintro e w1 ⟨rfl, hu1⟩
      have HU1 := Lib.hid hu1; clear hu1
      go_wp2_with fail
      refine bodyPost_ret (v := .slice (some ⟨w1.heap.size, 0, none⟩) 2 2) (by simp [results, Tryz.results54, go_sem]) rfl (guards_of [1, 2] HU1.out (by decide) (by decide) rfl rfl)
end
end Go.Proofs.YtmfnfinbkdemkaaGreat
namespace Go.Proofs.YtmfnfinbkdemkaaGreat
open Go.RowKit Go.Lib
open A5

theorem set_same {l : List Int} {k : Nat} {x : Int} (h : l[k]? = some x) : l.set k x = l := by
  obtain ⟨hk, rfl⟩ := List.getElem?_eq_some_iff.1 h
  exact List.set_getElem_self hk
/-- The store whose queue lies as l. -/
def InL (F : List Nat) (d : At) (l : LdR) (r : Rw) (w : World) : Prop := ∃ FM iv, F = foot d FM iv ∧ InT d FM iv l r w
theorem InL.r {F : List Nat} {d : At} {l : LdR} {r : Rw} {w : World} (h : InL F d l r w) : InR F d r w := by
  obtain ⟨FM, iv, e, h⟩ := h
  exact ⟨FM, iv, l, e, h⟩
theorem InL.stay {F : List Nat} {d : At} {l : LdR} {r : Rw} {w w' : World} (h : InL F d l r w) (hu : Upd [] w w') : InL F d l r w' := by
  obtain ⟨FM, iv, e, h⟩ := h
  exact ⟨FM, iv, e, h.stay hu⟩
/-- A cell that is none of the store's is written. -/
theorem InL.cell {F : List Nat} {d : At} {l : LdR} {r : Rw} {w w' : World} (h : InL F d l r w) {b : Nat} (hu : Upd [b] w w') (hb : b ∉ F) (ha : AvD l b) : InL F d l r w' := by
  obtain ⟨FM, iv, rfl, h⟩ := h
  exact ⟨FM, iv, rfl, h.keep hu (fun x hx hm => hb (by rw [← List.mem_singleton.1 hm]; exact hx)) (fun x hx => by rw [List.mem_singleton.1 hx]; exact ha)⟩
theorem mstore_has {F : List Nat} {d : At} {l : LdR} {r : Rw} {w : World} (h : InL F d l r w) (hs : Sm r.mem) (t : Int) (k : Nat) (y : Int) (hk : k < r.ws.length) :
    Calls Tryz.prog 70 #[.pointer (some ⟨d.m, 0, none⟩), .int .i64 t, .int .i64 k, .int .i64 y] w fun e w' => e = .returned (.tuple #[]) ∧ ∃ F' lg, lg.length ≤ r.log.length + 1 ∧ InL F' d l { r with ws := r.ws.set k y, log := lg } w' ∧ Goes F F' w w' := by
  obtain ⟨FM, iv, rfl, h⟩ := h
  have hsm : r.mem.Small := by have := hs.small (n := 0) (by omega); rwa [St.more_zero] at this
  refine (Store_in h.mem hsm t k y hk).mono ?_
  rintro e w' ⟨rfl, FM', hm, hg⟩
  obtain ⟨h1, h2⟩ := h.memory (r' := { r with ws := r.ws.set k y, log := _ }) hm hg rfl rfl
  exact ⟨rfl, _, _, by simp [Rw.mem], ⟨FM', iv, rfl, h1⟩, h2⟩
theorem stored10 {w : World} {b : Nat} {v0 v1 v2 v3 v4 v5 v6 v7 v8 v9 : Value} {t : TypeId} {f : Nat × Nat} (h : w.heap[b]? = some (.cells #[v0, v1, v2, v3, v4, v5, v6, v7, v8, v9] t f)) (u4 u5 u6 u7 u8 u9 : Value) :
    ((((((w.setCell ⟨b, 4, none⟩ u4).setCell ⟨b, 5, none⟩ u5).setCell ⟨b, 6, none⟩ u6).setCell ⟨b, 7, none⟩ u7).setCell ⟨b, 8, none⟩ u8).setCell ⟨b, 9, none⟩ u9).heap[b]? = some (.cells #[v0, v1, v2, v3, u4, u5, u6, u7, u8, u9] t f) :=
  setCell_block (setCell_block (setCell_block (setCell_block (setCell_block (setCell_block h _) _) _) _) _) _
theorem upd_q6 (w : World) (b : Nat) (u4 u5 u6 u7 u8 u9 : Value) : Upd [b] w ((((((w.setCell ⟨b, 4, none⟩ u4).setCell ⟨b, 5, none⟩ u5).setCell ⟨b, 6, none⟩ u6).setCell ⟨b, 7, none⟩ u7).setCell ⟨b, 8, none⟩ u8).setCell ⟨b, 9, none⟩ u9) :=
  ((((((Upd.refl [b] w).setCell (p := ⟨b, 4, none⟩) (fun _ => by simp) _).setCell (p := ⟨b, 5, none⟩) (fun _ => by simp) _).setCell (p := ⟨b, 6, none⟩) (fun _ => by simp) _).setCell (p := ⟨b, 7, none⟩) (fun _ => by simp) _).setCell (p := ⟨b, 8, none⟩) (fun _ => by simp) _).setCell (p := ⟨b, 9, none⟩) (fun _ => by simp) _
theorem InR.cell0 {F : List Nat} {d : At} {r : Rw} {w : World} (h : InR F d r w) : w.cell? ⟨d.p, 0, none⟩ = some (.pointer (some ⟨d.m, 0, none⟩)) := by
  obtain ⟨FM, iv, l, rfl, h⟩ := h
  exact cell_block h.box 0
/-- The queue is replaced. -/
theorem InT.queue {d : At} {FM : List Nat} {iv : Value} {l l2 : LdR} {r : Rw} {w w' : World} (h : InT d FM iv l r w) (hd : HasD w l2) (hav : ∀ b ∈ foot d FM iv, AvD l2 b)
    (hw : w' = (((((w.setCell ⟨d.p, 4, none⟩ (.int .i64 l2.ts)).setCell ⟨d.p, 5, none⟩ (.slice l2.top.ad l2.top.l.length l2.top.cap)).setCell ⟨d.p, 6, none⟩ (.slice l2.rs.ad l2.rs.l.length l2.rs.cap)).setCell ⟨d.p, 7, none⟩ (.slice l2.bot.ad l2.bot.l.length l2.bot.cap)).setCell ⟨d.p, 8, none⟩ (.int .i64 l2.mv)).setCell ⟨d.p, 9, none⟩ (.int .i64 l2.cp)) :
    InL (foot d FM iv) d l2 { r with q := l2.ld } w' ∧ Goes (foot d FM iv) (foot d FM iv) w w' := by
  have hb := stored10 (v0 := _) h.box (.int .i64 l2.ts) (.slice l2.top.ad l2.top.l.length l2.top.cap) (.slice l2.rs.ad l2.rs.l.length l2.rs.cap) (.slice l2.bot.ad l2.bot.l.length l2.bot.cap) (.int .i64 l2.mv) (.int .i64 l2.cp)
  have hu := upd_q6 w d.p (.int .i64 l2.ts) (.slice l2.top.ad l2.top.l.length l2.top.cap) (.slice l2.rs.ad l2.rs.l.length l2.rs.cap) (.slice l2.bot.ad l2.bot.l.length l2.bot.cap) (.int .i64 l2.mv) (.int .i64 l2.cp)
  rw [← hw] at hb hu
  obtain ⟨h1, h2⟩ := h.boxed (iv' := iv) (l' := l2) (r' := { r with q := l2.ld }) (Upd.refl _ w) h.mem h.sl hu hb rfl rfl h.id h.id_p (fun k hk => .inl hk) rfl hd hav
  exact ⟨⟨FM, iv, rfl, h1⟩, h2⟩
def MSet (F : List Nat) (d : At) (r : Rw) (l2 : LdR) (w : World) (e : Ending) (w' : World) : Prop :=
  e = .returned (.tuple #[]) ∧ ∃ F' lg, lg.length ≤ r.log.length + 1 ∧ InL F' d l2 { r with q := l2.ld, ws := r.ws.set 0 l2.ts, log := lg } w' ∧ Goes F F' w w'
set_option maxRecDepth 100000 in
set_option maxHeartbeats 2000000 in
theorem setQueue_has {F : List Nat} {d : At} {r : Rw} {w : World} (h : InR F d r w) (hs : Sm r.mem) (h0 : r.ws[0]? = some r.q.ts) (t : Int) (l2 : LdR) (hd : HasD w l2) (hav : ∀ b ∈ F, AvD l2 b) :
    Calls Tryz.prog 38 #[.pointer (some ⟨d.p, 0, none⟩), .int .i64 t, encD l2] w (MSet F d r l2 w) := by
  obtain ⟨FM, iv, l, rfl, h⟩ := h
  have hsl : 0 < r.ws.length := (List.getElem?_eq_some_iff.1 h0).1
  have hts : l.ts = r.q.ts := by rw [← h.eq]; rfl
  have HQ := Lib.hid (fun W (hu : Upd [] w W) w' hw => (h.stay hu).queue (l2 := l2) (w' := w') (hd.stay hu) hav hw)
  have HST := Lib.hid (fun W (hi : InL (foot d FM iv) d l2 { r with q := l2.ld } W) => mstore_has hi hs t 0 l2.ts hsl)
  have HLT : Hid (∀ b ∈ foot d FM iv, b < w.heap.size) := h.lt
  have HSC : Hid (∀ W, InL (foot d FM iv) d l2 { r with q := l2.ld } W → W.cell? ⟨w.heap.size, 0, none⟩ = some (.int .i64 l2.ts) → Calls Tryz.prog 70 #[.pointer (some ⟨d.m, 0, none⟩), .int .i64 t, .int .i64 0, .int .i64 l2.ts] W fun e w' => e = .returned (.tuple #[]) ∧ (w'.cell? ⟨d.p, 0, none⟩ = some (.pointer (some ⟨d.m, 0, none⟩)) ∧ w'.cell? ⟨w.heap.size, 0, none⟩ = some (.int .i64 l2.ts)) ∧ ∃ F' lg, lg.length ≤ r.log.length + 1 ∧ InL F' d l2 { r with q := l2.ld, ws := r.ws.set 0 l2.ts, log := lg } w' ∧ Goes (foot d FM iv) F' W w') := fun W hi hc => by
    refine (HST.out W hi).mono ?_
    rintro e w' ⟨rfl, F', lg, hl, hi2, hg⟩
    exact ⟨rfl, ⟨hi2.r.cell0, hg.1.cell hc (fun hm => by have := HLT.out _ hm; simp only at this; omega)⟩, F', lg, hl, hi2, hg⟩
  have HPF : Hid (w.heap.size ∉ foot d FM iv) := fun hm => by have := HLT.out _ hm; omega
  clear HLT
  have HEQ : Hid (l.ts = l2.ts → ∀ W w', Upd [] w W → Goes (foot d FM iv) (foot d FM iv) W w' → InL (foot d FM iv) d l2 { r with q := l2.ld } w' → MSet (foot d FM iv) d r l2 w (.returned (.tuple #[])) w') := fun e W w' hu hg hi => by
    refine ⟨rfl, _, r.log, by omega, ?_, Goes.after hu hg⟩
    have e2 : r.ws.set 0 l2.ts = r.ws := set_same (by rw [h0, ← hts, e])
    rw [e2]; exact hi
  have HNE : Hid (∀ F' lg W w1 w', Upd [] w W → Goes (foot d FM iv) (foot d FM iv) W w1 → lg.length ≤ r.log.length + 1 → InL F' d l2 { r with q := l2.ld, ws := r.ws.set 0 l2.ts, log := lg } w' → Goes (foot d FM iv) F' w1 w' → MSet (foot d FM iv) d r l2 w (.returned (.tuple #[])) w') := fun F' lg W w1 w' hu hg hl hi hg2 =>
    ⟨rfl, F', lg, hl, hi, Goes.after hu (hg.trans hg2)⟩
  have hb := h.box
  unfold cellsT at hb
  unfold encD cellsD
  generalize MSet (foot d FM iv) d r l2 w = M at *
  generalize l2.ts = a0 at *
  generalize l2.top.ad = a1 at *
  generalize l2.top.l.length = a2 at *
  generalize l2.top.cap = a3 at *
  generalize l2.rs.ad = a4 at *
  generalize l2.rs.l.length = a5 at *
  generalize l2.rs.cap = a6 at *
  generalize l2.bot.ad = a7 at *
  generalize l2.bot.l.length = a8 at *
  generalize l2.bot.cap = a9 at *
  generalize l2.mv = aa at *
  generalize l2.cp = ab at *
  generalize l.ts = lt at *
  generalize l2.ld = g2 at *
  clear h hs h0 hd hav hsl hts
  go_enter Tryz.func38, Tryz.ntmps38
  go_upto_region 1 with (fail)
  have hu := (Upd.refl [] w).alloc (.cells #[.int .i64 a0, .slice a1 a2 a3, .slice a4 a5 a6, .slice a7 a8 a9, .int .i64 aa, .int .i64 ab] 68)
  have b0 := heap_alloc1 w (.cells #[.int .i64 a0, .slice a1 a2 a3, .slice a4 a5 a6, .slice a7 a8 a9, .int .i64 aa, .int .i64 ab] 68)
  have hb1 := hu.at hb (by simp)
  generalize w.alloc (.cells #[.int .i64 a0, .slice a1 a2 a3, .slice a4 a5 a6, .slice a7 a8 a9, .int .i64 aa, .int .i64 ab] 68) = W at *
  generalize w.heap.size = P at *
  obtain ⟨c0, c1, c2, c3, c4, c5⟩ := cells6 b0
  obtain ⟨k0, -, -, -, k4, -⟩ := cells10 hb1
  have HB := Lib.hid b0; have HB1 := Lib.hid hb1; have HU := Lib.hid hu
  have j0 := kept_at c0; have j4 := kept_at k4
  clear hb hb1 hu b0 c0 c1 c2 c3 c4 c5 k0 k4
  by_cases hne : a0 = lt
  · subst hne
    refine wp_region_quiet_kept mixed (by kernel_rfl) ?_
    repeat (go_big_quiet_step (fail))
    refine wpQuiet_nil ?_
    intro W3 hw'
    obtain ⟨⟨Wx, hu⟩, hw''⟩ := hw'
    simp only at hw''
    subst hw''
    clear j0 j4
    obtain ⟨c0, c1, c2, c3, c4, c5⟩ := cells6 (hu.at HB.out (by simp))
    obtain ⟨f2, f3, f4, f5, f6, f7, f8, f9⟩ := free10 (hu.at HB1.out (by simp))
    obtain ⟨k0, k1, k2, k3, k4, k5, k6, k7, k8, k9⟩ := cells10 (hu.at HB1.out (by simp))
    have HUW := Lib.hid (HU.out.thn hu)
    clear hu
    go_wp2_with fail
    obtain ⟨q1, q2⟩ := HQ.out _ HUW.out _ rfl
    go_end0
    exact HEQ.out (by first | rfl | trivial) _ _ HUW.out q2 q1
  · refine wp_region_quiet_kept mixed (by kernel_rfl) ?_
    repeat (go_big_quiet_step (fail))
    refine wpQuiet_nil ?_
    intro W3 hw'
    obtain ⟨⟨Wx, hu⟩, hw''⟩ := hw'
    simp only at hw''
    subst hw''
    clear j0 j4
    obtain ⟨c0, c1, c2, c3, c4, c5⟩ := cells6 (hu.at HB.out (by simp))
    obtain ⟨f2, f3, f4, f5, f6, f7, f8, f9⟩ := free10 (hu.at HB1.out (by simp))
    obtain ⟨k0, k1, k2, k3, k4, k5, k6, k7, k8, k9⟩ := cells10 (hu.at HB1.out (by simp))
    have HUW := Lib.hid (HU.out.thn hu)
    have hpd : P ≠ d.p := ne_block HB.out HB1.out (by decide)
    clear hu
    go_upto_region 4 with (fail)
    obtain ⟨q1, q2⟩ := HQ.out _ HUW.out _ rfl
    have hu5 := upd_q6 W3 d.p (.int .i64 a0) (.slice a1 a2 a3) (.slice a4 a5 a6) (.slice a7 a8 a9) (.int .i64 aa) (.int .i64 ab)
    with_reducible generalize (((((W3.setCell ⟨d.p, 4, none⟩ (.int .i64 a0)).setCell ⟨d.p, 5, none⟩ (.slice a1 a2 a3)).setCell ⟨d.p, 6, none⟩ (.slice a4 a5 a6)).setCell ⟨d.p, 7, none⟩ (.slice a7 a8 a9)).setCell ⟨d.p, 8, none⟩ (.int .i64 aa)).setCell ⟨d.p, 9, none⟩ (.int .i64 ab) = W5 at q1 q2 hu5 ⊢
    have hP0 : W5.cell? ⟨P, 0, none⟩ = some (.int .i64 a0) := hu5.cell c0 (by simpa using hpd)
    have hPF : P ∉ foot d FM iv := HPF.out
    have HST5 := Lib.hid (HSC.out W5.drew (q1.stay (Upd.refl [] W5).drew) hP0)
    have hd0 := q1.r.cell0
    have HQ2 := Lib.hid (q2.upd (Upd.refl [] W5).drew)
    clear q1 q2 hu5 c0 c1 c2 c3 c4 c5 f2 f3 f4 f5 f6 f7 f8 f9 k0 k1 k2 k3 k4 k5 k6 k7 k8 k9 hpd hPF hne
    go_region_held3 (fun wz => wz.cell? ⟨d.p, 0, none⟩ = some (.pointer (some ⟨d.m, 0, none⟩)) ∧ wz.cell? ⟨P, 0, none⟩ = some (.int .i64 a0)) (first | exact ⟨hd0, hP0⟩ | exact HX.out) (first | (go_at_call 70; (with_reducible refine HST5.out.mono ?_); rintro e w6 ⟨rfl, hx, hi⟩; have HX := Lib.hid hx; have HI := Lib.hid hi; clear hx hi))
    all_goals
      obtain ⟨F', lg, hl, hi, hg⟩ := HI.out
      go_end0
      exact HNE.out _ _ _ _ _ HUW.out HQ2.out hl hi hg
end Go.Proofs.YtmfnfinbkdemkaaGreat
