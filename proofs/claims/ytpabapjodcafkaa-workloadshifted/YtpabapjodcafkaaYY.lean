
/- For every script a shift of all times shifts the results, and changes neither their order nor the counts (WorkloadShifted). -/
import Derived.Test.YtpabapjodcafkaaYX
namespace Go.Proofs.Ytpabapjodcafkaa
open Go.RowKit Go.Lib

def opS (x : Wo) : Wo := ⟨x.p, max (x.t.tmod 1125899906842624) (-(x.t.tmod 1125899906842624))⟩
theorem tmodS_bd (t : Int) : -1125899906842623 ≤ t.tmod 1125899906842624 ∧ t.tmod 1125899906842624 ≤ 1125899906842623 := by
  rcases Int.le_total 0 t with h | h
  · rw [Int.tmod_eq_emod_of_nonneg h]; omega
  · have h2 : (-t).tmod 1125899906842624 = (-t) % 1125899906842624 := Int.tmod_eq_emod_of_nonneg (by omega)
    rw [Int.neg_tmod] at h2
    omega
theorem opS_bd (x : Wo) : 0 ≤ (opS x).t ∧ (opS x).t ≤ 1125899906842623 := by
  have h := tmodS_bd x.t
  unfold opS
  simp only
  omega
theorem opsS_bd (os : List Wo) : ∀ o ∈ os.map opS, 0 ≤ o.t ∧ o.t ≤ MaxT := fun o ho => by
  obtain ⟨x, _, rfl⟩ := List.mem_map.1 ho
  have h := opS_bd x
  unfold MaxT
  omega
theorem opsT_bd (os : List Wo) {b : Int} (hb : 0 ≤ b ∧ b < 4294967296) : ∀ o ∈ os.map opS, 0 ≤ o.t + b ∧ o.t + b ≤ MaxT := fun o ho => by
  obtain ⟨x, _, rfl⟩ := List.mem_map.1 ho
  have h := opS_bd x
  unfold MaxT
  omega
theorem opsU_bd (os : List Wo) {b : Int} (hb : 0 ≤ b ∧ b < 4294967296) : ∀ o ∈ (os.map opS).map (shO b), 0 ≤ o.t ∧ o.t ≤ MaxT := fun o ho => by
  obtain ⟨x, hx, rfl⟩ := List.mem_map.1 ho
  exact opsT_bd os hb x hx
theorem out_bd {os : List Wo} {n : Nat} : ∀ x ∈ (runW (os.map opS) n).out, 0 ≤ x.t ∧ x.t ≤ 1125899906842623 := fun x hx => by
  have hp := permW (opsS_bd os) n
  obtain ⟨j, hj, _, _, rfl⟩ := mem_insW (hp.subset (List.mem_append_left _ hx))
  simp only [List.getElem_map]
  exact opS_bd _
/-- Two rows of the call's own. -/
structure Rows2 (w wr : World) (l k : List Wo) (n : Nat) (va : Option Addr) (vc : Nat) (ka : Option Addr) (kc : Nat) : Prop where
  l : wr.ownsRow w.heap.size 31 LW.k (.slice va n vc) n (LW.flat l)
  k : wr.ownsRow w.heap.size 31 LW.k (.slice ka n kc) n (LW.flat k)
  ne : ∀ x, (Value.slice va n vc).ownBlock = some x → (Value.slice ka n kc).ownBlock ≠ some x
  upd : Upd [] w wr
theorem Rows2.stay {w a b : World} {l k : List Wo} {n : Nat} {va ka : Option Addr} {vc kc : Nat} (h : Rows2 w a l k n va vc ka kc) (hu : Upd [] a b) : Rows2 w b l k n va vc ka kc :=
  ⟨hu.row h.l (by simp), hu.row h.k (by simp), h.ne, h.upd.thn hu⟩
/-- The second row is behind the first by an item. -/
structure Rows2h (w wr : World) (l k : List Wo) (n : Nat) (va : Option Addr) (vc : Nat) (ka : Option Addr) (kc : Nat) : Prop where
  l : wr.ownsRow w.heap.size 31 LW.k (.slice va (n + 1) vc) (n + 1) (LW.flat l)
  k : wr.ownsRow w.heap.size 31 LW.k (.slice ka n kc) n (LW.flat k)
  ne : ∀ x, (Value.slice va (n + 1) vc).ownBlock = some x → (Value.slice ka n kc).ownBlock ≠ some x
  upd : Upd [] w wr
theorem Rows2h.stay {w a b : World} {l k : List Wo} {n : Nat} {va ka : Option Addr} {vc kc : Nat} (h : Rows2h w a l k n va vc ka kc) (hu : Upd [] a b) : Rows2h w b l k n va vc ka kc :=
  ⟨hu.row h.l (by simp), hu.row h.k (by simp), h.ne, h.upd.thn hu⟩
theorem Rows2.push {w a b : World} {l k : List Wo} {x : Wo} {n : Nat} {va ka v2 : Option Addr} {vc kc c2 : Nat} (h : Rows2 w a l k n va vc ka kc) (ho : b.ownsRow w.heap.size 31 LW.k (.slice v2 (n + 1) c2) (n + 1) (LW.flat (l ++ [x]))) (hg : a.grownBy b (Value.slice va n vc).ownBlock)
    (hw : (Value.slice v2 (n + 1) c2).ownBlock = (Value.slice va n vc).ownBlock ∨ (Value.slice v2 (n + 1) c2).ownBlock = some a.heap.size) : Rows2h w b (l ++ [x]) k n v2 c2 ka kc := by
  have hux : Upd ((Value.slice va n vc).ownBlock.toList) a b := (Upd.refl _ _).grown hg (fun x hx _ => by simp [hx])
  refine ⟨ho, hux.row h.k (fun x hx hm => h.ne x (by simpa using hm) hx), fun x hx => ?_, h.upd.grown hg (fun x hx hl => by have := own_ge h.l x hx; omega)⟩
  rcases hw with h2 | h2
  · rw [h2] at hx; exact h.ne x hx
  · rw [h2] at hx
    simp only [Option.some.injEq] at hx
    intro he
    have := (h.k.lt x he).2
    omega
theorem Rows2h.push {w a b : World} {l k : List Wo} {x : Wo} {n : Nat} {va ka v2 : Option Addr} {vc kc c2 : Nat} (h : Rows2h w a l k n va vc ka kc) (ho : b.ownsRow w.heap.size 31 LW.k (.slice v2 (n + 1) c2) (n + 1) (LW.flat (k ++ [x]))) (hg : a.grownBy b (Value.slice ka n kc).ownBlock)
    (hw : (Value.slice v2 (n + 1) c2).ownBlock = (Value.slice ka n kc).ownBlock ∨ (Value.slice v2 (n + 1) c2).ownBlock = some a.heap.size) : Rows2 w b l (k ++ [x]) (n + 1) va vc v2 c2 := by
  have hux : Upd ((Value.slice ka n kc).ownBlock.toList) a b := (Upd.refl _ _).grown hg (fun x hx _ => by simp [hx])
  refine ⟨hux.row h.l (fun x hx hm => h.ne x hx (by simpa using hm)), ho, fun x hx => ?_, h.upd.grown hg (fun x hx hl => by have := own_ge h.k x hx; omega)⟩
  rcases hw with h2 | h2
  · rw [h2]; exact h.ne x hx
  · rw [h2]
    intro he
    simp only [Option.some.injEq] at he
    have := (h.l.lt x hx).2
    omega
set_option maxRecDepth 100000 in
set_option maxHeartbeats 8000000 in
theorem Shifted_any (la : Option Addr) (lc : Nat) (os : List Wo) (b : Int) (w : World) (ho : Row LW w la os) (hb : 0 ≤ b ∧ b < 4294967296) :
    Calls Try.prog 6 #[.slice la os.length lc, .int .u32 b] w fun e w' => e = .returned (.bool true) ∧ Upd [] w w' := by
  have HHD := Lib.hid head_true
  obtain ⟨n, hn⟩ : ∃ n, n = os.length := ⟨_, rfl⟩
  by_cases hl : n ≤ 150
  · have hlz : ¬ (150 : Int) < (n : Int) := by omega
    have hL : n = (os.map opS).length := by rw [List.length_map]; exact hn
    have hK : n = ((os.map opS).map (shO b)).length := by rw [List.length_map]; exact hL
    have HRU := Lib.hid (fun a c W (h : Row LW W a (os.map opS)) => run_call (lc := c) h (by omega) (opsS_bd os) hL)
    have HRK := Lib.hid (fun a c W (h : Row LW W a ((os.map opS).map (shO b))) => run_call (lc := c) h (by omega) (opsU_bd os hb) hK)
    have hol : (runW (os.map opS) n).out.length ≤ n := out_le (opsS_bd os)
    have HOB := Lib.hid (out_bd (os := os) (n := n))
    have hre := relS (os := os.map opS) (b := b) (opsS_bd os) (opsT_bd os hb) n
    have HRO := Lib.hid ho
    have HSU : Hid (∀ k (h : k < os.length), (os.take (k + 1)).map opS = (os.take k).map opS ++ [opS os[k]]) := fun k h => by rw [List.take_succ_eq_append_getElem h, List.map_append]; rfl
    have HSV : Hid (∀ k (h : k < os.length), ((os.take (k + 1)).map opS).map (shO b) = ((os.take k).map opS).map (shO b) ++ [shO b (opS os[k])]) := fun k h => by rw [List.take_succ_eq_append_getElem h, List.map_append, List.map_append]; rfl
    have HZ : Hid ((os.take 0).map opS = []) := rfl
    have HAL : Hid ((os.take n).map opS = os.map opS) := by rw [hn, List.take_length]; rfl
    obtain ⟨g, hg⟩ : ∃ g : Nat → List Wo, g = fun k => (os.take k).map opS := ⟨_, rfl⟩
    have HSU : Hid (∀ k (h : k < os.length), g (k + 1) = g k ++ [opS os[k]]) := by rw [hg]; exact HSU
    have HSV : Hid (∀ k (h : k < os.length), (g (k + 1)).map (shO b) = (g k).map (shO b) ++ [shO b (opS os[k])]) := by rw [hg]; exact HSV
    have HZ : Hid (g 0 = []) := by rw [hg]; exact HZ
    have HAL : Hid (g n = os.map opS) := by rw [hg]; exact HAL
    clear hg
    rw [← hn]
    unfold RanO at HRU HRK
    simp only [hre.out, hre.ins, hre.mx, List.length_map] at HRK
    generalize (runW ((os.map opS).map (shO b)) n).l.mv = mv2 at *
    generalize (runW ((os.map opS).map (shO b)) n).l.cp = cp2 at *
    generalize (runW ((os.map opS).map (shO b)) n).dep = dep2 at *
    clear hre
    generalize os.map opS = L at *
    generalize runW L n = s at *
    obtain ⟨m, hm⟩ : ∃ m, m = s.out.length := ⟨_, rfl⟩
    rw [← hm] at hol HRU HRK
    have HM := Lib.hid hm; have HN := Lib.hid hn
    have hwb : IntKind.i64.wrap b = b := by rw [IntKind.wrap_i64]; omega
    have HBD := Lib.hid hb
    clear hm hn hL hK ho hb
    go_enter Try.func6, Try.ntmps6
    go_upto_region 2 with (go_at_call 7; (with_reducible refine (HHD.out _).mono ?_); rintro e w1 ⟨rfl, hu1⟩)
    have HU1 := Lib.hid hu1
    have HRO1 := Lib.hid (HRO.out.stay hu1)
    clear hu1 HHD HRO
    go_wp2_with fail
    go_loopg [6, 7, 8] n (fun gk v6 v7 v8 wr => ∃ (k : Nat) (va : Option Addr) (vc : Nat) (ka : Option Addr) (kc : Nat), v6 = .slice va k vc ∧ v7 = .slice ka k kc ∧ v8 = .int .i64 k ∧ k + gk = n ∧ Hid (Rows2 w1 wr (g k) ((g k).map (shO b)) k va vc ka kc))
    case atStart => exact ⟨0, none, 0, none, 0, rfl, rfl, rfl, by omega, by rw [HZ.out]; exact ⟨flat_nil_w _ _, flat_nil_w _ _, fun x hx => by simp [Value.ownBlock] at hx, Upd.refl [] w1⟩⟩
    case round =>
      obtain ⟨k, va, vc, ka, kc, rfl, rfl, rfl, hkg, HRW⟩ := hrel
      by_cases hlt : k < n
      · have hltz : (k : Int) < (n : Int) := by omega
        have hk1 : k < os.length := by have := HN.out; omega
        obtain ⟨b0, off, hb0, x0, x1⟩ := (HRO1.out.stay HRW.out.upd).work k hk1
        have HSK := Lib.hid (HSU.out k hk1); have HSL := Lib.hid (HSV.out k hk1)
        obtain ⟨⟨p, t⟩, hx⟩ : ∃ x, x = os[k]'hk1 := ⟨_, rfl⟩
        rw [← hx] at x0 x1 HSK HSL
        simp only at x0 x1
        subst hb0
        have hbd := tmodS_bd t
        obtain ⟨r, hr⟩ : ∃ r, r = t.tmod 1125899906842624 := ⟨_, rfl⟩
        have HSK2 : Hid (g (k + 1) = g k ++ [⟨p, max r (-r)⟩]) := by rw [hr]; exact HSK
        have HSL2 : Hid ((g (k + 1)).map (shO b) = (g k).map (shO b) ++ [⟨p, max r (-r) + b⟩]) := by rw [hr]; exact HSL
        rw [← hr] at hbd
        have hr2 : t.tmod 1125899906842624 = r := hr.symm
        have hwm : IntKind.i64.wrap (-r) = -r := by rw [IntKind.wrap_i64]; omega
        have hwr : IntKind.i64.wrap r = r := by rw [IntKind.wrap_i64]; omega
        have hwk : IntKind.i64.wrap ((k : Int) + 1) = (k : Int) + 1 := by rw [IntKind.wrap_i64]; omega
        have HXP : Hid ((os[k]'hk1).p = p) := Lib.hid (by rw [← hx])
        clear hx HSK HSL hr
        obtain ⟨u, hu⟩ : ∃ u, u = max r (-r) := ⟨_, rfl⟩
        have hwu : IntKind.i64.wrap (u + b) = u + b := by rw [IntKind.wrap_i64]; have := HBD.out; omega
        rw [← hu] at HSK2 HSL2
        have hmx : max r (-r) = u := hu.symm
        clear hu
        go_upto_region 9 with (fail)
        go_quiet (fail)
        obtain ⟨W2, hW2⟩ : ∃ W2, W2 = wr.drewN nq := ⟨_, rfl⟩
        have hd : Upd [] wr W2 := by rw [hW2]; exact (Upd.refl [] wr).drewN nq
        rw [← hW2]
        clear hW2
        replace HRW := Lib.hid (HRW.out.stay hd)
        replace x0 := hd.cell x0 (by simp)
        clear x1 hd hmx hr2 hwm hwr
        have hsz := HRW.out.upd.size
        have hu5 := (Upd.refl [] W2).alloc (.cells #[.bool p, .int .i64 u] 31)
        have HRX := Lib.hid (work_cells (x := ⟨p, u⟩) (heap_alloc1 W2 (.cells #[.bool p, .int .i64 u] 31)))
        have HR5 := Lib.hid (HRW.out.stay hu5)
        go_upto_region 11 with (at_builtin; refine app_row2 tyW rfl _ _ rfl w1.heap.size (.slice va k vc) k (g k) rfl HR5.out.l ⟨W2.heap.size, 0, none⟩ 1 1 [⟨p, u⟩] rfl rfl (by decide) HRX.out (by omega) (by simp; omega) ?_; intro v3 w3 hown hgrow hwh; obtain ⟨va2, vc2, rfl⟩ := row_shape hown)
        have HR6 : Hid (Rows2h w1 w3 (g (k + 1)) ((g k).map (shO b)) k va2 vc2 ka kc) := by rw [HSK2.out]; exact HR5.out.push hown hgrow hwh
        obtain ⟨b1, off1, hb1, y0, -⟩ := (HRO1.out.stay HR6.out.upd).work k (by have := HN.out; omega)
        simp only [Option.some.injEq, Addr.mk.injEq, and_true] at hb1
        obtain ⟨rfl, rfl⟩ := hb1
        have HPX := Lib.hid (HXP.out)
        rw [HXP.out] at y0
        clear hown hgrow hwh HR5 HRX hu5 x0 HRW hsz
        have hsz := HR6.out.upd.size
        have hu5 := (Upd.refl [] w3).alloc (.cells #[.bool p, .int .i64 (u + b)] 31)
        have HRX := Lib.hid (work_cells (x := ⟨p, u + b⟩) (heap_alloc1 w3 (.cells #[.bool p, .int .i64 (u + b)] 31)))
        have HR7 := Lib.hid (HR6.out.stay hu5)
        clear hu5
        go_upto_region 8 with (at_builtin; refine app_row2 tyW rfl _ _ rfl w1.heap.size (.slice ka k kc) k ((g k).map (shO b)) rfl HR7.out.k ⟨w3.heap.size, 0, none⟩ 1 1 [⟨p, u + b⟩] rfl rfl (by decide) HRX.out (by omega) (by simp; omega) ?_; intro v4 w4 hown hgrow hwh; obtain ⟨ka2, kc2, rfl⟩ := row_shape hown)
        have HR8 : Hid (Rows2 w1 w4 (g (k + 1)) ((g (k + 1)).map (shO b)) (k + 1) va2 vc2 ka2 kc2) := by rw [HSL2.out]; exact HR7.out.push hown hgrow hwh
        clear hown hgrow hwh HR7 HRX y0
        go_wp2_with fail
        go_roundg (n - (k + 1))
        case measure => omega
        case rel => exact ⟨k + 1, va2, vc2, ka2, kc2, rfl, rfl, by go_num, by omega, HR8⟩
      · have hltz : ¬ (k : Int) < (n : Int) := by omega
        obtain rfl : k = n := by omega
        have HRN := HRW.out
        rw [HAL.out] at HRN
        obtain ⟨-, a3, c3, e3, hS3, -⟩ := hasS_row HRN.l
        obtain ⟨-, a4, c4, e4, hS4, -⟩ := hasS_row HRN.k
        simp only [Value.slice.injEq, true_and] at e3 e4
        obtain ⟨rfl, rfl⟩ := e3
        obtain ⟨rfl, rfl⟩ := e4
        have HA := Lib.hid hS3.row; have HK := Lib.hid hS4.row; have HU2 := Lib.hid (HU1.out.thn HRN.upd)
        clear hS3 hS4 HRN HRW HU1 HRO1 HSU HSV HZ HAL hltz hlt hkg
        have HR1 := Lib.hid (HRU.out va vc wr HA.out)
        go_upto_region 13 with (go_at_call 9; (with_reducible refine HR1.out.mono ?_); rintro e w3 ⟨oa, oc, rfl, hh, hu⟩)
        have hal := (Upd.refl [] w3).alloc (.cells #[.int .i64 (s.ins : Nat), .int .i64 (m : Nat), .int .i64 s.l.mv, .int .i64 s.l.cp, .int .i64 (s.dep : Nat), .int .i64 (s.mx : Nat)] 27)
        have b3 := heap_alloc1 w3 (.cells #[.int .i64 (s.ins : Nat), .int .i64 (m : Nat), .int .i64 s.l.mv, .int .i64 s.l.cp, .int .i64 (s.dep : Nat), .int .i64 (s.mx : Nat)] 27)
        generalize w3.alloc (.cells #[.int .i64 (s.ins : Nat), .int .i64 (m : Nat), .int .i64 s.l.mv, .int .i64 s.l.cp, .int .i64 (s.dep : Nat), .int .i64 (s.mx : Nat)] 27) = W3 at *
        generalize w3.heap.size = P3 at *
        have HK3 := Lib.hid (HK.out.stay (hu.thn hal)); have HU3 := Lib.hid (HU2.out.thn (hu.thn hal)); have HB3 := Lib.hid b3; have HH3 := Lib.hid (hh.stay hal)
        clear hh hu hal b3 HR1 HRU HA HK HU2
        have HR2 := Lib.hid (HRK.out ka kc W3 HK3.out)
        go_upto_region 14 with (go_at_call 9; (with_reducible refine HR2.out.mono ?_); rintro e w4 ⟨ob, obc, rfl, hh, hu⟩)
        have hal := (Upd.refl [] w4).alloc (.cells #[.int .i64 (s.ins : Nat), .int .i64 (m : Nat), .int .i64 mv2, .int .i64 cp2, .int .i64 (dep2 : Nat), .int .i64 (s.mx : Nat)] 27)
        have b4 := heap_alloc1 w4 (.cells #[.int .i64 (s.ins : Nat), .int .i64 (m : Nat), .int .i64 mv2, .int .i64 cp2, .int .i64 (dep2 : Nat), .int .i64 (s.mx : Nat)] 27)
        generalize w4.alloc (.cells #[.int .i64 (s.ins : Nat), .int .i64 (m : Nat), .int .i64 mv2, .int .i64 cp2, .int .i64 (dep2 : Nat), .int .i64 (s.mx : Nat)] 27) = W4 at *
        generalize w4.heap.size = P4 at *
        have HU4 := Lib.hid (HU3.out.thn (hu.thn hal)); have HH4 := Lib.hid (hh.stay hal); have HH34 := Lib.hid (HH3.out.stay (hu.thn hal))
        obtain ⟨p0, p1, p2, p3, p4, p5⟩ := cells6 ((hu.thn hal).at HB3.out (by simp))
        obtain ⟨q0, q1, q2, q3, q4, q5⟩ := cells6 b4
        clear hh hu hal b4 HR2 HRK HH3 HB3 HU3 HK3 p2 p3 p4 q2 q3 q4
        go_upto_region 16 with (fail)
        clear p0 p1 p5 q0 q1 q5
        go_wp2_with fail
        go_loopg [14] m (fun gj v wq => ∃ j : Nat, v = .int .i64 j ∧ j + gj = m ∧ Hid (Upd [] W4 wq))
        case atStart => exact ⟨0, rfl, by omega, Upd.refl [] W4⟩
        case round =>
          obtain ⟨j, rfl, hjg, HUQ⟩ := hrel
          by_cases hltj : j < m
          · have hjz : (j : Int) < (m : Int) := by omega
            have hj1 : j < s.out.length := by have := HM.out; omega
            have hj2 : j < (s.out.map (shI b)).length := by rw [List.length_map]; exact hj1
            obtain ⟨ba, fa, e5, y0, y1, -⟩ := (HH34.out.stay HUQ.out).row.item j hj1
            obtain ⟨bb, fb, e6, z0, z1, -⟩ := (HH4.out.stay HUQ.out).row.item j hj2
            simp only [List.getElem_map] at y0 y1 z0 z1
            simp only at e5 e6
            subst e5; subst e6
            have hxb := HOB.out _ (List.getElem_mem hj1)
            obtain ⟨⟨tx, qx, sx⟩, hx⟩ : ∃ x, x = s.out[j]'hj1 := ⟨_, rfl⟩
            rw [← hx] at y0 y1 z0 z1 hxb
            simp only [shI] at y0 y1 z0 z1 hxb
            have hwx : IntKind.i64.wrap (tx + b) = tx + b := by rw [IntKind.wrap_i64]; have := HBD.out; omega
            have hwj : IntKind.i64.wrap ((j : Int) + 1) = (j : Int) + 1 := by rw [IntKind.wrap_i64]; omega
            clear hx hj1 hj2 hxb
            go_upto_region 19 with (fail)
            go_quiet (fail)
            have hd : Upd [] wr (wr.drewN nq) := (Upd.refl [] wr).drewN nq
            have HUQ2 := Lib.hid (HUQ.out.thn hd)
            generalize wr.drewN nq = W6 at *
            clear y0 y1 z0 z1 hd hwx
            go_wp2_with fail
            go_roundg (m - (j + 1))
            case measure => omega
            case rel => exact ⟨j + 1, by go_num, by omega, HUQ2⟩
          · have hjz : ¬ (j : Int) < (m : Int) := by omega
            obtain rfl : j = m := by omega
            go_wp2_with fail
            go_ret
            exact ⟨rfl, HU4.out.thn HUQ.out⟩
  · have hlz : (150 : Int) < (n : Int) := by omega
    rw [← hn]
    clear hn ho
    go_enter Try.func6, Try.ntmps6
    go_upto_region 2 with (go_at_call 7; (with_reducible refine (HHD.out _).mono ?_); rintro e w1 ⟨rfl, hu1⟩)
    have HU1 := Lib.hid hu1
    clear hu1 HHD
    go_wp2_with fail
    go_ret
    exact ⟨rfl, HU1.out⟩
end Go.Proofs.Ytpabapjodcafkaa
