
/- For every script that a drain follows every inserted item is returned exactly once, the last ones in order (WorkloadDrains). -/
import Derived.Test.YtpabapjodcafkaaYX
namespace Go.Proofs.Ytpabapjodcafkaa
open Go.RowKit Go.Lib

theorem infoBool : (Try.prog.info? 4).map (fun i => (i.zero, i.size, i.bytes)) = some (some (.bool false), 1, 1) := by kernel_rfl
/-- The block G marks the numbers Q among the first n. -/
structure MetR (wr : World) (G n : Nat) (Q : List Nat) : Prop where
  ex : ∃ cur, wr.heap[G]? = some (.cells cur 4 (0, 0)) ∧ ∀ q, q < n → cur[q]? = some (.bool (decide (q ∈ Q)))
theorem MetR.stay {a b : World} {G n : Nat} {Q : List Nat} (h : MetR a G n Q) (hu : Upd [] a b) : MetR b G n Q := by
  obtain ⟨cur, h1, h2⟩ := h.ex
  exact ⟨cur, hu.at h1 (by simp), h2⟩
theorem MetR.cell {a : World} {G n : Nat} {Q : List Nat} (h : MetR a G n Q) {q : Nat} (hq : q < n) : a.cell? ⟨G, q, none⟩ = some (.bool (decide (q ∈ Q))) := by
  obtain ⟨cur, h1, h2⟩ := h.ex
  rw [cell_block h1, h2 q hq]
theorem MetR.free {a : World} {G n : Nat} {Q : List Nat} (h : MetR a G n Q) (q : Nat) : a.frozen? ⟨G, q, none⟩ = false := by
  obtain ⟨cur, h1, _⟩ := h.ex
  exact free_block h1 q
theorem MetR.set {a : World} {G n : Nat} {Q : List Nat} (h : MetR a G n Q) {q : Nat} (hq : q < n) : MetR (a.setCell ⟨G, q, none⟩ (.bool true)) G n (Q ++ [q]) := by
  obtain ⟨cur, h1, h2⟩ := h.ex
  refine ⟨_, setCell_block h1 _, fun p hp => ?_⟩
  by_cases e : p = q
  · subst e
    have hsz : p < cur.size := by
      have := h2 p hp
      exact (Array.getElem?_eq_some_iff.1 this).1
    rw [Array.getElem?_setIfInBounds_self_of_lt hsz]
    simp
  · rw [Array.getElem?_setIfInBounds_ne (fun h => e h.symm), h2 p hp]
    simp [e]
theorem met_made (w : World) (n : Nat) : MetR (w.alloc (.cells (madeCells #[.bool false] n) 4)) w.heap.size n [] := by
  refine ⟨_, heap_alloc1 w _, fun q hq => ?_⟩
  simp [madeCells, hq, Nat.mod_one]
theorem ops_call2 {la : Option Addr} {lc n : Nat} {os : List Wo} {w : World} (ho : Row LW w la os) (hl : os.length ≤ 1000) (hn : n = os.length) :
    Calls Try.prog 8 #[.slice la n lc] w fun e w' => ∃ a c, e = .returned (.slice a n c) ∧ HasS LW w' ⟨os.map opW, a, c⟩ ∧ Upd [] w w' := by
  subst hn
  refine (Ops_has la lc os w ho hl).mono ?_
  rintro e w' ⟨s', rfl, h⟩
  obtain ⟨h1, h2, h3⟩ := h.out
  have h4 := h.has
  have h5 := h.eq
  obtain ⟨l, a, c⟩ := s'
  simp only at h5
  subst h5
  exact ⟨a, c, by simp only [List.length_map], h4, h3⟩
def qN (x : It) : Nat := x.q.toNat
/-- What the loop over the results asks of the i-th. -/
structure AtW (L : List Wo) (O : List It) (B i : Nat) (h : i < O.length) : Prop where
  num : ∃ j : Nat, ∃ hj : j < L.length, O[i].q = (j : Int) ∧ L[j].p = false ∧ L[j].t = O[i].t ∧ j ∉ (O.take i).map qN
  ord : B < i → ∃ h1 : i - 1 < O.length, ltI O[i - 1] O[i]
theorem atW {L : List Wo} {O : List It} (hd : Drained L O) {i : Nat} (h : i < O.length) : AtW L O (runW L L.length).out.length i h := by
  obtain ⟨j, hj, h1, h2⟩ := hd.mem i h
  have hq : O[i].q = (j : Int) := by rw [h2]
  refine ⟨⟨j, hj, hq, h1, by rw [h2], fun hm => ?_⟩, fun hB => ⟨by omega, ?_⟩⟩
  · obtain ⟨x, hx, hxj⟩ := List.mem_map.1 hm
    obtain ⟨k, hk, rfl⟩ := List.mem_iff_getElem.1 hx
    rw [List.length_take] at hk
    rw [List.getElem_take] at hxj
    have h3 := hd.one k i (by omega) h (by omega)
    obtain ⟨j2, _, _, h4⟩ := hd.mem k (by omega)
    have h5 : O[k].q = (j2 : Int) := by rw [h4]
    apply h3
    rw [hq, h5]
    simp only [qN, h5, Int.toNat_natCast] at hxj
    rw [hxj]
  · have h3 := hd.ord (i - 1) (by omega) (by omega)
    have h4 : i - 1 + 1 = i := by omega
    simp only [h4] at h3
    exact h3
set_option maxRecDepth 100000 in
set_option maxHeartbeats 8000000 in
theorem Drains_any (la : Option Addr) (lc : Nat) (os : List Wo) (w : World) (ho : Row LW w la os) :
    Calls Try.prog 5 #[.slice la os.length lc] w fun e w' => e = .returned (.bool true) ∧ Upd [] w w' := by
  have HHD := Lib.hid head_true
  obtain ⟨n, hn⟩ : ∃ n, n = os.length := ⟨_, rfl⟩
  by_cases hl : n ≤ 150
  · have hlz : ¬ (150 : Int) < (n : Int) := by omega
    have hL : n = (os.map opW).length := by rw [List.length_map]; exact hn
    have HOP := Lib.hid (fun W (hu : Upd [] w W) => ops_call2 (lc := lc) (ho.stay hu) (by omega) hn)
    have hbd := ops_bd os
    rw [← hn]
    clear hn ho
    generalize os.map opW = L at *
    have hok := okW L hbd n
    have hik := hok.ik
    have HRU := Lib.hid (fun a c W (h : Row LW W a L) => run_call (lc := c) h (by omega) hbd hL)
    have hdr := drained hbd (m := (runW L n).ins) (by rw [hL])
    have HRA := Lib.hid (fun a c W (h : Row LW W a (L ++ List.replicate (runW L n).ins popO)) => run_call (lc := c) (n := n + (runW L n).ins) h (by simp; omega) (pops_bd hbd _) (by simp; omega))
    have hlen : (L ++ List.replicate (runW L n).ins popO).length = n + (runW L n).ins := by simp; omega
    rw [hlen] at hdr
    have HAT : Hid (∀ i (h : i < (runW (L ++ List.replicate (runW L n).ins popO) (n + (runW L n).ins)).out.length), AtW L _ (runW L n).out.length i h) := fun i h => by
      have := atW hdr h
      rw [← hL] at this
      exact this
    have HPR : Hid ((runW (L ++ List.replicate (runW L n).ins popO) (n + (runW L n).ins)).out.take (runW L n).out.length = (runW L n).out) := by have := hdr.pre; rw [← hL] at this; exact this
    have hple : (runW L n).out.length ≤ (runW (L ++ List.replicate (runW L n).ins popO) (n + (runW L n).ins)).out.length := by have := hdr.ple; rw [← hL] at this; exact this
    have HOL : Hid ((runW (L ++ List.replicate (runW L n).ins popO) (n + (runW L n).ins)).out.length = (runW L n).ins) := by have := hdr.len; rw [← hL] at this; exact this
    clear hdr hlen hok
    unfold RanO at HRU HRA
    generalize runW L n = s at *
    generalize runW (L ++ List.replicate s.ins popO) (n + s.ins) = S2 at *
    have HLL := Lib.hid hL
    rw [HOL.out] at hple HRA
    obtain ⟨I, hI⟩ : ∃ I, I = s.ins := ⟨_, rfl⟩
    obtain ⟨m, hm⟩ : ∃ m, m = s.out.length := ⟨_, rfl⟩
    rw [← hI] at hik hple HRA HRU HOL
    rw [← hm] at hple HRU HPR HAT
    have HM := Lib.hid hm
    clear hL hbd hI hm
    go_enter Try.func5, Try.ntmps5
    go_upto_region 2 with (go_at_call 7; (with_reducible refine (HHD.out _).mono ?_); rintro e w1 ⟨rfl, hu1⟩)
    have HU1 := Lib.hid hu1
    clear hu1 HHD
    go_upto_region 5 with (go_at_call 8; (with_reducible refine (HOP.out _ HU1.out).mono ?_); rintro e w2 ⟨a, c, rfl, hr, hu⟩)
    have HR2 := Lib.hid hr; have HU2 := Lib.hid (HU1.out.thn hu)
    clear hr hu HU1 HOP
    have HRN := Lib.hid (HRU.out a c w2 HR2.out.row)
    go_upto_region 6 with (go_at_call 9; (with_reducible refine HRN.out.mono ?_); rintro e w3 ⟨oa, oc, rfl, hh, hu⟩)
    have hal := (Upd.refl [] w3).alloc (.cells #[.int .i64 (I : Nat), .int .i64 (m : Nat), .int .i64 s.l.mv, .int .i64 s.l.cp, .int .i64 (s.dep : Nat), .int .i64 (s.mx : Nat)] 27)
    have b3 := heap_alloc1 w3 (.cells #[.int .i64 (I : Nat), .int .i64 (m : Nat), .int .i64 s.l.mv, .int .i64 s.l.cp, .int .i64 (s.dep : Nat), .int .i64 (s.mx : Nat)] 27)
    generalize w3.alloc (.cells #[.int .i64 (I : Nat), .int .i64 (m : Nat), .int .i64 s.l.mv, .int .i64 s.l.cp, .int .i64 (s.dep : Nat), .int .i64 (s.mx : Nat)] 27) = W3 at *
    generalize w3.heap.size = P3 at *
    have HL3 := Lib.hid (HR2.out.stay (hu.thn hal)); have HU3 := Lib.hid (HU2.out.thn (hu.thn hal)); have HB3 := Lib.hid b3; have HO3 := Lib.hid (hh.stay hal)
    clear hh hu hal b3 HRN HRU HR2 HU2
    have HW0 := Lib.hid (World.ownsRow_made (base := W3.heap.size) (size := LW.k) (e := 31) W3 #[] 0 (Nat.le_refl _) (Nat.zero_le _) (by simp))
    have hu5 := (Upd.refl [] W3).alloc (.cells #[] 31)
    have HL4 := Lib.hid (HL3.out.row.stay hu5)
    have HNN := Lib.hid HL3.out.nn
    go_upto_region 7 with (at_builtin; refine app_row tyW rfl _ _ rfl W3.heap.size (.slice (some ⟨W3.heap.size, 0, none⟩) 0 0) 0 [] rfl HW0.out a n c L rfl HLL.out HL4.out HNN.out (by omega) (by simp) ?_; intro v4 w4 hown hgrow; rw [Nat.zero_add, List.nil_append] at hown; obtain ⟨va, vc, rfl⟩ := row_shape hown)
    have HOW := Lib.hid hown
    have HU4 : Hid (Upd [] W3 w4) := hu5.grown hgrow (fun x hx hl => by simp [Value.ownBlock] at hx; omega)
    clear hown hgrow hu5 HW0 HL4 HNN
    go_wp2_with fail
    go_loopg [7, 8] I (fun gk v7 v8 wr => ∃ (k : Nat) (va : Option Addr) (vc : Nat), v7 = .slice va (n + k) vc ∧ v8 = .int .i64 k ∧ k + gk = I ∧ Hid (wr.ownsRow W3.heap.size 31 LW.k (.slice va (n + k) vc) (n + k) (LW.flat (L ++ List.replicate k popO))) ∧ Hid (Upd [] W3 wr))
    case atStart => exact ⟨0, va, vc, rfl, rfl, by omega, by rw [List.replicate_zero, List.append_nil]; exact HOW, HU4⟩
    case round =>
      obtain ⟨k, va, vc, rfl, rfl, hkg, HOK, HUR⟩ := hrel
      obtain ⟨c0, c1, c2, c3, c4, c5⟩ := cells6 (HUR.out.at HB3.out (by simp))
      clear c1 c2 c3 c4 c5
      by_cases hlt : k < I
      · have hltz : (k : Int) < (I : Int) := by omega
        have hltn : (k : Int) < (n : Int) := by omega
        have hwk : IntKind.i64.wrap ((k : Int) + 1) = (k : Int) + 1 := by rw [IntKind.wrap_i64]; omega
        have hsz := HUR.out.size
        have hu5 := (Upd.refl [] wr).alloc (.cells #[.bool true, .int .i64 0] 31)
        have HRX := Lib.hid (work_cells (x := popO) (heap_alloc1 wr (.cells #[.bool true, .int .i64 0] 31)))
        have HO5 := Lib.hid (hu5.row HOK.out (by simp))
        have HU5 := Lib.hid (HUR.out.thn hu5)
        clear hu5
        go_upto_region 10 with (fail)
        go_upto_region 9 with (at_builtin; refine app_row tyW rfl _ _ rfl W3.heap.size (.slice va (n + k) vc) (n + k) (L ++ List.replicate k popO) rfl HO5.out (some ⟨wr.heap.size, 0, none⟩) 1 1 [popO] rfl rfl HRX.out (fun e => by simp at e) (by omega) (by simp; omega) ?_; intro v2 w5 hown hgrow; obtain ⟨va2, vc2, rfl⟩ := row_shape hown)
        have HO6 : Hid (w5.ownsRow W3.heap.size 31 LW.k (.slice va2 (n + (k + 1)) vc2) (n + (k + 1)) (LW.flat (L ++ List.replicate (k + 1) popO))) := by
          rw [List.replicate_succ', ← List.append_assoc]
          exact hown
        have HU6 : Hid (Upd [] W3 w5) := HU5.out.grown hgrow (fun x hx hl => by have := own_ge HOK.out x hx; omega)
        clear hown hgrow HO5 HRX HU5 c0 hsz
        go_wp2_with fail
        go_roundg (I - (k + 1))
        case measure => omega
        case rel => exact ⟨k + 1, va2, vc2, rfl, by go_num, by omega, HO6, HU6⟩
      · have hltz : ¬ (k : Int) < (I : Int) := by omega
        obtain rfl : k = I := by omega
        obtain ⟨-, a4, c4, e4, hS4, -⟩ := hasS_row HOK.out
        simp only [Value.slice.injEq, true_and] at e4
        obtain ⟨rfl, rfl⟩ := e4
        have HRN := Lib.hid (HRA.out va vc wr hS4.row)
        have HUW := Lib.hid (HU3.out.thn HUR.out)
        have HB4 := Lib.hid (HUR.out.at HB3.out (by simp)); have HO4 := Lib.hid (HO3.out.stay HUR.out); have HL4 := Lib.hid (HL3.out.stay HUR.out)
        clear hS4 HOK HRA HUR HB3 HO3 HL3 HU3 HOW HU4 hlt hkg
        go_upto_region 11 with (fail)
        clear c0 hltz
        go_upto_region 12 with (go_at_call 9; (with_reducible refine HRN.out.mono ?_); rintro e w5 ⟨ob, obc, rfl, hh, hu⟩)
        have hal := (Upd.refl [] w5).alloc (.cells #[.int .i64 (S2.ins : Nat), .int .i64 (k : Nat), .int .i64 S2.l.mv, .int .i64 S2.l.cp, .int .i64 (S2.dep : Nat), .int .i64 (S2.mx : Nat)] 27)
        generalize w5.alloc (.cells #[.int .i64 (S2.ins : Nat), .int .i64 (k : Nat), .int .i64 S2.l.mv, .int .i64 S2.l.cp, .int .i64 (S2.dep : Nat), .int .i64 (S2.mx : Nat)] 27) = W5 at *
        generalize w5.heap.size = P5 at *
        have HU5 := Lib.hid (HUW.out.thn (hu.thn hal)); have HB5 := Lib.hid ((hu.thn hal).at HB4.out (by simp)); have HO5 := Lib.hid (HO4.out.stay (hu.thn hal)); have HL5 := Lib.hid (HL4.out.stay (hu.thn hal)); have HA5 := Lib.hid (hh.stay hal)
        clear hh hu hal HRN HUW HB4 HO4 HL4
        obtain ⟨c0, c1, c2, c3, c4, c5⟩ := cells6 HB5.out
        clear c1 c2 c3 c4 c5
        have hkc : k ≤ obc := by have := HA5.out.le; have h2 := HOL.out; simp only at this; omega
        have hmc : m ≤ obc := by omega
        have g1 : decide (k < m) = false := decide_eq_false (by omega)
        have g2 : decide ((k : Int) < (m : Int)) = false := decide_eq_false (by omega)
        have HTK : Hid (Row LI W5 ob (S2.out.take m)) := fun j hj => by
          rw [List.length_take] at hj
          obtain ⟨b, o, e, h⟩ := HA5.out.row j (by show j < S2.out.length; omega)
          exact ⟨b, o, e, fun t u hu => h t u (by rw [List.getElem_take] at hu; exact hu)⟩
        have HSA := Lib.hid (same_call (m := m) (k := m) (ca := obc) (cb := oc) HTK.out HO5.out.row (by have := HOL.out; rw [List.length_take]; omega) HM.out (by omega) HPR.out)
        go_upto_region 14 with (go_at_call 12; (with_reducible refine HSA.out.mono ?_); rintro e w6 ⟨rfl, hu6⟩)
        have HU6 := Lib.hid (HU5.out.thn hu6); have HL6 := Lib.hid (HL5.out.row.stay hu6); have HA6 := Lib.hid (HA5.out.row.stay hu6)
        clear hu6 HSA HTK HU5 HL5 HA5 HB5 HO5 c0 hkc hmc g1 g2
        have hmk := run_make_row' (P := Try.prog) 36 4 (.bool false) 1 Try.underlying36 infoBool rfl .i64 .i64 n (by omega) (by omega)
        go_upto_region 16 with (fail)
        have hu7 := (Upd.refl [] w6).alloc (.cells (madeCells #[.bool false] n) 4)
        have HM7 := Lib.hid (met_made w6 n)
        have HU7 := Lib.hid hu7
        obtain ⟨G, hG⟩ : ∃ G, G = w6.heap.size := ⟨_, rfl⟩
        have HG := Lib.hid hG
        rw [← hG] at HM7 ⊢
        generalize w6.alloc (.cells (madeCells #[.bool false] n) 4) = W7 at *
        clear hu7 hG hmk
        go_loopg [12] k (fun gi v wr => ∃ i : Nat, v = .int .i64 i ∧ i + gi = k ∧ Hid (MetR wr G n ((S2.out.take i).map qN)) ∧ Hid (Upd [] w6 wr))
        case atStart => exact ⟨0, rfl, by omega, HM7, HU7⟩
        case round =>
          obtain ⟨i, rfl, hig, HME, HUQ⟩ := hrel
          by_cases hlti : i < k
          · have hiz : (i : Int) < (k : Int) := by omega
            have hi1 : i < S2.out.length := by have := HOL.out; omega
            obtain ⟨⟨j, hj, hq, hpf, htt, hnot⟩, hord⟩ := HAT.out i hi1
            have HTS : Hid ((S2.out.take (i + 1)).map qN = (S2.out.take i).map qN ++ [j]) := by
              show _ = _
              rw [List.take_succ_eq_append_getElem hi1, List.map_append]
              simp [qN, hq]
            have hjn : j < n := by have := HLL.out; omega
            obtain ⟨bb, fb, e5, y0, y1, -⟩ := (HA6.out.stay HUQ.out).item i hi1
            obtain ⟨bl, fl, e6, z0, z1⟩ := (HL6.out.stay HUQ.out).work j hj
            subst e5; subst e6
            have m0 := HME.out.cell hjn
            have hnd : decide (j ∈ (S2.out.take i).map qN) = false := decide_eq_false hnot
            rw [hnd] at m0
            rw [hpf] at z0
            rw [htt] at z1
            rw [hq] at y1
            have HORD := Lib.hid hord
            obtain ⟨tx, htx⟩ : ∃ tx, tx = (S2.out[i]'hi1).t := ⟨_, rfl⟩
            have HTX := Lib.hid htx; have HQX := Lib.hid hq
            rw [← htx] at y0 z1
            have hjz : (j : Int) < (n : Int) := by omega
            have g1 : decide ((j : Int) < 0) = false := decide_eq_false (by omega)
            have g2 : decide (n ≤ j) = false := decide_eq_false (by omega)
            have g3 : decide ((n : Int) ≤ (j : Int)) = false := decide_eq_false (by omega)
            have hwi : IntKind.i64.wrap ((i : Int) + 1) = (i : Int) + 1 := by rw [IntKind.wrap_i64]; omega
            clear hord hq hpf htt hnot htx hj hnd
            go_upto_region 19 with (fail)
            go_quiet (fail)
            obtain ⟨W8, hW8⟩ : ∃ W8, W8 = wr.drewN nq := ⟨_, rfl⟩
            have hd : Upd [] wr W8 := by rw [hW8]; exact (Upd.refl [] wr).drewN nq
            rw [← hW8]
            have HME8 := Lib.hid (HME.out.stay hd); have HUQ8 := Lib.hid (HUQ.out.thn hd)
            have m1 := HME8.out.cell hjn
            have f1 := HME8.out.free j
            clear hW8 hd y0 y1 z0 z1 m0 HME HUQ g1 g2 g3
            go_upto_region 22 with (fail)
            have HME9 : Hid (MetR (W8.setCell ⟨G, j, none⟩ (.bool true)) G n ((S2.out.take (i + 1)).map qN)) := by rw [HTS.out]; exact HME8.out.set hjn
            have HUQ9 : Hid (Upd [] w6 (W8.setCell ⟨G, j, none⟩ (.bool true))) := HUQ8.out.new (upd_set1 W8 G j (.bool true)) (by rw [HG.out]; exact Nat.le_refl _)
            generalize W8.setCell ⟨G, j, none⟩ (.bool true) = W9 at *
            clear m1 f1 HME8 HUQ8
            by_cases hB : m < i
            · obtain ⟨h1, hlt⟩ := HORD.out hB
              obtain ⟨p, hp⟩ : ∃ p, p = i - 1 := ⟨_, rfl⟩
              have hwp : IntKind.i64.wrap ((i : Int) - 1) = (p : Int) := by rw [IntKind.wrap_i64]; omega
              have hpz : (p : Int) < (k : Int) := by omega
              simp only [← hp] at h1 hlt
              obtain ⟨bc, fc, e7, v0, -, -⟩ := (HA6.out.stay HUQ9.out).item i hi1
              obtain ⟨bd, fd, e8, u0, u1, -⟩ := (HA6.out.stay HUQ9.out).item p h1
              simp only [Option.some.injEq, Addr.mk.injEq, and_true] at e7 e8
              obtain ⟨rfl, rfl⟩ := e7
              obtain ⟨rfl, rfl⟩ := e8
              rw [← HTX.out] at v0
              unfold ltI at hlt
              rw [← HTX.out, HQX.out] at hlt
              generalize (S2.out[p]'h1).t = tp at *
              generalize (S2.out[p]'h1).q = qp at *
              have g4 : decide (m < i) = true := decide_eq_true hB
              have g5 : decide ((m : Int) < (i : Int)) = true := decide_eq_true (by omega)
              have g6 : decide (tx < tp) = false := decide_eq_false (by omega)
              clear hp HORD HTX HQX h1 hi1
              by_cases hte : tp = tx
              · subst hte
                have g7 : decide ((j : Int) < qp) = false := decide_eq_false (by omega)
                clear hlt
                go_upto_region 22 with (fail)
                go_quiet (fail)
                have hd : Upd [] W9 (W9.drewN nq) := (Upd.refl [] W9).drewN nq
                have HME2 : Hid (MetR _ G n ((S2.out.take (i + 1)).map qN)) := Lib.hid (HME9.out.stay hd)
                have HUQ2 := Lib.hid (HUQ9.out.thn hd)
                generalize W9.drewN nq = W10 at *
                clear hd v0 u0 u1 g4 g5 g6 g7
                go_wp2_with fail
                go_roundg (k - (i + 1))
                case measure => omega
                case rel => exact ⟨i + 1, by go_num, by omega, HME2, HUQ2⟩
              · have g7 : (tx == tp) = false := by simpa using fun e => hte e.symm
                have g8 : decide (tx = tp) = false := decide_eq_false (fun e => hte e.symm)
                clear hlt hte
                go_upto_region 22 with (fail)
                go_quiet (fail)
                have hd : Upd [] W9 (W9.drewN nq) := (Upd.refl [] W9).drewN nq
                have HME2 : Hid (MetR _ G n ((S2.out.take (i + 1)).map qN)) := Lib.hid (HME9.out.stay hd)
                have HUQ2 := Lib.hid (HUQ9.out.thn hd)
                generalize W9.drewN nq = W10 at *
                clear hd v0 u0 u1 g4 g5 g6 g7 g8
                go_wp2_with fail
                go_roundg (k - (i + 1))
                case measure => omega
                case rel => exact ⟨i + 1, by go_num, by omega, HME2, HUQ2⟩
            · have g4 : decide (m < i) = false := decide_eq_false hB
              have g5 : decide ((m : Int) < (i : Int)) = false := decide_eq_false (by omega)
              clear HORD HTX HQX hi1
              go_upto_region 22 with (fail)
              go_quiet (fail)
              have hd : Upd [] W9 (W9.drewN nq) := (Upd.refl [] W9).drewN nq
              have HME2 : Hid (MetR _ G n ((S2.out.take (i + 1)).map qN)) := Lib.hid (HME9.out.stay hd)
              have HUQ2 := Lib.hid (HUQ9.out.thn hd)
              generalize W9.drewN nq = W10 at *
              clear hd g4 g5
              go_wp2_with fail
              go_roundg (k - (i + 1))
              case measure => omega
              case rel => exact ⟨i + 1, by go_num, by omega, HME2, HUQ2⟩
          · have hiz : ¬ (i : Int) < (k : Int) := by omega
            obtain rfl : i = k := by omega
            go_wp2_with fail
            go_ret
            exact ⟨rfl, HU6.out.thn HUQ.out⟩
  · have hlz : (150 : Int) < (n : Int) := by omega
    rw [← hn]
    clear hn ho
    go_enter Try.func5, Try.ntmps5
    go_upto_region 2 with (go_at_call 7; (with_reducible refine (HHD.out _).mono ?_); rintro e w1 ⟨rfl, hu1⟩)
    have HU1 := Lib.hid hu1
    clear hu1 HHD
    go_wp2_with fail
    go_ret
    exact ⟨rfl, HU1.out⟩
end Go.Proofs.Ytpabapjodcafkaa
