/- Contracts: the reference's Start, Index, Current, End, Len, New. -/
/- Contracts: the reference's SameItems and Same. -/
import Derived.Test.YtpabapjodcafkaaGreatGD
import Derived.Laws.StructEq
namespace Go.Proofs.YtpabapjodcafkaaGreat
open Go.RowKit Go.Lib

set_option maxRecDepth 100000 in
set_option maxHeartbeats 400000 in
theorem RStart_in (f n i : Int) (hf : 0 ≤ f ∧ f ≤ 1152921504606846976) (hp : 0 ≤ i * n ∧ i * n ≤ 4611686018427387904) (w : World) :
    Calls Tryz.prog 43 #[.int .i64 f, .int .i64 n, .int .i64 i] w fun e w' => e = .returned (.int .i64 (f + i * n)) ∧ w = w' := by
  have hs : IntKind.i64.wrap (i * n) = i * n := by rw [IntKind.wrap_i64]; omega
  have ht : IntKind.i64.wrap (f + i * n) = f + i * n := by rw [IntKind.wrap_i64]; omega
  go_enter Tryz.func43, Tryz.ntmps43
  go_wp2_with fail
  go_ret
  exact ⟨rfl, rfl⟩
set_option maxRecDepth 100000 in
set_option maxHeartbeats 400000 in
theorem RIndex_in (f n t : Int) (hf : 0 ≤ f) (h : f ≤ t) (ht : t ≤ 4611686018427387904) (hn : 1 ≤ n ∧ n ≤ 4611686018427387904) (w : World) :
    Calls Tryz.prog 45 #[.int .i64 f, .int .i64 n, .int .i64 t] w fun e w' => e = .returned (.int .i64 ((t - f) / n)) ∧ w = w' := by
  have hs : IntKind.i64.wrap (t - f) = t - f := by rw [IntKind.wrap_i64]; omega
  have hz : (n == 0) = false := by simp; omega
  have hd : (t - f).tdiv n = (t - f) / n := Int.tdiv_eq_ediv_of_nonneg (by omega)
  have b0 : 0 ≤ (t - f) / n := Int.ediv_nonneg (by omega) (by omega)
  have b1 : (t - f) / n ≤ t - f := Int.ediv_le_self _ (by omega)
  have hr : IntKind.i64.wrap ((t - f) / n) = (t - f) / n := by rw [IntKind.wrap_i64]; omega
  go_enter Tryz.func45, Tryz.ntmps45
  go_wp2_with fail
  go_ret
  exact ⟨rfl, rfl⟩

set_option maxRecDepth 100000 in
set_option maxHeartbeats 400000 in
theorem RCurrent_has (r : RgR) (w : World) (hg : GoodR r.rg) :
    Calls Tryz.prog 29 #[encR r] w fun e w' => e = .returned (.int .i64 (curT r.rg)) ∧ Upd [] w w' := by
  obtain ⟨fr, wd, cu, bl, ba, bc⟩ := r
  have h1 := hg.prod hg.cu0 hg.cu1
  have h2 := hg.fr0; have h3 := hg.fr1; have h4 := hg.wd1
  simp only [RgR.rg] at h1 h2 h3 h4
  have E1 := Lib.hid (RStart_in fr wd cu (by omega) (by omega))
  unfold encR curT
  simp only [RgR.rg]
  generalize bl.length = n
  clear hg h1 h2 h3 h4
  go_enter Tryz.func29, Tryz.ntmps29
  go_upto_region 1 with (fail)
  have hu := (Upd.refl [] w).alloc (.cells #[.int .i64 fr, .int .i64 wd, .int .i64 cu, .slice ba n bc] 59)
  obtain ⟨c0, c1, c2, c3⟩ := cells4 (heap_alloc1 w (.cells #[.int .i64 fr, .int .i64 wd, .int .i64 cu, .slice ba n bc] 59))
  generalize w.alloc (.cells #[.int .i64 fr, .int .i64 wd, .int .i64 cu, .slice ba n bc] 59) = W at *
  generalize w.heap.size = P at *
  go_wp2_with fail
  (with_reducible refine (E1.out _).mono ?_)
  rintro e w' ⟨rfl, rfl⟩
  go_wp2_with fail
  go_ret
  exact ⟨rfl, hu⟩
set_option maxRecDepth 100000 in
set_option maxHeartbeats 400000 in
theorem REnd_has (r : RgR) (w : World) (hg : GoodR r.rg) :
    Calls Tryz.prog 44 #[encR r] w fun e w' => e = .returned (.int .i64 (endT r.rg)) ∧ Upd [] w w' := by
  obtain ⟨fr, wd, cu, bl, ba, bc⟩ := r
  have h2 := hg.fr0; have h3 := hg.fr1; have h4 := hg.wd1; have h5 := hg.wd0
  simp only [RgR.rg] at h2 h3 h4 h5
  have E1 := Lib.hid (RStart_in fr wd 8 (by omega) (by omega))
  unfold encR endT
  simp only [RgR.rg]
  generalize bl.length = n
  clear hg h2 h3 h4
  go_enter Tryz.func44, Tryz.ntmps44
  go_upto_region 1 with (fail)
  have hu := (Upd.refl [] w).alloc (.cells #[.int .i64 fr, .int .i64 wd, .int .i64 cu, .slice ba n bc] 59)
  obtain ⟨c0, c1, c2, c3⟩ := cells4 (heap_alloc1 w (.cells #[.int .i64 fr, .int .i64 wd, .int .i64 cu, .slice ba n bc] 59))
  generalize w.alloc (.cells #[.int .i64 fr, .int .i64 wd, .int .i64 cu, .slice ba n bc] 59) = W at *
  generalize w.heap.size = P at *
  go_wp2_with fail
  (with_reducible refine (E1.out _).mono ?_)
  rintro e w' ⟨rfl, rfl⟩
  go_wp2_with fail
  go_ret
  exact ⟨rfl, hu⟩

set_option maxRecDepth 100000 in
set_option maxHeartbeats 2000000 in
theorem RLen_has (r : RgR) (w : World) (h : HasR w r) (hl : r.bk.l.length ≤ 1000000) (hs : lenL r.rg.bs ≤ 1000000) :
    Calls Tryz.prog 33 #[encR r] w fun e w' => e = .returned (.int .i64 (lenL r.rg.bs : Nat)) ∧ Upd [] w w' := by
  obtain ⟨fr, wd, cu, bl, ba, bc⟩ := r
  have HB := Lib.hid h.bk.row
  have HLT : Hid (∀ k, k ≤ bl.length → lenTo (rowsOf bl) k ≤ 1000000) := fun k _ => Nat.le_trans (lenTo_le _ _) hs
  have HST : Hid (∀ k (h : k < bl.length), lenTo (rowsOf bl) (k + 1) = lenTo (rowsOf bl) k + bl[k].l.length) := fun k hk => by
    rw [lenTo_succ (by rw [rowsOf_length]; exact hk), rowsOf_get hk]
  have HAL : Hid (lenL (rowsOf bl) = lenTo (rowsOf bl) bl.length) := by
    show _ = _
    rw [← lenTo_all, rowsOf_length]
  simp only at hl HB
  unfold encR
  simp only [RgR.rg]
  clear h hs
  obtain ⟨n, hn⟩ : ∃ n, n = bl.length := ⟨_, rfl⟩
  rw [← hn] at hl HLT HAL ⊢
  have HN := Lib.hid hn
  clear hn
  rw [HAL.out]
  have HF0 : Hid (lenTo (rowsOf bl) 0 = 0) := lenTo_zero _
  generalize lenTo (rowsOf bl) = f at *
  clear HAL
  go_enter Tryz.func33, Tryz.ntmps33
  go_upto_region 1 with (fail)
  have hu := (Upd.refl [] w).alloc (.cells #[.int .i64 fr, .int .i64 wd, .int .i64 cu, .slice ba n bc] 59)
  obtain ⟨c0, c1, c2, c3⟩ := cells4 (heap_alloc1 w (.cells #[.int .i64 fr, .int .i64 wd, .int .i64 cu, .slice ba n bc] 59))
  generalize w.alloc (.cells #[.int .i64 fr, .int .i64 wd, .int .i64 cu, .slice ba n bc] 59) = W at *
  generalize w.heap.size = P at *
  have HU := Lib.hid hu
  have HB := Lib.hid (HB.out.stay hu)
  clear hu c0 c1 c2
  go_wp2_with fail
  go_loopg [3, 4] n (fun gk vc vi wr => ∃ k : Nat, vi = .int .i64 k ∧ vc = .int .i64 (f k : Nat) ∧ k + gk = n ∧ W = wr)
  case atStart => exact ⟨0, rfl, by rw [HF0.out]; rfl, by omega, rfl⟩
  case round =>
    obtain ⟨k, rfl, rfl, hkg, rfl⟩ := hrel
    have hle := HLT.out k (by omega)
    by_cases hlt : k < n
    · have hltz : (k : Int) < (n : Int) := by omega
      have hk1 : k < bl.length := by have := HN.out; omega
      have HS := Lib.hid (HST.out k hk1)
      have hle2 := HLT.out (k + 1) (by omega)
      rw [HS.out] at hle2
      obtain ⟨b1, o1, rfl, c1⟩ := HB.out.bucket k hk1
      generalize bl[k].l.length = m at *
      generalize bl[k].ad = am at *
      generalize bl[k].cap = cm at *
      have hw : IntKind.i64.wrap ((f k : Int) + (m : Int)) = (f k : Int) + (m : Int) := by rw [IntKind.wrap_i64]; omega
      generalize f k = fk at *
      go_wp2_with fail
      go_roundg (gk - 1)
      case measure => omega
      case rel => exact ⟨k + 1, by go_num, by rw [HS.out]; go_num, by omega, rfl⟩
    · have hltz : ¬ (k : Int) < (n : Int) := by omega
      obtain rfl : k = n := by omega
      go_wp2_with fail
      go_ret
      exact ⟨rfl, HU.out⟩

set_option maxRecDepth 100000 in
set_option maxHeartbeats 2000000 in
theorem RNew_has (f d : Int) (w : World) :
    Calls Tryz.prog 86 #[.int .i64 f, .int .i64 d] w fun e w' => ∃ r', e = .returned (encR r') ∧ Born w (newR f d) w' r' := by
  have hmk : ∀ w : World, (Instr.makeSlice 57 (.int .i64 8) (.int .i64 8)).run Tryz.prog w = .ok (.slice (some ⟨w.heap.size, 0, none⟩) 8 8) (w.alloc (.cells (List.replicate 8 (Value.slice none 0 0)).toArray 26)) := mkAny 57 26 (.slice none 0 0) 1 24 Tryz.underlying57 infoItems 8 (by decide) (by decide) _ (madeOne _ 8)
  generalize hX : (List.replicate 8 (Value.slice none 0 0)).toArray = X at hmk
  have HX := Lib.hid hX
  clear hX
  go_enter Tryz.func86, Tryz.ntmps86
  go_upto_region 1 with (fail)
  have b0 := heap_alloc1 w (.cells #[.int .i64 0, .int .i64 0, .int .i64 0, .slice none 0 0] 59)
  have hu := (Upd.refl [] w).alloc (.cells #[.int .i64 0, .int .i64 0, .int .i64 0, .slice none 0 0] 59)
  have hs0 : (w.alloc (.cells #[.int .i64 0, .int .i64 0, .int .i64 0, .slice none 0 0] 59)).heap.size = w.heap.size + 1 := by simp
  generalize w.alloc (.cells #[.int .i64 0, .int .i64 0, .int .i64 0, .slice none 0 0] 59) = W at *
  generalize hP : w.heap.size = P at *
  have b1 := heap_alloc1 W (.cells X 26)
  have hu1 := (Upd.refl [] W).alloc (.cells X 26)
  have b2 := hu1.at b0 (by simp)
  obtain ⟨c0, c1, c2, c3⟩ := cells4 b2
  obtain ⟨z0, z1, z2, z3⟩ := free4 b2
  have HB1 := Lib.hid b1; have HU1 := Lib.hid hu1; have HB2 := Lib.hid b2; have HU := Lib.hid hu; have HP := Lib.hid hP; have HS0 := Lib.hid hs0
  clear b0 b1 hu1 b2 hu hP hs0
  go_wp2_with fail
  clear c0 c1 c2 c3 z0 z1 z2 z3
  generalize W.alloc (.cells X 26) = W1 at *
  generalize W.heap.size = g at *
  have p2 := stored4 HB2.out (.int .i64 f) (.int .i64 d) (.int .i64 0) (.slice (some ⟨g, 0, none⟩) 8 8)
  have hU5 := upd_set4 W1 P (.int .i64 f) (.int .i64 d) (.int .i64 0) (.slice (some ⟨g, 0, none⟩) 8 8)
  generalize (((W1.setCell ⟨P, 0, none⟩ (.int .i64 f)).setCell ⟨P, 1, none⟩ (.int .i64 d)).setCell ⟨P, 2, none⟩ (.int .i64 0)).setCell ⟨P, 3, none⟩ (.slice (some ⟨g, 0, none⟩) 8 8) = w4 at p2 hU5 ⊢
  obtain ⟨r0, r1, r2, r3⟩ := cells4 p2
  have hp := HP.out
  have hs := HS0.out
  have b1 := HB1.out
  rw [← HX.out] at b1
  have hh := ((held_made b1).keep hU5 (by simp; omega)).has
  exact bodyPost_ret (v := .agg #[.int .i64 f, .int .i64 d, .int .i64 0, .slice (some ⟨g, 0, none⟩) 8 8]) (by simp [results, Tryz.results86, go_sem, r0, r1, r2, r3]) rfl
    ⟨⟨f, d, 0, ⟨List.replicate 8 nilB, some ⟨g, 0, none⟩, 8⟩⟩, rfl, rfl, ⟨hh, fun s hs => by rw [(List.mem_replicate.1 hs).2]; exact hasS_nil LI _⟩,
      fun b hb => ⟨fun _ a e => by obtain rfl := Option.some.inj e; simp only; omega, fun s hs => by rw [(List.mem_replicate.1 hs).2]; exact avS_nil b _ _⟩, (HU.out.thn HU1.out).new hU5 (by omega)⟩
end Go.Proofs.YtpabapjodcafkaaGreat
namespace Go.Proofs.YtpabapjodcafkaaGreat
open Go.RowKit Go.Lib

set_option maxRecDepth 100000 in
set_option maxHeartbeats 2000000 in
theorem SameItems_has (a b : SlR It) (w : World) (ha : Row LI w a.ad a.l) (hb : Row LI w b.ad b.l) (hl : a.l.length ≤ 1000000) :
    Calls Tryz.prog 8 #[.slice a.ad a.l.length a.cap, .slice b.ad b.l.length b.cap] w fun e w' => e = .returned (.bool (decide (a.l = b.l))) ∧ Upd [] w w' := by
  obtain ⟨l1, a1, c1⟩ := a
  obtain ⟨l2, a2, c2⟩ := b
  obtain ⟨res, hres⟩ : ∃ b, b = decide (l1 = l2) := ⟨_, rfl⟩
  have HRES := Lib.hid hres
  have HA := Lib.hid ha; have HB := Lib.hid hb
  simp only at hl HA HB ⊢
  rw [← hres]
  clear hres ha hb
  generalize hn1 : l1.length = n1 at hl ⊢
  generalize hn2 : l2.length = n2
  have HN1 := Lib.hid hn1; have HN2 := Lib.hid hn2
  clear hn1 hn2
  by_cases hn : n1 = n2
  · subst hn
    have HR0 : Hid (res = decide (l1.drop 0 = l2.drop 0)) := by
      show res = _
      rw [HRES.out, List.drop_zero, List.drop_zero]
    go_enter Tryz.func8, Tryz.ntmps8
    go_wp2_with fail
    go_loopg [5] n1 (fun gk vi wr => ∃ k : Nat, vi = .int .i64 k ∧ k + gk = n1 ∧ Hid (res = decide (l1.drop k = l2.drop k)) ∧ Hid (Upd [] w wr))
    case atStart => exact ⟨0, rfl, by omega, HR0, Lib.hid (Upd.refl _ _)⟩
    case round =>
      obtain ⟨k, rfl, hkg, HK, HUR⟩ := hrel
      by_cases hlt : k < n1
      · have hltz : (k : Int) < (n1 : Int) := by omega
        have hk1 : k < l1.length := by have := HN1.out; omega
        have hk2 : k < l2.length := by have := HN2.out; omega
        obtain ⟨b1, o1, rfl, k0, k1, k2⟩ := (HA.out.stay HUR.out).item k hk1
        obtain ⟨b2, o2, rfl, j0, j1, j2⟩ := (HB.out.stay HUR.out).item k hk2
        have HKK : Hid (res = (decide (l1[k] = l2[k]) && decide (l1.drop (k + 1) = l2.drop (k + 1)))) := by
          show res = _
          rw [HK.out, drop_dec hk1 hk2]
        generalize l1[k] = y1 at *
        generalize l2[k] = y2 at *
        have hgd := guardItem
        have hq := neqItem y1 y2
        generalize decide (y1 = y2) = bq at hq HKK
        go_wp2_with fail
        go_quiet (fail)
        have HU2 : Hid (Upd [] w (wr.drewN nq)) := HUR.out.drewN nq
        generalize wr.drewN nq = w2 at HU2 ⊢
        clear k0 k1 k2 j0 j1 j2
        cases bq with
        | true =>
          go_wp2_with fail
          go_roundg (gk - 1)
          case measure => omega
          case rel => exact ⟨k + 1, by go_num, by omega, by rw [HKK.out]; exact Lib.hid rfl, HU2⟩
        | false =>
          go_wp2_with fail
          go_ret
          exact ⟨ret_bool (by rw [HKK.out]; rfl), HU2.out⟩
      · have hltz : ¬ (k : Int) < (n1 : Int) := by omega
        go_wp2_with fail
        go_ret
        exact ⟨ret_bool (by rw [HK.out, List.drop_eq_nil_of_le (by have := HN1.out; omega), List.drop_eq_nil_of_le (by have := HN2.out; omega)]; simp), HUR.out⟩
  · have hnb : ((n1 : Int) != (n2 : Int)) = true := by simp; omega
    have HNN := Lib.hid hn
    clear hn
    go_enter Tryz.func8, Tryz.ntmps8
    go_wp2_with fail
    go_ret
    exact ⟨ret_bool (by rw [HRES.out, decide_eq_false]; intro e; exact HNN.out (by rw [← HN1.out, ← HN2.out, e])), Upd.refl _ _⟩

end Go.Proofs.YtpabapjodcafkaaGreat
