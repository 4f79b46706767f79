
/- Contracts: the program's Len, New; the tests within Valid. -/
import Derived.Test.YtpabapjodcafkaaGreatPZ
namespace Go.Proofs.YtpabapjodcafkaaGreat
open Go.RowKit Go.Lib

set_option maxRecDepth 100000 in
set_option maxHeartbeats 4000000 in
theorem PLen_has (l : LdR) (w : World) (h : HasD w l) (hl : l.rs.l.length ≤ 1000) (hs : lenD l.ld ≤ 100000) (hb : ∀ r ∈ l.rs.l, r.bk.l.length ≤ 1000000) (hi : ∀ r ∈ l.rs.l, ∀ s ∈ r.bk.l, s.l.length ≤ 1000000) :
    Calls Tryz.prog 40 #[encD l] w fun e w' => e = .returned (.int .i64 (lenD l.ld : Nat)) ∧ Upd [] w w' := by
  obtain ⟨ts, ⟨tl, ta, tc⟩, ⟨rl, ra, rc⟩, ⟨bl, ba, bc⟩, mv, cp⟩ := l
  have HD := Lib.hid h
  have HB := Lib.hid hb; have HI := Lib.hid hi
  have HLD : Hid (lenD (LdR.ld ⟨ts, ⟨tl, ta, tc⟩, ⟨rl, ra, rc⟩, ⟨bl, ba, bc⟩, mv, cp⟩) = tl.length + bl.length + lenRs (rl.map RgR.rg) rl.length) := by
    show _ = _
    simp [lenD, LdR.ld, lenRs, List.take_of_length_le]
  have HLE : Hid (∀ k, lenRs (rl.map RgR.rg) k ≤ lenD (LdR.ld ⟨ts, ⟨tl, ta, tc⟩, ⟨rl, ra, rc⟩, ⟨bl, ba, bc⟩, mv, cp⟩)) := fun k => by
    have := lenRs_le (rl.map RgR.rg) k
    simp only [lenD, LdR.ld]
    omega
  have HSU : Hid (∀ k (hk : k < rl.length), lenRs (rl.map RgR.rg) (k + 1) = lenRs (rl.map RgR.rg) k + lenL rl[k].rg.bs) := fun k hk => by
    rw [lenRs_succ (by simpa using hk)]; simp
  have HL0 : Hid (lenRs (rl.map RgR.rg) 0 = 0) := rfl
  unfold encD cellsD
  simp only at hl ⊢
  rw [HLD.out] at hs HLE ⊢
  clear h hb hi HLD
  generalize lenRs (rl.map RgR.rg) = f at *
  obtain ⟨n, hn⟩ : ∃ n, n = rl.length := ⟨_, rfl⟩
  have HN := Lib.hid hn
  rw [← hn] at hl hs HLE ⊢
  generalize tl.length = tn at *
  generalize bl.length = bn at *
  clear hn
  go_enter Tryz.func40, Tryz.ntmps40
  go_upto_region 1 with (fail)
  have hu := (Upd.refl [] w).alloc (.cells #[.int .i64 ts, .slice ta tn tc, .slice ra n rc, .slice ba bn bc, .int .i64 mv, .int .i64 cp] 42)
  have b0 := heap_alloc1 w (.cells #[.int .i64 ts, .slice ta tn tc, .slice ra n rc, .slice ba bn bc, .int .i64 mv, .int .i64 cp] 42)
  generalize w.alloc (.cells #[.int .i64 ts, .slice ta tn tc, .slice ra n rc, .slice ba bn bc, .int .i64 mv, .int .i64 cp] 42) = W at *
  generalize w.heap.size = P at *
  have HU := Lib.hid hu; have HB0 := Lib.hid b0
  obtain ⟨c0, c1, c2, c3, c4, c5⟩ := cells6 b0
  clear hu b0
  have hw0 : IntKind.i64.wrap ((tn : Int) + (bn : Int)) = (tn : Int) + (bn : Int) := by rw [IntKind.wrap_i64]; omega
  go_wp2_with fail
  clear c0 c1 c2 c3 c4 c5
  go_loopg [3, 16] n (fun gk vc vi wr => ∃ k : Nat, vi = .int .i64 k ∧ vc = .int .i64 (tn + bn + f k : Nat) ∧ k + gk = n ∧ Hid (Upd [] W wr))
  case atStart => exact ⟨0, rfl, by rw [HL0.out]; simp, by omega, Lib.hid (Upd.refl _ _)⟩
  case round =>
    obtain ⟨k, rfl, rfl, hkg, HUR⟩ := hrel
    have hle := HLE.out k
    obtain ⟨c0, c1, c2, c3, c4, c5⟩ := cells6 (HUR.out.at HB0.out (by simp))
    by_cases hlt : k < n
    · have hltz : (k : Int) < (n : Int) := by omega
      have hk1 : k < rl.length := by have := HN.out; omega
      have hle2 := HLE.out (k + 1)
      have HSK := Lib.hid (HSU.out k hk1)
      rw [HSK.out] at hle2
      have hD := HD.out.stay (HU.out.thn HUR.out)
      obtain ⟨b, off, hbo, x0, x1, x2, x3⟩ := hD.rs.row.rung k hk1
      simp only at hbo x0 x1 x2 x3
      subst hbo
      have hcall := fun W' (hu : Upd [] wr W') => Len_has rl[k] W' ((hD.rg _ (List.getElem_mem hk1)).stay hu) (HB.out _ (List.getElem_mem hk1)) (by omega) (HI.out _ (List.getElem_mem hk1))
      unfold encR at hcall
      generalize lenL rl[k].rg.bs = m at *
      generalize rl[k].bk.l.length = y at *
      generalize rl[k].bk.ad = yad at *
      generalize rl[k].bk.cap = yc at *
      generalize rl[k].fr = yf at *
      generalize rl[k].wd = yw at *
      generalize rl[k].cu = yu at *
      have HCALL := Lib.hid hcall
      have hw : IntKind.i64.wrap (((tn + bn + f k : Nat) : Int) + (m : Int)) = ((tn + bn + f k + m : Nat) : Int) := by rw [IntKind.wrap_i64]; omega
      clear hcall hD
      generalize htot : tn + bn + f k = tot at *
      have HTOT := Lib.hid htot
      clear htot
      go_upto_region 5 with (fail)
      have bq := heap_alloc1 wr (.cells #[.int .i64 yf, .int .i64 yw, .int .i64 yu, .slice yad y yc] 59)
      have hu4 := (Upd.refl [] wr).alloc (.cells #[.int .i64 yf, .int .i64 yw, .int .i64 yu, .slice yad y yc] 59)
      generalize wr.alloc (.cells #[.int .i64 yf, .int .i64 yw, .int .i64 yu, .slice yad y yc] 59) = W4 at *
      generalize wr.heap.size = Q at *
      clear c0 c1 c2 c3 c4 c5 x0 x1 x2 x3
      obtain ⟨x0, x1, x2, x3⟩ := cells4 bq
      have HU4 := Lib.hid hu4
      clear bq hu4
      go_upto_region 6 with (go_at_call 59; (with_reducible refine (HCALL.out _ HU4.out).mono ?_); rintro e w1 ⟨rfl, hu1⟩)
      have HU1 := Lib.hid ((HUR.out.thn HU4.out).thn hu1)
      clear x0 x1 x2 x3 hu1
      go_wp2_with fail
      go_roundg (n - (k + 1))
      case measure => omega
      case rel => exact ⟨k + 1, by go_num, by rw [HSK.out, ← HTOT.out]; go_num, by omega, HU1⟩
    · have hltz : ¬ (k : Int) < (n : Int) := by omega
      obtain rfl : n = k := by omega
      go_wp2_with fail
      go_ret
      exact ⟨rfl, HU.out.thn HUR.out⟩

set_option maxRecDepth 100000 in
set_option maxHeartbeats 2000000 in
theorem LNew_has (w : World) : Calls Tryz.prog 15 #[] w (GaveD w newL) := by
  go_enter Tryz.func15, Tryz.ntmps15
  go_upto_region 1 with (fail)
  have b0 := heap_alloc1 w (.cells #[.int .i64 0, .slice none 0 0, .slice none 0 0, .slice none 0 0, .int .i64 0, .int .i64 0] 42)
  have hu := (Upd.refl [] w).alloc (.cells #[.int .i64 0, .slice none 0 0, .slice none 0 0, .slice none 0 0, .int .i64 0, .int .i64 0] 42)
  generalize w.alloc (.cells #[.int .i64 0, .slice none 0 0, .slice none 0 0, .slice none 0 0, .int .i64 0, .int .i64 0] 42) = W at *
  generalize hP : w.heap.size = P at *
  have HB0 := Lib.hid b0; have HU := Lib.hid hu; have HP := Lib.hid hP
  obtain ⟨c0, c1, c2, c3, c4, c5⟩ := cells6 b0
  obtain ⟨z0, z1, z2, z3, z4, z5⟩ := free6 b0
  clear b0 hu hP
  go_wp2_with fail
  have p2 := stored6 HB0.out (.int .i64 0) (.slice none 0 0) (.slice none 0 0) (.slice none 0 0) (.int .i64 0) (.int .i64 0)
  have hU5 := upd_set6 W P (.int .i64 0) (.slice none 0 0) (.slice none 0 0) (.slice none 0 0) (.int .i64 0) (.int .i64 0)
  with_reducible generalize (((((W.setCell ⟨P, 0, none⟩ (.int .i64 0)).setCell ⟨P, 1, none⟩ (.slice none 0 0)).setCell ⟨P, 2, none⟩ (.slice none 0 0)).setCell ⟨P, 3, none⟩ (.slice none 0 0)).setCell ⟨P, 4, none⟩ (.int .i64 0)).setCell ⟨P, 5, none⟩ (.int .i64 0) = w4 at p2 hU5 ⊢
  obtain ⟨r0, r1, r2, r3, r4, r5⟩ := cells6 p2
  exact bodyPost_ret (v := encD ⟨0, nilS, ⟨[], none, 0⟩, nilS, 0, 0⟩) (by simp [encD, cellsD, nilS, results, Tryz.results15, go_sem, r0, r1, r2, r3, r4, r5]) rfl
    ⟨_, rfl, rfl, ⟨hasS_nil _ _, hasS_nil _ _, fun r hr => by simp at hr, hasS_nil _ _⟩, fun b _ => ⟨avS_nil _ _ _, avS_nil _ _ _, fun r hr => by simp at hr, avS_nil _ _ _⟩, HU.out.new hU5 (by have := HP.out; omega)⟩
end Go.Proofs.YtpabapjodcafkaaGreat
