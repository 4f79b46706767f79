/- Contract: the reference's Next. -/
/- Contract: the reference's Valid. -/
import Derived.Test.YtpabapjodcafkaaGreatUF
namespace Go.Proofs.YtpabapjodcafkaaGreat
open Go.RowKit Go.Lib

set_option maxRecDepth 100000 in
set_option maxHeartbeats 8000000 in
theorem RNext_has (r : RgR) (w : World) (ha : HasR w r) (hg : GoodR r.rg) (hl : lenL r.rg.bs ≤ 100000) :
    Calls Tryz.prog 75 #[encR r] w (GivesRN r (nextR r.rg) w) := by
  have hWI := fun (i : Nat) W (hu : Upd [] w W) (hi : i < r.bk.l.length) => with_has r i nilS W (ha.stay hu) (hasS_nil _ _) hi (by have := hg.len; simp only [RgR.rg, rowsOf_length] at this; omega)
  have HPU : Hid (∀ p, nextR r.rg = p → ∀ e W, GivesRN r p w e W → GivesRN r (nextR r.rg) w e W) := fun p hp e W h => by rw [hp]; exact h
  have hST := fun (i : Nat) (hi : i < 8) => RStart_in r.fr r.wd (i : Int) ⟨hg.fr0, hg.fr1⟩ (by have h1 := hg.prod (i := i) (by omega) (by omega); have h2 := hg.wd1; simp only [RgR.rg] at h1 h2; omega)
  have hlen : r.bk.l.length = 8 := by have := hg.len; simpa [RgR.rg, rowsOf_length] using this
  obtain ⟨fr, wd, cu, bl, ba, bc⟩ := r
  have HA := Lib.hid ha
  have HL8 := Lib.hid hlen
  simp only at HL8
  have HBL : Hid (∀ i (h : i < bl.length), bl[i].l.length ≤ 100000) := fun i h => by
    have h1 := len_le (bs := rowsOf bl) (k := i) (by rw [rowsOf_length]; exact h)
    rw [rowsOf_get h] at h1
    exact Nat.le_trans h1 hl
  unfold encR at hWI ⊢
  simp only at hlen hST
  rw [hlen] at hWI ⊢
  simp only [nilS, List.length_nil] at hWI
  have HWI := Lib.hid hWI
  have HST := Lib.hid hST
  clear ha hg hlen hWI hST hl
  go_enter Tryz.func75, Tryz.ntmps75
  go_upto_region 1 with (fail)
  generalize hA : (Obj.cells #[.int .i64 fr, .int .i64 wd, .int .i64 cu, .slice ba 8 bc] 59 : Obj) = A
  generalize hC : (Obj.cells #[.int .i64 0, .int .i64 0, .int .i64 0, .slice none 0 0] 59 : Obj) = C
  obtain ⟨hu, b0, b2, hsz⟩ := two_boxes w A C
  generalize (w.alloc A).alloc C = W at *
  generalize hH : w.heap.size = H at *
  rw [← hA] at b0
  rw [← hC] at b2
  have HU := Lib.hid hu; have HB0 := Lib.hid b0; have HB2 := Lib.hid b2; have HH := Lib.hid hH; have HSZ := Lib.hid hsz
  obtain ⟨c0, c1, c2, c3⟩ := cells4 b0
  obtain ⟨f0, f1, f2, f3⟩ := free4 b0
  obtain ⟨e0, e1, e2, e3⟩ := cells4 b2
  obtain ⟨z0, z1, z2, z3⟩ := free4 b2
  clear hu hA hC b0 b2 hH hsz
  go_wp2_with fail
  go_loopg [6] 8 (fun gk vi wr => ∃ k : Nat, vi = .int .i64 k ∧ k + gk = 8 ∧ Hid (∀ j, j < k → bAt (rowsOf bl) j = []) ∧ W = wr)
  case atStart => exact ⟨0, rfl, by omega, fun j hj => by omega, rfl⟩
  case round =>
    obtain ⟨k, rfl, hkg, HK, rfl⟩ := hrel
    by_cases hlt : k < 8
    · have hltz : (k : Int) < 8 := by omega
      have hk1 : k < bl.length := by have := HL8.out; omega
      have hA3 := HA.out.stay HU.out
      obtain ⟨b, off, hbo, bk0⟩ := hA3.bk.row.bucket k hk1
      simp only at hbo bk0
      subst hbo
      have hir := HA.out.at hk1
      simp only at hir
      have HRO := Lib.hid (rowsOf_at hk1)
      have hbl := HBL.out k hk1
      obtain ⟨bi, hbi⟩ : ∃ x, x = bl[k]'hk1 := ⟨_, rfl⟩
      rw [← hbi] at HRO bk0 hir hbl
      obtain ⟨il, am, cm⟩ := bi
      have HIR := Lib.hid hir
      have hav : ∀ b, AvR ⟨fr, wd, cu, ⟨bl, some ⟨b, off, none⟩, bc⟩⟩ b → True := fun _ _ => trivial
      have HAVI : Hid (∀ bb, AvR ⟨fr, wd, cu, ⟨bl, some ⟨b, off, none⟩, bc⟩⟩ bb → AvS ⟨il, am, cm⟩ bb) := fun bb h => h.its _ (by rw [hbi]; exact List.getElem_mem hk1)
      simp only at HRO bk0 hbl
      generalize hlm : il.length = m at *
      have HLM := Lib.hid hlm
      clear hav hir hbi hlm hA3
      by_cases hm : m = 0
      · have hd : decide (0 < m) = false := by simp; omega
        have HM := Lib.hid hm
        clear hm
        go_wp2_with fail
        go_roundg (gk - 1)
        case measure => omega
        case rel => exact ⟨k + 1, by go_num, by omega, fun j hj => by
          by_cases hj2 : j = k
          · subst hj2
            rw [HRO.out]
            exact List.eq_nil_of_length_eq_zero (by rw [HLM.out, HM.out])
          · exact HK.out j (by omega), rfl⟩
      · have hd : decide (0 < m) = true := by simp; omega
        have HM := Lib.hid hm
        clear hm
        have hwk : IntKind.i64.wrap ((k : Int) + 1) = (k : Int) + 1 := by rw [IntKind.wrap_i64]; omega
        go_upto_region 7 with (go_at_call 46; refine (HWI.out k W HU.out hlt).mono ?_; rintro e w1 ⟨g, cap, rfl, hR, hgg, hu6⟩)
        have HR := Lib.hid hR; have HGG := Lib.hid hgg; have HU6 := Lib.hid hu6
        have bp := heap_alloc1 w1 (.cells #[.int .i64 fr, .int .i64 wd, .int .i64 cu, .slice (some ⟨g, 0, none⟩) 8 cap] 59)
        have hu7 := (Upd.refl [] w1).alloc (.cells #[.int .i64 fr, .int .i64 wd, .int .i64 cu, .slice (some ⟨g, 0, none⟩) 8 cap] 59)
        have hPw : w1.heap.size = w1.heap.size := rfl
        generalize w1.alloc (.cells #[.int .i64 fr, .int .i64 wd, .int .i64 cu, .slice (some ⟨g, 0, none⟩) 8 cap] 59) = w2 at bp hu7 ⊢
        have HU7 := Lib.hid hu7; have HBP := Lib.hid bp
        have HPW : Hid (∃ P, P = w1.heap.size) := ⟨_, rfl⟩
        obtain ⟨P, hP⟩ := HPW.out
        rw [← hP] at HBP bp ⊢
        have HP := Lib.hid hP
        have q0 := hu7.at (hu6.at HB0.out (by simp)) (by simp)
        have q2 := hu7.at (hu6.at HB2.out (by simp)) (by simp)
        have HQ0 := Lib.hid q0; have HQ2 := Lib.hid q2
        clear c0 c1 c2 c3 f0 f1 f2 f3 e0 e1 e2 e3 z0 z1 z2 z3 hPw HPW hP hR hgg hu6 hu7 bk0 q0 q2
        obtain ⟨p0, p1, p2, p3⟩ := cells4 bp
        obtain ⟨y0, y1, y2, y3⟩ := free4 bp
        clear bp
        go_upto_region 8 with (fail)
        have bp : (w2.setCell ⟨P, 2, none⟩ (.int .i64 (k + 1))).heap[P]? = some (.cells #[.int .i64 fr, .int .i64 wd, .int .i64 (k + 1), .slice (some ⟨g, 0, none⟩) 8 cap] 59 (0, 0)) := setCell_block HBP.out _
        have hu8 := upd_set1 w2 P 2 (.int .i64 (k + 1))
        generalize w2.setCell ⟨P, 2, none⟩ (.int .i64 (k + 1)) = w3 at bp hu8 ⊢
        have hps : H + 1 < P := by have h1 := HP.out; have h2 := HU6.out.size; have h3 := HSZ.out; omega
        have q0 := hu8.at HQ0.out (by simp; omega)
        have q2 := hu8.at HQ2.out (by simp; omega)
        have HQ3 := Lib.hid q2; have HU8 := Lib.hid hu8
        clear p0 p1 p2 p3 y0 y1 y2 y3
        obtain ⟨p0, p1, p2, p3⟩ := cells4 bp
        obtain ⟨c0, c1, c2, c3⟩ := cells4 q0
        obtain ⟨e0, e1, e2, e3⟩ := cells4 q2
        obtain ⟨z0, z1, z2, z3⟩ := free4 q2
        clear c2 c3
        have hkp := Lib.hid (fun W (hu : Upd [H + 1] w3 W) => (⟨hu.cell p0 (by simp; omega), hu.cell p1 (by simp; omega), hu.cell p2 (by simp; omega), hu.cell p3 (by simp; omega), hu.cell c0 (by simp), hu.cell c1 (by simp)⟩ : W.cell? ⟨P, 0, none⟩ = some (.int .i64 fr) ∧ W.cell? ⟨P, 1, none⟩ = some (.int .i64 wd) ∧ W.cell? ⟨P, 2, none⟩ = some (.int .i64 (k + 1)) ∧ W.cell? ⟨P, 3, none⟩ = some (.slice (some ⟨g, 0, none⟩) 8 cap) ∧ W.cell? ⟨H, 0, none⟩ = some (.int .i64 fr) ∧ W.cell? ⟨H, 1, none⟩ = some (.int .i64 wd)))
        clear bp q0 q2 hu8
        go_region_held3 (fun wz => wz.cell? ⟨P, 0, none⟩ = some (.int .i64 fr) ∧ wz.cell? ⟨P, 1, none⟩ = some (.int .i64 wd) ∧ wz.cell? ⟨P, 2, none⟩ = some (.int .i64 (k + 1)) ∧ wz.cell? ⟨P, 3, none⟩ = some (.slice (some ⟨g, 0, none⟩) 8 cap) ∧ wz.cell? ⟨H, 0, none⟩ = some (.int .i64 fr) ∧ wz.cell? ⟨H, 1, none⟩ = some (.int .i64 wd)) (first | exact ⟨p0, p1, p2, p3, c0, c1⟩ | (refine hkp.out _ ?_; (repeat (first | exact Upd.refl _ _ | refine Upd.drew ?_ | refine Upd.setCell ?_ (by simp) _)))) (first | (go_at_call 43; (with_reducible refine (HST.out k hlt _).mono ?_); rintro e w' ⟨rfl, rfl⟩))
        have pf : (((((w3.setCell ⟨H + 1, 0, none⟩ (.int .i64 fr)).setCell ⟨H + 1, 1, none⟩ (.int .i64 wd)).setCell ⟨H + 1, 2, none⟩ (.int .i64 (k + 1))).setCell ⟨H + 1, 3, none⟩ (.slice (some ⟨g, 0, none⟩) 8 cap)).drew).heap[H + 1]? = _ := stored4 HQ3.out (.int .i64 fr) (.int .i64 wd) (.int .i64 (k + 1)) (.slice (some ⟨g, 0, none⟩) 8 cap)
        have hU9 := (upd_set4 w3 (H + 1) (.int .i64 fr) (.int .i64 wd) (.int .i64 (k + 1)) (.slice (some ⟨g, 0, none⟩) 8 cap)).drew
        generalize ((((w3.setCell ⟨H + 1, 0, none⟩ (.int .i64 fr)).setCell ⟨H + 1, 1, none⟩ (.int .i64 wd)).setCell ⟨H + 1, 2, none⟩ (.int .i64 (k + 1))).setCell ⟨H + 1, 3, none⟩ (.slice (some ⟨g, 0, none⟩) 8 cap)).drew = w4 at pf hU9 ⊢
        clear p0 p1 p2 p3 c0 c1 e0 e1 e2 e3 z0 z1 z2 z3
        go_wp2_with fail
        obtain ⟨r0, r1, r2, r3⟩ := cells4 pf
        have hh := HH.out
        have hsz := HSZ.out
        have hgg := HGG.out
        have h6 := HU6.out.size
        have hp := HP.out
        have hUW := HU.out.thn HU6.out
        have hN := with_nxt (w := w) HR.out (by omega) hUW (fun b hb _ => fun h => absurd rfl h)
        have hav : ∀ Q, w.heap.size ≤ Q → Q ≠ g → AvR (withR ⟨fr, wd, cu, ⟨bl, some ⟨b, off, none⟩, bc⟩⟩ k nilS g cap) Q := fun Q hQ hQg => ⟨fun _ a ea => by obtain rfl := Option.some.inj ea; simp only; omega, fun x hx => by
          rcases List.mem_or_eq_of_mem_set hx with h | h
          · exact (HA.out.its x h).avoids (by omega)
          · rw [h]; exact fun h => absurd rfl h⟩
        have hgl : g < P := by
          have h1 := HR.out.bk.row.lt (by intro e; have := congrArg List.length e; simp only [withR, List.length_set, List.length_nil] at this; have := HL8.out; omega) (a := ⟨g, 0, none⟩) rfl
          simp only at h1
          omega
        have hhas := ((HR.out.stay HU7.out).keep1 HU8.out (hav P (by omega) (by omega))).keep1 hU9 (hav (H + 1) (by omega) (by omega))
        have hUF : Upd [] w w4 := ((hUW.thn HU7.out).new HU8.out (by omega)).new hU9 (by omega)
        have hne : il ≠ [] := fun e => by have h1 := HLM.out; rw [e] at h1; have h2 := HM.out; simp at h1; omega
        have hnx := nextR_yes (r := (⟨fr, wd, cu, ⟨bl, some ⟨b, off, none⟩, bc⟩⟩ : RgR).rg) (i := k) (by show k < (rowsOf bl).length; rw [rowsOf_length]; exact hk1) (by show bAt (rowsOf bl) k ≠ []; rw [HRO.out]; exact hne) HK.out
        refine bodyPost_ret (v := .tuple #[.agg #[.int .i64 fr, .int .i64 wd, .int .i64 (k + 1), .slice (some ⟨g, 0, none⟩) 8 cap], .slice am m cm, .int .i64 (fr + k * wd), .bool true]) (by simp [results, Tryz.results75, go_sem, r0, r1, r2, r3]) rfl (HPU.out _ hnx _ _ ⟨⟨fr, wd, (k : Int) + 1, (withR ⟨fr, wd, cu, ⟨bl, some ⟨b, off, none⟩, bc⟩⟩ k nilS g cap).bk⟩, ⟨il, am, cm⟩, ?_, ⟨?_, ⟨hhas.bk, hhas.its⟩, fun b hb ha => ⟨(hN.av b hb ha).bk, (hN.av b hb ha).its⟩, hUF⟩, ⟨HRO.out.symm, HIR.out.stay hUF, fun b hb ha => HAVI.out b ha⟩⟩)
        · simp only [encR, withR, List.length_set, HL8.out, HLM.out, RgR.rg]
        · simp only [RgR.rg, withR, takeR, rowsOf_set, nilS]
    · have hltz : ¬ (k : Int) < 8 := by omega
      obtain rfl : k = 8 := by omega
      go_upto_region 10 with (fail)
      have bp : (W.setCell ⟨H, 2, none⟩ (.int .i64 8)).heap[H]? = some (.cells #[.int .i64 fr, .int .i64 wd, .int .i64 8, .slice ba 8 bc] 59 (0, 0)) := setCell_block HB0.out _
      have hu8 := upd_set1 W H 2 (.int .i64 8)
      generalize W.setCell ⟨H, 2, none⟩ (.int .i64 8) = w3 at bp hu8 ⊢
      have q2 := hu8.at HB2.out (by simp)
      have HQ3 := Lib.hid q2; have HU8 := Lib.hid hu8
      clear c0 c1 c2 c3 f0 f1 f2 f3 e0 e1 e2 e3 z0 z1 z2 z3
      obtain ⟨c0, c1, c2, c3⟩ := cells4 bp
      obtain ⟨e0, e1, e2, e3⟩ := cells4 q2
      obtain ⟨z0, z1, z2, z3⟩ := free4 q2
      clear bp q2 hu8
      go_wp2_with fail
      have p2 := stored4 HQ3.out (.int .i64 fr) (.int .i64 wd) (.int .i64 8) (.slice ba 8 bc)
      have hU5 := upd_set4 w3 (H + 1) (.int .i64 fr) (.int .i64 wd) (.int .i64 8) (.slice ba 8 bc)
      generalize (((w3.setCell ⟨H + 1, 0, none⟩ (.int .i64 fr)).setCell ⟨H + 1, 1, none⟩ (.int .i64 wd)).setCell ⟨H + 1, 2, none⟩ (.int .i64 8)).setCell ⟨H + 1, 3, none⟩ (.slice ba 8 bc) = w4 at p2 hU5 ⊢
      obtain ⟨r0, r1, r2, r3⟩ := cells4 p2
      have hh := HH.out
      have hUF : Upd [] w w4 := (HU.out.new HU8.out (by omega)).new hU5 (by omega)
      have hnx := nextR_no (r := (⟨fr, wd, cu, ⟨bl, ba, bc⟩⟩ : RgR).rg) (fun j hj => HK.out j (by have : j < (rowsOf bl).length := hj; rw [rowsOf_length, HL8.out] at this; exact this))
      have hh2 := HA.out.stay hUF
      exact bodyPost_ret (v := .tuple #[.agg #[.int .i64 fr, .int .i64 wd, .int .i64 8, .slice ba 8 bc], .slice none 0 0, .int .i64 0, .bool false]) (by simp [results, Tryz.results75, go_sem, r0, r1, r2, r3]) rfl (HPU.out _ hnx _ _ ⟨⟨fr, wd, 8, ⟨bl, ba, bc⟩⟩, nilS, by simp only [encR, HL8.out, nilS, List.length_nil], ⟨rfl, ⟨hh2.bk, hh2.its⟩, fun b hb ha => ⟨ha.bk, ha.its⟩, hUF⟩, ⟨rfl, hasS_nil _ _, fun b hb ha => fun h => absurd rfl h⟩⟩)
end Go.Proofs.YtpabapjodcafkaaGreat
namespace Go.Proofs.YtpabapjodcafkaaGreat
open Go.RowKit Go.Lib

end Go.Proofs.YtpabapjodcafkaaGreat
