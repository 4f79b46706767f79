/- Contract: the reference's Len of queues. -/
/- Contract: the reference's rungs. -/
/- Contract: the reference's below. -/
/- Contract: the reference's Same of two ladders. -/
import Derived.Test.YtpabapjodcafkaaGreatGE
import Derived.Test.YtpabapjodcafkaaGreatNG
import Derived.Test.YtpabapjodcafkaaGreatUH
namespace Go.Proofs.YtpabapjodcafkaaGreat
open Go.RowKit Go.Lib
set_option maxRecDepth 100000 in
set_option maxHeartbeats 4000000 in
theorem LLen_has (l : LdR) (w : World) (h : HasD w l) (hl : l.rs.l.length ≤ 1000) (hs : lenD l.ld ≤ 100000) (hb : ∀ r ∈ l.rs.l, r.bk.l.length ≤ 1000000) :
    Calls Tryz.prog 22 #[encD l] w fun e w' => e = .returned (.int .i64 (lenD l.ld : Nat)) ∧ Upd [] w w' := by
  obtain ⟨ts, ⟨tl, ta, tc⟩, ⟨rl, ra, rc⟩, ⟨bl, ba, bc⟩, mv, cp⟩ := l
  have HD := Lib.hid h
  have HB := Lib.hid hb
  have HLD : Hid (lenD (LdR.ld ⟨ts, ⟨tl, ta, tc⟩, ⟨rl, ra, rc⟩, ⟨bl, ba, bc⟩, mv, cp⟩) = tl.length + bl.length + lenRs (rl.map RgR.rg) rl.length) := by
    show _ = _
    simp [lenD, LdR.ld, lenRs, List.take_of_length_le]
  have HLE : Hid (∀ k, lenRs (rl.map RgR.rg) k ≤ lenD (LdR.ld ⟨ts, ⟨tl, ta, tc⟩, ⟨rl, ra, rc⟩, ⟨bl, ba, bc⟩, mv, cp⟩)) := fun k => by
    have := lenRs_le (rl.map RgR.rg) k
    simp only [lenD, LdR.ld]
    omega
  have HSU : Hid (∀ k (hk : k < rl.length), lenRs (rl.map RgR.rg) (k + 1) = lenRs (rl.map RgR.rg) k + lenL rl[k].rg.bs) := fun k hk => by
    rw [lenRs_succ (by simpa using hk)]; simp
  have HL0 : Hid (lenRs (rl.map RgR.rg) 0 = 0) := rfl
  unfold encD cellsD
  simp only at hl ⊢
  rw [HLD.out] at hs HLE ⊢
  clear h hb HLD
  generalize lenRs (rl.map RgR.rg) = f at *
  obtain ⟨n, hn⟩ : ∃ n, n = rl.length := ⟨_, rfl⟩
  have HN := Lib.hid hn
  rw [← hn] at hl hs HLE ⊢
  generalize tl.length = tn at *
  generalize bl.length = bn at *
  clear hn
  go_enter Tryz.func22, Tryz.ntmps22
  go_upto_region 1 with (fail)
  have hu := (Upd.refl [] w).alloc (.cells #[.int .i64 ts, .slice ta tn tc, .slice ra n rc, .slice ba bn bc, .int .i64 mv, .int .i64 cp] 42)
  have b0 := heap_alloc1 w (.cells #[.int .i64 ts, .slice ta tn tc, .slice ra n rc, .slice ba bn bc, .int .i64 mv, .int .i64 cp] 42)
  generalize w.alloc (.cells #[.int .i64 ts, .slice ta tn tc, .slice ra n rc, .slice ba bn bc, .int .i64 mv, .int .i64 cp] 42) = W at *
  generalize w.heap.size = P at *
  have HU := Lib.hid hu; have HB0 := Lib.hid b0
  obtain ⟨c0, c1, c2, c3, c4, c5⟩ := cells6 b0
  clear hu b0
  have hw0 : IntKind.i64.wrap ((tn : Int) + (bn : Int)) = (tn : Int) + (bn : Int) := by rw [IntKind.wrap_i64]; omega
  go_wp2_with fail
  clear c0 c1 c2 c3 c4 c5
  go_loopg [3, 4] n (fun gk vc vi wr => ∃ k : Nat, vi = .int .i64 k ∧ vc = .int .i64 (tn + bn + f k : Nat) ∧ k + gk = n ∧ Hid (Upd [] W wr))
  case atStart => exact ⟨0, rfl, by rw [HL0.out]; simp, by omega, Lib.hid (Upd.refl _ _)⟩
  case round =>
    obtain ⟨k, rfl, rfl, hkg, HUR⟩ := hrel
    have hle := HLE.out k
    obtain ⟨c0, c1, c2, c3, c4, c5⟩ := cells6 (HUR.out.at HB0.out (by simp))
    by_cases hlt : k < n
    · have hltz : (k : Int) < (n : Int) := by omega
      have hk1 : k < rl.length := by have := HN.out; omega
      have hle2 := HLE.out (k + 1)
      have HSK := Lib.hid (HSU.out k hk1)
      rw [HSK.out] at hle2
      have hD := HD.out.stay (HU.out.thn HUR.out)
      obtain ⟨b, off, hbo, x0, x1, x2, x3⟩ := hD.rs.row.rung k hk1
      simp only at hbo x0 x1 x2 x3
      subst hbo
      have hcall := fun W' (hu : Upd [] wr W') => RLen_has rl[k] W' ((hD.rg _ (List.getElem_mem hk1)).stay hu) (HB.out _ (List.getElem_mem hk1)) (by omega)
      unfold encR at hcall
      generalize lenL rl[k].rg.bs = m at *
      generalize rl[k].bk.l.length = y at *
      generalize rl[k].bk.ad = yad at *
      generalize rl[k].bk.cap = yc at *
      generalize rl[k].fr = yf at *
      generalize rl[k].wd = yw at *
      generalize rl[k].cu = yu at *
      have HCALL := Lib.hid hcall
      have hw : IntKind.i64.wrap (((tn + bn + f k : Nat) : Int) + (m : Int)) = ((tn + bn + f k + m : Nat) : Int) := by rw [IntKind.wrap_i64]; omega
      clear hcall hD
      generalize htot : tn + bn + f k = tot at *
      have HTOT := Lib.hid htot
      clear htot
      go_upto_region 4 with (go_at_call 33; (with_reducible refine (HCALL.out _ (Upd.refl [] _)).mono ?_); rintro e w1 ⟨rfl, hu1⟩)
      have HU1 := Lib.hid (HUR.out.thn hu1)
      clear c0 c1 c2 c3 c4 c5 x0 x1 x2 x3 hu1
      go_wp2_with fail
      go_roundg (n - (k + 1))
      case measure => omega
      case rel => exact ⟨k + 1, by go_num, by rw [HSK.out, ← HTOT.out]; go_num, by omega, HU1⟩
    · have hltz : ¬ (k : Int) < (n : Int) := by omega
      obtain rfl : n = k := by omega
      go_wp2_with fail
      go_ret
      exact ⟨rfl, HU.out.thn HUR.out⟩
end Go.Proofs.YtpabapjodcafkaaGreat
namespace Go.Proofs.YtpabapjodcafkaaGreat
open Go.RowKit Go.Lib

set_option maxRecDepth 100000 in
set_option maxHeartbeats 4000000 in
theorem rungs_has (l : SlR RgR) (i : Nat) (r : RgR) (w : World) (hs : HasS LR w l) (hi : i < l.l.length) (hl : l.l.length ≤ 1000) :
    Calls Tryz.prog 31 #[.slice l.ad l.l.length l.cap, .int .i64 i, encR r] w fun e w' => ∃ g cap, e = .returned (.slice (some ⟨g, 0, none⟩) l.l.length cap) ∧ HasS LR w' ⟨l.l.set i r, some ⟨g, 0, none⟩, cap⟩ ∧ w.heap.size ≤ g ∧ Upd [] w w' := by
  obtain ⟨rl, ra, rc⟩ := l
  simp only at hi hl ⊢
  obtain ⟨b, off, hbo, hcc⟩ := hs.row i hi
  clear hcc
  simp only at hbo
  subst hbo
  have HS := Lib.hid hs
  have HI := Lib.hid hi
  have HSET : Hid (∀ w1 g cap, Held LR 59 w1 g cap rl → Held LR 59 (stores w1 g (i * LR.k) (LR.enc r)) g cap (rl.set i r)) := fun w1 g cap h => h.set i HI.out r
  have HEN : Hid (LR.enc r = [.int .i64 r.fr, .int .i64 r.wd, .int .i64 r.cu, .slice r.bk.ad r.bk.l.length r.bk.cap]) := Lib.hid rfl
  obtain ⟨n, hn⟩ : ∃ n, n = rl.length := ⟨_, rfl⟩
  have HN := Lib.hid hn
  rw [← hn] at hi hl ⊢
  unfold encR
  obtain ⟨fr, wd, cu, bl, ba, bc⟩ := r
  simp only at HEN ⊢
  generalize bl.length = m at *
  clear hs hn
  have hiz : (i : Int) < (n : Int) := by omega
  go_enter Tryz.func31, Tryz.ntmps31
  go_upto_region 1 with (fail)
  have hu := (Upd.refl [] w).alloc (.cells #[.int .i64 fr, .int .i64 wd, .int .i64 cu, .slice ba m bc] 59)
  have b0 := heap_alloc1 w (.cells #[.int .i64 fr, .int .i64 wd, .int .i64 cu, .slice ba m bc] 59)
  have hsz : (w.alloc (.cells #[.int .i64 fr, .int .i64 wd, .int .i64 cu, .slice ba m bc] 59)).heap.size = w.heap.size + 1 := by simp
  generalize w.alloc (.cells #[.int .i64 fr, .int .i64 wd, .int .i64 cu, .slice ba m bc] 59) = W at *
  generalize hH : w.heap.size = H at *
  have HU := Lib.hid hu; have HB0 := Lib.hid b0; have HH := Lib.hid hH; have HSZ := Lib.hid hsz
  have HSL := Lib.hid ((HS.out.stay hu).row)
  clear hu b0 hH hsz
  go_upto_region 2 with (at_builtin; refine app_row tyR rfl _ _ rfl W.heap.size (.slice (some ⟨W.heap.size, 0, none⟩) 0 0) 0 [] rfl (World.ownsRow_made W #[] 0 (Nat.le_refl _) (Nat.zero_le _) (by simp)) (some ⟨b, off, none⟩) n rc rl rfl HN.out (HSL.out.stay ((Upd.refl [] W).alloc _)) (fun e => by simp at e) (by omega) (by simp) ?_; intro v' w1 hown hgrow)
  have HU2 : Hid (Upd [] W w1) := ((Upd.refl [] W).alloc _).grown hgrow (fun k hk hl => by simp [Value.ownBlock] at hk; omega)
  rw [Nat.zero_add, List.nil_append] at hown
  obtain ⟨hnn, g, cap, rfl, hge, hheld⟩ := held_row hown (by omega)
  clear hnn
  have HHD := Lib.hid hheld
  obtain ⟨k0, z0⟩ := hheld.cell i HI.out 0 _ rfl
  obtain ⟨k1, z1⟩ := hheld.cell i HI.out 1 _ rfl
  obtain ⟨k2, z2⟩ := hheld.cell i HI.out 2 _ rfl
  obtain ⟨k3, z3⟩ := hheld.cell i HI.out 3 _ rfl
  rw [show LR.k = 4 from rfl] at k0 k1 k2 k3 z0 z1 z2 z3
  rw [Nat.add_zero] at k0 z0
  generalize rl[i].fr = y0 at *
  generalize rl[i].wd = y1 at *
  generalize rl[i].cu = y2 at *
  generalize rl[i].bk.ad = y3 at *
  generalize rl[i].bk.l.length = y4 at *
  generalize rl[i].bk.cap = y5 at *
  obtain ⟨c0, c1, c2, c3⟩ := cells4 (HU2.out.at HB0.out (by simp))
  clear hown hgrow hheld
  go_upto_region 3 with (fail)
  have hst := HSET.out w1 g cap HHD.out
  have hup := stores_upd [.int .i64 fr, .int .i64 wd, .int .i64 cu, .slice ba m bc] w1 g (i * 4)
  rw [HEN.out, show LR.k = 4 from rfl] at hst
  simp only [stores, Nat.add_assoc, Nat.reduceAdd] at hst hup
  generalize ((((w1.setCell ⟨g, i * 4, none⟩ (.int .i64 fr)).setCell ⟨g, i * 4 + 1, none⟩ (.int .i64 wd)).setCell ⟨g, i * 4 + 2, none⟩ (.int .i64 cu)).setCell ⟨g, i * 4 + 3, none⟩ (.slice ba m bc)) = w2 at *
  have HST := Lib.hid hst
  have HUP := Lib.hid hup
  have HGE := Lib.hid hge
  clear hst hup hge
  go_wp2_with fail
  go_ret
  have h1 := HSZ.out
  have h2 := HH.out
  have h3 := HGE.out
  refine ⟨g, cap, rfl, HST.out.has, by omega, ?_⟩
  exact (HU.out.thn HU2.out).new HUP.out (by omega)
end Go.Proofs.YtpabapjodcafkaaGreat
namespace Go.Proofs.YtpabapjodcafkaaGreat
open Go.RowKit Go.Lib

def belowB (l : List It) (bd : Int) : Bool := l.all fun x => decide (x.t < bd) && decide (0 ≤ x.t) && decide (x.t ≤ 1152921504606846976)

end Go.Proofs.YtpabapjodcafkaaGreat
namespace Go.Proofs.YtpabapjodcafkaaGreat
open Go.RowKit Go.Lib

deriving instance DecidableEq for Ld

end Go.Proofs.YtpabapjodcafkaaGreat
