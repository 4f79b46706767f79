/- Contract: the reference's with. -/
import Derived.Test.YtmfijhophaeljaaUD
namespace Go.Proofs.Ytmfijhophaeljaa
open Go.RowKit Go.Lib

def withR (r : RgR) (i : Nat) (s : SlR It) (g cap : Nat) : RgR := ⟨r.fr, r.wd, r.cu, ⟨r.bk.l.set i s, some ⟨g, 0, none⟩, cap⟩⟩
set_option maxHeartbeats 4000000 in
theorem with_has (r : RgR) (i : Nat) (s : SlR It) (w : World) (ha : HasR w r) (hs : HasS LI w s) (hi : i < r.bk.l.length) (hl : r.bk.l.length ≤ 100000) :
    Calls Try.prog 33 #[encR r, .int .i64 i, .slice s.ad s.l.length s.cap] w fun e w' => ∃ g cap, e = .returned (.agg #[.int .i64 r.fr, .int .i64 r.wd, .int .i64 r.cu, .slice (some ⟨g, 0, none⟩) r.bk.l.length cap]) ∧ HasR w' (withR r i s g cap) ∧ w.heap.size ≤ g ∧ Upd [] w w' := by
  obtain ⟨fr, wd, cu, bl, ba, bc⟩ := r
  simp only at hi hl ⊢
  obtain ⟨b, off, hbo, hcc⟩ := ha.bk.row i hi
  clear hcc
  simp only at hbo
  subst hbo
  have HA := Lib.hid ha
  have HI := Lib.hid hi
  have HSS := Lib.hid hs
  unfold encR
  simp only
  obtain ⟨sl, sa, sc⟩ := s
  simp only
  clear ha hs
  obtain ⟨n, hn⟩ : ∃ n, n = bl.length := ⟨_, rfl⟩
  rw [← hn] at hi hl ⊢
  have HN := Lib.hid hn
  clear hn
  generalize hm : sl.length = m
  have HM := Lib.hid hm
  clear hm
  have hiz : (i : Int) < (n : Int) := by omega
  go_enter Try.func33, Try.ntmps33
  go_upto_region 1 with (fail)
  generalize hA : (Obj.cells #[.int .i64 fr, .int .i64 wd, .int .i64 cu, .slice (some ⟨b, off, none⟩) n bc] 24 : Obj) = A
  generalize hC : (Obj.cells #[.int .i64 0, .int .i64 0, .int .i64 0, .slice none 0 0] 24 : Obj) = C
  obtain ⟨hu, b0, b2, hsz⟩ := two_boxes w A C
  generalize (w.alloc A).alloc C = W at *
  generalize hH : w.heap.size = H at *
  rw [← hA] at b0
  rw [← hC] at b2
  have HU := Lib.hid hu; have HB0 := Lib.hid b0; have HB2 := Lib.hid b2; have HH := Lib.hid hH; have HSZ := Lib.hid hsz
  obtain ⟨c0, c1, c2, c3⟩ := cells4 b0
  clear c0 c1 c2
  have c3 := Lib.cell?_alloc_some (.cells #[] 37) c3
  have HSL := Lib.hid ((HA.out.stay hu).bk.row)
  clear hu hA hC b0 b2 hH hsz
  go_upto_region 2 with (at_builtin; refine app_row tyB rfl _ _ rfl W.heap.size (.slice (some ⟨W.heap.size, 0, none⟩) 0 0) 0 [] rfl (World.ownsRow_made W #[] 0 (Nat.le_refl _) (Nat.zero_le _) (by simp)) (some ⟨b, off, none⟩) n bc bl rfl HN.out (HSL.out.stay ((Upd.refl [] W).alloc _)) (fun e => by simp at e) (by omega) (by simp) ?_; intro v' w1 hown hgrow; have HO := Lib.hid hown; have HG := Lib.hid hgrow; clear hown hgrow)
  have HU2 : Hid (Upd [] W w1) := ((Upd.refl [] W).alloc _).grown HG.out (fun k hk hl => by simp [Value.ownBlock] at hk; omega)
  have hrow := HO.out
  rw [Nat.zero_add, List.nil_append] at hrow
  obtain ⟨hnn, g, cap, rfl, hge, hheld⟩ := held_row hrow (by omega)
  clear hnn
  have HHD := Lib.hid hheld
  obtain ⟨k0, z0⟩ := hheld.cell i HI.out 0 _ rfl
  rw [show i * LB.k + 0 = i from by show i * 1 + 0 = _; omega] at k0 z0
  clear hrow hheld c3 HSL
  go_upto_region 3 with (fail)
  have hHD := HHD.out.set i HI.out ⟨sl, sa, sc⟩
  have hst : stores w1 g (i * LB.k) (LB.enc ⟨sl, sa, sc⟩) = w1.setCell ⟨g, i, none⟩ (.slice sa m sc) := by
    show w1.setCell ⟨g, i * 1, none⟩ (.slice sa sl.length sc) = _
    rw [Nat.mul_one, HM.out]
  rw [hst] at hHD
  have hU3 := upd_set1 w1 g i (.slice sa m sc)
  generalize w1.setCell ⟨g, i, none⟩ (.slice sa m sc) = w2 at hHD hU3 ⊢
  have q0 := hU3.at (HU2.out.at HB0.out (by simp)) (by have := HSZ.out; simp; omega)
  have q2 := hU3.at (HU2.out.at HB2.out (by simp)) (by have := HSZ.out; simp; omega)
  have HHD2 := Lib.hid hHD; have HU3 := Lib.hid hU3; have HQ0 := Lib.hid q0; have HQ2 := Lib.hid q2
  obtain ⟨c0, c1, c2, c3⟩ := cells4 q0
  obtain ⟨d0, d1, d2, d3⟩ := free4 q0
  clear c0 c1 c2 d0 d1 d2
  clear hst hHD hU3 q0 q2 k0 z0 HO HG
  go_upto_region 4 with (fail)
  have q0 : (w2.setCell ⟨H, 3, none⟩ (.slice (some ⟨g, 0, none⟩) n cap)).heap[H]? = some (.cells #[.int .i64 fr, .int .i64 wd, .int .i64 cu, .slice (some ⟨g, 0, none⟩) n cap] 24 (0, 0)) := setCell_block HQ0.out _
  have hU4 := upd_set1 w2 H 3 (.slice (some ⟨g, 0, none⟩) n cap)
  have q2 := hU4.at HQ2.out (by simp)
  generalize w2.setCell ⟨H, 3, none⟩ (.slice (some ⟨g, 0, none⟩) n cap) = w3 at q0 hU4 q2 ⊢
  have HU4 := Lib.hid hU4; have HQ2 := Lib.hid q2
  clear c3 d3 hU4
  obtain ⟨c0, c1, c2, c3⟩ := cells4 q0
  obtain ⟨e0, e1, e2, e3⟩ := cells4 q2
  obtain ⟨z0, z1, z2, z3⟩ := free4 q2
  clear q0 q2
  go_wp2_with fail
  have p2 := stored4 HQ2.out (.int .i64 fr) (.int .i64 wd) (.int .i64 cu) (.slice (some ⟨g, 0, none⟩) n cap)
  have hU5 := upd_set4 w3 (H + 1) (.int .i64 fr) (.int .i64 wd) (.int .i64 cu) (.slice (some ⟨g, 0, none⟩) n cap)
  generalize (((w3.setCell ⟨H + 1, 0, none⟩ (.int .i64 fr)).setCell ⟨H + 1, 1, none⟩ (.int .i64 wd)).setCell ⟨H + 1, 2, none⟩ (.int .i64 cu)).setCell ⟨H + 1, 3, none⟩ (.slice (some ⟨g, 0, none⟩) n cap) = w4 at p2 hU5 ⊢
  obtain ⟨r0, r1, r2, r3⟩ := cells4 p2
  have hsz := HSZ.out
  have hh := HH.out
  have hUW : Upd [] w w4 := (((HU.out.thn HU2.out).new HU3.out (by omega)).new HU4.out (by omega)).new hU5 (by omega)
  have hfin := (HHD2.out.keep HU4.out (by simp; omega)).keep hU5 (by simp; omega)
  have HAF := HA.out.stay hUW
  exact bodyPost_ret (v := .agg #[.int .i64 fr, .int .i64 wd, .int .i64 cu, .slice (some ⟨g, 0, none⟩) n cap]) (by simp [results, Try.results33, go_sem, r0, r1, r2, r3]) rfl
    ⟨g, cap, rfl, ⟨hfin.has, fun s hs => by
      rcases List.mem_or_eq_of_mem_set hs with h | h
      · exact HAF.its s h
      · rw [h]; exact HSS.out.stay hUW⟩, by omega, hUW⟩
theorem with_nxt {w w' : World} {r : RgR} {i : Nat} {s : SlR It} {g cap : Nat} (h : HasR w' (withR r i s g cap)) (hg : w.heap.size ≤ g) (hu : Upd [] w w') (hs : ∀ b, b < w.heap.size → AvR r b → AvS s b) : Nxt w r ⟨r.fr, r.wd, r.cu, r.rg.bs.set i s.l⟩ w' (withR r i s g cap) :=
  ⟨by simp [RgR.rg, withR, rowsOf_set], h, fun b hb ha => ⟨fun _ a e => by obtain rfl := Option.some.inj e; simp only; omega, fun x hx => by
    rcases List.mem_or_eq_of_mem_set hx with h | h
    · exact ha.its x h
    · rw [h]; exact hs b hb ha⟩, hu⟩
end Go.Proofs.Ytmfijhophaeljaa
