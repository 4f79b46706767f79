
/- Contract of layer 10: the reference's batch. -/
import Derived.Test.YtpneljhplbkdkaaAD
namespace Go.Proofs.Ytpneljhplbkdkaa
open Go.RowKit Go.Lib

theorem hasS_any {α : Type} {L : Lay α} {w : World} {base n : Nat} {e : TypeId} {ad : Option Addr} {cap : Nat} {l : List α} (h : w.ownsRow base e L.k (.slice ad n cap) n (L.flat l)) : n = l.length ∧ HasS L w ⟨l, ad, cap⟩ := by
  obtain ⟨hn, ad', cap', e', hs, _⟩ := hasS_row (L := L) h
  simp only [Value.slice.injEq, true_and] at e'
  obtain ⟨rfl, rfl⟩ := e'
  exact ⟨hn, hs⟩
theorem row_drop {α : Type} {L : Lay α} {w : World} {b off : Nat} (k : Nat) {l : List α} (h : Row L w (some ⟨b, off, none⟩) l) : Row L w (some ⟨b, off + k * L.k, none⟩) (l.drop k) := fun j hj => by
  rw [List.length_drop] at hj
  obtain ⟨b', o', e, c⟩ := h (k + j) (by omega)
  injection e with e
  injection e with e1 e2 _
  subst e1; subst e2
  refine ⟨b, off + k * L.k, rfl, fun t u hu => ?_⟩
  rw [List.getElem_drop] at hu
  have := c t u hu
  rw [Nat.add_mul] at this
  rw [show off + k * L.k + j * L.k + t = off + (k * L.k + j * L.k) + t by omega]
  exact this
/-- The four boxes of a call: model, call, results. -/
structure FrR (w : World) (P : Nat) (cap nx : Int) (n q : Nat) (ea ia : Option Addr) (ec ic : Nat) (ck ct ch cm cb : Int) (wr : World) : Prop where
  bm : wr.heap[P]? = some (.cells #[.int .i64 cap, .slice ea n ec, .int .i64 nx, .slice ia q ic] 25 (0, 0))
  bc : wr.heap[P + 1]? = some (.cells #[.int .i64 ck, .int .i64 ct, .int .i64 ch, .int .i64 cm, .int .i64 cb] 28 (0, 0))
  rm : wr.heap[P + 1 + 1]? = some (.cells #[.int .i64 0, .slice none 0 0, .int .i64 0, .slice none 0 0] 25 (0, 0))
  rr : wr.heap[P + 1 + 1 + 1]? = some (.cells #[.int .i64 0, .int .i64 0, .bool false, .slice none 0 0] 34 (0, 0))
  upd : Upd [] w wr
  ord : w.heap.size ≤ P
theorem FrR.stay {w : World} {P : Nat} {cap nx : Int} {n q : Nat} {ea ia : Option Addr} {ec ic : Nat} {ck ct ch cm cb : Int} {a b : World} (h : FrR w P cap nx n q ea ia ec ic ck ct ch cm cb a) (hu : Upd [] a b) : FrR w P cap nx n q ea ia ec ic ck ct ch cm cb b :=
  ⟨hu.at h.bm (by simp), hu.at h.bc (by simp), hu.at h.rm (by simp), hu.at h.rr (by simp), h.upd.thn hu, h.ord⟩
/-- The model's box is written. -/
theorem FrR.setM {w : World} {P : Nat} {cap nx cap' nx' : Int} {n q n' q' : Nat} {ea ia ea' ia' : Option Addr} {ec ic ec' ic' : Nat} {ck ct ch cm cb : Int} {a b : World} (h : FrR w P cap nx n q ea ia ec ic ck ct ch cm cb a) (hu : Upd [P] a b) (hb : b.heap[P]? = some (.cells #[.int .i64 cap', .slice ea' n' ec', .int .i64 nx', .slice ia' q' ic'] 25 (0, 0))) : FrR w P cap' nx' n' q' ea' ia' ec' ic' ck ct ch cm cb b :=
  ⟨hb, hu.at h.bc (by simp), hu.at h.rm (by simp; omega), hu.at h.rr (by simp; omega), h.upd.new hu h.ord, h.ord⟩
set_option maxRecDepth 100000 in
set_option maxHeartbeats 8000000 in
theorem RBatch_some (cap nx : Int) (es : List En) (b off ec : Nat) (is : List Int) (ia : Option Addr) (ic : Nat) (ck ct ch cm cb : Int) (w : World) (hm : HasM w ⟨cap, ⟨es, some ⟨b, off, none⟩, ec⟩, nx, ⟨is, ia, ic⟩⟩) (hl : es.length ≤ 1000) (hp : 0 < es.length) (hr : 0 ≤ cm ∧ cm ≤ 64) :
    Calls Try.prog 34 #[encM ⟨cap, ⟨es, some ⟨b, off, none⟩, ec⟩, nx, ⟨is, ia, ic⟩⟩, encC ⟨ck, ct, ch, cm, cb⟩] w (GivesM ⟨cap, ⟨es, some ⟨b, off, none⟩, ec⟩, nx, ⟨is, ia, ic⟩⟩ (⟨cap, (scanB cb cm es []).2, nx, is⟩, ⟨0, 0, false, (scanB cb cm es []).1⟩) w) := by
  have hle := hm.es.le
  have HM := Lib.hid hm
  unfold encM cellsM encC
  simp only at hle ⊢
  obtain ⟨n, hn⟩ : ∃ n, n = es.length := ⟨_, rfl⟩
  obtain ⟨q, hq⟩ : ∃ q, q = is.length := ⟨_, rfl⟩
  rw [← hn] at hl hle hp ⊢
  rw [← hq]
  have HN := Lib.hid hn; have HQ := Lib.hid hq
  have HDLG : Hid (∀ k va vc, encM ⟨cap, ⟨es.drop k, va, vc⟩, nx, ⟨is, ia, ic⟩⟩ = .agg #[.int .i64 cap, .slice va (n - k) vc, .int .i64 nx, .slice ia q ic]) := fun k va vc => by unfold encM cellsM; simp only [List.length_drop]; rw [← hn, ← hq]
  have HROW := Lib.hid hm.es.row
  clear hm hn hq
  obtain ⟨ea, hea⟩ : ∃ ea, ea = some (⟨b, off, none⟩ : Addr) := ⟨_, rfl⟩
  rw [← hea]
  have HEA := Lib.hid hea
  clear hea
  have g1 : decide (cm < 0) = false := decide_eq_false (by omega)
  have g2 : decide (64 < cm) = false := decide_eq_false (by omega)
  go_enter Try.func34, Try.ntmps34
  go_upto_region 1 with (fail)
  obtain ⟨hu0, b0, b1, b2, b3, hs0⟩ := four_boxes w (.cells #[.int .i64 cap, .slice ea n ec, .int .i64 nx, .slice ia q ic] 25) (.cells #[.int .i64 ck, .int .i64 ct, .int .i64 ch, .int .i64 cm, .int .i64 cb] 28) (.cells #[.int .i64 0, .slice none 0 0, .int .i64 0, .slice none 0 0] 25) (.cells #[.int .i64 0, .int .i64 0, .bool false, .slice none 0 0] 34)
  have HF : Hid (FrR w w.heap.size cap nx n q ea ia ec ic ck ct ch cm cb _) := ⟨b0, b1, b2, b3, hu0, Nat.le_refl _⟩
  generalize (((w.alloc (.cells #[.int .i64 cap, .slice ea n ec, .int .i64 nx, .slice ia q ic] 25)).alloc (.cells #[.int .i64 ck, .int .i64 ct, .int .i64 ch, .int .i64 cm, .int .i64 cb] 28)).alloc (.cells #[.int .i64 0, .slice none 0 0, .int .i64 0, .slice none 0 0] 25)).alloc (.cells #[.int .i64 0, .int .i64 0, .bool false, .slice none 0 0] 34) = W0 at *
  have HSZ0 : Hid (W0.heap.size = w.heap.size + 4) := hs0
  generalize w.heap.size = P at *
  clear hu0 b0 b1 b2 b3 hs0
  obtain ⟨c0, c1, c2, c3, c4⟩ := cells5 HF.out.bc
  clear c0 c1 c2 c4 hr
  go_upto_region 5 with (fail)
  clear c3 g1 g2
  have hea := HEA.out
  subst hea
  go_loopg [6, 7] n (fun gk v6 v7 wr => ∃ (k : Nat) (oa : Option Addr) (oc : Nat) (ok : List Ev), v6 = .slice oa ok.length oc ∧ v7 = .int .i64 k ∧ k + gk = n ∧ Hid (wr.ownsRow W0.heap.size 51 LV.k (.slice oa ok.length oc) ok.length (LV.flat ok)) ∧ Hid (scanB cb cm es [] = scanB cb cm (es.drop k) ok) ∧ Hid (ok.length ≤ k) ∧ Hid (FrR w P cap nx n q (some ⟨b, off, none⟩) ia ec ic ck ct ch cm cb wr) ∧ Hid (Upd [] W0 wr))
  case atStart => exact ⟨0, none, 0, [], rfl, rfl, by omega, ⟨rfl, .inl ⟨rfl, rfl⟩⟩, (rfl : scanB cb cm es [] = scanB cb cm (es.drop 0) []), Nat.le_refl _, HF, Upd.refl [] W0⟩
  case round =>
    obtain ⟨k, oa, oc, ok, rfl, rfl, hkg, HOW, HSC, HOK, HFK, HUK⟩ := hrel
    obtain ⟨m0, m1, m2, m3⟩ := cells4 HFK.out.bm
    obtain ⟨c0, c1, c2, c3, c4⟩ := cells5 HFK.out.bc
    clear m0 m2 m3 c0 c1 c2
    have hok := HOK.out
    have HDL : Hid (∀ va vc, encM ⟨cap, ⟨es.drop k, va, vc⟩, nx, ⟨is, ia, ic⟩⟩ = .agg #[.int .i64 cap, .slice va (n - k) vc, .int .i64 nx, .slice ia q ic]) := HDLG.out k
    have HLD : Hid (n - k = (es.drop k).length) := Lib.hid (by rw [List.length_drop, ← HN.out])
    have HEK : Hid (∀ va vc W {B : Nat}, W.ownsRow B 49 LE.k (.slice va (n - k) vc) (n - k) (LE.flat (es.drop k)) → HasS LE W ⟨es.drop k, va, vc⟩) := fun va vc W B h => (hasS_any h).2
    by_cases hlt : k < n
    · have hltz : (k : Int) < (n : Int) := by omega
      have hk1 : k < es.length := by have := HN.out; omega
      obtain ⟨b', off', e5, x0, x1, x2, x3⟩ := (HROW.out.stay HFK.out.upd).ent k hk1
      simp only [Option.some.injEq, Addr.mk.injEq, and_true] at e5
      obtain ⟨rfl, rfl⟩ := e5
      have hds : es.drop k = es[k] :: es.drop (k + 1) := List.drop_eq_getElem_cons hk1
      obtain ⟨⟨et, eq, eh, ed⟩, he⟩ : ∃ x, x = es[k]'hk1 := ⟨_, rfl⟩
      rw [← he] at x0 x1 x2 x3 hds
      simp only at x0 x1 x2 x3
      have HDS := Lib.hid hds
      clear he hds hk1
      by_cases hc1 : et < cb
      · have g3 : decide (et < cb) = true := decide_eq_true hc1
        by_cases hc2 : (ok.length : Int) < cm
        · have g4 : decide ((ok.length : Int) < cm) = true := decide_eq_true hc2
          have HSN : Hid (scanB cb cm es [] = scanB cb cm (es.drop (k + 1)) (if ed = true then ok else ok ++ [⟨et, eh⟩])) := Lib.hid (by rw [HSC.out, HDS.out]; simp only [scanB]; rw [if_pos ⟨hc1, hc2⟩])
          have hwk : IntKind.i64.wrap ((k : Int) + 1) = (k : Int) + 1 := by rw [IntKind.wrap_i64]; omega
          go_upto_region 6 with (fail)
          go_quiet (fail)
          have hd : Upd [] wr (wr.drewN nq) := (Upd.refl [] wr).drewN nq
          have HOW5 := Lib.hid (hd.row HOW.out (by simp)); have HF5 := Lib.hid (HFK.out.stay hd); have HU5 := Lib.hid (HUK.out.thn hd)
          have x0 := hd.cell x0 (by simp); have x1 := hd.cell x1 (by simp); have x2 := hd.cell x2 (by simp); have x3 := hd.cell x3 (by simp)
          generalize wr.drewN nq = W5 at *
          clear hd m1 c3 c4 g3 g4 hc1 hc2 HOW HFK HUK HSC
          obtain ⟨m0, m1, m2, m3⟩ := cells4 HF5.out.bm
          clear m0 m2 m3
          go_upto_region 7 with (fail)
          have hu6 := (Upd.refl [] W5).alloc (.cells #[.int .i64 et, .int .i64 eq, .int .i64 eh, .bool ed] 49)
          have b6 := heap_alloc1 W5 (.cells #[.int .i64 et, .int .i64 eq, .int .i64 eh, .bool ed] 49)
          have HOW6 := Lib.hid (hu6.row HOW5.out (by simp)); have HF6 := Lib.hid (HF5.out.stay hu6); have HU6 := Lib.hid (HU5.out.thn hu6)
          generalize W5.alloc (.cells #[.int .i64 et, .int .i64 eq, .int .i64 eh, .bool ed] 49) = W6 at *
          generalize W5.heap.size = P6 at *
          obtain ⟨y0, y1, y2, y3⟩ := cells4 b6
          clear b6 hu6 x0 x1 x2 x3 m1 HOW5 HF5 HU5
          cases ed with
          | true =>
            have HSF : Hid (scanB cb cm es [] = scanB cb cm (es.drop (k + 1)) ok) := HSN.out
            go_wp2_with fail
            go_roundg (n - (k + 1))
            case measure => omega
            case rel => exact ⟨k + 1, oa, oc, ok, rfl, by go_num, by omega, HOW6, HSF, Nat.le_succ_of_le HOK.out, HF6, HU6⟩
          | false =>
            have HSF : Hid (scanB cb cm es [] = scanB cb cm (es.drop (k + 1)) (ok ++ [(⟨et, eh⟩ : Ev)])) := HSN.out
            have hsz := HU6.out.size
            have hu7 := (Upd.refl [] W6).alloc (.cells #[.int .i64 et, .int .i64 eh] 51)
            have HRX := Lib.hid (ev_cells (x := ⟨et, eh⟩) (heap_alloc1 W6 (.cells #[.int .i64 et, .int .i64 eh] 51)))
            have HOW7 := Lib.hid (hu7.row HOW6.out (by simp)); have HF7 := Lib.hid (HF6.out.stay hu7); have HU7 := Lib.hid (HU6.out.thn hu7)
            clear hu7 HOW6 HF6
            go_upto_region 9 with (at_builtin; refine app_row tyV rfl _ _ rfl W0.heap.size (.slice oa ok.length oc) ok.length ok rfl HOW7.out (some ⟨W6.heap.size, 0, none⟩) 1 1 [⟨et, eh⟩] rfl rfl HRX.out (fun e => by simp at e) (by omega) (by simp; omega) ?_; intro v8 w8 hown hgrow; obtain ⟨va, vc, rfl⟩ := row_shape hown)
            have hu8 : Upd (Value.slice oa ok.length oc).ownBlock.toList _ w8 := upd_grown hgrow
            have HOW8 : Hid (w8.ownsRow W0.heap.size 51 LV.k (.slice va (ok ++ [(⟨et, eh⟩ : Ev)]).length vc) (ok ++ [(⟨et, eh⟩ : Ev)]).length (LV.flat (ok ++ [(⟨et, eh⟩ : Ev)]))) := Lib.hid (by rw [List.length_append, List.length_singleton]; exact hown)
            have HU8 : Hid (Upd [] W0 w8) := HU7.out.grown hgrow (fun x hx hl => by have := own_ge HOW7.out x hx; omega)
            have HF8 : Hid (FrR w P cap nx n q (some ⟨b, off, none⟩) ia ec ic ck ct ch cm cb w8) := HF.out.stay HU8.out
            have HOK8 : Hid ((ok ++ [(⟨et, eh⟩ : Ev)]).length ≤ k + 1) := Lib.hid (by rw [List.length_append, List.length_singleton]; omega)
            have HLN : Hid (ok.length + 1 = (ok ++ [(⟨et, eh⟩ : Ev)]).length) := Lib.hid (by simp)
            clear hown hgrow hu8 HRX HOW7 HF7 HU7 y0 y1 y2 y3 hsz
            go_wp2_with fail
            go_roundg (n - (k + 1))
            case measure => omega
            case rel => exact ⟨k + 1, va, vc, ok ++ [(⟨et, eh⟩ : Ev)], by rw [← HLN.out], by go_num, by omega, HOW8, HSF, HOK8, HF8, HU8⟩
        · have g4 : decide ((ok.length : Int) < cm) = false := decide_eq_false hc2
          have HST : Hid (scanB cb cm es [] = (ok, es.drop k)) := Lib.hid (by rw [HSC.out, HDS.out]; simp only [scanB]; rw [if_neg (fun h => hc2 h.2)])
          have hkc : k < ec := by omega
          have hkc2 : ¬ ec = k := by omega
          have hkn : k ≤ n := by omega
          go_upto_region 5 with (fail)
          go_quiet (fail)
          have hd : Upd [] wr (wr.drewN nq) := (Upd.refl [] wr).drewN nq
          have HOW5 := Lib.hid (hd.row HOW.out (by simp)); have HF5 := Lib.hid (HFK.out.stay hd); have HU5 := Lib.hid (HUK.out.thn hd)
          generalize wr.drewN nq = W5 at *
          clear hd m1 c3 c4 x0 x1 x2 x3 g3 g4 hc1 hc2
          have HRY : Hid (Row LE (W5.alloc (.cells #[] 49)) (some ⟨b, off + k * 4, none⟩) (es.drop k)) := Lib.hid ((row_drop k (HROW.out.stay HF5.out.upd)).stay ((Upd.refl [] W5).alloc _))
          have HB0 := Lib.hid (World.ownsRow_made (base := W5.heap.size) (size := LE.k) (e := 49) W5 #[] 0 (Nat.le_refl _) (Nat.zero_le _) (by simp))
          have hu6 := (Upd.refl [] W5).alloc (.cells #[] 49)
          obtain ⟨m0, m1, m2, m3⟩ := cells4 (hu6.at HF5.out.bm (by simp))
          obtain ⟨f0, f1, f2, f3⟩ := free4 (hu6.at HF5.out.bm (by simp))
          clear m0 m2 m3 f0 f2 f3
          go_upto_region 11 with (at_builtin; refine app_row tyE rfl _ _ rfl W5.heap.size (.slice (some ⟨W5.heap.size, 0, none⟩) 0 0) 0 [] rfl HB0.out (some ⟨b, off + k * 4, none⟩) (n - k) (ec - k) (es.drop k) rfl HLD.out HRY.out (fun e => by simp at e) (by omega) (by simp) ?_; intro v6 w6 hown hgrow; rw [Nat.zero_add, List.nil_append] at hown; obtain ⟨va, vc, rfl⟩ := row_shape hown; have hu7 : Upd [] W5 w6 := hu6.grown hgrow (fun x hx hl => by simp [Value.ownBlock] at hx; omega); have HF6 := Lib.hid (HF5.out.stay hu7); have HO6 := Lib.hid (hu7.row HOW5.out (by simp)); have HE6 := Lib.hid hown; obtain ⟨q0, q1, q2, q3⟩ := cells4 HF6.out.bm; obtain ⟨f0, f1b, f2, f3⟩ := free4 HF6.out.bm; clear hown hgrow m1 f1 q0 q2 q3 f0 f2 f3)
          have k7 : (w6.setCell ⟨P, 1, none⟩ (.slice va ((n - k)) vc)).heap[P]? = some (.cells #[.int .i64 cap, .slice va ((n - k)) vc, .int .i64 nx, .slice ia q ic] 25 (0, 0)) := setCell_block HF6.out.bm _
          have u7 := upd_set1 w6 P 1 (.slice va ((n - k)) vc)
          have HE7 := Lib.hid (u7.row HE6.out (fun x hx hm => by have h1 := own_ge HE6.out x hx; have h2 := lt_block HF5.out.bm; simp at hm; omega))
          have HO7 := Lib.hid (u7.row HO6.out (fun x hx hm => by have h1 := own_ge HO6.out x hx; have h2 := HSZ0.out; simp at hm; omega))
          have HF7 := Lib.hid (HF6.out.setM u7 k7)
          generalize w6.setCell ⟨P, 1, none⟩ (.slice va ((n - k)) vc) = W7 at *
          clear k7 u7 q1 f1b HF6 HE6 HO6
          obtain ⟨q0, q1, q2, q3⟩ := cells4 HF7.out.bm
          have HRET : Hid (encM ⟨cap, ⟨es.drop k, va, vc⟩, nx, ⟨is, ia, ic⟩⟩ = .agg #[.int .i64 cap, .slice va ((n - k)) vc, .int .i64 nx, .slice ia q ic]) := HDL.out va vc
          obtain ⟨d0, d1, d2, d3⟩ := cells4 HF7.out.rm
          obtain ⟨e0, e1, e2, e3⟩ := free4 HF7.out.rm
          obtain ⟨d4, d5, d6, d7⟩ := cells4 HF7.out.rr
          obtain ⟨e4, e5, e6, e7⟩ := free4 HF7.out.rr
          go_wp2_with fail
          have k8 := stored4 HF7.out.rm (.int .i64 cap) (.slice va ((n - k)) vc) (.int .i64 nx) (.slice ia q ic)
          have u8 := upd_set4 W7 (P + 1 + 1) (.int .i64 cap) (.slice va ((n - k)) vc) (.int .i64 nx) (.slice ia q ic)
          with_reducible generalize (((W7.setCell ⟨P + 1 + 1, 0, none⟩ (.int .i64 cap)).setCell ⟨P + 1 + 1, 1, none⟩ (.slice va ((n - k)) vc)).setCell ⟨P + 1 + 1, 2, none⟩ (.int .i64 nx)).setCell ⟨P + 1 + 1, 3, none⟩ (.slice ia q ic) = W8 at k8 u8 ⊢
          have k9 := stored4 (u8.at HF7.out.rr (by simp)) (.int .i64 0) (.int .i64 0) (.bool false) (.slice oa ok.length oc)
          have u9 := upd_set4 W8 (P + 1 + 1 + 1) (.int .i64 0) (.int .i64 0) (.bool false) (.slice oa ok.length oc)
          with_reducible generalize (((W8.setCell ⟨P + 1 + 1 + 1, 0, none⟩ (.int .i64 0)).setCell ⟨P + 1 + 1 + 1, 1, none⟩ (.int .i64 0)).setCell ⟨P + 1 + 1 + 1, 2, none⟩ (.bool false)).setCell ⟨P + 1 + 1 + 1, 3, none⟩ (.slice oa ok.length oc) = W9 at k9 u9 ⊢
          obtain ⟨r0, r1, r2, r3⟩ := cells4 (u9.at k8 (by simp))
          obtain ⟨s0, s1, s2, s3⟩ := cells4 k9
          have hU89 : Upd [P + 1 + 1, P + 1 + 1 + 1] W7 W9 := (u8.mono (by simp)).trans u9 (by simp)
          have hU9 : Upd [] w W9 := HF7.out.upd.trans hU89 (fun x hx hl => by have := HF7.out.ord; simp at hx; omega)
          exact bodyPost_ret (v := .tuple #[.agg #[.int .i64 cap, .slice va ((n - k)) vc, .int .i64 nx, .slice ia q ic], .agg #[.int .i64 0, .int .i64 0, .bool false, .slice oa ok.length oc]]) (by simp [results, Try.results34, go_sem, r0, r1, r2, r3, s0, s1, s2, s3]) rfl ⟨⟨cap, ⟨es.drop k, va, vc⟩, nx, ⟨is, ia, ic⟩⟩, ⟨0, 0, false, ⟨ok, oa, oc⟩⟩, by rw [HRET.out]; rfl, by rw [HST.out]; rfl, by rw [HST.out]; rfl, ⟨HEK.out va vc _ (hU89.row HE7.out (fun x hx hm => by have h1 := own_ge HE7.out x hx; have h2 := lt_block HF5.out.rr; simp at hm; omega)), HM.out.is.stay hU9⟩, (hasS_any (hU89.row HO7.out (fun x hx hm => by have h1 := own_ge HO7.out x hx; have h2 := HSZ0.out; simp at hm; omega))).2, fun bx hbx ha => ⟨⟨av_any HE7.out (by have := HF5.out.upd.size; omega), ha.is⟩, av_any HO7.out (by have := HF.out.upd.size; omega)⟩, hU9⟩
      · have g3 : decide (et < cb) = false := decide_eq_false hc1
        have HST : Hid (scanB cb cm es [] = (ok, es.drop k)) := Lib.hid (by rw [HSC.out, HDS.out]; simp only [scanB]; rw [if_neg (fun h => hc1 h.1)])
        have hkc : k < ec := by omega
        have hkc2 : ¬ ec = k := by omega
        have hkn : k ≤ n := by omega
        go_upto_region 5 with (fail)
        go_quiet (fail)
        have hd : Upd [] wr (wr.drewN nq) := (Upd.refl [] wr).drewN nq
        have HOW5 := Lib.hid (hd.row HOW.out (by simp)); have HF5 := Lib.hid (HFK.out.stay hd); have HU5 := Lib.hid (HUK.out.thn hd)
        generalize wr.drewN nq = W5 at *
        clear hd m1 c3 c4 x0 x1 x2 x3 g3 hc1
        have HRY : Hid (Row LE (W5.alloc (.cells #[] 49)) (some ⟨b, off + k * 4, none⟩) (es.drop k)) := Lib.hid ((row_drop k (HROW.out.stay HF5.out.upd)).stay ((Upd.refl [] W5).alloc _))
        have HB0 := Lib.hid (World.ownsRow_made (base := W5.heap.size) (size := LE.k) (e := 49) W5 #[] 0 (Nat.le_refl _) (Nat.zero_le _) (by simp))
        have hu6 := (Upd.refl [] W5).alloc (.cells #[] 49)
        obtain ⟨m0, m1, m2, m3⟩ := cells4 (hu6.at HF5.out.bm (by simp))
        obtain ⟨f0, f1, f2, f3⟩ := free4 (hu6.at HF5.out.bm (by simp))
        clear m0 m2 m3 f0 f2 f3
        go_upto_region 11 with (at_builtin; refine app_row tyE rfl _ _ rfl W5.heap.size (.slice (some ⟨W5.heap.size, 0, none⟩) 0 0) 0 [] rfl HB0.out (some ⟨b, off + k * 4, none⟩) (n - k) (ec - k) (es.drop k) rfl HLD.out HRY.out (fun e => by simp at e) (by omega) (by simp) ?_; intro v6 w6 hown hgrow; rw [Nat.zero_add, List.nil_append] at hown; obtain ⟨va, vc, rfl⟩ := row_shape hown; have hu7 : Upd [] W5 w6 := hu6.grown hgrow (fun x hx hl => by simp [Value.ownBlock] at hx; omega); have HF6 := Lib.hid (HF5.out.stay hu7); have HO6 := Lib.hid (hu7.row HOW5.out (by simp)); have HE6 := Lib.hid hown; obtain ⟨q0, q1, q2, q3⟩ := cells4 HF6.out.bm; obtain ⟨f0, f1b, f2, f3⟩ := free4 HF6.out.bm; clear hown hgrow m1 f1 q0 q2 q3 f0 f2 f3)
        have k7 : (w6.setCell ⟨P, 1, none⟩ (.slice va ((n - k)) vc)).heap[P]? = some (.cells #[.int .i64 cap, .slice va ((n - k)) vc, .int .i64 nx, .slice ia q ic] 25 (0, 0)) := setCell_block HF6.out.bm _
        have u7 := upd_set1 w6 P 1 (.slice va ((n - k)) vc)
        have HE7 := Lib.hid (u7.row HE6.out (fun x hx hm => by have h1 := own_ge HE6.out x hx; have h2 := lt_block HF5.out.bm; simp at hm; omega))
        have HO7 := Lib.hid (u7.row HO6.out (fun x hx hm => by have h1 := own_ge HO6.out x hx; have h2 := HSZ0.out; simp at hm; omega))
        have HF7 := Lib.hid (HF6.out.setM u7 k7)
        generalize w6.setCell ⟨P, 1, none⟩ (.slice va ((n - k)) vc) = W7 at *
        clear k7 u7 q1 f1b HF6 HE6 HO6
        obtain ⟨q0, q1, q2, q3⟩ := cells4 HF7.out.bm
        have HRET : Hid (encM ⟨cap, ⟨es.drop k, va, vc⟩, nx, ⟨is, ia, ic⟩⟩ = .agg #[.int .i64 cap, .slice va ((n - k)) vc, .int .i64 nx, .slice ia q ic]) := HDL.out va vc
        obtain ⟨d0, d1, d2, d3⟩ := cells4 HF7.out.rm
        obtain ⟨e0, e1, e2, e3⟩ := free4 HF7.out.rm
        obtain ⟨d4, d5, d6, d7⟩ := cells4 HF7.out.rr
        obtain ⟨e4, e5, e6, e7⟩ := free4 HF7.out.rr
        go_wp2_with fail
        have k8 := stored4 HF7.out.rm (.int .i64 cap) (.slice va ((n - k)) vc) (.int .i64 nx) (.slice ia q ic)
        have u8 := upd_set4 W7 (P + 1 + 1) (.int .i64 cap) (.slice va ((n - k)) vc) (.int .i64 nx) (.slice ia q ic)
        with_reducible generalize (((W7.setCell ⟨P + 1 + 1, 0, none⟩ (.int .i64 cap)).setCell ⟨P + 1 + 1, 1, none⟩ (.slice va ((n - k)) vc)).setCell ⟨P + 1 + 1, 2, none⟩ (.int .i64 nx)).setCell ⟨P + 1 + 1, 3, none⟩ (.slice ia q ic) = W8 at k8 u8 ⊢
        have k9 := stored4 (u8.at HF7.out.rr (by simp)) (.int .i64 0) (.int .i64 0) (.bool false) (.slice oa ok.length oc)
        have u9 := upd_set4 W8 (P + 1 + 1 + 1) (.int .i64 0) (.int .i64 0) (.bool false) (.slice oa ok.length oc)
        with_reducible generalize (((W8.setCell ⟨P + 1 + 1 + 1, 0, none⟩ (.int .i64 0)).setCell ⟨P + 1 + 1 + 1, 1, none⟩ (.int .i64 0)).setCell ⟨P + 1 + 1 + 1, 2, none⟩ (.bool false)).setCell ⟨P + 1 + 1 + 1, 3, none⟩ (.slice oa ok.length oc) = W9 at k9 u9 ⊢
        obtain ⟨r0, r1, r2, r3⟩ := cells4 (u9.at k8 (by simp))
        obtain ⟨s0, s1, s2, s3⟩ := cells4 k9
        have hU89 : Upd [P + 1 + 1, P + 1 + 1 + 1] W7 W9 := (u8.mono (by simp)).trans u9 (by simp)
        have hU9 : Upd [] w W9 := HF7.out.upd.trans hU89 (fun x hx hl => by have := HF7.out.ord; simp at hx; omega)
        exact bodyPost_ret (v := .tuple #[.agg #[.int .i64 cap, .slice va ((n - k)) vc, .int .i64 nx, .slice ia q ic], .agg #[.int .i64 0, .int .i64 0, .bool false, .slice oa ok.length oc]]) (by simp [results, Try.results34, go_sem, r0, r1, r2, r3, s0, s1, s2, s3]) rfl ⟨⟨cap, ⟨es.drop k, va, vc⟩, nx, ⟨is, ia, ic⟩⟩, ⟨0, 0, false, ⟨ok, oa, oc⟩⟩, by rw [HRET.out]; rfl, by rw [HST.out]; rfl, by rw [HST.out]; rfl, ⟨HEK.out va vc _ (hU89.row HE7.out (fun x hx hm => by have h1 := own_ge HE7.out x hx; have h2 := lt_block HF5.out.rr; simp at hm; omega)), HM.out.is.stay hU9⟩, (hasS_any (hU89.row HO7.out (fun x hx hm => by have h1 := own_ge HO7.out x hx; have h2 := HSZ0.out; simp at hm; omega))).2, fun bx hbx ha => ⟨⟨av_any HE7.out (by have := HF5.out.upd.size; omega), ha.is⟩, av_any HO7.out (by have := HF.out.upd.size; omega)⟩, hU9⟩
    · have hltz : ¬ (k : Int) < (n : Int) := by omega
      obtain rfl : k = n := by omega
      have HST : Hid (scanB cb cm es [] = (ok, es.drop k)) := Lib.hid (by rw [HSC.out, show es.drop k = [] from List.drop_eq_nil_iff.2 (by rw [← HN.out]; exact Nat.le_refl _)]; rfl)
      have hkn : k ≤ k := Nat.le_refl k
      by_cases hkc : k < ec
      · have hkc2 : ¬ ec = k := by omega
        simp only [Nat.sub_self] at HDL HEK HLD
        go_upto_region 5 with (fail)
        go_quiet (fail)
        have hd : Upd [] wr (wr.drewN nq) := (Upd.refl [] wr).drewN nq
        have HOW5 := Lib.hid (hd.row HOW.out (by simp)); have HF5 := Lib.hid (HFK.out.stay hd); have HU5 := Lib.hid (HUK.out.thn hd)
        generalize wr.drewN nq = W5 at *
        clear hd m1 c3 c4 
        have HRY : Hid (Row LE (W5.alloc (.cells #[] 49)) (some ⟨b, off + k * 4, none⟩) (es.drop k)) := Lib.hid ((row_drop k (HROW.out.stay HF5.out.upd)).stay ((Upd.refl [] W5).alloc _))
        have HB0 := Lib.hid (World.ownsRow_made (base := W5.heap.size) (size := LE.k) (e := 49) W5 #[] 0 (Nat.le_refl _) (Nat.zero_le _) (by simp))
        have hu6 := (Upd.refl [] W5).alloc (.cells #[] 49)
        obtain ⟨m0, m1, m2, m3⟩ := cells4 (hu6.at HF5.out.bm (by simp))
        obtain ⟨f0, f1, f2, f3⟩ := free4 (hu6.at HF5.out.bm (by simp))
        clear m0 m2 m3 f0 f2 f3
        go_upto_region 11 with (at_builtin; refine app_row tyE rfl _ _ rfl W5.heap.size (.slice (some ⟨W5.heap.size, 0, none⟩) 0 0) 0 [] rfl HB0.out (some ⟨b, off + k * 4, none⟩) 0 (ec - k) (es.drop k) rfl HLD.out HRY.out (fun e => by simp at e) (by omega) (by simp) ?_; intro v6 w6 hown hgrow; rw [Nat.zero_add, List.nil_append] at hown; obtain ⟨va, vc, rfl⟩ := row_shape hown; have hu7 : Upd [] W5 w6 := hu6.grown hgrow (fun x hx hl => by simp [Value.ownBlock] at hx; omega); have HF6 := Lib.hid (HF5.out.stay hu7); have HO6 := Lib.hid (hu7.row HOW5.out (by simp)); have HE6 := Lib.hid hown; obtain ⟨q0, q1, q2, q3⟩ := cells4 HF6.out.bm; obtain ⟨f0, f1b, f2, f3⟩ := free4 HF6.out.bm; clear hown hgrow m1 f1 q0 q2 q3 f0 f2 f3)
        have k7 : (w6.setCell ⟨P, 1, none⟩ (.slice va (0) vc)).heap[P]? = some (.cells #[.int .i64 cap, .slice va (0) vc, .int .i64 nx, .slice ia q ic] 25 (0, 0)) := setCell_block HF6.out.bm _
        have u7 := upd_set1 w6 P 1 (.slice va (0) vc)
        have HE7 := Lib.hid (u7.row HE6.out (fun x hx hm => by have h1 := own_ge HE6.out x hx; have h2 := lt_block HF5.out.bm; simp at hm; omega))
        have HO7 := Lib.hid (u7.row HO6.out (fun x hx hm => by have h1 := own_ge HO6.out x hx; have h2 := HSZ0.out; simp at hm; omega))
        have HF7 := Lib.hid (HF6.out.setM u7 k7)
        generalize w6.setCell ⟨P, 1, none⟩ (.slice va (0) vc) = W7 at *
        clear k7 u7 q1 f1b HF6 HE6 HO6
        obtain ⟨q0, q1, q2, q3⟩ := cells4 HF7.out.bm
        have HRET : Hid (encM ⟨cap, ⟨es.drop k, va, vc⟩, nx, ⟨is, ia, ic⟩⟩ = .agg #[.int .i64 cap, .slice va (0) vc, .int .i64 nx, .slice ia q ic]) := HDL.out va vc
        obtain ⟨d0, d1, d2, d3⟩ := cells4 HF7.out.rm
        obtain ⟨e0, e1, e2, e3⟩ := free4 HF7.out.rm
        obtain ⟨d4, d5, d6, d7⟩ := cells4 HF7.out.rr
        obtain ⟨e4, e5, e6, e7⟩ := free4 HF7.out.rr
        go_wp2_with fail
        have k8 := stored4 HF7.out.rm (.int .i64 cap) (.slice va (0) vc) (.int .i64 nx) (.slice ia q ic)
        have u8 := upd_set4 W7 (P + 1 + 1) (.int .i64 cap) (.slice va (0) vc) (.int .i64 nx) (.slice ia q ic)
        with_reducible generalize (((W7.setCell ⟨P + 1 + 1, 0, none⟩ (.int .i64 cap)).setCell ⟨P + 1 + 1, 1, none⟩ (.slice va (0) vc)).setCell ⟨P + 1 + 1, 2, none⟩ (.int .i64 nx)).setCell ⟨P + 1 + 1, 3, none⟩ (.slice ia q ic) = W8 at k8 u8 ⊢
        have k9 := stored4 (u8.at HF7.out.rr (by simp)) (.int .i64 0) (.int .i64 0) (.bool false) (.slice oa ok.length oc)
        have u9 := upd_set4 W8 (P + 1 + 1 + 1) (.int .i64 0) (.int .i64 0) (.bool false) (.slice oa ok.length oc)
        with_reducible generalize (((W8.setCell ⟨P + 1 + 1 + 1, 0, none⟩ (.int .i64 0)).setCell ⟨P + 1 + 1 + 1, 1, none⟩ (.int .i64 0)).setCell ⟨P + 1 + 1 + 1, 2, none⟩ (.bool false)).setCell ⟨P + 1 + 1 + 1, 3, none⟩ (.slice oa ok.length oc) = W9 at k9 u9 ⊢
        obtain ⟨r0, r1, r2, r3⟩ := cells4 (u9.at k8 (by simp))
        obtain ⟨s0, s1, s2, s3⟩ := cells4 k9
        have hU89 : Upd [P + 1 + 1, P + 1 + 1 + 1] W7 W9 := (u8.mono (by simp)).trans u9 (by simp)
        have hU9 : Upd [] w W9 := HF7.out.upd.trans hU89 (fun x hx hl => by have := HF7.out.ord; simp at hx; omega)
        exact bodyPost_ret (v := .tuple #[.agg #[.int .i64 cap, .slice va (0) vc, .int .i64 nx, .slice ia q ic], .agg #[.int .i64 0, .int .i64 0, .bool false, .slice oa ok.length oc]]) (by simp [results, Try.results34, go_sem, r0, r1, r2, r3, s0, s1, s2, s3]) rfl ⟨⟨cap, ⟨es.drop k, va, vc⟩, nx, ⟨is, ia, ic⟩⟩, ⟨0, 0, false, ⟨ok, oa, oc⟩⟩, by rw [HRET.out]; rfl, by rw [HST.out]; rfl, by rw [HST.out]; rfl, ⟨HEK.out va vc _ (hU89.row HE7.out (fun x hx hm => by have h1 := own_ge HE7.out x hx; have h2 := lt_block HF5.out.rr; simp at hm; omega)), HM.out.is.stay hU9⟩, (hasS_any (hU89.row HO7.out (fun x hx hm => by have h1 := own_ge HO7.out x hx; have h2 := HSZ0.out; simp at hm; omega))).2, fun bx hbx ha => ⟨⟨av_any HE7.out (by have := HF5.out.upd.size; omega), ha.is⟩, av_any HO7.out (by have := HF.out.upd.size; omega)⟩, hU9⟩
      · obtain rfl : k = ec := by omega
        simp only [Nat.sub_self] at HDL HEK HLD
        go_upto_region 5 with (fail)
        go_quiet (fail)
        have hd : Upd [] wr (wr.drewN nq) := (Upd.refl [] wr).drewN nq
        have HOW5 := Lib.hid (hd.row HOW.out (by simp)); have HF5 := Lib.hid (HFK.out.stay hd); have HU5 := Lib.hid (HUK.out.thn hd)
        generalize wr.drewN nq = W5 at *
        clear hd m1 c3 c4 
        have HRY : Hid (Row LE (W5.alloc (.cells #[] 49)) (some ⟨b, off, none⟩) (es.drop k)) := Lib.hid (by rw [show es.drop k = [] from List.drop_eq_nil_iff.2 (by rw [← HN.out]; exact Nat.le_refl _)]; exact row_nil _ _ _)
        have HB0 := Lib.hid (World.ownsRow_made (base := W5.heap.size) (size := LE.k) (e := 49) W5 #[] 0 (Nat.le_refl _) (Nat.zero_le _) (by simp))
        have hu6 := (Upd.refl [] W5).alloc (.cells #[] 49)
        obtain ⟨m0, m1, m2, m3⟩ := cells4 (hu6.at HF5.out.bm (by simp))
        obtain ⟨f0, f1, f2, f3⟩ := free4 (hu6.at HF5.out.bm (by simp))
        clear m0 m2 m3 f0 f2 f3
        go_upto_region 11 with (at_builtin; refine app_row tyE rfl _ _ rfl W5.heap.size (.slice (some ⟨W5.heap.size, 0, none⟩) 0 0) 0 [] rfl HB0.out (some ⟨b, off, none⟩) 0 0 (es.drop k) rfl HLD.out HRY.out (fun e => by simp at e) (by omega) (by simp) ?_; intro v6 w6 hown hgrow; rw [Nat.zero_add, List.nil_append] at hown; obtain ⟨va, vc, rfl⟩ := row_shape hown; have hu7 : Upd [] W5 w6 := hu6.grown hgrow (fun x hx hl => by simp [Value.ownBlock] at hx; omega); have HF6 := Lib.hid (HF5.out.stay hu7); have HO6 := Lib.hid (hu7.row HOW5.out (by simp)); have HE6 := Lib.hid hown; obtain ⟨q0, q1, q2, q3⟩ := cells4 HF6.out.bm; obtain ⟨f0, f1b, f2, f3⟩ := free4 HF6.out.bm; clear hown hgrow m1 f1 q0 q2 q3 f0 f2 f3)
        have k7 : (w6.setCell ⟨P, 1, none⟩ (.slice va (0) vc)).heap[P]? = some (.cells #[.int .i64 cap, .slice va (0) vc, .int .i64 nx, .slice ia q ic] 25 (0, 0)) := setCell_block HF6.out.bm _
        have u7 := upd_set1 w6 P 1 (.slice va (0) vc)
        have HE7 := Lib.hid (u7.row HE6.out (fun x hx hm => by have h1 := own_ge HE6.out x hx; have h2 := lt_block HF5.out.bm; simp at hm; omega))
        have HO7 := Lib.hid (u7.row HO6.out (fun x hx hm => by have h1 := own_ge HO6.out x hx; have h2 := HSZ0.out; simp at hm; omega))
        have HF7 := Lib.hid (HF6.out.setM u7 k7)
        generalize w6.setCell ⟨P, 1, none⟩ (.slice va (0) vc) = W7 at *
        clear k7 u7 q1 f1b HF6 HE6 HO6
        obtain ⟨q0, q1, q2, q3⟩ := cells4 HF7.out.bm
        have HRET : Hid (encM ⟨cap, ⟨es.drop k, va, vc⟩, nx, ⟨is, ia, ic⟩⟩ = .agg #[.int .i64 cap, .slice va (0) vc, .int .i64 nx, .slice ia q ic]) := HDL.out va vc
        obtain ⟨d0, d1, d2, d3⟩ := cells4 HF7.out.rm
        obtain ⟨e0, e1, e2, e3⟩ := free4 HF7.out.rm
        obtain ⟨d4, d5, d6, d7⟩ := cells4 HF7.out.rr
        obtain ⟨e4, e5, e6, e7⟩ := free4 HF7.out.rr
        go_wp2_with fail
        have k8 := stored4 HF7.out.rm (.int .i64 cap) (.slice va (0) vc) (.int .i64 nx) (.slice ia q ic)
        have u8 := upd_set4 W7 (P + 1 + 1) (.int .i64 cap) (.slice va (0) vc) (.int .i64 nx) (.slice ia q ic)
        with_reducible generalize (((W7.setCell ⟨P + 1 + 1, 0, none⟩ (.int .i64 cap)).setCell ⟨P + 1 + 1, 1, none⟩ (.slice va (0) vc)).setCell ⟨P + 1 + 1, 2, none⟩ (.int .i64 nx)).setCell ⟨P + 1 + 1, 3, none⟩ (.slice ia q ic) = W8 at k8 u8 ⊢
        have k9 := stored4 (u8.at HF7.out.rr (by simp)) (.int .i64 0) (.int .i64 0) (.bool false) (.slice oa ok.length oc)
        have u9 := upd_set4 W8 (P + 1 + 1 + 1) (.int .i64 0) (.int .i64 0) (.bool false) (.slice oa ok.length oc)
        with_reducible generalize (((W8.setCell ⟨P + 1 + 1 + 1, 0, none⟩ (.int .i64 0)).setCell ⟨P + 1 + 1 + 1, 1, none⟩ (.int .i64 0)).setCell ⟨P + 1 + 1 + 1, 2, none⟩ (.bool false)).setCell ⟨P + 1 + 1 + 1, 3, none⟩ (.slice oa ok.length oc) = W9 at k9 u9 ⊢
        obtain ⟨r0, r1, r2, r3⟩ := cells4 (u9.at k8 (by simp))
        obtain ⟨s0, s1, s2, s3⟩ := cells4 k9
        have hU89 : Upd [P + 1 + 1, P + 1 + 1 + 1] W7 W9 := (u8.mono (by simp)).trans u9 (by simp)
        have hU9 : Upd [] w W9 := HF7.out.upd.trans hU89 (fun x hx hl => by have := HF7.out.ord; simp at hx; omega)
        exact bodyPost_ret (v := .tuple #[.agg #[.int .i64 cap, .slice va (0) vc, .int .i64 nx, .slice ia q ic], .agg #[.int .i64 0, .int .i64 0, .bool false, .slice oa ok.length oc]]) (by simp [results, Try.results34, go_sem, r0, r1, r2, r3, s0, s1, s2, s3]) rfl ⟨⟨cap, ⟨es.drop k, va, vc⟩, nx, ⟨is, ia, ic⟩⟩, ⟨0, 0, false, ⟨ok, oa, oc⟩⟩, by rw [HRET.out]; rfl, by rw [HST.out]; rfl, by rw [HST.out]; rfl, ⟨HEK.out va vc _ (hU89.row HE7.out (fun x hx hm => by have h1 := own_ge HE7.out x hx; have h2 := lt_block HF5.out.rr; simp at hm; omega)), HM.out.is.stay hU9⟩, (hasS_any (hU89.row HO7.out (fun x hx hm => by have h1 := own_ge HO7.out x hx; have h2 := HSZ0.out; simp at hm; omega))).2, fun bx hbx ha => ⟨⟨av_any HE7.out (by have := HF5.out.upd.size; omega), ha.is⟩, av_any HO7.out (by have := HF.out.upd.size; omega)⟩, hU9⟩
set_option maxRecDepth 100000 in
set_option maxHeartbeats 8000000 in
theorem RBatch_none (cap nx : Int) (is : List Int) (ia : Option Addr) (ic : Nat) (ck ct ch cm cb : Int) (w : World) (hm : HasM w ⟨cap, ⟨[], none, 0⟩, nx, ⟨is, ia, ic⟩⟩) (hr : 0 ≤ cm ∧ cm ≤ 64) :
    Calls Try.prog 34 #[encM ⟨cap, ⟨[], none, 0⟩, nx, ⟨is, ia, ic⟩⟩, encC ⟨ck, ct, ch, cm, cb⟩] w (GivesM ⟨cap, ⟨[], none, 0⟩, nx, ⟨is, ia, ic⟩⟩ (⟨cap, [], nx, is⟩, ⟨0, 0, false, []⟩) w) := by
  have HM := Lib.hid hm
  unfold encM cellsM encC
  simp only [List.length_nil]
  obtain ⟨q, hq⟩ : ∃ q, q = is.length := ⟨_, rfl⟩
  rw [← hq]
  have HQ := Lib.hid hq
  have HDL : Hid (∀ va vc, encM ⟨cap, ⟨[], va, vc⟩, nx, ⟨is, ia, ic⟩⟩ = .agg #[.int .i64 cap, .slice va 0 vc, .int .i64 nx, .slice ia q ic]) := fun va vc => by unfold encM cellsM; simp only [List.length_nil]; rw [← hq]
  have HEK : Hid (∀ va vc W {B : Nat}, W.ownsRow B 49 LE.k (.slice va 0 vc) 0 (LE.flat []) → HasS LE W ⟨[], va, vc⟩) := fun va vc W B h => (hasS_any h).2
  clear hm hq
  have g1 : decide (cm < 0) = false := decide_eq_false (by omega)
  have g2 : decide (64 < cm) = false := decide_eq_false (by omega)
  go_enter Try.func34, Try.ntmps34
  go_upto_region 1 with (fail)
  obtain ⟨hu0, b0, b1, b2, b3, hs0⟩ := four_boxes w (.cells #[.int .i64 cap, .slice none 0 0, .int .i64 nx, .slice ia q ic] 25) (.cells #[.int .i64 ck, .int .i64 ct, .int .i64 ch, .int .i64 cm, .int .i64 cb] 28) (.cells #[.int .i64 0, .slice none 0 0, .int .i64 0, .slice none 0 0] 25) (.cells #[.int .i64 0, .int .i64 0, .bool false, .slice none 0 0] 34)
  have HF : Hid (FrR w w.heap.size cap nx 0 q none ia 0 ic ck ct ch cm cb _) := ⟨b0, b1, b2, b3, hu0, Nat.le_refl _⟩
  generalize (((w.alloc (.cells #[.int .i64 cap, .slice none 0 0, .int .i64 nx, .slice ia q ic] 25)).alloc (.cells #[.int .i64 ck, .int .i64 ct, .int .i64 ch, .int .i64 cm, .int .i64 cb] 28)).alloc (.cells #[.int .i64 0, .slice none 0 0, .int .i64 0, .slice none 0 0] 25)).alloc (.cells #[.int .i64 0, .int .i64 0, .bool false, .slice none 0 0] 34) = W0 at *
  have HSZ0 : Hid (W0.heap.size = w.heap.size + 4) := hs0
  generalize w.heap.size = P at *
  clear hu0 b0 b1 b2 b3 hs0
  obtain ⟨c0, c1, c2, c3, c4⟩ := cells5 HF.out.bc
  clear c0 c1 c2 c4 hr
  go_upto_region 5 with (fail)
  clear c3 g1 g2
  go_loopg [6, 7] 0 (fun gk v6 v7 wr => v6 = .slice none 0 0 ∧ v7 = .int .i64 0 ∧ Hid (FrR w P cap nx 0 q none ia 0 ic ck ct ch cm cb wr) ∧ Hid (Upd [] W0 wr))
  case atStart => exact ⟨rfl, rfl, HF, Upd.refl [] W0⟩
  case round =>
    obtain ⟨rfl, rfl, HFK, HUK⟩ := hrel
    obtain ⟨m0, m1, m2, m3⟩ := cells4 HFK.out.bm
    obtain ⟨c0, c1, c2, c3, c4⟩ := cells5 HFK.out.bc
    clear m0 m2 m3 c0 c1 c2
    go_upto_region 5 with (fail)
    go_quiet (fail)
    have hd : Upd [] wr (wr.drewN nq) := (Upd.refl [] wr).drewN nq
    have HF5 := Lib.hid (HFK.out.stay hd); have HU5 := Lib.hid (HUK.out.thn hd)
    generalize wr.drewN nq = W5 at *
    clear hd m1 c3 c4
    have HB0 := Lib.hid (World.ownsRow_made (base := W5.heap.size) (size := LE.k) (e := 49) W5 #[] 0 (Nat.le_refl _) (Nat.zero_le _) (by simp))
    have hu6 := (Upd.refl [] W5).alloc (.cells #[] 49)
    obtain ⟨m0, m1, m2, m3⟩ := cells4 (hu6.at HF5.out.bm (by simp))
    obtain ⟨f0, f1, f2, f3⟩ := free4 (hu6.at HF5.out.bm (by simp))
    clear m0 m2 m3 f0 f2 f3
    go_upto_region 11 with (at_builtin; refine app_row tyE rfl _ _ rfl W5.heap.size (.slice (some ⟨W5.heap.size, 0, none⟩) 0 0) 0 [] rfl HB0.out none 0 0 ([] : List En) rfl rfl (row_nil _ _ _) (fun _ => rfl) (by omega) (by simp) ?_; intro v6 w6 hown hgrow; rw [Nat.zero_add, List.nil_append] at hown; obtain ⟨va, vc, rfl⟩ := row_shape hown; have hu7 : Upd [] W5 w6 := hu6.grown hgrow (fun x hx hl => by simp [Value.ownBlock] at hx; omega); have HF6 := Lib.hid (HF5.out.stay hu7); have HE6 := Lib.hid hown; obtain ⟨q0, q1, q2, q3⟩ := cells4 HF6.out.bm; obtain ⟨f0, f1b, f2, f3⟩ := free4 HF6.out.bm; clear hown hgrow m1 f1 q0 q2 q3 f0 f2 f3)
    have k7 : (w6.setCell ⟨P, 1, none⟩ (.slice va 0 vc)).heap[P]? = some (.cells #[.int .i64 cap, .slice va 0 vc, .int .i64 nx, .slice ia q ic] 25 (0, 0)) := setCell_block HF6.out.bm _
    have u7 := upd_set1 w6 P 1 (.slice va 0 vc)
    have HE7 := Lib.hid (u7.row HE6.out (fun x hx hm => by have h1 := own_ge HE6.out x hx; have h2 := lt_block HF5.out.bm; simp at hm; omega))
    have HF7 := Lib.hid (HF6.out.setM u7 k7)
    generalize w6.setCell ⟨P, 1, none⟩ (.slice va 0 vc) = W7 at *
    clear k7 u7 q1 f1b HF6 HE6
    obtain ⟨q0, q1, q2, q3⟩ := cells4 HF7.out.bm
    have HRET : Hid (encM ⟨cap, ⟨[], va, vc⟩, nx, ⟨is, ia, ic⟩⟩ = .agg #[.int .i64 cap, .slice va 0 vc, .int .i64 nx, .slice ia q ic]) := HDL.out va vc
    obtain ⟨d0, d1, d2, d3⟩ := cells4 HF7.out.rm
    obtain ⟨e0, e1, e2, e3⟩ := free4 HF7.out.rm
    obtain ⟨d4, d5, d6, d7⟩ := cells4 HF7.out.rr
    obtain ⟨e4, e5, e6, e7⟩ := free4 HF7.out.rr
    go_wp2_with fail
    have k8 := stored4 HF7.out.rm (.int .i64 cap) (.slice va 0 vc) (.int .i64 nx) (.slice ia q ic)
    have u8 := upd_set4 W7 (P + 1 + 1) (.int .i64 cap) (.slice va 0 vc) (.int .i64 nx) (.slice ia q ic)
    with_reducible generalize (((W7.setCell ⟨P + 1 + 1, 0, none⟩ (.int .i64 cap)).setCell ⟨P + 1 + 1, 1, none⟩ (.slice va 0 vc)).setCell ⟨P + 1 + 1, 2, none⟩ (.int .i64 nx)).setCell ⟨P + 1 + 1, 3, none⟩ (.slice ia q ic) = W8 at k8 u8 ⊢
    have k9 := stored4 (u8.at HF7.out.rr (by simp)) (.int .i64 0) (.int .i64 0) (.bool false) (.slice none 0 0)
    have u9 := upd_set4 W8 (P + 1 + 1 + 1) (.int .i64 0) (.int .i64 0) (.bool false) (.slice none 0 0)
    with_reducible generalize (((W8.setCell ⟨P + 1 + 1 + 1, 0, none⟩ (.int .i64 0)).setCell ⟨P + 1 + 1 + 1, 1, none⟩ (.int .i64 0)).setCell ⟨P + 1 + 1 + 1, 2, none⟩ (.bool false)).setCell ⟨P + 1 + 1 + 1, 3, none⟩ (.slice none 0 0) = W9 at k9 u9 ⊢
    obtain ⟨r0, r1, r2, r3⟩ := cells4 (u9.at k8 (by simp))
    obtain ⟨s0, s1, s2, s3⟩ := cells4 k9
    have hU89 : Upd [P + 1 + 1, P + 1 + 1 + 1] W7 W9 := (u8.mono (by simp)).trans u9 (by simp)
    have hU9 : Upd [] w W9 := HF7.out.upd.trans hU89 (fun x hx hl => by have := HF7.out.ord; simp at hx; omega)
    exact bodyPost_ret (v := .tuple #[.agg #[.int .i64 cap, .slice va 0 vc, .int .i64 nx, .slice ia q ic], .agg #[.int .i64 0, .int .i64 0, .bool false, .slice none 0 0]]) (by simp [results, Try.results34, go_sem, r0, r1, r2, r3, s0, s1, s2, s3]) rfl ⟨⟨cap, ⟨[], va, vc⟩, nx, ⟨is, ia, ic⟩⟩, ⟨0, 0, false, ⟨[], none, 0⟩⟩, by rw [HRET.out]; rfl, rfl, rfl, ⟨HEK.out va vc _ (hU89.row HE7.out (fun x hx hm => by have h1 := own_ge HE7.out x hx; have h2 := lt_block HF5.out.rr; simp at hm; omega)), HM.out.is.stay hU9⟩, hasS_nil LV _, fun bx hbx ha => ⟨⟨av_any HE7.out (by have := HF5.out.upd.size; omega), ha.is⟩, avS_nil _ _ _⟩, hU9⟩
set_option maxRecDepth 100000 in
set_option maxHeartbeats 8000000 in
theorem RBatch_nil (cap nx : Int) (ea : Addr) (ec : Nat) (is : List Int) (ia : Option Addr) (ic : Nat) (ck ct ch cm cb : Int) (w : World) (hm : HasM w ⟨cap, ⟨[], (some ea), ec⟩, nx, ⟨is, ia, ic⟩⟩) (hr : 0 ≤ cm ∧ cm ≤ 64) :
    Calls Try.prog 34 #[encM ⟨cap, ⟨[], (some ea), ec⟩, nx, ⟨is, ia, ic⟩⟩, encC ⟨ck, ct, ch, cm, cb⟩] w (GivesM ⟨cap, ⟨[], (some ea), ec⟩, nx, ⟨is, ia, ic⟩⟩ (⟨cap, [], nx, is⟩, ⟨0, 0, false, []⟩) w) := by
  have HM := Lib.hid hm
  unfold encM cellsM encC
  simp only [List.length_nil]
  obtain ⟨q, hq⟩ : ∃ q, q = is.length := ⟨_, rfl⟩
  rw [← hq]
  have HQ := Lib.hid hq
  have HDL : Hid (∀ va vc, encM ⟨cap, ⟨[], va, vc⟩, nx, ⟨is, ia, ic⟩⟩ = .agg #[.int .i64 cap, .slice va 0 vc, .int .i64 nx, .slice ia q ic]) := fun va vc => by unfold encM cellsM; simp only [List.length_nil]; rw [← hq]
  have HEK : Hid (∀ va vc W {B : Nat}, W.ownsRow B 49 LE.k (.slice va 0 vc) 0 (LE.flat []) → HasS LE W ⟨[], va, vc⟩) := fun va vc W B h => (hasS_any h).2
  clear hm hq
  have g1 : decide (cm < 0) = false := decide_eq_false (by omega)
  have g2 : decide (64 < cm) = false := decide_eq_false (by omega)
  go_enter Try.func34, Try.ntmps34
  go_upto_region 1 with (fail)
  obtain ⟨hu0, b0, b1, b2, b3, hs0⟩ := four_boxes w (.cells #[.int .i64 cap, .slice (some ea) 0 ec, .int .i64 nx, .slice ia q ic] 25) (.cells #[.int .i64 ck, .int .i64 ct, .int .i64 ch, .int .i64 cm, .int .i64 cb] 28) (.cells #[.int .i64 0, .slice none 0 0, .int .i64 0, .slice none 0 0] 25) (.cells #[.int .i64 0, .int .i64 0, .bool false, .slice none 0 0] 34)
  have HF : Hid (FrR w w.heap.size cap nx 0 q (some ea) ia ec ic ck ct ch cm cb _) := ⟨b0, b1, b2, b3, hu0, Nat.le_refl _⟩
  generalize (((w.alloc (.cells #[.int .i64 cap, .slice (some ea) 0 ec, .int .i64 nx, .slice ia q ic] 25)).alloc (.cells #[.int .i64 ck, .int .i64 ct, .int .i64 ch, .int .i64 cm, .int .i64 cb] 28)).alloc (.cells #[.int .i64 0, .slice none 0 0, .int .i64 0, .slice none 0 0] 25)).alloc (.cells #[.int .i64 0, .int .i64 0, .bool false, .slice none 0 0] 34) = W0 at *
  have HSZ0 : Hid (W0.heap.size = w.heap.size + 4) := hs0
  generalize w.heap.size = P at *
  clear hu0 b0 b1 b2 b3 hs0
  obtain ⟨c0, c1, c2, c3, c4⟩ := cells5 HF.out.bc
  clear c0 c1 c2 c4 hr
  go_upto_region 5 with (fail)
  clear c3 g1 g2
  go_loopg [6, 7] 0 (fun gk v6 v7 wr => v6 = .slice none 0 0 ∧ v7 = .int .i64 0 ∧ Hid (FrR w P cap nx 0 q (some ea) ia ec ic ck ct ch cm cb wr) ∧ Hid (Upd [] W0 wr))
  case atStart => exact ⟨rfl, rfl, HF, Upd.refl [] W0⟩
  case round =>
    obtain ⟨rfl, rfl, HFK, HUK⟩ := hrel
    obtain ⟨m0, m1, m2, m3⟩ := cells4 HFK.out.bm
    obtain ⟨c0, c1, c2, c3, c4⟩ := cells5 HFK.out.bc
    clear m0 m2 m3 c0 c1 c2
    go_upto_region 5 with (fail)
    go_quiet (fail)
    have hd : Upd [] wr (wr.drewN nq) := (Upd.refl [] wr).drewN nq
    have HF5 := Lib.hid (HFK.out.stay hd); have HU5 := Lib.hid (HUK.out.thn hd)
    generalize wr.drewN nq = W5 at *
    clear hd m1 c3 c4
    have HB0 := Lib.hid (World.ownsRow_made (base := W5.heap.size) (size := LE.k) (e := 49) W5 #[] 0 (Nat.le_refl _) (Nat.zero_le _) (by simp))
    have hu6 := (Upd.refl [] W5).alloc (.cells #[] 49)
    obtain ⟨m0, m1, m2, m3⟩ := cells4 (hu6.at HF5.out.bm (by simp))
    obtain ⟨f0, f1, f2, f3⟩ := free4 (hu6.at HF5.out.bm (by simp))
    clear m0 m2 m3 f0 f2 f3
    go_upto_region 11 with (at_builtin; refine app_row tyE rfl _ _ rfl W5.heap.size (.slice (some ⟨W5.heap.size, 0, none⟩) 0 0) 0 [] rfl HB0.out (some _) 0 _ ([] : List En) rfl rfl (row_nil _ _ _) (fun e => by simp at e) (by omega) (by simp) ?_; intro v6 w6 hown hgrow; rw [Nat.zero_add, List.nil_append] at hown; obtain ⟨va, vc, rfl⟩ := row_shape hown; have hu7 : Upd [] W5 w6 := hu6.grown hgrow (fun x hx hl => by simp [Value.ownBlock] at hx; omega); have HF6 := Lib.hid (HF5.out.stay hu7); have HE6 := Lib.hid hown; obtain ⟨q0, q1, q2, q3⟩ := cells4 HF6.out.bm; obtain ⟨f0, f1b, f2, f3⟩ := free4 HF6.out.bm; clear hown hgrow m1 f1 q0 q2 q3 f0 f2 f3)
    have k7 : (w6.setCell ⟨P, 1, none⟩ (.slice va 0 vc)).heap[P]? = some (.cells #[.int .i64 cap, .slice va 0 vc, .int .i64 nx, .slice ia q ic] 25 (0, 0)) := setCell_block HF6.out.bm _
    have u7 := upd_set1 w6 P 1 (.slice va 0 vc)
    have HE7 := Lib.hid (u7.row HE6.out (fun x hx hm => by have h1 := own_ge HE6.out x hx; have h2 := lt_block HF5.out.bm; simp at hm; omega))
    have HF7 := Lib.hid (HF6.out.setM u7 k7)
    generalize w6.setCell ⟨P, 1, none⟩ (.slice va 0 vc) = W7 at *
    clear k7 u7 q1 f1b HF6 HE6
    obtain ⟨q0, q1, q2, q3⟩ := cells4 HF7.out.bm
    have HRET : Hid (encM ⟨cap, ⟨[], va, vc⟩, nx, ⟨is, ia, ic⟩⟩ = .agg #[.int .i64 cap, .slice va 0 vc, .int .i64 nx, .slice ia q ic]) := HDL.out va vc
    obtain ⟨d0, d1, d2, d3⟩ := cells4 HF7.out.rm
    obtain ⟨e0, e1, e2, e3⟩ := free4 HF7.out.rm
    obtain ⟨d4, d5, d6, d7⟩ := cells4 HF7.out.rr
    obtain ⟨e4, e5, e6, e7⟩ := free4 HF7.out.rr
    go_wp2_with fail
    have k8 := stored4 HF7.out.rm (.int .i64 cap) (.slice va 0 vc) (.int .i64 nx) (.slice ia q ic)
    have u8 := upd_set4 W7 (P + 1 + 1) (.int .i64 cap) (.slice va 0 vc) (.int .i64 nx) (.slice ia q ic)
    with_reducible generalize (((W7.setCell ⟨P + 1 + 1, 0, none⟩ (.int .i64 cap)).setCell ⟨P + 1 + 1, 1, none⟩ (.slice va 0 vc)).setCell ⟨P + 1 + 1, 2, none⟩ (.int .i64 nx)).setCell ⟨P + 1 + 1, 3, none⟩ (.slice ia q ic) = W8 at k8 u8 ⊢
    have k9 := stored4 (u8.at HF7.out.rr (by simp)) (.int .i64 0) (.int .i64 0) (.bool false) (.slice none 0 0)
    have u9 := upd_set4 W8 (P + 1 + 1 + 1) (.int .i64 0) (.int .i64 0) (.bool false) (.slice none 0 0)
    with_reducible generalize (((W8.setCell ⟨P + 1 + 1 + 1, 0, none⟩ (.int .i64 0)).setCell ⟨P + 1 + 1 + 1, 1, none⟩ (.int .i64 0)).setCell ⟨P + 1 + 1 + 1, 2, none⟩ (.bool false)).setCell ⟨P + 1 + 1 + 1, 3, none⟩ (.slice none 0 0) = W9 at k9 u9 ⊢
    obtain ⟨r0, r1, r2, r3⟩ := cells4 (u9.at k8 (by simp))
    obtain ⟨s0, s1, s2, s3⟩ := cells4 k9
    have hU89 : Upd [P + 1 + 1, P + 1 + 1 + 1] W7 W9 := (u8.mono (by simp)).trans u9 (by simp)
    have hU9 : Upd [] w W9 := HF7.out.upd.trans hU89 (fun x hx hl => by have := HF7.out.ord; simp at hx; omega)
    exact bodyPost_ret (v := .tuple #[.agg #[.int .i64 cap, .slice va 0 vc, .int .i64 nx, .slice ia q ic], .agg #[.int .i64 0, .int .i64 0, .bool false, .slice none 0 0]]) (by simp [results, Try.results34, go_sem, r0, r1, r2, r3, s0, s1, s2, s3]) rfl ⟨⟨cap, ⟨[], va, vc⟩, nx, ⟨is, ia, ic⟩⟩, ⟨0, 0, false, ⟨[], none, 0⟩⟩, by rw [HRET.out]; rfl, rfl, rfl, ⟨HEK.out va vc _ (hU89.row HE7.out (fun x hx hm => by have h1 := own_ge HE7.out x hx; have h2 := lt_block HF5.out.rr; simp at hm; omega)), HM.out.is.stay hU9⟩, hasS_nil LV _, fun bx hbx ha => ⟨⟨av_any HE7.out (by have := HF5.out.upd.size; omega), ha.is⟩, avS_nil _ _ _⟩, hU9⟩
set_option maxRecDepth 100000 in
set_option maxHeartbeats 8000000 in
theorem RBatch_bad (m : MdR) (c : Ca) (w : World) (hm : HasM w m) (hr : ¬ (0 ≤ c.m ∧ c.m ≤ 64)) :
    Calls Try.prog 34 #[encM m, encC c] w (GivesM m (m.md, errR 1) w) := by
  have HM := Lib.hid hm
  obtain ⟨cap, ⟨es, ea, ec⟩, nx, ⟨is, ia, ic⟩⟩ := m
  obtain ⟨ck, ct, ch, cm, cb⟩ := c
  simp only at hr
  unfold encM cellsM encC
  simp only
  have HRET : Hid (∀ n q, n = es.length → q = is.length → encM ⟨cap, ⟨es, ea, ec⟩, nx, ⟨is, ia, ic⟩⟩ = .agg #[.int .i64 cap, .slice ea n ec, .int .i64 nx, .slice ia q ic]) := fun n q h1 h2 => by rw [h1, h2]; rfl
  obtain ⟨n, hn⟩ : ∃ n, n = es.length := ⟨_, rfl⟩
  obtain ⟨q, hq⟩ : ∃ q, q = is.length := ⟨_, rfl⟩
  rw [← hn, ← hq]
  have HRET := Lib.hid (HRET.out n q hn hq)
  clear hn hq hm
  by_cases h1 : cm < 0
  · have g1 : decide (cm < 0) = true := decide_eq_true h1
    clear h1 hr
    go_enter Try.func34, Try.ntmps34
    go_upto_region 1 with (fail)
    obtain ⟨hu0, b0, b1, b2, b3, hs0⟩ := four_boxes w (.cells #[.int .i64 cap, .slice ea n ec, .int .i64 nx, .slice ia q ic] 25) (.cells #[.int .i64 ck, .int .i64 ct, .int .i64 ch, .int .i64 cm, .int .i64 cb] 28) (.cells #[.int .i64 0, .slice none 0 0, .int .i64 0, .slice none 0 0] 25) (.cells #[.int .i64 0, .int .i64 0, .bool false, .slice none 0 0] 34)
    have HF : Hid (FrR w w.heap.size cap nx n q ea ia ec ic ck ct ch cm cb _) := ⟨b0, b1, b2, b3, hu0, Nat.le_refl _⟩
    generalize (((w.alloc (.cells #[.int .i64 cap, .slice ea n ec, .int .i64 nx, .slice ia q ic] 25)).alloc (.cells #[.int .i64 ck, .int .i64 ct, .int .i64 ch, .int .i64 cm, .int .i64 cb] 28)).alloc (.cells #[.int .i64 0, .slice none 0 0, .int .i64 0, .slice none 0 0] 25)).alloc (.cells #[.int .i64 0, .int .i64 0, .bool false, .slice none 0 0] 34) = W0 at *
    have HSZ0 : Hid (W0.heap.size = w.heap.size + 4) := hs0
    generalize w.heap.size = P at *
    clear hu0 b0 b1 b2 b3 hs0
    obtain ⟨c0, c1, c2, c3, c4⟩ := cells5 HF.out.bc
    clear c0 c1 c2 c4
    go_upto_region 2 with (fail)
    obtain ⟨q0, q1, q2, q3⟩ := cells4 HF.out.bm
    obtain ⟨d0, d1, d2, d3⟩ := cells4 HF.out.rm
    obtain ⟨e0, e1, e2, e3⟩ := free4 HF.out.rm
    obtain ⟨d4, d5, d6, d7⟩ := cells4 HF.out.rr
    obtain ⟨e4, e5, e6, e7⟩ := free4 HF.out.rr
    go_wp2_with fail
    have k8 := stored4 HF.out.rm (.int .i64 cap) (.slice ea n ec) (.int .i64 nx) (.slice ia q ic)
    have u8 := upd_set4 W0 (P + 1 + 1) (.int .i64 cap) (.slice ea n ec) (.int .i64 nx) (.slice ia q ic)
    with_reducible generalize (((W0.setCell ⟨P + 1 + 1, 0, none⟩ (.int .i64 cap)).setCell ⟨P + 1 + 1, 1, none⟩ (.slice ea n ec)).setCell ⟨P + 1 + 1, 2, none⟩ (.int .i64 nx)).setCell ⟨P + 1 + 1, 3, none⟩ (.slice ia q ic) = W8 at k8 u8 ⊢
    have k9 := stored4 (u8.at HF.out.rr (by simp)) (.int .i64 1) (.int .i64 0) (.bool false) (.slice none 0 0)
    have u9 := upd_set4 W8 (P + 1 + 1 + 1) (.int .i64 1) (.int .i64 0) (.bool false) (.slice none 0 0)
    with_reducible generalize (((W8.setCell ⟨P + 1 + 1 + 1, 0, none⟩ (.int .i64 1)).setCell ⟨P + 1 + 1 + 1, 1, none⟩ (.int .i64 0)).setCell ⟨P + 1 + 1 + 1, 2, none⟩ (.bool false)).setCell ⟨P + 1 + 1 + 1, 3, none⟩ (.slice none 0 0) = W9 at k9 u9 ⊢
    obtain ⟨r0, r1, r2, r3⟩ := cells4 (u9.at k8 (by simp))
    obtain ⟨s0, s1, s2, s3⟩ := cells4 k9
    have hU89 : Upd [P + 1 + 1, P + 1 + 1 + 1] W0 W9 := (u8.mono (by simp)).trans u9 (by simp)
    have hU9 : Upd [] w W9 := HF.out.upd.trans hU89 (fun x hx hl => by have := HF.out.ord; simp at hx; omega)
    exact bodyPost_ret (v := .tuple #[.agg #[.int .i64 cap, .slice ea n ec, .int .i64 nx, .slice ia q ic], .agg #[.int .i64 1, .int .i64 0, .bool false, .slice none 0 0]]) (by simp [results, Try.results34, go_sem, r0, r1, r2, r3, s0, s1, s2, s3]) rfl ⟨⟨cap, ⟨es, ea, ec⟩, nx, ⟨is, ia, ic⟩⟩, ⟨1, 0, false, ⟨[], none, 0⟩⟩, by rw [HRET.out]; rfl, rfl, rfl, ⟨HM.out.es.stay hU9, HM.out.is.stay hU9⟩, hasS_nil LV _, fun bx hbx ha => ⟨ha, avS_nil _ _ _⟩, hU9⟩
  · have g1 : decide (cm < 0) = false := decide_eq_false h1
    have g2 : decide (64 < cm) = true := decide_eq_true (by omega)
    clear h1 hr
    go_enter Try.func34, Try.ntmps34
    go_upto_region 1 with (fail)
    obtain ⟨hu0, b0, b1, b2, b3, hs0⟩ := four_boxes w (.cells #[.int .i64 cap, .slice ea n ec, .int .i64 nx, .slice ia q ic] 25) (.cells #[.int .i64 ck, .int .i64 ct, .int .i64 ch, .int .i64 cm, .int .i64 cb] 28) (.cells #[.int .i64 0, .slice none 0 0, .int .i64 0, .slice none 0 0] 25) (.cells #[.int .i64 0, .int .i64 0, .bool false, .slice none 0 0] 34)
    have HF : Hid (FrR w w.heap.size cap nx n q ea ia ec ic ck ct ch cm cb _) := ⟨b0, b1, b2, b3, hu0, Nat.le_refl _⟩
    generalize (((w.alloc (.cells #[.int .i64 cap, .slice ea n ec, .int .i64 nx, .slice ia q ic] 25)).alloc (.cells #[.int .i64 ck, .int .i64 ct, .int .i64 ch, .int .i64 cm, .int .i64 cb] 28)).alloc (.cells #[.int .i64 0, .slice none 0 0, .int .i64 0, .slice none 0 0] 25)).alloc (.cells #[.int .i64 0, .int .i64 0, .bool false, .slice none 0 0] 34) = W0 at *
    have HSZ0 : Hid (W0.heap.size = w.heap.size + 4) := hs0
    generalize w.heap.size = P at *
    clear hu0 b0 b1 b2 b3 hs0
    obtain ⟨c0, c1, c2, c3, c4⟩ := cells5 HF.out.bc
    clear c0 c1 c2 c4
    go_upto_region 2 with (fail)
    obtain ⟨q0, q1, q2, q3⟩ := cells4 HF.out.bm
    obtain ⟨d0, d1, d2, d3⟩ := cells4 HF.out.rm
    obtain ⟨e0, e1, e2, e3⟩ := free4 HF.out.rm
    obtain ⟨d4, d5, d6, d7⟩ := cells4 HF.out.rr
    obtain ⟨e4, e5, e6, e7⟩ := free4 HF.out.rr
    go_wp2_with fail
    have k8 := stored4 HF.out.rm (.int .i64 cap) (.slice ea n ec) (.int .i64 nx) (.slice ia q ic)
    have u8 := upd_set4 W0 (P + 1 + 1) (.int .i64 cap) (.slice ea n ec) (.int .i64 nx) (.slice ia q ic)
    with_reducible generalize (((W0.setCell ⟨P + 1 + 1, 0, none⟩ (.int .i64 cap)).setCell ⟨P + 1 + 1, 1, none⟩ (.slice ea n ec)).setCell ⟨P + 1 + 1, 2, none⟩ (.int .i64 nx)).setCell ⟨P + 1 + 1, 3, none⟩ (.slice ia q ic) = W8 at k8 u8 ⊢
    have k9 := stored4 (u8.at HF.out.rr (by simp)) (.int .i64 1) (.int .i64 0) (.bool false) (.slice none 0 0)
    have u9 := upd_set4 W8 (P + 1 + 1 + 1) (.int .i64 1) (.int .i64 0) (.bool false) (.slice none 0 0)
    with_reducible generalize (((W8.setCell ⟨P + 1 + 1 + 1, 0, none⟩ (.int .i64 1)).setCell ⟨P + 1 + 1 + 1, 1, none⟩ (.int .i64 0)).setCell ⟨P + 1 + 1 + 1, 2, none⟩ (.bool false)).setCell ⟨P + 1 + 1 + 1, 3, none⟩ (.slice none 0 0) = W9 at k9 u9 ⊢
    obtain ⟨r0, r1, r2, r3⟩ := cells4 (u9.at k8 (by simp))
    obtain ⟨s0, s1, s2, s3⟩ := cells4 k9
    have hU89 : Upd [P + 1 + 1, P + 1 + 1 + 1] W0 W9 := (u8.mono (by simp)).trans u9 (by simp)
    have hU9 : Upd [] w W9 := HF.out.upd.trans hU89 (fun x hx hl => by have := HF.out.ord; simp at hx; omega)
    exact bodyPost_ret (v := .tuple #[.agg #[.int .i64 cap, .slice ea n ec, .int .i64 nx, .slice ia q ic], .agg #[.int .i64 1, .int .i64 0, .bool false, .slice none 0 0]]) (by simp [results, Try.results34, go_sem, r0, r1, r2, r3, s0, s1, s2, s3]) rfl ⟨⟨cap, ⟨es, ea, ec⟩, nx, ⟨is, ia, ic⟩⟩, ⟨1, 0, false, ⟨[], none, 0⟩⟩, by rw [HRET.out]; rfl, rfl, rfl, ⟨HM.out.es.stay hU9, HM.out.is.stay hU9⟩, hasS_nil LV _, fun bx hbx ha => ⟨ha, avS_nil _ _ _⟩, hU9⟩
theorem RBatch_has (m : MdR) (c : Ca) (w : World) (hm : HasM w m) (hl : m.es.l.length ≤ 1000) :
    Calls Try.prog 34 #[encM m, encC c] w (GivesM m (batM m.md c) w) := by
  by_cases hr : 0 ≤ c.m ∧ c.m ≤ 64
  · have e : batM m.md c = (⟨m.cap, (scanB c.b c.m m.es.l []).2, m.nx, m.is.l⟩, ⟨0, 0, false, (scanB c.b c.m m.es.l []).1⟩) := by unfold batM; rw [if_neg (fun h => h hr)]; rfl
    rw [e]
    obtain ⟨cap, ⟨es, ea, ec⟩, nx, ⟨is, ia, ic⟩⟩ := m
    obtain ⟨ck, ct, ch, cm, cb⟩ := c
    rcases Nat.eq_zero_or_pos es.length with h | h
    · obtain rfl := List.length_eq_zero_iff.1 h
      cases ea with
      | none =>
        obtain rfl : ec = 0 := hm.es.nn rfl
        exact RBatch_none cap nx is ia ic ck ct ch cm cb w hm hr
      | some ea => exact RBatch_nil cap nx ea ec is ia ic ck ct ch cm cb w hm hr
    · obtain ⟨b, off, e2, _⟩ := hm.es.row 0 h
      simp only at e2
      subst e2
      exact RBatch_some cap nx es b off ec is ia ic ck ct ch cm cb w hm hl h hr
  · have e : batM m.md c = (m.md, errR 1) := by unfold batM; rw [if_pos hr]
    rw [e]
    exact RBatch_bad m c w hm hr
end Go.Proofs.Ytpneljhplbkdkaa
