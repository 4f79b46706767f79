
/- Contract of layer 10: the reference's cancel. -/
import Derived.Test.YtpneljhplbkdkaaAE
namespace Go.Proofs.Ytpneljhplbkdkaa
open Go.RowKit Go.Lib

theorem row_kill {W : World} {g cap k : Nat} {es : List En} (hH : Held LE 49 W g cap es) (hk : k < es.length) : Row LE (W.setCell ⟨g, k * 4 + 3, none⟩ (.bool true)) (some ⟨g, 0, none⟩) (es.set k ⟨es[k].t, es[k].q, es[k].h, true⟩) := fun j hj => ⟨g, 0, rfl, fun t u hu => by
  obtain ⟨cur, hg, hs, ht⟩ := hH.ex
  have hs4 : cur.size = cap * 4 := hs
  have hle := hH.le
  rw [List.length_set] at hj
  have ht4 : t < 4 := LE.lt hu
  rw [cell_block (setCell_block hg _), show LE.k = 4 from rfl]
  by_cases e : 0 + j * 4 + t = k * 4 + 3
  · obtain ⟨rfl, rfl⟩ : j = k ∧ t = 3 := by omega
    rw [e, Array.getElem?_setIfInBounds_self_of_lt (by omega)]
    rw [List.getElem_set_self] at hu
    exact hu
  · rw [Array.getElem?_setIfInBounds_ne (fun h => e h.symm)]
    have hu2 : (LE.enc es[j])[t]? = some u := by
      by_cases hjk : j = k
      · subst hjk
        rw [List.getElem_set_self] at hu
        have ht3 : t < 3 := by omega
        rcases (show t = 0 ∨ t = 1 ∨ t = 2 by omega) with rfl | rfl | rfl <;> exact hu
      · rw [List.getElem_set_ne (fun h => hjk h.symm)] at hu
        exact hu
    have h1 := LE.flat_at es j hj t u hu2
    rw [← ht, List.getElem?_take] at h1
    split at h1
    · rw [show LE.k = 4 from rfl] at h1
      rw [Nat.zero_add, ← Array.getElem?_toList]; exact h1
    · simp at h1⟩
theorem killE_cons_yes {h : Int} {e : En} {es : List En} (h1 : e.h = h) (h2 : e.d = false) : killE h (e :: es) = some (⟨e.t, e.q, e.h, true⟩ :: es) := by simp only [killE]; rw [if_pos ⟨h1, h2⟩]
theorem killE_cons_no {h : Int} {e : En} {es : List En} (h1 : ¬ (e.h = h ∧ e.d = false)) : killE h (e :: es) = (killE h es).map (e :: ·) := by simp only [killE]; rw [if_neg h1]
theorem FrR.keepG {w : World} {P g : Nat} {cap nx : Int} {n q : Nat} {ea ia : Option Addr} {ec ic : Nat} {ck ct ch cm cb : Int} {a b : World} (h : FrR w P cap nx n q ea ia ec ic ck ct ch cm cb a) (hu : Upd [g] a b) (h0 : g ≠ P) (h1 : g ≠ P + 1) (h2 : g ≠ P + 1 + 1) (h3 : g ≠ P + 1 + 1 + 1) (hg : w.heap.size ≤ g) : FrR w P cap nx n q ea ia ec ic ck ct ch cm cb b :=
  ⟨hu.at h.bm (by simpa using h0.symm), hu.at h.bc (by simpa using h1.symm), hu.at h.rm (by simpa using h2.symm), hu.at h.rr (by simpa using h3.symm), h.upd.new hu hg, h.ord⟩
set_option maxRecDepth 100000 in
set_option maxHeartbeats 8000000 in
theorem RCancel_has (m : MdR) (c : Ca) (w : World) (hm : HasM w m) (hl : m.es.l.length ≤ 1000) :
    Calls Try.prog 33 #[encM m, encC c] w (GivesM m (canM m.md c) w) := by
  have HM := Lib.hid hm
  obtain ⟨cap, ⟨es, ea, ec⟩, nx, ⟨is, ia, ic⟩⟩ := m
  obtain ⟨ck, ct, ch, cm, cb⟩ := c
  simp only at hl
  unfold encM cellsM encC
  simp only
  have HROW := Lib.hid hm.es.row
  have HCY : Hid (∀ es', killE ch es = some es' → canM (MdR.md ⟨cap, ⟨es, ea, ec⟩, nx, ⟨is, ia, ic⟩⟩) ⟨ck, ct, ch, cm, cb⟩ = (⟨cap, es', nx, is⟩, ⟨0, 0, true, []⟩)) := fun es' h => by unfold canM MdR.md; simp only; rw [h]
  have HCN : Hid (killE ch es = none → canM (MdR.md ⟨cap, ⟨es, ea, ec⟩, nx, ⟨is, ia, ic⟩⟩) ⟨ck, ct, ch, cm, cb⟩ = (⟨cap, es, nx, is⟩, ⟨0, 0, false, []⟩)) := fun h => by unfold canM MdR.md; simp only; rw [h]; rfl
  generalize canM (MdR.md ⟨cap, ⟨es, ea, ec⟩, nx, ⟨is, ia, ic⟩⟩) ⟨ck, ct, ch, cm, cb⟩ = res at *
  have HRET : Hid (∀ n q es' ea' ec', n = es'.length → q = is.length → encM ⟨cap, ⟨es', ea', ec'⟩, nx, ⟨is, ia, ic⟩⟩ = .agg #[.int .i64 cap, .slice ea' n ec', .int .i64 nx, .slice ia q ic]) := fun n q es' ea' ec' h1 h2 => by rw [h1, h2]; rfl
  obtain ⟨n, hn⟩ : ∃ n, n = es.length := ⟨_, rfl⟩
  obtain ⟨q, hq⟩ : ∃ q, q = is.length := ⟨_, rfl⟩
  rw [← hn] at hl ⊢
  rw [← hq]
  have HN := Lib.hid hn; have HQ := Lib.hid hq
  clear hn hq hm
  go_enter Try.func33, Try.ntmps33
  go_upto_region 1 with (fail)
  obtain ⟨hu0, b0, b1, b2, b3, hs0⟩ := four_boxes w (.cells #[.int .i64 cap, .slice ea n ec, .int .i64 nx, .slice ia q ic] 25) (.cells #[.int .i64 ck, .int .i64 ct, .int .i64 ch, .int .i64 cm, .int .i64 cb] 28) (.cells #[.int .i64 0, .slice none 0 0, .int .i64 0, .slice none 0 0] 25) (.cells #[.int .i64 0, .int .i64 0, .bool false, .slice none 0 0] 34)
  have HF : Hid (FrR w w.heap.size cap nx n q ea ia ec ic ck ct ch cm cb _) := ⟨b0, b1, b2, b3, hu0, Nat.le_refl _⟩
  generalize (((w.alloc (.cells #[.int .i64 cap, .slice ea n ec, .int .i64 nx, .slice ia q ic] 25)).alloc (.cells #[.int .i64 ck, .int .i64 ct, .int .i64 ch, .int .i64 cm, .int .i64 cb] 28)).alloc (.cells #[.int .i64 0, .slice none 0 0, .int .i64 0, .slice none 0 0] 25)).alloc (.cells #[.int .i64 0, .int .i64 0, .bool false, .slice none 0 0] 34) = W0 at *
  have HSZ0 : Hid (W0.heap.size = w.heap.size + 4) := hs0
  generalize w.heap.size = P at *
  clear hu0 b0 b1 b2 b3 hs0
  go_wp2_with fail
  go_loopg [6] n (fun gk vi wr => ∃ k : Nat, vi = .int .i64 k ∧ k + gk = n ∧ Hid (killE ch es = (killE ch (es.drop k)).map (fun r => es.take k ++ r)) ∧ Hid (FrR w P cap nx n q ea ia ec ic ck ct ch cm cb wr) ∧ Hid (Upd [] W0 wr))
  case atStart => exact ⟨0, rfl, by omega, Lib.hid (by simp), HF, Upd.refl [] W0⟩
  case round =>
    obtain ⟨k, rfl, hkg, HKI, HFK, HUK⟩ := hrel
    obtain ⟨m0, m1, m2, m3⟩ := cells4 HFK.out.bm
    obtain ⟨c0, c1, c2, c3, c4⟩ := cells5 HFK.out.bc
    clear m0 m2 m3 c0 c1 c3 c4
    by_cases hlt : k < n
    · have hltz : (k : Int) < (n : Int) := by omega
      have hk1 : k < es.length := by have := HN.out; omega
      obtain ⟨b, off, rfl, x0, x1, x2, x3⟩ := (HROW.out.stay HFK.out.upd).ent k hk1
      have hds : es.drop k = es[k] :: es.drop (k + 1) := List.drop_eq_getElem_cons hk1
      have HSET : Hid (es.take k ++ ⟨es[k].t, es[k].q, es[k].h, true⟩ :: es.drop (k + 1) = es.set k ⟨es[k].t, es[k].q, es[k].h, true⟩) := Lib.hid (by rw [List.set_eq_take_append_cons_drop, if_pos hk1])
      have HKILL : Hid (∀ {W : World} {g c : Nat}, Held LE 49 W g c es → Row LE (W.setCell ⟨g, k * 4 + 3, none⟩ (.bool true)) (some ⟨g, 0, none⟩) (es.set k ⟨es[k].t, es[k].q, es[k].h, true⟩)) := fun h => row_kill h hk1
      have HTS : Hid (es.take (k + 1) = es.take k ++ [es[k]]) := List.take_succ_eq_append_getElem hk1
      obtain ⟨⟨et, eq, eh, ed⟩, he⟩ : ∃ x, x = es[k]'hk1 := ⟨_, rfl⟩
      rw [← he] at x0 x1 x2 x3 hds HSET HKILL HTS
      simp only at x0 x1 x2 x3 HSET HKILL
      have HDS := Lib.hid hds
      clear he hds hk1
      have hwk : IntKind.i64.wrap ((k : Int) + 1) = (k : Int) + 1 := by rw [IntKind.wrap_i64]; omega
      by_cases hh : eh = ch
      · subst hh
        cases ed with
        | true =>
          have HKN : Hid (killE eh es = (killE eh (es.drop (k + 1))).map (fun r => es.take (k + 1) ++ r)) := Lib.hid (by rw [HKI.out, HDS.out, killE_cons_no (fun h => by have := h.2; simp at this), HTS.out]; simp only [Option.map_map]; congr 1; funext r; simp)
          go_upto_region 4 with (fail)
          go_quiet (fail)
          have hd : Upd [] wr (wr.drewN nq) := (Upd.refl [] wr).drewN nq
          have HF5 := Lib.hid (HFK.out.stay hd); have HU5 := Lib.hid (HUK.out.thn hd)
          generalize wr.drewN nq = W5 at *
          clear hd m1 c2 x0 x1 x2 x3 
          go_wp2_with fail
          go_roundg (n - (k + 1))
          case measure => omega
          case rel => exact ⟨k + 1, by go_num, by omega, HKN, HF5, HU5⟩
        | false =>
          have HYES : Hid (killE eh es = some (es.set k ⟨et, eq, eh, true⟩)) := Lib.hid (by rw [HKI.out, HDS.out, killE_cons_yes (e := ⟨et, eq, eh, false⟩) rfl rfl, ← HSET.out]; rfl)
          go_upto_region 4 with (fail)
          go_quiet (fail)
          have hd : Upd [] wr (wr.drewN nq) := (Upd.refl [] wr).drewN nq
          have HF5 := Lib.hid (HFK.out.stay hd); have HU5 := Lib.hid (HUK.out.thn hd)
          generalize wr.drewN nq = W5 at *
          clear hd m1 c2 x0 x1 x2 x3 
          have HB0 := Lib.hid (World.ownsRow_made (base := W5.heap.size) (size := LE.k) (e := 49) W5 #[] 0 (Nat.le_refl _) (Nat.zero_le _) (by simp))
          have hu6 := (Upd.refl [] W5).alloc (.cells #[] 49)
          obtain ⟨m0, m1, m2, m3⟩ := cells4 (hu6.at HF5.out.bm (by simp))
          clear m0 m2 m3
          have HRY := Lib.hid ((HROW.out.stay HF5.out.upd).stay hu6)
          go_upto_region 6 with (at_builtin; refine app_row tyE rfl _ _ rfl W5.heap.size (.slice (some ⟨W5.heap.size, 0, none⟩) 0 0) 0 [] rfl HB0.out (some ⟨b, off, none⟩) n ec es rfl HN.out HRY.out (fun e => by simp at e) (by omega) (by simp) ?_; intro v6 w6 hown hgrow; rw [Nat.zero_add, List.nil_append] at hown; obtain ⟨hnl, g, gc, rfl, hgb, hheld⟩ := held_row (L := LE) hown (by omega); clear hnl)
          have hu7 : Upd [] W5 w6 := hu6.grown hgrow (fun x hx hl => by simp [Value.ownBlock] at hx; omega)
          have HF6 := Lib.hid (HF5.out.stay hu7); have HHD := Lib.hid hheld; have HGB := Lib.hid hgb
          have hrow := hheld.has.row
          clear hown hgrow m1 hu6 hu7 hheld hgb
          obtain ⟨b2, o2, e6, -, -, -, y3⟩ := hrow.ent k (show k < es.length by have := HN.out; omega)
          simp only [Option.some.injEq, Addr.mk.injEq, and_true] at e6
          obtain ⟨rfl, rfl⟩ := e6
          rw [Nat.zero_add] at y3
          obtain ⟨cur, hgc, -, -⟩ := HHD.out.ex
          have f3 := free_block hgc (k * 4 + 3)
          clear hgc hrow
          go_upto_region 7 with (fail)
          have HR7 := Lib.hid (HKILL.out HHD.out)
          have u7 := upd_set1 w6 g (k * 4 + 3) (.bool true)
          have HNG : Hid (g ≠ P ∧ g ≠ P + 1 ∧ g ≠ P + 1 + 1 ∧ g ≠ P + 1 + 1 + 1) := Lib.hid (by have h1 := HGB.out; have h2 := lt_block HF5.out.rr; omega)
          have HF7 : Hid (FrR w P cap nx n q (some ⟨b, off, none⟩) ia ec ic ck ct eh cm cb (w6.setCell ⟨g, k * 4 + 3, none⟩ (.bool true))) := HF6.out.keepG u7 HNG.out.1 HNG.out.2.1 HNG.out.2.2.1 HNG.out.2.2.2 (by have h1 := HGB.out; have h2 := HF5.out.upd.size; omega)
          have HGC : Hid (n ≤ gc) := Lib.hid (by have := HHD.out.le; have h2 := HN.out; omega)
          generalize w6.setCell ⟨g, k * 4 + 3, none⟩ (.bool true) = W7 at *
          clear u7 y3 f3 HHD HF6
          obtain ⟨q0, q1, q2, q3⟩ := cells4 HF7.out.bm
          obtain ⟨f0, f1, f2, f3⟩ := free4 HF7.out.bm
          clear q0 q2 q3 f0 f2 f3
          go_upto_region 8 with (fail)
          have k8 : (W7.setCell ⟨P, 1, none⟩ (.slice (some ⟨g, 0, none⟩) n gc)).heap[P]? = some (.cells #[.int .i64 cap, .slice (some ⟨g, 0, none⟩) n gc, .int .i64 nx, .slice ia q ic] 25 (0, 0)) := setCell_block HF7.out.bm _
          have u8 := upd_set1 W7 P 1 (.slice (some ⟨g, 0, none⟩) n gc)
          have HR8 : Hid (Row LE _ (some ⟨g, 0, none⟩) (es.set k ⟨et, eq, eh, true⟩)) := HR7.out.keep u8 (fun _ a e => by rw [← Option.some.inj e]; have := HNG.out.1; simpa using this)
          have HF8 := Lib.hid (HF7.out.setM u8 k8)
          generalize W7.setCell ⟨P, 1, none⟩ (.slice (some ⟨g, 0, none⟩) n gc) = W8b at *
          clear k8 u8 q1 f1 HF7 HR7
          obtain ⟨q0, q1, q2, q3⟩ := cells4 HF8.out.bm
          have HRT := Lib.hid (HRET.out n q (es.set k ⟨et, eq, eh, true⟩) (some ⟨g, 0, none⟩) gc (by rw [List.length_set]; exact HN.out) HQ.out)
          have hres := HCY.out _ HYES.out
          subst hres
          obtain ⟨d0, d1, d2, d3⟩ := cells4 HF8.out.rm
          obtain ⟨e0, e1, e2, e3⟩ := free4 HF8.out.rm
          obtain ⟨d4, d5, d6, d7⟩ := cells4 HF8.out.rr
          obtain ⟨e4, e5, e6, e7⟩ := free4 HF8.out.rr
          go_wp2_with fail
          have k8 := stored4 HF8.out.rm (.int .i64 cap) (.slice (some ⟨g, 0, none⟩) n gc) (.int .i64 nx) (.slice ia q ic)
          have u8 := upd_set4 W8b (P + 1 + 1) (.int .i64 cap) (.slice (some ⟨g, 0, none⟩) n gc) (.int .i64 nx) (.slice ia q ic)
          with_reducible generalize (((W8b.setCell ⟨P + 1 + 1, 0, none⟩ (.int .i64 cap)).setCell ⟨P + 1 + 1, 1, none⟩ (.slice (some ⟨g, 0, none⟩) n gc)).setCell ⟨P + 1 + 1, 2, none⟩ (.int .i64 nx)).setCell ⟨P + 1 + 1, 3, none⟩ (.slice ia q ic) = W8 at k8 u8 ⊢
          have k9 := stored4 (u8.at HF8.out.rr (by simp)) (.int .i64 0) (.int .i64 0) (.bool true) (.slice none 0 0)
          have u9 := upd_set4 W8 (P + 1 + 1 + 1) (.int .i64 0) (.int .i64 0) (.bool true) (.slice none 0 0)
          with_reducible generalize (((W8.setCell ⟨P + 1 + 1 + 1, 0, none⟩ (.int .i64 0)).setCell ⟨P + 1 + 1 + 1, 1, none⟩ (.int .i64 0)).setCell ⟨P + 1 + 1 + 1, 2, none⟩ (.bool true)).setCell ⟨P + 1 + 1 + 1, 3, none⟩ (.slice none 0 0) = W9 at k9 u9 ⊢
          obtain ⟨r0, r1, r2, r3⟩ := cells4 (u9.at k8 (by simp))
          obtain ⟨s0, s1, s2, s3⟩ := cells4 k9
          have hU89 : Upd [P + 1 + 1, P + 1 + 1 + 1] W8b W9 := (u8.mono (by simp)).trans u9 (by simp)
          have hU9 : Upd [] w W9 := HF8.out.upd.trans hU89 (fun x hx hl => by have := HF8.out.ord; simp at hx; omega)
          exact bodyPost_ret (v := .tuple #[.agg #[.int .i64 cap, .slice (some ⟨g, 0, none⟩) n gc, .int .i64 nx, .slice ia q ic], .agg #[.int .i64 0, .int .i64 0, .bool true, .slice none 0 0]]) (by simp [results, Try.results33, go_sem, r0, r1, r2, r3, s0, s1, s2, s3]) rfl ⟨⟨cap, ⟨es.set k ⟨et, eq, eh, true⟩, some ⟨g, 0, none⟩, gc⟩, nx, ⟨is, ia, ic⟩⟩, ⟨0, 0, true, ⟨[], none, 0⟩⟩, by rw [HRT.out]; rfl, rfl, rfl, ⟨⟨HR8.out.keep hU89 (fun _ a e => by rw [← Option.some.inj e]; have h := HNG.out; simp; omega), by show (es.set k _).length ≤ gc; rw [List.length_set, ← HN.out]; exact HGC.out, fun e => by simp at e⟩, HM.out.is.stay hU9⟩, hasS_nil LV _, fun bx hbx ha => ⟨⟨fun _ a e => by rw [← Option.some.inj e]; have h1 := HGB.out; have h2 := HF5.out.upd.size; show g ≠ bx; omega, ha.is⟩, avS_nil _ _ _⟩, hU9⟩
      · have g1 : (eh == ch) = false := by simpa using hh
        have g2 : decide (eh = ch) = false := decide_eq_false hh
        have HKN : Hid (killE ch es = (killE ch (es.drop (k + 1))).map (fun r => es.take (k + 1) ++ r)) := Lib.hid (by rw [HKI.out, HDS.out, killE_cons_no (fun h => hh h.1), HTS.out]; simp only [Option.map_map]; congr 1; funext r; simp)
        go_upto_region 4 with (fail)
        go_quiet (fail)
        have hd : Upd [] wr (wr.drewN nq) := (Upd.refl [] wr).drewN nq
        have HF5 := Lib.hid (HFK.out.stay hd); have HU5 := Lib.hid (HUK.out.thn hd)
        generalize wr.drewN nq = W5 at *
        clear hd m1 c2 x0 x1 x2 x3 g1 g2 hh
        go_wp2_with fail
        go_roundg (n - (k + 1))
        case measure => omega
        case rel => exact ⟨k + 1, by go_num, by omega, HKN, HF5, HU5⟩
    · have hltz : ¬ (k : Int) < (n : Int) := by omega
      obtain rfl : k = n := by omega
      have HNO : Hid (killE ch es = none) := Lib.hid (by rw [HKI.out, show es.drop k = [] from List.drop_eq_nil_iff.2 (by rw [← HN.out]; exact Nat.le_refl _)]; rfl)
      clear c2
      go_upto_region 9 with (fail)
      clear m1
      obtain ⟨q0, q1, q2, q3⟩ := cells4 HFK.out.bm
      have HRT := Lib.hid (HRET.out k q es ea ec HN.out HQ.out)
      have hres := HCN.out HNO.out
      subst hres
      obtain ⟨d0, d1, d2, d3⟩ := cells4 HFK.out.rm
      obtain ⟨e0, e1, e2, e3⟩ := free4 HFK.out.rm
      obtain ⟨d4, d5, d6, d7⟩ := cells4 HFK.out.rr
      obtain ⟨e4, e5, e6, e7⟩ := free4 HFK.out.rr
      go_wp2_with fail
      have k8 := stored4 HFK.out.rm (.int .i64 cap) (.slice ea k ec) (.int .i64 nx) (.slice ia q ic)
      have u8 := upd_set4 wr (P + 1 + 1) (.int .i64 cap) (.slice ea k ec) (.int .i64 nx) (.slice ia q ic)
      with_reducible generalize (((wr.setCell ⟨P + 1 + 1, 0, none⟩ (.int .i64 cap)).setCell ⟨P + 1 + 1, 1, none⟩ (.slice ea k ec)).setCell ⟨P + 1 + 1, 2, none⟩ (.int .i64 nx)).setCell ⟨P + 1 + 1, 3, none⟩ (.slice ia q ic) = W8 at k8 u8 ⊢
      have k9 := stored4 (u8.at HFK.out.rr (by simp)) (.int .i64 0) (.int .i64 0) (.bool false) (.slice none 0 0)
      have u9 := upd_set4 W8 (P + 1 + 1 + 1) (.int .i64 0) (.int .i64 0) (.bool false) (.slice none 0 0)
      with_reducible generalize (((W8.setCell ⟨P + 1 + 1 + 1, 0, none⟩ (.int .i64 0)).setCell ⟨P + 1 + 1 + 1, 1, none⟩ (.int .i64 0)).setCell ⟨P + 1 + 1 + 1, 2, none⟩ (.bool false)).setCell ⟨P + 1 + 1 + 1, 3, none⟩ (.slice none 0 0) = W9 at k9 u9 ⊢
      obtain ⟨r0, r1, r2, r3⟩ := cells4 (u9.at k8 (by simp))
      obtain ⟨s0, s1, s2, s3⟩ := cells4 k9
      have hU89 : Upd [P + 1 + 1, P + 1 + 1 + 1] wr W9 := (u8.mono (by simp)).trans u9 (by simp)
      have hU9 : Upd [] w W9 := HFK.out.upd.trans hU89 (fun x hx hl => by have := HFK.out.ord; simp at hx; omega)
      exact bodyPost_ret (v := .tuple #[.agg #[.int .i64 cap, .slice ea k ec, .int .i64 nx, .slice ia q ic], .agg #[.int .i64 0, .int .i64 0, .bool false, .slice none 0 0]]) (by simp [results, Try.results33, go_sem, r0, r1, r2, r3, s0, s1, s2, s3]) rfl ⟨⟨cap, ⟨es, ea, ec⟩, nx, ⟨is, ia, ic⟩⟩, ⟨0, 0, false, ⟨[], none, 0⟩⟩, by rw [HRT.out]; rfl, rfl, rfl, ⟨HM.out.es.stay hU9, HM.out.is.stay hU9⟩, hasS_nil LV _, fun bx hbx ha => ⟨ha, avS_nil _ _ _⟩, hU9⟩
end Go.Proofs.Ytpneljhplbkdkaa
