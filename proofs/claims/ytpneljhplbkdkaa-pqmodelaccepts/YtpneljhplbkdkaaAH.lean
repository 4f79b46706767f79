
/- Contracts of layer 10: the reference's Do, New. -/
import Derived.Test.YtpneljhplbkdkaaAG
namespace Go.Proofs.Ytpneljhplbkdkaa
open Go.RowKit Go.Lib

theorem Upd.thn0 {S : List Nat} {a b c : World} (h : Upd S a b) (k : Upd [] b c) : Upd S a c := h.trans k (by simp)
theorem HasS.two {α : Type} {L : Lay α} {w w' : World} {s : SlR α} {P Q : Nat} (h : HasS L w s) (hu : Upd [P, Q] w w') (hP : AvS s P) (hQ : AvS s Q) : HasS L w' s :=
  ⟨h.row.keep hu (fun hn a e hm => by
    rcases List.mem_cons.1 hm with h1 | h1
    · exact hP hn a e h1
    · exact hQ hn a e (List.mem_singleton.1 h1)), h.le, h.nn⟩
theorem fin_do {w W0 W5 W10 : World} {P : Nat} {cap nx : Int} {n q : Nat} {ea ia : Option Addr} {ec ic : Nat} {ck ct ch cm cb : Int} {m0 : MdR} {g : Md × Rs} {x : MdR} {y : RsR} (hF : FrR w P cap nx n q ea ia ec ic ck ct ch cm cb W0) (hm : HasM w m0) (hD : DidM m0 W0 g.1 g.2 W5 x y) (hu : Upd [P + 1 + 1, P + 1 + 1 + 1] W5 W10) (hU : Upd [] w W10) : GivesM m0 g w (.returned (.tuple #[encM x, encR y])) W10 := by
  have h1 := lt_block hF.rm; have h2 := lt_block hF.rr; have h3 := hF.ord
  have a1 := hD.av (P + 1 + 1) h1 (hm.avoids (by omega)); have a2 := hD.av (P + 1 + 1 + 1) h2 (hm.avoids (by omega))
  exact ⟨x, y, rfl, hD.md, hD.rs, ⟨hD.has.es.two hu a1.1.es a2.1.es, hD.has.is.two hu a1.1.is a2.1.is⟩, hD.ev.two hu a1.2 a2.2, fun b hb ha => hD.av b (Nat.lt_of_lt_of_le hb hF.upd.size) ha, hU⟩
set_option maxRecDepth 100000 in
set_option maxHeartbeats 8000000 in
theorem RDo_has (m : MdR) (c : Ca) (h : Int) (w : World) (hm : HasM w m) (hl : m.es.l.length ≤ 1000) (hi : m.is.l.length ≤ 100000) (hx : 0 ≤ m.nx ∧ m.nx ≤ 1000000) :
    Calls Try.prog 15 #[encM m, encC c, .int .i64 h] w (GivesM m (doM m.md c h) w) := by
  have HM := Lib.hid hm
  have HIN := Lib.hid (fun W (hu : Upd [] w W) => RInsert_has m c h W (hm.stay hu) hl hi hx)
  have HCA := Lib.hid (fun W (hu : Upd [] w W) => RCancel_has m c W (hm.stay hu) hl)
  have HBA := Lib.hid (fun W (hu : Upd [] w W) => RBatch_has m c W (hm.stay hu) hl)
  have H1 : Hid (c.k = 1 → doM m.md c h = insM m.md c h) := fun e => by unfold doM; rw [if_pos e]
  have H2 : Hid (¬ c.k = 1 → c.k = 2 → doM m.md c h = canM m.md c) := fun e1 e => by unfold doM; rw [if_neg e1, if_pos e]
  have H3 : Hid (¬ c.k = 1 → ¬ c.k = 2 → c.k = 3 → doM m.md c h = batM m.md c) := fun e1 e2 e => by unfold doM; rw [if_neg e1, if_neg e2, if_pos e]
  have H4 : Hid (¬ c.k = 1 → ¬ c.k = 2 → ¬ c.k = 3 → doM m.md c h = (m.md, errR 1)) := fun e1 e2 e => by unfold doM; rw [if_neg e1, if_neg e2, if_neg e]
  generalize insM m.md c h = gi at *
  generalize canM m.md c = gc at *
  generalize batM m.md c = gb at *
  generalize doM m.md c h = res at *
  obtain ⟨cap, ⟨es, ea, ec⟩, nx, ⟨is, ia, ic⟩⟩ := m
  obtain ⟨ck, ct, ch, cm, cb⟩ := c
  unfold encM cellsM encC at *
  unfold GivesM encM encR cellsM cellsR at HIN HCA HBA
  simp only at *
  have HRET : Hid (∀ n q, n = es.length → q = is.length → encM ⟨cap, ⟨es, ea, ec⟩, nx, ⟨is, ia, ic⟩⟩ = .agg #[.int .i64 cap, .slice ea n ec, .int .i64 nx, .slice ia q ic]) := fun n q h1 h2 => by rw [h1, h2]; rfl
  obtain ⟨n, hn⟩ : ∃ n, n = es.length := ⟨_, rfl⟩
  obtain ⟨q, hq⟩ : ∃ q, q = is.length := ⟨_, rfl⟩
  rw [← hn, ← hq] at HIN HCA HBA ⊢
  have HRET := Lib.hid (HRET.out n q hn hq)
  clear hn hq hm hl hi hx
  by_cases h1 : ck = 1
  · have HR := Lib.hid (H1.out h1)
    have g1 : (ck == 1) = true := by simpa using h1
    have g4 : decide (ck = 1) = true := decide_eq_true h1
    clear h1
    go_enter Try.func15, Try.ntmps15
    go_upto_region 1 with (fail)
    obtain ⟨hu0, b0, b1, b2, b3, hs0⟩ := four_boxes w (.cells #[.int .i64 cap, .slice ea n ec, .int .i64 nx, .slice ia q ic] 25) (.cells #[.int .i64 ck, .int .i64 ct, .int .i64 ch, .int .i64 cm, .int .i64 cb] 28) (.cells #[.int .i64 0, .slice none 0 0, .int .i64 0, .slice none 0 0] 25) (.cells #[.int .i64 0, .int .i64 0, .bool false, .slice none 0 0] 34)
    have HF : Hid (FrR w w.heap.size cap nx n q ea ia ec ic ck ct ch cm cb _) := ⟨b0, b1, b2, b3, hu0, Nat.le_refl _⟩
    generalize (((w.alloc (.cells #[.int .i64 cap, .slice ea n ec, .int .i64 nx, .slice ia q ic] 25)).alloc (.cells #[.int .i64 ck, .int .i64 ct, .int .i64 ch, .int .i64 cm, .int .i64 cb] 28)).alloc (.cells #[.int .i64 0, .slice none 0 0, .int .i64 0, .slice none 0 0] 25)).alloc (.cells #[.int .i64 0, .int .i64 0, .bool false, .slice none 0 0] 34) = W0 at *
    have HSZ0 : Hid (W0.heap.size = w.heap.size + 4) := hs0
    generalize w.heap.size = P at *
    clear hu0 b0 b1 b2 b3 hs0
    obtain ⟨c0, c1, c2, c3, c4⟩ := cells5 HF.out.bc
    obtain ⟨m0, m1, m2, m3⟩ := cells4 HF.out.bm
    have HCK := Lib.hid (HIN.out W0 HF.out.upd)
    go_upto_region 3 with (fail)
    go_upto_region 4 with (go_at_call 32; (with_reducible refine HCK.out.mono ?_); rintro e w1 ⟨x, y, rfl, hD⟩)
    obtain ⟨hal, b5, b6, hs5⟩ := two_boxes w1 (.cells #[.int .i64 x.cap, .slice x.es.ad x.es.l.length x.es.cap, .int .i64 x.nx, .slice x.is.ad x.is.l.length x.is.cap] 25) (.cells #[.int .i64 y.e, .int .i64 y.h, .bool y.c, .slice y.ev.ad y.ev.l.length y.ev.cap] 34)
    have HD5 := Lib.hid (hD.stay hal)
    have HF5 := Lib.hid (HF.out.stay (hD.upd.thn hal))
    generalize (w1.alloc (.cells #[.int .i64 x.cap, .slice x.es.ad x.es.l.length x.es.cap, .int .i64 x.nx, .slice x.is.ad x.is.l.length x.is.cap] 25)).alloc (.cells #[.int .i64 y.e, .int .i64 y.h, .bool y.c, .slice y.ev.ad y.ev.l.length y.ev.cap] 34) = W5 at *
    have hp5 := hD.upd.size
    generalize w1.heap.size = P5 at *
    have n1 : ¬ P5 = P + 1 := by have := HSZ0.out; omega
    have n2 : ¬ P5 = P + 1 + 1 := by have := HSZ0.out; omega
    have n3 : ¬ P5 = P + 1 + 1 + 1 := by have := HSZ0.out; omega
    have n4 : ¬ P5 + 1 = P + 1 + 1 := by omega
    have n5 : ¬ P5 + 1 = P + 1 + 1 + 1 := by omega
    clear hp5
    clear hal hs5 hD c0 c1 c2 c3 c4 m0 m1 m2 m3 HCK
    obtain ⟨c0, c1, c2, c3⟩ := cells4 b5
    obtain ⟨m0, m1, m2, m3⟩ := cells4 b6
    have HB5 := Lib.hid b5; have HB6 := Lib.hid b6
    clear b5 b6
    obtain ⟨d0, d1, d2, d3⟩ := cells4 HF5.out.rm
    obtain ⟨e0, e1, e2, e3⟩ := free4 HF5.out.rm
    obtain ⟨d4, d5, d6, d7⟩ := cells4 HF5.out.rr
    obtain ⟨e4, e5, e6, e7⟩ := free4 HF5.out.rr
    go_upto_region 4 with (fail)
    go_region
    have k8 := stored4 HF5.out.rm (.int .i64 x.cap) (.slice x.es.ad x.es.l.length x.es.cap) (.int .i64 x.nx) (.slice x.is.ad x.is.l.length x.is.cap)
    have u8 := upd_set4 W5 (P + 1 + 1) (.int .i64 x.cap) (.slice x.es.ad x.es.l.length x.es.cap) (.int .i64 x.nx) (.slice x.is.ad x.is.l.length x.is.cap)
    with_reducible generalize (((W5.setCell ⟨P + 1 + 1, 0, none⟩ (.int .i64 x.cap)).setCell ⟨P + 1 + 1, 1, none⟩ (.slice x.es.ad x.es.l.length x.es.cap)).setCell ⟨P + 1 + 1, 2, none⟩ (.int .i64 x.nx)).setCell ⟨P + 1 + 1, 3, none⟩ (.slice x.is.ad x.is.l.length x.is.cap) = W8 at k8 u8 ⊢
    have k9 := stored4 (u8.at HF5.out.rr (by simp)) (.int .i64 y.e) (.int .i64 y.h) (.bool y.c) (.slice y.ev.ad y.ev.l.length y.ev.cap)
    have u9 := upd_set4 W8 (P + 1 + 1 + 1) (.int .i64 y.e) (.int .i64 y.h) (.bool y.c) (.slice y.ev.ad y.ev.l.length y.ev.cap)
    with_reducible generalize (((W8.setCell ⟨P + 1 + 1 + 1, 0, none⟩ (.int .i64 y.e)).setCell ⟨P + 1 + 1 + 1, 1, none⟩ (.int .i64 y.h)).setCell ⟨P + 1 + 1 + 1, 2, none⟩ (.bool y.c)).setCell ⟨P + 1 + 1 + 1, 3, none⟩ (.slice y.ev.ad y.ev.l.length y.ev.cap) = W9 at k9 u9 ⊢
    have hd9 : Upd [] W9 W9.drew := (Upd.refl [] W9).drew
    generalize W9.drew = W10 at hd9 ⊢
    obtain ⟨r0, r1, r2, r3⟩ := cells4 ((u9.thn0 hd9).at k8 (by simp))
    obtain ⟨s0, s1, s2, s3⟩ := cells4 (hd9.at k9 (by simp))
    have hU89 : Upd [P + 1 + 1, P + 1 + 1 + 1] W5 W10 := ((u8.mono (by simp)).trans u9 (by simp)).trans hd9 (by simp)
    have hU9 : Upd [] w W10 := HF5.out.upd.trans hU89 (fun x hx hl => by have := HF5.out.ord; simp at hx; omega)
    have hfin : GivesM ⟨cap, ⟨es, ea, ec⟩, nx, ⟨is, ia, ic⟩⟩ res w (.returned (.tuple #[.agg #[.int .i64 x.cap, .slice x.es.ad x.es.l.length x.es.cap, .int .i64 x.nx, .slice x.is.ad x.is.l.length x.is.cap], .agg #[.int .i64 y.e, .int .i64 y.h, .bool y.c, .slice y.ev.ad y.ev.l.length y.ev.cap]])) W10 := by
      have hres := HR.out
      subst hres
      exact fin_do HF.out HM.out HD5.out hU89 hU9
    clear c0 c1 c2 c3 m0 m1 m2 m3 d0 d1 d2 d3 d4 d5 d6 d7 e0 e1 e2 e3 e4 e5 e6 e7 k8 k9 u8 u9 hd9 hU89 hU9
    go_wp2_with fail
    exact bodyPost_ret (v := .tuple #[.agg #[.int .i64 x.cap, .slice x.es.ad x.es.l.length x.es.cap, .int .i64 x.nx, .slice x.is.ad x.is.l.length x.is.cap], .agg #[.int .i64 y.e, .int .i64 y.h, .bool y.c, .slice y.ev.ad y.ev.l.length y.ev.cap]]) (by simp [results, Try.results15, go_sem, r0, r1, r2, r3, s0, s1, s2, s3]) rfl hfin
  · by_cases h2 : ck = 2
    · have HR := Lib.hid (H2.out h1 h2)
      have g1 : (ck == 1) = false := by simpa using h1
      have g4 : decide (ck = 1) = false := decide_eq_false h1
      have g2 : (ck == 2) = true := by simpa using h2
      have g5 : decide (ck = 2) = true := decide_eq_true h2
      clear h1 h2
      go_enter Try.func15, Try.ntmps15
      go_upto_region 1 with (fail)
      obtain ⟨hu0, b0, b1, b2, b3, hs0⟩ := four_boxes w (.cells #[.int .i64 cap, .slice ea n ec, .int .i64 nx, .slice ia q ic] 25) (.cells #[.int .i64 ck, .int .i64 ct, .int .i64 ch, .int .i64 cm, .int .i64 cb] 28) (.cells #[.int .i64 0, .slice none 0 0, .int .i64 0, .slice none 0 0] 25) (.cells #[.int .i64 0, .int .i64 0, .bool false, .slice none 0 0] 34)
      have HF : Hid (FrR w w.heap.size cap nx n q ea ia ec ic ck ct ch cm cb _) := ⟨b0, b1, b2, b3, hu0, Nat.le_refl _⟩
      generalize (((w.alloc (.cells #[.int .i64 cap, .slice ea n ec, .int .i64 nx, .slice ia q ic] 25)).alloc (.cells #[.int .i64 ck, .int .i64 ct, .int .i64 ch, .int .i64 cm, .int .i64 cb] 28)).alloc (.cells #[.int .i64 0, .slice none 0 0, .int .i64 0, .slice none 0 0] 25)).alloc (.cells #[.int .i64 0, .int .i64 0, .bool false, .slice none 0 0] 34) = W0 at *
      have HSZ0 : Hid (W0.heap.size = w.heap.size + 4) := hs0
      generalize w.heap.size = P at *
      clear hu0 b0 b1 b2 b3 hs0
      obtain ⟨c0, c1, c2, c3, c4⟩ := cells5 HF.out.bc
      obtain ⟨m0, m1, m2, m3⟩ := cells4 HF.out.bm
      have HCK := Lib.hid (HCA.out W0 HF.out.upd)
      go_upto_region 6 with (fail)
      go_upto_region 7 with (go_at_call 33; (with_reducible refine HCK.out.mono ?_); rintro e w1 ⟨x, y, rfl, hD⟩)
      obtain ⟨hal, b5, b6, hs5⟩ := two_boxes w1 (.cells #[.int .i64 x.cap, .slice x.es.ad x.es.l.length x.es.cap, .int .i64 x.nx, .slice x.is.ad x.is.l.length x.is.cap] 25) (.cells #[.int .i64 y.e, .int .i64 y.h, .bool y.c, .slice y.ev.ad y.ev.l.length y.ev.cap] 34)
      have HD5 := Lib.hid (hD.stay hal)
      have HF5 := Lib.hid (HF.out.stay (hD.upd.thn hal))
      generalize (w1.alloc (.cells #[.int .i64 x.cap, .slice x.es.ad x.es.l.length x.es.cap, .int .i64 x.nx, .slice x.is.ad x.is.l.length x.is.cap] 25)).alloc (.cells #[.int .i64 y.e, .int .i64 y.h, .bool y.c, .slice y.ev.ad y.ev.l.length y.ev.cap] 34) = W5 at *
      have hp5 := hD.upd.size
      generalize w1.heap.size = P5 at *
      have n1 : ¬ P5 = P + 1 := by have := HSZ0.out; omega
      have n2 : ¬ P5 = P + 1 + 1 := by have := HSZ0.out; omega
      have n3 : ¬ P5 = P + 1 + 1 + 1 := by have := HSZ0.out; omega
      have n4 : ¬ P5 + 1 = P + 1 + 1 := by omega
      have n5 : ¬ P5 + 1 = P + 1 + 1 + 1 := by omega
      clear hp5
      clear hal hs5 hD c0 c1 c2 c3 c4 m0 m1 m2 m3 HCK
      obtain ⟨c0, c1, c2, c3⟩ := cells4 b5
      obtain ⟨m0, m1, m2, m3⟩ := cells4 b6
      have HB5 := Lib.hid b5; have HB6 := Lib.hid b6
      clear b5 b6
      obtain ⟨d0, d1, d2, d3⟩ := cells4 HF5.out.rm
      obtain ⟨e0, e1, e2, e3⟩ := free4 HF5.out.rm
      obtain ⟨d4, d5, d6, d7⟩ := cells4 HF5.out.rr
      obtain ⟨e4, e5, e6, e7⟩ := free4 HF5.out.rr
      go_upto_region 7 with (fail)
      go_region
      have k8 := stored4 HF5.out.rm (.int .i64 x.cap) (.slice x.es.ad x.es.l.length x.es.cap) (.int .i64 x.nx) (.slice x.is.ad x.is.l.length x.is.cap)
      have u8 := upd_set4 W5 (P + 1 + 1) (.int .i64 x.cap) (.slice x.es.ad x.es.l.length x.es.cap) (.int .i64 x.nx) (.slice x.is.ad x.is.l.length x.is.cap)
      with_reducible generalize (((W5.setCell ⟨P + 1 + 1, 0, none⟩ (.int .i64 x.cap)).setCell ⟨P + 1 + 1, 1, none⟩ (.slice x.es.ad x.es.l.length x.es.cap)).setCell ⟨P + 1 + 1, 2, none⟩ (.int .i64 x.nx)).setCell ⟨P + 1 + 1, 3, none⟩ (.slice x.is.ad x.is.l.length x.is.cap) = W8 at k8 u8 ⊢
      have k9 := stored4 (u8.at HF5.out.rr (by simp)) (.int .i64 y.e) (.int .i64 y.h) (.bool y.c) (.slice y.ev.ad y.ev.l.length y.ev.cap)
      have u9 := upd_set4 W8 (P + 1 + 1 + 1) (.int .i64 y.e) (.int .i64 y.h) (.bool y.c) (.slice y.ev.ad y.ev.l.length y.ev.cap)
      with_reducible generalize (((W8.setCell ⟨P + 1 + 1 + 1, 0, none⟩ (.int .i64 y.e)).setCell ⟨P + 1 + 1 + 1, 1, none⟩ (.int .i64 y.h)).setCell ⟨P + 1 + 1 + 1, 2, none⟩ (.bool y.c)).setCell ⟨P + 1 + 1 + 1, 3, none⟩ (.slice y.ev.ad y.ev.l.length y.ev.cap) = W9 at k9 u9 ⊢
      have hd9 : Upd [] W9 W9.drew := (Upd.refl [] W9).drew
      generalize W9.drew = W10 at hd9 ⊢
      obtain ⟨r0, r1, r2, r3⟩ := cells4 ((u9.thn0 hd9).at k8 (by simp))
      obtain ⟨s0, s1, s2, s3⟩ := cells4 (hd9.at k9 (by simp))
      have hU89 : Upd [P + 1 + 1, P + 1 + 1 + 1] W5 W10 := ((u8.mono (by simp)).trans u9 (by simp)).trans hd9 (by simp)
      have hU9 : Upd [] w W10 := HF5.out.upd.trans hU89 (fun x hx hl => by have := HF5.out.ord; simp at hx; omega)
      have hfin : GivesM ⟨cap, ⟨es, ea, ec⟩, nx, ⟨is, ia, ic⟩⟩ res w (.returned (.tuple #[.agg #[.int .i64 x.cap, .slice x.es.ad x.es.l.length x.es.cap, .int .i64 x.nx, .slice x.is.ad x.is.l.length x.is.cap], .agg #[.int .i64 y.e, .int .i64 y.h, .bool y.c, .slice y.ev.ad y.ev.l.length y.ev.cap]])) W10 := by
        have hres := HR.out
        subst hres
        exact fin_do HF.out HM.out HD5.out hU89 hU9
      clear c0 c1 c2 c3 m0 m1 m2 m3 d0 d1 d2 d3 d4 d5 d6 d7 e0 e1 e2 e3 e4 e5 e6 e7 k8 k9 u8 u9 hd9 hU89 hU9
      go_wp2_with fail
      exact bodyPost_ret (v := .tuple #[.agg #[.int .i64 x.cap, .slice x.es.ad x.es.l.length x.es.cap, .int .i64 x.nx, .slice x.is.ad x.is.l.length x.is.cap], .agg #[.int .i64 y.e, .int .i64 y.h, .bool y.c, .slice y.ev.ad y.ev.l.length y.ev.cap]]) (by simp [results, Try.results15, go_sem, r0, r1, r2, r3, s0, s1, s2, s3]) rfl hfin
    · by_cases h3 : ck = 3
      · have HR := Lib.hid (H3.out h1 h2 h3)
        have g1 : (ck == 1) = false := by simpa using h1
        have g4 : decide (ck = 1) = false := decide_eq_false h1
        have g2 : (ck == 2) = false := by simpa using h2
        have g5 : decide (ck = 2) = false := decide_eq_false h2
        have g3 : (ck == 3) = true := by simpa using h3
        have g6 : decide (ck = 3) = true := decide_eq_true h3
        clear h1 h2 h3
        go_enter Try.func15, Try.ntmps15
        go_upto_region 1 with (fail)
        obtain ⟨hu0, b0, b1, b2, b3, hs0⟩ := four_boxes w (.cells #[.int .i64 cap, .slice ea n ec, .int .i64 nx, .slice ia q ic] 25) (.cells #[.int .i64 ck, .int .i64 ct, .int .i64 ch, .int .i64 cm, .int .i64 cb] 28) (.cells #[.int .i64 0, .slice none 0 0, .int .i64 0, .slice none 0 0] 25) (.cells #[.int .i64 0, .int .i64 0, .bool false, .slice none 0 0] 34)
        have HF : Hid (FrR w w.heap.size cap nx n q ea ia ec ic ck ct ch cm cb _) := ⟨b0, b1, b2, b3, hu0, Nat.le_refl _⟩
        generalize (((w.alloc (.cells #[.int .i64 cap, .slice ea n ec, .int .i64 nx, .slice ia q ic] 25)).alloc (.cells #[.int .i64 ck, .int .i64 ct, .int .i64 ch, .int .i64 cm, .int .i64 cb] 28)).alloc (.cells #[.int .i64 0, .slice none 0 0, .int .i64 0, .slice none 0 0] 25)).alloc (.cells #[.int .i64 0, .int .i64 0, .bool false, .slice none 0 0] 34) = W0 at *
        have HSZ0 : Hid (W0.heap.size = w.heap.size + 4) := hs0
        generalize w.heap.size = P at *
        clear hu0 b0 b1 b2 b3 hs0
        obtain ⟨c0, c1, c2, c3, c4⟩ := cells5 HF.out.bc
        obtain ⟨m0, m1, m2, m3⟩ := cells4 HF.out.bm
        have HCK := Lib.hid (HBA.out W0 HF.out.upd)
        go_upto_region 9 with (fail)
        go_upto_region 10 with (go_at_call 34; (with_reducible refine HCK.out.mono ?_); rintro e w1 ⟨x, y, rfl, hD⟩)
        obtain ⟨hal, b5, b6, hs5⟩ := two_boxes w1 (.cells #[.int .i64 x.cap, .slice x.es.ad x.es.l.length x.es.cap, .int .i64 x.nx, .slice x.is.ad x.is.l.length x.is.cap] 25) (.cells #[.int .i64 y.e, .int .i64 y.h, .bool y.c, .slice y.ev.ad y.ev.l.length y.ev.cap] 34)
        have HD5 := Lib.hid (hD.stay hal)
        have HF5 := Lib.hid (HF.out.stay (hD.upd.thn hal))
        generalize (w1.alloc (.cells #[.int .i64 x.cap, .slice x.es.ad x.es.l.length x.es.cap, .int .i64 x.nx, .slice x.is.ad x.is.l.length x.is.cap] 25)).alloc (.cells #[.int .i64 y.e, .int .i64 y.h, .bool y.c, .slice y.ev.ad y.ev.l.length y.ev.cap] 34) = W5 at *
        have hp5 := hD.upd.size
        generalize w1.heap.size = P5 at *
        have n1 : ¬ P5 = P + 1 := by have := HSZ0.out; omega
        have n2 : ¬ P5 = P + 1 + 1 := by have := HSZ0.out; omega
        have n3 : ¬ P5 = P + 1 + 1 + 1 := by have := HSZ0.out; omega
        have n4 : ¬ P5 + 1 = P + 1 + 1 := by omega
        have n5 : ¬ P5 + 1 = P + 1 + 1 + 1 := by omega
        clear hp5
        clear hal hs5 hD c0 c1 c2 c3 c4 m0 m1 m2 m3 HCK
        obtain ⟨c0, c1, c2, c3⟩ := cells4 b5
        obtain ⟨m0, m1, m2, m3⟩ := cells4 b6
        have HB5 := Lib.hid b5; have HB6 := Lib.hid b6
        clear b5 b6
        obtain ⟨d0, d1, d2, d3⟩ := cells4 HF5.out.rm
        obtain ⟨e0, e1, e2, e3⟩ := free4 HF5.out.rm
        obtain ⟨d4, d5, d6, d7⟩ := cells4 HF5.out.rr
        obtain ⟨e4, e5, e6, e7⟩ := free4 HF5.out.rr
        go_upto_region 10 with (fail)
        go_region
        have k8 := stored4 HF5.out.rm (.int .i64 x.cap) (.slice x.es.ad x.es.l.length x.es.cap) (.int .i64 x.nx) (.slice x.is.ad x.is.l.length x.is.cap)
        have u8 := upd_set4 W5 (P + 1 + 1) (.int .i64 x.cap) (.slice x.es.ad x.es.l.length x.es.cap) (.int .i64 x.nx) (.slice x.is.ad x.is.l.length x.is.cap)
        with_reducible generalize (((W5.setCell ⟨P + 1 + 1, 0, none⟩ (.int .i64 x.cap)).setCell ⟨P + 1 + 1, 1, none⟩ (.slice x.es.ad x.es.l.length x.es.cap)).setCell ⟨P + 1 + 1, 2, none⟩ (.int .i64 x.nx)).setCell ⟨P + 1 + 1, 3, none⟩ (.slice x.is.ad x.is.l.length x.is.cap) = W8 at k8 u8 ⊢
        have k9 := stored4 (u8.at HF5.out.rr (by simp)) (.int .i64 y.e) (.int .i64 y.h) (.bool y.c) (.slice y.ev.ad y.ev.l.length y.ev.cap)
        have u9 := upd_set4 W8 (P + 1 + 1 + 1) (.int .i64 y.e) (.int .i64 y.h) (.bool y.c) (.slice y.ev.ad y.ev.l.length y.ev.cap)
        with_reducible generalize (((W8.setCell ⟨P + 1 + 1 + 1, 0, none⟩ (.int .i64 y.e)).setCell ⟨P + 1 + 1 + 1, 1, none⟩ (.int .i64 y.h)).setCell ⟨P + 1 + 1 + 1, 2, none⟩ (.bool y.c)).setCell ⟨P + 1 + 1 + 1, 3, none⟩ (.slice y.ev.ad y.ev.l.length y.ev.cap) = W9 at k9 u9 ⊢
        have hd9 : Upd [] W9 W9.drew := (Upd.refl [] W9).drew
        generalize W9.drew = W10 at hd9 ⊢
        obtain ⟨r0, r1, r2, r3⟩ := cells4 ((u9.thn0 hd9).at k8 (by simp))
        obtain ⟨s0, s1, s2, s3⟩ := cells4 (hd9.at k9 (by simp))
        have hU89 : Upd [P + 1 + 1, P + 1 + 1 + 1] W5 W10 := ((u8.mono (by simp)).trans u9 (by simp)).trans hd9 (by simp)
        have hU9 : Upd [] w W10 := HF5.out.upd.trans hU89 (fun x hx hl => by have := HF5.out.ord; simp at hx; omega)
        have hfin : GivesM ⟨cap, ⟨es, ea, ec⟩, nx, ⟨is, ia, ic⟩⟩ res w (.returned (.tuple #[.agg #[.int .i64 x.cap, .slice x.es.ad x.es.l.length x.es.cap, .int .i64 x.nx, .slice x.is.ad x.is.l.length x.is.cap], .agg #[.int .i64 y.e, .int .i64 y.h, .bool y.c, .slice y.ev.ad y.ev.l.length y.ev.cap]])) W10 := by
          have hres := HR.out
          subst hres
          exact fin_do HF.out HM.out HD5.out hU89 hU9
        clear c0 c1 c2 c3 m0 m1 m2 m3 d0 d1 d2 d3 d4 d5 d6 d7 e0 e1 e2 e3 e4 e5 e6 e7 k8 k9 u8 u9 hd9 hU89 hU9
        go_wp2_with fail
        exact bodyPost_ret (v := .tuple #[.agg #[.int .i64 x.cap, .slice x.es.ad x.es.l.length x.es.cap, .int .i64 x.nx, .slice x.is.ad x.is.l.length x.is.cap], .agg #[.int .i64 y.e, .int .i64 y.h, .bool y.c, .slice y.ev.ad y.ev.l.length y.ev.cap]]) (by simp [results, Try.results15, go_sem, r0, r1, r2, r3, s0, s1, s2, s3]) rfl hfin
      · have hres := H4.out h1 h2 h3
        subst hres
        have g1 : (ck == 1) = false := by simpa using h1
        have g2 : (ck == 2) = false := by simpa using h2
        have g3 : (ck == 3) = false := by simpa using h3
        have g4 : decide (ck = 1) = false := decide_eq_false h1
        have g5 : decide (ck = 2) = false := decide_eq_false h2
        have g6 : decide (ck = 3) = false := decide_eq_false h3
        clear h1 h2 h3 H1 H2 H3 H4
        go_enter Try.func15, Try.ntmps15
        go_upto_region 1 with (fail)
        obtain ⟨hu0, b0, b1, b2, b3, hs0⟩ := four_boxes w (.cells #[.int .i64 cap, .slice ea n ec, .int .i64 nx, .slice ia q ic] 25) (.cells #[.int .i64 ck, .int .i64 ct, .int .i64 ch, .int .i64 cm, .int .i64 cb] 28) (.cells #[.int .i64 0, .slice none 0 0, .int .i64 0, .slice none 0 0] 25) (.cells #[.int .i64 0, .int .i64 0, .bool false, .slice none 0 0] 34)
        have HF : Hid (FrR w w.heap.size cap nx n q ea ia ec ic ck ct ch cm cb _) := ⟨b0, b1, b2, b3, hu0, Nat.le_refl _⟩
        generalize (((w.alloc (.cells #[.int .i64 cap, .slice ea n ec, .int .i64 nx, .slice ia q ic] 25)).alloc (.cells #[.int .i64 ck, .int .i64 ct, .int .i64 ch, .int .i64 cm, .int .i64 cb] 28)).alloc (.cells #[.int .i64 0, .slice none 0 0, .int .i64 0, .slice none 0 0] 25)).alloc (.cells #[.int .i64 0, .int .i64 0, .bool false, .slice none 0 0] 34) = W0 at *
        have HSZ0 : Hid (W0.heap.size = w.heap.size + 4) := hs0
        generalize w.heap.size = P at *
        clear hu0 b0 b1 b2 b3 hs0
        obtain ⟨c0, c1, c2, c3, c4⟩ := cells5 HF.out.bc
        clear c1 c2 c3 c4
        go_upto_region 11 with (fail)
        clear c0 g1 g2 g3 g4 g5 g6
        obtain ⟨m0, m1, m2, m3⟩ := cells4 HF.out.bm
        obtain ⟨d0, d1, d2, d3⟩ := cells4 HF.out.rm
        obtain ⟨e0, e1, e2, e3⟩ := free4 HF.out.rm
        obtain ⟨d4, d5, d6, d7⟩ := cells4 HF.out.rr
        obtain ⟨e4, e5, e6, e7⟩ := free4 HF.out.rr
        go_wp2_with fail
        have k8 := stored4 HF.out.rm (.int .i64 cap) (.slice ea n ec) (.int .i64 nx) (.slice ia q ic)
        have u8 := upd_set4 W0 (P + 1 + 1) (.int .i64 cap) (.slice ea n ec) (.int .i64 nx) (.slice ia q ic)
        with_reducible generalize (((W0.setCell ⟨P + 1 + 1, 0, none⟩ (.int .i64 cap)).setCell ⟨P + 1 + 1, 1, none⟩ (.slice ea n ec)).setCell ⟨P + 1 + 1, 2, none⟩ (.int .i64 nx)).setCell ⟨P + 1 + 1, 3, none⟩ (.slice ia q ic) = W8 at k8 u8 ⊢
        have k9 := stored4 (u8.at HF.out.rr (by simp)) (.int .i64 1) (.int .i64 0) (.bool false) (.slice none 0 0)
        have u9 := upd_set4 W8 (P + 1 + 1 + 1) (.int .i64 1) (.int .i64 0) (.bool false) (.slice none 0 0)
        with_reducible generalize (((W8.setCell ⟨P + 1 + 1 + 1, 0, none⟩ (.int .i64 1)).setCell ⟨P + 1 + 1 + 1, 1, none⟩ (.int .i64 0)).setCell ⟨P + 1 + 1 + 1, 2, none⟩ (.bool false)).setCell ⟨P + 1 + 1 + 1, 3, none⟩ (.slice none 0 0) = W9 at k9 u9 ⊢
        obtain ⟨r0, r1, r2, r3⟩ := cells4 (u9.at k8 (by simp))
        obtain ⟨s0, s1, s2, s3⟩ := cells4 k9
        have hU89 : Upd [P + 1 + 1, P + 1 + 1 + 1] W0 W9 := (u8.mono (by simp)).trans u9 (by simp)
        have hU9 : Upd [] w W9 := HF.out.upd.trans hU89 (fun x hx hl => by have := HF.out.ord; simp at hx; omega)
        exact bodyPost_ret (v := .tuple #[.agg #[.int .i64 cap, .slice ea n ec, .int .i64 nx, .slice ia q ic], .agg #[.int .i64 1, .int .i64 0, .bool false, .slice none 0 0]]) (by simp [results, Try.results15, go_sem, r0, r1, r2, r3, s0, s1, s2, s3]) rfl ⟨⟨cap, ⟨es, ea, ec⟩, nx, ⟨is, ia, ic⟩⟩, ⟨1, 0, false, ⟨[], none, 0⟩⟩, by rw [HRET.out]; rfl, rfl, rfl, ⟨HM.out.es.stay hU9, HM.out.is.stay hU9⟩, hasS_nil LV _, fun bx hbx ha => ⟨ha, avS_nil _ _ _⟩, hU9⟩
end Go.Proofs.Ytpneljhplbkdkaa
