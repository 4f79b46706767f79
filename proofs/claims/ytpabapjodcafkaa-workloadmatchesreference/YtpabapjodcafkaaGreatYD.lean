
/- Contract: the reference's Sorted of layer 9. -/
import Derived.Test.YtpabapjodcafkaaGreatYM
import Derived.Test.YtpabapjodcafkaaGreatPJ
namespace Go.Proofs.YtpabapjodcafkaaGreat
open Go.RowKit Go.Lib

theorem runQ_len (os : List Wo) : ∀ k, (runQ os k).q.length ≤ k ∧ (runQ os k).out.length ≤ k
  | 0 => ⟨Nat.le_refl _, Nat.le_refl _⟩
  | k + 1 => by
    have ih := runQ_len os k
    simp only [runQ]
    split
    · simp only [stepQ]
      split
      · split
        · simp [List.length_eraseIdx]; split <;> omega
        · omega
      · simp; omega
    · omega
/-- The two rows of Sorted: the queue and what is out. -/
structure RowsQ (w wr : World) (s : Qw) (qa : Option Addr) (qc : Nat) (oa : Option Addr) (oc : Nat) : Prop where
  q : wr.ownsRow w.heap.size 38 LI.k (.slice qa s.q.length qc) s.q.length (LI.flat s.q)
  o : wr.ownsRow w.heap.size 38 LI.k (.slice oa s.out.length oc) s.out.length (LI.flat s.out)
  ne : ∀ x, (Value.slice qa s.q.length qc).ownBlock = some x → (Value.slice oa s.out.length oc).ownBlock ≠ some x
  upd : Upd [] w wr
theorem RowsQ.stay {w a b : World} {s : Qw} {qa oa : Option Addr} {qc oc : Nat} (h : RowsQ w a s qa qc oa oc) (hu : Upd [] a b) : RowsQ w b s qa qc oa oc :=
  ⟨hu.row h.q (by simp), hu.row h.o (by simp), h.ne, h.upd.thn hu⟩
theorem flat_nil_it {w : World} (base : Nat) (e : TypeId) : w.ownsRow base e LI.k (.slice none 0 0) 0 (LI.flat []) := ⟨rfl, .inl ⟨rfl, rfl⟩⟩
theorem hasS_own {w : World} {base n : Nat} {e : TypeId} {ad : Option Addr} {cap : Nat} {l : List It} (h : w.ownsRow base e LI.k (.slice ad n cap) n (LI.flat l)) : n = l.length ∧ HasS LI w ⟨l, ad, cap⟩ := by
  obtain ⟨hn, ad', cap', e', hs, _⟩ := hasS_row (L := LI) h
  simp only [Value.slice.injEq, true_and] at e'
  obtain ⟨rfl, rfl⟩ := e'
  exact ⟨hn, hs⟩
theorem base_mono {w : World} {base base' : Nat} {e : TypeId} {size : Nat} {v : Value} {n : Nat} {xs : List Value} (h : w.ownsRow base e size v n xs) (hb : base' ≤ base) : w.ownsRow base' e size v n xs := by
  refine ⟨h.1, ?_⟩
  rcases h.2 with hn | ⟨g, cap, cur, rfl, hb', rest⟩
  · exact .inl hn
  · exact .inr ⟨g, cap, cur, rfl, by omega, rest⟩
set_option maxRecDepth 100000 in
set_option maxHeartbeats 8000000 in
theorem RSorted_has (la : Option Addr) (lc : Nat) (os : List Wo) (w : World) (ho : Row LW w la os) (hl : os.length ≤ 2000) :
    Calls Tryz.prog 10 #[.slice la os.length lc] w fun e w' => ∃ s' : SlR It, e = .returned (.slice s'.ad s'.l.length s'.cap) ∧ MadeS w (runQ os os.length).out w' s' := by
  have HO := Lib.hid ho
  obtain ⟨n, hn⟩ : ∃ n, n = os.length := ⟨_, rfl⟩
  have HN := Lib.hid hn
  have HLE := Lib.hid (runQ_len os)
  have HSU : Hid (∀ k (h : k < os.length), runQ os (k + 1) = stepQ (runQ os k) k os[k]) := fun k h => runQ_succ h
  have HZ : Hid (runQ os 0 = ⟨[], []⟩) := rfl
  generalize runQ os = Q at *
  rw [← hn] at hl ⊢
  clear ho hn
  go_enter Tryz.func10, Tryz.ntmps10
  go_wp2_with fail
  go_loopg [3, 4, 5] n (fun gk vq vo vi wr => ∃ (k : Nat) (qa : Option Addr) (qc : Nat) (oa : Option Addr) (oc : Nat), vq = .slice qa (Q k).q.length qc ∧ vo = .slice oa (Q k).out.length oc ∧ vi = .int .i64 k ∧ k + gk = n ∧ Hid (RowsQ w wr (Q k) qa qc oa oc))
  case atStart =>
    exact ⟨0, none, 0, none, 0, by rw [HZ.out]; rfl, by rw [HZ.out]; rfl, rfl, by omega, by rw [HZ.out]; exact ⟨flat_nil_it _ _, flat_nil_it _ _, fun x hx => by simp [Value.ownBlock] at hx, Upd.refl [] w⟩⟩
  case round =>
    obtain ⟨k, qa, qc, oa, oc, rfl, rfl, rfl, hkg, HR⟩ := hrel
    by_cases hlt : k < n
    · have hltz : (k : Int) < (n : Int) := by omega
      have hk1 : k < os.length := by have := HN.out; omega
      obtain ⟨b, off, hb, x0, x1⟩ := (HO.out.stay HR.out.upd).work k hk1
      have HSK := Lib.hid (HSU.out k hk1)
      obtain ⟨⟨p, t⟩, hx⟩ : ∃ x, x = os[k]'hk1 := ⟨_, rfl⟩
      rw [← hx] at x0 x1 HSK
      simp only at x0 x1
      subst hb
      clear hx hk1
      have hqk := (HLE.out k).1
      have hok := (HLE.out k).2
      have hwk : IntKind.i64.wrap ((k : Int) + 1) = (k : Int) + 1 := by rw [IntKind.wrap_i64]; omega
      obtain ⟨s, hs⟩ : ∃ s, s = Q k := ⟨_, rfl⟩
      rw [← hs] at HR HSK hqk hok ⊢
      clear hs
      have hsz := HR.out.upd.size
      cases p with
      | false =>
        have HSF : Hid (Q (k + 1) = ⟨s.q ++ [⟨t, (k : Nat), 0⟩], s.out⟩) := HSK.out
        have hu5 := (Upd.refl [] wr).alloc (.cells #[.int .i64 t, .int .i64 (k : Nat), .int .i64 0] 38)
        have HR2 := Lib.hid (row_cells (it := ⟨t, (k : Nat), 0⟩) (heap_alloc1 wr (.cells #[.int .i64 t, .int .i64 (k : Nat), .int .i64 0] 38)))
        have HR5 := Lib.hid (HR.out.stay hu5)
        have HQN : Hid ((Q (k + 1)).q.length = s.q.length + 1) := Lib.hid (by rw [HSF.out]; simp)
        clear hu5
        go_upto_region 5 with (at_builtin; refine app_row2 tyI rfl _ _ rfl w.heap.size (.slice qa s.q.length qc) s.q.length s.q rfl HR5.out.q ⟨wr.heap.size, 0, none⟩ 1 1 [⟨t, (k : Nat), 0⟩] rfl rfl (by decide) HR2.out (by omega) (by simp; omega) ?_; intro v2 w2 hown2 hgrow2 hwh; obtain ⟨va2, vc2, rfl⟩ := row_shape hown2)
        have HRF : Hid (RowsQ w w2 (Q (k + 1)) va2 vc2 oa oc) := by
          rw [HSF.out]
          have hux : Upd ((Value.slice qa s.q.length qc).ownBlock.toList) (wr.alloc (.cells #[.int .i64 t, .int .i64 (k : Nat), .int .i64 0] 38)) w2 := (Upd.refl _ _).grown hgrow2 (fun x hx _ => by simp [hx])
          have ho2 := hux.row HR5.out.o (fun x hx hm => HR5.out.ne x (by simpa using hm) hx)
          refine ⟨by simp only [List.length_append, List.length_singleton]; exact hown2, ho2, fun x hx => ?_, HR5.out.upd.grown hgrow2 (fun x hx hl => by have := own_ge HR5.out.q x hx; omega)⟩
          simp only [List.length_append, List.length_singleton] at hx
          rcases hwh with h | h
          · rw [h] at hx; exact HR5.out.ne x hx
          · rw [h] at hx
            simp only [Option.some.injEq] at hx
            intro he
            have := (HR5.out.o.lt x he).2
            omega
        clear hown2 hgrow2 hwh x0 x1
        have HQO : Hid ((Q (k + 1)).out = s.out) := Lib.hid (by rw [HSF.out])
        go_wp2_with fail
        go_roundg (n - (k + 1))
        case measure => omega
        case rel => exact ⟨k + 1, va2, vc2, oa, oc, by rw [HQN.out], by rw [HQO.out], by go_num, by omega, HRF⟩
      | true =>
        by_cases hq0 : s.q.length = 0
        · have HSF : Hid (Q (k + 1) = s) := Lib.hid (by rw [HSK.out, stepQ, if_pos rfl, dif_neg (by omega)])
          have hqz : ((s.q.length : Nat) : Int) = 0 := by omega
          have HRF : Hid (RowsQ w wr (Q (k + 1)) qa qc oa oc) := by rw [HSF.out]; exact HR
          rw [hq0]
          go_wp2_with fail
          go_roundg (n - (k + 1))
          case measure => omega
          case rel => exact ⟨k + 1, qa, qc, oa, oc, by rw [HSF.out, hq0], by rw [HSF.out], by go_num, by omega, HRF⟩
        · have hqp : 0 < s.q.length := by omega
          have HSF : Hid (Q (k + 1) = ⟨s.q.eraseIdx (lstN s.q s.q.length), s.out ++ [s.q[lstN s.q s.q.length]'(lstN_lt hqp (Nat.le_refl _))]⟩) := Lib.hid (by rw [HSK.out, stepQ, if_pos rfl, dif_pos hqp])
          have hqz : decide (((s.q.length : Nat) : Int) = 0) = false := decide_eq_false (by omega)
          obtain ⟨m, hm⟩ : ∃ m, m = s.q.length := ⟨_, rfl⟩
          have HM := Lib.hid hm
          have hmn : ¬ m = 0 := by omega
          have hmz : ¬ (m : Int) = 0 := by omega
          rw [← hm] at hqz ⊢
          have hmk : m ≤ k := by omega
          clear hm hq0 hqk
          obtain ⟨bq, oq, e0, -⟩ := (hasS_own HR.out.q).2.row.item 0 hqp
          simp only at e0
          subst e0
          have HSL := Lib.hid (fun j (h : j ≤ s.q.length) => lstN_lt hqp h)
          have HST : Hid (∀ j, lstN s.q (j + 1) = if tAt s.q j < tAt s.q (lstN s.q j) then j else lstN s.q j) := fun j => rfl
          go_wp2_with fail
          go_loopg [6, 7] m (fun gj v6 v7 wi => ∃ j : Nat, v6 = .int .i64 (lstN s.q j : Nat) ∧ v7 = .int .i64 j ∧ j + gj = m ∧ Hid (RowsQ w wi s (some ⟨bq, oq, none⟩) qc oa oc))
          case atStart => exact ⟨0, rfl, rfl, by omega, HR⟩
          case round =>
            obtain ⟨j, rfl, rfl, hjg, HRJ⟩ := hrel
            by_cases hltj : j < m
            · have hjz : (j : Int) < (m : Int) := by omega
              have hjq : j < s.q.length := by have := HM.out; omega
              have hlq : lstN s.q j < s.q.length := HSL.out j (by omega)
              obtain ⟨b1, o1, e1, y0, -, -⟩ := (hasS_own HRJ.out.q).2.row.item j hjq
              obtain ⟨b2, o2, e2, z0, -, -⟩ := (hasS_own HRJ.out.q).2.row.item (lstN s.q j) hlq
              simp only at e1 e2 y0 z0
              obtain ⟨rfl, rfl⟩ : bq = b1 ∧ oq = o1 := by simpa using e1
              obtain ⟨rfl, rfl⟩ : bq = b2 ∧ oq = o2 := by simpa using e2
              have hstj := HST.out j
              rw [tAt_get hjq, tAt_get hlq] at hstj
              have hlz : ((lstN s.q j : Nat) : Int) < (m : Int) := by have := HM.out; omega
              obtain ⟨tj, htj⟩ : ∃ tj, tj = s.q[j].t := ⟨_, rfl⟩
              obtain ⟨tl, htl⟩ : ∃ tl, tl = s.q[lstN s.q j].t := ⟨_, rfl⟩
              rw [← htj] at y0 hstj
              rw [← htl] at z0 hstj
              have HSJ := Lib.hid hstj
              have hwj : IntKind.i64.wrap ((j : Int) + 1) = (j : Int) + 1 := by rw [IntKind.wrap_i64]; omega
              clear e1 e2 hjq hlq htj htl hstj
              generalize hlo : lstN s.q j = lo at *
              by_cases hc : tj < tl
              · have hd : decide (tj < tl) = true := decide_eq_true hc
                have HSJ2 : Hid (lstN s.q (j + 1) = j) := Lib.hid (by rw [HSJ.out, if_pos hc])
                clear hc hlo
                go_upto_region 13 with (fail)
                go_quiet (fail)
                have hdq : Upd [] wr (wr.drewN nq) := (Upd.refl [] wr).drewN nq
                generalize wr.drewN nq = w4 at *
                have HRK := Lib.hid (HRJ.out.stay hdq)
                clear y0 z0 hdq
                go_wp2_with fail
                go_roundg (m - (j + 1))
                case measure => omega
                case rel => exact ⟨j + 1, by rw [HSJ2.out], by go_num, by omega, HRK⟩
              · have hd : decide (tj < tl) = false := decide_eq_false hc
                have HSJ2 : Hid (lstN s.q (j + 1) = lo) := Lib.hid (by rw [HSJ.out, if_neg hc])
                clear hc hlo
                go_upto_region 13 with (fail)
                go_quiet (fail)
                have hdq : Upd [] wr (wr.drewN nq) := (Upd.refl [] wr).drewN nq
                generalize wr.drewN nq = w4 at *
                have HRK := Lib.hid (HRJ.out.stay hdq)
                clear y0 z0 hdq
                go_wp2_with fail
                go_roundg (m - (j + 1))
                case measure => omega
                case rel => exact ⟨j + 1, by rw [HSJ2.out], by go_num, by omega, HRK⟩
            · have hjz : ¬ (j : Int) < (m : Int) := by omega
              obtain rfl : m = j := by omega
              have hlq : lstN s.q m < s.q.length := HSL.out m (by have := HM.out; omega)
              obtain ⟨b1, o1, e1, y0, y1, y2⟩ := (hasS_own HRJ.out.q).2.row.item (lstN s.q m) hlq
              simp only at e1 y0 y1 y2
              obtain ⟨rfl, rfl⟩ : bq = b1 ∧ oq = o1 := by simpa using e1
              have HSG : Hid (Q (k + 1) = ⟨s.q.take (lstN s.q m) ++ s.q.drop (lstN s.q m + 1), s.out ++ [s.q[lstN s.q m]'hlq]⟩) := Lib.hid (by
                rw [HSF.out, ← List.eraseIdx_eq_take_drop_succ]
                simp only [HM.out])
              obtain ⟨⟨xt, xq, xs⟩, hx⟩ : ∃ x, x = s.q[lstN s.q m]'hlq := ⟨_, rfl⟩
              rw [← hx] at y0 y1 y2 HSG
              simp only at y0 y1 y2
              have hlm : lstN s.q m < m := by have := HM.out; omega
              clear e1 hx hlq HSF HST HSL
              generalize lstN s.q m = lo at *
              have hlz : (lo : Int) < (m : Int) := by omega
              have hcap := (hasS_own HRJ.out.q).2.le
              simp only at hcap
              rw [← HM.out] at hcap
              have hu5 := (Upd.refl [] wr).alloc (.cells #[.int .i64 xt, .int .i64 xq, .int .i64 xs] 38)
              have HR2 := Lib.hid (row_cells (it := ⟨xt, xq, xs⟩) (heap_alloc1 wr (.cells #[.int .i64 xt, .int .i64 xq, .int .i64 xs] 38)))
              have HR5 := Lib.hid (HRJ.out.stay hu5)
              have hsz2 := HRJ.out.upd.size
              clear hu5
              go_upto_region 16 with (at_builtin; refine app_row2 tyI rfl _ _ rfl w.heap.size (.slice oa s.out.length oc) s.out.length s.out rfl HR5.out.o ⟨wr.heap.size, 0, none⟩ 1 1 [⟨xt, xq, xs⟩] rfl rfl (by decide) HR2.out (by omega) (by simp; omega) ?_; intro v2 w2 hown2 hgrow2 hwh; obtain ⟨oa2, oc2, rfl⟩ := row_shape hown2)
              have HUX : Hid (Upd ((Value.slice oa s.out.length oc).ownBlock.toList) (wr.alloc (.cells #[.int .i64 xt, .int .i64 xq, .int .i64 xs] 38)) w2) := (Upd.refl _ _).grown hgrow2 (fun x hx _ => by simp [hx])
              have HQ2 := Lib.hid (HUX.out.row HR5.out.q (fun x hx hm => HR5.out.ne x hx (by simpa using hm)))
              have HU2 : Hid (Upd [] w w2) := HR5.out.upd.grown hgrow2 (fun x hx hl => by have := own_ge HR5.out.o x hx; omega)
              have HO2 := Lib.hid hown2
              clear hown2 hgrow2 hwh y0 y1 y2 hsz hsz2
              have HS2 := Lib.hid (hasS_own HQ2.out).2
              have HR1 : Hid (Row LI w2 (some ⟨bq, oq, none⟩) (s.q.take lo)) := HS2.out.row.part lo
              have HL1 : Hid (lo = (s.q.take lo).length) := by show lo = _; rw [List.length_take]; have := HM.out; omega
              have hkc : (lo : Int) ≤ (qc : Int) := by omega
              have hkn2 : (lo : Int) ≤ (m : Int) := by omega
              go_upto_region 18 with (at_builtin; refine app_row tyI rfl _ _ rfl w2.heap.size (.slice none 0 0) 0 [] rfl (flat_nil_it _ _) (some ⟨bq, oq, none⟩) lo qc (s.q.take lo) (by first | rfl | simp) HL1.out HR1.out (fun e => by simp at e) (by omega) (Nat.le_refl _) ?_; intro v3 w3 hown3 hgrow3; obtain ⟨ra, rc, rfl⟩ := row_shape hown3)
              have HO3 := Lib.hid hown3
              have HV3 : Hid (Upd [] w2 w3) := (Upd.refl [] w2).grown hgrow3 (fun x hx hl => by simp [Value.ownBlock] at hx)
              clear hown3 hgrow3
              obtain ⟨l1, hl1⟩ : ∃ l1, l1 = lo + 1 := ⟨_, rfl⟩
              rw [← hl1] at HSG
              have hw1 : IntKind.i64.wrap ((lo : Int) + 1) = (l1 : Int) := by rw [IntKind.wrap_i64]; omega
              have hlm1 : l1 ≤ m := by omega
              have hl1m : (l1 : Int) ≤ (m : Int) := by omega
              have hmc : (m : Int) ≤ (qc : Int) := by omega
              have ck : ((qc : Int) - (l1 : Int)).toNat = qc - l1 := by omega
              have cn : ((m : Int) - (l1 : Int)).toNat = m - l1 := by omega
              have hsz3 := HV3.out.size
              have HQL : Hid ((Q (k + 1)).q.length = 0 + lo + (m - l1)) := Lib.hid (by
                rw [HSG.out]; simp only [List.length_append, List.length_take, List.length_drop, ← HM.out]; omega)
              have HOL : Hid ((Q (k + 1)).out.length = s.out.length + 1) := Lib.hid (by rw [HSG.out]; simp)
              have HFI : Hid (∀ w5 va vc, w5.ownsRow w2.heap.size 38 LI.k (.slice va (0 + lo + (m - l1)) vc) (0 + lo + (m - l1)) (LI.flat ([] ++ s.q.take lo ++ s.q.drop l1)) → Upd [] w2 w5 → RowsQ w w5 (Q (k + 1)) va vc oa2 oc2) := fun w5 va vc h5 hu => by
                have e1 : (Q (k + 1)).q = [] ++ s.q.take lo ++ s.q.drop l1 := by rw [HSG.out]; rfl
                have e2 : (Q (k + 1)).out = s.out ++ [⟨xt, xq, xs⟩] := by rw [HSG.out]
                refine ⟨?_, ?_, fun x hx he => ?_, HU2.out.thn hu⟩
                · rw [HQL.out, e1]; exact base_mono h5 HU2.out.size
                · rw [HOL.out, e2]; exact hu.row HO2.out (by simp)
                · rw [HQL.out] at hx
                  rw [HOL.out] at he
                  have h1 := own_ge h5 x hx
                  have h2 := (HO2.out.lt x he).2
                  omega
              clear hl1
              by_cases hqc : l1 < qc
              · have hqz2 : (l1 : Int) < (qc : Int) := by omega
                have hne : ¬ qc = l1 := by omega
                have hne2 : (qc - l1 = 0) = False := by simp; omega
                have HR3 : Hid (Row LI w3 (some ⟨bq, oq + l1 * 3, none⟩) (s.q.drop l1)) := ((HS2.out.stay HV3.out).row).drop l1
                have HL3 : Hid (m - l1 = (s.q.drop l1).length) := by show m - l1 = _; rw [List.length_drop, ← HM.out]
                go_upto_region 19 with (at_builtin; refine app_row tyI rfl _ _ rfl w2.heap.size (.slice ra (0 + lo) rc) (0 + lo) ([] ++ s.q.take lo) (by first | rfl | (rw [Nat.zero_add]; rfl)) HO3.out (some ⟨bq, oq + l1 * 3, none⟩) (m - l1) (qc - l1) (s.q.drop l1) (by first | rfl | simp) HL3.out HR3.out (fun e => by simp at e) (by omega) hsz3 ?_; intro v4 w4 hown4 hgrow4; obtain ⟨va, vc, rfl⟩ := row_shape hown4)
                have HRF := Lib.hid (HFI.out w4 va vc hown4 (HV3.out.grown hgrow4 (fun x hx hl => by have := own_ge HO3.out x hx; omega)))
                clear hown4 hgrow4 ck cn hw1
                go_wp2_with fail
                go_roundg (n - (k + 1))
                case measure => omega
                case rel => exact ⟨k + 1, va, vc, oa2, oc2, by rw [HQL.out]; first | rfl | (simp; done), by rw [HOL.out], by go_num, by omega, HRF⟩
              · have hqe : qc = l1 := by omega
                have hme : m = l1 := by omega
                have HR3 : Hid (Row LI w3 (some ⟨bq, oq, none⟩) ([] : List It)) := row_nil _ _ _
                have hdr : s.q.drop l1 = [] := List.drop_eq_nil_iff.2 (by rw [← HM.out, hme]; exact Nat.le_refl _)
                rw [hdr] at HFI
                clear hdr
                subst hqe
                subst hme
                have cz : m - m = 0 := Nat.sub_self m
                go_upto_region 19 with (at_builtin; refine app_row tyI rfl _ _ rfl w2.heap.size (.slice ra (0 + lo) rc) (0 + lo) ([] ++ s.q.take lo) (by first | rfl | (rw [Nat.zero_add]; rfl)) HO3.out (some ⟨bq, oq, none⟩) 0 0 ([] : List It) (by first | rfl | simp) rfl HR3.out (fun e => by simp at e) (by omega) hsz3 ?_; intro v4 w4 hown4 hgrow4; obtain ⟨va, vc, rfl⟩ := row_shape hown4)
                rw [cz] at HFI HQL
                have HRF := Lib.hid (HFI.out w4 va vc hown4 (HV3.out.grown hgrow4 (fun x hx hl => by have := own_ge HO3.out x hx; omega)))
                clear hown4 hgrow4 ck cn hw1 cz
                go_wp2_with fail
                go_roundg (n - (k + 1))
                case measure => omega
                case rel => exact ⟨k + 1, va, vc, oa2, oc2, by rw [HQL.out]; first | rfl | (simp; done), by rw [HOL.out], by go_num, by omega, HRF⟩
    · have hltz : ¬ (k : Int) < (n : Int) := by omega
      obtain rfl : k = n := by omega
      obtain ⟨hnn, hS3⟩ := hasS_own HR.out.o
      have hge : ∀ a, oa = some a → w.heap.size ≤ a.block := by
        obtain ⟨_, ad', cap', e', _, hg⟩ := hasS_row (L := LI) HR.out.o
        simp only [Value.slice.injEq, true_and] at e'
        obtain ⟨rfl, rfl⟩ := e'
        exact hg
      have HFIN : Hid (MadeS w (Q k).out wr ⟨(Q k).out, oa, oc⟩) := ⟨rfl, hS3, hge, HR.out.upd⟩
      clear hnn hS3 hge
      go_wp2_with fail
      go_ret
      exact ⟨_, rfl, HFIN.out⟩
end Go.Proofs.YtpabapjodcafkaaGreat
