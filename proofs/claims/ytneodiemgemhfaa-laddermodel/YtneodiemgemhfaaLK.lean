/- Contract: the program's Valid. -/
import Derived.Test.YtneodiemgemhfaaLG
import Derived.Test.YtneodiemgemhfaaLJ
namespace Go.Proofs.Ytneodiemgemhfaa
open Go.RowKit Go.Lib

theorem okRs_at : ∀ (rs : List Rg) (b : Int), OkRs b rs ↔ ∀ k (h : k < rs.length), OkR (boundR b (rs.take k)) rs[k]
  | [], b => by simp [OkRs]
  | r :: rs, b => by
    have ih := okRs_at rs (min b (curT r))
    simp only [OkRs, ih]
    constructor
    · rintro ⟨h1, h2⟩ k hk
      cases k with
      | zero => exact h1
      | succ k => exact h2 k (by simpa using hk)
    · intro h
      exact ⟨h 0 (by simp), fun k hk => h (k + 1) (by simpa using hk)⟩
noncomputable def validD (l : Ld) : Bool := decide (0 ≤ l.mv) && (decide (0 ≤ l.cp) && (topB l && (rsB l && (botB l && distinctB (itemsL l)))))
theorem validD_yes {l : Ld} : validD l = true ↔ GoodL l := by
  unfold validD topB botB
  simp only [Bool.and_eq_true, decide_eq_true_eq, withinB_yes, rsB_yes, strictB_yes, distinctB_yes]
  constructor
  · rintro ⟨h1, h2, ⟨⟨h3, h4⟩, h5⟩, ⟨h6, h7⟩, ⟨h8, h9⟩, h10⟩
    have hb : ∀ k, boundR l.ts (l.rs.take k) ≤ l.ts := fun k => (boundR_le _ _).1
    refine ⟨h3, by unfold MaxT; omega, fun it hit => by have := h5 it hit; unfold MaxT; omega, h6, (okRs_at _ _).2 fun k hk => ?_, fun it hit => ?_, h8, h10, h1, h2⟩
    · obtain ⟨o1, o2, o3⟩ := h7 k hk
      exact ⟨validR_yes.1 o1, o2, fun it hit => by have h := withinB_yes.1 o3 it hit; have h2 := hb k; unfold MaxT; omega⟩
    · have h := h9 it hit
      have h2 := (boundR_le l.rs l.ts).1
      unfold MaxT
      omega
  · intro h
    have hts := h.ts1
    have hrs := (okRs_at _ _).1 h.rs
    unfold MaxT at hts
    refine ⟨h.mv0, h.cp0, ⟨⟨h.ts0, by omega⟩, fun it hit => by have := h.top it hit; unfold MaxT at this; omega⟩, ⟨h.len, fun k hk => ?_⟩, ⟨h.srt, fun it hit => by have := h.bot it hit; omega⟩, h.dist⟩
    obtain ⟨o1, o2, o3⟩ := hrs k hk
    exact ⟨validR_yes.2 o1, o2, withinB_yes.2 fun it hit => ⟨(o1.its_lo hit).2, (o3 it hit).1⟩⟩
/-- How great a queue may be for Valid. -/
structure Sz (l : LdR) : Prop where
  top : l.top.l.length ≤ 100000
  bot : l.bot.l.length ≤ 100000
  rs : l.rs.l.length ≤ 1000
  bk : ∀ r ∈ l.rs.l, r.bk.l.length ≤ 1000
  its : ∀ r ∈ l.rs.l, ∀ s ∈ r.bk.l, s.l.length ≤ 100000
  ln : ∀ r ∈ l.rs.l, lenL r.rg.bs ≤ 100000
  all : (itemsL l.ld).length ≤ 100000
theorem Fit.sz {l : LdR} (h : Fit l) : Sz l := by
  have h1 := h.sizes
  refine ⟨h1.1, h1.2.2, by omega, fun r hr => by rw [h.h8 r hr]; decide, h.its, fun r hr => ?_, by rw [← lenD_its]; exact h.len⟩
  exact Nat.le_trans (len_rs (l := l.ld) (List.mem_map_of_mem hr)) h.len
set_option maxRecDepth 100000 in
set_option maxHeartbeats 8000000 in
theorem LValid_has (l : LdR) (w : World) (h : HasD w l) (hz : Sz l) :
    Calls Try.prog 12 #[encD l] w fun e w' => e = .returned (.bool (validD l.ld)) ∧ Upd [] w w' := by
  have HTO := Lib.hid (fun W (hu : Upd [] w W) => validTop_has l W (h.stay hu) (by have := hz.top; omega))
  have HRU := Lib.hid (fun W (hu : Upd [] w W) => validRungs_has l W (h.stay hu) hz.rs hz.bk hz.its hz.ln)
  have HBT : Hid (rsB l.ld = true → ∀ W, Upd [] w W → Calls Try.prog 24 #[encD l] W fun e w' => e = .returned (.bool (botB l.ld)) ∧ Upd [] W w') := fun hr W hu => validBottom_has l W (h.stay hu) (by have := hz.bot; omega) (by have := hz.rs; omega) (fun r hrm => by
    obtain ⟨i, hi, rfl⟩ := List.mem_iff_getElem.1 hrm
    have := (rsB_yes.1 hr).2 i (by simpa [LdR.ld] using hi)
    have := validR_yes.1 this.good
    simpa [LdR.ld] using this)
  have HIT := Lib.hid (fun W (hu : Upd [] w W) => items_all l W (h.stay hu) hz.rs hz.bk hz.all)
  have HDI := Lib.hid (fun b0 va vc W (ho : World.ownsRow W b0 34 3 (.slice va (itemsL l.ld).length vc) (itemsL l.ld).length (LI.flat (itemsL l.ld))) => distinct_has b0 va vc _ _ W rfl ho hz.all)
  have HV : Hid (validD l.ld = (decide (0 ≤ l.mv) && (decide (0 ≤ l.cp) && (topB l.ld && (rsB l.ld && (botB l.ld && distinctB (itemsL l.ld))))))) := rfl
  rw [HV.out]
  generalize topB l.ld = v1 at *
  generalize hv2 : rsB l.ld = v2 at *
  generalize botB l.ld = v3 at *
  generalize distinctB (itemsL l.ld) = v4 at *
  generalize (itemsL l.ld).length = m at *
  generalize LI.flat (itemsL l.ld) = fl at *
  have HLL : Hid (encD l = .agg #[.int .i64 l.ts, .slice l.top.ad l.top.l.length l.top.cap, .slice l.rs.ad l.rs.l.length l.rs.cap, .slice l.bot.ad l.bot.l.length l.bot.cap, .int .i64 l.mv, .int .i64 l.cp]) := rfl
  rw [HLL.out] at HTO HRU HBT HIT ⊢
  clear h hz HV HLL hv2
  go_enter Try.func12, Try.ntmps12
  go_upto_region 1 with (fail)
  have hu := (Upd.refl [] w).alloc (.cells #[.int .i64 l.ts, .slice l.top.ad l.top.l.length l.top.cap, .slice l.rs.ad l.rs.l.length l.rs.cap, .slice l.bot.ad l.bot.l.length l.bot.cap, .int .i64 l.mv, .int .i64 l.cp] 27)
  have b0 := heap_alloc1 w (.cells #[.int .i64 l.ts, .slice l.top.ad l.top.l.length l.top.cap, .slice l.rs.ad l.rs.l.length l.rs.cap, .slice l.bot.ad l.bot.l.length l.bot.cap, .int .i64 l.mv, .int .i64 l.cp] 27)
  generalize w.alloc (.cells #[.int .i64 l.ts, .slice l.top.ad l.top.l.length l.top.cap, .slice l.rs.ad l.rs.l.length l.rs.cap, .slice l.bot.ad l.bot.l.length l.bot.cap, .int .i64 l.mv, .int .i64 l.cp] 27) = W at *
  generalize hP : w.heap.size = P at *
  have HP := Lib.hid hP
  have HU := Lib.hid hu; have HB0 := Lib.hid b0
  obtain ⟨c0, c1, c2, c3, c4, c5⟩ := cells6 b0
  clear hu b0 hP
  by_cases h1 : 0 ≤ l.mv
  · have d1 : decide (0 ≤ l.mv) = true := decide_eq_true h1
    by_cases h2 : 0 ≤ l.cp
    · have d2 : decide (0 ≤ l.cp) = true := decide_eq_true h2
      cases v1 with
      | false =>
        go_wp2_with (go_at_call 22; (with_reducible refine (HTO.out _ HU.out).mono ?_); rintro e w1 ⟨rfl, hu1⟩; have HU1 := Lib.hid (HU.out.thn hu1); clear hu1)
        go_ret
        exact ⟨ret_bool (by first | rfl | simp), HU1.out⟩
      | true =>
        cases v2 with
        | false =>
          go_wp2_with (first
            | (go_at_call 22; (with_reducible refine (HTO.out _ HU.out).mono ?_); rintro e w1 ⟨rfl, hu1⟩; obtain ⟨c0, c1, c2, c3, c4, c5⟩ := cells6 (hu1.at HB0.out (by simp)); have HU1 := Lib.hid (HU.out.thn hu1); clear hu1)
            | (go_at_call 23; (with_reducible refine (HRU.out _ HU1.out).mono ?_); rintro e w2 ⟨rfl, hu2⟩; have HU2 := Lib.hid (HU1.out.thn hu2); clear hu2))
          go_ret
          exact ⟨ret_bool (by first | rfl | simp [d1, d2]), HU2.out⟩
        | true =>
          have HBT2 := Lib.hid (HBT.out (by first | rfl | trivial))
          cases v3 with
          | false =>
            go_wp2_with (first
              | (go_at_call 22; (with_reducible refine (HTO.out _ HU.out).mono ?_); rintro e w1 ⟨rfl, hu1⟩; obtain ⟨c0, c1, c2, c3, c4, c5⟩ := cells6 (hu1.at HB0.out (by simp)); have HB1 := Lib.hid (hu1.at HB0.out (by simp)); have HU1 := Lib.hid (HU.out.thn hu1); clear hu1)
              | (go_at_call 23; (with_reducible refine (HRU.out _ HU1.out).mono ?_); rintro e w2 ⟨rfl, hu2⟩; obtain ⟨c0, c1, c2, c3, c4, c5⟩ := cells6 (hu2.at HB1.out (by simp)); have HU2 := Lib.hid (HU1.out.thn hu2); clear hu2)
              | (go_at_call 24; (with_reducible refine (HBT2.out _ HU2.out).mono ?_); rintro e w3 ⟨rfl, hu3⟩; have HU3 := Lib.hid (HU2.out.thn hu3); clear hu3))
            go_ret
            exact ⟨ret_bool (by first | rfl | simp [d1, d2]), HU3.out⟩
          | true =>
            go_wp2_with (first
              | (go_at_call 22; (with_reducible refine (HTO.out _ HU.out).mono ?_); rintro e w1 ⟨rfl, hu1⟩; obtain ⟨c0, c1, c2, c3, c4, c5⟩ := cells6 (hu1.at HB0.out (by simp)); have HB1 := Lib.hid (hu1.at HB0.out (by simp)); have HU1 := Lib.hid (HU.out.thn hu1); clear hu1)
              | (go_at_call 23; (with_reducible refine (HRU.out _ HU1.out).mono ?_); rintro e w2 ⟨rfl, hu2⟩; obtain ⟨c0, c1, c2, c3, c4, c5⟩ := cells6 (hu2.at HB1.out (by simp)); have HB2 := Lib.hid (hu2.at HB1.out (by simp)); have HU2 := Lib.hid (HU1.out.thn hu2); clear hu2)
              | (go_at_call 24; (with_reducible refine (HBT2.out _ HU2.out).mono ?_); rintro e w3 ⟨rfl, hu3⟩; obtain ⟨c0, c1, c2, c3, c4, c5⟩ := cells6 (hu3.at HB2.out (by simp)); have HU3 := Lib.hid (HU2.out.thn hu3); clear hu3)
              | (go_at_call 26; (with_reducible refine (HIT.out _ HU3.out).mono ?_); rintro e w4 ⟨va, vc, rfl, hown, hu4⟩; have HOW := Lib.hid hown; have HU4 := Lib.hid (HU3.out.thn hu4); have HS3 := Lib.hid HU3.out.size; clear hown hu4)
              | (go_at_call 25; (with_reducible refine (HDI.out _ va vc _ HOW.out).mono ?_); rintro e w5 ⟨rfl, hu5⟩; have HU5 := Lib.hid (HU4.out.trans hu5 (fun x hx hl => (by have h1 := own_ge HOW.out x (toList_of hx); have h2 := HS3.out; omega))); clear hu5))
            go_ret
            exact ⟨ret_bool (by first | rfl | simp [d1, d2]), HU5.out⟩
    · have d2 : decide (0 ≤ l.cp) = false := decide_eq_false h2
      go_wp2_with fail
      go_ret
      exact ⟨ret_bool (by first | rfl | simp [d1, d2]), HU.out⟩
  · have d1 : decide (0 ≤ l.mv) = false := decide_eq_false h1
    go_wp2_with fail
    go_ret
    exact ⟨ret_bool (by first | rfl | simp [d1]), HU.out⟩
end Go.Proofs.Ytneodiemgemhfaa
