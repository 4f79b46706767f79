/- Contract: the program's validRungs. -/
import Derived.Test.YtneodiemgemhfaaLH
import Derived.Test.YtneodiemgemhfaaLE
namespace Go.Proofs.Ytneodiemgemhfaa
open Go.RowKit Go.Lib

/-- What Valid asks of rung k. -/
structure OkAt (ts : Int) (rs : List Rg) (k : Nat) (r : Rg) : Prop where
  good : validR r = true
  ends : boundR ts (rs.take k) ≤ endT r
  its : withinB (itsR r) 0 (boundR ts (rs.take k)) = true
def RsOk (l : Ld) : Prop := l.rs.length ≤ 4 ∧ ∀ k (h : k < l.rs.length), OkAt l.ts l.rs k l.rs[k]
open Classical in
noncomputable def rsB (l : Ld) : Bool := decide (RsOk l)
theorem rsB_yes {l : Ld} : rsB l = true ↔ RsOk l := by simp [rsB]
theorem rsB_no {l : Ld} : rsB l = false ↔ ¬ RsOk l := by simp [rsB]
set_option maxRecDepth 100000 in
set_option maxHeartbeats 8000000 in
theorem validRungs_has (l : LdR) (w : World) (h : HasD w l) (hl : l.rs.l.length ≤ 1000) (hb : ∀ r ∈ l.rs.l, r.bk.l.length ≤ 1000) (hi : ∀ r ∈ l.rs.l, ∀ s ∈ r.bk.l, s.l.length ≤ 100000) (hs : ∀ r ∈ l.rs.l, lenL r.rg.bs ≤ 100000) :
    Calls Try.prog 23 #[encD l] w fun e w' => e = .returned (.bool (rsB l.ld)) ∧ Upd [] w w' := by
  have HD := Lib.hid h
  have HBO : Hid (∀ k, k ≤ l.rs.l.length → (∀ j (hj : j < l.rs.l.length), j < k → GoodR (l.rs.l[j]).rg) → ∀ W, Upd [] w W → Calls Try.prog 42 #[encD l, .int .i64 k] W fun e w' => e = .returned (.int .i64 (boundR l.ts ((l.rs.l.map RgR.rg).take k))) ∧ Upd [] W w') := fun k hk hg W hu => bound_has l k W (h.stay hu) hk (by omega) hg
  have HVA := Lib.hid (fun k (hk : k < l.rs.l.length) W (hu : Upd [] w W) => Valid_has l.rs.l[k] W ((h.stay hu).rg _ (List.getElem_mem hk)) (by have := hb _ (List.getElem_mem hk); omega) (fun s hs => by have := hi _ (List.getElem_mem hk) s hs; omega))
  have HEN := Lib.hid (fun k (hk : k < l.rs.l.length) (hg : validR (l.rs.l[k]).rg = true) W => End_has l.rs.l[k] W (validR_yes.1 hg))
  have HCO := Lib.hid (fun k (hk : k < l.rs.l.length) W (hu : Upd [] w W) => Concat_has (l.rs.l[k]).bk.l (l.rs.l[k]).bk.ad (l.rs.l[k]).bk.cap W ((h.stay hu).rg _ (List.getElem_mem hk)).bk.row ((h.stay hu).rg _ (List.getElem_mem hk)).its (hb _ (List.getElem_mem hk)) (hs _ (List.getElem_mem hk)))
  have HLE := Lib.hid (fun k (hk : k < l.rs.l.length) => hs _ (List.getElem_mem hk))
  have HT : Hid (l.rs.l.length ≤ 4 → (∀ k (hk : k < l.rs.l.length), OkAt l.ts (l.rs.l.map RgR.rg) k (l.rs.l[k]).rg) → rsB l.ld = true) := fun h4 ha => rsB_yes.2 ⟨by simpa [LdR.ld] using h4, fun k hk => by have := ha k (by simpa [LdR.ld] using hk); simpa [LdR.ld] using this⟩
  have HF : Hid (∀ k (hk : k < l.rs.l.length), ¬ OkAt l.ts (l.rs.l.map RgR.rg) k (l.rs.l[k]).rg → rsB l.ld = false) := fun k hk hn => rsB_no.2 (fun ha => hn (by have := ha.2 k (by simpa [LdR.ld] using hk); simpa [LdR.ld] using this))
  have H4 : Hid (¬ l.rs.l.length ≤ 4 → rsB l.ld = false) := fun h4 => rsB_no.2 (fun ha => h4 (by have := ha.1; simpa [LdR.ld] using this))
  generalize rsB l.ld = r at *
  have HLL : Hid (encD l = .agg #[.int .i64 l.ts, .slice l.top.ad l.top.l.length l.top.cap, .slice l.rs.ad l.rs.l.length l.rs.cap, .slice l.bot.ad l.bot.l.length l.bot.cap, .int .i64 l.mv, .int .i64 l.cp]) := rfl
  rw [HLL.out] at HBO ⊢
  obtain ⟨n, hn⟩ : ∃ n, n = l.rs.l.length := ⟨_, rfl⟩
  have HN := Lib.hid hn
  rw [← hn] at hl H4 ⊢
  clear h hb hi hs hn HLL
  go_enter Try.func23, Try.ntmps23
  go_upto_region 1 with (fail)
  have hu := (Upd.refl [] w).alloc (.cells #[.int .i64 l.ts, .slice l.top.ad l.top.l.length l.top.cap, .slice l.rs.ad n l.rs.cap, .slice l.bot.ad l.bot.l.length l.bot.cap, .int .i64 l.mv, .int .i64 l.cp] 27)
  have b0 := heap_alloc1 w (.cells #[.int .i64 l.ts, .slice l.top.ad l.top.l.length l.top.cap, .slice l.rs.ad n l.rs.cap, .slice l.bot.ad l.bot.l.length l.bot.cap, .int .i64 l.mv, .int .i64 l.cp] 27)
  generalize w.alloc (.cells #[.int .i64 l.ts, .slice l.top.ad l.top.l.length l.top.cap, .slice l.rs.ad n l.rs.cap, .slice l.bot.ad l.bot.l.length l.bot.cap, .int .i64 l.mv, .int .i64 l.cp] 27) = W at *
  generalize w.heap.size = P at *
  have HU := Lib.hid hu; have HB0 := Lib.hid b0
  obtain ⟨c0, c1, c2, c3, c4, c5⟩ := cells6 b0
  clear hu b0
  by_cases h4 : n ≤ 4
  · have hd4 : decide ((4 : Int) < (n : Int)) = false := decide_eq_false (by omega)
    go_wp2_with fail
    clear c0 c1 c2 c3 c4 c5
    go_loopg [13] n (fun gk vi wr => ∃ k : Nat, vi = .int .i64 k ∧ k + gk = n ∧ Hid (Upd [] W wr) ∧ Hid (∀ j (hj : j < l.rs.l.length), j < k → OkAt l.ts (l.rs.l.map RgR.rg) j (l.rs.l[j]).rg))
    case atStart => exact ⟨0, rfl, by omega, Upd.refl _ _, fun j hj hk => by omega⟩
    case round =>
      obtain ⟨k, rfl, hkg, HUR, HOK⟩ := hrel
      by_cases hlt : k < n
      · have hltz : (k : Int) < (n : Int) := by omega
        have hk1 : k < l.rs.l.length := by have := HN.out; omega
        have hD := HD.out.stay (HU.out.thn HUR.out)
        obtain ⟨b, off, hbo, x0, x1, x2, x3⟩ := hD.rs.row.rung k hk1
        have HBK := Lib.hid (fun W' (hu : Upd [] wr W') => HBO.out k (by have := HN.out; omega) (fun j hj hjk => validR_yes.1 (HOK.out j hj hjk).good) W' ((HU.out.thn HUR.out).thn hu))
        rw [← HN.out] at HBK
        have HVK := Lib.hid (fun W' (hu : Upd [] wr W') => HVA.out k hk1 W' ((HU.out.thn HUR.out).thn hu))
        have HEK := Lib.hid (HEN.out k hk1)
        have HCK := Lib.hid (fun W' (hu : Upd [] wr W') => HCO.out k hk1 W' ((HU.out.thn HUR.out).thn hu))
        have HFK := Lib.hid (HF.out k hk1)
        have hlek := HLE.out k hk1
        have HNX : Hid (OkAt l.ts (l.rs.l.map RgR.rg) k (l.rs.l[k]).rg → ∀ j (hj : j < l.rs.l.length), j < k + 1 → OkAt l.ts (l.rs.l.map RgR.rg) j (l.rs.l[j]).rg) := fun ho j hj hjk => by
          by_cases e : j = k
          · subst e; exact ho
          · exact HOK.out j hj (by omega)
        have HOA : Hid (OkAt l.ts (l.rs.l.map RgR.rg) k (l.rs.l[k]).rg ↔ validR (l.rs.l[k]).rg = true ∧ boundR l.ts ((l.rs.l.map RgR.rg).take k) ≤ endT (l.rs.l[k]).rg ∧ withinB (rowsOf (l.rs.l[k]).bk.l).flatten 0 (boundR l.ts ((l.rs.l.map RgR.rg).take k)) = true) := ⟨fun h => ⟨h.good, h.ends, h.its⟩, fun h => ⟨h.1, h.2.1, h.2.2⟩⟩
        have HWK := Lib.hid (fun va vc m W' (hr : Row LI W' va (rowsOf (l.rs.l[k]).bk.l).flatten) (hm : m = (rowsOf (l.rs.l[k]).bk.l).flatten.length) (hm2 : m ≤ 100000) => (by subst hm; exact within_has va vc _ 0 (boundR l.ts ((l.rs.l.map RgR.rg).take k)) W' hr (by omega) : Calls Try.prog 41 #[.slice va m vc, .int .i64 0, .int .i64 (boundR l.ts ((l.rs.l.map RgR.rg).take k))] W' fun e w' => e = .returned (.bool (withinB (rowsOf (l.rs.l[k]).bk.l).flatten 0 (boundR l.ts ((l.rs.l.map RgR.rg).take k)))) ∧ Upd [] W' w'))
        have HLF : Hid (lenL (rowsOf (l.rs.l[k]).bk.l) = (rowsOf (l.rs.l[k]).bk.l).flatten.length) := by show _ = _; simp [lenL, List.length_flatten]
        generalize OkAt l.ts (l.rs.l.map RgR.rg) k (l.rs.l[k]).rg = OKK at *
        have HBO2 := Lib.hid hbo
        unfold encR at HVK HEK
        have e0 : lenL (l.rs.l[k]).rg.bs = lenL (rowsOf (l.rs.l[k]).bk.l) := rfl
        rw [e0] at hlek
        clear e0 hD
        generalize (rowsOf (l.rs.l[k]).bk.l).flatten = its at *
        generalize lenL (rowsOf (l.rs.l[k]).bk.l) = tot at *
        generalize hbk : boundR l.ts ((l.rs.l.map RgR.rg).take k) = bk at *
        generalize endT (l.rs.l[k]).rg = en at *
        generalize validR (l.rs.l[k]).rg = vk at *
        generalize withinB its 0 bk = wk at *
        generalize (l.rs.l[k]).bk.l.length = y at *
        generalize (l.rs.l[k]).bk.ad = yad at *
        generalize (l.rs.l[k]).bk.cap = yc at *
        generalize (l.rs.l[k]).fr = yf at *
        generalize (l.rs.l[k]).wd = yw at *
        generalize (l.rs.l[k]).cu = yu at *
        obtain ⟨c0, c1, c2, c3, c4, c5⟩ := cells6 (HUR.out.at HB0.out (by simp))
        clear hbk
        go_upto_region 6 with (fail)
        have bq := heap_alloc1 wr (.cells #[.int .i64 yf, .int .i64 yw, .int .i64 yu, .slice yad y yc] 43)
        have hu4 := (Upd.refl [] wr).alloc (.cells #[.int .i64 yf, .int .i64 yw, .int .i64 yu, .slice yad y yc] 43)
        generalize wr.alloc (.cells #[.int .i64 yf, .int .i64 yw, .int .i64 yu, .slice yad y yc] 43) = W4 at *
        generalize wr.heap.size = Q at *
        have q0 := hu4.at (HUR.out.at HB0.out (by simp)) (by simp)
        clear x0 x1 x2 x3 c0 c1 c2 c3 c4 c5
        obtain ⟨c0, c1, c2, c3, c4, c5⟩ := cells6 q0
        have HU4 := Lib.hid hu4; have HQ4 := Lib.hid bq
        try rw [← HBO2.out]
        clear hbo q0 bq hu4
        go_upto_region 7 with (go_at_call 42; (with_reducible refine (HBK.out _ HU4.out).mono ?_); rintro e wb ⟨rfl, hub⟩)
        have HUB := Lib.hid (HU4.out.thn hub)
        have HQ5 := Lib.hid (hub.at HQ4.out (by simp))
        clear c0 c1 c2 c3 c4 c5 hub
        obtain ⟨x0, x1, x2, x3⟩ := cells4 HQ5.out
        cases vk with
        | false =>
          have HE := Lib.hid (HFK.out (fun ho => by have := (HOA.out.1 ho).1; simp at this))
          go_wp2_with (go_at_call 43; (with_reducible refine (HVK.out _ HUB.out).mono ?_); rintro e wc ⟨rfl, huc⟩; have HUC := Lib.hid (HUB.out.thn huc); clear huc)
          go_ret
          exact ⟨ret_bool HE.out.symm, (HU.out.thn HUR.out).thn HUC.out⟩
        | true =>
          have HEK2 := Lib.hid (fun W => HEK.out (by first | rfl | trivial) W)
          by_cases hen : bk ≤ en
          · have hde : decide (en < bk) = false := decide_eq_false (by omega)
            cases wk with
            | true =>
              have HON := Lib.hid (HNX.out (HOA.out.2 ⟨by first | rfl | trivial, hen, by first | rfl | trivial⟩))
              go_wp2_with (first
                | (go_at_call 43; (with_reducible refine (HVK.out _ HUB.out).mono ?_); rintro e wc ⟨rfl, huc⟩; have HUC := Lib.hid (HUB.out.thn huc); obtain ⟨x0, x1, x2, x3⟩ := cells4 (huc.at HQ5.out (by simp)); have HQ6 := Lib.hid (huc.at HQ5.out (by simp)); clear huc)
                | (go_at_call 32; (with_reducible refine (HEK2.out _).mono ?_); rintro e wd ⟨rfl, hud⟩; have HUD := Lib.hid (HUC.out.thn hud); obtain ⟨x0, x1, x2, x3⟩ := cells4 (hud.at HQ6.out (by simp)); clear hud)
                | (go_at_call 44; (with_reducible refine (HCK.out _ HUD.out).mono ?_); rintro e we ⟨va, vc, rfl, hown, hue⟩; have HUE := Lib.hid (HUD.out.thn hue); have HWN := Lib.hid (HWK.out va vc _ we (has_own (s := ⟨its, va, vc⟩) (by simp only [SlR.v]; rw [← HLF.out]; exact hown)).row HLF.out hlek); clear hown hue)
                | (go_at_call 41; (with_reducible refine HWN.out.mono ?_); rintro e wg ⟨rfl, hug⟩; have HUG := Lib.hid (HUE.out.thn hug); clear hug))
              go_roundg (n - (k + 1))
              case measure => omega
              case rel => exact ⟨k + 1, by go_num, by omega, HUR.out.thn HUG.out, HON.out⟩
            | false =>
              have HE := Lib.hid (HFK.out (fun ho => by have := (HOA.out.1 ho).2.2; simp at this))
              go_wp2_with (first
                | (go_at_call 43; (with_reducible refine (HVK.out _ HUB.out).mono ?_); rintro e wc ⟨rfl, huc⟩; have HUC := Lib.hid (HUB.out.thn huc); obtain ⟨x0, x1, x2, x3⟩ := cells4 (huc.at HQ5.out (by simp)); have HQ6 := Lib.hid (huc.at HQ5.out (by simp)); clear huc)
                | (go_at_call 32; (with_reducible refine (HEK2.out _).mono ?_); rintro e wd ⟨rfl, hud⟩; have HUD := Lib.hid (HUC.out.thn hud); obtain ⟨x0, x1, x2, x3⟩ := cells4 (hud.at HQ6.out (by simp)); clear hud)
                | (go_at_call 44; (with_reducible refine (HCK.out _ HUD.out).mono ?_); rintro e we ⟨va, vc, rfl, hown, hue⟩; have HUE := Lib.hid (HUD.out.thn hue); have HWN := Lib.hid (HWK.out va vc _ we (has_own (s := ⟨its, va, vc⟩) (by simp only [SlR.v]; rw [← HLF.out]; exact hown)).row HLF.out hlek); clear hown hue)
                | (go_at_call 41; (with_reducible refine HWN.out.mono ?_); rintro e wg ⟨rfl, hug⟩; have HUG := Lib.hid (HUE.out.thn hug); clear hug))
              go_ret
              exact ⟨ret_bool HE.out.symm, (HU.out.thn HUR.out).thn HUG.out⟩
          · have hde : decide (en < bk) = true := decide_eq_true (by omega)
            have HE := Lib.hid (HFK.out (fun ho => hen (HOA.out.1 ho).2.1))
            go_wp2_with (first
              | (go_at_call 43; (with_reducible refine (HVK.out _ HUB.out).mono ?_); rintro e wc ⟨rfl, huc⟩; have HUC := Lib.hid (HUB.out.thn huc); obtain ⟨x0, x1, x2, x3⟩ := cells4 (huc.at HQ5.out (by simp)); clear huc)
              | (go_at_call 32; (with_reducible refine (HEK2.out _).mono ?_); rintro e wd ⟨rfl, hud⟩; have HUD := Lib.hid (HUC.out.thn hud); clear hud))
            go_ret
            exact ⟨ret_bool HE.out.symm, (HU.out.thn HUR.out).thn HUD.out⟩
      · have hltz : ¬ (k : Int) < (n : Int) := by omega
        have HE := Lib.hid (HT.out (by have := HN.out; omega) (fun j hj => HOK.out j hj (by have := HN.out; omega)))
        go_wp2_with fail
        go_ret
        exact ⟨ret_bool HE.out.symm, HU.out.thn HUR.out⟩
  · have hd4 : decide ((4 : Int) < (n : Int)) = true := decide_eq_true (by omega)
    have HE := Lib.hid (H4.out h4)
    go_wp2_with fail
    go_ret
    exact ⟨ret_bool HE.out.symm, HU.out⟩
end Go.Proofs.Ytneodiemgemhfaa
