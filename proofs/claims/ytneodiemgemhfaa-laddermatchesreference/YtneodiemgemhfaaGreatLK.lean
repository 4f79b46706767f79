/- Contract: the program's validRungs. -/
/- Contract: the program's Valid. -/
import Derived.Test.YtneodiemgemhfaaGreatLH
import Derived.Test.YtneodiemgemhfaaGreatLE
namespace Go.Proofs.YtneodiemgemhfaaGreat
open Go.RowKit Go.Lib

/-- What Valid asks of rung k. -/
structure OkAt (ts : Int) (rs : List Rg) (k : Nat) (r : Rg) : Prop where
  good : validR r = true
  ends : boundR ts (rs.take k) ≤ endT r
  its : withinB (itsR r) 0 (boundR ts (rs.take k)) = true
def RsOk (l : Ld) : Prop := l.rs.length ≤ 4 ∧ ∀ k (h : k < l.rs.length), OkAt l.ts l.rs k l.rs[k]
open Classical in
noncomputable def rsB (l : Ld) : Bool := decide (RsOk l)
theorem rsB_yes {l : Ld} : rsB l = true ↔ RsOk l := by simp [rsB]
theorem rsB_no {l : Ld} : rsB l = false ↔ ¬ RsOk l := by simp [rsB]
set_option maxRecDepth 100000 in
set_option maxHeartbeats 8000000 in
theorem validRungs_has (l : LdR) (w : World) (h : HasD w l) (hl : l.rs.l.length ≤ 1000) (hb : ∀ r ∈ l.rs.l, r.bk.l.length ≤ 1000) (hi : ∀ r ∈ l.rs.l, ∀ s ∈ r.bk.l, s.l.length ≤ 100000) (hs : ∀ r ∈ l.rs.l, lenL r.rg.bs ≤ 100000) :
    Calls Tryz.prog 36 #[encD l] w fun e w' => e = .returned (.bool (rsB l.ld)) ∧ Upd [] w w' := by
  have HD := Lib.hid h
  have HBO : Hid (∀ k, k ≤ l.rs.l.length → (∀ j (hj : j < l.rs.l.length), j < k → GoodR (l.rs.l[j]).rg) → ∀ W, Upd [] w W → Calls Tryz.prog 63 #[encD l, .int .i64 k] W fun e w' => e = .returned (.int .i64 (boundR l.ts ((l.rs.l.map RgR.rg).take k))) ∧ Upd [] W w') := fun k hk hg W hu => bound_has l k W (h.stay hu) hk (by omega) hg
  have HVA := Lib.hid (fun k (hk : k < l.rs.l.length) W (hu : Upd [] w W) => Valid_has l.rs.l[k] W ((h.stay hu).rg _ (List.getElem_mem hk)) (by have := hb _ (List.getElem_mem hk); omega) (fun s hs => by have := hi _ (List.getElem_mem hk) s hs; omega))
  have HEN := Lib.hid (fun k (hk : k < l.rs.l.length) (hg : validR (l.rs.l[k]).rg = true) W => End_has l.rs.l[k] W (validR_yes.1 hg))
  have HCO := Lib.hid (fun k (hk : k < l.rs.l.length) W (hu : Upd [] w W) => Concat_has (l.rs.l[k]).bk.l (l.rs.l[k]).bk.ad (l.rs.l[k]).bk.cap W ((h.stay hu).rg _ (List.getElem_mem hk)).bk.row ((h.stay hu).rg _ (List.getElem_mem hk)).its (hb _ (List.getElem_mem hk)) (hs _ (List.getElem_mem hk)))
  have HLE := Lib.hid (fun k (hk : k < l.rs.l.length) => hs _ (List.getElem_mem hk))
  have HT : Hid (l.rs.l.length ≤ 4 → (∀ k (hk : k < l.rs.l.length), OkAt l.ts (l.rs.l.map RgR.rg) k (l.rs.l[k]).rg) → rsB l.ld = true) := fun h4 ha => rsB_yes.2 ⟨by simpa [LdR.ld] using h4, fun k hk => by have := ha k (by simpa [LdR.ld] using hk); simpa [LdR.ld] using this⟩
  have HF : Hid (∀ k (hk : k < l.rs.l.length), ¬ OkAt l.ts (l.rs.l.map RgR.rg) k (l.rs.l[k]).rg → rsB l.ld = false) := fun k hk hn => rsB_no.2 (fun ha => hn (by have := ha.2 k (by simpa [LdR.ld] using hk); simpa [LdR.ld] using this))
  have H4 : Hid (¬ l.rs.l.length ≤ 4 → rsB l.ld = false) := fun h4 => rsB_no.2 (fun ha => h4 (by have := ha.1; simpa [LdR.ld] using this))
  generalize rsB l.ld = r at *
  have HLL : Hid (encD l = .agg #[.int .i64 l.ts, .slice l.top.ad l.top.l.length l.top.cap, .slice l.rs.ad l.rs.l.length l.rs.cap, .slice l.bot.ad l.bot.l.length l.bot.cap, .int .i64 l.mv, .int .i64 l.cp]) := rfl
  rw [HLL.out] at HBO ⊢
  obtain ⟨n, hn⟩ : ∃ n, n = l.rs.l.length := ⟨_, rfl⟩
  have HN := Lib.hid hn
  rw [← hn] at hl H4 ⊢
  clear h hb hi hs hn HLL
  go_enter Tryz.func36, Tryz.ntmps36
  go_upto_region 1 with (fail)
  have hu := (Upd.refl [] w).alloc (.cells #[.int .i64 l.ts, .slice l.top.ad l.top.l.length l.top.cap, .slice l.rs.ad n l.rs.cap, .slice l.bot.ad l.bot.l.length l.bot.cap, .int .i64 l.mv, .int .i64 l.cp] 25)
  have b0 := heap_alloc1 w (.cells #[.int .i64 l.ts, .slice l.top.ad l.top.l.length l.top.cap, .slice l.rs.ad n l.rs.cap, .slice l.bot.ad l.bot.l.length l.bot.cap, .int .i64 l.mv, .int .i64 l.cp] 25)
  generalize w.alloc (.cells #[.int .i64 l.ts, .slice l.top.ad l.top.l.length l.top.cap, .slice l.rs.ad n l.rs.cap, .slice l.bot.ad l.bot.l.length l.bot.cap, .int .i64 l.mv, .int .i64 l.cp] 25) = W at *
  generalize w.heap.size = P at *
  have HU := Lib.hid hu; have HB0 := Lib.hid b0
  obtain ⟨c0, c1, c2, c3, c4, c5⟩ := cells6 b0
  clear hu b0
  by_cases h4 : n ≤ 4
  · have hd4 : decide ((4 : Int) < (n : Int)) = false := decide_eq_false (by omega)
    go_wp2_with fail
    clear c0 c1 c2 c3 c4 c5
    go_loopg [13] n (fun gk vi wr => ∃ k : Nat, vi = .int .i64 k ∧ k + gk = n ∧ Hid (Upd [] W wr) ∧ Hid (∀ j (hj : j < l.rs.l.length), j < k → OkAt l.ts (l.rs.l.map RgR.rg) j (l.rs.l[j]).rg))
    case atStart => exact ⟨0, rfl, by omega, Upd.refl _ _, fun j hj hk => by omega⟩
    case round =>
      obtain ⟨k, rfl, hkg, HUR, HOK⟩ := hrel
      by_cases hlt : k < n
      · have hltz : (k : Int) < (n : Int) := by omega
        have hk1 : k < l.rs.l.length := by have := HN.out; omega
        have hD := HD.out.stay (HU.out.thn HUR.out)
        obtain ⟨b, off, hbo, x0, x1, x2, x3⟩ := hD.rs.row.rung k hk1
        have HBK := Lib.hid (fun W' (hu : Upd [] wr W') => HBO.out k (by have := HN.out; omega) (fun j hj hjk => validR_yes.1 (HOK.out j hj hjk).good) W' ((HU.out.thn HUR.out).thn hu))
        rw [← HN.out] at HBK
        have HVK := Lib.hid (fun W' (hu : Upd [] wr W') => HVA.out k hk1 W' ((HU.out.thn HUR.out).thn hu))
        have HEK := Lib.hid (HEN.out k hk1)
        have HCK := Lib.hid (fun W' (hu : Upd [] wr W') => HCO.out k hk1 W' ((HU.out.thn HUR.out).thn hu))
        have HFK := Lib.hid (HF.out k hk1)
        have hlek := HLE.out k hk1
        have HNX : Hid (OkAt l.ts (l.rs.l.map RgR.rg) k (l.rs.l[k]).rg → ∀ j (hj : j < l.rs.l.length), j < k + 1 → OkAt l.ts (l.rs.l.map RgR.rg) j (l.rs.l[j]).rg) := fun ho j hj hjk => by
          by_cases e : j = k
          · subst e; exact ho
          · exact HOK.out j hj (by omega)
        have HOA : Hid (OkAt l.ts (l.rs.l.map RgR.rg) k (l.rs.l[k]).rg ↔ validR (l.rs.l[k]).rg = true ∧ boundR l.ts ((l.rs.l.map RgR.rg).take k) ≤ endT (l.rs.l[k]).rg ∧ withinB (rowsOf (l.rs.l[k]).bk.l).flatten 0 (boundR l.ts ((l.rs.l.map RgR.rg).take k)) = true) := ⟨fun h => ⟨h.good, h.ends, h.its⟩, fun h => ⟨h.1, h.2.1, h.2.2⟩⟩
        have HWK := Lib.hid (fun va vc m W' (hr : Row LI W' va (rowsOf (l.rs.l[k]).bk.l).flatten) (hm : m = (rowsOf (l.rs.l[k]).bk.l).flatten.length) (hm2 : m ≤ 100000) => (by subst hm; exact within_has va vc _ 0 (boundR l.ts ((l.rs.l.map RgR.rg).take k)) W' hr (by omega) : Calls Tryz.prog 62 #[.slice va m vc, .int .i64 0, .int .i64 (boundR l.ts ((l.rs.l.map RgR.rg).take k))] W' fun e w' => e = .returned (.bool (withinB (rowsOf (l.rs.l[k]).bk.l).flatten 0 (boundR l.ts ((l.rs.l.map RgR.rg).take k)))) ∧ Upd [] W' w'))
        have HLF : Hid (lenL (rowsOf (l.rs.l[k]).bk.l) = (rowsOf (l.rs.l[k]).bk.l).flatten.length) := by show _ = _; simp [lenL, List.length_flatten]
        generalize OkAt l.ts (l.rs.l.map RgR.rg) k (l.rs.l[k]).rg = OKK at *
        have HBO2 := Lib.hid hbo
        unfold encR at HVK HEK
        have e0 : lenL (l.rs.l[k]).rg.bs = lenL (rowsOf (l.rs.l[k]).bk.l) := rfl
        rw [e0] at hlek
        clear e0 hD
        generalize (rowsOf (l.rs.l[k]).bk.l).flatten = its at *
        generalize lenL (rowsOf (l.rs.l[k]).bk.l) = tot at *
        generalize hbk : boundR l.ts ((l.rs.l.map RgR.rg).take k) = bk at *
        generalize endT (l.rs.l[k]).rg = en at *
        generalize validR (l.rs.l[k]).rg = vk at *
        generalize withinB its 0 bk = wk at *
        generalize (l.rs.l[k]).bk.l.length = y at *
        generalize (l.rs.l[k]).bk.ad = yad at *
        generalize (l.rs.l[k]).bk.cap = yc at *
        generalize (l.rs.l[k]).fr = yf at *
        generalize (l.rs.l[k]).wd = yw at *
        generalize (l.rs.l[k]).cu = yu at *
        obtain ⟨c0, c1, c2, c3, c4, c5⟩ := cells6 (HUR.out.at HB0.out (by simp))
        clear hbk
        go_upto_region 6 with (fail)
        have bq := heap_alloc1 wr (.cells #[.int .i64 yf, .int .i64 yw, .int .i64 yu, .slice yad y yc] 53)
        have hu4 := (Upd.refl [] wr).alloc (.cells #[.int .i64 yf, .int .i64 yw, .int .i64 yu, .slice yad y yc] 53)
        generalize wr.alloc (.cells #[.int .i64 yf, .int .i64 yw, .int .i64 yu, .slice yad y yc] 53) = W4 at *
        generalize wr.heap.size = Q at *
        have q0 := hu4.at (HUR.out.at HB0.out (by simp)) (by simp)
        clear x0 x1 x2 x3 c0 c1 c2 c3 c4 c5
        obtain ⟨c0, c1, c2, c3, c4, c5⟩ := cells6 q0
        have HU4 := Lib.hid hu4; have HQ4 := Lib.hid bq
        try rw [← HBO2.out]
        clear hbo q0 bq hu4
        go_upto_region 7 with (go_at_call 63; (with_reducible refine (HBK.out _ HU4.out).mono ?_); rintro e wb ⟨rfl, hub⟩)
        have HUB := Lib.hid (HU4.out.thn hub)
        have HQ5 := Lib.hid (hub.at HQ4.out (by simp))
        clear c0 c1 c2 c3 c4 c5 hub
        obtain ⟨x0, x1, x2, x3⟩ := cells4 HQ5.out
        cases vk with
        | false =>
          have HE := Lib.hid (HFK.out (fun ho => by have := (HOA.out.1 ho).1; simp at this))
          go_wp2_with (go_at_call 64; (with_reducible refine (HVK.out _ HUB.out).mono ?_); rintro e wc ⟨rfl, huc⟩; have HUC := Lib.hid (HUB.out.thn huc); clear huc)
          go_ret
          exact ⟨ret_bool HE.out.symm, (HU.out.thn HUR.out).thn HUC.out⟩
        | true =>
          have HEK2 := Lib.hid (fun W => HEK.out (by first | rfl | trivial) W)
          by_cases hen : bk ≤ en
          · have hde : decide (en < bk) = false := decide_eq_false (by omega)
            cases wk with
            | true =>
              have HON := Lib.hid (HNX.out (HOA.out.2 ⟨by first | rfl | trivial, hen, by first | rfl | trivial⟩))
              go_wp2_with (first
                | (go_at_call 64; (with_reducible refine (HVK.out _ HUB.out).mono ?_); rintro e wc ⟨rfl, huc⟩; have HUC := Lib.hid (HUB.out.thn huc); obtain ⟨x0, x1, x2, x3⟩ := cells4 (huc.at HQ5.out (by simp)); have HQ6 := Lib.hid (huc.at HQ5.out (by simp)); clear huc)
                | (go_at_call 65; (with_reducible refine (HEK2.out _).mono ?_); rintro e wd ⟨rfl, hud⟩; have HUD := Lib.hid (HUC.out.thn hud); obtain ⟨x0, x1, x2, x3⟩ := cells4 (hud.at HQ6.out (by simp)); clear hud)
                | (go_at_call 66; (with_reducible refine (HCK.out _ HUD.out).mono ?_); rintro e we ⟨va, vc, rfl, hown, hue⟩; have HUE := Lib.hid (HUD.out.thn hue); have HWN := Lib.hid (HWK.out va vc _ we (has_own (s := ⟨its, va, vc⟩) (by simp only [SlR.v]; rw [← HLF.out]; exact hown)).row HLF.out hlek); clear hown hue)
                | (go_at_call 62; (with_reducible refine HWN.out.mono ?_); rintro e wg ⟨rfl, hug⟩; have HUG := Lib.hid (HUE.out.thn hug); clear hug))
              go_roundg (n - (k + 1))
              case measure => omega
              case rel => exact ⟨k + 1, by go_num, by omega, HUR.out.thn HUG.out, HON.out⟩
            | false =>
              have HE := Lib.hid (HFK.out (fun ho => by have := (HOA.out.1 ho).2.2; simp at this))
              go_wp2_with (first
                | (go_at_call 64; (with_reducible refine (HVK.out _ HUB.out).mono ?_); rintro e wc ⟨rfl, huc⟩; have HUC := Lib.hid (HUB.out.thn huc); obtain ⟨x0, x1, x2, x3⟩ := cells4 (huc.at HQ5.out (by simp)); have HQ6 := Lib.hid (huc.at HQ5.out (by simp)); clear huc)
                | (go_at_call 65; (with_reducible refine (HEK2.out _).mono ?_); rintro e wd ⟨rfl, hud⟩; have HUD := Lib.hid (HUC.out.thn hud); obtain ⟨x0, x1, x2, x3⟩ := cells4 (hud.at HQ6.out (by simp)); clear hud)
                | (go_at_call 66; (with_reducible refine (HCK.out _ HUD.out).mono ?_); rintro e we ⟨va, vc, rfl, hown, hue⟩; have HUE := Lib.hid (HUD.out.thn hue); have HWN := Lib.hid (HWK.out va vc _ we (has_own (s := ⟨its, va, vc⟩) (by simp only [SlR.v]; rw [← HLF.out]; exact hown)).row HLF.out hlek); clear hown hue)
                | (go_at_call 62; (with_reducible refine HWN.out.mono ?_); rintro e wg ⟨rfl, hug⟩; have HUG := Lib.hid (HUE.out.thn hug); clear hug))
              go_ret
              exact ⟨ret_bool HE.out.symm, (HU.out.thn HUR.out).thn HUG.out⟩
          · have hde : decide (en < bk) = true := decide_eq_true (by omega)
            have HE := Lib.hid (HFK.out (fun ho => hen (HOA.out.1 ho).2.1))
            go_wp2_with (first
              | (go_at_call 64; (with_reducible refine (HVK.out _ HUB.out).mono ?_); rintro e wc ⟨rfl, huc⟩; have HUC := Lib.hid (HUB.out.thn huc); obtain ⟨x0, x1, x2, x3⟩ := cells4 (huc.at HQ5.out (by simp)); clear huc)
              | (go_at_call 65; (with_reducible refine (HEK2.out _).mono ?_); rintro e wd ⟨rfl, hud⟩; have HUD := Lib.hid (HUC.out.thn hud); clear hud))
            go_ret
            exact ⟨ret_bool HE.out.symm, (HU.out.thn HUR.out).thn HUD.out⟩
      · have hltz : ¬ (k : Int) < (n : Int) := by omega
        have HE := Lib.hid (HT.out (by have := HN.out; omega) (fun j hj => HOK.out j hj (by have := HN.out; omega)))
        go_wp2_with fail
        go_ret
        exact ⟨ret_bool HE.out.symm, HU.out.thn HUR.out⟩
  · have hd4 : decide ((4 : Int) < (n : Int)) = true := decide_eq_true (by omega)
    have HE := Lib.hid (H4.out h4)
    go_wp2_with fail
    go_ret
    exact ⟨ret_bool HE.out.symm, HU.out⟩
end Go.Proofs.YtneodiemgemhfaaGreat
namespace Go.Proofs.YtneodiemgemhfaaGreat
open Go.RowKit Go.Lib

theorem okRs_at : ∀ (rs : List Rg) (b : Int), OkRs b rs ↔ ∀ k (h : k < rs.length), OkR (boundR b (rs.take k)) rs[k]
  | [], b => by simp [OkRs]
  | r :: rs, b => by
    have ih := okRs_at rs (min b (curT r))
    simp only [OkRs, ih]
    constructor
    · rintro ⟨h1, h2⟩ k hk
      cases k with
      | zero => exact h1
      | succ k => exact h2 k (by simpa using hk)
    · intro h
      exact ⟨h 0 (by simp), fun k hk => h (k + 1) (by simpa using hk)⟩
noncomputable def validD (l : Ld) : Bool := decide (0 ≤ l.mv) && (decide (0 ≤ l.cp) && (topB l && (rsB l && (botB l && distinctB (itemsL l)))))
theorem validD_yes {l : Ld} : validD l = true ↔ GoodL l := by
  unfold validD topB botB
  simp only [Bool.and_eq_true, decide_eq_true_eq, withinB_yes, rsB_yes, strictB_yes, distinctB_yes]
  constructor
  · rintro ⟨h1, h2, ⟨⟨h3, h4⟩, h5⟩, ⟨h6, h7⟩, ⟨h8, h9⟩, h10⟩
    have hb : ∀ k, boundR l.ts (l.rs.take k) ≤ l.ts := fun k => (boundR_le _ _).1
    refine ⟨h3, by unfold MaxT; omega, fun it hit => by have := h5 it hit; unfold MaxT; omega, h6, (okRs_at _ _).2 fun k hk => ?_, fun it hit => ?_, h8, h10, h1, h2⟩
    · obtain ⟨o1, o2, o3⟩ := h7 k hk
      exact ⟨validR_yes.1 o1, o2, fun it hit => by have h := withinB_yes.1 o3 it hit; have h2 := hb k; unfold MaxT; omega⟩
    · have h := h9 it hit
      have h2 := (boundR_le l.rs l.ts).1
      unfold MaxT
      omega
  · intro h
    have hts := h.ts1
    have hrs := (okRs_at _ _).1 h.rs
    unfold MaxT at hts
    refine ⟨h.mv0, h.cp0, ⟨⟨h.ts0, by omega⟩, fun it hit => by have := h.top it hit; unfold MaxT at this; omega⟩, ⟨h.len, fun k hk => ?_⟩, ⟨h.srt, fun it hit => by have := h.bot it hit; omega⟩, h.dist⟩
    obtain ⟨o1, o2, o3⟩ := hrs k hk
    exact ⟨validR_yes.2 o1, o2, withinB_yes.2 fun it hit => ⟨(o1.its_lo hit).2, (o3 it hit).1⟩⟩
/-- How great a queue may be for Valid. -/
structure Sz (l : LdR) : Prop where
  top : l.top.l.length ≤ 100000
  bot : l.bot.l.length ≤ 100000
  rs : l.rs.l.length ≤ 1000
  bk : ∀ r ∈ l.rs.l, r.bk.l.length ≤ 1000
  its : ∀ r ∈ l.rs.l, ∀ s ∈ r.bk.l, s.l.length ≤ 100000
  ln : ∀ r ∈ l.rs.l, lenL r.rg.bs ≤ 100000
  all : (itemsL l.ld).length ≤ 100000
theorem Fit.sz {l : LdR} (h : Fit l) : Sz l := by
  have h1 := h.sizes
  refine ⟨h1.1, h1.2.2, by omega, fun r hr => by rw [h.h8 r hr]; decide, h.its, fun r hr => ?_, by rw [← lenD_its]; exact h.len⟩
  exact Nat.le_trans (len_rs (l := l.ld) (List.mem_map_of_mem hr)) h.len
set_option maxRecDepth 100000 in
set_option maxHeartbeats 8000000 in
theorem LValid_has (l : LdR) (w : World) (h : HasD w l) (hz : Sz l) :
    Calls Tryz.prog 16 #[encD l] w fun e w' => e = .returned (.bool (validD l.ld)) ∧ Upd [] w w' := by
  have HTO := Lib.hid (fun W (hu : Upd [] w W) => validTop_has l W (h.stay hu) (by have := hz.top; omega))
  have HRU := Lib.hid (fun W (hu : Upd [] w W) => validRungs_has l W (h.stay hu) hz.rs hz.bk hz.its hz.ln)
  have HBT : Hid (rsB l.ld = true → ∀ W, Upd [] w W → Calls Tryz.prog 37 #[encD l] W fun e w' => e = .returned (.bool (botB l.ld)) ∧ Upd [] W w') := fun hr W hu => validBottom_has l W (h.stay hu) (by have := hz.bot; omega) (by have := hz.rs; omega) (fun r hrm => by
    obtain ⟨i, hi, rfl⟩ := List.mem_iff_getElem.1 hrm
    have := (rsB_yes.1 hr).2 i (by simpa [LdR.ld] using hi)
    have := validR_yes.1 this.good
    simpa [LdR.ld] using this)
  have HIT := Lib.hid (fun W (hu : Upd [] w W) => items_all l W (h.stay hu) hz.rs hz.bk hz.all)
  have HDI := Lib.hid (fun b0 va vc W (ho : World.ownsRow W b0 36 3 (.slice va (itemsL l.ld).length vc) (itemsL l.ld).length (LI.flat (itemsL l.ld))) => distinct_has b0 va vc _ _ W rfl ho hz.all)
  have HV : Hid (validD l.ld = (decide (0 ≤ l.mv) && (decide (0 ≤ l.cp) && (topB l.ld && (rsB l.ld && (botB l.ld && distinctB (itemsL l.ld))))))) := rfl
  rw [HV.out]
  generalize topB l.ld = v1 at *
  generalize hv2 : rsB l.ld = v2 at *
  generalize botB l.ld = v3 at *
  generalize distinctB (itemsL l.ld) = v4 at *
  generalize (itemsL l.ld).length = m at *
  generalize LI.flat (itemsL l.ld) = fl at *
  have HLL : Hid (encD l = .agg #[.int .i64 l.ts, .slice l.top.ad l.top.l.length l.top.cap, .slice l.rs.ad l.rs.l.length l.rs.cap, .slice l.bot.ad l.bot.l.length l.bot.cap, .int .i64 l.mv, .int .i64 l.cp]) := rfl
  rw [HLL.out] at HTO HRU HBT HIT ⊢
  clear h hz HV HLL hv2
  go_enter Tryz.func16, Tryz.ntmps16
  go_upto_region 1 with (fail)
  have hu := (Upd.refl [] w).alloc (.cells #[.int .i64 l.ts, .slice l.top.ad l.top.l.length l.top.cap, .slice l.rs.ad l.rs.l.length l.rs.cap, .slice l.bot.ad l.bot.l.length l.bot.cap, .int .i64 l.mv, .int .i64 l.cp] 25)
  have b0 := heap_alloc1 w (.cells #[.int .i64 l.ts, .slice l.top.ad l.top.l.length l.top.cap, .slice l.rs.ad l.rs.l.length l.rs.cap, .slice l.bot.ad l.bot.l.length l.bot.cap, .int .i64 l.mv, .int .i64 l.cp] 25)
  generalize w.alloc (.cells #[.int .i64 l.ts, .slice l.top.ad l.top.l.length l.top.cap, .slice l.rs.ad l.rs.l.length l.rs.cap, .slice l.bot.ad l.bot.l.length l.bot.cap, .int .i64 l.mv, .int .i64 l.cp] 25) = W at *
  generalize hP : w.heap.size = P at *
  have HP := Lib.hid hP
  have HU := Lib.hid hu; have HB0 := Lib.hid b0
  obtain ⟨c0, c1, c2, c3, c4, c5⟩ := cells6 b0
  clear hu b0 hP
  by_cases h1 : 0 ≤ l.mv
  · have d1 : decide (0 ≤ l.mv) = true := decide_eq_true h1
    by_cases h2 : 0 ≤ l.cp
    · have d2 : decide (0 ≤ l.cp) = true := decide_eq_true h2
      cases v1 with
      | false =>
        go_wp2_with (go_at_call 35; (with_reducible refine (HTO.out _ HU.out).mono ?_); rintro e w1 ⟨rfl, hu1⟩; have HU1 := Lib.hid (HU.out.thn hu1); clear hu1)
        go_ret
        exact ⟨ret_bool (by first | rfl | simp), HU1.out⟩
      | true =>
        cases v2 with
        | false =>
          go_wp2_with (first
            | (go_at_call 35; (with_reducible refine (HTO.out _ HU.out).mono ?_); rintro e w1 ⟨rfl, hu1⟩; obtain ⟨c0, c1, c2, c3, c4, c5⟩ := cells6 (hu1.at HB0.out (by simp)); have HU1 := Lib.hid (HU.out.thn hu1); clear hu1)
            | (go_at_call 36; (with_reducible refine (HRU.out _ HU1.out).mono ?_); rintro e w2 ⟨rfl, hu2⟩; have HU2 := Lib.hid (HU1.out.thn hu2); clear hu2))
          go_ret
          exact ⟨ret_bool (by first | rfl | simp [d1, d2]), HU2.out⟩
        | true =>
          have HBT2 := Lib.hid (HBT.out (by first | rfl | trivial))
          cases v3 with
          | false =>
            go_wp2_with (first
              | (go_at_call 35; (with_reducible refine (HTO.out _ HU.out).mono ?_); rintro e w1 ⟨rfl, hu1⟩; obtain ⟨c0, c1, c2, c3, c4, c5⟩ := cells6 (hu1.at HB0.out (by simp)); have HB1 := Lib.hid (hu1.at HB0.out (by simp)); have HU1 := Lib.hid (HU.out.thn hu1); clear hu1)
              | (go_at_call 36; (with_reducible refine (HRU.out _ HU1.out).mono ?_); rintro e w2 ⟨rfl, hu2⟩; obtain ⟨c0, c1, c2, c3, c4, c5⟩ := cells6 (hu2.at HB1.out (by simp)); have HU2 := Lib.hid (HU1.out.thn hu2); clear hu2)
              | (go_at_call 37; (with_reducible refine (HBT2.out _ HU2.out).mono ?_); rintro e w3 ⟨rfl, hu3⟩; have HU3 := Lib.hid (HU2.out.thn hu3); clear hu3))
            go_ret
            exact ⟨ret_bool (by first | rfl | simp [d1, d2]), HU3.out⟩
          | true =>
            go_wp2_with (first
              | (go_at_call 35; (with_reducible refine (HTO.out _ HU.out).mono ?_); rintro e w1 ⟨rfl, hu1⟩; obtain ⟨c0, c1, c2, c3, c4, c5⟩ := cells6 (hu1.at HB0.out (by simp)); have HB1 := Lib.hid (hu1.at HB0.out (by simp)); have HU1 := Lib.hid (HU.out.thn hu1); clear hu1)
              | (go_at_call 36; (with_reducible refine (HRU.out _ HU1.out).mono ?_); rintro e w2 ⟨rfl, hu2⟩; obtain ⟨c0, c1, c2, c3, c4, c5⟩ := cells6 (hu2.at HB1.out (by simp)); have HB2 := Lib.hid (hu2.at HB1.out (by simp)); have HU2 := Lib.hid (HU1.out.thn hu2); clear hu2)
              | (go_at_call 37; (with_reducible refine (HBT2.out _ HU2.out).mono ?_); rintro e w3 ⟨rfl, hu3⟩; obtain ⟨c0, c1, c2, c3, c4, c5⟩ := cells6 (hu3.at HB2.out (by simp)); have HU3 := Lib.hid (HU2.out.thn hu3); clear hu3)
              | (go_at_call 39; (with_reducible refine (HIT.out _ HU3.out).mono ?_); rintro e w4 ⟨va, vc, rfl, hown, hu4⟩; have HOW := Lib.hid hown; have HU4 := Lib.hid (HU3.out.thn hu4); have HS3 := Lib.hid HU3.out.size; clear hown hu4)
              | (go_at_call 38; (with_reducible refine (HDI.out _ va vc _ HOW.out).mono ?_); rintro e w5 ⟨rfl, hu5⟩; have HU5 := Lib.hid (HU4.out.trans hu5 (fun x hx hl => (by have h1 := own_ge HOW.out x (toList_of hx); have h2 := HS3.out; omega))); clear hu5))
            go_ret
            exact ⟨ret_bool (by first | rfl | simp [d1, d2]), HU5.out⟩
    · have d2 : decide (0 ≤ l.cp) = false := decide_eq_false h2
      go_wp2_with fail
      go_ret
      exact ⟨ret_bool (by first | rfl | simp [d1, d2]), HU.out⟩
  · have d1 : decide (0 ≤ l.mv) = false := decide_eq_false h1
    go_wp2_with fail
    go_ret
    exact ⟨ret_bool (by first | rfl | simp [d1]), HU.out⟩
end Go.Proofs.YtneodiemgemhfaaGreat
