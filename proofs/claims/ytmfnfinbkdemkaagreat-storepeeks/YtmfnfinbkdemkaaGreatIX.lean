
/- StorePeeks: the law's walk. -/
import Derived.Test.YtmfnfinbkdemkaaGreatIS
import Derived.Test.YtmfnfinbkdemkaaGreatUD
namespace Go.Proofs.YtmfnfinbkdemkaaGreat
open Go.RowKit Go.Lib
open A5

/-- Items that lie outside of the store. -/
structure KS (F : List Nat) (W : World) (s : SlR It) : Prop where
  has : HasS LI W s
  av : ∀ b ∈ F, AvS s b
theorem KS.go {F F' : List Nat} {W W' : World} {s : SlR It} (h : KS F W s) (hg : Goes F F' W W') : KS F' W' s :=
  ⟨h.has.keepL hg.1 h.av, fun b hb => (hg.2 b hb).elim (h.av b) (fun k => h.has.avoids k)⟩
theorem KS.up {F : List Nat} {W W' : World} {s : SlR It} (h : KS F W s) (hu : Upd [] W W') : KS F W' s := ⟨h.has.stay hu, h.av⟩
theorem KS.new {F : List Nat} {w W : World} {s : SlR It} (h : HasS LI W s) (hb : ∀ a, s.ad = some a → w.heap.size ≤ a.block) (hF : ∀ x ∈ F, x < w.heap.size) : KS F W s := ⟨h, fun b hbf _ a ea e => by have h1 := hb a ea; have h2 := hF b hbf; omega⟩
/-- An arena that lies outside of the store. -/
structure KA (F : List Nat) (W : World) (g : ArR) : Prop where
  has : HasA W g
  av : ∀ b ∈ F, Avoids g b
theorem KA.go {F F' : List Nat} {W W' : World} {g : ArR} (h : KA F W g) (hg : Goes F F' W W') : KA F' W' g :=
  ⟨⟨h.has.sl.keepN hg.1 (fun hn a e hm => (h.av _ hm).1 hn a e rfl), h.has.id.keepN hg.1 (fun hn a e hm => (h.av _ hm).2 hn a e rfl), h.has.sc, h.has.ic, h.has.sn, h.has.nn⟩, fun b hb => (hg.2 b hb).elim (h.av b) (fun k => A5.HasA.avoids h.has k)⟩
theorem KA.up {F : List Nat} {W W' : World} {g : ArR} (h : KA F W g) (hu : Upd [] W W') : KA F W' g := ⟨h.has.stay hu, h.av⟩
/-- Drop of the first item. -/
theorem drop_first {F : List Nat} {d : At} {s : Sto} {c n k : Nat} {w : World} {is : List Int} {l' : Ld} {x : It} (h : StaH F d s c w) (ho : OkS n k s is) (hk : k ≤ 1000) (hc : c ≤ 30000) (hp : popL s.q = (l', x, true)) :
    (Calls Tryz.prog 24 #[.pointer (some ⟨d.p, 0, none⟩), .int .i64 0] w fun e w' => e = .returned (.tuple #[]) ∧ ∃ F', StaH F' d ⟨s.a, l'⟩ (c + 1) w' ∧ Goes F F' w w') ∧ FitQ l' ∧ sortI (itemsL s.q) = x :: sortI (itemsL l') := by
  obtain ⟨i, -, -, -, ho2, -, -, hs⟩ := ho.pop (by omega) hp
  refine ⟨?_, (ho2.fitQ (by omega)).1, hs⟩
  have := HDrop h (ho.rdy (by omega)) (ho.fitQ (by omega)).1
  rw [hp] at this
  exact this
theorem pop_of_peek {l : Ld} (hg : GoodL l) {l1 : Ld} {x : It} (h : peekL l = (l1, x, true)) : ∃ l', popL l = (l', x, true) := by
  cases pop_ok hg with
  | no e p kk => rw [kk] at h; simp at h
  | yes y m p kk =>
    rw [kk] at h
    simp only [Prod.mk.injEq, and_true] at h
    exact ⟨m, by rw [p, h.2]⟩
theorem drop_first_maths {n k : Nat} {s : Sto} {is : List Int} {l' : Ld} {x : It} (ho : OkS n k s is) (hk : k ≤ 1000) (hp : popL s.q = (l', x, true)) : True ∧ FitQ l' ∧ sortI (itemsL s.q) = x :: sortI (itemsL l') := by
  obtain ⟨i, -, -, -, ho2, -, -, hs⟩ := ho.pop (by omega) hp
  exact ⟨trivial, (ho2.fitQ (by omega)).1, hs⟩
theorem items_gives {F : List Nat} {d : At} {s : Sto} {c : Nat} {w : World} (h : StaH F d s c w) (hf : FitQ s.q) {its : List It} (he : sortI (itemsL s.q) = its) : ∀ V, Upd [] w V → Calls Tryz.prog 16 #[.pointer (some ⟨d.p, 0, none⟩)] V (GivesI its V) := fun V hu => by
  have := VItems (Sta.stay h hu) hf
  rw [he] at this
  exact this
theorem same_true {its : List It} {w V : World} {va vb : Option Addr} {vc vd il : Nat} (hil : il = its.length) (h : HasS LI w ⟨its, vb, vd⟩) (hl : its.length ≤ 1000) (hv : HasS LI V ⟨its, va, vc⟩) (hu : Upd [] w V) :
    Calls Tryz.prog 19 #[.slice va il vc, .slice vb il vd] V fun e w' => e = .returned (.bool true) ∧ Upd [] V w' := by
  subst hil
  have := SameItems_has ⟨its, va, vc⟩ ⟨its, vb, vd⟩ V hv.row (h.row.stay hu) (by simp only; omega)
  simpa using this

set_option maxRecDepth 100000 in
set_option maxHeartbeats 8000000 in
theorem Peeks_any (c : Int) (ad : Option Addr) (cap : Nat) (os : List Oq) (mr : Int) (w : World) (hc : 0 ≤ c ∧ c < 256) (hO : Row LO w ad os) (hoo : ∀ o ∈ os, OkO o) (hmr : 0 ≤ mr ∧ mr < 65536) :
    Calls Tryz.prog 5 #[.int .u8 c, .slice ad os.length cap, .int .u16 mr] w fun e w' => e = .returned (.bool true) ∧ Upd [] w w' := by
  have HHD := Lib.hid (fun W => head_true W)
  obtain ⟨n, hn⟩ : ∃ n : Nat, (n : Int) = c % 12 + 1 := ⟨(c % 12 + 1).toNat, by omega⟩
  have hn1 : 1 ≤ n := by omega
  have hn2 : n ≤ 12 := by omega
  have HHE := Lib.hid (fun W => Held_has n hn1 (by omega) W)
  obtain ⟨x, hx⟩ : ∃ x, x = c % 12 := ⟨_, rfl⟩
  have hc1 : IntKind.i64.wrap c = c := by rw [IntKind.wrap_i64]; omega
  have hc2 : c.tmod 12 = x := by rw [Int.tmod_eq_emod_of_nonneg hc.1, hx]
  have hc3 : IntKind.i64.wrap (x + 1) = (n : Int) := by rw [IntKind.wrap_i64]; omega
  obtain ⟨m, hm⟩ : ∃ m, m = os.length := ⟨_, rfl⟩
  have HM := Lib.hid hm
  have HO := Lib.hid hO; have HOO := Lib.hid hoo
  rw [← hm]
  clear hO hoo hm hn hx hc
  by_cases hlong : 80 < m
  · have hlz : (80 : Int) < (m : Int) := by omega
    clear hlong
    go_enter Tryz.func5, Tryz.ntmps5
    go_wp2_with fail
    (with_reducible refine (HHD.out _).mono ?_)
    rintro e w1 ⟨rfl, hu1⟩
    have HU1 := Lib.hid hu1
    clear hu1
    go_wp2_with fail
    (with_reducible refine (HHE.out _).mono ?_)
    rintro e w2 ⟨d, rfl, F, hs, hge, hu2⟩
    have HU2 := Lib.hid (HU1.out.thn hu2)
    clear hs hge hu2
    go_wp2_with fail
    go_ret
    exact ⟨rfl, HU2.out⟩
  have hlz : ¬ (80 : Int) < (m : Int) := by omega
  have hm80 : m ≤ 80 := by omega
  clear hlong
  go_enter Tryz.func5, Tryz.ntmps5
  go_wp2_with fail
  (with_reducible refine (HHD.out _).mono ?_)
  rintro e w1 ⟨rfl, hu1⟩
  have HU1 := Lib.hid hu1
  clear hu1
  go_wp2_with fail
  (with_reducible refine (HHE.out _).mono ?_)
  rintro e w2 ⟨d, rfl, F, hs, hge, hu2⟩
  have HS0 : Hid (StaH F d (runS n (os.take 0)) (4 + 3 * 0) w2) := hs
  have HF0 : Hid (Fre w F w2) := ⟨HU1.out.thn hu2, fun x hx => Nat.le_trans HU1.out.size (hge x hx)⟩
  clear hs hge hu2
  go_wp2_with fail
  go_loopg [10] m (fun gk vi wr => ∃ k : Nat, vi = .int .i64 k ∧ k + gk = m ∧ ∃ F', Hid (StaH F' d (runS n (os.take k)) (4 + 3 * k) wr) ∧ Hid (Fre w F' wr))
  case atStart => exact ⟨0, rfl, by omega, F, HS0, HF0⟩
  case round =>
  obtain ⟨k, rfl, hkg, F', HS, HF⟩ := hrel
  by_cases hlt : k < m
  · have hltz : (k : Int) < (m : Int) := by omega
    have hk1 : k < os.length := by have := HM.out; omega
    obtain ⟨b, off, hbo, x0, x1, x2⟩ := (HO.out.stay HF.out.upd).op k hk1
    subst hbo
    have hst := Step_has HS.out (run_okS hn1 (by omega) os k (by omega) (by omega)) (by omega) (by omega) hn1 (by omega) os[k] (HOO.out _ (List.getElem_mem hk1))
    rw [← run_next hk1] at hst
    have HSTEP := Lib.hid hst
    unfold encO at HSTEP
    generalize (stepS n (runS n (os.take k)) os[k]).2 = rr at *
    generalize os[k].k = y0 at *
    generalize os[k].t = y1 at *
    generalize os[k].near = y2 at *
    clear hst
    go_wp2_with fail
    (with_reducible refine HSTEP.out.mono ?_)
    rintro e w3 ⟨rfl, F3, hs, hg⟩
    have HS3 : Hid (StaH F3 d (runS n (os.take (k + 1))) (4 + 3 * (k + 1)) w3) := Sta.more hs (by omega)
    have HF3 := Lib.hid (HF.out.go hg)
    clear hs hg
    go_wp2_with fail
    go_roundg (gk - 1)
    case measure => omega
    case rel => exact ⟨k + 1, by go_num, by omega, F3, HS3, HF3⟩
  have hltz : ¬ (k : Int) < (m : Int) := by omega
  obtain rfl : k = m := by omega
  have htk : os.take k = os := by rw [HM.out, List.take_length]
  have hok := run_okS hn1 (by omega : n ≤ 64) os k (by have := HM.out; omega) (by omega)
  have hss := HS.out
  rw [htk] at hok hss
  have HOK := Lib.hid hok; have HS := Lib.hid hss
  have hrd := hok.rdy (c := 4 + 3 * k) (by omega)
  obtain ⟨hfq, hcp, hl64⟩ := hok.fitQ (by omega)
  clear htk hok hss HS0 HF0
  have hwr : IntKind.i64.wrap mr = mr := by rw [IntKind.wrap_i64]; omega
  have hAR := fun W (h : StaH F' d (runS n os) (4 + 3 * k) W) => VArena h hrd
  have hsl64 := hrd.good.len1
  have hidl : (runS n os).a.id.length ≤ 1000 := by have h1 := hrd.good.count; omega
  have hrefq : FitQ (refillL (runS n os).q) := hfq.refill (by have := mv_pot (runS n os).q; have := HOK.out.pot; omega)
  have hrd2 : Rdy ⟨(runS n os).a, refillL (runS n os).q⟩ hm 0 (4 + 3 * k + 1) := ⟨hrd.good, hrd.ms, by omega, by omega, by omega⟩
  have HPK := Lib.hid (fun W (h : StaH F' d (runS n os) (4 + 3 * k) W) => HPeek h hrd hfq)
  obtain ⟨hfirst, -⟩ := HOK.out.first
  cases hp : (popL (runS n os).q).2.2 with
  | false =>
    obtain ⟨hpk, hem⟩ := peek_none HOK.out.good hp
    have hits : sortI (itemsL (runS n os).q) = [] := by rw [hem]; rfl
    rw [hpk] at HPK
    unfold aggI zeroI at HPK
    simp only at HPK
    clear hp hpk hem hcp hl64
    have HIT := Lib.hid (items_gives HS.out hfq hits)
    have HIT1 := Lib.hid (HIT.out wr (Upd.refl _ _))
    have HAR := Lib.hid hAR
    have HI2 := Lib.hid (fun F W (h : StaH F d ⟨(runS n os).a, refillL (runS n os).q⟩ (4 + 3 * k + 1) W) => items_gives h hrefq (hfirst.trans hits))
    have HA2 := Lib.hid (fun F W (h : StaH F d ⟨(runS n os).a, refillL (runS n os).q⟩ (4 + 3 * k + 1) W) => VArena h hrd2)
    have HT2 := Lib.hid (fun F W (h : StaH F d ⟨(runS n os).a, refillL (runS n os).q⟩ (4 + 3 * k + 1) W) => VTop h hrd2)
    have HSA := Lib.hid (fun (g g2 : ArR) W (h1 : g.ar = (runS n os).a) (h2 : g2.ar = (runS n os).a) (k1 : HasA W g) (k2 : HasA W g2) => A5.Same_has g2 g W k2 k1 (by rw [h2]; omega) (by rw [h2]; omega))
    skip
    clear hAR hrd hfirst hits hwr hmr hidl hsl64 hrefq hrd2 hfq
    go_wp2_with fail
    (with_reducible refine HIT1.out.mono ?_)
    rintro e w3 ⟨va, vc, rfl, hhs, hbl, hu3⟩
    try simp only [List.length_nil]
    have HKS := Lib.hid (KS.new hhs hbl (Sta.lt HS.out))
    have HS3 := Lib.hid (Sta.stay HS.out hu3)
    have HF3 := Lib.hid (HF.out.up hu3)
    have HAR3 := Lib.hid (HAR.out _ HS3.out)
    clear hhs hbl hu3
    go_wp2_with fail
    (with_reducible refine HAR3.out.mono ?_)
    rintro e w4 ⟨g, rfl, hga, hha, hgb, hu4⟩
    have HGA := Lib.hid hga
    have HKA : Hid (KA F' w4 g) := ⟨hha, fun b hb => hgb b (Sta.lt HS3.out b hb)⟩
    have HS4 := Lib.hid (Sta.stay HS3.out hu4)
    have HF4 := Lib.hid (HF3.out.up hu4)
    have HKS := Lib.hid (HKS.out.up hu4)
    clear hga hha hgb hu4
    unfold encA
    simp only
    go_upto_region 12 with (fail)
    have hk := Kb.new (Sta.lt HS4.out) (.cells #[.slice g.sa g.ar.sl.length g.sc, .slice g.ia g.ar.id.length g.ic, .int .i64 g.ar.nx] 45)
    have hu := (Upd.refl [] w4).alloc (.cells #[.slice g.sa g.ar.sl.length g.sc, .slice g.ia g.ar.id.length g.ic, .int .i64 g.ar.nx] 45)
    have HS5 := Lib.hid (Sta.stay HS4.out hu); have HF5 := Lib.hid (HF4.out.up hu); have HKA := Lib.hid (HKA.out.up hu); have HKS := Lib.hid (HKS.out.up hu)
    generalize w4.alloc (.cells #[.slice g.sa g.ar.sl.length g.sc, .slice g.ia g.ar.id.length g.ic, .int .i64 g.ar.nx] 45) = w5 at *
    generalize w4.heap.size = PA at *
    have HBA := Lib.hid hk
    clear hk hu
    have HPK5 := Lib.hid (HPK.out _ HS5.out)
    go_wp2_with fail
    (with_reducible refine HPK5.out.mono ?_)
    rintro e w6 ⟨rfl, F6, hs, hg⟩
    have HS6 := Lib.hid hs; have HF6 := Lib.hid (HF5.out.go hg); have HKA := Lib.hid (HKA.out.go hg); have HKS := Lib.hid (HKS.out.go hg); have HBA := Lib.hid (HBA.out.go hg)
    clear hs hg
    go_upto_region 13 with (fail)
    have hk := Kb.new (Sta.lt HS6.out) (.cells #[.int .i64 0, .int .i64 0, .int .i64 0] 36)
    have hu := (Upd.refl [] w6).alloc (.cells #[.int .i64 0, .int .i64 0, .int .i64 0] 36)
    have HS7 := Lib.hid (Sta.stay HS6.out hu); have HF7 := Lib.hid (HF6.out.up hu); have HKA := Lib.hid (HKA.out.up hu); have HKS := Lib.hid (HKS.out.up hu); have HBA := Lib.hid (HBA.out.up hu)
    generalize w6.alloc (.cells #[.int .i64 0, .int .i64 0, .int .i64 0] 36) = w7 at *
    generalize w6.heap.size = PI at *
    have HBI := Lib.hid hk
    clear hk hu
    obtain ⟨a0, a1, a2⟩ := cells3 HBA.out.at_
    have HKP : Hid (∀ V, Upd [] w7 V → (V.cell? ⟨PA, 0, none⟩ = some (.slice g.sa g.ar.sl.length g.sc) ∧ V.cell? ⟨PA, 1, none⟩ = some (.slice g.ia g.ar.id.length g.ic) ∧ V.cell? ⟨PA, 2, none⟩ = some (.int .i64 g.ar.nx))) := fun V hv => ⟨hv.cell a0 (by simp), hv.cell a1 (by simp), hv.cell a2 (by simp)⟩
    have H1 := Lib.hid (HI2.out _ _ HS7.out _ (Upd.refl [] w7).drew)
    have H2 := Lib.hid (fun V (hu : Upd [] w7 V) va2 vc2 (hh : HasS LI V ⟨([] : List It), va2, vc2⟩) => same_true (il := 0) (by rfl) HKS.out.has (by simp) hh hu)
    have H3 := Lib.hid (fun V (hu : Upd [] w7 V) => HA2.out _ V (Sta.stay HS7.out hu))
    have H4 := Lib.hid (fun V (hu : Upd [] w7 V) (g2 : ArR) (h2 : g2.ar = (runS n os).a) (k2 : HasA V g2) => HSA.out g g2 V HGA.out h2 (HKA.out.has.stay hu) k2)
    unfold encA at H4
    try simp only at H4
    go_region_held3 (fun wz => wz.cell? ⟨PA, 0, none⟩ = some (.slice g.sa g.ar.sl.length g.sc) ∧ wz.cell? ⟨PA, 1, none⟩ = some (.slice g.ia g.ar.id.length g.ic) ∧ wz.cell? ⟨PA, 2, none⟩ = some (.int .i64 g.ar.nx)) (first | exact ⟨a0, a1, a2⟩ | exact HKP.out _ HU8.out | exact HKP.out _ HU9.out | exact HKP.out _ HU10.out | exact HKP.out _ HU11.out) (first | (go_at_call 16; (with_reducible refine H1.out.mono ?_); rintro e w8 ⟨va2, vc2, rfl, hh, -, hu⟩; (try simp only [List.length_nil]); have HX := Lib.hid hh; have HU8 := Lib.hid ((Upd.refl [] w7).drew.thn hu); have H28 := Lib.hid (H2.out w8 HU8.out va2 vc2 hh); clear hh hu) | (go_at_call 19; (with_reducible refine H28.out.mono ?_); rintro e w9 ⟨rfl, hu⟩; have HU9 := Lib.hid (HU8.out.thn hu); have H39 := Lib.hid (H3.out w9 HU9.out); clear hu) | (go_at_call 15; (with_reducible refine H39.out.mono ?_); rintro e w10 ⟨g2, rfl, hga2, hha2, -, hu⟩; have HU10 := Lib.hid (HU9.out.thn hu); have HGE : Hid (g2.ar = g.ar) := hga2.trans HGA.out.symm; have h410 := H4.out w10 HU10.out g2 hga2 hha2; have H410 := Lib.hid h410; clear hu hga2 hha2 h410; unfold encA; simp only) | (go_at_call 20; (with_reducible refine H410.out.mono ?_); rintro e w11 ⟨rfl, hu⟩; have HU11 := Lib.hid (HU10.out.thn hu); rw [HGE.out]; clear hu))
    all_goals have HS11 := Lib.hid (Sta.stay HS7.out HU11.out)
    all_goals have HF11 := Lib.hid (HF7.out.up HU11.out)
    all_goals have HM11 := Lib.hid (VMemory HS11.out)
    all_goals have HT11 := Lib.hid (HT2.out _ _ HS11.out)
    all_goals
      clear a0 a1 a2
      go_wp2_with fail
      (with_reducible refine HM11.out.mono ?_)
      rintro e w' ⟨rfl, rfl⟩
      go_wp2_with fail
      (with_reducible refine HT11.out.mono ?_)
      rintro e w' ⟨rfl, rfl⟩
      go_wp2_with fail
      go_ret
      exact ⟨rfl, HF11.out.upd⟩
  | true =>
    obtain ⟨i, -, -, -, -, hpk, hpr, hsr⟩ := HOK.out.pop (by omega) (pop_some hp)
    obtain ⟨px, hpx⟩ : ∃ px, px = (popL (runS n os).q).2.1 := ⟨_, rfl⟩
    obtain ⟨pl, hpl⟩ : ∃ pl, pl = (popL (runS n os).q).1 := ⟨_, rfl⟩
    rw [← hpx] at hpk hpr hsr
    rw [← hpl] at hpr hsr
    obtain ⟨rest, hrest⟩ : ∃ rest, rest = sortI (itemsL pl) := ⟨_, rfl⟩
    rw [← hrest] at hsr
    have hits := hsr
    have hokr := HOK.out.refill
    have hts0 := hokr.good.ts0
    have hts1 := hokr.good.ts1
    have hrl : rest.length ≤ 64 := by
      have h1 := (sortI_perm (itemsL (runS n os).q)).length_eq
      rw [hsr, List.length_cons, ← lenD_its] at h1
      omega
    have hstay := fun (it : It) (ht : (refillL (runS n os).q).ts ≤ it.t) => peek_stay HOK.out.good hpk ht
    rw [hpk] at HPK
    have HPR := Lib.hid hpr; have HSTAY := Lib.hid hstay; have HOKR := Lib.hid hokr; have HREST := Lib.hid hrest
    obtain ⟨p0, p1, p2⟩ := px
    unfold aggI at HPK
    simp only at HPK
    have hnx := HOK.out.reach.nx
    have hid0 := fun he : (runS n os).a.id ≠ [] => hokr.reach.good.last he
    clear hp hpk hpr hsr hpx hpl hcp hl64 hokr hstay hrest
    have HIT := Lib.hid (items_gives HS.out hfq hits)
    have HIT1 := Lib.hid (HIT.out wr (Upd.refl _ _))
    have HAR := Lib.hid hAR
    have HI2 := Lib.hid (fun F W (h : StaH F d ⟨(runS n os).a, refillL (runS n os).q⟩ (4 + 3 * k + 1) W) => items_gives h hrefq (hfirst.trans hits))
    have HA2 := Lib.hid (fun F W (h : StaH F d ⟨(runS n os).a, refillL (runS n os).q⟩ (4 + 3 * k + 1) W) => VArena h hrd2)
    have HT2 := Lib.hid (fun F W (h : StaH F d ⟨(runS n os).a, refillL (runS n os).q⟩ (4 + 3 * k + 1) W) => VTop h hrd2)
    have HSA := Lib.hid (fun (g g2 : ArR) W (h1 : g.ar = (runS n os).a) (h2 : g2.ar = (runS n os).a) (k1 : HasA W g) (k2 : HasA W g2) => A5.Same_has g2 g W k2 k1 (by rw [h2]; omega) (by rw [h2]; omega))
    skip
    clear hAR hrd hfirst hits hfq
    go_wp2_with fail
    (with_reducible refine HIT1.out.mono ?_)
    rintro e w3 ⟨va, vc, rfl, hhs, hbl, hu3⟩
    try simp only [List.length_cons]
    have HKS := Lib.hid (KS.new hhs hbl (Sta.lt HS.out))
    have HS3 := Lib.hid (Sta.stay HS.out hu3)
    have HF3 := Lib.hid (HF.out.up hu3)
    have HAR3 := Lib.hid (HAR.out _ HS3.out)
    clear hhs hbl hu3
    go_wp2_with fail
    (with_reducible refine HAR3.out.mono ?_)
    rintro e w4 ⟨g, rfl, hga, hha, hgb, hu4⟩
    have HGA := Lib.hid hga
    have HKA : Hid (KA F' w4 g) := ⟨hha, fun b hb => hgb b (Sta.lt HS3.out b hb)⟩
    have HS4 := Lib.hid (Sta.stay HS3.out hu4)
    have HF4 := Lib.hid (HF3.out.up hu4)
    have HKS := Lib.hid (HKS.out.up hu4)
    clear hga hha hgb hu4
    unfold encA
    simp only
    go_upto_region 12 with (fail)
    have hk := Kb.new (Sta.lt HS4.out) (.cells #[.slice g.sa g.ar.sl.length g.sc, .slice g.ia g.ar.id.length g.ic, .int .i64 g.ar.nx] 45)
    have hu := (Upd.refl [] w4).alloc (.cells #[.slice g.sa g.ar.sl.length g.sc, .slice g.ia g.ar.id.length g.ic, .int .i64 g.ar.nx] 45)
    have HS5 := Lib.hid (Sta.stay HS4.out hu); have HF5 := Lib.hid (HF4.out.up hu); have HKA := Lib.hid (HKA.out.up hu); have HKS := Lib.hid (HKS.out.up hu)
    generalize w4.alloc (.cells #[.slice g.sa g.ar.sl.length g.sc, .slice g.ia g.ar.id.length g.ic, .int .i64 g.ar.nx] 45) = w5 at *
    generalize w4.heap.size = PA at *
    have HBA := Lib.hid hk
    clear hk hu
    have HPK5 := Lib.hid (HPK.out _ HS5.out)
    go_wp2_with fail
    (with_reducible refine HPK5.out.mono ?_)
    rintro e w6 ⟨rfl, F6, hs, hg⟩
    have HS6 := Lib.hid hs; have HF6 := Lib.hid (HF5.out.go hg); have HKA := Lib.hid (HKA.out.go hg); have HKS := Lib.hid (HKS.out.go hg); have HBA := Lib.hid (HBA.out.go hg)
    clear hs hg
    go_upto_region 13 with (fail)
    have hk := Kb.new (Sta.lt HS6.out) (.cells #[.int .i64 p0, .int .i64 p1, .int .i64 p2] 36)
    have hu := (Upd.refl [] w6).alloc (.cells #[.int .i64 p0, .int .i64 p1, .int .i64 p2] 36)
    have HS7 := Lib.hid (Sta.stay HS6.out hu); have HF7 := Lib.hid (HF6.out.up hu); have HKA := Lib.hid (HKA.out.up hu); have HKS := Lib.hid (HKS.out.up hu); have HBA := Lib.hid (HBA.out.up hu)
    generalize w6.alloc (.cells #[.int .i64 p0, .int .i64 p1, .int .i64 p2] 36) = w7 at *
    generalize w6.heap.size = PI at *
    have HBI := Lib.hid hk
    clear hk hu
    obtain ⟨a0, a1, a2⟩ := cells3 HBA.out.at_
    have HKP : Hid (∀ V, Upd [] w7 V → (V.cell? ⟨PA, 0, none⟩ = some (.slice g.sa g.ar.sl.length g.sc) ∧ V.cell? ⟨PA, 1, none⟩ = some (.slice g.ia g.ar.id.length g.ic) ∧ V.cell? ⟨PA, 2, none⟩ = some (.int .i64 g.ar.nx))) := fun V hv => ⟨hv.cell a0 (by simp), hv.cell a1 (by simp), hv.cell a2 (by simp)⟩
    have H1 := Lib.hid (HI2.out _ _ HS7.out _ (Upd.refl [] w7).drew)
    have H2 := Lib.hid (fun V (hu : Upd [] w7 V) va2 vc2 (hh : HasS LI V ⟨(⟨p0, p1, p2⟩ :: rest), va2, vc2⟩) => same_true (il := (rest.length + 1)) (by simp) HKS.out.has (by simp only [List.length_cons]; omega) hh hu)
    have H3 := Lib.hid (fun V (hu : Upd [] w7 V) => HA2.out _ V (Sta.stay HS7.out hu))
    have H4 := Lib.hid (fun V (hu : Upd [] w7 V) (g2 : ArR) (h2 : g2.ar = (runS n os).a) (k2 : HasA V g2) => HSA.out g g2 V HGA.out h2 (HKA.out.has.stay hu) k2)
    unfold encA at H4
    try simp only at H4
    go_region_held3 (fun wz => wz.cell? ⟨PA, 0, none⟩ = some (.slice g.sa g.ar.sl.length g.sc) ∧ wz.cell? ⟨PA, 1, none⟩ = some (.slice g.ia g.ar.id.length g.ic) ∧ wz.cell? ⟨PA, 2, none⟩ = some (.int .i64 g.ar.nx)) (first | exact ⟨a0, a1, a2⟩ | exact HKP.out _ HU8.out | exact HKP.out _ HU9.out | exact HKP.out _ HU10.out | exact HKP.out _ HU11.out) (first | (go_at_call 16; (with_reducible refine H1.out.mono ?_); rintro e w8 ⟨va2, vc2, rfl, hh, -, hu⟩; (try simp only [List.length_cons]); have HX := Lib.hid hh; have HU8 := Lib.hid ((Upd.refl [] w7).drew.thn hu); have H28 := Lib.hid (H2.out w8 HU8.out va2 vc2 hh); clear hh hu) | (go_at_call 19; (with_reducible refine H28.out.mono ?_); rintro e w9 ⟨rfl, hu⟩; have HU9 := Lib.hid (HU8.out.thn hu); have H39 := Lib.hid (H3.out w9 HU9.out); clear hu) | (go_at_call 15; (with_reducible refine H39.out.mono ?_); rintro e w10 ⟨g2, rfl, hga2, hha2, -, hu⟩; have HU10 := Lib.hid (HU9.out.thn hu); have HGE : Hid (g2.ar = g.ar) := hga2.trans HGA.out.symm; have h410 := H4.out w10 HU10.out g2 hga2 hha2; have H410 := Lib.hid h410; clear hu hga2 hha2 h410; unfold encA; simp only) | (go_at_call 20; (with_reducible refine H410.out.mono ?_); rintro e w11 ⟨rfl, hu⟩; have HU11 := Lib.hid (HU10.out.thn hu); rw [HGE.out]; clear hu))
    all_goals have HS11 := Lib.hid (Sta.stay HS7.out HU11.out)
    all_goals have HF11 := Lib.hid (HF7.out.up HU11.out)
    all_goals have HM11 := Lib.hid (VMemory HS11.out)
    all_goals have HT11 := Lib.hid (HT2.out _ _ HS11.out)
    all_goals
      clear a0 a1 a2
      go_wp2_with fail
      (with_reducible refine HM11.out.mono ?_)
      rintro e w' ⟨rfl, rfl⟩
      go_wp2_with fail
      (with_reducible refine HT11.out.mono ?_)
      rintro e w' ⟨rfl, rfl⟩
      have HKS11 := Lib.hid (HKS.out.up HU11.out)
      have HBI11 := Lib.hid (HBI.out.up HU11.out)
      obtain ⟨bb, oo, hva, x0, x1, x2⟩ := HKS11.out.has.row.item 0 (by simp)
      simp only at hva
      subst hva
      simp only [List.getElem_cons_zero, Nat.zero_mul, Nat.add_zero] at x0 x1 x2
      obtain ⟨y0, y1, y2⟩ := cells3 HBI11.out.at_
      have hnq : ∀ w : World, (binOp .neq 36 (.agg #[.int .i64 p0, .int .i64 p1, .int .i64 p2]) (.agg #[.int .i64 p0, .int .i64 p1, .int .i64 p2])).run Tryz.prog w = .ok (.bool false) w := fun w => by
        have := neqItem ⟨p0, p1, p2⟩ ⟨p0, p1, p2⟩ w
        simpa using this
      clear HM11 HT11 HIT HIT1 HAR HPK HPK5 H1 H2 H3 H4 HSA HKP HA2 HI2 HT2 HKA HBA
      go_upto_region 18 with (fail)
      have j0 := kept_at x0; have j1 := kept_at x1; have j2 := kept_at x2; have j3 := kept_at y0; have j4 := kept_at y1; have j5 := kept_at y2
      clear x0 x1 x2 y0 y1 y2
      refine wp_region_quiet_kept mixed (by kernel_rfl) ?_
      repeat (go_big_quiet_step (fail))
      refine wpQuiet_nil ?_
      intro W3 hw'
      obtain ⟨⟨Wx, hu⟩, hw''⟩ := hw'
      simp only at hw''
      subst hw''
      have HS12 := Lib.hid (Sta.stay HS11.out hu); have HF12 := Lib.hid (HF11.out.up hu); have HKS12 := Lib.hid (HKS11.out.up hu); have HBI12 := Lib.hid (HBI11.out.up hu)
      clear j0 j1 j2 j3 j4 j5 hu
      have hmx : (refillL (runS n os).q).ts ≤ 1152921504606846977 := by unfold MaxT at hts1; omega
      obtain ⟨tt, htt⟩ : ∃ tt, tt = (refillL (runS n os).q).ts + mr := ⟨_, rfl⟩
      have hwt : IntKind.i64.wrap ((refillL (runS n os).q).ts + mr) = tt := by rw [IntKind.wrap_i64]; omega
      have HTT := Lib.hid htt
      by_cases htl : tt ≤ 1152921504606846976
      case neg =>
        clear htt hts0 hts1 hmx hid0
        go_upto_region 28 with (fail)
        obtain ⟨hdr, hfl, hsr2⟩ := drop_first HS12.out HOKR.out (by omega) (by omega) HPR.out
        have HDR := Lib.hid hdr
        have HIT3 := Lib.hid (fun F W (h : StaH F d ⟨(runS n os).a, pl⟩ (4 + 3 * k + 1 + 1) W) => items_gives h hfl HREST.out.symm)
        clear hdr hsr2
        go_wp2_with fail
        (with_reducible refine HDR.out.mono ?_)
        rintro e w20 ⟨rfl, F20, hs, hg⟩
        have HF20 := Lib.hid (HF12.out.go hg); have HK20 := Lib.hid (HKS12.out.go hg)
        have HI20 := Lib.hid (HIT3.out _ _ hs w20.drew (Upd.refl [] w20).drew)
        clear hs hg
        obtain ⟨bb, oo, hva, -, -, -⟩ := HK20.out.has.row.item 0 (by simp)
        simp only at hva
        first | subst hva | (simp only [Option.some.injEq, Addr.mk.injEq, and_true] at hva; obtain ⟨rfl, rfl⟩ := hva)
        have hd := drop_has HK20.out.has
        have hle := HK20.out.has.le
        simp only [List.length_cons] at hle
        cases h1c : decide (1 < vc) with
        | true =>
          have h1d : 1 < vc := of_decide_eq_true h1c
          rw [if_pos h1d] at hd
          have HS2 := Lib.hid (fun V (hu : Upd [] w20 V) vb vd (hh : HasS LI V ⟨rest, vb, vd⟩) => same_true (il := rest.length) rfl hd (by omega) hh hu)
          have hle1 : 1 ≤ rest.length + 1 := by omega
          have hle2 : ((rest.length : Nat) : Int) + 1 ≤ (vc : Int) := by omega
          have hle3 : (1 : Int) ≤ ((rest.length : Nat) : Int) + 1 := by omega
          have hle4 : (1 : Int) ≤ (vc : Int) := by omega
          clear hd
          go_upto_region 29 with (fail)
          go_region_held3 (fun _ => True) (trivial) (first | (go_at_call 16; go_loud ((with_reducible refine HI20.out.mono ?_); rintro e w21 ⟨vb, vd, rfl, hh, -, hu⟩; have HU21 := Lib.hid ((Upd.refl [] w20).drew.thn hu); have HS21 := Lib.hid (HS2.out w21 HU21.out vb vd hh); clear hh hu)) | (go_at_call 19; go_loud ((with_reducible refine HS21.out.mono ?_); rintro e w22 ⟨rfl, hu⟩; have HU22 := Lib.hid (HU21.out.thn hu); clear hu)))
          all_goals
            go_wp2_with fail
            go_ret
            exact ⟨rfl, (HF20.out.up HU22.out).upd⟩
        | false =>
          have h1d : ¬ 1 < vc := of_decide_eq_false h1c
          rw [if_neg h1d] at hd
          obtain rfl : vc = 1 := by omega
          obtain rfl : rest = [] := List.eq_nil_of_length_eq_zero (by omega)
          simp only [Nat.sub_self] at hd
          simp only [List.length_nil]
          have HS2 := Lib.hid (fun V (hu : Upd [] w20 V) vb vd (hh : HasS LI V ⟨[], vb, vd⟩) => same_true (il := 0) rfl hd (by simp) hh hu)
          clear hle
          clear hd
          go_upto_region 29 with (fail)
          go_region_held3 (fun _ => True) (trivial) (first | (go_at_call 16; go_loud ((with_reducible refine HI20.out.mono ?_); rintro e w21 ⟨vb, vd, rfl, hh, -, hu⟩; (try simp only [List.length_nil]); have HU21 := Lib.hid ((Upd.refl [] w20).drew.thn hu); have HS21 := Lib.hid (HS2.out w21 HU21.out vb vd hh); clear hh hu)) | (go_at_call 19; go_loud ((with_reducible refine HS21.out.mono ?_); rintro e w22 ⟨rfl, hu⟩; have HU22 := Lib.hid (HU21.out.thn hu); clear hu)))
          all_goals
            go_wp2_with fail
            go_ret
            exact ⟨rfl, (HF20.out.up HU22.out).upd⟩
      by_cases he : (runS n os).a.id = []
      case pos =>
        have HAL := Lib.hid (HAlloc_no HS12.out hrd2 tt he)
        clear htt hts0 hts1 hmx hid0 he
        go_wp2_with fail
        (with_reducible refine HAL.out.mono ?_)
        rintro e w15 ⟨rfl, hs, hg⟩
        have HS15 := Lib.hid hs; have HF15 := Lib.hid (HF12.out.go hg); have HKS15 := Lib.hid (HKS12.out.go hg)
        clear hs hg
        go_upto_region 28 with (fail)
        obtain ⟨hdr, hfl, hsr2⟩ := drop_first HS15.out HOKR.out (by omega) (by omega) HPR.out
        have HDR := Lib.hid hdr
        have HIT3 := Lib.hid (fun F W (h : StaH F d ⟨(runS n os).a, pl⟩ (4 + 3 * k + 1 + 1) W) => items_gives h hfl HREST.out.symm)
        clear hdr hsr2
        go_wp2_with fail
        (with_reducible refine HDR.out.mono ?_)
        rintro e w20 ⟨rfl, F20, hs, hg⟩
        have HF20 := Lib.hid (HF15.out.go hg); have HK20 := Lib.hid (HKS15.out.go hg)
        have HI20 := Lib.hid (HIT3.out _ _ hs w20.drew (Upd.refl [] w20).drew)
        clear hs hg
        obtain ⟨bb, oo, hva, -, -, -⟩ := HK20.out.has.row.item 0 (by simp)
        simp only at hva
        first | subst hva | (simp only [Option.some.injEq, Addr.mk.injEq, and_true] at hva; obtain ⟨rfl, rfl⟩ := hva)
        have hd := drop_has HK20.out.has
        have hle := HK20.out.has.le
        simp only [List.length_cons] at hle
        cases h1c : decide (1 < vc) with
        | true =>
          have h1d : 1 < vc := of_decide_eq_true h1c
          rw [if_pos h1d] at hd
          have HS2 := Lib.hid (fun V (hu : Upd [] w20 V) vb vd (hh : HasS LI V ⟨rest, vb, vd⟩) => same_true (il := rest.length) rfl hd (by omega) hh hu)
          have hle1 : 1 ≤ rest.length + 1 := by omega
          have hle2 : ((rest.length : Nat) : Int) + 1 ≤ (vc : Int) := by omega
          have hle3 : (1 : Int) ≤ ((rest.length : Nat) : Int) + 1 := by omega
          have hle4 : (1 : Int) ≤ (vc : Int) := by omega
          clear hd
          go_upto_region 29 with (fail)
          go_region_held3 (fun _ => True) (trivial) (first | (go_at_call 16; go_loud ((with_reducible refine HI20.out.mono ?_); rintro e w21 ⟨vb, vd, rfl, hh, -, hu⟩; have HU21 := Lib.hid ((Upd.refl [] w20).drew.thn hu); have HS21 := Lib.hid (HS2.out w21 HU21.out vb vd hh); clear hh hu)) | (go_at_call 19; go_loud ((with_reducible refine HS21.out.mono ?_); rintro e w22 ⟨rfl, hu⟩; have HU22 := Lib.hid (HU21.out.thn hu); clear hu)))
          all_goals
            go_wp2_with fail
            go_ret
            exact ⟨rfl, (HF20.out.up HU22.out).upd⟩
        | false =>
          have h1d : ¬ 1 < vc := of_decide_eq_false h1c
          rw [if_neg h1d] at hd
          obtain rfl : vc = 1 := by omega
          obtain rfl : rest = [] := List.eq_nil_of_length_eq_zero (by omega)
          simp only [Nat.sub_self] at hd
          simp only [List.length_nil]
          have HS2 := Lib.hid (fun V (hu : Upd [] w20 V) vb vd (hh : HasS LI V ⟨[], vb, vd⟩) => same_true (il := 0) rfl hd (by simp) hh hu)
          clear hle
          clear hd
          go_upto_region 29 with (fail)
          go_region_held3 (fun _ => True) (trivial) (first | (go_at_call 16; go_loud ((with_reducible refine HI20.out.mono ?_); rintro e w21 ⟨vb, vd, rfl, hh, -, hu⟩; (try simp only [List.length_nil]); have HU21 := Lib.hid ((Upd.refl [] w20).drew.thn hu); have HS21 := Lib.hid (HS2.out w21 HU21.out vb vd hh); clear hh hu)) | (go_at_call 19; go_loud ((with_reducible refine HS21.out.mono ?_); rintro e w22 ⟨rfl, hu⟩; have HU22 := Lib.hid (HU21.out.thn hu); clear hu)))
          all_goals
            go_wp2_with fail
            go_ret
            exact ⟨rfl, (HF20.out.up HU22.out).upd⟩
      have hto : TimeOk tt := ⟨by omega, htl⟩
      obtain ⟨hl, h00, hid⟩ := hid0 he
      obtain ⟨t1, t2, t3⟩ := takeH_hnd HOKR.out.reach.good (HOKR.out.room (by omega) he)
      have hnn := HOKR.out.reach.len
      have HAL := Lib.hid (HAlloc_yes HS12.out hrd2 tt he (by simp only; omega))
      have HSL : Hid (∀ W, Calls Tryz.prog 23 #[.int .i64 (takeH (runS n os).a)] W fun e w' => e = .returned (.int .i64 (lastI (runS n os).a : Int)) ∧ W = w') := fun W => by
        have := RSlot_any (takeH (runS n os).a) W
        rw [slotZ_yes (A5.validB_yes.2 t1), ← hS_cast, t2] at this; exact this
      have hg2 : A5.Good (takeA (runS n os).a tt) := (HOKR.out.take (by omega) he hto).1.good
      have hlt2 : lastI (runS n os).a < (takeA (runS n os).a tt).sl.length := by simpa [takeA] using hl
      have hdis : ∀ x ∈ itemsL (refillL (runS n os).q), ¬ eqK (itA (takeA (runS n os).a tt) (lastI (runS n os).a)) x := fun x hx hee => by
        obtain ⟨i, i1, i2, rfl⟩ := mem_itemsA.1 (HOKR.out.its.mem_iff.1 hx)
        have h3 := ((HOKR.out.reach.good.ok i i1).2.2 i2).2.2.2
        simp only at h3
        rw [itA_take HOKR.out.reach.good he] at hee
        have := hee.2
        simp only [itA] at this
        omega
      have hcp1 : (refillL (runS n os).q).cp ≤ 100000000000 := by have := HOKR.out.cp; simp only at this; omega
      have HPUT := Lib.hid (fun F W (h : StaH F d ⟨takeA (runS n os).a tt, refillL (runS n os).q⟩ (4 + 3 * k + 1 + 1) W) => VPut h ⟨hg2, rfl, by omega, by omega, by omega⟩ 0 held0 (lastI (runS n os).a) hlt2 hrefq hcp1 hdis)
      have hmn : ((lastI (runS n os).a : Nat) : Int).tmod (n : Int) = (lastI (runS n os).a : Nat) := by rw [Int.tmod_eq_emod_of_nonneg (by omega), Int.emod_eq_of_lt (by omega) (by simp only at hnn; omega)]
      have hok3 := HOKR.out.put (by omega) he hto
      have hpk3 := HSTAY.out (itA (takeA (runS n os).a tt) (lastI (runS n os).a)) (by rw [itA_take HOKR.out.reach.good he]; simp only; omega)
      simp only at hok3 HPUT
      obtain ⟨q3, hq3⟩ : ∃ q3, q3 = insertL (refillL (runS n os).q) (itA (takeA (runS n os).a tt) (lastI (runS n os).a)) := ⟨_, rfl⟩
      rw [← hq3] at hok3 hpk3 HPUT
      obtain ⟨pl3, hpl3⟩ := pop_of_peek hok3.good hpk3
      obtain ⟨-, -, hsr3⟩ := drop_first_maths hok3 (by omega) hpl3
      obtain ⟨rest3, hrest3⟩ : ∃ rest3, rest3 = sortI (itemsL pl3) := ⟨_, rfl⟩
      rw [← hrest3] at hsr3
      have hfq3 := (hok3.fitQ (by omega)).1
      have hrd3 := hok3.rdy (c := 4 + 3 * k + 1 + 1) (by omega)
      have hrd4 := hok3.rdy (c := 4 + 3 * k + 1 + 1 + 1) (by omega)
      have HPK3 := Lib.hid (fun F W (h : StaH F d ⟨takeA (runS n os).a tt, q3⟩ (4 + 3 * k + 1 + 1) W) => HPeek h hrd3 hfq3)
      simp only at HPK3
      rw [hpk3] at HPK3
      unfold aggI at HPK3
      simp only at HPK3
      have HIT3 := Lib.hid (fun F W (h : StaH F d ⟨takeA (runS n os).a tt, q3⟩ (4 + 3 * k + 1 + 1 + 1) W) => items_gives h hfq3 hsr3 W (Upd.refl _ _))
      have hrl3 : rest3.length ≤ 64 := by
        have h1 := (sortI_perm (itemsL q3)).length_eq
        have h2 := (hok3.fitQ (by omega)).2.2
        simp only at h2
        rw [hsr3, List.length_cons, ← lenD_its] at h1
        omega
      have HOK3 := Lib.hid hok3; have HPL3 := Lib.hid hpl3; have HREST3 := Lib.hid hrest3
      generalize takeA (runS n os).a tt = a2 at *
      generalize takeH (runS n os).a = th at *
      generalize lastI (runS n os).a = li at *
      clear htt hts0 hts1 hmx hid0 he hto hl h00 hid t1 t2 t3 hnn hg2 hlt2 hdis hcp1 hok3 hpk3 hq3 hpl3 hsr3 hrest3 hfq3 hrd3 hrd4
      go_wp2_with fail
      (with_reducible refine HAL.out.mono ?_)
      rintro e w15 ⟨rfl, F15, hs, hg⟩
      have HF15 := Lib.hid (HF12.out.go hg); have HBI15 := Lib.hid (HBI12.out.go hg)
      have HP15 := Lib.hid (HPUT.out _ _ hs)
      clear hs hg
      go_wp2_with fail
      (with_reducible refine (HSL.out _).mono ?_)
      rintro e w' ⟨rfl, rfl⟩
      go_wp2_with fail
      (with_reducible refine HP15.out.mono ?_)
      rintro e w16 ⟨rfl, hs, hg⟩
      have HF16 := Lib.hid (HF15.out.go hg); have HBI16 := Lib.hid (HBI15.out.go hg)
      have HK16 := Lib.hid (HPK3.out _ _ hs)
      clear hs hg
      go_wp2_with fail
      (with_reducible refine HK16.out.mono ?_)
      rintro e w17 ⟨rfl, F17, hs, hg⟩
      have HS17 := Lib.hid hs; have HF17 := Lib.hid (HF16.out.go hg); have HBI17 := Lib.hid (HBI16.out.go hg)
      clear hs hg
      go_upto_region 25 with (fail)
      have hk := Kb.new (Sta.lt HS17.out) (.cells #[.int .i64 p0, .int .i64 p1, .int .i64 p2] 36)
      have hu := (Upd.refl [] w17).alloc (.cells #[.int .i64 p0, .int .i64 p1, .int .i64 p2] 36)
      have HS18 := Lib.hid (Sta.stay HS17.out hu); have HF18 := Lib.hid (HF17.out.up hu); have HBI18 := Lib.hid (HBI17.out.up hu)
      generalize w17.alloc (.cells #[.int .i64 p0, .int .i64 p1, .int .i64 p2] 36) = w18 at *
      generalize w17.heap.size = PJ at *
      have HBJ := Lib.hid hk
      clear hk hu
      obtain ⟨x0, x1, x2⟩ := cells3 HBI18.out.at_
      obtain ⟨y0, y1, y2⟩ := cells3 HBJ.out.at_
      have HI18 := Lib.hid (HIT3.out _ _ HS18.out)
      go_wp2_with fail
      (with_reducible refine HI18.out.mono ?_)
      rintro e w19 ⟨va3, vc3, rfl, hhs, hbl, hu⟩
      have HKS19 := Lib.hid (KS.new hhs hbl (Sta.lt HS18.out))
      have HS19 := Lib.hid (Sta.stay HS18.out hu); have HF19 := Lib.hid (HF18.out.up hu)
      try simp only [List.length_cons]
      clear hhs hbl hu x0 x1 x2 y0 y1 y2
      go_upto_region 28 with (fail)
      obtain ⟨hdr, hfl, hsr2⟩ := drop_first HS19.out HOK3.out (by omega) (by omega) HPL3.out
      have HDR := Lib.hid hdr
      have HIT3 := Lib.hid (fun F W (h : StaH F d ⟨a2, pl3⟩ (4 + 3 * k + 1 + 1 + 1 + 1) W) => items_gives h hfl HREST3.out.symm)
      clear hdr hsr2
      go_wp2_with fail
      (with_reducible refine HDR.out.mono ?_)
      rintro e w20 ⟨rfl, F20, hs, hg⟩
      have HF20 := Lib.hid (HF19.out.go hg); have HK20 := Lib.hid (HKS19.out.go hg)
      have HI20 := Lib.hid (HIT3.out _ _ hs w20.drew (Upd.refl [] w20).drew)
      clear hs hg
      obtain ⟨bb, oo, hva, -, -, -⟩ := HK20.out.has.row.item 0 (by simp)
      simp only at hva
      first | subst hva | (simp only [Option.some.injEq, Addr.mk.injEq, and_true] at hva; obtain ⟨rfl, rfl⟩ := hva)
      have hd := drop_has HK20.out.has
      have hle := HK20.out.has.le
      simp only [List.length_cons] at hle
      cases h1c : decide (1 < vc3) with
      | true =>
        have h1d : 1 < vc3 := of_decide_eq_true h1c
        rw [if_pos h1d] at hd
        have HS2 := Lib.hid (fun V (hu : Upd [] w20 V) vb vd (hh : HasS LI V ⟨rest3, vb, vd⟩) => same_true (il := rest3.length) rfl hd (by omega) hh hu)
        have hle1 : 1 ≤ rest3.length + 1 := by omega
        have hle2 : ((rest3.length : Nat) : Int) + 1 ≤ (vc3 : Int) := by omega
        have hle3 : (1 : Int) ≤ ((rest3.length : Nat) : Int) + 1 := by omega
        have hle4 : (1 : Int) ≤ (vc3 : Int) := by omega
        clear hd
        go_upto_region 29 with (fail)
        go_region_held3 (fun _ => True) (trivial) (first | (go_at_call 16; go_loud ((with_reducible refine HI20.out.mono ?_); rintro e w21 ⟨vb, vd, rfl, hh, -, hu⟩; have HU21 := Lib.hid ((Upd.refl [] w20).drew.thn hu); have HS21 := Lib.hid (HS2.out w21 HU21.out vb vd hh); clear hh hu)) | (go_at_call 19; go_loud ((with_reducible refine HS21.out.mono ?_); rintro e w22 ⟨rfl, hu⟩; have HU22 := Lib.hid (HU21.out.thn hu); clear hu)))
        all_goals
          go_wp2_with fail
          go_ret
          exact ⟨rfl, (HF20.out.up HU22.out).upd⟩
      | false =>
        have h1d : ¬ 1 < vc3 := of_decide_eq_false h1c
        rw [if_neg h1d] at hd
        obtain rfl : vc3 = 1 := by omega
        obtain rfl : rest3 = [] := List.eq_nil_of_length_eq_zero (by omega)
        simp only [Nat.sub_self] at hd
        simp only [List.length_nil]
        have HS2 := Lib.hid (fun V (hu : Upd [] w20 V) vb vd (hh : HasS LI V ⟨[], vb, vd⟩) => same_true (il := 0) rfl hd (by simp) hh hu)
        clear hle
        clear hd
        go_upto_region 29 with (fail)
        go_region_held3 (fun _ => True) (trivial) (first | (go_at_call 16; go_loud ((with_reducible refine HI20.out.mono ?_); rintro e w21 ⟨vb, vd, rfl, hh, -, hu⟩; (try simp only [List.length_nil]); have HU21 := Lib.hid ((Upd.refl [] w20).drew.thn hu); have HS21 := Lib.hid (HS2.out w21 HU21.out vb vd hh); clear hh hu)) | (go_at_call 19; go_loud ((with_reducible refine HS21.out.mono ?_); rintro e w22 ⟨rfl, hu⟩; have HU22 := Lib.hid (HU21.out.thn hu); clear hu)))
        all_goals
          go_wp2_with fail
          go_ret
          exact ⟨rfl, (HF20.out.up HU22.out).upd⟩
end Go.Proofs.YtmfnfinbkdemkaaGreat
