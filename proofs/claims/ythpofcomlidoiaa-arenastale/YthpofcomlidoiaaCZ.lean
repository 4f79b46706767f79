/- ArenaStale: the walk. -/
import Derived.Test.YthpofcomlidoiaaCY
namespace Go.Proofs.Ythpofcomlidoiaa
open Go.RowKit Go.Lib

/-- The state of the loop: the arena's box P, the handles issued so far. -/
structure StAt (w : World) (P : Nat) (p : Ar × List Int) (r : ArR) (ad : Option Addr) (cap : Nat) (wr : World) : Prop where
  eq : r.ar = p.1
  bx : wr.heap[P]? = some (.cells (cellsA r) 25 (0, 0))
  has : HasA wr r
  his : HasI wr ad cap p.2
  avP : Avoids r P ∧ AvoidsI ad p.2 P
  upd : Upd [] w wr
  ge : w.heap.size ≤ P
theorem StAt.stay {w wr wx : World} {P : Nat} {p : Ar × List Int} {r : ArR} {ad : Option Addr} {cap : Nat} (h : StAt w P p r ad cap wr) (hu : Upd [] wr wx) : StAt w P p r ad cap wx :=
  ⟨h.eq, hu.at h.bx (by simp), h.has.stay hu, h.his.stay hu, h.avP, h.upd.trans hu (by simp), h.ge⟩
theorem StAt.step {w wr wx w5 : World} {P Q : Nat} {p : Ar × List Int} {r r' : ArR} {ad ad' : Option Addr} {cap cap' : Nat} {a' : Ar} {is' : List Int} (h : StAt w P p r ad cap wr) (hs : Stepped wr r ad p.2 a' is' Q ad' cap' wx r') (hu : Upd [P] wx w5) (hb : w5.heap[P]? = some (.cells (cellsA r') 25 (0, 0))) : StAt w P (a', is') r' ad' cap' w5 := by
  have hPl := lt_block h.bx
  have a1 := hs.bx.nxt.av P hPl h.avP.1
  have a2 := hs.av P hPl h.avP.2
  have hge := h.ge
  exact ⟨hs.bx.nxt.eq, hb, hs.bx.nxt.has.keep1 hu a1, hs.hi.keep1 hu a2, ⟨a1, a2⟩, (h.upd.trans hs.bx.nxt.upd (by simp)).trans hu (fun x hx hl => by simp at hx; omega), hge⟩
/-- What the loop knows: a valid arena, its handles, the released one. -/
structure StOk (h : Int) (n : Nat) (p : Ar × List Int) : Prop where
  good : Good p.1
  iss : Iss p.1 p.2
  dead : Dead p.1 h
  len : p.2.length ≤ n
theorem StOk.step {h : Int} {n : Nat} {p : Ar × List Int} (k : StOk h n p) (o : Oz) : StOk h (n + 1) ((stepA p.1 p.2 o).1, (stepA p.1 p.2 o).2.1) :=
  ⟨step_good k.good o, step_iss k.good k.iss o, step_dead k.good k.dead o, by have := step_iss_len (a := p.1) (is := p.2) o; have := k.len; simp only; omega⟩
/-- A step issues nothing, or one handle that was not issued before. -/
theorem step_issue {a : Ar} {is : List Int} (hg : Good a) (hi : Iss a is) (o : Oz) : (stepA a is o).2.1 = is ∨ ∃ x, (stepA a is o).2.1 = is ++ [x] ∧ x ∉ is := by
  rcases step_cases a is o with ⟨t, ht, hr, e⟩ | ⟨x, f, t, hm, e⟩ | ⟨x, hf, e⟩ | e <;> rw [e]
  · exact .inr ⟨_, rfl, take_fresh hg hi hr⟩
  · exact .inl rfl
  · exact .inl rfl
  · exact .inl rfl
theorem dead_look {a : Ar} {h : Int} (d : Dead a h) : lookA a h = (⟨0, 0, 0, 0⟩, false) := by rw [lookA, if_neg d.refers]
theorem dead_trans {a : Ar} {h : Int} (d : Dead a h) (f t : Int) : transA a h f t = (a, false) := by rw [transA, if_neg (fun m => d.refers m.1)]
theorem dead_rel {a : Ar} {h : Int} (d : Dead a h) : relA a h = (a, false) := by rw [relA, if_neg (fun m => d.refers m.1)]

set_option maxRecDepth 100000 in
set_option maxHeartbeats 8000000 in
theorem Stale_any (A : ArenaOk) (c : Int) (la : Option Addr) (lc : Nat) (os : List Oz) (n : Int) (ma : Option Addr) (mc : Nat) (ms : List Oz) (W : World) (hc : 0 ≤ c ∧ c < 256) (hlm : os.length ≤ maxLen) (hos : Ozs W la os) (hmm : ms.length ≤ maxLen) (hms : Ozs W ma ms) :
    Calls Try.prog 5 #[.int .u8 c, .slice la os.length lc, .int .i64 n, .slice ma ms.length mc] W fun e w' => e = .returned (.bool true) ∧ Upd [] W w' := by
  have HMD := Lib.hid (fun W' (hu : Upd [] W W') => Made_has c la lc os W' hc (hos.stay hu) hlm)
  have HHD := Lib.hid (head_any A)
  obtain ⟨n0, k0, hk0, hre⟩ := made_reach c os
  generalize madeL c os = p at *
  have hisl := hre.isl
  have HGD := Lib.hid hre.good
  have HIO := Lib.hid hre.iss
  have HAA := Lib.hid A
  have HMS := Lib.hid hms
  generalize os.length = L at HMD ⊢
  generalize hM : ms.length = M at hmm ⊢
  have HM := Lib.hid hM
  have hMz : M ≤ 9223372036854775807 := by simp only [maxLen] at hmm; omega
  clear hre hos hlm hc hms hM hmm
  go_enter Try.func5, Try.ntmps5
  go_upto_region 2 with (go_at_call 8; refine (HHD.out W).mono ?_; rintro e W0 ⟨rfl, hu⟩)
  have HUb : Hid (Upd [] W W0) := hu
  have HU0 : Hid (Upd [] W0 W0) := Upd.refl _ _
  clear hu
  have HK1 := Lib.hid (HMD.out W0 HUb.out)
  go_upto_region 3 with (go_at_call 15; refine (HK1.out).mono ?_; rintro e w1 ⟨r', ad, cap, rfl, hN⟩; obtain ⟨a1, sa1, sc1, ia1, ic1⟩ := r'; unfold encA)
  have HH1 := Lib.hid hN.has
  have HQ1 := Lib.hid hN.eq
  have hIS := hN.his
  have HEN1 : Hid (encA ⟨a1, sa1, sc1, ia1, ic1⟩ = .agg #[.slice sa1 a1.sl.length sc1, .slice ia1 a1.id.length ic1, .int .i64 a1.nx]) := rfl
  have hu1a := hN.upd
  clear hN HK1
  simp only at HQ1 ⊢
  generalize a1.sl.length = n1 at HEN1 ⊢
  generalize a1.id.length = m1 at HEN1 ⊢
  generalize a1.nx = x1 at HEN1 ⊢
  have hb1 := heap_alloc1 w1 (.cells #[.slice sa1 n1 sc1, .slice ia1 m1 ic1, .int .i64 x1] 25)
  have hu1b := (Upd.refl [] w1).alloc (.cells #[.slice sa1 n1 sc1, .slice ia1 m1 ic1, .int .i64 x1] 25)
  have hu1 := hu1a.trans hu1b (by simp)
  have HH1 := Lib.hid (HH1.out.stay hu1b)
  generalize w1.alloc (.cells #[.slice sa1 n1 sc1, .slice ia1 m1 ic1, .int .i64 x1] 25) = W1 at hb1 hu1 hu1b HH1 ⊢
  generalize w1.heap.size = P1 at hb1 ⊢
  have HB1 := Lib.hid hb1
  have HU1 : Hid (Upd [] W0 W1) := HU0.out.trans hu1 (by simp)
  clear hb1 hu1 hu1a 
  have HIS := Lib.hid (hIS.stay hu1b)
  clear hIS hu1b
  have HPK := Lib.hid (Pick_any ad cap p.2 n W1 HIS.out.ints (by omega))
  go_upto_region 4 with (go_at_call 16; refine HPK.out.mono ?_; rintro e w' ⟨rfl, rfl⟩)
  clear HPK
  generalize pickA p.2 n = h
  have HGA : Hid (Good a1) := by show Good a1; rw [HQ1.out]; exact HGD.out
  have HIA : Hid (Iss a1 p.2) := by show Iss a1 p.2; rw [HQ1.out]; exact HIO.out
  obtain ⟨l10, l11, l12⟩ := cells3 HB1.out
  have HK2 := Lib.hid (HAA.out.rel ⟨a1, sa1, sc1, ia1, ic1⟩ h W1 HH1.out HGA.out)
  rw [HEN1.out] at HK2
  go_upto_region 5 with (go_at_call 21; refine (HK2.out).mono ?_; rintro e w2 ⟨r', rfl, hN⟩; obtain ⟨a2, sa2, sc2, ia2, ic2⟩ := r'; unfold encA)
  have HH2 := Lib.hid hN.has
  have HQ2 := Lib.hid hN.eq
  have hAV := hN.has.avoids (Nat.le_refl _)
  have hPG := hN.upd.size
  have HEN2 : Hid (encA ⟨a2, sa2, sc2, ia2, ic2⟩ = .agg #[.slice sa2 a2.sl.length sc2, .slice ia2 a2.id.length ic2, .int .i64 a2.nx]) := rfl
  have hu2a := hN.upd
  clear hN HK2
  simp only at HQ2 ⊢
  obtain ⟨q2, hq2⟩ : ∃ q, q = relA a1 h := ⟨_, rfl⟩
  rw [← hq2] at HQ2 ⊢
  have HR2 := Lib.hid hq2
  clear hq2
  generalize a2.sl.length = n2 at HEN2 ⊢
  generalize a2.id.length = m2 at HEN2 ⊢
  generalize a2.nx = x2 at HEN2 ⊢
  have hb2 := heap_alloc1 w2 (.cells #[.slice sa2 n2 sc2, .slice ia2 m2 ic2, .int .i64 x2] 25)
  have hu2b := (Upd.refl [] w2).alloc (.cells #[.slice sa2 n2 sc2, .slice ia2 m2 ic2, .int .i64 x2] 25)
  have hu2 := hu2a.trans hu2b (by simp)
  have HH2 := Lib.hid (HH2.out.stay hu2b)
  generalize w2.alloc (.cells #[.slice sa2 n2 sc2, .slice ia2 m2 ic2, .int .i64 x2] 25) = W2 at hb2 hu2 hu2b HH2 ⊢
  generalize w2.heap.size = P2 at hb2 hAV hPG ⊢
  have HB2 := Lib.hid hb2
  have HB1 := Lib.hid (hu2.at HB1.out (by simp))
  have HH1 := Lib.hid (HH1.out.stay hu2)
  have HU2 : Hid (Upd [] W0 W2) := HU1.out.trans hu2 (by simp)
  have hu2 := hu2a.trans hu2b (by simp)
  clear hb2 hu2a hu2b l10 l11 l12
  have HIS2 := Lib.hid (HIS.out.stay hu2)
  clear hu2
  obtain ⟨bq, hbq⟩ : ∃ b, b = q2.2 := ⟨_, rfl⟩
  rw [← hbq]
  by_cases hfr : Frees a1 h
  · have hqq : q2 = (putA a1 h, true) := by rw [HR2.out, relA, if_pos hfr]
    have hbt : bq = true := by rw [hbq, hqq]
    have HE2 : Hid (a2 = putA a1 h) := by show a2 = _; rw [HQ2.out, hqq]
    have HG2 : Hid (Good a2) := by show Good a2; rw [HE2.out]; exact HGA.out.put hfr
    have HOK : Hid (StOk h 200 (a2, p.2)) := ⟨HG2.out, by simp only [HE2.out]; exact put_iss HIA.out hfr, by simp only [HE2.out]; exact put_dead hfr, by simp only; omega⟩
    subst hbt
    clear hbq hqq hfr
    obtain ⟨l20, l21, l22⟩ := cells3 HB2.out
    have HKV := Lib.hid (Valid_has ⟨a2, sa2, sc2, ia2, ic2⟩ W2 HH2.out (by have := HG2.out.small.1; simp only; omega) (by have := HG2.out.small.2; simp only; omega))
    rw [HEN2.out] at HKV
    simp only [validA_yes.2 HG2.out.valid] at HKV
    go_upto_region 9 with (go_at_call 14; refine HKV.out.mono ?_; rintro e W3 ⟨rfl, hu3⟩)
    have HST : Hid (StAt W0 P2 (a2, p.2) ⟨a2, sa2, sc2, ia2, ic2⟩ ad cap W3) := by
      have hs := HEN2.out
      have hcl : cellsA ⟨a2, sa2, sc2, ia2, ic2⟩ = #[.slice sa2 n2 sc2, .slice ia2 m2 ic2, .int .i64 x2] := by
        simp only [encA, Value.agg.injEq] at hs
        exact hs
      exact ⟨rfl, by rw [hcl]; exact hu3.at HB2.out (by simp), HH2.out.stay hu3, HIS2.out.stay hu3, ⟨hAV, HIS.out.avoids hPG⟩, HU2.out.trans hu3 (by simp), by have := HU1.out.size; omega⟩
    clear l20 l21 l22 hu3 HKV hAV hPG
    obtain ⟨N, hN⟩ : ∃ N, N = min M 100 := ⟨_, rfl⟩
    rw [show p.2.length = (a2, p.2).2.length from rfl]
    go_wp2_with fail
    go_loopg [15, 16] N (fun gk v15 vi wr => ∃ (k : Nat) (pk : Ar × List Int) (r : ArR) (ad : Option Addr) (cap : Nat), v15 = .slice ad pk.2.length cap ∧ vi = .int .i64 k ∧ k + gk = N ∧ Hid (StOk h (200 + k) pk) ∧ Hid (StAt W0 P2 pk r ad cap wr))
    case atStart => exact ⟨0, (a2, p.2), _, ad, cap, rfl, rfl, by omega, HOK, HST⟩
    case round =>
      obtain ⟨k, pk, r, ad, cap, rfl, rfl, hkg, HO, HS⟩ := hrel
      obtain ⟨A0, is⟩ := pk
      obtain ⟨a, sa, sc, ia, ic⟩ := r
      have hea : a = A0 := HS.out.eq
      subst hea
      by_cases hlt : k < N
      · have hkM : k < M := by omega
        have hltz : (k : Int) < (M : Int) := by omega
        have hd1 : decide ((k : Int) < (M : Int)) = true := by simp; omega
        have hd2 : decide ((k : Int) < 100) = true := by simp; omega
        have hk1 : k < ms.length := by have := HM.out; omega
        obtain ⟨hok, bb, oo, hla, k0', k1', k2', k3'⟩ := (HMS.out.stay (HUb.out.trans HS.out.upd (by simp))) k hk1
        subst hla
        generalize ms[k] = o at *
        have hcall := fun W' (hu : Upd [] wr W') => step_has ⟨a, sa, sc, ia, ic⟩ ad cap is o W' (HS.out.has.stay hu) HO.out.good (HS.out.his.stay hu) (by have := HO.out.len; simp only at this; omega) hok
        have HIU := Lib.hid (step_issue HO.out.good HO.out.iss o)
        have HOK2 := Lib.hid (HO.out.step o)
        obtain ⟨q1, q2, q3, hq⟩ : ∃ q1 q2 q3, stepA a is o = (q1, q2, q3) := ⟨_, _, _, rfl⟩
        simp only [hq] at HIU HOK2
        have HC : Hid (∀ W', Upd [] wr W' → Calls Try.prog 27 #[.agg #[.slice sa a.sl.length sc, .slice ia a.id.length ic, .int .i64 a.nx], .slice ad is.length cap, .agg #[.int .u8 o.k, .int .i64 o.n, .int .u8 o.a, .int .u8 o.b]] W' fun e w' => ∃ a' sa' sc' ia' ic' ad' cap', e = .returned (.tuple #[.agg #[.slice sa' (Ar.sl a').length sc', .slice ia' (Ar.id a').length ic', .int .i64 (Ar.nx a')], .slice ad' q2.length cap', .bool q3]) ∧ Nxt W' ⟨a, sa, sc, ia, ic⟩ q1 w' ⟨a', sa', sc', ia', ic'⟩ ∧ HasI w' ad' cap' q2 ∧ ∀ b, b < W'.heap.size → AvoidsI ad is b → AvoidsI ad' q2 b) := fun W' hu => by
          refine (hcall W' hu).mono ?_
          rintro e w' ⟨r', ad', cap', he, hN, hi, hav⟩
          obtain ⟨a', sa', sc', ia', ic'⟩ := r'
          rw [hq] at he hN hi hav
          exact ⟨a', sa', sc', ia', ic', ad', cap', he, hN, hi, hav⟩
        have bx := HS.out.bx
        simp only [cellsA] at bx
        have HBX := Lib.hid bx
        have HLE := Lib.hid HO.out.len
        simp only at HLE
        generalize a.sl.length = n1' at *
        generalize a.id.length = n2' at *
        generalize a.nx = nx' at *
        generalize hml : is.length = m at *
        have HML := Lib.hid hml
        obtain ⟨c0, c1, c2⟩ := cells3 HBX.out
        clear hq hcall hok bx hml
        generalize o.k = ok at *
        generalize o.n = on at *
        generalize o.a = oa at *
        generalize o.b = ob at *
        go_upto_region 13 with (fail)
        go_cut [17, 18] (fun v17 v18 wx => ∃ Q r' ad' cap', v17 = .pointer (some ⟨Q, 0, none⟩) ∧ v18 = .slice ad' q2.length cap' ∧ Hid (Stepped wr ⟨a, sa, sc, ia, ic⟩ ad is q1 q2 Q ad' cap' wx r'))
        case first =>
          have HKP : Hid (∀ W', Upd [] wr W' → W'.cell? ⟨P2, 0, none⟩ = some (.slice sa n1' sc) ∧ W'.cell? ⟨P2, 1, none⟩ = some (.slice ia n2' ic) ∧ W'.cell? ⟨P2, 2, none⟩ = some (.int .i64 nx') ∧ W'.cell? ⟨bb, oo + k * 4, none⟩ = some (.int .u8 ok) ∧ W'.cell? ⟨bb, oo + k * 4 + 1, none⟩ = some (.int .i64 on) ∧ W'.cell? ⟨bb, oo + k * 4 + 2, none⟩ = some (.int .u8 oa) ∧ W'.cell? ⟨bb, oo + k * 4 + 3, none⟩ = some (.int .u8 ob)) := fun W' hu => ⟨hu.cell c0 (by simp), hu.cell c1 (by simp), hu.cell c2 (by simp), hu.cell k0' (by simp), hu.cell k1' (by simp), hu.cell k2' (by simp), hu.cell k3' (by simp)⟩
          go_region_held3 (fun wz => wz.cell? ⟨P2, 0, none⟩ = some (.slice sa n1' sc) ∧ wz.cell? ⟨P2, 1, none⟩ = some (.slice ia n2' ic) ∧ wz.cell? ⟨P2, 2, none⟩ = some (.int .i64 nx') ∧ wz.cell? ⟨bb, oo + k * 4, none⟩ = some (.int .u8 ok) ∧ wz.cell? ⟨bb, oo + k * 4 + 1, none⟩ = some (.int .i64 on) ∧ wz.cell? ⟨bb, oo + k * 4 + 2, none⟩ = some (.int .u8 oa) ∧ wz.cell? ⟨bb, oo + k * 4 + 3, none⟩ = some (.int .u8 ob)) (first | exact ⟨c0, c1, c2, k0', k1', k2', k3'⟩ | (refine HKP.out _ ?_; (repeat (first | exact Upd.refl [] _ | refine Upd.setCell ?_ (fun hl => absurd hl (Nat.lt_irrefl _)) _ | refine Upd.drew ?_ | refine Upd.alloc ?_ _ | refine Upd.trans (T := []) ?_ (by assumption) (by simp))))) (first
            | (go_at_call 27; (with_reducible refine (HC.out _ ?_).mono ?_); (repeat (first | exact Upd.refl [] _ | refine Upd.drew ?_ | refine Upd.alloc ?_ _ | refine Upd.trans (T := []) ?_ (by assumption) (by simp))); rintro e w' ⟨a', sa', sc', ia', ic', ad', cap', rfl, hN, hi, hav⟩; have hu := hN.upd; try (have pb := hu.at (heap_alloc1 wr (.cells #[.slice none 0 0, .slice none 0 0, .int .i64 0] 25)) (by simp); obtain ⟨z0, z1, z2⟩ := cells3 pb; obtain ⟨y0, y1, y2⟩ := free3 pb; clear pb)))
          all_goals go_wp2_with fail
          all_goals go_meet
          all_goals case rel =>
            first
              | (have hx0 := z0
                 refine ⟨wr.heap.size, ⟨a', sa', sc', ia', ic'⟩, ad', cap', rfl, rfl, ?_⟩
                 have hb := stepped_first HS.out.has HS.out.his (hN.of_upd (w := wr.alloc (.cells #[.slice none 0 0, .slice none 0 0, .int .i64 0] 25)) ((Upd.refl [] _).drew)) hi hav
                 exact hb)
              | (refine ⟨w'.heap.size, ⟨a', sa', sc', ia', ic'⟩, ad', cap', rfl, rfl, ?_⟩
                 have hb := stepped_last (hN.of_upd (w := wr) ((Upd.refl [] wr).drew)) hi hav
                 simp only [cellsA] at hb
                 exact hb)
        case rest =>
        obtain ⟨Q, r', ad', cap', rfl, rfl, HS2⟩ := hcut
        obtain ⟨a', sa', sc', ia', ic'⟩ := r'
        have HCA : Hid (cellsA ⟨a', sa', sc', ia', ic'⟩ = #[.slice sa' a'.sl.length sc', .slice ia' a'.id.length ic', .int .i64 a'.nx]) := rfl
        generalize a'.sl.length = m1 at HCA
        generalize a'.id.length = m2 at HCA
        generalize a'.nx = mx at HCA
        clear c0 c1 c2 k0' k1' k2' k3' HC
        obtain ⟨ql, hql⟩ : ∃ q, q = q2.length := ⟨_, rfl⟩
        rw [← hql]
        have HQL := Lib.hid hql
        have hqm : ql = m ∨ ql = m + 1 := by
          rcases HIU.out with h | ⟨x, h, _⟩
          · left; rw [hql, h]; exact HML.out
          · right; rw [hql, h, List.length_append, HML.out]; rfl
        have hmb : m ≤ 300 := by have := HLE.out; omega
        have HQX : Hid (m < ql → ∃ x, q2 = is ++ [x] ∧ x ∉ is) := fun hlt => by
          rcases HIU.out with h | h
          · exact absurd hlt (by rw [hql, h, HML.out]; omega)
          · exact h
        clear hql HIU
        have HCI : Hid (Ints wc ad is ∧ Ints wc ad' q2) := ⟨(HS.out.his.stay HS2.out.bx.nxt.upd).ints, HS2.out.hi.ints⟩
        go_wp2_with fail
        generalize wr = w0r at *
        go_loopg [20] m (fun gj vi wx => ∃ d : Nat, vi = .int .i64 d ∧ d + gj = m ∧ Hid (Upd [] wc wx))
        case atStart => exact ⟨0, rfl, by omega, Lib.hid (Upd.refl _ _)⟩
        case round =>
        obtain ⟨d, rfl, hdg, HUY⟩ := hrel
        by_cases hdm : d < m
        · have hdz : (d : Int) < (m : Int) := by omega
          have hdd : decide ((d : Int) < (m : Int)) = true := by simp; omega
          by_cases hqm2 : m < ql
          · have hqd : decide ((m : Int) < (ql : Int)) = true := by simp; omega
            have hqz : (m : Int) < (ql : Int) := by omega
            obtain ⟨x, hqe, hxn⟩ := HQX.out hqm2
            have hd1 : d < is.length := by have := HML.out; omega
            have hq1 : ql - 1 < q2.length := by have := HQL.out; omega
            obtain ⟨b1, o1, hb1, e1⟩ := (HCI.out.1.stay HUY.out) d hd1
            obtain ⟨b2, o2, hb2, e2⟩ := (HCI.out.2.stay HUY.out) (ql - 1) hq1
            subst hb1
            subst hb2
            have hne : is[d] ≠ q2[ql - 1] := by
              have hl := HML.out
              have hx : q2[ql - 1] = x := by
                subst hqe
                rw [List.getElem_append_right (by omega)]
                simp
              rw [hx]
              exact fun e => hxn (e ▸ List.getElem_mem hd1)
            have hneb : (is[d] == q2[ql - 1]) = false := by rw [beq_eq_false_iff_ne]; exact hne
            generalize is[d] = u1 at e1 hneb
            generalize q2[ql - 1] = u2 at e2 hneb
            have hwr : IntKind.i64.wrap ((ql : Int) - 1) = ((ql - 1 : Nat) : Int) := by rw [IntKind.wrap_i64]; omega
            have hwz : ((ql - 1 : Nat) : Int) < (ql : Int) := by omega
            clear hqe hxn hne hd1 hq1
            go_wp2_with fail
            go_quiet (fail)
            have HUZ : Hid (Upd [] wc (wr.drewN nq)) := HUY.out.drewN nq
            generalize wr.drewN nq = w4 at HUZ ⊢
            go_wp2_with fail
            go_roundg (m - (d + 1))
            case measure => omega
            case rel => exact ⟨d + 1, by go_num, by omega, HUZ⟩
          · have hqd : decide ((m : Int) < (ql : Int)) = false := by simp; omega
            clear HCI HQX
            have HS3 : Hid (Stepped w0r ⟨a, sa, sc, ia, ic⟩ ad is q1 q2 Q ad' cap' wr ⟨a', sa', sc', ia', ic'⟩) := ⟨⟨HUY.out.at HS2.out.bx.blk (by simp), HS2.out.bx.ge, ⟨HS2.out.bx.nxt.eq, HS2.out.bx.nxt.has.stay HUY.out, HS2.out.bx.nxt.av, HS2.out.bx.nxt.upd.trans HUY.out (by simp)⟩, HS2.out.bx.av⟩, HS2.out.hi.stay HUY.out, HS2.out.av⟩
            have hblk := HS3.out.bx.blk
            rw [HCA.out] at hblk
            have hPP := HS3.out.bx.nxt.upd.at HBX.out (by simp)
            have HPP := Lib.hid hPP
            obtain ⟨g0, g1, g2⟩ := cells3 hblk
            obtain ⟨f0, f1, f2⟩ := cells3 hPP
            obtain ⟨z0, z1, z2⟩ := free3 hPP
            clear hblk hPP
            go_upto_region 20 with (fail)
            have pf := stored3 HPP.out (.slice sa' m1 sc') (.slice ia' m2 ic') (.int .i64 mx)
            have hU5 := upd_set3 wr P2 (.slice sa' m1 sc') (.slice ia' m2 ic') (.int .i64 mx)
            generalize (((wr.setCell ⟨P2, 0, none⟩ (.slice sa' m1 sc')).setCell ⟨P2, 1, none⟩ (.slice ia' m2 ic')).setCell ⟨P2, 2, none⟩ (.int .i64 mx)) = w5 at pf hU5 ⊢
            have HST5 : Hid (StAt W0 P2 (q1, q2) ⟨a', sa', sc', ia', ic'⟩ ad' cap' w5) := HS.out.step HS3.out hU5 (by rw [HCA.out]; exact pf)
            have heq : a' = q1 := HST5.out.eq
            subst heq
            clear g0 g1 g2 f0 f1 f2 z0 z1 z2 hU5
            obtain ⟨g0, g1, g2⟩ := cells3 pf
            clear pf
            have HA1 := Lib.hid (HAA.out.look ⟨a', sa', sc', ia', ic'⟩ h w5 HST5.out.has HOK2.out.good)
            rw [show encA ⟨a', sa', sc', ia', ic'⟩ = .agg (cellsA ⟨a', sa', sc', ia', ic'⟩) from rfl, HCA.out] at HA1
            go_upto_region 22 with (go_at_call 23; refine HA1.out.mono ?_; rintro e w6 ⟨rfl, hu6⟩; simp only [dead_look HOK2.out.dead, aggS])
            have hu6b := hu6.trans ((Upd.refl [] w6).alloc (.cells #[.int .i64 0, .int .i64 0, .int .i64 0, .int .i64 0] 44)) (by simp)
            generalize w6.alloc (.cells #[.int .i64 0, .int .i64 0, .int .i64 0, .int .i64 0] 44) = W6 at hu6b ⊢
            have HST6 := Lib.hid (HST5.out.stay hu6b)
            clear g0 g1 g2 hu6 hu6b HA1
            have bx6 := HST6.out.bx
            rw [HCA.out] at bx6
            obtain ⟨g0, g1, g2⟩ := cells3 bx6
            clear bx6
            have HA2 := Lib.hid (HAA.out.trans ⟨a', sa', sc', ia', ic'⟩ h 1 3 W6 HST6.out.has HOK2.out.good)
            rw [show encA ⟨a', sa', sc', ia', ic'⟩ = .agg (cellsA ⟨a', sa', sc', ia', ic'⟩) from rfl, HCA.out] at HA2
            go_upto_region 23 with (go_at_call 19; refine HA2.out.mono ?_; rintro e w7 ⟨r7, rfl, hN7⟩; simp only [dead_trans HOK2.out.dead] at hN7 ⊢; obtain ⟨a7, sa7, sc7, ia7, ic7⟩ := r7; unfold encA)
            have hu7b := hN7.upd.trans ((Upd.refl [] w7).alloc (.cells #[.slice sa7 a7.sl.length sc7, .slice ia7 a7.id.length ic7, .int .i64 a7.nx] 25)) (by simp)
            generalize w7.alloc (.cells #[.slice sa7 a7.sl.length sc7, .slice ia7 a7.id.length ic7, .int .i64 a7.nx] 25) = W7 at hu7b ⊢
            have HST7 := Lib.hid (HST6.out.stay hu7b)
            clear g0 g1 g2 hN7 hu7b HA2
            have bx7 := HST7.out.bx
            rw [HCA.out] at bx7
            obtain ⟨g0, g1, g2⟩ := cells3 bx7
            clear bx7
            have HA3 := Lib.hid (HAA.out.rel ⟨a', sa', sc', ia', ic'⟩ h W7 HST7.out.has HOK2.out.good)
            rw [show encA ⟨a', sa', sc', ia', ic'⟩ = .agg (cellsA ⟨a', sa', sc', ia', ic'⟩) from rfl, HCA.out] at HA3
            go_upto_region 24 with (go_at_call 21; refine HA3.out.mono ?_; rintro e w8 ⟨r8, rfl, hN8⟩; simp only [dead_rel HOK2.out.dead] at hN8 ⊢; obtain ⟨a8, sa8, sc8, ia8, ic8⟩ := r8; unfold encA)
            have hu8b := hN8.upd.trans ((Upd.refl [] w8).alloc (.cells #[.slice sa8 a8.sl.length sc8, .slice ia8 a8.id.length ic8, .int .i64 a8.nx] 25)) (by simp)
            generalize w8.alloc (.cells #[.slice sa8 a8.sl.length sc8, .slice ia8 a8.id.length ic8, .int .i64 a8.nx] 25) = W8 at hu8b ⊢
            have HST8 := Lib.hid (HST7.out.stay hu8b)
            clear g0 g1 g2 hN8 hu8b HA3
            go_wp2_with fail
            go_roundg (N - (k + 1))
            case measure => omega
            case rel => exact ⟨k + 1, (a', q2), _, ad', cap', by rw [HQL.out], by go_num, by omega, by rw [← Nat.add_assoc]; exact HOK2, HST8⟩
        · have hdz : ¬ (d : Int) < (m : Int) := by omega
          have hdd : decide ((d : Int) < (m : Int)) = false := by simp; omega
          clear HCI HQX
          have HS3 : Hid (Stepped w0r ⟨a, sa, sc, ia, ic⟩ ad is q1 q2 Q ad' cap' wr ⟨a', sa', sc', ia', ic'⟩) := ⟨⟨HUY.out.at HS2.out.bx.blk (by simp), HS2.out.bx.ge, ⟨HS2.out.bx.nxt.eq, HS2.out.bx.nxt.has.stay HUY.out, HS2.out.bx.nxt.av, HS2.out.bx.nxt.upd.trans HUY.out (by simp)⟩, HS2.out.bx.av⟩, HS2.out.hi.stay HUY.out, HS2.out.av⟩
          have hblk := HS3.out.bx.blk
          rw [HCA.out] at hblk
          have hPP := HS3.out.bx.nxt.upd.at HBX.out (by simp)
          have HPP := Lib.hid hPP
          obtain ⟨g0, g1, g2⟩ := cells3 hblk
          obtain ⟨f0, f1, f2⟩ := cells3 hPP
          obtain ⟨z0, z1, z2⟩ := free3 hPP
          clear hblk hPP
          go_upto_region 20 with (fail)
          have pf := stored3 HPP.out (.slice sa' m1 sc') (.slice ia' m2 ic') (.int .i64 mx)
          have hU5 := upd_set3 wr P2 (.slice sa' m1 sc') (.slice ia' m2 ic') (.int .i64 mx)
          generalize (((wr.setCell ⟨P2, 0, none⟩ (.slice sa' m1 sc')).setCell ⟨P2, 1, none⟩ (.slice ia' m2 ic')).setCell ⟨P2, 2, none⟩ (.int .i64 mx)) = w5 at pf hU5 ⊢
          have HST5 : Hid (StAt W0 P2 (q1, q2) ⟨a', sa', sc', ia', ic'⟩ ad' cap' w5) := HS.out.step HS3.out hU5 (by rw [HCA.out]; exact pf)
          have heq : a' = q1 := HST5.out.eq
          subst heq
          clear g0 g1 g2 f0 f1 f2 z0 z1 z2 hU5
          obtain ⟨g0, g1, g2⟩ := cells3 pf
          clear pf
          have HA1 := Lib.hid (HAA.out.look ⟨a', sa', sc', ia', ic'⟩ h w5 HST5.out.has HOK2.out.good)
          rw [show encA ⟨a', sa', sc', ia', ic'⟩ = .agg (cellsA ⟨a', sa', sc', ia', ic'⟩) from rfl, HCA.out] at HA1
          go_upto_region 22 with (go_at_call 23; refine HA1.out.mono ?_; rintro e w6 ⟨rfl, hu6⟩; simp only [dead_look HOK2.out.dead, aggS])
          have hu6b := hu6.trans ((Upd.refl [] w6).alloc (.cells #[.int .i64 0, .int .i64 0, .int .i64 0, .int .i64 0] 44)) (by simp)
          generalize w6.alloc (.cells #[.int .i64 0, .int .i64 0, .int .i64 0, .int .i64 0] 44) = W6 at hu6b ⊢
          have HST6 := Lib.hid (HST5.out.stay hu6b)
          clear g0 g1 g2 hu6 hu6b HA1
          have bx6 := HST6.out.bx
          rw [HCA.out] at bx6
          obtain ⟨g0, g1, g2⟩ := cells3 bx6
          clear bx6
          have HA2 := Lib.hid (HAA.out.trans ⟨a', sa', sc', ia', ic'⟩ h 1 3 W6 HST6.out.has HOK2.out.good)
          rw [show encA ⟨a', sa', sc', ia', ic'⟩ = .agg (cellsA ⟨a', sa', sc', ia', ic'⟩) from rfl, HCA.out] at HA2
          go_upto_region 23 with (go_at_call 19; refine HA2.out.mono ?_; rintro e w7 ⟨r7, rfl, hN7⟩; simp only [dead_trans HOK2.out.dead] at hN7 ⊢; obtain ⟨a7, sa7, sc7, ia7, ic7⟩ := r7; unfold encA)
          have hu7b := hN7.upd.trans ((Upd.refl [] w7).alloc (.cells #[.slice sa7 a7.sl.length sc7, .slice ia7 a7.id.length ic7, .int .i64 a7.nx] 25)) (by simp)
          generalize w7.alloc (.cells #[.slice sa7 a7.sl.length sc7, .slice ia7 a7.id.length ic7, .int .i64 a7.nx] 25) = W7 at hu7b ⊢
          have HST7 := Lib.hid (HST6.out.stay hu7b)
          clear g0 g1 g2 hN7 hu7b HA2
          have bx7 := HST7.out.bx
          rw [HCA.out] at bx7
          obtain ⟨g0, g1, g2⟩ := cells3 bx7
          clear bx7
          have HA3 := Lib.hid (HAA.out.rel ⟨a', sa', sc', ia', ic'⟩ h W7 HST7.out.has HOK2.out.good)
          rw [show encA ⟨a', sa', sc', ia', ic'⟩ = .agg (cellsA ⟨a', sa', sc', ia', ic'⟩) from rfl, HCA.out] at HA3
          go_upto_region 24 with (go_at_call 21; refine HA3.out.mono ?_; rintro e w8 ⟨r8, rfl, hN8⟩; simp only [dead_rel HOK2.out.dead] at hN8 ⊢; obtain ⟨a8, sa8, sc8, ia8, ic8⟩ := r8; unfold encA)
          have hu8b := hN8.upd.trans ((Upd.refl [] w8).alloc (.cells #[.slice sa8 a8.sl.length sc8, .slice ia8 a8.id.length ic8, .int .i64 a8.nx] 25)) (by simp)
          generalize w8.alloc (.cells #[.slice sa8 a8.sl.length sc8, .slice ia8 a8.id.length ic8, .int .i64 a8.nx] 25) = W8 at hu8b ⊢
          have HST8 := Lib.hid (HST7.out.stay hu8b)
          clear g0 g1 g2 hN8 hu8b HA3
          go_wp2_with fail
          go_roundg (N - (k + 1))
          case measure => omega
          case rel => exact ⟨k + 1, (a', q2), _, ad', cap', by rw [HQL.out], by go_num, by omega, by rw [← Nat.add_assoc]; exact HOK2, HST8⟩
      · obtain rfl : k = N := by omega
        clear HST HOK
        by_cases hkM : k < M
        · have hd1 : decide ((k : Int) < (M : Int)) = true := by simp; omega
          have hd2 : decide ((k : Int) < 100) = false := by simp; omega
          go_wp2_with fail
          go_ret
          exact ⟨rfl, HUb.out.trans HS.out.upd (by simp)⟩
        · have hd1 : decide ((k : Int) < (M : Int)) = false := by simp; omega
          go_wp2_with fail
          go_ret
          exact ⟨rfl, HUb.out.trans HS.out.upd (by simp)⟩
  · have hqq : q2 = (a1, false) := by rw [HR2.out, relA, if_neg hfr]
    have hbt : bq = false := by rw [hbq, hqq]
    subst hbt
    clear hbq hqq hfr
    go_wp2_with fail
    go_ret
    exact ⟨rfl, HUb.out.trans HU2.out (by simp)⟩
end Go.Proofs.Ythpofcomlidoiaa
