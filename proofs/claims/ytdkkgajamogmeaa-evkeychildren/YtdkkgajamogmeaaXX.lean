/- Contracts of the stable sort: the whole. -/
import Derived.Test.YtdkkgajamogmeaaXW
namespace Go.Proofs.Ytdkkgajamogmeaa
open Go.Shelf Go.RowKit Go.Lib Go.Sort
variable {α : Type} [Inhabited α]

/-- From lo to hi: blocks of z places, each sorted, each with just what came from its places. -/
structure Blks (lt : α → α → Bool) (tag : α → Nat) (z lo hi : Nat) (d : Array α) : Prop where
  home : ∀ p, lo ≤ p → p < hi → tag d[p]! / z = p / z
  srt : ∀ p q, lo ≤ p → p < q → q < hi → p / z = q / z → tlt lt tag d[q]! d[p]! = false
section
variable {lt : α → α → Bool} {tag : α → Nat}
theorem div_of {z c p : Nat} (h1 : z * c ≤ p) (h2 : p < z * c + z) : p / z = c := by
  have hz : 0 < z := by omega
  apply Nat.div_eq_of_lt_le
  · rw [Nat.mul_comm]; exact h1
  · rw [Nat.add_mul, Nat.mul_comm c z]; omega
theorem div_lt {z c p : Nat} (hz : 0 < z) (h : p < z * c) : p / z < c := by
  rw [Nat.div_lt_iff_lt_mul hz, Nat.mul_comm]; exact h
theorem Blks.grow {z c b : Nat} {d d' : Array α} (hz : 0 < z) (h : Blks lt tag z 0 (z * c) d) (h2 : b ≤ z * c + z) (hb : b ≤ d.size) (hh : ∀ p, z * c ≤ p → p < b → tag d[p]! / z = p / z) (hp : PermIn (z * c) b d d') (hs : SortedIn (tlt lt tag) (z * c) b d') : Blks lt tag z 0 b d' := by
  refine ⟨fun p _ p2 => ?_, fun p q _ p2 p3 p4 => ?_⟩
  · by_cases c1 : p < z * c
    · rw [hp.2.1 p (.inl c1)]; exact h.home p (Nat.zero_le _) c1
    · obtain ⟨j, j1, j2, ej⟩ := permIn_at hb hp (by omega : z * c ≤ p) p2
      rw [ej, hh j j1 j2, div_of j1 (by omega), div_of (by omega : z * c ≤ p) (by omega)]
  · by_cases c1 : q < z * c
    · rw [hp.2.1 p (.inl (by omega)), hp.2.1 q (.inl c1)]; exact h.srt p q (Nat.zero_le _) p2 c1 p4
    · by_cases c2 : p < z * c
      · have := div_lt hz c2
        rw [p4, div_of (by omega : z * c ≤ q) (by omega)] at this
        omega
      · exact hs p q (by omega) p2 p3
theorem Blks.rest {z a b n : Nat} {d d' : Array α} (h : Blks lt tag z a n d) (hab : a ≤ b) (hp : PermIn a b d d') : Blks lt tag z b n d' := by
  refine ⟨fun p p1 p2 => ?_, fun p q p1 p2 p3 p4 => ?_⟩
  · rw [hp.2.1 p (.inr p1)]; exact h.home p (by omega) p2
  · rw [hp.2.1 p (.inr p1), hp.2.1 q (.inr (by omega))]; exact h.srt p q (by omega) p2 p3 p4
theorem Blks.half {z c n : Nat} {d : Array α} (h : Blks lt tag z (2 * z * c) n d) (p : Nat) (h1 : 2 * z * c ≤ p) (h2 : p < n) : tag d[p]! / (2 * z) = p / (2 * z) := by
  rw [Nat.mul_comm 2 z, ← Nat.div_div_eq_div_mul, ← Nat.div_div_eq_div_mul, h.home p h1 h2]
theorem Blks.sorted {z c n lo hi : Nat} {d : Array α} (h : Blks lt tag z (2 * z * c) n d) (e : Nat) (h1 : z * e ≤ lo) (h2 : hi ≤ z * e + z) (h3 : 2 * z * c ≤ lo) (h4 : hi ≤ n) : SortedIn (tlt lt tag) lo hi d := fun p q p1 p2 p3 =>
  h.srt p q (by omega) p2 (by omega) (by rw [div_of (c := e) (by omega) (by omega), div_of (c := e) (by omega) (by omega)])
theorem Blks.tags {z c n m b : Nat} {d : Array α} (h : Blks lt tag z (2 * z * c) n d) (e : Nat) (he : m = z * e + z) (h2 : b ≤ m + z) (h3 : z * e = 2 * z * c) (h4 : b ≤ n) : ∀ x y, 2 * z * c ≤ x → x < m → m ≤ y → y < b → tag d[x]! < tag d[y]! := by
  intro x y x1 x2 y1 y2
  have ex := h.home x x1 (by omega)
  have ey := h.home y (by omega) (by omega)
  have hz : z * (e + 1) = z * e + z := by rw [Nat.mul_add, Nat.mul_one]
  rw [div_of (p := x) (c := e) (by omega) (by omega)] at ex
  rw [div_of (p := y) (c := e + 1) (by omega) (by omega)] at ey
  refine Nat.lt_of_not_le fun hle => ?_
  have := Nat.div_le_div_right (c := z) hle
  omega
theorem Blks.all {z n : Nat} {d : Array α} (h : Blks lt tag z 0 n d) (hz : n ≤ z) : SortedIn (tlt lt tag) 0 n d := fun p q p1 p2 p3 =>
  h.srt p q p1 p2 p3 (by rw [Nat.div_eq_of_lt (by omega), Nat.div_eq_of_lt (by omega)])
theorem Blks.none (z : Nat) (d : Array α) (a : Nat) : Blks lt tag z a a d := ⟨fun p _ _ => by omega, fun p q _ _ _ => by omega⟩
theorem Blks.from0 {z n : Nat} {d : Array α} (h : Blks lt tag z 0 n d) : Blks lt tag z (2 * z * 0) n d := by simpa using h
end

set_option maxHeartbeats 16000000 in
set_option maxRecDepth 1000000 in
theorem stable_any {P : Program} {k : Nat} (B : Bed P k) (enc : α → List Value) (cf : α → α → Int) (tag : α → Nat) (hO : SWO (ltOf cf)) (g : Nat) (cb : Array Value) (blk off cap : Nat) (d0 : Array α) (w0 : World)
    (eg : ∀ args w, (callFunc g args).run P w = .ok (.enter g args) w) (hcmp : CmpLays P g cb enc k cf blk off d0.size w0) (R : RowK enc k w0 blk off d0) (hsz : d0.size ≤ 1000000)
    (ht : ∀ p, p < d0.size → tag d0[p]! = p) :
    Calls P 32 #[.slice (some ⟨blk, off, none⟩) d0.size cap, .int .i64 d0.size, .func (.func g) #[] cb] w0 fun e w' =>
      e = .returned (.tuple #[]) ∧ ∃ d', PermIn 0 d0.size d0 d' ∧ SortedIn (tlt (ltOf cf) tag) 0 d0.size d' ∧ SWK enc k w0 blk off d' w' := by
  have mixed := B.mixed; have t0 := B.t0; have a0 := B.a0; have z0 := B.z0; have v0 := B.v0; have t3 := B.t3; have a3 := B.a3; have z3 := B.z3; have v3 := B.v3; have t4 := B.t4; have a4 := B.a4; have z4 := B.z4; have v4 := B.v4; have t25 := B.t25; have a25 := B.a25; have z25 := B.z25; have v25 := B.v25; have t28 := B.t28; have a28 := B.a28; have z28 := B.z28; have v28 := B.v28; have aE := B.aE; have zE := B.zE
  have e33 : ∀ args w, (callFunc 33 args).run P w = .ok (.enter 33 args) w := enters_of B.f33 (by kernel_rfl) rfl
  have e34 : ∀ args w, (callFunc 34 args).run P w = .ok (.enter 34 args) w := enters_of B.f34 (by kernel_rfl) rfl
  have SI : Aside _ := fun (a b : Nat) (d : Array α) (w : World) => ins_any B enc cf tag hO g cb blk off cap a b d0 d w0 w eg hcmp R
  have SM : Aside _ := sym_all B enc cf tag hO g cb blk off cap d0 w0 eg hcmp R (by omega) d0.size
  have S0 : Aside (SWK enc k w0 blk off d0 w0) := SWK.start R.hH
  have HT := Lib.hid ht
  clear hcmp hO ht
  obtain ⟨n, hn⟩ : ∃ n, n = d0.size := ⟨_, rfl⟩
  have HN := Lib.hid hn
  rw [← hn] at hsz ⊢
  clear hn
  go_enter B.f32, Try.ntmps32
  go_wp2_with fail
  go_loopg [7, 8] n (fun gk va vb wr => ∃ (A Bv c : Nat) (dk : Array α), va = .int .i64 A ∧ vb = .int .i64 Bv ∧ Hid (A = 20 * c) ∧ Bv = A + 20 ∧ A ≤ n ∧ n - A ≤ gk ∧ Hid (Blks (ltOf cf) tag 20 0 A dk) ∧ Hid (∀ p, A ≤ p → p < n → tag dk[p]! = p) ∧ Hid (PermIn 0 n d0 dk) ∧ Aside (SWK enc k w0 blk off dk wr))
  case atStart => exact ⟨0, 20, 0, d0, by go_num, by go_num, rfl, rfl, by omega, by omega, Blks.none _ _ _, fun p _ h => HT.out p (by have := HN.out; omega), permIn_refl _ _ _, S0⟩
  case round =>
    clear S0
    obtain ⟨A, Bv, c, dk, rfl, rfl, HA, hBv, hcn, hg, HB, HH, HP, S1⟩ := hrel
    have HDS : Hid (dk.size = n) := HP.out.1.trans HN.out.symm
    have HBV := Lib.hid hBv
    by_cases hlt : Bv ≤ n
    · have hltz : (Bv : Int) ≤ (n : Int) := by omega
      have hc := SI.out A Bv dk wr (by have := HDS.out; have := HN.out; omega) S1.out (by omega) (by have := HDS.out; omega) (by have := HDS.out; omega) (fun x y h1 h2 h3 => by rw [HH.out x (by omega) (by omega), HH.out y (by omega) (by omega)]; exact h2)
      rw [← HN.out] at hc
      have HCC := Lib.hid hc
      have ebb : IntKind.i64.wrap ((Bv : Int) + 20) = (Bv : Int) + 20 := by rw [IntKind.wrap_i64]; omega
      clear hc hBv
      go_wp2_with fail
      refine HCC.out.mono ?_
      rintro ex w' ⟨rfl, d1, hp, hr, hsw⟩
      have HR := Lib.hid hr; have HPP := Lib.hid hp; have SW : Aside _ := hsw
      clear hr hp hsw
      go_wp2_with fail
      go_roundg (n - Bv)
      case measure => have := HBV.out; omega
      case rel =>
        have hbv := HBV.out
        have ha := HA.out
        have hds := HDS.out
        refine ⟨Bv, Bv + 20, c + 1, d1, rfl, by go_num, (show Bv = 20 * (c + 1) by omega), rfl, hlt, Nat.le_refl _, ?_, fun p h1 h2 => by rw [HPP.out.2.1 p (.inr h1)]; exact HH.out p (by omega) h2, permIn_trans _ _ _ _ _ HP.out (permIn_mono _ _ _ _ _ _ (by omega) (by omega) (by omega) HPP.out), SW⟩
        have hB := HB.out; have hP := HPP.out; have hR := HR.out
        rw [ha] at hB hP hR
        exact Blks.grow (by omega) hB (by omega) (by omega) (fun p h1 h2 => by rw [HH.out p (by omega) (by omega)]) hP hR
    · have hltz : ¬ (Bv : Int) ≤ (n : Int) := by omega
      have hc := SI.out A n dk wr (by have := HDS.out; have := HN.out; omega) S1.out (by omega) (by have := HDS.out; omega) (by have := HDS.out; omega) (fun x y h1 h2 h3 => by rw [HH.out x (by omega) (by omega), HH.out y (by omega) (by omega)]; exact h2)
      rw [← HN.out] at hc
      have HCC := Lib.hid hc
      clear hc hBv
      go_wp2_with fail
      refine HCC.out.mono ?_
      rintro ex w' ⟨rfl, d1, hp, hr, hsw⟩
      have HP1 : Hid (PermIn 0 n d0 d1) := permIn_trans _ _ _ _ _ HP.out (permIn_mono _ _ _ _ _ _ (by omega) (by omega) (by have := HDS.out; omega) hp)
      have HB1 : Hid (Blks (ltOf cf) tag 20 0 n d1) := by
        have hbv := HBV.out
        have ha := HA.out
        have hds := HDS.out
        have hB := HB.out
        rw [ha] at hB hp hr
        exact Blks.grow (by omega) hB (by omega) (by omega) (fun p h1 h2 => by rw [HH.out p (by omega) (by omega)]) hp hr
      have SW : Aside _ := hsw
      clear hp hr hsw HB HH HP HDS S1 HCC HA HBV hcn hg hlt hltz
      go_wp2_with fail
      go_loopg [6] n (fun gk vz wr => ∃ (z : Nat) (dk : Array α), vz = .int .i64 z ∧ 1 ≤ z ∧ n - z ≤ gk ∧ z ≤ 2000000 ∧ Hid (Blks (ltOf cf) tag z 0 n dk) ∧ Hid (PermIn 0 n d0 dk) ∧ Aside (SWK enc k w0 blk off dk wr))
      case atStart => exact ⟨20, d1, by go_num, by omega, by omega, by omega, HB1, HP1, SW⟩
      case round =>
        clear SW HB1 HP1
        obtain ⟨z, dk, rfl, hz1, hg, hz2, HB, HP, S1⟩ := hrel
        by_cases hlt : z < n
        · have hltz : (z : Int) < (n : Int) := by omega
          have e2z : IntKind.i64.wrap (2 * (z : Int)) = 2 * (z : Int) := by rw [IntKind.wrap_i64]; omega
          go_wp2_with fail
          go_loopg [7, 8] n (fun gk3 va vb wr3 => ∃ (A Bv c : Nat) (dj : Array α), va = .int .i64 A ∧ vb = .int .i64 Bv ∧ Hid (A = 2 * z * c) ∧ Hid (Bv = A + 2 * z) ∧ A ≤ n ∧ n - A ≤ gk3 ∧ Hid (Blks (ltOf cf) tag (2 * z) 0 A dj) ∧ Hid (Blks (ltOf cf) tag z A n dj) ∧ Hid (PermIn 0 n d0 dj) ∧ Aside (SWK enc k w0 blk off dj wr3))
          case atStart => exact ⟨0, 2 * z, 0, dk, by go_num, by first | rfl | go_num | (congr 1; omega), rfl, (show 2 * z = 0 + 2 * z by omega), by omega, by omega, Blks.none _ _ _, HB, HP, S1⟩
          case round =>
            clear S1 HB HP
            obtain ⟨A, Bv, c, dj, rfl, rfl, HA, HBV, hcn, hg3, HB1, HB2, HP, S1⟩ := hrel
            have HDS : Hid (dj.size = n) := HP.out.1.trans HN.out.symm
            obtain ⟨M, hM⟩ : ∃ M, M = A + z := ⟨_, rfl⟩
            have eM : IntKind.i64.wrap ((A : Int) + (z : Int)) = (M : Int) := by rw [IntKind.wrap_i64]; omega
            have HM := Lib.hid hM
            have hze : z * (2 * c) = 2 * z * c := by rw [Nat.mul_comm 2 z, Nat.mul_assoc]
            have HZE := Lib.hid hze
            clear hM hze
            by_cases hlt2 : Bv ≤ n
            · have hltz2 : (Bv : Int) ≤ (n : Int) := by omega
              have ebb : IntKind.i64.wrap ((Bv : Int) + 2 * (z : Int)) = (Bv : Int) + 2 * (z : Int) := by rw [IntKind.wrap_i64]; omega
              have hc := by
                have hds := HDS.out; have ha := HA.out; have hbv := HBV.out; have hm := HM.out; have hze := HZE.out; have hn := HN.out
                have hB2 := HB2.out
                rw [ha] at hB2
                exact SM.out A M Bv dj wr (by omega) (by omega) S1.out (by omega) (by omega) (by omega) (hB2.sorted (2 * c) (by omega) (by omega) (by omega) (by omega)) (hB2.sorted (2 * c + 1) (by rw [Nat.mul_add]; omega) (by rw [Nat.mul_add]; omega) (by omega) (by omega)) (by have := hB2.tags (m := M) (b := Bv) (2 * c) (by omega) (by omega) (by omega) (by omega); rw [← ha] at this; exact this)
              rw [← HN.out] at hc
              have HCC := Lib.hid hc
              clear hc
              go_wp2_with fail
              refine HCC.out.mono ?_
              rintro ex w' ⟨rfl, d2, hp, hr, hsw⟩
              have HR := Lib.hid hr; have HPP := Lib.hid hp; have SW : Aside _ := hsw
              clear hr hp hsw
              go_wp2_with fail
              go_roundg (n - Bv)
              case measure => have := HBV.out; omega
              case rel =>
                have hbv := HBV.out; have ha := HA.out; have hds := HDS.out
                refine ⟨Bv, Bv + 2 * z, c + 1, d2, rfl, by first | rfl | go_num | (congr 1; omega), (show Bv = 2 * z * (c + 1) by rw [Nat.mul_add]; omega), rfl, hlt2, Nat.le_refl _, ?_, HB2.out.rest (by omega) HPP.out, permIn_trans _ _ _ _ _ HP.out (permIn_mono _ _ _ _ _ _ (by omega) (by omega) (by omega) HPP.out), SW⟩
                have hB := HB1.out; have hP := HPP.out; have hR := HR.out; have hB2 := HB2.out
                rw [ha] at hB hP hR hB2
                exact Blks.grow (by omega) hB (by omega) (by omega) (fun p h1 h2 => hB2.half p h1 (by omega)) hP hR
            · have hltz2 : ¬ (Bv : Int) ≤ (n : Int) := by omega
              have ezz : IntKind.i64.wrap ((z : Int) * 2) = (z : Int) * 2 := by rw [IntKind.wrap_i64]; omega
              by_cases hlt3 : M < n
              · have hltz3 : (M : Int) < (n : Int) := by omega
                have hc := by
                  have hds := HDS.out; have ha := HA.out; have hbv := HBV.out; have hm := HM.out; have hze := HZE.out; have hn := HN.out
                  have hB2 := HB2.out
                  rw [ha] at hB2
                  exact SM.out A M n dj wr (by omega) (by omega) S1.out (by omega) (by omega) (by omega) (hB2.sorted (2 * c) (by omega) (by omega) (by omega) (by omega)) (hB2.sorted (2 * c + 1) (by rw [Nat.mul_add]; omega) (by rw [Nat.mul_add]; omega) (by omega) (by omega)) (by have := hB2.tags (m := M) (b := n) (2 * c) (by omega) (by omega) (by omega) (by omega); rw [← ha] at this; exact this)
                rw [← HN.out] at hc
                have HCC := Lib.hid hc
                clear hc
                go_wp2_with fail
                refine HCC.out.mono ?_
                rintro ex w' ⟨rfl, d2, hp, hr, hsw⟩
                have HR := Lib.hid hr; have HPP := Lib.hid hp; have SW : Aside _ := hsw
                clear hr hp hsw
                go_wp2_with fail
                go_roundg (n - 2 * z)
                case measure => omega
                case rel =>
                  have hbv := HBV.out; have ha := HA.out; have hds := HDS.out
                  refine ⟨2 * z, d2, by first | rfl | go_num | (congr 1; omega), by omega, by omega, by omega, ?_, permIn_trans _ _ _ _ _ HP.out (permIn_mono _ _ _ _ _ _ (by omega) (by omega) (by omega) HPP.out), SW⟩
                  have hB := HB1.out; have hP := HPP.out; have hR := HR.out; have hB2 := HB2.out
                  rw [ha] at hB hP hR hB2
                  exact Blks.grow (by omega) hB (by omega) (by omega) (fun p h1 h2 => hB2.half p h1 (by omega)) hP hR
              · have hltz3 : ¬ (M : Int) < (n : Int) := by omega
                go_wp2_with fail
                go_roundg (n - 2 * z)
                case measure => omega
                case rel =>
                  have hbv := HBV.out; have ha := HA.out; have hds := HDS.out; have hm := HM.out; have hze := HZE.out
                  refine ⟨2 * z, dj, by first | rfl | go_num | (congr 1; omega), by omega, by omega, by omega, ?_, HP, S1⟩
                  have hB := HB1.out; have hB2 := HB2.out
                  rw [ha] at hB hB2
                  exact Blks.grow (by omega) hB (by omega) (by omega) (fun p h1 h2 => hB2.half p h1 (by omega)) (permIn_refl _ _ _) (hB2.sorted (2 * c) (by omega) (by omega) (by omega) (by omega))
        · have hltz : ¬ (z : Int) < (n : Int) := by omega
          go_wp2_with fail
          go_end0
          exact ⟨rfl, dk, HP.out, HB.out.all (by omega), S1.out⟩
end Go.Proofs.Ytdkkgajamogmeaa
