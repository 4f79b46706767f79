
/- Contract of layer 10: the program's insert, on a copy of the model. -/
import Derived.Test.YtpneljhplbkdkaaHB
import Derived.Test.YtpneljhplbkdkaaHC
import Derived.Test.YtpneljhplbkdkaaHD
namespace Go.Proofs.Ytpneljhplbkdkaa
open Go.RowKit Go.Lib

/-- Block x is no table of functions. -/
def Plain (w : World) (x : Nat) : Prop := ∀ c t f, w.heap[x]? = some (.cells c t f) → t ≠ 62
theorem plain_new {w : World} {x : Nat} (h : w.heap.size ≤ x) : Plain w x := fun c t f hx => by
  have := lt_block hx
  omega
theorem plain_own {w : World} {base size n : Nat} {e : TypeId} {v : Value} {xs : List Value} (ho : w.ownsRow base e size v n xs) (he : e ≠ 62) : ∀ x, v.ownBlock = some x → Plain w x := fun x hx c t f hc => by
  intro ht
  subst ht
  exact ne_own hc ho (fun h => he h.symm) hx
/-- Of the old blocks only such from B on have turned, and no table of functions. -/
def Bel (B : Nat) (a b : World) : Prop := ∃ S, Upd S a b ∧ ∀ x ∈ S, B ≤ x ∧ Plain a x
theorem Bel.refl (B : Nat) (a : World) : Bel B a a := ⟨[], Upd.refl _ _, by simp⟩
theorem Bel.thn {B : Nat} {T : List Nat} {a b c : World} (h : Bel B a b) (k : Upd T b c) (hT : ∀ x ∈ T, B ≤ x ∧ Plain a x) : Bel B a c := by
  obtain ⟨S, hu, hS⟩ := h
  exact ⟨S ++ T, (hu.mono (by simp; intro x hx; exact .inl hx)).trans (k.mono (T := S ++ T) (by simp; intro x hx; exact .inr hx)) (fun x hx _ => hx), fun x hx => by rcases List.mem_append.1 hx with h | h; exact hS x h; exact hT x h⟩
theorem Bel.size {B : Nat} {a b : World} (h : Bel B a b) : a.heap.size ≤ b.heap.size := by obtain ⟨S, hu, _⟩ := h; exact hu.size
theorem Bel.up {B : Nat} {w a b : World} (h : Bel B a b) (hu : Upd [] w a) (hB : w.heap.size ≤ B) : Upd [] w b := by
  obtain ⟨S, hs, hS⟩ := h
  exact hu.trans hs (fun x hx hl => by have := (hS x hx).1; omega)
/-- What lies below B stays. -/
theorem Bel.at {B : Nat} {a b : World} (h : Bel B a b) {k : Nat} {o : Obj} (ho : a.heap[k]? = some o) (hk : k < B) : b.heap[k]? = some o := by
  obtain ⟨S, hu, hS⟩ := h
  exact hu.at ho (fun hm => by have := (hS k hm).1; omega)
/-- A table of functions stays. -/
theorem Bel.table {B : Nat} {a b : World} (h : Bel B a b) {k : Nat} {c : Array Value} {f : Nat × Nat} (ho : a.heap[k]? = some (.cells c 62 f)) : b.heap[k]? = some (.cells c 62 f) := by
  obtain ⟨S, hu, hS⟩ := h
  exact hu.at ho (fun hm => (hS k hm).2 _ _ _ ho rfl)
/-- An entry's row lies apart from a box whose fourth and last cell is no Bool. -/
theorem ent_ne {w : World} {s : SlR En} {b : Nat} {x0 x1 x2 x3 : Value} {t : TypeId} {f : Nat × Nat} (h : HasS LE w s) (hb : w.heap[b]? = some (.cells #[x0, x1, x2, x3] t f)) (hx : ∀ d, x3 ≠ .bool d) : AvS s b := fun hn a ea hab => by
  obtain ⟨b', off, e, -, -, -, c⟩ := h.row.ent 0 (List.length_pos_iff.2 hn)
  rw [ea] at e
  obtain rfl := Option.some.inj e
  simp only at hab
  subst hab
  rw [cell_block hb] at c
  by_cases h0 : off = 0
  · subst h0
    exact hx _ (by simpa using c)
  · rw [Array.getElem?_eq_none (by simp; omega)] at c
    simp at c
/-- A row of another type lies apart from a box. -/
theorem own_ne {α : Type} {L : Lay α} {w : World} {base b : Nat} {e t : TypeId} {s : SlR α} {c : Array Value} {f : Nat × Nat} (ho : w.ownsRow base e L.k s.v s.l.length (L.flat s.l)) (hb : w.heap[b]? = some (.cells c t f)) (hte : t ≠ e) : AvS s b := fun _ a ea hab => by
  obtain ⟨l, ad, cap⟩ := s
  simp only at ea
  subst ea
  exact ne_own hb ho hte (by simp [SlR.v, Value.ownBlock, hab])
/-- The four boxes of a call, in a world where only blocks from b0 on have turned. -/
structure FrI (b0 : Nat) (w : World) (P : Nat) (cap nx : Int) (n q : Nat) (ea ia : Option Addr) (ec ic : Nat) (ck ct ch cm cb : Int) (wr : World) : Prop where
  bm : wr.heap[P]? = some (.cells #[.int .i64 cap, .slice ea n ec, .int .i64 nx, .slice ia q ic] 25 (0, 0))
  bc : wr.heap[P + 1]? = some (.cells #[.int .i64 ck, .int .i64 ct, .int .i64 ch, .int .i64 cm, .int .i64 cb] 28 (0, 0))
  rm : wr.heap[P + 1 + 1]? = some (.cells #[.int .i64 0, .slice none 0 0, .int .i64 0, .slice none 0 0] 25 (0, 0))
  rr : wr.heap[P + 1 + 1 + 1]? = some (.cells #[.int .i64 0, .int .i64 0, .bool false, .slice none 0 0] 34 (0, 0))
  bel : Bel b0 w wr
  ord : w.heap.size ≤ P
  base : b0 ≤ w.heap.size
section
variable {b0 : Nat} {w : World} {P : Nat} {cap nx : Int} {n q : Nat} {ea ia : Option Addr} {ec ic : Nat} {ck ct ch cm cb : Int} {a b : World}
theorem FrI.stay (h : FrI b0 w P cap nx n q ea ia ec ic ck ct ch cm cb a) (hu : Upd [] a b) : FrI b0 w P cap nx n q ea ia ec ic ck ct ch cm cb b :=
  ⟨hu.at h.bm (by simp), hu.at h.bc (by simp), hu.at h.rm (by simp), hu.at h.rr (by simp), h.bel.thn hu (by simp), h.ord, h.base⟩
theorem FrI.setM {cap' nx' : Int} {n' q' : Nat} {ea' ia' : Option Addr} {ec' ic' : Nat} (h : FrI b0 w P cap nx n q ea ia ec ic ck ct ch cm cb a) (hu : Upd [P] a b) (hb : b.heap[P]? = some (.cells #[.int .i64 cap', .slice ea' n' ec', .int .i64 nx', .slice ia' q' ic'] 25 (0, 0))) : FrI b0 w P cap' nx' n' q' ea' ia' ec' ic' ck ct ch cm cb b :=
  ⟨hb, hu.at h.bc (by simp), hu.at h.rm (by simp; omega), hu.at h.rr (by simp; omega), h.bel.thn hu (fun x hx => by have h1 := h.ord; have h2 := h.base; simp at hx; exact ⟨by omega, plain_new (by omega)⟩), h.ord, h.base⟩
/-- A row of the call's own is written. -/
theorem FrI.row {base size m : Nat} {e : TypeId} {v : Value} {xs : List Value} (h : FrI b0 w P cap nx n q ea ia ec ic ck ct ch cm cb a) (ho : a.ownsRow base e size v m xs) (hb : b0 ≤ base) (h1 : 25 ≠ e) (h2 : 28 ≠ e) (h3 : 34 ≠ e) (hp : ∀ x, v.ownBlock = some x → Plain w x) (hu : Upd v.ownBlock.toList a b) : FrI b0 w P cap nx n q ea ia ec ic ck ct ch cm cb b :=
  ⟨hu.at h.bm (fun hm => ne_own h.bm ho h1 (toList_of hm)), hu.at h.bc (fun hm => ne_own h.bc ho h2 (toList_of hm)), hu.at h.rm (fun hm => ne_own h.rm ho h1 (toList_of hm)), hu.at h.rr (fun hm => ne_own h.rr ho h3 (toList_of hm)), h.bel.thn hu (fun x hx => ⟨by have := own_ge ho x (toList_of hx); omega, hp x (toList_of hx)⟩), h.ord, h.base⟩
end
/-- What an action gives, from a model whose rows are its own: a model and a result. -/
def GivesO (b0 : Nat) (p : Md × Rs) (w : World) (e : Ending) (w' : World) : Prop := ∃ (m : MdR) (r : RsR), e = .returned (.tuple #[encM m, encR r]) ∧ m.md = p.1 ∧ r.rs = p.2 ∧ HasM w' m ∧ HasS LV w' r.ev ∧ (∀ b, b < b0 → AvM m b ∧ AvS r.ev b) ∧ Bel b0 w w'
theorem HasS.two2 {α : Type} {L : Lay α} {w w' : World} {s : SlR α} {P Q : Nat} (h : HasS L w s) (hu : Upd [P, Q] w w') (hP : AvS s P) (hQ : AvS s Q) : HasS L w' s :=
  ⟨h.row.keep hu (fun hn a e hm => by
    rcases List.mem_cons.1 hm with h1 | h1
    · exact hP hn a e h1
    · exact hQ hn a e (List.mem_singleton.1 h1)), h.le, h.nn⟩
theorem own_apart2 {w : World} {b1 b2 s1 s2 n1 n2 : Nat} {e1 e2 : TypeId} {v1 v2 : Value} {x1 x2 : List Value} (h1 : w.ownsRow b1 e1 s1 v1 n1 x1) (h2 : w.ownsRow b2 e2 s2 v2 n2 x2) (he : e1 ≠ e2) : ∀ k, v1.ownBlock = some k → k ∉ v2.ownBlock.toList := fun k hk hm => by
  have hk2 := toList_of hm
  rcases h1.2 with ⟨rfl, _⟩ | ⟨g, cap, cur, rfl, hb, hg, _⟩
  · simp [Value.ownBlock] at hk
  · simp [Value.ownBlock] at hk
    subst hk
    exact ne_own hg h2 he hk2
theorem pos_found {es : List En} {ct nx h : Int} {d : Bool} {p : Nat} (hs : SortedE es) (hq : ∀ e ∈ es, e.q < nx) (hp : p ≤ es.length) (h1 : ∀ i (hi : i < es.length), i < p → ltE es[i] ⟨ct, nx, h, d⟩) (h2 : ∀ i (hi : i < es.length), p ≤ i → ¬ ltE es[i] ⟨ct, nx, h, d⟩) : posM es ct = p := by
  have hle := posM_le es ct
  rcases Nat.lt_trichotomy (posM es ct) p with hlt | heq | hgt
  · have hi : posM es ct < es.length := by omega
    have h3 := posN_gt (es := es) (t := ct) (Nat.le_refl _) (Nat.le_refl _) hi
    have h4 := h1 _ hi hlt
    unfold ltE at h4
    simp only at h4
    unfold posM at h4 h3
    omega
  · exact heq
  · have hi : p < es.length := by omega
    have h3 := posN_last (es := es) (t := ct) (Nat.le_refl _) (by unfold posM at hgt; omega)
    have h4 := h2 p hi (Nat.le_refl _)
    have h5 : es[p].t ≤ (es[posN es ct es.length - 1]'(by unfold posM at hle hgt; omega)).t := by
      by_cases e : p = posN es ct es.length - 1
      · subst e; exact Int.le_refl _
      · have := (List.pairwise_iff_getElem.1 hs) p (posN es ct es.length - 1) hi (by unfold posM at hle hgt; omega) (by unfold posM at hgt; omega)
        unfold ltE at this
        omega
    have h6 := hq es[p] (List.getElem_mem hi)
    unfold ltE at h4
    simp only at h4
    omega
set_option maxRecDepth 100000 in
set_option maxHeartbeats 8000000 in
theorem PInsert_err (b0 : Nat) (cap nx : Int) (es : List En) (ea : Option Addr) (ec : Nat) (is : List Int) (ia : Option Addr) (ic : Nat) (ck ct ch cm cb : Int) (h : Int) (w : World) (ho : OwnM b0 w ⟨cap, ⟨es, ea, ec⟩, nx, ⟨is, ia, ic⟩⟩) (hb0 : b0 ≤ w.heap.size) (hi : is.length ≤ 100000) (e : Int) (he : (¬ (0 ≤ ct ∧ ct ≤ MaxV) ∧ e = 1) ∨ ((0 ≤ ct ∧ ct ≤ MaxV) ∧ cap ≤ (es.length : Int) ∧ e = 10) ∨ ((0 ≤ ct ∧ ct ≤ MaxV) ∧ ¬ cap ≤ (es.length : Int) ∧ (okH h = false ∨ h ∈ is) ∧ e = 1)) :
    Calls Try.prog 29 #[encM ⟨cap, ⟨es, ea, ec⟩, nx, ⟨is, ia, ic⟩⟩, encC ⟨ck, ct, ch, cm, cb⟩, .int .i64 h] w (GivesO b0 (⟨cap, es, nx, is⟩, errR e) w) := by
  have HO := Lib.hid ho
  unfold encM cellsM encC
  simp only
  have HRET : Hid (∀ n q, n = es.length → q = is.length → encM ⟨cap, ⟨es, ea, ec⟩, nx, ⟨is, ia, ic⟩⟩ = .agg #[.int .i64 cap, .slice ea n ec, .int .i64 nx, .slice ia q ic]) := fun n q h1 h2 => by rw [h1, h2]; rfl
  have HVA := Lib.hid (PHV_has h)
  have HVT := Lib.hid (PTime_has ct)
  have HHA : Hid (∀ W, Upd [] w W → Calls Try.prog 51 #[.slice ia is.length ic, .int .i64 h] W fun e w' => e = .returned (.bool (decide (h ∈ is))) ∧ W = w') := fun W hu => PContains_has ia ic is h W (ho.has.is.row.stay hu) (by omega)
  obtain ⟨bm, hbm⟩ : ∃ b, b = decide (h ∈ is) := ⟨_, rfl⟩
  have hmem : h ∈ is → bm = true := fun hx => by rw [hbm]; simpa using hx
  rw [← hbm] at HHA
  have hvt1 : (0 ≤ ct ∧ ct ≤ MaxV) → inB 0 MaxV ct = true := fun h => inB_yes.2 h
  have hvt2 : ¬ (0 ≤ ct ∧ ct ≤ MaxV) → inB 0 MaxV ct = false := fun h => inB_no.2 h
  generalize inB 0 MaxV ct = vt at *
  obtain ⟨n, hn⟩ : ∃ n, n = es.length := ⟨_, rfl⟩
  obtain ⟨q, hq⟩ : ∃ q, q = is.length := ⟨_, rfl⟩
  rw [← hn] at he ⊢
  rw [← hq] at HHA ⊢
  have HRET := Lib.hid (HRET.out n q hn hq)
  generalize okH h = ok at *
  have HMEM := Lib.hid hmem
  clear hn hq ho hbm hmem hi
  rcases he with ⟨h0, rfl⟩ | ⟨h0, h3, rfl⟩ | ⟨h0, h3, h4, rfl⟩
  · obtain rfl := hvt2 h0
    clear h0 hvt1 hvt2
    go_enter Try.func29, Try.ntmps29
    go_upto_region 1 with (fail)
    obtain ⟨hu0, b0', b1, b2, b3, hs0⟩ := four_boxes w (.cells #[.int .i64 cap, .slice ea n ec, .int .i64 nx, .slice ia q ic] 25) (.cells #[.int .i64 ck, .int .i64 ct, .int .i64 ch, .int .i64 cm, .int .i64 cb] 28) (.cells #[.int .i64 0, .slice none 0 0, .int .i64 0, .slice none 0 0] 25) (.cells #[.int .i64 0, .int .i64 0, .bool false, .slice none 0 0] 34)
    have HF : Hid (FrI b0 w w.heap.size cap nx n q ea ia ec ic ck ct ch cm cb _) := ⟨b0', b1, b2, b3, (Bel.refl b0 w).thn hu0 (by simp), Nat.le_refl _, hb0⟩
    have HU0 := Lib.hid hu0
    generalize (((w.alloc (.cells #[.int .i64 cap, .slice ea n ec, .int .i64 nx, .slice ia q ic] 25)).alloc (.cells #[.int .i64 ck, .int .i64 ct, .int .i64 ch, .int .i64 cm, .int .i64 cb] 28)).alloc (.cells #[.int .i64 0, .slice none 0 0, .int .i64 0, .slice none 0 0] 25)).alloc (.cells #[.int .i64 0, .int .i64 0, .bool false, .slice none 0 0] 34) = W0 at *
    have HSZ0 : Hid (W0.heap.size = w.heap.size + 4) := hs0
    have HPW : Hid (w.heap.size ≤ w.heap.size) := Nat.le_refl _
    obtain ⟨P, hP⟩ : ∃ P, P = w.heap.size := ⟨_, rfl⟩
    rw [← hP] at HF HSZ0 ⊢
    have HP := Lib.hid hP
    clear hu0 b0' b1 b2 b3 hs0 hP HPW
    obtain ⟨c0, c1, c2, c3, c4⟩ := cells5 HF.out.bc
    clear c0 c2 c3 c4
    obtain ⟨m0, m1, m2, m3⟩ := cells4 HF.out.bm
    go_upto_region 2 with (first | (go_at_call 50; (with_reducible refine (HVT.out _).mono ?_); rintro e w1 ⟨rfl, rfl⟩) | (go_at_call 37; (with_reducible refine (HVA.out _).mono ?_); rintro e w1 ⟨rfl, rfl⟩) | (go_at_call 51; (with_reducible refine (HHA.out _ HU0.out).mono ?_); rintro e w1 ⟨rfl, rfl⟩))
    obtain ⟨q0, q1, q2, q3⟩ := cells4 HF.out.bm
    obtain ⟨d0, d1, d2, d3⟩ := cells4 HF.out.rm
    obtain ⟨e0, e1, e2, e3⟩ := free4 HF.out.rm
    obtain ⟨d4, d5, d6, d7⟩ := cells4 HF.out.rr
    obtain ⟨e4, e5, e6, e7⟩ := free4 HF.out.rr
    go_wp2_with fail
    have k8 := stored4 HF.out.rm (.int .i64 cap) (.slice ea n ec) (.int .i64 nx) (.slice ia q ic)
    have u8 := upd_set4 W0 (P + 1 + 1) (.int .i64 cap) (.slice ea n ec) (.int .i64 nx) (.slice ia q ic)
    with_reducible generalize (((W0.setCell ⟨P + 1 + 1, 0, none⟩ (.int .i64 cap)).setCell ⟨P + 1 + 1, 1, none⟩ (.slice ea n ec)).setCell ⟨P + 1 + 1, 2, none⟩ (.int .i64 nx)).setCell ⟨P + 1 + 1, 3, none⟩ (.slice ia q ic) = W8 at k8 u8 ⊢
    have k9 := stored4 (u8.at HF.out.rr (by simp)) (.int .i64 1) (.int .i64 0) (.bool false) (.slice none 0 0)
    have u9 := upd_set4 W8 (P + 1 + 1 + 1) (.int .i64 1) (.int .i64 0) (.bool false) (.slice none 0 0)
    with_reducible generalize (((W8.setCell ⟨P + 1 + 1 + 1, 0, none⟩ (.int .i64 1)).setCell ⟨P + 1 + 1 + 1, 1, none⟩ (.int .i64 0)).setCell ⟨P + 1 + 1 + 1, 2, none⟩ (.bool false)).setCell ⟨P + 1 + 1 + 1, 3, none⟩ (.slice none 0 0) = W9 at k9 u9 ⊢
    obtain ⟨r0, r1, r2, r3⟩ := cells4 (u9.at k8 (by simp))
    obtain ⟨s0, s1, s2, s3⟩ := cells4 k9
    have hU89 : Upd [P + 1 + 1, P + 1 + 1 + 1] W0 W9 := (u8.mono (by simp)).trans u9 (by simp)
    have hU9 : Bel b0 w W9 := HF.out.bel.thn hU89 (fun x hx => by have h1 := HF.out.ord; have h2 := HF.out.base; simp at hx; exact ⟨by omega, plain_new (by omega)⟩)
    exact bodyPost_ret (v := .tuple #[.agg #[.int .i64 cap, .slice ea n ec, .int .i64 nx, .slice ia q ic], .agg #[.int .i64 1, .int .i64 0, .bool false, .slice none 0 0]]) (by simp [results, Try.results29, go_sem, r0, r1, r2, r3, s0, s1, s2, s3]) rfl ⟨⟨cap, ⟨es, ea, ec⟩, nx, ⟨is, ia, ic⟩⟩, ⟨1, 0, false, ⟨[], none, 0⟩⟩, by rw [HRET.out]; rfl, rfl, rfl, ⟨(HO.out.has.es.stay HU0.out).two2 hU89 (HO.out.has.es.avoids (by have := HP.out; omega)) (HO.out.has.es.avoids (by have := HP.out; omega)), (HO.out.has.is.stay HU0.out).two2 hU89 (HO.out.has.is.avoids (by have := HP.out; omega)) (HO.out.has.is.avoids (by have := HP.out; omega))⟩, hasS_nil LV _, fun bx hbx => ⟨HO.out.av hbx, avS_nil _ _ _⟩, hU9⟩
  · obtain rfl := hvt1 h0
    have g3 : decide (cap ≤ (n : Int)) = true := decide_eq_true h3
    clear h0 h3 hvt1 hvt2
    go_enter Try.func29, Try.ntmps29
    go_upto_region 1 with (fail)
    obtain ⟨hu0, b0', b1, b2, b3, hs0⟩ := four_boxes w (.cells #[.int .i64 cap, .slice ea n ec, .int .i64 nx, .slice ia q ic] 25) (.cells #[.int .i64 ck, .int .i64 ct, .int .i64 ch, .int .i64 cm, .int .i64 cb] 28) (.cells #[.int .i64 0, .slice none 0 0, .int .i64 0, .slice none 0 0] 25) (.cells #[.int .i64 0, .int .i64 0, .bool false, .slice none 0 0] 34)
    have HF : Hid (FrI b0 w w.heap.size cap nx n q ea ia ec ic ck ct ch cm cb _) := ⟨b0', b1, b2, b3, (Bel.refl b0 w).thn hu0 (by simp), Nat.le_refl _, hb0⟩
    have HU0 := Lib.hid hu0
    generalize (((w.alloc (.cells #[.int .i64 cap, .slice ea n ec, .int .i64 nx, .slice ia q ic] 25)).alloc (.cells #[.int .i64 ck, .int .i64 ct, .int .i64 ch, .int .i64 cm, .int .i64 cb] 28)).alloc (.cells #[.int .i64 0, .slice none 0 0, .int .i64 0, .slice none 0 0] 25)).alloc (.cells #[.int .i64 0, .int .i64 0, .bool false, .slice none 0 0] 34) = W0 at *
    have HSZ0 : Hid (W0.heap.size = w.heap.size + 4) := hs0
    have HPW : Hid (w.heap.size ≤ w.heap.size) := Nat.le_refl _
    obtain ⟨P, hP⟩ : ∃ P, P = w.heap.size := ⟨_, rfl⟩
    rw [← hP] at HF HSZ0 ⊢
    have HP := Lib.hid hP
    clear hu0 b0' b1 b2 b3 hs0 hP HPW
    obtain ⟨c0, c1, c2, c3, c4⟩ := cells5 HF.out.bc
    clear c0 c2 c3 c4
    obtain ⟨m0, m1, m2, m3⟩ := cells4 HF.out.bm
    go_upto_region 4 with (first | (go_at_call 50; (with_reducible refine (HVT.out _).mono ?_); rintro e w1 ⟨rfl, rfl⟩) | (go_at_call 37; (with_reducible refine (HVA.out _).mono ?_); rintro e w1 ⟨rfl, rfl⟩) | (go_at_call 51; (with_reducible refine (HHA.out _ HU0.out).mono ?_); rintro e w1 ⟨rfl, rfl⟩))
    obtain ⟨q0, q1, q2, q3⟩ := cells4 HF.out.bm
    obtain ⟨d0, d1, d2, d3⟩ := cells4 HF.out.rm
    obtain ⟨e0, e1, e2, e3⟩ := free4 HF.out.rm
    obtain ⟨d4, d5, d6, d7⟩ := cells4 HF.out.rr
    obtain ⟨e4, e5, e6, e7⟩ := free4 HF.out.rr
    go_wp2_with fail
    have k8 := stored4 HF.out.rm (.int .i64 cap) (.slice ea n ec) (.int .i64 nx) (.slice ia q ic)
    have u8 := upd_set4 W0 (P + 1 + 1) (.int .i64 cap) (.slice ea n ec) (.int .i64 nx) (.slice ia q ic)
    with_reducible generalize (((W0.setCell ⟨P + 1 + 1, 0, none⟩ (.int .i64 cap)).setCell ⟨P + 1 + 1, 1, none⟩ (.slice ea n ec)).setCell ⟨P + 1 + 1, 2, none⟩ (.int .i64 nx)).setCell ⟨P + 1 + 1, 3, none⟩ (.slice ia q ic) = W8 at k8 u8 ⊢
    have k9 := stored4 (u8.at HF.out.rr (by simp)) (.int .i64 10) (.int .i64 0) (.bool false) (.slice none 0 0)
    have u9 := upd_set4 W8 (P + 1 + 1 + 1) (.int .i64 10) (.int .i64 0) (.bool false) (.slice none 0 0)
    with_reducible generalize (((W8.setCell ⟨P + 1 + 1 + 1, 0, none⟩ (.int .i64 10)).setCell ⟨P + 1 + 1 + 1, 1, none⟩ (.int .i64 0)).setCell ⟨P + 1 + 1 + 1, 2, none⟩ (.bool false)).setCell ⟨P + 1 + 1 + 1, 3, none⟩ (.slice none 0 0) = W9 at k9 u9 ⊢
    obtain ⟨r0, r1, r2, r3⟩ := cells4 (u9.at k8 (by simp))
    obtain ⟨s0, s1, s2, s3⟩ := cells4 k9
    have hU89 : Upd [P + 1 + 1, P + 1 + 1 + 1] W0 W9 := (u8.mono (by simp)).trans u9 (by simp)
    have hU9 : Bel b0 w W9 := HF.out.bel.thn hU89 (fun x hx => by have h1 := HF.out.ord; have h2 := HF.out.base; simp at hx; exact ⟨by omega, plain_new (by omega)⟩)
    exact bodyPost_ret (v := .tuple #[.agg #[.int .i64 cap, .slice ea n ec, .int .i64 nx, .slice ia q ic], .agg #[.int .i64 10, .int .i64 0, .bool false, .slice none 0 0]]) (by simp [results, Try.results29, go_sem, r0, r1, r2, r3, s0, s1, s2, s3]) rfl ⟨⟨cap, ⟨es, ea, ec⟩, nx, ⟨is, ia, ic⟩⟩, ⟨10, 0, false, ⟨[], none, 0⟩⟩, by rw [HRET.out]; rfl, rfl, rfl, ⟨(HO.out.has.es.stay HU0.out).two2 hU89 (HO.out.has.es.avoids (by have := HP.out; omega)) (HO.out.has.es.avoids (by have := HP.out; omega)), (HO.out.has.is.stay HU0.out).two2 hU89 (HO.out.has.is.avoids (by have := HP.out; omega)) (HO.out.has.is.avoids (by have := HP.out; omega))⟩, hasS_nil LV _, fun bx hbx => ⟨HO.out.av hbx, avS_nil _ _ _⟩, hU9⟩
  · obtain rfl := hvt1 h0
    have g3 : decide (cap ≤ (n : Int)) = false := decide_eq_false h3
    clear h0 h3 hvt1 hvt2
    cases ok with
    | false =>
      clear h4
      go_enter Try.func29, Try.ntmps29
      go_upto_region 1 with (fail)
      obtain ⟨hu0, b0', b1, b2, b3, hs0⟩ := four_boxes w (.cells #[.int .i64 cap, .slice ea n ec, .int .i64 nx, .slice ia q ic] 25) (.cells #[.int .i64 ck, .int .i64 ct, .int .i64 ch, .int .i64 cm, .int .i64 cb] 28) (.cells #[.int .i64 0, .slice none 0 0, .int .i64 0, .slice none 0 0] 25) (.cells #[.int .i64 0, .int .i64 0, .bool false, .slice none 0 0] 34)
      have HF : Hid (FrI b0 w w.heap.size cap nx n q ea ia ec ic ck ct ch cm cb _) := ⟨b0', b1, b2, b3, (Bel.refl b0 w).thn hu0 (by simp), Nat.le_refl _, hb0⟩
      have HU0 := Lib.hid hu0
      generalize (((w.alloc (.cells #[.int .i64 cap, .slice ea n ec, .int .i64 nx, .slice ia q ic] 25)).alloc (.cells #[.int .i64 ck, .int .i64 ct, .int .i64 ch, .int .i64 cm, .int .i64 cb] 28)).alloc (.cells #[.int .i64 0, .slice none 0 0, .int .i64 0, .slice none 0 0] 25)).alloc (.cells #[.int .i64 0, .int .i64 0, .bool false, .slice none 0 0] 34) = W0 at *
      have HSZ0 : Hid (W0.heap.size = w.heap.size + 4) := hs0
      have HPW : Hid (w.heap.size ≤ w.heap.size) := Nat.le_refl _
      obtain ⟨P, hP⟩ : ∃ P, P = w.heap.size := ⟨_, rfl⟩
      rw [← hP] at HF HSZ0 ⊢
      have HP := Lib.hid hP
      clear hu0 b0' b1 b2 b3 hs0 hP HPW
      obtain ⟨c0, c1, c2, c3, c4⟩ := cells5 HF.out.bc
      clear c0 c2 c3 c4
      obtain ⟨m0, m1, m2, m3⟩ := cells4 HF.out.bm
      go_upto_region 6 with (first | (go_at_call 50; (with_reducible refine (HVT.out _).mono ?_); rintro e w1 ⟨rfl, rfl⟩) | (go_at_call 37; (with_reducible refine (HVA.out _).mono ?_); rintro e w1 ⟨rfl, rfl⟩) | (go_at_call 51; (with_reducible refine (HHA.out _ HU0.out).mono ?_); rintro e w1 ⟨rfl, rfl⟩))
      obtain ⟨q0, q1, q2, q3⟩ := cells4 HF.out.bm
      obtain ⟨d0, d1, d2, d3⟩ := cells4 HF.out.rm
      obtain ⟨e0, e1, e2, e3⟩ := free4 HF.out.rm
      obtain ⟨d4, d5, d6, d7⟩ := cells4 HF.out.rr
      obtain ⟨e4, e5, e6, e7⟩ := free4 HF.out.rr
      go_wp2_with fail
      have k8 := stored4 HF.out.rm (.int .i64 cap) (.slice ea n ec) (.int .i64 nx) (.slice ia q ic)
      have u8 := upd_set4 W0 (P + 1 + 1) (.int .i64 cap) (.slice ea n ec) (.int .i64 nx) (.slice ia q ic)
      with_reducible generalize (((W0.setCell ⟨P + 1 + 1, 0, none⟩ (.int .i64 cap)).setCell ⟨P + 1 + 1, 1, none⟩ (.slice ea n ec)).setCell ⟨P + 1 + 1, 2, none⟩ (.int .i64 nx)).setCell ⟨P + 1 + 1, 3, none⟩ (.slice ia q ic) = W8 at k8 u8 ⊢
      have k9 := stored4 (u8.at HF.out.rr (by simp)) (.int .i64 1) (.int .i64 0) (.bool false) (.slice none 0 0)
      have u9 := upd_set4 W8 (P + 1 + 1 + 1) (.int .i64 1) (.int .i64 0) (.bool false) (.slice none 0 0)
      with_reducible generalize (((W8.setCell ⟨P + 1 + 1 + 1, 0, none⟩ (.int .i64 1)).setCell ⟨P + 1 + 1 + 1, 1, none⟩ (.int .i64 0)).setCell ⟨P + 1 + 1 + 1, 2, none⟩ (.bool false)).setCell ⟨P + 1 + 1 + 1, 3, none⟩ (.slice none 0 0) = W9 at k9 u9 ⊢
      obtain ⟨r0, r1, r2, r3⟩ := cells4 (u9.at k8 (by simp))
      obtain ⟨s0, s1, s2, s3⟩ := cells4 k9
      have hU89 : Upd [P + 1 + 1, P + 1 + 1 + 1] W0 W9 := (u8.mono (by simp)).trans u9 (by simp)
      have hU9 : Bel b0 w W9 := HF.out.bel.thn hU89 (fun x hx => by have h1 := HF.out.ord; have h2 := HF.out.base; simp at hx; exact ⟨by omega, plain_new (by omega)⟩)
      exact bodyPost_ret (v := .tuple #[.agg #[.int .i64 cap, .slice ea n ec, .int .i64 nx, .slice ia q ic], .agg #[.int .i64 1, .int .i64 0, .bool false, .slice none 0 0]]) (by simp [results, Try.results29, go_sem, r0, r1, r2, r3, s0, s1, s2, s3]) rfl ⟨⟨cap, ⟨es, ea, ec⟩, nx, ⟨is, ia, ic⟩⟩, ⟨1, 0, false, ⟨[], none, 0⟩⟩, by rw [HRET.out]; rfl, rfl, rfl, ⟨(HO.out.has.es.stay HU0.out).two2 hU89 (HO.out.has.es.avoids (by have := HP.out; omega)) (HO.out.has.es.avoids (by have := HP.out; omega)), (HO.out.has.is.stay HU0.out).two2 hU89 (HO.out.has.is.avoids (by have := HP.out; omega)) (HO.out.has.is.avoids (by have := HP.out; omega))⟩, hasS_nil LV _, fun bx hbx => ⟨HO.out.av hbx, avS_nil _ _ _⟩, hU9⟩
    | true =>
      obtain rfl : bm = true := HMEM.out (h4.resolve_left (by simp))
      clear h4
      go_enter Try.func29, Try.ntmps29
      go_upto_region 1 with (fail)
      obtain ⟨hu0, b0', b1, b2, b3, hs0⟩ := four_boxes w (.cells #[.int .i64 cap, .slice ea n ec, .int .i64 nx, .slice ia q ic] 25) (.cells #[.int .i64 ck, .int .i64 ct, .int .i64 ch, .int .i64 cm, .int .i64 cb] 28) (.cells #[.int .i64 0, .slice none 0 0, .int .i64 0, .slice none 0 0] 25) (.cells #[.int .i64 0, .int .i64 0, .bool false, .slice none 0 0] 34)
      have HF : Hid (FrI b0 w w.heap.size cap nx n q ea ia ec ic ck ct ch cm cb _) := ⟨b0', b1, b2, b3, (Bel.refl b0 w).thn hu0 (by simp), Nat.le_refl _, hb0⟩
      have HU0 := Lib.hid hu0
      generalize (((w.alloc (.cells #[.int .i64 cap, .slice ea n ec, .int .i64 nx, .slice ia q ic] 25)).alloc (.cells #[.int .i64 ck, .int .i64 ct, .int .i64 ch, .int .i64 cm, .int .i64 cb] 28)).alloc (.cells #[.int .i64 0, .slice none 0 0, .int .i64 0, .slice none 0 0] 25)).alloc (.cells #[.int .i64 0, .int .i64 0, .bool false, .slice none 0 0] 34) = W0 at *
      have HSZ0 : Hid (W0.heap.size = w.heap.size + 4) := hs0
      have HPW : Hid (w.heap.size ≤ w.heap.size) := Nat.le_refl _
      obtain ⟨P, hP⟩ : ∃ P, P = w.heap.size := ⟨_, rfl⟩
      rw [← hP] at HF HSZ0 ⊢
      have HP := Lib.hid hP
      clear hu0 b0' b1 b2 b3 hs0 hP HPW
      obtain ⟨c0, c1, c2, c3, c4⟩ := cells5 HF.out.bc
      clear c0 c2 c3 c4
      obtain ⟨m0, m1, m2, m3⟩ := cells4 HF.out.bm
      go_upto_region 6 with (first | (go_at_call 50; (with_reducible refine (HVT.out _).mono ?_); rintro e w1 ⟨rfl, rfl⟩) | (go_at_call 37; (with_reducible refine (HVA.out _).mono ?_); rintro e w1 ⟨rfl, rfl⟩) | (go_at_call 51; (with_reducible refine (HHA.out _ HU0.out).mono ?_); rintro e w1 ⟨rfl, rfl⟩))
      obtain ⟨q0, q1, q2, q3⟩ := cells4 HF.out.bm
      obtain ⟨d0, d1, d2, d3⟩ := cells4 HF.out.rm
      obtain ⟨e0, e1, e2, e3⟩ := free4 HF.out.rm
      obtain ⟨d4, d5, d6, d7⟩ := cells4 HF.out.rr
      obtain ⟨e4, e5, e6, e7⟩ := free4 HF.out.rr
      go_wp2_with fail
      have k8 := stored4 HF.out.rm (.int .i64 cap) (.slice ea n ec) (.int .i64 nx) (.slice ia q ic)
      have u8 := upd_set4 W0 (P + 1 + 1) (.int .i64 cap) (.slice ea n ec) (.int .i64 nx) (.slice ia q ic)
      with_reducible generalize (((W0.setCell ⟨P + 1 + 1, 0, none⟩ (.int .i64 cap)).setCell ⟨P + 1 + 1, 1, none⟩ (.slice ea n ec)).setCell ⟨P + 1 + 1, 2, none⟩ (.int .i64 nx)).setCell ⟨P + 1 + 1, 3, none⟩ (.slice ia q ic) = W8 at k8 u8 ⊢
      have k9 := stored4 (u8.at HF.out.rr (by simp)) (.int .i64 1) (.int .i64 0) (.bool false) (.slice none 0 0)
      have u9 := upd_set4 W8 (P + 1 + 1 + 1) (.int .i64 1) (.int .i64 0) (.bool false) (.slice none 0 0)
      with_reducible generalize (((W8.setCell ⟨P + 1 + 1 + 1, 0, none⟩ (.int .i64 1)).setCell ⟨P + 1 + 1 + 1, 1, none⟩ (.int .i64 0)).setCell ⟨P + 1 + 1 + 1, 2, none⟩ (.bool false)).setCell ⟨P + 1 + 1 + 1, 3, none⟩ (.slice none 0 0) = W9 at k9 u9 ⊢
      obtain ⟨r0, r1, r2, r3⟩ := cells4 (u9.at k8 (by simp))
      obtain ⟨s0, s1, s2, s3⟩ := cells4 k9
      have hU89 : Upd [P + 1 + 1, P + 1 + 1 + 1] W0 W9 := (u8.mono (by simp)).trans u9 (by simp)
      have hU9 : Bel b0 w W9 := HF.out.bel.thn hU89 (fun x hx => by have h1 := HF.out.ord; have h2 := HF.out.base; simp at hx; exact ⟨by omega, plain_new (by omega)⟩)
      exact bodyPost_ret (v := .tuple #[.agg #[.int .i64 cap, .slice ea n ec, .int .i64 nx, .slice ia q ic], .agg #[.int .i64 1, .int .i64 0, .bool false, .slice none 0 0]]) (by simp [results, Try.results29, go_sem, r0, r1, r2, r3, s0, s1, s2, s3]) rfl ⟨⟨cap, ⟨es, ea, ec⟩, nx, ⟨is, ia, ic⟩⟩, ⟨1, 0, false, ⟨[], none, 0⟩⟩, by rw [HRET.out]; rfl, rfl, rfl, ⟨(HO.out.has.es.stay HU0.out).two2 hU89 (HO.out.has.es.avoids (by have := HP.out; omega)) (HO.out.has.es.avoids (by have := HP.out; omega)), (HO.out.has.is.stay HU0.out).two2 hU89 (HO.out.has.is.avoids (by have := HP.out; omega)) (HO.out.has.is.avoids (by have := HP.out; omega))⟩, hasS_nil LV _, fun bx hbx => ⟨HO.out.av hbx, avS_nil _ _ _⟩, hU9⟩
set_option maxRecDepth 100000 in
set_option maxHeartbeats 8000000 in
theorem PInsert_ok (b0 : Nat) (cap nx : Int) (es : List En) (ea : Option Addr) (ec : Nat) (is : List Int) (ia : Option Addr) (ic : Nat) (ck ct ch cm cb : Int) (h : Int) (w : World) (ho : OwnM b0 w ⟨cap, ⟨es, ea, ec⟩, nx, ⟨is, ia, ic⟩⟩) (hb0 : b0 ≤ w.heap.size) (hl : es.length ≤ 1000) (hi : is.length ≤ 100000) (hx : 0 ≤ nx ∧ nx ≤ 1000000) (h0 : 0 ≤ ct ∧ ct ≤ MaxV) (h3 : ¬ cap ≤ (es.length : Int)) (hok : okH h = true) (hni : h ∉ is) (hs : SortedE es) (hqq : ∀ e ∈ es, e.q < nx) :
    Calls Try.prog 29 #[encM ⟨cap, ⟨es, ea, ec⟩, nx, ⟨is, ia, ic⟩⟩, encC ⟨ck, ct, ch, cm, cb⟩, .int .i64 h] w (GivesO b0 (⟨cap, putE es ⟨ct, nx, h, false⟩, nx + 1, is ++ [h]⟩, ⟨0, h, false, []⟩) w) := by
  have hle := ho.has.es.le
  simp only at hle
  have HO := Lib.hid ho
  unfold encM cellsM encC
  simp only
  have HVA := Lib.hid (PHV_has h)
  rw [hok] at HVA
  have HVT := Lib.hid (PTime_has ct)
  rw [inB_yes.2 h0] at HVT
  have HHA : Hid (∀ W, Upd [] w W → Calls Try.prog 51 #[.slice ia is.length ic, .int .i64 h] W fun e w' => e = .returned (.bool false) ∧ W = w') := fun W hu => by have := PContains_has ia ic is h W (ho.has.is.row.stay hu) (by omega); rw [decide_eq_false hni] at this; exact this
  have HBS : Hid (∀ W, Upd [] w W → Calls Try.prog 52 #[.slice ea es.length ec, .agg #[.int .i64 ct, .int .i64 nx, .int .i64 h, .bool false], .func (.func 44) #[] #[]] W fun e w' => ∃ (p : Nat) (b : Bool), e = .returned (.tuple #[.int .i64 p, .bool b]) ∧ p ≤ es.length ∧ putE es ⟨ct, nx, h, false⟩ = es.take p ++ ⟨ct, nx, h, false⟩ :: es.drop p ∧ Upd [] W w') := fun W hu => (Search_has ea ec es ⟨ct, nx, h, false⟩ W (ho.has.es.row.stay hu) (by omega) hs).mono fun e w' ⟨p, b, he, h1, h2, h3, h4⟩ => ⟨p, b, he, h1, by unfold putE; simp only [pos_found hs hqq h1 h2 h3], h4⟩
  have HSI := Lib.hid (fun (p vb : Nat) (W : World) (hp : p ≤ es.length) (hv : W.heap[vb]? = some (.cells #[.int .i64 ct, .int .i64 nx, .int .i64 h, .bool false] 49 (0, 0))) (hu : Upd [] w W) (hvw : w.heap.size ≤ vb) => SInsert_has ⟨es, ea, ec⟩ ⟨ct, nx, h, false⟩ p vb b0 W hp ((ho.stay hu).es) (by simp only; omega) hv (fun e => by have := (ho.es.lt _ e).2; omega) (Nat.le_trans hb0 hu.size))
  obtain ⟨n, hn⟩ : ∃ n, n = es.length := ⟨_, rfl⟩
  obtain ⟨q, hq⟩ : ∃ q, q = is.length := ⟨_, rfl⟩
  rw [← hn] at hl hle h3 HBS ⊢
  rw [← hq] at hi HHA ⊢
  simp only [← hn] at HSI
  have HN := Lib.hid hn; have HQ := Lib.hid hq
  have g3 : decide (cap ≤ (n : Int)) = false := decide_eq_false h3
  have hwx : IntKind.i64.wrap (nx + 1) = nx + 1 := by rw [IntKind.wrap_i64]; omega
  clear ho hn hq h0 h3 hok hni hx hs hqq hle
  go_enter Try.func29, Try.ntmps29
  go_upto_region 1 with (fail)
  obtain ⟨hu0, b0', b1, b2, b3, hs0⟩ := four_boxes w (.cells #[.int .i64 cap, .slice ea n ec, .int .i64 nx, .slice ia q ic] 25) (.cells #[.int .i64 ck, .int .i64 ct, .int .i64 ch, .int .i64 cm, .int .i64 cb] 28) (.cells #[.int .i64 0, .slice none 0 0, .int .i64 0, .slice none 0 0] 25) (.cells #[.int .i64 0, .int .i64 0, .bool false, .slice none 0 0] 34)
  have HF : Hid (FrI b0 w w.heap.size cap nx n q ea ia ec ic ck ct ch cm cb _) := ⟨b0', b1, b2, b3, (Bel.refl b0 w).thn hu0 (by simp), Nat.le_refl _, hb0⟩
  have HU0 := Lib.hid hu0
  generalize (((w.alloc (.cells #[.int .i64 cap, .slice ea n ec, .int .i64 nx, .slice ia q ic] 25)).alloc (.cells #[.int .i64 ck, .int .i64 ct, .int .i64 ch, .int .i64 cm, .int .i64 cb] 28)).alloc (.cells #[.int .i64 0, .slice none 0 0, .int .i64 0, .slice none 0 0] 25)).alloc (.cells #[.int .i64 0, .int .i64 0, .bool false, .slice none 0 0] 34) = W0 at *
  have HSZ0 : Hid (W0.heap.size = w.heap.size + 4) := hs0
  have HPW : Hid (w.heap.size ≤ w.heap.size) := Nat.le_refl _
  obtain ⟨P, hP⟩ : ∃ P, P = w.heap.size := ⟨_, rfl⟩
  rw [← hP] at HF HSZ0 ⊢
  have HP := Lib.hid hP
  clear hu0 b0' b1 b2 b3 hs0 hP HPW
  obtain ⟨c0, c1, c2, c3, c4⟩ := cells5 HF.out.bc
  clear c0 c2 c3 c4
  obtain ⟨m0, m1, m2, m3⟩ := cells4 HF.out.bm
  go_upto_region 7 with (first | (go_at_call 50; (with_reducible refine (HVT.out _).mono ?_); rintro e w1 ⟨rfl, rfl⟩) | (go_at_call 37; (with_reducible refine (HVA.out _).mono ?_); rintro e w1 ⟨rfl, rfl⟩) | (go_at_call 51; (with_reducible refine (HHA.out _ HU0.out).mono ?_); rintro e w1 ⟨rfl, rfl⟩))
  go_upto_region 8 with (fail)
  have hu1 := (Upd.refl [] W0).alloc (.cells #[.int .i64 ct, .int .i64 nx, .int .i64 h, .bool false] 49)
  have be := heap_alloc1 W0 (.cells #[.int .i64 ct, .int .i64 nx, .int .i64 h, .bool false] 49)
  have HF1 := Lib.hid (HF.out.stay hu1)
  have HU1 := Lib.hid (HU0.out.thn hu1)
  have HSZ1 : Hid ((W0.alloc (.cells #[.int .i64 ct, .int .i64 nx, .int .i64 h, .bool false] 49)).heap.size = P + 5) := Lib.hid (by have := HSZ0.out; simp; omega)
  generalize W0.alloc (.cells #[.int .i64 ct, .int .i64 nx, .int .i64 h, .bool false] 49) = W1 at *
  rw [HSZ0.out] at be ⊢
  have HBE := Lib.hid be
  clear be hu1 c1 m0 m1 m2 m3
  obtain ⟨m0, m1, m2, m3⟩ := cells4 HF1.out.bm
  obtain ⟨x0, x1, x2, x3⟩ := cells4 HBE.out
  have HS1 := Lib.hid (HBS.out W1 HU1.out)
  go_upto_region 9 with (go_at_call 52; (with_reducible refine HS1.out.mono ?_); rintro e w2 ⟨p, bb, rfl, hpn, hpp, hu2⟩; have HPP := Lib.hid hpp; clear hpp; have HF2 := Lib.hid (HF1.out.stay hu2); have HU2 := Lib.hid (HU1.out.thn hu2); have HBE2 := Lib.hid (hu2.at HBE.out (by simp)); have hsz2 := hu2.size; clear hu2 m0 m1 m2 m3 x0 x1 x2 x3)
  have HSZ2 : Hid (P + 5 ≤ w2.heap.size) := Lib.hid (by have := HSZ1.out; omega)
  clear hsz2 HS1 HBS HF1 HU1 HBE HVA HVT HHA
  have hu3 := (Upd.refl [] w2).alloc (.cells #[.int .i64 ct, .int .i64 nx, .int .i64 h, .bool false] 49)
  have bv := heap_alloc1 w2 (.cells #[.int .i64 ct, .int .i64 nx, .int .i64 h, .bool false] 49)
  have HF3 := Lib.hid (HF2.out.stay hu3)
  have HU3 := Lib.hid (HU2.out.thn hu3)
  have hsi := HSI.out p w2.heap.size _ hpn bv HU3.out (by have h1 := HSZ2.out; have h2 := HP.out; omega)
  unfold InsPost at hsi
  simp only [SlR.v] at hsi
  have HSI3 := Lib.hid hsi
  clear hsi HSI bv hu3
  have HOW3 := Lib.hid (HO.out.stay HU3.out)
  obtain ⟨m0, m1, m2, m3⟩ := cells4 HF2.out.bm
  obtain ⟨x0, x1, x2, x3⟩ := cells4 HBE2.out
  go_upto_region 10 with (go_at_call 53; (with_reducible refine HSI3.out.mono ?_); rintro e w4 ⟨s', rfl, hsl, hhas, hu4⟩; have HF4 := Lib.hid (HF3.out.row HOW3.out.es (Nat.le_refl _) (by decide) (by decide) (by decide) (plain_own HO.out.es (by decide)) hu4); have HI4 := Lib.hid (hu4.row HOW3.out.is (own_apart2 HOW3.out.is HOW3.out.es (by decide))); have HH4 := Lib.hid hhas; have HSL := Lib.hid hsl; have hsz4 := hu4.size; clear hu4 hhas hsl m0 m1 m2 m3 x0 x1 x2 x3; obtain ⟨m0, m1, m2, m3⟩ := cells4 HF4.out.bm; obtain ⟨f0, f1, f2, f3⟩ := free4 HF4.out.bm)
  have HSZ4 := Lib.hid hsz4
  clear hsz4
  have k5 : (w4.setCell ⟨P, 1, none⟩ (.slice s'.ad s'.l.length s'.cap)).heap[P]? = some (.cells #[.int .i64 cap, .slice s'.ad s'.l.length s'.cap, .int .i64 nx, .slice ia q ic] 25 (0, 0)) := setCell_block HF4.out.bm _
  have u5 := upd_set1 w4 P 1 (.slice s'.ad s'.l.length s'.cap)
  have HH5 := Lib.hid (u5.row HH4.out (fun x hx hm => by simp at hm; subst hm; exact ne_own HF4.out.bm HH4.out (by decide) hx))
  have HI5 := Lib.hid (u5.row HI4.out (fun x hx hm => by simp at hm; subst hm; exact ne_own HF4.out.bm HI4.out (by decide) hx))
  have HF5 := Lib.hid (HF4.out.setM u5 k5)
  generalize w4.setCell ⟨P, 1, none⟩ (.slice s'.ad s'.l.length s'.cap) = W5 at *
  clear k5 u5 m0 m1 m2 m3 f0 f1 f2 f3 HF4 HI4 HH4 HF3 HU3 HOW3 HSI3 HF2 HU2 HBE2
  have HRP := Lib.hid HSL.out
  have HPI : Hid (∀ x, (Value.slice ia q ic).ownBlock = some x → Plain w x) := Lib.hid (by have h6 := plain_own HO.out.is (by decide); simp only [SlR.v, ← HQ.out] at h6; exact h6)
  have hbs5 : b0 ≤ W5.heap.size := by have h1 := HF5.out.base; have h2 := HF5.out.bel.size; omega
  have hu6 := (Upd.refl [] W5).alloc (.cells #[.int .i64 h] 3)
  have HRZ := Lib.hid (num_cells (x := h) (heap_alloc1 W5 (.cells #[.int .i64 h] 3)))
  have HF6 := Lib.hid (HF5.out.stay hu6)
  have HH6 := Lib.hid (hu6.row HH5.out (by simp))
  have HI6 := Lib.hid (hu6.row HI5.out (by simp))
  have HI6q : Hid ((W5.alloc (.cells #[.int .i64 h] 3)).ownsRow b0 3 LN.k (.slice ia q ic) q (LN.flat is)) := Lib.hid (by have h6 := HI6.out; simp only [SlR.v, ← HQ.out] at h6; exact h6)
  have hqi : q + 1 ≤ 1000000 := by omega
  have hbs6 : b0 ≤ (W5.alloc (.cells #[.int .i64 h] 3)).heap.size := Nat.le_trans hbs5 (by simp)
  clear hu6
  obtain ⟨m0, m1, m2, m3⟩ := cells4 HF5.out.bm
  obtain ⟨f0, f1, f2, f3⟩ := free4 HF5.out.bm
  go_upto_region 11 with (at_builtin; go_loud (refine app_row tyN rfl _ _ rfl b0 (.slice ia q ic) q is rfl HI6q.out (some ⟨W5.heap.size, 0, none⟩) 1 1 [h] rfl rfl HRZ.out (fun e => by simp at e) hqi hbs6 ?_; intro v7 w7 hown hgrow; obtain ⟨ya, yc, rfl⟩ := row_shape hown; have hu7 : Upd (Value.slice ia q ic).ownBlock.toList _ w7 := upd_grown hgrow; have HI6' := HI6q.out; have HF7 := Lib.hid (HF6.out.row HI6' (Nat.le_refl _) (by decide) (by decide) (by decide) HPI.out hu7); have HI7 := Lib.hid hown; have HH7 := Lib.hid (hu7.row HH6.out (own_apart2 HH6.out HI6' (by decide))); clear hown hgrow hu7 HI6' m0 m1 m2 m3 f0 f1 f2 f3; obtain ⟨m0, m1, m2, m3⟩ := cells4 HF7.out.bm; obtain ⟨f0, f1, f2, f3⟩ := free4 HF7.out.bm))
  have k8' : (w7.setCell ⟨P, 3, none⟩ (.slice ya (q + 1) yc)).heap[P]? = some (.cells #[.int .i64 cap, .slice s'.ad s'.l.length s'.cap, .int .i64 nx, .slice ya (q + 1) yc] 25 (0, 0)) := setCell_block HF7.out.bm _
  have u8' := upd_set1 w7 P 3 (.slice ya (q + 1) yc)
  have HH8 := Lib.hid (u8'.row HH7.out (fun x hx hm => by simp at hm; subst hm; exact ne_own HF7.out.bm HH7.out (by decide) hx))
  have HI8 := Lib.hid (u8'.row HI7.out (fun x hx hm => by simp at hm; subst hm; exact ne_own HF7.out.bm HI7.out (by decide) hx))
  have HF8 := Lib.hid (HF7.out.setM u8' k8')
  generalize w7.setCell ⟨P, 3, none⟩ (.slice ya (q + 1) yc) = W8 at *
  clear k8' u8' m0 m1 m2 m3 f0 f1 f2 f3 HF7 HI7 HH7 HRZ HF6 HH6 HI6 HI6q HF5 HH5 HI5
  obtain ⟨m0, m1, m2, m3⟩ := cells4 HF8.out.bm
  obtain ⟨f0, f1, f2, f3⟩ := free4 HF8.out.bm
  go_upto_region 12 with (fail)
  have k9' : (W8.setCell ⟨P, 2, none⟩ (.int .i64 (nx + 1))).heap[P]? = some (.cells #[.int .i64 cap, .slice s'.ad s'.l.length s'.cap, .int .i64 (nx + 1), .slice ya (q + 1) yc] 25 (0, 0)) := setCell_block HF8.out.bm _
  have u9' := upd_set1 W8 P 2 (.int .i64 (nx + 1))
  have HH9 := Lib.hid (u9'.row HH8.out (fun x hx hm => by simp at hm; subst hm; exact ne_own HF8.out.bm HH8.out (by decide) hx))
  have HI9 := Lib.hid (u9'.row HI8.out (fun x hx hm => by simp at hm; subst hm; exact ne_own HF8.out.bm HI8.out (by decide) hx))
  have HF9 := Lib.hid (HF8.out.setM u9' k9')
  generalize W8.setCell ⟨P, 2, none⟩ (.int .i64 (nx + 1)) = W9' at *
  clear k9' u9' m0 m1 m2 m3 f0 f1 f2 f3 HF8 HI8 HH8
  obtain ⟨q0, q1, q2, q3⟩ := cells4 HF9.out.bm
  have HRET : Hid (encM ⟨cap, s', nx + 1, ⟨is ++ [h], ya, yc⟩⟩ = .agg #[.int .i64 cap, .slice s'.ad s'.l.length s'.cap, .int .i64 (nx + 1), .slice ya (q + 1) yc]) := Lib.hid (by unfold encM cellsM; simp only [List.length_append, List.length_singleton]; rw [← HQ.out])
  have HIO : Hid (W9'.ownsRow b0 3 LN.k (SlR.v (⟨is ++ [h], ya, yc⟩ : SlR Int)) (is ++ [h]).length (LN.flat (is ++ [h]))) := Lib.hid (by have h := HI9.out; simp only [SlR.v, List.length_append, List.length_singleton]; rw [← HQ.out]; exact h)
  obtain ⟨d0, d1, d2, d3⟩ := cells4 HF9.out.rm
  obtain ⟨e0, e1, e2, e3⟩ := free4 HF9.out.rm
  obtain ⟨d4, d5, d6, d7⟩ := cells4 HF9.out.rr
  obtain ⟨e4, e5, e6, e7⟩ := free4 HF9.out.rr
  go_wp2_with fail
  have k8 := stored4 HF9.out.rm (.int .i64 cap) (.slice s'.ad s'.l.length s'.cap) (.int .i64 (nx + 1)) (.slice ya (q + 1) yc)
  have u8 := upd_set4 W9' (P + 1 + 1) (.int .i64 cap) (.slice s'.ad s'.l.length s'.cap) (.int .i64 (nx + 1)) (.slice ya (q + 1) yc)
  with_reducible generalize (((W9'.setCell ⟨P + 1 + 1, 0, none⟩ (.int .i64 cap)).setCell ⟨P + 1 + 1, 1, none⟩ (.slice s'.ad s'.l.length s'.cap)).setCell ⟨P + 1 + 1, 2, none⟩ (.int .i64 (nx + 1))).setCell ⟨P + 1 + 1, 3, none⟩ (.slice ya (q + 1) yc) = W8 at k8 u8 ⊢
  have k9 := stored4 (u8.at HF9.out.rr (by simp)) (.int .i64 0) (.int .i64 h) (.bool false) (.slice none 0 0)
  have u9 := upd_set4 W8 (P + 1 + 1 + 1) (.int .i64 0) (.int .i64 h) (.bool false) (.slice none 0 0)
  with_reducible generalize (((W8.setCell ⟨P + 1 + 1 + 1, 0, none⟩ (.int .i64 0)).setCell ⟨P + 1 + 1 + 1, 1, none⟩ (.int .i64 h)).setCell ⟨P + 1 + 1 + 1, 2, none⟩ (.bool false)).setCell ⟨P + 1 + 1 + 1, 3, none⟩ (.slice none 0 0) = W9 at k9 u9 ⊢
  obtain ⟨r0, r1, r2, r3⟩ := cells4 (u9.at k8 (by simp))
  obtain ⟨s0, s1, s2, s3⟩ := cells4 k9
  have hU89 : Upd [P + 1 + 1, P + 1 + 1 + 1] W9' W9 := (u8.mono (by simp)).trans u9 (by simp)
  have hU9 : Bel b0 w W9 := HF9.out.bel.thn hU89 (fun x hx => by have h1 := HF9.out.ord; have h2 := HF9.out.base; simp at hx; exact ⟨by omega, plain_new (by omega)⟩)
  exact bodyPost_ret (v := .tuple #[.agg #[.int .i64 cap, .slice s'.ad s'.l.length s'.cap, .int .i64 (nx + 1), .slice ya (q + 1) yc], .agg #[.int .i64 0, .int .i64 h, .bool false, .slice none 0 0]]) (by simp [results, Try.results29, go_sem, r0, r1, r2, r3, s0, s1, s2, s3]) rfl ⟨⟨cap, s', nx + 1, ⟨is ++ [h], ya, yc⟩⟩, ⟨0, h, false, ⟨[], none, 0⟩⟩, by rw [HRET.out]; rfl, (by show (⟨cap, s'.l, nx + 1, is ++ [h]⟩ : Md) = _; rw [HRP.out, ← HPP.out]), rfl, ⟨(hasS_own HH9.out).two2 hU89 (own_ne HH9.out HF9.out.rm (by decide)) (own_ne HH9.out HF9.out.rr (by decide)), (hasS_own HIO.out).two2 hU89 (own_ne HIO.out HF9.out.rm (by decide)) (own_ne HIO.out HF9.out.rr (by decide))⟩, hasS_nil LV _, fun bx hbx => ⟨⟨avS_own HH9.out hbx, avS_own HIO.out hbx⟩, avS_nil _ _ _⟩, hU9⟩
/-- The program's insertion, into a copy of a valid model. -/
theorem PInsert_has (b0 : Nat) (m : MdR) (c : Ca) (h : Int) (w : World) (ho : OwnM b0 w m) (hb0 : b0 ≤ w.heap.size) (hk : OkM m.md) (hi : m.is.l.length ≤ 100000) :
    Calls Try.prog 29 #[encM m, encC c, .int .i64 h] w (GivesO b0 (insM m.md c h) w) := by
  have hlen := hk.len
  have hcap := hk.cap
  have hnx := hk.nx
  have hent := hk.ent
  have hord := hk.ord
  obtain ⟨cap, ⟨es, ea, ec⟩, nx, ⟨is, ia, ic⟩⟩ := m
  obtain ⟨ck, ct, ch, cm, cb⟩ := c
  simp only [MdR.md] at hlen hcap hnx hent hord hi
  have hs : SortedE es := hord.imp (fun h => h.2.2)
  have hq : ∀ e ∈ es, e.q < nx := fun e he => (hent e he).2.2.2.1
  unfold insM MdR.md
  simp only
  split
  · rename_i h0
    exact PInsert_err b0 cap nx es ea ec is ia ic ck ct ch cm cb h w ho hb0 hi 1 (.inl ⟨h0, rfl⟩)
  · rename_i h0
    have h0 := Classical.not_not.1 h0
    split
    · rename_i h3
      exact PInsert_err b0 cap nx es ea ec is ia ic ck ct ch cm cb h w ho hb0 hi 10 (.inr (.inl ⟨h0, h3, rfl⟩))
    · rename_i h3
      split
      · rename_i h4
        exact PInsert_err b0 cap nx es ea ec is ia ic ck ct ch cm cb h w ho hb0 hi 1 (.inr (.inr ⟨h0, h3, h4, rfl⟩))
      · rename_i h4
        rw [not_or] at h4
        exact PInsert_ok b0 cap nx es ea ec is ia ic ck ct ch cm cb h w ho hb0 (by omega) hi (by omega) h0 h3 (by simpa using h4.1) h4.2 hs hq
end Go.Proofs.Ytpneljhplbkdkaa
