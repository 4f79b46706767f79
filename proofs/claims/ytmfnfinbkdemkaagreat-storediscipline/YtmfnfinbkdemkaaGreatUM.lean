/- Contracts: the program's small functions: divide, Index, Start, start, Current, End, New; slices.Clone of items. -/
/- Contracts: the program's copyLists and clone: a rung whose memory is new and apart. -/
import Derived.Test.YtmfnfinbkdemkaaGreatGE
namespace Go.Proofs.YtmfnfinbkdemkaaGreat
open Go.RowKit Go.Lib

theorem div_bd {a b : Int} (ha : 0 ≤ a) (hb : 1 ≤ b) : 0 ≤ a / b ∧ a / b ≤ a :=
  ⟨Int.ediv_nonneg ha (by omega), Int.ediv_le_self _ ha⟩
theorem mod_bd {a b : Int} (hb : 1 ≤ b) : 0 ≤ a % b ∧ a % b < b :=
  ⟨Int.emod_nonneg _ (by omega), Int.emod_lt_of_pos _ (by omega)⟩

set_option maxRecDepth 100000 in
set_option maxHeartbeats 1000000 in
theorem divide_down (a b : Int) (ha : 0 ≤ a ∧ a ≤ 4611686018427387904) (hb : 1 ≤ b ∧ b ≤ 4611686018427387904) (w : World) :
    Calls Tryz.prog 129 #[.int .i64 a, .int .i64 b, .bool false] w fun e w' => e = .returned (.int .i64 (a / b)) ∧ Upd [] w w' := by
  have hd : a.tdiv b = a / b := Int.tdiv_eq_ediv_of_nonneg ha.1
  have hm : a.tmod b = a % b := Int.tmod_eq_emod_of_nonneg ha.1
  have b1 := div_bd ha.1 hb.1
  have b2 := mod_bd (a := a) hb.1
  have hz : (b == 0) = false := by simp; omega
  have hz2 : decide (b ≤ 0) = false := by simp; omega
  have hn : decide (a % b < 0) = false := by simp; omega
  have hw1 : IntKind.i64.wrap (a / b) = a / b := by rw [IntKind.wrap_i64]; omega
  have hw2 : IntKind.i64.wrap (a % b) = a % b := by rw [IntKind.wrap_i64]; omega
  generalize a / b = q at *
  generalize a % b = r at *
  go_enter Tryz.func129, Tryz.ntmps129
  go_wp2_with fail
  go_quiet (fail)
  go_wp2_with fail
  go_ret
  exact ⟨rfl, (Upd.refl [] _).drewN _⟩

set_option maxRecDepth 100000 in
set_option maxHeartbeats 400000 in
theorem Index_in (f n t : Int) (hf : 0 ≤ f) (h : f ≤ t) (ht : t ≤ 4611686018427387904) (hn : 1 ≤ n ∧ n ≤ 4611686018427387904) (w : World) :
    Calls Tryz.prog 112 #[.int .i64 f, .int .i64 n, .int .i64 t] w fun e w' => e = .returned (.int .i64 ((t - f) / n)) ∧ Upd [] w w' := by
  have hs : IntKind.i64.wrap (t - f) = t - f := by rw [IntKind.wrap_i64]; omega
  have E1 := Lib.hid (divide_down (t - f) n (by omega) hn)
  go_enter Tryz.func112, Tryz.ntmps112
  go_wp2_with fail
  refine (E1.out _).mono ?_
  rintro e w' ⟨rfl, hu⟩
  go_wp2_with fail
  go_ret
  exact ⟨rfl, hu⟩
set_option maxRecDepth 100000 in
set_option maxHeartbeats 400000 in
theorem Start_in (f n i : Int) (hf : 0 ≤ f ∧ f ≤ 1152921504606846976) (hp : 0 ≤ i * n ∧ i * n ≤ 4611686018427387904) (w : World) :
    Calls Tryz.prog 115 #[.int .i64 f, .int .i64 n, .int .i64 i] w fun e w' => e = .returned (.int .i64 (f + i * n)) ∧ Upd [] w w' := by
  have hs : IntKind.i64.wrap (i * n) = i * n := by rw [IntKind.wrap_i64]; omega
  have ht : IntKind.i64.wrap (f + i * n) = f + i * n := by rw [IntKind.wrap_i64]; omega
  go_enter Tryz.func115, Tryz.ntmps115
  go_wp2_with fail
  go_ret
  exact ⟨rfl, Upd.refl [] _⟩

set_option maxRecDepth 100000 in
set_option maxHeartbeats 400000 in
theorem start_has (r : RgR) (i : Int) (w : World) (hf : 0 ≤ r.fr ∧ r.fr ≤ 1152921504606846976) (hp : 0 ≤ i * r.wd ∧ i * r.wd ≤ 4611686018427387904) :
    Calls Tryz.prog 93 #[encR r, .int .i64 i] w fun e w' => e = .returned (.int .i64 (r.fr + i * r.wd)) ∧ Upd [] w w' := by
  have E1 := Lib.hid (Start_in r.fr r.wd i hf hp)
  obtain ⟨fr, wd, cu, bl, ba, bc⟩ := r
  unfold encR
  simp only at E1 ⊢
  generalize bl.length = n
  clear hf hp
  go_enter Tryz.func93, Tryz.ntmps93
  go_upto_region 1 with (fail)
  have hu := (Upd.refl [] w).alloc (.cells #[.int .i64 fr, .int .i64 wd, .int .i64 cu, .slice ba n bc] 93)
  obtain ⟨c0, c1, c2, c3⟩ := cells4 (heap_alloc1 w (.cells #[.int .i64 fr, .int .i64 wd, .int .i64 cu, .slice ba n bc] 93))
  generalize w.alloc (.cells #[.int .i64 fr, .int .i64 wd, .int .i64 cu, .slice ba n bc] 93) = W at *
  generalize w.heap.size = P at *
  go_wp2_with fail
  (with_reducible refine (E1.out _).mono ?_)
  rintro e w' ⟨rfl, hu2⟩
  go_wp2_with fail
  go_ret
  exact ⟨rfl, hu.thn hu2⟩
set_option maxRecDepth 100000 in
set_option maxHeartbeats 400000 in
theorem Current_has (r : RgR) (w : World) (hg : GoodR r.rg) :
    Calls Tryz.prog 67 #[encR r] w fun e w' => e = .returned (.int .i64 (curT r.rg)) ∧ Upd [] w w' := by
  have h1 := hg.prod hg.cu0 hg.cu1
  have h2 := hg.fr0; have h3 := hg.fr1; have h4 := hg.wd1; have h5 := hg.wd0
  simp only [RgR.rg] at h1 h2 h3 h4 h5
  have E1 := Lib.hid (fun W => start_has r r.cu W (by omega) (by omega))
  obtain ⟨fr, wd, cu, bl, ba, bc⟩ := r
  unfold encR at E1 ⊢
  unfold curT
  simp only [RgR.rg] at E1 ⊢
  generalize bl.length = n at *
  clear hg h1 h2 h3 h4 h5
  go_enter Tryz.func67, Tryz.ntmps67
  go_upto_region 1 with (fail)
  have hu := (Upd.refl [] w).alloc (.cells #[.int .i64 fr, .int .i64 wd, .int .i64 cu, .slice ba n bc] 93)
  obtain ⟨c0, c1, c2, c3⟩ := cells4 (heap_alloc1 w (.cells #[.int .i64 fr, .int .i64 wd, .int .i64 cu, .slice ba n bc] 93))
  generalize w.alloc (.cells #[.int .i64 fr, .int .i64 wd, .int .i64 cu, .slice ba n bc] 93) = W at *
  generalize w.heap.size = P at *
  go_wp2_with fail
  (with_reducible refine (E1.out _).mono ?_)
  rintro e w' ⟨rfl, hu2⟩
  go_wp2_with fail
  go_ret
  exact ⟨rfl, hu.thn hu2⟩
set_option maxRecDepth 100000 in
set_option maxHeartbeats 400000 in
theorem End_has (r : RgR) (w : World) (hg : GoodR r.rg) :
    Calls Tryz.prog 111 #[encR r] w fun e w' => e = .returned (.int .i64 (endT r.rg)) ∧ Upd [] w w' := by
  have h1 := hg.prod hg.cu0 hg.cu1
  have h2 := hg.fr0; have h3 := hg.fr1; have h4 := hg.wd1; have h5 := hg.wd0
  simp only [RgR.rg] at h1 h2 h3 h4 h5
  have E1 := Lib.hid (fun W => start_has r 8 W (by omega) (by omega))
  obtain ⟨fr, wd, cu, bl, ba, bc⟩ := r
  unfold encR at E1 ⊢
  unfold endT
  simp only [RgR.rg] at E1 ⊢
  generalize bl.length = n at *
  clear hg h1 h2 h3 h4 h5
  go_enter Tryz.func111, Tryz.ntmps111
  go_upto_region 1 with (fail)
  have hu := (Upd.refl [] w).alloc (.cells #[.int .i64 fr, .int .i64 wd, .int .i64 cu, .slice ba n bc] 93)
  obtain ⟨c0, c1, c2, c3⟩ := cells4 (heap_alloc1 w (.cells #[.int .i64 fr, .int .i64 wd, .int .i64 cu, .slice ba n bc] 93))
  generalize w.alloc (.cells #[.int .i64 fr, .int .i64 wd, .int .i64 cu, .slice ba n bc] 93) = W at *
  generalize w.heap.size = P at *
  go_wp2_with fail
  (with_reducible refine (E1.out _).mono ?_)
  rintro e w' ⟨rfl, hu2⟩
  go_wp2_with fail
  go_ret
  exact ⟨rfl, hu.thn hu2⟩
set_option maxRecDepth 100000 in
set_option maxHeartbeats 2000000 in
theorem New_has (f d : Int) (w : World) :
    Calls Tryz.prog 118 #[.int .i64 f, .int .i64 d] w fun e w' => ∃ r', e = .returned (encR r') ∧ Born w (newR f d) w' r' := by
  have hmk : ∀ w : World, (Instr.makeSlice 91 (.int .i64 8) (.int .i64 8)).run Tryz.prog w = .ok (.slice (some ⟨w.heap.size, 0, none⟩) 8 8) (w.alloc (.cells (List.replicate 8 (Value.slice none 0 0)).toArray 47)) := mkAny 91 47 (.slice none 0 0) 1 24 Tryz.underlying91 infoItems 8 (by decide) (by decide) _ (madeOne _ 8)
  generalize hX : (List.replicate 8 (Value.slice none 0 0)).toArray = X at hmk
  have HX := Lib.hid hX
  clear hX
  go_enter Tryz.func118, Tryz.ntmps118
  go_upto_region 1 with (fail)
  have b0 := heap_alloc1 w (.cells #[.int .i64 0, .int .i64 0, .int .i64 0, .slice none 0 0] 93)
  have hu := (Upd.refl [] w).alloc (.cells #[.int .i64 0, .int .i64 0, .int .i64 0, .slice none 0 0] 93)
  have hs0 : (w.alloc (.cells #[.int .i64 0, .int .i64 0, .int .i64 0, .slice none 0 0] 93)).heap.size = w.heap.size + 1 := by simp
  generalize w.alloc (.cells #[.int .i64 0, .int .i64 0, .int .i64 0, .slice none 0 0] 93) = W at *
  generalize hP : w.heap.size = P at *
  have b1 := heap_alloc1 W (.cells X 47)
  have hu1 := (Upd.refl [] W).alloc (.cells X 47)
  have b2 := hu1.at b0 (by simp)
  obtain ⟨c0, c1, c2, c3⟩ := cells4 b2
  obtain ⟨z0, z1, z2, z3⟩ := free4 b2
  have HB1 := Lib.hid b1; have HU1 := Lib.hid hu1; have HB2 := Lib.hid b2; have HU := Lib.hid hu; have HP := Lib.hid hP; have HS0 := Lib.hid hs0
  clear b0 b1 hu1 b2 hu hP hs0
  go_wp2_with fail
  clear c0 c1 c2 c3 z0 z1 z2 z3
  generalize W.alloc (.cells X 47) = W1 at *
  generalize W.heap.size = g at *
  have p2 := stored4 HB2.out (.int .i64 f) (.int .i64 d) (.int .i64 0) (.slice (some ⟨g, 0, none⟩) 8 8)
  have hU5 := upd_set4 W1 P (.int .i64 f) (.int .i64 d) (.int .i64 0) (.slice (some ⟨g, 0, none⟩) 8 8)
  generalize (((W1.setCell ⟨P, 0, none⟩ (.int .i64 f)).setCell ⟨P, 1, none⟩ (.int .i64 d)).setCell ⟨P, 2, none⟩ (.int .i64 0)).setCell ⟨P, 3, none⟩ (.slice (some ⟨g, 0, none⟩) 8 8) = w4 at p2 hU5 ⊢
  obtain ⟨r0, r1, r2, r3⟩ := cells4 p2
  have hp := HP.out
  have hs := HS0.out
  have b1 := HB1.out
  rw [← HX.out] at b1
  have hh := ((held_made b1).keep hU5 (by simp; omega)).has
  exact bodyPost_ret (v := .agg #[.int .i64 f, .int .i64 d, .int .i64 0, .slice (some ⟨g, 0, none⟩) 8 8]) (by simp [results, Tryz.results118, go_sem, r0, r1, r2, r3]) rfl
    ⟨⟨f, d, 0, ⟨List.replicate 8 nilB, some ⟨g, 0, none⟩, 8⟩⟩, rfl, rfl, ⟨hh, fun s hs => by rw [(List.mem_replicate.1 hs).2]; exact hasS_nil LI _⟩,
      fun b hb => ⟨fun _ a e => by obtain rfl := Option.some.inj e; simp only; omega, fun s hs => by rw [(List.mem_replicate.1 hs).2]; exact avS_nil b _ _⟩, (HU.out.thn HU1.out).new hU5 (by omega)⟩

set_option maxRecDepth 100000 in
set_option maxHeartbeats 2000000 in
theorem Clone_has (a : Option Addr) (c : Nat) (xs : List It) (w : World) (ha : Row LI w a xs) (hnl : a = none → c = 0) (hx : xs.length ≤ 1000000) :
    Calls Tryz.prog 96 #[.slice a xs.length c] w fun e w' => ∃ va vc, e = .returned (.slice va xs.length vc) ∧ w'.ownsRow w.heap.size 36 3 (.slice va xs.length vc) xs.length (LI.flat xs) ∧ Upd [] w w' := by
  have q22 : ∀ (w : World) (a : Option Addr) (n c n' c' : Nat), (binOp .eql 47 (.slice a n c) (.slice none n' c')).run Tryz.prog w = .ok (.bool a.isNone) w := fun w a n c n' c' => Lib.run_eql_slice_nil w _ _ a n c n' c' Tryz.underlying47
  have HA := Lib.hid ha
  clear ha
  cases a with
  | none =>
    have hn : xs = [] := row_none HA.out
    subst hn
    clear HA
    go_enter Tryz.func96, Tryz.ntmps96
    go_wp2_with fail
    go_ret
    exact ⟨_, _, rfl, World.ownsRow_nil _ _ _ _, Upd.refl _ _⟩
  | some ad =>
    obtain ⟨n, hn⟩ : ∃ n, n = xs.length := ⟨_, rfl⟩
    rw [← hn] at hx ⊢
    have HN := Lib.hid hn
    have HR := Lib.hid (HA.out.stay ((Upd.refl [] w).alloc (.cells #[] 36)))
    clear hn HA
    go_enter Tryz.func96, Tryz.ntmps96
    go_wp2_with (at_builtin; refine app_row tyI rfl _ _ rfl w.heap.size (.slice (some ⟨w.heap.size, 0, none⟩) 0 0) 0 [] rfl (World.ownsRow_made w #[] 0 (Nat.le_refl _) (Nat.zero_le _) (by simp)) (some ad) n c xs rfl HN.out HR.out (fun e => by simp at e) (by omega) (by simp) ?_; intro v' w1 hown hgrow)
    rw [Nat.zero_add, List.nil_append] at hown
    have HU : Hid (Upd [] w w1) := ((Upd.refl [] w).alloc _).grown hgrow (fun k hk hl => by simp [Value.ownBlock] at hk; omega)
    obtain ⟨va, vc, rfl⟩ := row_shape hown
    have HO := Lib.hid hown
    clear hown hgrow
    go_wp2_with fail
    go_ret
    exact ⟨va, vc, rfl, HO.out, HU.out⟩
end Go.Proofs.YtmfnfinbkdemkaaGreat
namespace Go.Proofs.YtmfnfinbkdemkaaGreat
open Go.RowKit Go.Lib

/-- In w' the block g holds the buckets sl: the first k of bl copied, the others nil; all of it new to w and apart. -/
structure Part (w : World) (bl : List (SlR It)) (k : Nat) (w' : World) (sl : List (SlR It)) (g : Nat) : Prop where
  len : sl.length = bl.length
  done : ∀ j (h : j < sl.length) (h' : j < bl.length), j < k → sl[j].l = bl[j].l
  rest : ∀ j (h : j < sl.length), k ≤ j → sl[j] = nilB
  held : Held LB 47 w' g bl.length sl
  ge : w.heap.size ≤ g
  own : ∀ s ∈ sl, w'.ownsRow w.heap.size 36 3 s.v s.l.length (LI.flat s.l)
  dis : ∀ i j (hi : i < sl.length) (hj : j < sl.length), i < j → ∀ x, sl[i].v.ownBlock = some x → sl[j].v.ownBlock ≠ some x
  upd : Upd [] w w'
theorem own_lt {w : World} {base size n : Nat} {e : TypeId} {v : Value} {xs : List Value} (h : w.ownsRow base e size v n xs) {x : Nat} (hx : v.ownBlock = some x) : x < w.heap.size := by
  rcases h.2 with ⟨rfl, _⟩ | ⟨g, cap, cur, rfl, hb, hg, _⟩
  · simp [Value.ownBlock] at hx
  · simp [Value.ownBlock] at hx
    subst hx
    exact lt_block hg
theorem Part.zero {w w0 : World} {bl : List (SlR It)} {g : Nat} (hu : Upd [] w w0) (hg : w.heap.size ≤ g) (h : w0.heap[g]? = some (.cells (List.replicate bl.length (Value.slice none 0 0)).toArray 47 (0, 0))) : Part w bl 0 w0 (List.replicate bl.length nilB) g := by
  refine ⟨by simp, fun j _ _ hj => by omega, fun j hj _ => by simp, ⟨⟨_, h, by simp [LB], ?_⟩, by simp⟩, hg, fun s hs => ?_, fun i j hi hj _ x hx => ?_, hu⟩
  · have e : LB.flat (List.replicate bl.length nilB) = List.replicate bl.length (Value.slice none 0 0) := by
      generalize bl.length = n
      induction n with
      | zero => rfl
      | succ n ih => rw [List.replicate_succ, LB.flat_cons, ih, List.replicate_succ]; rfl
    rw [e]
    simp [LB]
  · rw [(List.mem_replicate.1 hs).2]
    exact World.ownsRow_nil _ _ _ _
  · simp [nilB, SlR.v, Value.ownBlock] at hx
theorem Part.step {w wr w1 : World} {bl sl : List (SlR It)} {k g : Nat} (h : Part w bl k wr sl g) (hk : k < bl.length) (s : SlR It) (hs : s.l = bl[k].l) (hu : Upd [] wr w1) (ho : w1.ownsRow wr.heap.size 36 3 s.v s.l.length (LI.flat s.l)) :
    Part w bl (k + 1) (w1.setCell ⟨g, k, none⟩ s.v) (sl.set k s) g := by
  have hl := h.len
  have hks : k < sl.length := by omega
  have hU := upd_set1 w1 g k s.v
  have hsz := h.upd.size
  have hnb : ∀ {base n : Nat} {v : Value} {xs : List Value}, w1.ownsRow base 36 3 v n xs → v.ownBlock ≠ some g := fun hr => by
    obtain ⟨cur, hc, _⟩ := (h.held.keep hu (by simp)).ex
    exact ne_own hc hr (by decide)
  have hkeep : ∀ {base n : Nat} {v : Value} {xs : List Value}, w1.ownsRow base 36 3 v n xs → (w1.setCell ⟨g, k, none⟩ s.v).ownsRow base 36 3 v n xs := fun hr => row_setCell hr (hnb hr) _
  refine ⟨by simp [hl], fun j hj hj' hjk => ?_, fun j hj hjk => ?_, ?_, h.ge, fun x hx => ?_, fun i j hi hj hij x hx => ?_, (h.upd.thn hu).new hU h.ge⟩
  · by_cases e : j = k
    · subst e; simp [hs]
    · rw [List.getElem_set_ne (fun e' => e e'.symm)]
      exact h.done j (by simpa using hj) hj' (by omega)
  · rw [List.getElem_set_ne (by omega)]
    exact h.rest j (by simpa using hj) (by omega)
  · have := (h.held.keep hu (by simp)).set k hks s
    have e : stores w1 g (k * LB.k) (LB.enc s) = w1.setCell ⟨g, k, none⟩ s.v := by
      show w1.setCell ⟨g, k * 1, none⟩ _ = _
      rw [Nat.mul_one]; rfl
    rw [e] at this
    exact this
  · rcases List.mem_or_eq_of_mem_set hx with hx | rfl
    · exact hkeep (hu.row (h.own x hx) (by simp))
    · exact row_base (hkeep ho) hsz
  · simp only [List.length_set] at hi hj
    by_cases ei : k = i
    · subst ei
      rw [List.getElem_set_ne (by omega), h.rest j hj (by omega)]
      simp [nilB, SlR.v, Value.ownBlock]
    · rw [List.getElem_set_ne ei] at hx
      by_cases ej : k = j
      · subst ej
        rw [List.getElem_set_self]
        intro hx2
        have h1 := own_lt (h.own _ (List.getElem_mem hi)) hx
        have h2 := own_ge ho x hx2
        omega
      · rw [List.getElem_set_ne ej]
        exact h.dis i j hi hj hij x hx
/-- All copied. -/
theorem Part.rows {w w' : World} {bl sl : List (SlR It)} {g : Nat} (h : Part w bl bl.length w' sl g) : rowsOf sl = rowsOf bl := by
  have hl := h.len
  refine List.ext_getElem (by simp [rowsOf, hl]) fun j h1 h2 => ?_
  simp only [rowsOf, List.length_map] at h1 h2
  simp only [rowsOf, List.getElem_map]
  exact h.done j h1 h2 h2
theorem Part.has {w w' : World} {bl sl : List (SlR It)} {k g : Nat} (h : Part w bl k w' sl g) : ∀ s ∈ sl, HasS LI w' s := fun s hs => by
  obtain ⟨_, ad, cap, e, hS, _⟩ := hasS_row (h.own s hs)
  obtain ⟨l, a, c⟩ := s
  simp only [SlR.v, Value.slice.injEq] at e
  obtain ⟨rfl, _, rfl⟩ := e
  exact hS
theorem Part.av {w w' : World} {bl sl : List (SlR It)} {k g : Nat} (h : Part w bl k w' sl g) {b : Nat} (hb : b < w.heap.size) : ∀ s ∈ sl, AvS s b := fun s hs _ a ea => by
  have := own_ge (h.own s hs) a.block (by obtain ⟨l, a', c⟩ := s; simp only at ea; subst ea; rfl)
  omega
theorem Part.lt {w w' : World} {bl sl : List (SlR It)} {k g : Nat} (h : Part w bl k w' sl g) : g < w'.heap.size := h.held.lt

set_option maxRecDepth 100000 in
set_option maxHeartbeats 4000000 in
theorem copyLists_has (bl : List (SlR It)) (ba : Option Addr) (bc : Nat) (w : World) (hb : Row LB w ba bl) (hi : ∀ s ∈ bl, HasS LI w s) (hn : bl.length ≤ 1000) (hm : ∀ s ∈ bl, s.l.length ≤ 1000000) :
    Calls Tryz.prog 128 #[.slice ba bl.length bc] w fun e w' => ∃ sl g, e = .returned (.slice (some ⟨g, 0, none⟩) bl.length bl.length) ∧ Part w bl bl.length w' sl g := by
  have hmk := mkAny 91 47 (.slice none 0 0) 1 24 Tryz.underlying91 infoItems bl.length (by omega) (by omega) _ (madeOne _ bl.length)
  have HZ : Hid (∀ w0, Upd [] w w0 → Part w bl 0 (w0.alloc (.cells (List.replicate bl.length (Value.slice none 0 0)).toArray 47)) (List.replicate bl.length nilB) w0.heap.size) := fun w0 hu => Part.zero (hu.alloc _) hu.size (heap_alloc1 _ _)
  have HB := Lib.hid hb; have HI := Lib.hid hi; have HM := Lib.hid hm
  obtain ⟨n, hnn⟩ : ∃ n, n = bl.length := ⟨_, rfl⟩
  have HPT : Hid (∀ wr sl g, Part w bl n wr sl g → ∃ sl g', Ending.returned (.slice (some ⟨g, 0, none⟩) n n) = .returned (.slice (some ⟨g', 0, none⟩) n n) ∧ Part w bl n wr sl g') := fun wr sl g h => ⟨sl, g, rfl, h⟩
  rw [← hnn] at hmk hn HZ ⊢
  have HN := Lib.hid hnn
  generalize hX : (List.replicate n (Value.slice none 0 0)).toArray = X at hmk HZ
  generalize List.replicate n nilB = sl0 at HZ
  clear hb hi hm hnn hX
  go_enter Tryz.func128, Tryz.ntmps128
  go_wp2_with fail
  have HP0 := Lib.hid (HZ.out w (Upd.refl [] w))
  generalize w.alloc (.cells X 47) = W at *
  have hge := HP0.out.ge
  generalize w.heap.size = g at *
  clear hge hmk
  go_loopg [11] n (fun gk vi wr => ∃ (k : Nat) (sl : List (SlR It)), vi = .int .i64 k ∧ k + gk = n ∧ Hid (Part w bl k wr sl g))
  case atStart => exact ⟨0, _, rfl, by omega, HP0⟩
  case round =>
    obtain ⟨k, sl, rfl, hkg, HP⟩ := hrel
    by_cases hlt : k < n
    · have hltz : (k : Int) < (n : Int) := by omega
      have hk1 : k < bl.length := by have := HN.out; omega
      obtain ⟨b, off, hbo, bk0⟩ := (HB.out.stay HP.out.upd).bucket k hk1
      subst hbo
      have hir := (HI.out _ (List.getElem_mem hk1)).stay HP.out.upd
      have hbl := HM.out _ (List.getElem_mem hk1)
      have HCL := Lib.hid (Clone_has bl[k].ad bl[k].cap bl[k].l wr hir.row hir.nn hbl)
      have HST := Lib.hid (fun (s : SlR It) (hs : s.l = bl[k].l) w1 => HP.out.step (w1 := w1) hk1 s hs)
      have hks : k < sl.length := by rw [HP.out.len]; exact hk1
      obtain ⟨k0, z0⟩ := HP.out.held.cell k hks 0 _ rfl
      rw [show k * LB.k + 0 = k from by show k * 1 + 0 = _; omega] at k0 z0
      have HC0 := Lib.hid (fun w1 (hu : Upd [] wr w1) => hu.cell k0 (by simp))
      have HF0 := Lib.hid (fun w1 (hu : Upd [] wr w1) => (by
        obtain ⟨cur, hc, _⟩ := (HP.out.held.keep hu (by simp)).ex
        exact free_block hc k : w1.frozen? ⟨g, k, none⟩ = false))
      have HWL : Hid (∀ va vc, (SlR.v ⟨bl[k].l, va, vc⟩ : Value) = .slice va bl[k].l.length vc) := fun _ _ => rfl
      generalize bl[k].l = il at *
      generalize bl[k].ad = am at *
      generalize bl[k].cap = cm at *
      generalize sl[k].ad = xa at *
      generalize sl[k].l.length = xl at *
      generalize sl[k].cap = xc at *
      generalize hm : il.length = m at *
      have HMM := Lib.hid hm
      clear k0 z0 hir hbl hm
      go_upto_region 5 with (fail)
      clear bk0
      go_upto_region 6 with (go_at_call 96; (with_reducible refine HCL.out.mono ?_); rintro e w1 ⟨va, vc, rfl, hown, hu⟩; have k0 := HC0.out w1 hu; have z0 := HF0.out w1 hu; have HO := Lib.hid hown; have HU1 := Lib.hid hu; clear hown hu)
      have HP2 : Hid (Part w bl (k + 1) (w1.setCell ⟨g, k, none⟩ (.slice va m vc)) (sl.set k ⟨il, va, vc⟩) g) := by
        have := HST.out ⟨il, va, vc⟩ rfl w1 HU1.out (by simp only [SlR.v]; rw [HMM.out]; exact HO.out)
        simp only [SlR.v] at this
        rw [HMM.out] at this
        exact this
      generalize w1.setCell ⟨g, k, none⟩ (.slice va m vc) = w2 at HP2 ⊢
      clear k0 z0
      go_wp2_with fail
      go_roundg (gk - 1)
      case measure => omega
      case rel => exact ⟨k + 1, _, by go_num, by omega, HP2⟩
    · have hltz : ¬ (k : Int) < (n : Int) := by omega
      have HK : Hid (k = n) := by show k = n; omega
      rw [HK.out] at HP
      clear HK
      go_wp2_with fail
      go_ret
      exact HPT.out _ _ _ HP.out

theorem Part.of_upd {w W w' : World} {bl sl : List (SlR It)} {k g : Nat} (h : Part W bl k w' sl g) (hu : Upd [] w W) : Part w bl k w' sl g :=
  ⟨h.len, h.done, h.rest, h.held, Nat.le_trans hu.size h.ge, fun s hs => row_base (h.own s hs) hu.size, h.dis, hu.thn h.upd⟩
/-- A box of another kind is written. -/
theorem Part.box {w w' w2 : World} {bl sl : List (SlR It)} {k g b : Nat} {c : Array Value} {f : Nat × Nat} (h : Part w bl k w' sl g) (hb : w'.heap[b]? = some (.cells c 93 f)) (hw : w.heap.size ≤ b) (hu : Upd [b] w' w2) : Part w bl k w2 sl g := by
  obtain ⟨cur, hc, _⟩ := h.held.ex
  have hne : g ≠ b := ne_block hc hb (by decide)
  exact ⟨h.len, h.done, h.rest, h.held.keep hu (by simp; exact hne), h.ge, fun s hs => hu.row (h.own s hs) (fun x hx => by
    have := ne_own hb (h.own s hs) (by decide)
    simp only [List.mem_singleton]
    rintro rfl
    exact this hx), h.dis, h.upd.new hu hw⟩
theorem Part.stay {w w' w2 : World} {bl sl : List (SlR It)} {k g : Nat} (h : Part w bl k w' sl g) (hu : Upd [] w' w2) : Part w bl k w2 sl g :=
  ⟨h.len, h.done, h.rest, h.held.keep hu (by simp), h.ge, fun s hs => hu.row (h.own s hs) (by simp), h.dis, h.upd.thn hu⟩

set_option maxRecDepth 100000 in
set_option maxHeartbeats 4000000 in
theorem clone_has (r : RgR) (w : World) (ha : HasR w r) (hn : r.bk.l.length ≤ 1000) (hm : ∀ s ∈ r.bk.l, s.l.length ≤ 1000000) :
    Calls Tryz.prog 110 #[encR r] w fun e w' => ∃ sl g, e = .returned (.agg #[.int .i64 r.fr, .int .i64 r.wd, .int .i64 r.cu, .slice (some ⟨g, 0, none⟩) r.bk.l.length r.bk.l.length]) ∧ Part w r.bk.l r.bk.l.length w' sl g := by
  obtain ⟨fr, wd, cu, bl, ba, bc⟩ := r
  simp only at hn hm ⊢
  have HCP := Lib.hid (fun W (hu : Upd [] w W) => copyLists_has bl ba bc W (ha.stay hu).bk.row (ha.stay hu).its hn hm)
  unfold encR
  simp only
  have HFN : Hid (∀ W sl g, Part w bl bl.length W sl g → ∃ sl g', Ending.returned (.agg #[.int .i64 fr, .int .i64 wd, .int .i64 cu, .slice (some ⟨g, 0, none⟩) bl.length bl.length]) = .returned (.agg #[.int .i64 fr, .int .i64 wd, .int .i64 cu, .slice (some ⟨g', 0, none⟩) bl.length bl.length]) ∧ Part w bl bl.length W sl g') := fun W sl g h => ⟨sl, g, rfl, h⟩
  generalize bl.length = n at *
  clear ha hm
  go_enter Tryz.func110, Tryz.ntmps110
  go_upto_region 1 with (fail)
  generalize hA : (Obj.cells #[.int .i64 fr, .int .i64 wd, .int .i64 cu, .slice ba n bc] 93 : Obj) = A
  generalize hC : (Obj.cells #[.int .i64 0, .int .i64 0, .int .i64 0, .slice none 0 0] 93 : Obj) = C
  obtain ⟨hu, b0, b2, hsz⟩ := two_boxes w A C
  generalize (w.alloc A).alloc C = W at *
  generalize hH : w.heap.size = H at *
  rw [← hA] at b0
  rw [← hC] at b2
  have HU := Lib.hid hu; have HB0 := Lib.hid b0; have HB2 := Lib.hid b2; have HH := Lib.hid hH; have HSZ := Lib.hid hsz
  obtain ⟨c0, c1, c2, c3⟩ := cells4 b0
  clear hu hA hC b0 b2 hH hsz c0 c1 c2
  go_upto_region 2 with (go_at_call 128; (with_reducible refine (HCP.out _ HU.out).mono ?_); rintro e w1 ⟨sl, g, rfl, hP⟩; have HP := Lib.hid (hP.of_upd HU.out); have q0 := hP.upd.at HB0.out (by simp); have q2 := hP.upd.at HB2.out (by simp); have HQ0 := Lib.hid q0; have HQ2 := Lib.hid q2; obtain ⟨c0, c1, c2, c3⟩ := cells4 q0; obtain ⟨d0, d1, d2, d3⟩ := free4 q0; clear q0 q2 c0 c1 c2 d0 d1 d2 hP)
  have q0 : (w1.setCell ⟨H, 3, none⟩ (.slice (some ⟨g, 0, none⟩) n n)).heap[H]? = some (.cells #[.int .i64 fr, .int .i64 wd, .int .i64 cu, .slice (some ⟨g, 0, none⟩) n n] 93 (0, 0)) := setCell_block HQ0.out _
  have hU4 := upd_set1 w1 H 3 (.slice (some ⟨g, 0, none⟩) n n)
  have q2 := hU4.at HQ2.out (by simp)
  have HP2 := Lib.hid (HP.out.box HQ0.out (by have := HH.out; omega) hU4)
  generalize w1.setCell ⟨H, 3, none⟩ (.slice (some ⟨g, 0, none⟩) n n) = w3 at q0 hU4 q2 HP2 ⊢
  have HQ2 := Lib.hid q2
  clear c3 d3 hU4
  obtain ⟨c0, c1, c2, c3⟩ := cells4 q0
  obtain ⟨e0, e1, e2, e3⟩ := cells4 q2
  obtain ⟨z0, z1, z2, z3⟩ := free4 q2
  clear q0 q2
  go_wp2_with fail
  have p2 := stored4 HQ2.out (.int .i64 fr) (.int .i64 wd) (.int .i64 cu) (.slice (some ⟨g, 0, none⟩) n n)
  have hU5 := upd_set4 w3 (H + 1) (.int .i64 fr) (.int .i64 wd) (.int .i64 cu) (.slice (some ⟨g, 0, none⟩) n n)
  have HP3 := HP2.out.box HQ2.out (by have := HH.out; omega) hU5
  generalize (((w3.setCell ⟨H + 1, 0, none⟩ (.int .i64 fr)).setCell ⟨H + 1, 1, none⟩ (.int .i64 wd)).setCell ⟨H + 1, 2, none⟩ (.int .i64 cu)).setCell ⟨H + 1, 3, none⟩ (.slice (some ⟨g, 0, none⟩) n n) = w4 at p2 hU5 HP3 ⊢
  obtain ⟨r0, r1, r2, r3⟩ := cells4 p2
  exact bodyPost_ret (v := .agg #[.int .i64 fr, .int .i64 wd, .int .i64 cu, .slice (some ⟨g, 0, none⟩) n n]) (by simp [results, Tryz.results110, go_sem, r0, r1, r2, r3]) rfl (HFN.out _ _ _ HP3)
end Go.Proofs.YtmfnfinbkdemkaaGreat
