/- Contracts: the program's comparison of items. -/
/- slices.SortFunc over items: the library's own contract, laid at this program. -/
import Derived.Test.YtneodiemgemhfaaGreatNG
import Derived.Shelf.SlSortCmp.WholeK
namespace Go.Proofs.YtneodiemgemhfaaGreat
open Go.RowKit Go.Lib Go.Sort

set_option maxHeartbeats 400000 in
theorem isNaN_any (x : Int) (w : World) : Calls Tryz.prog 99 #[.int .i64 x] w fun e w' => e = .returned (.bool false) ∧ w = w' := by
  go_enter Tryz.func99, Tryz.ntmps99
  go_wp2
  go_ret
  exact ⟨by simp, rfl⟩
theorem cmpZ_lt {a b : Int} (h : a < b) : cmpZ a b = -1 := by simp [cmpZ, h]
theorem cmpZ_gt {a b : Int} (h : b < a) : cmpZ a b = 1 := by unfold cmpZ; rw [if_neg (by omega), if_pos h]
theorem cmpZ_self (a : Int) : cmpZ a a = 0 := by simp [cmpZ]
theorem cmpZ_zero {a b : Int} : cmpZ a b = 0 ↔ a = b := by
  unfold cmpZ
  constructor
  · intro h
    by_cases h1 : a < b
    · simp [h1] at h
    · by_cases h2 : b < a
      · simp [h1, h2] at h
      · omega
  · rintro rfl; simp
set_option maxHeartbeats 800000 in
theorem Compare_any (x y : Int) (w : World) : Calls Tryz.prog 72 #[.int .i64 x, .int .i64 y] w fun e w' => e = .returned (.int .i64 (cmpZ x y)) ∧ w = w' := by
  obtain ⟨r, hr⟩ : ∃ r, r = cmpZ x y := ⟨_, rfl⟩
  rw [← hr]
  have HR := Lib.hid hr
  clear hr
  rcases Int.lt_trichotomy x y with h | h | h
  · go_enter Tryz.func72, Tryz.ntmps72
    go_wp2_with fail
    refine (isNaN_any x _).mono ?_
    rintro e w' ⟨rfl, rfl⟩
    go_wp2_with fail
    refine (isNaN_any y _).mono ?_
    rintro e w' ⟨rfl, rfl⟩
    go_wp2_with fail
    go_ret
    exact ⟨ret_int (by rw [HR.out, cmpZ_lt h]), rfl⟩
  · subst h
    go_enter Tryz.func72, Tryz.ntmps72
    go_wp2_with fail
    refine (isNaN_any x _).mono ?_
    rintro e w' ⟨rfl, rfl⟩
    go_wp2_with fail
    refine (isNaN_any x _).mono ?_
    rintro e w' ⟨rfl, rfl⟩
    go_wp2_with fail
    go_ret
    exact ⟨ret_int (by rw [HR.out, cmpZ_self]), rfl⟩
  · have h2 : ¬ x < y := by omega
    go_enter Tryz.func72, Tryz.ntmps72
    go_wp2_with fail
    refine (isNaN_any x _).mono ?_
    rintro e w' ⟨rfl, rfl⟩
    go_wp2_with fail
    refine (isNaN_any y _).mono ?_
    rintro e w' ⟨rfl, rfl⟩
    go_wp2_with fail
    go_ret
    exact ⟨ret_int (by rw [HR.out, cmpZ_gt h]), rfl⟩
def lexZ (x y : Int) : Int := if x = 0 then y else x
set_option maxHeartbeats 1000000 in
theorem fd_pair (b : Nat) (x y : Int) (w : World) (h : w.heap[b]? = some (.cells #[.int .i64 x, .int .i64 y] 3 (0, 0))) :
    Calls Tryz.prog 71 #[.slice (some ⟨b, 0, none⟩) 2 2] w fun e w' => e = .returned (.int .i64 (lexZ x y)) ∧ w = w' := by
  obtain ⟨r, hr⟩ : ∃ r, r = lexZ x y := ⟨_, rfl⟩
  rw [← hr]
  have HR := Lib.hid hr
  have c0 := cell_block h 0
  have c1 := cell_block h 1
  simp only [List.getElem?_toArray, List.getElem?_cons_zero, List.getElem?_cons_succ] at c0 c1
  clear hr h
  go_enter Tryz.func71, Tryz.ntmps71
  go_wp2_with fail
  go_loopg [7] 2 (fun gk vi wr => ∃ k : Nat, vi = .int .i64 k ∧ k + gk = 2 ∧ Hid ((1 ≤ k → x = 0) ∧ (2 ≤ k → y = 0)) ∧ w = wr)
  case atStart => exact ⟨0, rfl, by omega, ⟨fun h => by omega, fun h => by omega⟩, rfl⟩
  case round =>
    obtain ⟨k, rfl, hkg, HK, rfl⟩ := hrel
    by_cases h0 : k = 0
    · subst h0
      by_cases hx0 : x = 0
      · have HX := Lib.hid hx0
        have hz : (x == 0) = true := by simp [hx0]
        clear hx0
        go_wp2_with fail
        go_roundg (gk - 1)
        case measure => omega
        case rel => exact ⟨1, by go_num, by omega, ⟨fun _ => HX.out, fun h => by omega⟩, rfl⟩
      · have hz : (x == 0) = false := by rw [beq_eq_false_iff_ne]; exact hx0
        go_wp2_with fail
        go_ret
        exact ⟨ret_int (by rw [HR.out, lexZ, if_neg hx0]), rfl⟩
    · by_cases h1 : k = 1
      · subst h1
        by_cases hx0 : y = 0
        · have HX := Lib.hid hx0
          have hz : (y == 0) = true := by simp [hx0]
          clear hx0
          go_wp2_with fail
          go_roundg (gk - 1)
          case measure => omega
          case rel => exact ⟨2, by go_num, by omega, ⟨fun _ => HK.out.1 (by omega), fun h => HX.out⟩, rfl⟩
        · have hz : (y == 0) = false := by rw [beq_eq_false_iff_ne]; exact hx0
          have HX := Lib.hid (HK.out.1 (by omega))
          go_wp2_with fail
          go_ret
          exact ⟨ret_int (by rw [HR.out, lexZ, if_pos HX.out]), rfl⟩
      · obtain rfl : k = 2 := by omega
        go_wp2_with fail
        go_ret
        exact ⟨ret_int (by rw [HR.out, lexZ, if_pos (HK.out.1 (by omega)), HK.out.2 (by omega)]), rfl⟩
theorem cmpI_lex (x y : It) : cmpI x y = lexZ (cmpZ x.t y.t) (cmpZ x.q y.q) := by
  rw [cmpI_eq, lexZ]
  by_cases h : x.t = y.t
  · rw [if_pos h, if_pos (cmpZ_zero.2 h)]
  · rw [if_neg h, if_neg (fun e => h (cmpZ_zero.1 e))]
set_option maxHeartbeats 4000000 in
set_option maxRecDepth 100000 in
theorem CompareItems_any (i j : It) (w : World) :
    Calls Tryz.prog 47 #[aggI i, aggI j] w fun e w' => e = .returned (.int .i64 (cmpI i j)) ∧ Grown w w' := by
  rw [cmpI_lex]
  obtain ⟨t1, s1, q1⟩ := i
  obtain ⟨t2, s2, q2⟩ := j
  unfold aggI
  simp only
  have h1 := Compare_any
  have h3 := fd_pair
  generalize cmpZ = ci at *
  generalize lexZ = lx at *
  have H1 := Lib.hid h1; have H3 := Lib.hid h3
  clear h1 h3
  go_enter Tryz.func47, Tryz.ntmps47
  go_wp2_with fail
  have hg : Grown w ((w.alloc (.cells #[.int .i64 t1, .int .i64 s1, .int .i64 q1] 36)).alloc (.cells #[.int .i64 t2, .int .i64 s2, .int .i64 q2] 36)) := ((Grown.refl w).alloc _).alloc _
  have hb1 := ((Upd.refl [] (w.alloc (.cells #[.int .i64 t1, .int .i64 s1, .int .i64 q1] 36))).alloc (.cells #[.int .i64 t2, .int .i64 s2, .int .i64 q2] 36)).at (heap_alloc1 w _) (by simp)
  have hb2 := heap_alloc2 w (.cells #[.int .i64 t1, .int .i64 s1, .int .i64 q1] 36) (.cells #[.int .i64 t2, .int .i64 s2, .int .i64 q2] 36)
  generalize ((w.alloc (.cells #[.int .i64 t1, .int .i64 s1, .int .i64 q1] 36)).alloc (.cells #[.int .i64 t2, .int .i64 s2, .int .i64 q2] 36)) = wq at *
  have a0 := cell_block hb1 0
  have a1 := cell_block hb1 1
  have b0 := cell_block hb2 0
  have b1 := cell_block hb2 1
  simp only [List.getElem?_toArray, List.getElem?_cons_zero, List.getElem?_cons_succ] at a0 a1 b0 b1
  have H4 : Hid (∀ x y : Int, Calls Tryz.prog 71 #[.slice (some ⟨wq.heap.size, 0, none⟩) 2 2] (wq.alloc (.cells #[.int .i64 x, .int .i64 y] 3)).drew fun e w' => e = .returned (.int .i64 (lx x y)) ∧ (wq.alloc (.cells #[.int .i64 x, .int .i64 y] 3)).drew = w') := fun x y => H3.out wq.heap.size x y _ (heap_alloc1 wq _)
  have HG := Lib.hid hg
  clear hg hb1 hb2
  go_region_held3 (fun wz => wz.cell? ⟨w.heap.size, 0, none⟩ = some (.int .i64 t1) ∧ wz.cell? ⟨w.heap.size, 1, none⟩ = some (.int .i64 s1) ∧ wz.cell? ⟨w.heap.size + 1, 0, none⟩ = some (.int .i64 t2) ∧ wz.cell? ⟨w.heap.size + 1, 1, none⟩ = some (.int .i64 s2)) (first | exact ⟨a0, a1, b0, b1⟩ | exact ⟨((Upd.refl [] wq).alloc _).drew.cell a0 (by simp), ((Upd.refl [] wq).alloc _).drew.cell a1 (by simp), ((Upd.refl [] wq).alloc _).drew.cell b0 (by simp), ((Upd.refl [] wq).alloc _).drew.cell b1 (by simp)⟩) (first | (go_at_call 72; refine (H1.out _ _ _).mono ?_; rintro e w' ⟨rfl, rfl⟩) | (go_at_call 71; refine (H4.out _ _).mono ?_; rintro e w' ⟨rfl, rfl⟩))
  all_goals go_wp2_with fail
  all_goals go_ret
  all_goals exact ⟨rfl, (HG.out.alloc _).drew⟩
end Go.Proofs.YtneodiemgemhfaaGreat
namespace Go.Proofs.YtneodiemgemhfaaGreat
open Go.Shelf Go.RowKit Go.Lib Go.Sort
def sortRen : Go.Shelf.Ren := ⟨fun | 6 => 67 | 15 => 95 | 14 => 94 | 28 => 112 | 29 => 113 | 20 => 104 | 21 => 105 | 22 => 106 | 23 => 107 | 24 => 108 | 25 => 109 | 26 => 110 | 27 => 111 | 46 => 115 | 47 => 116 | 48 => 117 | 49 => 118 | 50 => 119 | 57 => 120 | n => n, fun | 22 => 22 | 24 => 36 | 25 => 48 | 3 => 3 | 39 => 76 | 0 => 0 | 53 => 111 | 55 => 27 | 4 => 4 | 46 => 105 | 45 => 104 | 50 => 61 | 5 => 5 | 9 => 9 | 66 => 114 | 70 => 118 | 76 => 120 | 77 => 89 | n => n, fun n => n⟩
theorem sortLays : SlLaysF0.n6 Tryz.prog sortRen :=
  {
    mixed := by kernel_rfl,
    f6 := ⟨Tryz.f67.name, by decide, Tryz.func67.trans (congrArg some (by kernel_rfl))⟩,
    f14 := ⟨Tryz.f94.name, by decide, Tryz.func94.trans (congrArg some (by kernel_rfl))⟩,
    f15 := Tryz.func95.trans (congrArg some (by kernel_rfl)),
    f20 := ⟨Tryz.f104.name, by decide, Tryz.func104.trans (congrArg some (by kernel_rfl))⟩,
    f21 := ⟨Tryz.f105.name, by decide, Tryz.func105.trans (congrArg some (by kernel_rfl))⟩,
    f22 := ⟨Tryz.f106.name, by decide, Tryz.func106.trans (congrArg some (by kernel_rfl))⟩,
    f23 := ⟨Tryz.f107.name, by decide, Tryz.func107.trans (congrArg some (by kernel_rfl))⟩,
    f24 := ⟨Tryz.f108.name, by decide, Tryz.func108.trans (congrArg some (by kernel_rfl))⟩,
    f25 := ⟨Tryz.f109.name, by decide, Tryz.func109.trans (congrArg some (by kernel_rfl))⟩,
    f26 := ⟨Tryz.f110.name, by decide, Tryz.func110.trans (congrArg some (by kernel_rfl))⟩,
    f27 := ⟨Tryz.f111.name, by decide, Tryz.func111.trans (congrArg some (by kernel_rfl))⟩,
    f28 := Tryz.func112.trans (congrArg some (by kernel_rfl)),
    f29 := Tryz.func113.trans (congrArg some (by kernel_rfl)),
    f46 := ⟨Tryz.f115.name, by decide, Tryz.func115.trans (congrArg some (by kernel_rfl))⟩,
    f47 := Tryz.func116.trans (congrArg some (by kernel_rfl)),
    f48 := Tryz.func117.trans (congrArg some (by kernel_rfl)),
    f49 := ⟨Tryz.f118.name, by decide, Tryz.func118.trans (congrArg some (by kernel_rfl))⟩,
    f50 := ⟨Tryz.f119.name, by decide, Tryz.func119.trans (congrArg some (by kernel_rfl))⟩,
    f57 := ⟨Tryz.f120.name, by decide, Tryz.func120.trans (congrArg some (by kernel_rfl))⟩,
    t0 := Tryz.underlying0,
    a0 := Tryz.isAgg0,
    z0 := Tryz.sizeOf0,
    v0 := Tryz.zeroValue0,
    t3 := Tryz.underlying3,
    a3 := Tryz.isAgg3,
    z3 := Tryz.sizeOf3,
    v3 := Tryz.zeroValue3,
    t4 := Tryz.underlying4,
    a4 := Tryz.isAgg4,
    z4 := Tryz.sizeOf4,
    v4 := Tryz.zeroValue4,
    t5 := Tryz.underlying5,
    a5 := Tryz.isAgg5,
    z5 := Tryz.sizeOf5,
    v5 := Tryz.zeroValue5,
    t9 := Tryz.underlying9,
    a9 := Tryz.isAgg9,
    z9 := Tryz.sizeOf9,
    v9 := Tryz.zeroValue9,
    t22 := Tryz.underlying22,
    a22 := Tryz.isAgg22,
    z22 := Tryz.sizeOf22,
    v22 := Tryz.zeroValue22,
    t25 := Tryz.underlying48,
    a25 := Tryz.isAgg48,
    z25 := Tryz.sizeOf48,
    v25 := Tryz.zeroValue48,
    t39 := Tryz.underlying76,
    a39 := Tryz.isAgg76,
    z39 := Tryz.sizeOf76,
    v39 := Tryz.zeroValue76,
    t45 := Tryz.underlying104,
    a45 := Tryz.isAgg104,
    z45 := Tryz.sizeOf104,
    v45 := Tryz.zeroValue104,
    t46 := Tryz.underlying105,
    a46 := Tryz.isAgg105,
    z46 := Tryz.sizeOf105,
    v46 := Tryz.zeroValue105,
    t50 := Tryz.underlying61,
    a50 := Tryz.isAgg61,
    z50 := Tryz.sizeOf61,
    v50 := Tryz.zeroValue61,
    t53 := Tryz.underlying111,
    a53 := Tryz.isAgg111,
    z53 := Tryz.sizeOf111,
    v53 := Tryz.zeroValue111,
    t55 := Tryz.underlying27,
    a55 := Tryz.isAgg27,
    z55 := Tryz.sizeOf27,
    v55 := Tryz.zeroValue27,
    t66 := Tryz.underlying114,
    a66 := Tryz.isAgg114,
    z66 := Tryz.sizeOf114,
    v66 := Tryz.zeroValue114,
    t70 := Tryz.underlying118,
    a70 := Tryz.isAgg118,
    z70 := Tryz.sizeOf118,
    v70 := Tryz.zeroValue118,
    t76 := Tryz.underlying120,
    a76 := Tryz.isAgg120,
    z76 := Tryz.sizeOf120,
    v76 := Tryz.zeroValue120,
    t77 := Tryz.underlying89,
    a77 := Tryz.isAgg89,
    z77 := Tryz.sizeOf89,
    v77 := Tryz.zeroValue89 }
instance : Inhabited It := ⟨⟨0, 0, 0⟩⟩
theorem upd_sortWorldK {α : Type} [Inhabited α] (enc : α → List Value) (k : Nat) (w : World) (blk off m : Nat) (dk : Array α) (os : Array Obj) : Upd [blk] w (sortWorldK enc k w blk off m dk os) := by
  have h1 : Upd [blk] w (putRowK enc k (Sort.ahead w m) blk off dk) := by
    refine ⟨rfl, rfl, rfl, by rw [size_putRowK]; exact Nat.le_refl _, fun i hi hn => ?_⟩
    show ((Sort.ahead w m).heap.modify blk _)[i]? = _
    rw [Array.getElem?_modify, if_neg (by intro h; exact hn (by simp [h]))]
    rfl
  exact h1.trans (T := []) (upd_grow _ os) (by simp)
theorem cmp_lays (w : World) (g n : Nat) : CmpLays Tryz.prog 47 #[] LI.enc 3 cmpI g 0 n w := by
  intro m os dk _ x y
  exact CompareItems_any x y (sortWorldK LI.enc 3 w g 0 m dk os)
theorem swoI : SWO (ltOf cmpI) := by
  refine ⟨fun x => ?_, fun x y z h1 h2 => ?_, fun x y z h1 h2 => ?_⟩
  · simp only [ltOf, cmpI_lt, decide_eq_false_iff_not]; exact ltI_irrefl x
  · simp only [ltOf, cmpI_lt, decide_eq_true_eq] at *; exact ltI_trans h1 h2
  · simp only [ltOf, cmpI_lt, decide_eq_false_iff_not] at *; unfold ltI at *; omega
theorem held_holdsK {w : World} {g cap : Nat} {l : List It} (h : Held LI 36 w g cap l) : HoldsK LI.enc 3 w g 0 l.toArray := by
  intro t ht
  rw [size_flatK] at ht
  simp only [List.size_toArray] at ht
  have hj : t / 3 < l.length := by omega
  rw [get_flatK _ _ _ _ (by simpa using ht)]
  have hm : t % 3 < (LI.enc l[t / 3]).length := by rw [LI.len]; exact Nat.mod_lt _ (by decide)
  have e : (l.toArray)[t / 3]! = l[t / 3] := by rw [getElem!_pos _ _ (by simpa using hj)]; simp
  have := h.cell (t / 3) hj (t % 3) ((LI.enc l[t / 3])[t % 3]) (List.getElem?_eq_getElem hm)
  rw [show t / 3 * LI.k + t % 3 = t from by show t / 3 * 3 + t % 3 = t; omega] at this
  rw [e, Nat.zero_add, getElem!_pos (LI.enc l[t / 3]) _ hm]
  exact this
theorem swk_row {w W : World} {g : Nat} {d0 d' : Array It} (hb : g < w.heap.size) (hH : HoldsK LI.enc 3 w g 0 d0) (hs : d'.size = d0.size) (h : SWK LI.enc 3 w g 0 d' W) : Row LI W (some ⟨g, 0, none⟩) d'.toList := by
  have hW := h.holds hb hH hs
  intro j hj
  refine ⟨g, 0, rfl, fun t u hu => ?_⟩
  have ht := LI.lt hu
  have hj' : j < d'.size := by simpa using hj
  have ht3 : t < 3 := ht
  have hlt : j * 3 + t < d'.size * 3 := by omega
  have := hW (j * 3 + t) (by rw [size_flatK]; exact hlt)
  rw [get_flatK _ _ _ _ hlt, show (j * 3 + t) / 3 = j by omega, show (j * 3 + t) % 3 = t by omega] at this
  rw [show 0 + j * LI.k + t = 0 + (j * 3 + t) from by show 0 + j * 3 + t = _; omega, this.1]
  have hm : t < (LI.enc d'[j]!).length := by rw [LI.len]; exact ht
  rw [getElem!_pos d' j hj'] at hm ⊢
  simp only [Array.getElem_toList] at hu
  rw [List.getElem?_eq_getElem hm] at hu
  show some (LI.enc d'[j])[t]! = some u
  rw [getElem!_pos (LI.enc d'[j]) t hm]
  exact hu
theorem sorted_perm {d0 d' : Array It} (hp : PermIn 0 d0.size d0 d') (hs : SortedIn (ltOf cmpI) 0 d0.size d') : d'.toList.Perm d0.toList ∧ SortedI d'.toList := by
  obtain ⟨hz, _, hperm⟩ := hp
  have e1 : d'.extract 0 d0.size = d' := by rw [← hz]; exact Array.extract_size
  rw [e1, Array.extract_size] at hperm
  refine ⟨hperm, ?_⟩
  rw [SortedI, List.pairwise_iff_getElem]
  intro i j hi hj hij
  have hi' : i < d'.size := by simpa using hi
  have hj' : j < d'.size := by simpa using hj
  have := hs i j (Nat.zero_le _) hij (by omega)
  rw [getElem!_pos d' i hi', getElem!_pos d' j hj'] at this
  simp only [ltOf, cmpI_lt, decide_eq_false_iff_not] at this
  simpa using this
set_option maxRecDepth 100000 in
theorem SortFunc_has (g cap : Nat) (l : List It) (w : World) (hl : l.length ≤ 1000000) (hH : Held LI 36 w g cap l) :
    Calls Tryz.prog 67 #[.slice (some ⟨g, 0, none⟩) l.length cap, .func (.func 47) #[] #[]] w fun e w' =>
      e = .returned (.tuple #[]) ∧ ∃ l', l'.Perm l ∧ SortedI l' ∧ HasS LI w' ⟨l', some ⟨g, 0, none⟩, cap⟩ ∧ Upd [g] w w' := by
  have hk := held_holdsK hH
  have hb := hH.lt
  have h := AnyQ.slices_SortFunc sortLays 3 Tryz.isAgg36 Tryz.sizeOf36 LI.enc LI.len LI.one cmpI swoI 47 #[] g 0 cap l.toArray w (enters_of Tryz.func47 (by kernel_rfl) rfl) (cmp_lays w g _) hk hb (by simp; omega)
  have h2 : Calls Tryz.prog 67 #[.slice (some ⟨g, 0, none⟩) l.length cap, .func (.func 47) #[] #[]] w fun e w' => e = .returned (.tuple #[]) ∧ ∃ d' n os, PermIn 0 l.toArray.size l.toArray d' ∧ SortedIn (ltOf cmpI) 0 l.toArray.size d' ∧ w' = sortWorldK LI.enc 3 w g 0 n d' os := by
    have e : l.toArray.size = l.length := by simp
    rw [e] at h ⊢
    exact h
  refine h2.mono ?_
  rintro e w' ⟨rfl, d', n, os, hp, hs, rfl⟩
  obtain ⟨p1, p2⟩ := sorted_perm hp hs
  refine ⟨rfl, d'.toList, by simpa using p1, p2, ⟨swk_row hb hk hp.1 ⟨n, os, rfl⟩, ?_, fun e => by simp at e⟩, upd_sortWorldK _ _ _ _ _ _ _ _⟩
  have := p1.length_eq
  have h3 := hH.le
  simp only at this ⊢
  rw [this]; simpa using h3
end Go.Proofs.YtneodiemgemhfaaGreat
