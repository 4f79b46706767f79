/- slices.SortFunc over items: the library's own contract, laid at this program. -/
import Derived.Test.YtneodiemgemhfaaPH
import Derived.Shelf.SlSortCmp.WholeK
namespace Go.Proofs.Ytneodiemgemhfaa
open Go.Shelf Go.RowKit Go.Lib Go.Sort
def sortRen : Go.Shelf.Ren := ⟨fun | 6 => 45 | 15 => 61 | 14 => 60 | 28 => 79 | 29 => 80 | 20 => 71 | 21 => 72 | 22 => 73 | 23 => 74 | 24 => 75 | 25 => 76 | 26 => 77 | 27 => 78 | 46 => 81 | 47 => 82 | 48 => 83 | 49 => 84 | 50 => 85 | 57 => 86 | n => n, fun | 22 => 24 | 24 => 34 | 25 => 51 | 3 => 3 | 39 => 61 | 0 => 0 | 53 => 102 | 55 => 29 | 4 => 4 | 46 => 96 | 45 => 95 | 50 => 49 | 5 => 5 | 9 => 9 | 66 => 104 | 70 => 108 | 76 => 110 | 77 => 91 | n => n, fun n => n⟩
theorem sortLays : SlLaysF0.n6 Try.prog sortRen :=
  {
    mixed := by kernel_rfl,
    f6 := ⟨Try.f45.name, by decide, Try.func45.trans (congrArg some (by kernel_rfl))⟩,
    f14 := ⟨Try.f60.name, by decide, Try.func60.trans (congrArg some (by kernel_rfl))⟩,
    f15 := Try.func61.trans (congrArg some (by kernel_rfl)),
    f20 := ⟨Try.f71.name, by decide, Try.func71.trans (congrArg some (by kernel_rfl))⟩,
    f21 := ⟨Try.f72.name, by decide, Try.func72.trans (congrArg some (by kernel_rfl))⟩,
    f22 := ⟨Try.f73.name, by decide, Try.func73.trans (congrArg some (by kernel_rfl))⟩,
    f23 := ⟨Try.f74.name, by decide, Try.func74.trans (congrArg some (by kernel_rfl))⟩,
    f24 := ⟨Try.f75.name, by decide, Try.func75.trans (congrArg some (by kernel_rfl))⟩,
    f25 := ⟨Try.f76.name, by decide, Try.func76.trans (congrArg some (by kernel_rfl))⟩,
    f26 := ⟨Try.f77.name, by decide, Try.func77.trans (congrArg some (by kernel_rfl))⟩,
    f27 := ⟨Try.f78.name, by decide, Try.func78.trans (congrArg some (by kernel_rfl))⟩,
    f28 := Try.func79.trans (congrArg some (by kernel_rfl)),
    f29 := Try.func80.trans (congrArg some (by kernel_rfl)),
    f46 := ⟨Try.f81.name, by decide, Try.func81.trans (congrArg some (by kernel_rfl))⟩,
    f47 := Try.func82.trans (congrArg some (by kernel_rfl)),
    f48 := Try.func83.trans (congrArg some (by kernel_rfl)),
    f49 := ⟨Try.f84.name, by decide, Try.func84.trans (congrArg some (by kernel_rfl))⟩,
    f50 := ⟨Try.f85.name, by decide, Try.func85.trans (congrArg some (by kernel_rfl))⟩,
    f57 := ⟨Try.f86.name, by decide, Try.func86.trans (congrArg some (by kernel_rfl))⟩,
    t0 := Try.underlying0,
    a0 := Try.isAgg0,
    z0 := Try.sizeOf0,
    v0 := Try.zeroValue0,
    t3 := Try.underlying3,
    a3 := Try.isAgg3,
    z3 := Try.sizeOf3,
    v3 := Try.zeroValue3,
    t4 := Try.underlying4,
    a4 := Try.isAgg4,
    z4 := Try.sizeOf4,
    v4 := Try.zeroValue4,
    t5 := Try.underlying5,
    a5 := Try.isAgg5,
    z5 := Try.sizeOf5,
    v5 := Try.zeroValue5,
    t9 := Try.underlying9,
    a9 := Try.isAgg9,
    z9 := Try.sizeOf9,
    v9 := Try.zeroValue9,
    t22 := Try.underlying24,
    a22 := Try.isAgg24,
    z22 := Try.sizeOf24,
    v22 := Try.zeroValue24,
    t25 := Try.underlying51,
    a25 := Try.isAgg51,
    z25 := Try.sizeOf51,
    v25 := Try.zeroValue51,
    t39 := Try.underlying61,
    a39 := Try.isAgg61,
    z39 := Try.sizeOf61,
    v39 := Try.zeroValue61,
    t45 := Try.underlying95,
    a45 := Try.isAgg95,
    z45 := Try.sizeOf95,
    v45 := Try.zeroValue95,
    t46 := Try.underlying96,
    a46 := Try.isAgg96,
    z46 := Try.sizeOf96,
    v46 := Try.zeroValue96,
    t50 := Try.underlying49,
    a50 := Try.isAgg49,
    z50 := Try.sizeOf49,
    v50 := Try.zeroValue49,
    t53 := Try.underlying102,
    a53 := Try.isAgg102,
    z53 := Try.sizeOf102,
    v53 := Try.zeroValue102,
    t55 := Try.underlying29,
    a55 := Try.isAgg29,
    z55 := Try.sizeOf29,
    v55 := Try.zeroValue29,
    t66 := Try.underlying104,
    a66 := Try.isAgg104,
    z66 := Try.sizeOf104,
    v66 := Try.zeroValue104,
    t70 := Try.underlying108,
    a70 := Try.isAgg108,
    z70 := Try.sizeOf108,
    v70 := Try.zeroValue108,
    t76 := Try.underlying110,
    a76 := Try.isAgg110,
    z76 := Try.sizeOf110,
    v76 := Try.zeroValue110,
    t77 := Try.underlying91,
    a77 := Try.isAgg91,
    z77 := Try.sizeOf91,
    v77 := Try.zeroValue91 }
instance : Inhabited It := ⟨⟨0, 0, 0⟩⟩
theorem upd_sortWorldK {α : Type} [Inhabited α] (enc : α → List Value) (k : Nat) (w : World) (blk off m : Nat) (dk : Array α) (os : Array Obj) : Upd [blk] w (sortWorldK enc k w blk off m dk os) := by
  have h1 : Upd [blk] w (putRowK enc k (Sort.ahead w m) blk off dk) := by
    refine ⟨rfl, rfl, rfl, by rw [size_putRowK]; exact Nat.le_refl _, fun i hi hn => ?_⟩
    show ((Sort.ahead w m).heap.modify blk _)[i]? = _
    rw [Array.getElem?_modify, if_neg (by intro h; exact hn (by simp [h]))]
    rfl
  exact h1.trans (T := []) (upd_grow _ os) (by simp)
theorem cmp_lays (w : World) (g n : Nat) : CmpLays Try.prog 17 #[] LI.enc 3 cmpI g 0 n w := by
  intro m os dk _ x y
  exact CompareItems_any x y (sortWorldK LI.enc 3 w g 0 m dk os)
theorem swoI : SWO (ltOf cmpI) := by
  refine ⟨fun x => ?_, fun x y z h1 h2 => ?_, fun x y z h1 h2 => ?_⟩
  · simp only [ltOf, cmpI_lt, decide_eq_false_iff_not]; exact ltI_irrefl x
  · simp only [ltOf, cmpI_lt, decide_eq_true_eq] at *; exact ltI_trans h1 h2
  · simp only [ltOf, cmpI_lt, decide_eq_false_iff_not] at *; unfold ltI at *; omega
theorem held_holdsK {w : World} {g cap : Nat} {l : List It} (h : Held LI 34 w g cap l) : HoldsK LI.enc 3 w g 0 l.toArray := by
  intro t ht
  rw [size_flatK] at ht
  simp only [List.size_toArray] at ht
  have hj : t / 3 < l.length := by omega
  rw [get_flatK _ _ _ _ (by simpa using ht)]
  have hm : t % 3 < (LI.enc l[t / 3]).length := by rw [LI.len]; exact Nat.mod_lt _ (by decide)
  have e : (l.toArray)[t / 3]! = l[t / 3] := by rw [getElem!_pos _ _ (by simpa using hj)]; simp
  have := h.cell (t / 3) hj (t % 3) ((LI.enc l[t / 3])[t % 3]) (List.getElem?_eq_getElem hm)
  rw [show t / 3 * LI.k + t % 3 = t from by show t / 3 * 3 + t % 3 = t; omega] at this
  rw [e, Nat.zero_add, getElem!_pos (LI.enc l[t / 3]) _ hm]
  exact this
theorem swk_row {w W : World} {g : Nat} {d0 d' : Array It} (hb : g < w.heap.size) (hH : HoldsK LI.enc 3 w g 0 d0) (hs : d'.size = d0.size) (h : SWK LI.enc 3 w g 0 d' W) : Row LI W (some ⟨g, 0, none⟩) d'.toList := by
  have hW := h.holds hb hH hs
  intro j hj
  refine ⟨g, 0, rfl, fun t u hu => ?_⟩
  have ht := LI.lt hu
  have hj' : j < d'.size := by simpa using hj
  have ht3 : t < 3 := ht
  have hlt : j * 3 + t < d'.size * 3 := by omega
  have := hW (j * 3 + t) (by rw [size_flatK]; exact hlt)
  rw [get_flatK _ _ _ _ hlt, show (j * 3 + t) / 3 = j by omega, show (j * 3 + t) % 3 = t by omega] at this
  rw [show 0 + j * LI.k + t = 0 + (j * 3 + t) from by show 0 + j * 3 + t = _; omega, this.1]
  have hm : t < (LI.enc d'[j]!).length := by rw [LI.len]; exact ht
  rw [getElem!_pos d' j hj'] at hm ⊢
  simp only [Array.getElem_toList] at hu
  rw [List.getElem?_eq_getElem hm] at hu
  show some (LI.enc d'[j])[t]! = some u
  rw [getElem!_pos (LI.enc d'[j]) t hm]
  exact hu
theorem sorted_perm {d0 d' : Array It} (hp : PermIn 0 d0.size d0 d') (hs : SortedIn (ltOf cmpI) 0 d0.size d') : d'.toList.Perm d0.toList ∧ SortedI d'.toList := by
  obtain ⟨hz, _, hperm⟩ := hp
  have e1 : d'.extract 0 d0.size = d' := by rw [← hz]; exact Array.extract_size
  rw [e1, Array.extract_size] at hperm
  refine ⟨hperm, ?_⟩
  rw [SortedI, List.pairwise_iff_getElem]
  intro i j hi hj hij
  have hi' : i < d'.size := by simpa using hi
  have hj' : j < d'.size := by simpa using hj
  have := hs i j (Nat.zero_le _) hij (by omega)
  rw [getElem!_pos d' i hi', getElem!_pos d' j hj'] at this
  simp only [ltOf, cmpI_lt, decide_eq_false_iff_not] at this
  simpa using this
set_option maxRecDepth 100000 in
theorem SortFunc_has (g cap : Nat) (l : List It) (w : World) (hl : l.length ≤ 1000000) (hH : Held LI 34 w g cap l) :
    Calls Try.prog 45 #[.slice (some ⟨g, 0, none⟩) l.length cap, .func (.func 17) #[] #[]] w fun e w' =>
      e = .returned (.tuple #[]) ∧ ∃ l', l'.Perm l ∧ SortedI l' ∧ HasS LI w' ⟨l', some ⟨g, 0, none⟩, cap⟩ ∧ Upd [g] w w' := by
  have hk := held_holdsK hH
  have hb := hH.lt
  have h := AnyQ.slices_SortFunc sortLays 3 Try.isAgg34 Try.sizeOf34 LI.enc LI.len LI.one cmpI swoI 17 #[] g 0 cap l.toArray w (enters_of Try.func17 (by kernel_rfl) rfl) (cmp_lays w g _) hk hb (by simp; omega)
  have h2 : Calls Try.prog 45 #[.slice (some ⟨g, 0, none⟩) l.length cap, .func (.func 17) #[] #[]] w fun e w' => e = .returned (.tuple #[]) ∧ ∃ d' n os, PermIn 0 l.toArray.size l.toArray d' ∧ SortedIn (ltOf cmpI) 0 l.toArray.size d' ∧ w' = sortWorldK LI.enc 3 w g 0 n d' os := by
    have e : l.toArray.size = l.length := by simp
    rw [e] at h ⊢
    exact h
  refine h2.mono ?_
  rintro e w' ⟨rfl, d', n, os, hp, hs, rfl⟩
  obtain ⟨p1, p2⟩ := sorted_perm hp hs
  refine ⟨rfl, d'.toList, by simpa using p1, p2, ⟨swk_row hb hk hp.1 ⟨n, os, rfl⟩, ?_, fun e => by simp at e⟩, upd_sortWorldK _ _ _ _ _ _ _ _⟩
  have := p1.length_eq
  have h3 := hH.le
  simp only at this ⊢
  rw [this]; simpa using h3
end Go.Proofs.Ytneodiemgemhfaa
