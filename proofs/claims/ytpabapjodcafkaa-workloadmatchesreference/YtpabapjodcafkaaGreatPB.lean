
/- slices.SortFunc over items: the library's own contract, laid at this program. -/
import Derived.Test.YtpabapjodcafkaaGreatPA
import Derived.Shelf.SlSortCmp.WholeK
namespace Go.Proofs.YtpabapjodcafkaaGreat
open Go.Shelf Go.RowKit Go.Lib Go.Sort
def sortRen : Go.Shelf.Ren := ⟨fun | 6 => 87 | 15 => 89 | 14 => 88 | 28 => 98 | 29 => 99 | 20 => 90 | 21 => 91 | 22 => 92 | 23 => 93 | 24 => 94 | 25 => 95 | 26 => 96 | 27 => 97 | 46 => 100 | 47 => 101 | 48 => 102 | 49 => 103 | 50 => 104 | 57 => 105 | n => n, fun | 22 => 26 | 24 => 38 | 25 => 66 | 3 => 3 | 39 => 71 | 0 => 0 | 53 => 107 | 55 => 109 | 4 => 4 | 46 => 101 | 45 => 100 | 50 => 64 | 5 => 5 | 9 => 9 | 66 => 110 | 70 => 114 | 76 => 116 | 77 => 94 | n => n, fun n => n⟩
theorem sortLays : SlLaysF0.n6 Tryz.prog sortRen :=
  {
    mixed := by kernel_rfl,
    f6 := ⟨Tryz.f87.name, by decide, Tryz.func87.trans (congrArg some (by kernel_rfl))⟩,
    f14 := ⟨Tryz.f88.name, by decide, Tryz.func88.trans (congrArg some (by kernel_rfl))⟩,
    f15 := Tryz.func89.trans (congrArg some (by kernel_rfl)),
    f20 := ⟨Tryz.f90.name, by decide, Tryz.func90.trans (congrArg some (by kernel_rfl))⟩,
    f21 := ⟨Tryz.f91.name, by decide, Tryz.func91.trans (congrArg some (by kernel_rfl))⟩,
    f22 := ⟨Tryz.f92.name, by decide, Tryz.func92.trans (congrArg some (by kernel_rfl))⟩,
    f23 := ⟨Tryz.f93.name, by decide, Tryz.func93.trans (congrArg some (by kernel_rfl))⟩,
    f24 := ⟨Tryz.f94.name, by decide, Tryz.func94.trans (congrArg some (by kernel_rfl))⟩,
    f25 := ⟨Tryz.f95.name, by decide, Tryz.func95.trans (congrArg some (by kernel_rfl))⟩,
    f26 := ⟨Tryz.f96.name, by decide, Tryz.func96.trans (congrArg some (by kernel_rfl))⟩,
    f27 := ⟨Tryz.f97.name, by decide, Tryz.func97.trans (congrArg some (by kernel_rfl))⟩,
    f28 := Tryz.func98.trans (congrArg some (by kernel_rfl)),
    f29 := Tryz.func99.trans (congrArg some (by kernel_rfl)),
    f46 := ⟨Tryz.f100.name, by decide, Tryz.func100.trans (congrArg some (by kernel_rfl))⟩,
    f47 := Tryz.func101.trans (congrArg some (by kernel_rfl)),
    f48 := Tryz.func102.trans (congrArg some (by kernel_rfl)),
    f49 := ⟨Tryz.f103.name, by decide, Tryz.func103.trans (congrArg some (by kernel_rfl))⟩,
    f50 := ⟨Tryz.f104.name, by decide, Tryz.func104.trans (congrArg some (by kernel_rfl))⟩,
    f57 := ⟨Tryz.f105.name, by decide, Tryz.func105.trans (congrArg some (by kernel_rfl))⟩,
    t0 := Tryz.underlying0,
    a0 := Tryz.isAgg0,
    z0 := Tryz.sizeOf0,
    v0 := Tryz.zeroValue0,
    t3 := Tryz.underlying3,
    a3 := Tryz.isAgg3,
    z3 := Tryz.sizeOf3,
    v3 := Tryz.zeroValue3,
    t4 := Tryz.underlying4,
    a4 := Tryz.isAgg4,
    z4 := Tryz.sizeOf4,
    v4 := Tryz.zeroValue4,
    t5 := Tryz.underlying5,
    a5 := Tryz.isAgg5,
    z5 := Tryz.sizeOf5,
    v5 := Tryz.zeroValue5,
    t9 := Tryz.underlying9,
    a9 := Tryz.isAgg9,
    z9 := Tryz.sizeOf9,
    v9 := Tryz.zeroValue9,
    t22 := Tryz.underlying26,
    a22 := Tryz.isAgg26,
    z22 := Tryz.sizeOf26,
    v22 := Tryz.zeroValue26,
    t25 := Tryz.underlying66,
    a25 := Tryz.isAgg66,
    z25 := Tryz.sizeOf66,
    v25 := Tryz.zeroValue66,
    t39 := Tryz.underlying71,
    a39 := Tryz.isAgg71,
    z39 := Tryz.sizeOf71,
    v39 := Tryz.zeroValue71,
    t45 := Tryz.underlying100,
    a45 := Tryz.isAgg100,
    z45 := Tryz.sizeOf100,
    v45 := Tryz.zeroValue100,
    t46 := Tryz.underlying101,
    a46 := Tryz.isAgg101,
    z46 := Tryz.sizeOf101,
    v46 := Tryz.zeroValue101,
    t50 := Tryz.underlying64,
    a50 := Tryz.isAgg64,
    z50 := Tryz.sizeOf64,
    v50 := Tryz.zeroValue64,
    t53 := Tryz.underlying107,
    a53 := Tryz.isAgg107,
    z53 := Tryz.sizeOf107,
    v53 := Tryz.zeroValue107,
    t55 := Tryz.underlying109,
    a55 := Tryz.isAgg109,
    z55 := Tryz.sizeOf109,
    v55 := Tryz.zeroValue109,
    t66 := Tryz.underlying110,
    a66 := Tryz.isAgg110,
    z66 := Tryz.sizeOf110,
    v66 := Tryz.zeroValue110,
    t70 := Tryz.underlying114,
    a70 := Tryz.isAgg114,
    z70 := Tryz.sizeOf114,
    v70 := Tryz.zeroValue114,
    t76 := Tryz.underlying116,
    a76 := Tryz.isAgg116,
    z76 := Tryz.sizeOf116,
    v76 := Tryz.zeroValue116,
    t77 := Tryz.underlying94,
    a77 := Tryz.isAgg94,
    z77 := Tryz.sizeOf94,
    v77 := Tryz.zeroValue94 }
instance : Inhabited It := ⟨⟨0, 0, 0⟩⟩
theorem upd_sortWorldK {α : Type} [Inhabited α] (enc : α → List Value) (k : Nat) (w : World) (blk off m : Nat) (dk : Array α) (os : Array Obj) : Upd [blk] w (sortWorldK enc k w blk off m dk os) := by
  have h1 : Upd [blk] w (putRowK enc k (Sort.ahead w m) blk off dk) := by
    refine ⟨rfl, rfl, rfl, by rw [size_putRowK]; exact Nat.le_refl _, fun i hi hn => ?_⟩
    show ((Sort.ahead w m).heap.modify blk _)[i]? = _
    rw [Array.getElem?_modify, if_neg (by intro h; exact hn (by simp [h]))]
    rfl
  exact h1.trans (T := []) (upd_grow _ os) (by simp)
theorem cmp_lays (w : World) (g n : Nat) : CmpLays Tryz.prog 35 #[] LI.enc 3 cmpI g 0 n w := by
  intro m os dk _ x y
  exact CompareItems_any x y (sortWorldK LI.enc 3 w g 0 m dk os)
theorem swoI : SWO (ltOf cmpI) := by
  refine ⟨fun x => ?_, fun x y z h1 h2 => ?_, fun x y z h1 h2 => ?_⟩
  · simp only [ltOf, cmpI_lt, decide_eq_false_iff_not]; exact ltI_irrefl x
  · simp only [ltOf, cmpI_lt, decide_eq_true_eq] at *; exact ltI_trans h1 h2
  · simp only [ltOf, cmpI_lt, decide_eq_false_iff_not] at *; unfold ltI at *; omega
theorem held_holdsK {w : World} {g cap : Nat} {l : List It} (h : Held LI 38 w g cap l) : HoldsK LI.enc 3 w g 0 l.toArray := by
  intro t ht
  rw [size_flatK] at ht
  simp only [List.size_toArray] at ht
  have hj : t / 3 < l.length := by omega
  rw [get_flatK _ _ _ _ (by simpa using ht)]
  have hm : t % 3 < (LI.enc l[t / 3]).length := by rw [LI.len]; exact Nat.mod_lt _ (by decide)
  have e : (l.toArray)[t / 3]! = l[t / 3] := by rw [getElem!_pos _ _ (by simpa using hj)]; simp
  have := h.cell (t / 3) hj (t % 3) ((LI.enc l[t / 3])[t % 3]) (List.getElem?_eq_getElem hm)
  rw [show t / 3 * LI.k + t % 3 = t from by show t / 3 * 3 + t % 3 = t; omega] at this
  rw [e, Nat.zero_add, getElem!_pos (LI.enc l[t / 3]) _ hm]
  exact this
theorem swk_row {w W : World} {g : Nat} {d0 d' : Array It} (hb : g < w.heap.size) (hH : HoldsK LI.enc 3 w g 0 d0) (hs : d'.size = d0.size) (h : SWK LI.enc 3 w g 0 d' W) : Row LI W (some ⟨g, 0, none⟩) d'.toList := by
  have hW := h.holds hb hH hs
  intro j hj
  refine ⟨g, 0, rfl, fun t u hu => ?_⟩
  have ht := LI.lt hu
  have hj' : j < d'.size := by simpa using hj
  have ht3 : t < 3 := ht
  have hlt : j * 3 + t < d'.size * 3 := by omega
  have := hW (j * 3 + t) (by rw [size_flatK]; exact hlt)
  rw [get_flatK _ _ _ _ hlt, show (j * 3 + t) / 3 = j by omega, show (j * 3 + t) % 3 = t by omega] at this
  rw [show 0 + j * LI.k + t = 0 + (j * 3 + t) from by show 0 + j * 3 + t = _; omega, this.1]
  have hm : t < (LI.enc d'[j]!).length := by rw [LI.len]; exact ht
  rw [getElem!_pos d' j hj'] at hm ⊢
  simp only [Array.getElem_toList] at hu
  rw [List.getElem?_eq_getElem hm] at hu
  show some (LI.enc d'[j])[t]! = some u
  rw [getElem!_pos (LI.enc d'[j]) t hm]
  exact hu
theorem sorted_perm {d0 d' : Array It} (hp : PermIn 0 d0.size d0 d') (hs : SortedIn (ltOf cmpI) 0 d0.size d') : d'.toList.Perm d0.toList ∧ SortedI d'.toList := by
  obtain ⟨hz, _, hperm⟩ := hp
  have e1 : d'.extract 0 d0.size = d' := by rw [← hz]; exact Array.extract_size
  rw [e1, Array.extract_size] at hperm
  refine ⟨hperm, ?_⟩
  rw [SortedI, List.pairwise_iff_getElem]
  intro i j hi hj hij
  have hi' : i < d'.size := by simpa using hi
  have hj' : j < d'.size := by simpa using hj
  have := hs i j (Nat.zero_le _) hij (by omega)
  rw [getElem!_pos d' i hi', getElem!_pos d' j hj'] at this
  simp only [ltOf, cmpI_lt, decide_eq_false_iff_not] at this
  simpa using this
set_option maxRecDepth 100000 in
theorem SortFunc_has (g cap : Nat) (l : List It) (w : World) (hl : l.length ≤ 1000000) (hH : Held LI 38 w g cap l) :
    Calls Tryz.prog 87 #[.slice (some ⟨g, 0, none⟩) l.length cap, .func (.func 35) #[] #[]] w fun e w' =>
      e = .returned (.tuple #[]) ∧ ∃ l', l'.Perm l ∧ SortedI l' ∧ HasS LI w' ⟨l', some ⟨g, 0, none⟩, cap⟩ ∧ Upd [g] w w' := by
  have hk := held_holdsK hH
  have hb := hH.lt
  have h := AnyQ.slices_SortFunc sortLays 3 Tryz.isAgg38 Tryz.sizeOf38 LI.enc LI.len LI.one cmpI swoI 35 #[] g 0 cap l.toArray w (enters_of Tryz.func35 (by kernel_rfl) rfl) (cmp_lays w g _) hk hb (by simp; omega)
  have h2 : Calls Tryz.prog 87 #[.slice (some ⟨g, 0, none⟩) l.length cap, .func (.func 35) #[] #[]] w fun e w' => e = .returned (.tuple #[]) ∧ ∃ d' n os, PermIn 0 l.toArray.size l.toArray d' ∧ SortedIn (ltOf cmpI) 0 l.toArray.size d' ∧ w' = sortWorldK LI.enc 3 w g 0 n d' os := by
    have e : l.toArray.size = l.length := by simp
    rw [e] at h ⊢
    exact h
  refine h2.mono ?_
  rintro e w' ⟨rfl, d', n, os, hp, hs, rfl⟩
  obtain ⟨p1, p2⟩ := sorted_perm hp hs
  refine ⟨rfl, d'.toList, by simpa using p1, p2, ⟨swk_row hb hk hp.1 ⟨n, os, rfl⟩, ?_, fun e => by simp at e⟩, upd_sortWorldK _ _ _ _ _ _ _ _⟩
  have := p1.length_eq
  have h3 := hH.le
  simp only at this ⊢
  rw [this]; simpa using h3
end Go.Proofs.YtpabapjodcafkaaGreat
