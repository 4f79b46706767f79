
/- slices.SortFunc over items: the library's own contract, laid at this program. -/
import Derived.Test.YtpabapjodcafkaaPA
import Derived.Shelf.SlSortCmp.WholeK
namespace Go.Proofs.Ytpabapjodcafkaa
open Go.Shelf Go.RowKit Go.Lib Go.Sort
def sortRen : Go.Shelf.Ren := ⟨fun | 6 => 61 | 15 => 63 | 14 => 62 | 28 => 72 | 29 => 73 | 20 => 64 | 21 => 65 | 22 => 66 | 23 => 67 | 24 => 68 | 25 => 69 | 26 => 70 | 27 => 71 | 46 => 74 | 47 => 75 | 48 => 76 | 49 => 77 | 50 => 78 | 57 => 79 | n => n, fun | 22 => 25 | 24 => 38 | 25 => 59 | 3 => 3 | 39 => 69 | 0 => 0 | 53 => 39 | 55 => 106 | 4 => 4 | 46 => 99 | 45 => 98 | 50 => 57 | 5 => 5 | 9 => 9 | 66 => 107 | 70 => 111 | 76 => 113 | 77 => 92 | n => n, fun n => n⟩
theorem sortLays : SlLaysF0.n6 Try.prog sortRen :=
  {
    mixed := by kernel_rfl,
    f6 := ⟨Try.f61.name, by decide, Try.func61.trans (congrArg some (by kernel_rfl))⟩,
    f14 := ⟨Try.f62.name, by decide, Try.func62.trans (congrArg some (by kernel_rfl))⟩,
    f15 := Try.func63.trans (congrArg some (by kernel_rfl)),
    f20 := ⟨Try.f64.name, by decide, Try.func64.trans (congrArg some (by kernel_rfl))⟩,
    f21 := ⟨Try.f65.name, by decide, Try.func65.trans (congrArg some (by kernel_rfl))⟩,
    f22 := ⟨Try.f66.name, by decide, Try.func66.trans (congrArg some (by kernel_rfl))⟩,
    f23 := ⟨Try.f67.name, by decide, Try.func67.trans (congrArg some (by kernel_rfl))⟩,
    f24 := ⟨Try.f68.name, by decide, Try.func68.trans (congrArg some (by kernel_rfl))⟩,
    f25 := ⟨Try.f69.name, by decide, Try.func69.trans (congrArg some (by kernel_rfl))⟩,
    f26 := ⟨Try.f70.name, by decide, Try.func70.trans (congrArg some (by kernel_rfl))⟩,
    f27 := ⟨Try.f71.name, by decide, Try.func71.trans (congrArg some (by kernel_rfl))⟩,
    f28 := Try.func72.trans (congrArg some (by kernel_rfl)),
    f29 := Try.func73.trans (congrArg some (by kernel_rfl)),
    f46 := ⟨Try.f74.name, by decide, Try.func74.trans (congrArg some (by kernel_rfl))⟩,
    f47 := Try.func75.trans (congrArg some (by kernel_rfl)),
    f48 := Try.func76.trans (congrArg some (by kernel_rfl)),
    f49 := ⟨Try.f77.name, by decide, Try.func77.trans (congrArg some (by kernel_rfl))⟩,
    f50 := ⟨Try.f78.name, by decide, Try.func78.trans (congrArg some (by kernel_rfl))⟩,
    f57 := ⟨Try.f79.name, by decide, Try.func79.trans (congrArg some (by kernel_rfl))⟩,
    t0 := Try.underlying0,
    a0 := Try.isAgg0,
    z0 := Try.sizeOf0,
    v0 := Try.zeroValue0,
    t3 := Try.underlying3,
    a3 := Try.isAgg3,
    z3 := Try.sizeOf3,
    v3 := Try.zeroValue3,
    t4 := Try.underlying4,
    a4 := Try.isAgg4,
    z4 := Try.sizeOf4,
    v4 := Try.zeroValue4,
    t5 := Try.underlying5,
    a5 := Try.isAgg5,
    z5 := Try.sizeOf5,
    v5 := Try.zeroValue5,
    t9 := Try.underlying9,
    a9 := Try.isAgg9,
    z9 := Try.sizeOf9,
    v9 := Try.zeroValue9,
    t22 := Try.underlying25,
    a22 := Try.isAgg25,
    z22 := Try.sizeOf25,
    v22 := Try.zeroValue25,
    t25 := Try.underlying59,
    a25 := Try.isAgg59,
    z25 := Try.sizeOf59,
    v25 := Try.zeroValue59,
    t39 := Try.underlying69,
    a39 := Try.isAgg69,
    z39 := Try.sizeOf69,
    v39 := Try.zeroValue69,
    t45 := Try.underlying98,
    a45 := Try.isAgg98,
    z45 := Try.sizeOf98,
    v45 := Try.zeroValue98,
    t46 := Try.underlying99,
    a46 := Try.isAgg99,
    z46 := Try.sizeOf99,
    v46 := Try.zeroValue99,
    t50 := Try.underlying57,
    a50 := Try.isAgg57,
    z50 := Try.sizeOf57,
    v50 := Try.zeroValue57,
    t53 := Try.underlying39,
    a53 := Try.isAgg39,
    z53 := Try.sizeOf39,
    v53 := Try.zeroValue39,
    t55 := Try.underlying106,
    a55 := Try.isAgg106,
    z55 := Try.sizeOf106,
    v55 := Try.zeroValue106,
    t66 := Try.underlying107,
    a66 := Try.isAgg107,
    z66 := Try.sizeOf107,
    v66 := Try.zeroValue107,
    t70 := Try.underlying111,
    a70 := Try.isAgg111,
    z70 := Try.sizeOf111,
    v70 := Try.zeroValue111,
    t76 := Try.underlying113,
    a76 := Try.isAgg113,
    z76 := Try.sizeOf113,
    v76 := Try.zeroValue113,
    t77 := Try.underlying92,
    a77 := Try.isAgg92,
    z77 := Try.sizeOf92,
    v77 := Try.zeroValue92 }
instance : Inhabited It := ⟨⟨0, 0, 0⟩⟩
theorem upd_sortWorldK {α : Type} [Inhabited α] (enc : α → List Value) (k : Nat) (w : World) (blk off m : Nat) (dk : Array α) (os : Array Obj) : Upd [blk] w (sortWorldK enc k w blk off m dk os) := by
  have h1 : Upd [blk] w (putRowK enc k (Sort.ahead w m) blk off dk) := by
    refine ⟨rfl, rfl, rfl, by rw [size_putRowK]; exact Nat.le_refl _, fun i hi hn => ?_⟩
    show ((Sort.ahead w m).heap.modify blk _)[i]? = _
    rw [Array.getElem?_modify, if_neg (by intro h; exact hn (by simp [h]))]
    rfl
  exact h1.trans (T := []) (upd_grow _ os) (by simp)
theorem cmp_lays (w : World) (g n : Nat) : CmpLays Try.prog 24 #[] LI.enc 3 cmpI g 0 n w := by
  intro m os dk _ x y
  exact CompareItems_any x y (sortWorldK LI.enc 3 w g 0 m dk os)
theorem swoI : SWO (ltOf cmpI) := by
  refine ⟨fun x => ?_, fun x y z h1 h2 => ?_, fun x y z h1 h2 => ?_⟩
  · simp only [ltOf, cmpI_lt, decide_eq_false_iff_not]; exact ltI_irrefl x
  · simp only [ltOf, cmpI_lt, decide_eq_true_eq] at *; exact ltI_trans h1 h2
  · simp only [ltOf, cmpI_lt, decide_eq_false_iff_not] at *; unfold ltI at *; omega
theorem held_holdsK {w : World} {g cap : Nat} {l : List It} (h : Held LI 38 w g cap l) : HoldsK LI.enc 3 w g 0 l.toArray := by
  intro t ht
  rw [size_flatK] at ht
  simp only [List.size_toArray] at ht
  have hj : t / 3 < l.length := by omega
  rw [get_flatK _ _ _ _ (by simpa using ht)]
  have hm : t % 3 < (LI.enc l[t / 3]).length := by rw [LI.len]; exact Nat.mod_lt _ (by decide)
  have e : (l.toArray)[t / 3]! = l[t / 3] := by rw [getElem!_pos _ _ (by simpa using hj)]; simp
  have := h.cell (t / 3) hj (t % 3) ((LI.enc l[t / 3])[t % 3]) (List.getElem?_eq_getElem hm)
  rw [show t / 3 * LI.k + t % 3 = t from by show t / 3 * 3 + t % 3 = t; omega] at this
  rw [e, Nat.zero_add, getElem!_pos (LI.enc l[t / 3]) _ hm]
  exact this
theorem swk_row {w W : World} {g : Nat} {d0 d' : Array It} (hb : g < w.heap.size) (hH : HoldsK LI.enc 3 w g 0 d0) (hs : d'.size = d0.size) (h : SWK LI.enc 3 w g 0 d' W) : Row LI W (some ⟨g, 0, none⟩) d'.toList := by
  have hW := h.holds hb hH hs
  intro j hj
  refine ⟨g, 0, rfl, fun t u hu => ?_⟩
  have ht := LI.lt hu
  have hj' : j < d'.size := by simpa using hj
  have ht3 : t < 3 := ht
  have hlt : j * 3 + t < d'.size * 3 := by omega
  have := hW (j * 3 + t) (by rw [size_flatK]; exact hlt)
  rw [get_flatK _ _ _ _ hlt, show (j * 3 + t) / 3 = j by omega, show (j * 3 + t) % 3 = t by omega] at this
  rw [show 0 + j * LI.k + t = 0 + (j * 3 + t) from by show 0 + j * 3 + t = _; omega, this.1]
  have hm : t < (LI.enc d'[j]!).length := by rw [LI.len]; exact ht
  rw [getElem!_pos d' j hj'] at hm ⊢
  simp only [Array.getElem_toList] at hu
  rw [List.getElem?_eq_getElem hm] at hu
  show some (LI.enc d'[j])[t]! = some u
  rw [getElem!_pos (LI.enc d'[j]) t hm]
  exact hu
theorem sorted_perm {d0 d' : Array It} (hp : PermIn 0 d0.size d0 d') (hs : SortedIn (ltOf cmpI) 0 d0.size d') : d'.toList.Perm d0.toList ∧ SortedI d'.toList := by
  obtain ⟨hz, _, hperm⟩ := hp
  have e1 : d'.extract 0 d0.size = d' := by rw [← hz]; exact Array.extract_size
  rw [e1, Array.extract_size] at hperm
  refine ⟨hperm, ?_⟩
  rw [SortedI, List.pairwise_iff_getElem]
  intro i j hi hj hij
  have hi' : i < d'.size := by simpa using hi
  have hj' : j < d'.size := by simpa using hj
  have := hs i j (Nat.zero_le _) hij (by omega)
  rw [getElem!_pos d' i hi', getElem!_pos d' j hj'] at this
  simp only [ltOf, cmpI_lt, decide_eq_false_iff_not] at this
  simpa using this
set_option maxRecDepth 100000 in
theorem SortFunc_has (g cap : Nat) (l : List It) (w : World) (hl : l.length ≤ 1000000) (hH : Held LI 38 w g cap l) :
    Calls Try.prog 61 #[.slice (some ⟨g, 0, none⟩) l.length cap, .func (.func 24) #[] #[]] w fun e w' =>
      e = .returned (.tuple #[]) ∧ ∃ l', l'.Perm l ∧ SortedI l' ∧ HasS LI w' ⟨l', some ⟨g, 0, none⟩, cap⟩ ∧ Upd [g] w w' := by
  have hk := held_holdsK hH
  have hb := hH.lt
  have h := AnyQ.slices_SortFunc sortLays 3 Try.isAgg38 Try.sizeOf38 LI.enc LI.len LI.one cmpI swoI 24 #[] g 0 cap l.toArray w (enters_of Try.func24 (by kernel_rfl) rfl) (cmp_lays w g _) hk hb (by simp; omega)
  have h2 : Calls Try.prog 61 #[.slice (some ⟨g, 0, none⟩) l.length cap, .func (.func 24) #[] #[]] w fun e w' => e = .returned (.tuple #[]) ∧ ∃ d' n os, PermIn 0 l.toArray.size l.toArray d' ∧ SortedIn (ltOf cmpI) 0 l.toArray.size d' ∧ w' = sortWorldK LI.enc 3 w g 0 n d' os := by
    have e : l.toArray.size = l.length := by simp
    rw [e] at h ⊢
    exact h
  refine h2.mono ?_
  rintro e w' ⟨rfl, d', n, os, hp, hs, rfl⟩
  obtain ⟨p1, p2⟩ := sorted_perm hp hs
  refine ⟨rfl, d'.toList, by simpa using p1, p2, ⟨swk_row hb hk hp.1 ⟨n, os, rfl⟩, ?_, fun e => by simp at e⟩, upd_sortWorldK _ _ _ _ _ _ _ _⟩
  have := p1.length_eq
  have h3 := hH.le
  simp only at this ⊢
  rw [this]; simpa using h3
end Go.Proofs.Ytpabapjodcafkaa
