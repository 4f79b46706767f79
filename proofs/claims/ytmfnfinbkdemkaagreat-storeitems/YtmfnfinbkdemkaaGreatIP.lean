/- The store as the words have it: an arena, a queue, holders, violations; its methods' contracts over that. -/
/- Held: a new store whose mutexes thread 0 holds. -/
import Derived.Test.YtmfnfinbkdemkaaGreatIL
import Derived.Test.YtmfnfinbkdemkaaGreatIM
import Derived.Test.YtmfnfinbkdemkaaGreatCJ
import Derived.Test.YtmfnfinbkdemkaaGreatCK
namespace Go.Proofs.YtmfnfinbkdemkaaGreat
open Go.RowKit Go.Lib
open A5

def rawOf (s : Sto) (ms : List (Bool × Int)) (lg : List Acc) (v : Int) : Rw := ⟨s.q.ts :: s.a.sl.map wordS, ⟨s.a.sl.map bare, s.a.id, s.a.nx⟩, s.q, ms, lg, v⟩
/-- The store at d holds s; at most c accesses are logged. -/
def Sta (F : List Nat) (d : At) (s : Sto) (ms : List (Bool × Int)) (v : Int) (c : Nat) (w : World) : Prop := ∃ lg : List Acc, lg.length ≤ c ∧ InR F d (rawOf s ms lg v) w
/-- The same, with a queue that is new to W0. -/
def StaN (F : List Nat) (d : At) (s : Sto) (ms : List (Bool × Int)) (v : Int) (c : Nat) (W0 w : World) : Prop := ∃ (lg : List Acc) (l : LdR), lg.length ≤ c ∧ InL F d l (rawOf s ms lg v) w ∧ ∀ b, b < W0.heap.size → AvD l b
theorem StaN.sta {F : List Nat} {d : At} {s : Sto} {ms : List (Bool × Int)} {v : Int} {c : Nat} {W0 w : World} (h : StaN F d s ms v c W0 w) : Sta F d s ms v c w := by
  obtain ⟨lg, l, hl, h, -⟩ := h
  exact ⟨lg, hl, h.r⟩
theorem StaN.more {F : List Nat} {d : At} {s : Sto} {ms : List (Bool × Int)} {v : Int} {c c' : Nat} {W0 W1 w : World} (h : StaN F d s ms v c W0 w) (hc : c ≤ c') (hw : W1.heap.size ≤ W0.heap.size) : StaN F d s ms v c' W1 w := by
  obtain ⟨lg, l, hl, h, hb⟩ := h
  exact ⟨lg, l, by omega, h, fun b hbb => hb b (by omega)⟩
/-- A block older than W0, none of the store's, is written. -/
theorem StaN.cell {F : List Nat} {d : At} {s : Sto} {ms : List (Bool × Int)} {v : Int} {c : Nat} {W0 w w' : World} (h : StaN F d s ms v c W0 w) {b : Nat} (hu : Upd [b] w w') (hb : b ∉ F) (ha : b < W0.heap.size) : Sta F d s ms v c w' := by
  obtain ⟨lg, l, hl, h, hav⟩ := h
  exact ⟨lg, hl, (h.cell hu hb (hav b ha)).r⟩
theorem Sta.stay {F : List Nat} {d : At} {s : Sto} {ms : List (Bool × Int)} {v : Int} {c : Nat} {w w' : World} (h : Sta F d s ms v c w) (hu : Upd [] w w') : Sta F d s ms v c w' := by
  obtain ⟨lg, hl, h⟩ := h
  exact ⟨lg, hl, h.stay hu⟩
theorem Sta.more {F : List Nat} {d : At} {s : Sto} {ms : List (Bool × Int)} {v : Int} {c c' : Nat} {w : World} (h : Sta F d s ms v c w) (hc : c ≤ c') : Sta F d s ms v c' w := by
  obtain ⟨lg, hl, h⟩ := h
  exact ⟨lg, by omega, h⟩
theorem Sta.lt {F : List Nat} {d : At} {s : Sto} {ms : List (Bool × Int)} {v : Int} {c : Nat} {w : World} (h : Sta F d s ms v c w) : ∀ x ∈ F, x < w.heap.size := by
  obtain ⟨lg, hl, h⟩ := h
  exact h.lt
/-- What every call asks. -/
structure Rdy (s : Sto) (ms : List (Bool × Int)) (v : Int) (c : Nat) : Prop where
  good : A5.Good s.a
  ms : ms.length = 4
  c : c ≤ 40000
  v0 : 0 ≤ v
  v1 : v ≤ 30000
theorem Rdy.sm {s : Sto} {ms : List (Bool × Int)} {v : Int} {c : Nat} (h : Rdy s ms v c) {lg : List Acc} (hl : lg.length ≤ c) : Sm (rawOf s ms lg v).mem :=
  ⟨by have := h.good.len1; simp only [rawOf, Rw.mem, List.length_cons, List.length_map]; omega, h.ms, by have := h.c; simp only [rawOf, Rw.mem]; omega, h.v0, by have := h.v1; simp only [rawOf, Rw.mem]; omega⟩
theorem slot_ok {a : Ar} (h : A5.Good a) {i : Nat} (hi : i < a.sl.length) : 0 ≤ a.sl[i].g ∧ a.sl[i].g ≤ 1099511627776 ∧ 0 ≤ a.sl[i].s ∧ a.sl[i].s ≤ 3 := by
  have := (h.ok i hi).1
  rw [slAt_get hi] at this
  exact this
theorem Rdy.rep {s : Sto} {ms : List (Bool × Int)} {v : Int} {c : Nat} (h : Rdy s ms v c) (lg : List Acc) : Rep (rawOf s ms lg v) s.a :=
  ⟨fun i hi => by simp [rawOf, hi], rfl, rfl, rfl, fun x hx => by
    obtain ⟨i, hi, rfl⟩ := List.mem_iff_getElem.1 hx
    have := slot_ok h.good hi
    omega⟩
theorem insertL_ts (l : Ld) (it : It) : (insertL l it).ts = l.ts := by
  unfold insertL
  split
  · rfl
  · split <;> rfl
section
variable {F : List Nat} {d : At} {s : Sto} {ms : List (Bool × Int)} {v : Int} {c : Nat} {w : World}
theorem VMemory (h : Sta F d s ms v c w) : Calls Tryz.prog 10 #[.pointer (some ⟨d.p, 0, none⟩)] w fun e w' => e = .returned (.pointer (some ⟨d.m, 0, none⟩)) ∧ w = w' := by
  obtain ⟨lg, hl, h⟩ := h
  exact Memory_has h
theorem VCapacity (h : Sta F d s ms v c w) : Calls Tryz.prog 29 #[.pointer (some ⟨d.p, 0, none⟩)] w fun e w' => e = .returned (.int .i64 s.a.sl.length) ∧ w = w' := by
  obtain ⟨lg, hl, h⟩ := h
  have := Capacity_has h
  simp only [rawOf, List.length_map] at this
  exact this
theorem VAlloc_no (h : Sta F d s ms v c w) (hr : Rdy s ms v c) (th t : Int) (he : s.a.id = []) :
    Calls Tryz.prog 14 #[.pointer (some ⟨d.p, 0, none⟩), .int .i64 th, .int .i64 t] w fun e w' => e = .returned (.tuple #[.int .i64 0, .bool false]) ∧ Sta F d s ms (v + missK ms th [3]) c w' ∧ Goes F F w w' := by
  obtain ⟨lg, hl, h⟩ := h
  refine (Alloc_no h (hr.sm hl) th t he).mono ?_
  rintro e w' ⟨rfl, h1, h2⟩
  exact ⟨rfl, ⟨lg, hl, h1⟩, h2⟩
theorem VAlloc_yes (h : Sta F d s ms v c w) (hr : Rdy s ms v c) (th t : Int) (he : s.a.id ≠ []) (hnx : s.a.nx ≤ 1000000000000) :
    Calls Tryz.prog 14 #[.pointer (some ⟨d.p, 0, none⟩), .int .i64 th, .int .i64 t] w fun e w' => e = .returned (.tuple #[.int .i64 (takeH s.a), .bool true]) ∧ ∃ F', Sta F' d ⟨takeA s.a t, s.q⟩ ms (v + missK ms th [3]) (c + 1) w' ∧ Goes F F' w w' := by
  obtain ⟨lg, hl, h⟩ := h
  obtain ⟨hi, h0, hid⟩ := hr.good.last he
  have hok := slot_ok hr.good hi
  have hc := hr.good.count
  have h64 := hr.good.len1
  have hv := hr.v1
  rw [slAt_get hi] at h0
  refine (Alloc_yes h (hr.sm hl) (by simp only [rawOf]; omega) th t (lastI s.a) s.a.id.dropLast hid (by simpa [rawOf] using hi) (by simp only [rawOf]; omega) ⟨hr.good.nx0, hnx⟩ s.a.sl[lastI s.a].g 0 ⟨hok.1, hok.2.1⟩ (by decide) (by simp [rawOf, hi, wordS, h0]) (by omega)).mono ?_
  rintro e w' ⟨rfl, F', lg', hl', h1, h2⟩
  refine ⟨by simp only [takeH]; rw [slAt_get hi], F', ⟨lg', by simp only [rawOf] at hl'; omega, ?_⟩, h2⟩
  have e1 : (rawOf s ms lg v).add (missK ms th [3]) = rawOf s ms lg (v + missK ms th [3]) := rfl
  have e2 : (rawOf s ms lg (v + missK ms th [3])).took (lastI s.a) s.a.id.dropLast s.a.sl[lastI s.a].g t lg' = rawOf ⟨takeA s.a t, s.q⟩ ms lg' (v + missK ms th [3]) := by
    simp only [Rw.took, rawOf, takeA, List.set_cons_succ, slAt_get hi, List.map_set, wordS, bare]
  rw [← e2, ← e1]
  exact h1
theorem VPutN (h : Sta F d s ms v c w) (hr : Rdy s ms v c) (th : Int) (hh : ∀ k, k < 4 → ms[k]? = some (true, th)) (i : Nat) (hi : i < s.a.sl.length) (hf : FitQ s.q) (hcp : s.q.cp ≤ 100000000000) (hd : ∀ x ∈ itemsL s.q, ¬ eqK (itA s.a i) x) :
    Calls Tryz.prog 22 #[.pointer (some ⟨d.p, 0, none⟩), .int .i64 th, .int .i64 i] w fun e w' => e = .returned (.tuple #[]) ∧ StaN F d ⟨s.a, insertL s.q (itA s.a i)⟩ ms v c w w' ∧ Goes F F w w' := by
  obtain ⟨lg, hl, h⟩ := h
  have e0 : itA s.a i = ⟨(bare s.a.sl[i]).t, (bare s.a.sl[i]).q, (i : Int)⟩ := by simp only [itA, slAt_get hi, bare]
  rw [e0] at hd ⊢
  refine (SPut_new h (hr.sm hl) th hh i (bare s.a.sl[i]) (by simp [rawOf, hi]) hf.good hf.len hf.mv hcp hd).mono ?_
  rintro e w' ⟨rfl, ⟨l, h1, h3⟩, h2⟩
  refine ⟨rfl, ⟨lg, l, hl, ?_, h3⟩, h2⟩
  have e2 : { rawOf s ms lg v with q := insertL (rawOf s ms lg v).q ⟨(bare s.a.sl[i]).t, (bare s.a.sl[i]).q, (i : Int)⟩ } = rawOf ⟨s.a, insertL s.q ⟨(bare s.a.sl[i]).t, (bare s.a.sl[i]).q, (i : Int)⟩⟩ ms lg v := by
    simp only [rawOf, insertL_ts]
  rw [← e2]
  exact h1
theorem VPut (h : Sta F d s ms v c w) (hr : Rdy s ms v c) (th : Int) (hh : ∀ k, k < 4 → ms[k]? = some (true, th)) (i : Nat) (hi : i < s.a.sl.length) (hf : FitQ s.q) (hcp : s.q.cp ≤ 100000000000) (hd : ∀ x ∈ itemsL s.q, ¬ eqK (itA s.a i) x) :
    Calls Tryz.prog 22 #[.pointer (some ⟨d.p, 0, none⟩), .int .i64 th, .int .i64 i] w fun e w' => e = .returned (.tuple #[]) ∧ Sta F d ⟨s.a, insertL s.q (itA s.a i)⟩ ms v c w' ∧ Goes F F w w' := by
  refine (VPutN h hr th hh i hi hf hcp hd).mono ?_
  rintro e w' ⟨rfl, h1, h2⟩
  exact ⟨rfl, h1.sta, h2⟩
theorem VPeek (h : Sta F d s ms v c w) (hr : Rdy s ms v c) (th : Int) (hf : FitQ s.q) :
    Calls Tryz.prog 13 #[.pointer (some ⟨d.p, 0, none⟩), .int .i64 th] w fun e w' => e = .returned (.tuple #[aggI (peekL s.q).2.1, .bool (peekL s.q).2.2]) ∧ ∃ F', Sta F' d ⟨s.a, (peekL s.q).1⟩ ms (v + missK ms th [0, 1, 2]) (c + 1) w' ∧ Goes F F' w w' := by
  obtain ⟨lg, hl, h⟩ := h
  have hv := hr.v1
  refine (SPeek_has h (hr.sm hl) (by simp only [rawOf]; omega) rfl th hf).mono ?_
  rintro e w' ⟨rfl, F', lg', hl', h1, h2⟩
  exact ⟨rfl, F', ⟨lg', by simp only [rawOf] at hl'; omega, h1⟩, h2⟩
theorem VDrop (h : Sta F d s ms v c w) (hr : Rdy s ms v c) (th : Int) (hf : FitQ s.q) :
    Calls Tryz.prog 24 #[.pointer (some ⟨d.p, 0, none⟩), .int .i64 th] w fun e w' => e = .returned (.tuple #[]) ∧ ∃ F', Sta F' d ⟨s.a, (popL s.q).1⟩ ms (v + missK ms th [0, 1, 2]) (c + 1) w' ∧ Goes F F' w w' := by
  obtain ⟨lg, hl, h⟩ := h
  have hv := hr.v1
  refine (SDrop_has h (hr.sm hl) (by simp only [rawOf]; omega) rfl th hf).mono ?_
  rintro e w' ⟨rfl, F', lg', hl', h1, h2⟩
  exact ⟨rfl, F', ⟨lg', by simp only [rawOf] at hl'; omega, h1⟩, h2⟩
theorem VFree (h : Sta F d s ms v c w) (hr : Rdy s ms v c) (th : Int) (i : Nat) (hi : i < s.a.sl.length) (hg : (slAt s.a.sl i).g < 1099511627776) :
    Calls Tryz.prog 28 #[.pointer (some ⟨d.p, 0, none⟩), .int .i64 th, .int .i64 i] w fun e w' => e = .returned (.tuple #[]) ∧ ∃ F', Sta F' d ⟨freeAt s.a i, s.q⟩ ms (v + missK ms th [3]) (c + 1) w' ∧ Goes F F' w w' := by
  obtain ⟨lg, hl, h⟩ := h
  have hok := slot_ok hr.good hi
  have hc := hr.good.count
  have h64 := hr.good.len1
  have hv := hr.v1
  rw [slAt_get hi] at hg
  refine (Free_has h (hr.sm hl) (by simp only [rawOf]; omega) th i (by simpa [rawOf] using hi) (by simp only [rawOf]; omega) s.a.sl[i].g s.a.sl[i].s ⟨hok.1, hg⟩ ⟨hok.2.2.1, by omega⟩ (by simp [rawOf, hi, wordS])).mono ?_
  rintro e w' ⟨rfl, F', lg', hl', h1, h2⟩
  refine ⟨rfl, F', ⟨lg', by simp only [rawOf] at hl'; omega, ?_⟩, h2⟩
  have e1 : (rawOf s ms lg v).add (missK ms th [3]) = rawOf s ms lg (v + missK ms th [3]) := rfl
  have e2 : (rawOf s ms lg (v + missK ms th [3])).freed i s.a.sl[i].g lg' = rawOf ⟨freeAt s.a i, s.q⟩ ms lg' (v + missK ms th [3]) := by
    simp only [Rw.freed, rawOf, freeAt, freeS, List.set_cons_succ, slAt_get hi, List.map_set, wordS, bare, Int.add_zero]
  rw [← e2, ← e1]
  exact h1
theorem VArena (h : Sta F d s ms v c w) (hr : Rdy s ms v c) :
    Calls Tryz.prog 15 #[.pointer (some ⟨d.p, 0, none⟩)] w fun e w' => ∃ g : ArR, e = .returned (encA g) ∧ g.ar = s.a ∧ HasA w' g ∧ (∀ b, b < w.heap.size → Avoids g b) ∧ Upd [] w w' := by
  obtain ⟨lg, hl, h⟩ := h
  have hc := hr.good.count
  have h64 := hr.good.len1
  exact SArena_has h (hr.sm hl) s.a (hr.rep lg) hr.good.len0 hr.good.len1 (by omega)
theorem VItems (h : Sta F d s ms v c w) (hf : FitQ s.q) : Calls Tryz.prog 16 #[.pointer (some ⟨d.p, 0, none⟩)] w (GivesI (sortI (itemsL s.q)) w) := by
  obtain ⟨lg, hl, h⟩ := h
  exact SItems_has h hf
theorem VAccepts (h : Sta F d s ms v c w) (hr : Rdy s ms v c) (hg : GoodL s.q) (th t : Int) :
    Calls Tryz.prog 12 #[.pointer (some ⟨d.p, 0, none⟩), .int .i64 th, .int .i64 t] w fun e w' => e = .returned (.bool (s.q.rs.any (fun x => decide (curT x ≤ t)))) ∧ Sta F d s ms (v + missK ms th [1]) c w' ∧ Goes F F w w' := by
  obtain ⟨lg, hl, h⟩ := h
  refine (SAccepts_has h (hr.sm hl) hg th t).mono ?_
  rintro e w' ⟨rfl, h1, h2⟩
  exact ⟨rfl, ⟨lg, hl, h1⟩, h2⟩
theorem VViol (h : Sta F d s ms v c w) : Calls Tryz.prog 11 #[.pointer (some ⟨d.m, 0, none⟩)] w fun e w' => e = .returned (.int .i64 v) ∧ w = w' := by
  obtain ⟨lg, hl, FM, iv, l, rfl, h⟩ := h
  exact Violations_any h.mem
theorem VTop (h : Sta F d s ms v c w) (hr : Rdy s ms v c) : Calls Tryz.prog 21 #[.pointer (some ⟨d.m, 0, none⟩), .int .i64 0] w fun e w' => e = .returned (.int .i64 s.q.ts) ∧ w = w' := by
  obtain ⟨lg, hl, FM, iv, l, rfl, h⟩ := h
  have hsm := (hr.sm hl).small (n := 0) (by omega)
  rw [St.more_zero] at hsm
  exact Word_in h.mem hsm 0 (by simp [Rw.mem, rawOf])
theorem VWord (h : Sta F d s ms v c w) (hr : Rdy s ms v c) (i : Nat) (hi : i < s.a.sl.length) (z : Int) (hz : z = ((i + 1 : Nat) : Int)) : Calls Tryz.prog 21 #[.pointer (some ⟨d.m, 0, none⟩), .int .i64 z] w fun e w' => e = .returned (.int .i64 (wordS (slAt s.a.sl i))) ∧ w = w' := by
  subst hz
  obtain ⟨lg, hl, FM, iv, l, rfl, h⟩ := h
  have hsm := (hr.sm hl).small (n := 0) (by omega)
  rw [St.more_zero] at hsm
  have := Word_in h.mem hsm (i + 1) (by simp [Rw.mem, rawOf]; exact hi)
  simp only [Rw.mem, rawOf, List.getElem_cons_succ, List.getElem_map] at this
  rw [slAt_get hi]
  exact this
theorem VCAS_yes (h : Sta F d s ms v c w) (hr : Rdy s ms v c) (th : Int) (i : Nat) (hi : i < s.a.sl.length) (z : Int) (hz : z = ((i + 1 : Nat) : Int)) (h1 : (slAt s.a.sl i).s = 1) :
    Calls Tryz.prog 32 #[.pointer (some ⟨d.m, 0, none⟩), .int .i64 th, .int .i64 z, .int .i64 (4 * (slAt s.a.sl i).g + 1), .int .i64 (4 * (slAt s.a.sl i).g + 3)] w fun e w' => e = .returned (.bool true) ∧ ∃ F', Sta F' d ⟨markA s.a i, s.q⟩ ms v (c + 1) w' ∧ Goes F F' w w' := by
  subst hz
  obtain ⟨lg, hl, FM, iv, l, rfl, h⟩ := h
  have hsm := (hr.sm hl).small (n := 0) (by omega)
  rw [St.more_zero] at hsm
  rw [slAt_get hi] at h1 ⊢
  have hlen : i + 1 < (rawOf s ms lg v).mem.ws.length := by simp [Rw.mem, rawOf]; exact hi
  refine (CAS_yes h.mem hsm th (i + 1) (4 * s.a.sl[i].g + 1) (4 * s.a.sl[i].g + 3) hlen (by simp [Rw.mem, rawOf, wordS, h1])).mono ?_
  rintro e w' ⟨rfl, FM', hm, hg⟩
  obtain ⟨lg2, hl2, hm2⟩ : ∃ lg2 : List Acc, lg2.length = lg.length + 1 ∧ Mem FM' d.m d.bw d.bm ⟨(rawOf s ms lg v).ws.set (i + 1) (4 * s.a.sl[i].g + 3), ms, lg2, v⟩ w' := ⟨_, by simp [Rw.mem, rawOf], hm⟩
  obtain ⟨k1, k2⟩ := h.memory (r' := { rawOf s ms lg v with ws := (rawOf s ms lg v).ws.set (i + 1) (4 * s.a.sl[i].g + 3), log := lg2 }) hm2 hg rfl rfl
  refine ⟨rfl, _, ⟨lg2, by omega, ?_⟩, k2⟩
  have e2 : { rawOf s ms lg v with ws := (rawOf s ms lg v).ws.set (i + 1) (4 * s.a.sl[i].g + 3), log := lg2 } = rawOf ⟨markA s.a i, s.q⟩ ms lg2 v := by
    have hb : (s.a.sl.set i ⟨s.a.sl[i].g, 3, s.a.sl[i].t, s.a.sl[i].q⟩).map bare = s.a.sl.map bare := by
      rw [List.map_set]
      have : (s.a.sl.map bare)[i]? = some (bare ⟨s.a.sl[i].g, 3, s.a.sl[i].t, s.a.sl[i].q⟩) := by simp [hi, bare]
      obtain ⟨hh, hv⟩ := List.getElem?_eq_some_iff.1 this
      rw [← hv]
      exact List.set_getElem_self hh
    simp only [rawOf, markA, setS, moveS, List.set_cons_succ, slAt_get hi]
    rw [hb, List.map_set]
    simp only [wordS]
  rw [← e2]
  exact ⟨FM', iv, l, rfl, k1⟩
theorem VCAS_no (h : Sta F d s ms v c w) (hr : Rdy s ms v c) (th : Int) (i : Nat) (hi : i < s.a.sl.length) (z : Int) (hz : z = ((i + 1 : Nat) : Int)) (h1 : (slAt s.a.sl i).s ≠ 1) :
    Calls Tryz.prog 32 #[.pointer (some ⟨d.m, 0, none⟩), .int .i64 th, .int .i64 z, .int .i64 (4 * (slAt s.a.sl i).g + 1), .int .i64 (4 * (slAt s.a.sl i).g + 3)] w fun e w' => e = .returned (.bool false) ∧ ∃ F', Sta F' d s ms v (c + 1) w' ∧ Goes F F' w w' := by
  subst hz
  obtain ⟨lg, hl, FM, iv, l, rfl, h⟩ := h
  have hsm := (hr.sm hl).small (n := 0) (by omega)
  rw [St.more_zero] at hsm
  rw [slAt_get hi] at h1 ⊢
  have hlen : i + 1 < (rawOf s ms lg v).mem.ws.length := by simp [Rw.mem, rawOf]; exact hi
  refine (CAS_no h.mem hsm th (i + 1) (4 * s.a.sl[i].g + 1) (4 * s.a.sl[i].g + 3) hlen (by simp [Rw.mem, rawOf, wordS]; omega)).mono ?_
  rintro e w' ⟨rfl, FM', hm, hg⟩
  obtain ⟨k1, k2⟩ := h.memory (r' := { rawOf s ms lg v with log := _ }) hm hg rfl rfl
  exact ⟨rfl, _, ⟨_, by simp only [Rw.mem, rawOf, List.length_append, List.length_singleton]; omega, ⟨FM', iv, l, rfl, k1⟩⟩, k2⟩
theorem VTry (h : Sta F d s ms v c w) (hr : Rdy s ms v c) (th : Int) (k : Nat) (hf : ms[k]? = some (false, 0)) :
    Calls Tryz.prog 30 #[.pointer (some ⟨d.m, 0, none⟩), .int .i64 th, .int .i64 k] w fun e w' => e = .returned (.bool true) ∧ ∃ F', Sta F' d s (ms.set k (true, th)) v (c + 1) w' ∧ Goes F F' w w' := by
  obtain ⟨lg, hl, FM, iv, l, rfl, h⟩ := h
  have hsm := (hr.sm hl).small (n := 0) (by omega)
  rw [St.more_zero] at hsm
  obtain ⟨hk2, hv⟩ := List.getElem?_eq_some_iff.1 hf
  refine (TryLock_yes h.mem hsm th k hk2 (by simp only [Rw.mem, rawOf]; rw [hv])).mono ?_
  rintro e w' ⟨rfl, FM', hm, hg⟩
  obtain ⟨k1, k2⟩ := h.memory (r' := { rawOf s ms lg v with ms := ms.set k (true, th), log := _ }) hm hg rfl rfl
  exact ⟨rfl, _, ⟨_, by simp only [Rw.mem, rawOf, List.length_append, List.length_singleton]; omega, ⟨FM', iv, l, rfl, k1⟩⟩, k2⟩
end
theorem VNew (n : Nat) (h1 : 1 ≤ n) (h2 : n ≤ 64) (w : World) : Calls Tryz.prog 27 #[.int .i64 n] w fun e w' => ∃ d F, e = .returned (.pointer (some ⟨d.p, 0, none⟩)) ∧ Sta F d ⟨newA n, newL⟩ (List.replicate 4 (false, 0)) 0 0 w' ∧ (∀ x ∈ F, w.heap.size ≤ x) ∧ Upd [] w w' := by
  refine (SNew_yes n h1 h2 w).mono ?_
  rintro e w' ⟨d, F, rfl, h, hf, hu⟩
  refine ⟨d, F, rfl, ⟨[], Nat.le_refl _, ?_⟩, hf, hu⟩
  have e2 : newRw n = rawOf ⟨newA n, newL⟩ (List.replicate 4 (false, 0)) [] 0 := by
    simp only [newRw, rawOf, newA, zs, ids, List.map_replicate, wordS, bare, Rw.mk.injEq, and_true]
    rfl
  rw [← e2]; exact h
end Go.Proofs.YtmfnfinbkdemkaaGreat
namespace Go.Proofs.YtmfnfinbkdemkaaGreat
open Go.RowKit Go.Lib
open A5

def lockN (k : Nat) : List (Bool × Int) := List.replicate k (true, 0) ++ List.replicate (4 - k) (false, 0)
theorem lockN_at {k : Nat} (h : k < 4) : (lockN k)[k]? = some (false, 0) ∧ (lockN k).set k (true, 0) = lockN (k + 1) := by
  rcases (by omega : k = 0 ∨ k = 1 ∨ k = 2 ∨ k = 3) with rfl | rfl | rfl | rfl <;> exact ⟨rfl, rfl⟩
theorem lockN_len {k : Nat} (h : k ≤ 4) : (lockN k).length = 4 := by simp [lockN]; omega
/-- All mutexes held by thread 0. -/
def hm : List (Bool × Int) := List.replicate 4 (true, 0)
def newS (n : Nat) : Sto := ⟨newA n, newL⟩
/-- The store, held by thread 0. -/
def StaH (F : List Nat) (d : At) (s : Sto) (c : Nat) (w : World) : Prop := Sta F d s hm 0 c w
set_option maxRecDepth 100000 in
set_option maxHeartbeats 4000000 in
theorem Held_has (n : Nat) (h1 : 1 ≤ n) (h2 : n ≤ 64) (w : World) : Calls Tryz.prog 8 #[.int .i64 n] w fun e w' => ∃ d, e = .returned (.pointer (some ⟨d.p, 0, none⟩)) ∧ ∃ F, StaH F d (newS n) 4 w' ∧ (∀ x ∈ F, w.heap.size ≤ x) ∧ Upd [] w w' := by
  have HN := Lib.hid (VNew n h1 h2 w)
  have HG : Hid (A5.Good (newS n).a) := newA_good h1 h2
  go_enter Tryz.func8, Tryz.ntmps8
  go_wp2_with fail
  (with_reducible refine HN.out.mono ?_)
  rintro e w1 ⟨d, F, rfl, hst, hF, hu1⟩
  have HS := Lib.hid hst; have HF := Lib.hid hF; have HU1 := Lib.hid hu1
  have HM := Lib.hid (VMemory hst)
  clear hst hF hu1
  go_wp2_with fail
  (with_reducible refine HM.out.mono ?_)
  rintro e w' ⟨rfl, rfl⟩
  go_wp2_with fail
  go_loopg [4] 4 (fun gk vi wr => ∃ k : Nat, vi = .int .i64 k ∧ k + gk = 4 ∧ ∃ F', Hid (Sta F' d (newS n) (lockN k) 0 k wr) ∧ Hid (Goes F F' w1 wr))
  case atStart => exact ⟨0, rfl, by omega, F, HS.out, Goes.refl _ _⟩
  case round =>
    obtain ⟨k, rfl, hkg, F', HST, HGO⟩ := hrel
    by_cases hlt : k < 4
    · have hltz : (k : Int) < 4 := by omega
      have HM1 := Lib.hid (VMemory HST.out)
      have HT := Lib.hid (VTry HST.out ⟨HG.out, lockN_len (by omega), by omega, by omega, by omega⟩ 0 k (lockN_at hlt).1)
      rw [(lockN_at hlt).2] at HT
      go_wp2_with fail
      (with_reducible refine HM1.out.mono ?_)
      rintro e w' ⟨rfl, rfl⟩
      go_wp2_with fail
      (with_reducible refine HT.out.mono ?_)
      rintro e w2 ⟨rfl, F2, hs2, hg2⟩
      have HS2 := Lib.hid hs2; have HG2 := Lib.hid (HGO.out.trans hg2)
      clear hs2 hg2
      go_wp2_with fail
      go_roundg (gk - 1)
      case measure => omega
      case rel => exact ⟨k + 1, by go_num, by omega, F2, HS2, HG2⟩
    · have hltz : ¬ (k : Int) < 4 := by omega
      obtain rfl : k = 4 := by omega
      go_wp2_with fail
      go_ret
      refine ⟨d, rfl, F', HST.out, fun x hx => ?_, HU1.out.trans HGO.out.1 (fun x hx hl => by have := HF.out x hx; omega)⟩
      rcases HGO.out.2 x hx with h | h
      · exact HF.out x h
      · have := HU1.out.size; omega
end Go.Proofs.YtmfnfinbkdemkaaGreat
