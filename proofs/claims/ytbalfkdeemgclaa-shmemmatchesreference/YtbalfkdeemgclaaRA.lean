/- The reference memory of layer 1 as it lies in the heap, and the contracts of its small methods. -/
import Derived.Test.YtbalfkdeemgclaaL
import Derived.Test.YtbalfkdeemgclaaK
import Derived.Deep.RegionHeldLaw
import Derived.Deep.CutBlock
namespace Go.Proofs.Ytbalfkdeemgclaa
open Go.RowKit

/-- The world of a walk under a name of its own, with what is known of it. -/
theorem wp_at {P : Program} {c : Code} {Q : Exit → Act → World → Prop} {a : Act} {W : World} (R : World → Prop) (hW : R W) (h : ∀ W, R W → Code.wp P c Q a W) : Code.wp P c Q a W := h W hW
def hcells (ms : List (Bool × Int)) : List Value := ms.map fun o => Value.int .i64 (hold o)
/-- The reference memory lies at block p, its words at bw; F: all its blocks. -/
def RMem (F : List Nat) (p bw : Nat) (s : St) (w : World) : Prop :=
  ∃ vm vl, F = p :: bw :: (vm.ownBlock.toList ++ vl.ownBlock.toList) ∧ vm.ownBlock ≠ some bw ∧
    w.heap[p]? = some (.cells #[.slice (some ⟨bw, 0, none⟩) s.ws.length s.ws.length, vm, vl, .int .i64 s.v] 40 (0, 0)) ∧
    w.heap[bw]? = some (.cells (s.ws.map (Value.int .i64)).toArray 3 (0, 0)) ∧
    w.ownsRow 0 3 1 vm s.ms.length (hcells s.ms) ∧
    w.ownsRow 0 47 6 vl s.log.length (s.log.flatMap Acc.cells)

section
variable {F : List Nat} {p bw : Nat} {s : St} {w : World}
theorem RMem.lt (h : RMem F p bw s w) : ∀ x ∈ F, x < w.heap.size := by
  obtain ⟨vm, vl, rfl, hne, hp, hw, hm, hl⟩ := h
  intro x hx
  simp only [List.mem_cons, List.mem_append] at hx
  rcases hx with rfl | rfl | hx | hx
  · exact lt_block hp
  · exact lt_block hw
  · exact (hm.lt x (toList_of hx)).2
  · exact (hl.lt x (toList_of hx)).2
theorem RMem.keep {S : List Nat} {w' : World} (h : RMem F p bw s w) (hu : Upd S w w') (hd : ∀ x ∈ F, x ∉ S) : RMem F p bw s w' := by
  obtain ⟨vm, vl, rfl, hne, hp, hw, hm, hl⟩ := h
  exact ⟨vm, vl, rfl, hne, hu.at hp (hd _ (by simp)), hu.at hw (hd _ (by simp)), hu.row hm fun k hk => hd k (by simp [hk]), hu.row hl fun k hk => hd k (by simp [hk])⟩
theorem RMem.stay {w' : World} (h : RMem F p bw s w) (hu : Upd [] w w') : RMem F p bw s w' := h.keep hu (by simp)
theorem RMem.p_mem (h : RMem F p bw s w) : p ∈ F ∧ bw ∈ F := by obtain ⟨vm, vl, rfl, _⟩ := h; simp
theorem RMem.free (h : RMem F p bw s w) (o : Nat) : w.frozen? ⟨p, o, none⟩ = false ∧ w.frozen? ⟨bw, o, none⟩ = false := by
  obtain ⟨vm, vl, rfl, hne, hp, hw, hm, hl⟩ := h
  exact ⟨free_block hp _, free_block hw _⟩
theorem RMem.word (h : RMem F p bw s w) {k : Nat} (hk : k < s.ws.length) : w.cell? ⟨bw, k, none⟩ = some (.int .i64 s.ws[k]) := by
  obtain ⟨vm, vl, rfl, hne, hp, hw, hm, hl⟩ := h
  simp [cell_block hw, hk]
theorem RMem.cells (h : RMem F p bw s w) : w.cell? ⟨p, 0, none⟩ = some (.slice (some ⟨bw, 0, none⟩) s.ws.length s.ws.length) ∧ w.cell? ⟨p, 3, none⟩ = some (.int .i64 s.v) := by
  obtain ⟨vm, vl, rfl, hne, hp, hw, hm, hl⟩ := h
  exact ⟨by simp [cell_block hp], by simp [cell_block hp]⟩
/-- The mutexes' slice, its length at least. -/
theorem RMem.mlen (h : RMem F p bw s w) : ∃ a c, w.cell? ⟨p, 1, none⟩ = some (.slice a s.ms.length c) := by
  obtain ⟨vm, vl, rfl, hne, hp, hw, hm, hl⟩ := h
  rcases hm.2 with ⟨rfl, hz⟩ | ⟨g, cap, cur, rfl, _⟩
  · exact ⟨none, 0, by rw [hz]; simp [cell_block hp]⟩
  · exact ⟨some ⟨g, 0, none⟩, cap, by simp [cell_block hp]⟩
theorem add0 (g j : Nat) : (⟨g, 0, none⟩ : Addr).add j = ⟨g, j, none⟩ := by unfold Addr.add; split <;> simp_all
theorem RMem.held (h : RMem F p bw s w) {k : Nat} (hk : k < s.ms.length) : ∃ g c, w.cell? ⟨p, 1, none⟩ = some (.slice (some ⟨g, 0, none⟩) s.ms.length c) ∧ w.cell? ⟨g, k, none⟩ = some (.int .i64 (hold s.ms[k])) ∧ w.frozen? ⟨g, k, none⟩ = false ∧ g ∈ F ∧
    ∀ o : Bool × Int, RMem F p bw { s with ms := s.ms.set k o } (w.setCell ⟨g, k, none⟩ (.int .i64 (hold o))) := by
  obtain ⟨vm, vl, rfl, hne, hp, hw, hm, hl⟩ := h
  have hm' := hm
  rcases hm.2 with ⟨rfl, hz⟩ | ⟨g, cap, cur, rfl, hb, hgg, hnc, hcm, hcs, htk⟩
  · omega
  · have hc := hm'.cells (g := g) rfl k (.int .i64 (hold s.ms[k])) (by simp [hcells, hk])
    rw [add0] at hc
    have hgp : g ≠ p := fun e => ne_own hp hm' (by decide) (by simp [Value.ownBlock, e])
    have hgb : g ≠ bw := fun e => hne (by simp [Value.ownBlock, e])
    refine ⟨g, cap, by simp [cell_block hp], hc, free_block hgg _, by simp [Value.ownBlock], fun o => ⟨_, _, rfl, hne, ?_, ?_, ?_, ?_⟩⟩
    · rw [Below.heap_setCell _ _ _ _ hgp.symm, hp]
    · rw [Below.heap_setCell _ _ _ _ hgb.symm, hw]
    · refine ⟨by simp [hcells], .inr ⟨g, cap, _, by simp, hb, setCell_block hgg _, by simpa using hnc, hcm, by simpa using hcs, ?_⟩⟩
      simp only [Nat.mul_one, List.length_set, Array.toList_setIfInBounds, hcells, List.map_set] at htk ⊢
      rw [List.take_set, htk]
    · exact row_setCell hl (ne_own hgg hl (by decide)) _
theorem RMem.setWord (h : RMem F p bw s w) (k : Nat) (x : Int) : RMem F p bw { s with ws := s.ws.set k x } (w.setCell ⟨bw, k, none⟩ (.int .i64 x)) := by
  obtain ⟨vm, vl, rfl, hne, hp, hw, hm, hl⟩ := h
  refine ⟨vm, vl, rfl, hne, ?_, ?_, ?_, ?_⟩
  · rw [Below.heap_setCell _ _ _ _ (ne_block hp hw (by decide)), hp]; simp
  · rw [setCell_block hw]; simp
  · exact row_setCell hm hne _
  · exact row_setCell hl (ne_own hw hl (by decide)) _
theorem RMem.setV (h : RMem F p bw s w) (x : Int) : RMem F p bw { s with v := x } (w.setCell ⟨p, 3, none⟩ (.int .i64 x)) := by
  obtain ⟨vm, vl, rfl, hne, hp, hw, hm, hl⟩ := h
  refine ⟨vm, vl, rfl, hne, ?_, ?_, ?_, ?_⟩
  · rw [setCell_block hp]; simp
  · rw [Below.heap_setCell _ _ _ _ (ne_block hw hp (by decide)), hw]
  · exact row_setCell hm (ne_own hp hm (by decide)) _
  · exact row_setCell hl (ne_own hp hl (by decide)) _

set_option maxHeartbeats 400000 in
theorem Held_any (h : RMem F p bw s w) (k : Nat) (hk : k < s.ms.length) (_hs : s.ms.length ≤ 256) :
    Calls Try.prog 37 #[.pointer (some ⟨p, 0, none⟩), .int .i64 k] w fun e w' => e = .returned (.bool (hold s.ms[k] != -1)) ∧ w = w' := by
  obtain ⟨g, c, c1, c2, _, _, _⟩ := h.held hk
  clear h
  go_enter Try.func37, Try.ntmps37
  go_wp2
  go_ret
  exact ⟨rfl, rfl⟩
set_option maxHeartbeats 400000 in
theorem set_no (p : Nat) (w : World) (i t : Int) (b : Bool) :
    Calls Try.prog 38 #[.pointer (some ⟨p, 0, none⟩), .int .i64 i, .bool b, .bool false, .int .i64 t] w fun e w' => e = .returned (.tuple #[]) ∧ w = w' := by
  go_enter Try.func38, Try.ntmps38
  go_wp2
  exact bodyPost_ret (v := .tuple #[]) (by simp [results, Try.results38, go_sem]) rfl ⟨rfl, rfl⟩
set_option maxHeartbeats 400000 in
theorem set_yes (h : RMem F p bw s w) (k : Nat) (hk : k < s.ms.length) (_hs : s.ms.length ≤ 256) (t : Int) (b : Bool) (o : Bool × Int) (ho : hold o = if b then t else -1) :
    Calls Try.prog 38 #[.pointer (some ⟨p, 0, none⟩), .int .i64 k, .bool b, .bool true, .int .i64 t] w fun e w' => e = .returned (.tuple #[]) ∧ RMem F p bw { s with ms := s.ms.set k o } w' ∧ Upd F w w' := by
  obtain ⟨g, c, c1, c2, f2, hgF, hset⟩ := h.held hk
  have HS := Lib.hid (hset o); have HO := Lib.hid ho
  clear h hset ho
  cases b
  · go_enter Try.func38, Try.ntmps38
    go_wp2
    go_end0
    have := HS.out
    rw [HO.out] at this
    exact ⟨rfl, this, (Upd.refl _ _).setCell (fun _ => hgF) _⟩
  · go_enter Try.func38, Try.ntmps38
    go_wp2
    go_end0
    have := HS.out
    rw [HO.out] at this
    exact ⟨rfl, this, (Upd.refl _ _).setCell (fun _ => hgF) _⟩
end
end Go.Proofs.Ytbalfkdeemgclaa
