/- Contract: the program's addRung. -/
import Derived.Test.YtneodiemgemhfaaPL
namespace Go.Proofs.Ytneodiemgemhfaa
open Go.RowKit Go.Lib

def foldR (r : Rg) (its : List It) : Rg := its.foldl (fun r it => (putR r it).1) r
theorem foldR_succ {r : Rg} {its : List It} {k : Nat} (h : k < its.length) : foldR r (its.take (k + 1)) = (putR (foldR r (its.take k)) its[k]).1 := by
  unfold foldR; rw [List.take_succ_eq_append_getElem h, List.foldl_append]; rfl
theorem foldR_ok {r : Rg} (h : GoodR r) (hz : lenL r.bs = 0) : ∀ (its : List It) (k : Nat), k ≤ its.length → GoodR (foldR r (its.take k)) ∧ lenL (foldR r (its.take k)).bs ≤ k
  | its, 0, _ => ⟨h, by show lenL r.bs ≤ 0; omega⟩
  | its, k + 1, hk => by
    obtain ⟨h1, h2⟩ := foldR_ok h hz its k (by omega)
    rw [foldR_succ (by omega)]
    exact ⟨h1.put _, by have := put_len_le h1 (its[k]'(by omega)); omega⟩
structure Roll (w : World) (r : RgR) (its : List It) (H : Nat) (A C : Obj) (k : Nat) (wr : World) (r' : RgR) : Prop where
  eq : r'.rg = foldR r.rg (its.take k)
  box : wr.heap[H + 1]? = some (.cells (cellsR r') 43 (0, 0))
  has : HasR wr r'
  av : ∀ b, b < w.heap.size + 3 → AvR r b → AvR r' b
  upd : Upd [] w wr
  a : wr.heap[H]? = some A
  c : wr.heap[H + 2]? = some C
theorem Roll.step {w : World} {r : RgR} {its : List It} {H : Nat} {A C : Obj} {k : Nat} {wr wz w4 : World} {r' r2 : RgR} (h : Roll w r its H A C k wr r') (hH : w.heap.size = H) (hr : HasR w r) (hk : k < its.length) (hu : Upd [] wr wz) (hn : Nxt wz r' (putR r'.rg its[k]).1 w4 r2) :
    Roll w r its H A C (k + 1) ((((w4.setCell ⟨H + 1, 0, none⟩ (.int .i64 r2.fr)).setCell ⟨H + 1, 1, none⟩ (.int .i64 r2.wd)).setCell ⟨H + 1, 2, none⟩ (.int .i64 r2.cu)).setCell ⟨H + 1, 3, none⟩ (.slice r2.bk.ad r2.bk.l.length r2.bk.cap)) r2 := by
  have hb := hn.upd.at (hu.at h.box (by simp)) (by simp)
  have h2 := upd_set4 w4 (H + 1) (.int .i64 r2.fr) (.int .i64 r2.wd) (.int .i64 r2.cu) (.slice r2.bk.ad r2.bk.l.length r2.bk.cap)
  have hlt : H + 2 < wr.heap.size := lt_block h.c
  have hsz := hu.size
  have hav : ∀ b, b < w.heap.size + 3 → AvR r b → AvR r2 b := fun b hb ha => hn.av b (by omega) (h.av b hb ha)
  refine ⟨by rw [hn.eq, h.eq, foldR_succ hk], stored4 hb _ _ _ _, hn.has.keep1 h2 (hav _ (by omega) (hr.avoids (by omega))), hav, ((h.upd.thn hu).thn hn.upd).new h2 (by omega), h2.at (hn.upd.at (hu.at h.a (by simp)) (by simp)) (by simp), h2.at (hn.upd.at (hu.at h.c (by simp)) (by simp)) (by simp)⟩
theorem row_oneR {w : World} {b : Nat} {r : RgR} {f : Nat × Nat} (h : w.heap[b]? = some (.cells #[.int .i64 r.fr, .int .i64 r.wd, .int .i64 r.cu, .slice r.bk.ad r.bk.l.length r.bk.cap] 43 f)) : Row LR w (some ⟨b, 0, none⟩) [r] := by
  intro j hj
  obtain rfl : j = 0 := by simp at hj; omega
  refine ⟨b, 0, rfl, fun t u hu => ?_⟩
  rw [cell_block h]
  simp only [List.getElem_cons_zero] at hu
  rw [show 0 + 0 * LR.k + t = t by omega]
  simpa [LR] using hu
theorem own_add {b0 : Nat} {w wq w1 : World} {l : LdR} {r r1 : RgR} {O : Obj} {va : Option Addr} {vc n : Nat} (hn : n = l.rs.l.length) (hO : Own b0 w l) (hb0 : b0 ≤ w.heap.size) (hU : Upd [] w wq) (h1 : HasR wq r1) (hav1 : ∀ b, b < w.heap.size → AvR r b → AvR r1 b)
    (hav : ∀ b, (b < b0 ∨ l.top.v.ownBlock = some b ∨ l.bot.v.ownBlock = some b ∨ l.rs.v.ownBlock = some b) → AvR r b)
    (hown : w1.ownsRow b0 43 4 (.slice va (n + 1) vc) (n + 1) (LR.flat (l.rs.l ++ [r1]))) (hgr : (wq.alloc O).grownBy w1 l.rs.v.ownBlock) (hwh : (Value.slice va (n + 1) vc).ownBlock = l.rs.v.ownBlock ∨ (Value.slice va (n + 1) vc).ownBlock = some (wq.alloc O).heap.size) (mv : Int) :
    Own b0 w1 ⟨l.ts, l.top, ⟨l.rs.l ++ [r1], va, vc⟩, l.bot, mv, l.cp⟩ ∧ Upd l.rs.v.ownBlock.toList w w1 := by
  have hUA : Upd [] w (wq.alloc O) := hU.alloc O
  have hU1 : Upd l.rs.v.ownBlock.toList (wq.alloc O) w1 := upd_grown hgr
  have hUF : Upd l.rs.v.ownBlock.toList w w1 := (hUA.mono (T := l.rs.v.ownBlock.toList) (by simp)).trans hU1 (fun x hx _ => hx)
  have hsz := hU.size
  have hlt : ∀ x, l.rs.v.ownBlock = some x → x < w.heap.size := fun x hx => (hO.rs.lt x hx).2
  have htl : ∀ k, l.top.v.ownBlock = some k → k < w.heap.size := fun x hx => (hO.top.lt x hx).2
  have hbl : ∀ k, l.bot.v.ownBlock = some k → k < w.heap.size := fun x hx => (hO.bot.lt x hx).2
  have hkr : ∀ (R : RgR), HasR (wq.alloc O) R → (∀ x, l.rs.v.ownBlock = some x → AvR R x) → HasR w1 R := fun R hR ha => by
    rcases hx : l.rs.v.ownBlock with _ | x
    · rw [hx] at hU1; exact hR.stay hU1
    · rw [hx] at hU1; exact hR.keep1 (b := x) hU1 (ha x hx)
  refine ⟨⟨hUF.row hO.top (own_apart hO.top hO.rs (by decide)), ?_, hUF.row hO.bot (own_apart hO.bot hO.rs (by decide)), fun R hR => ?_, fun k hk => ⟨(hO.avT k hk).1, fun R hR => ?_⟩, fun k hk => ⟨(hO.avB k hk).1, fun R hR => ?_⟩, fun k hk R hR => ?_⟩, hUF⟩
  · simp only [SlR.v, List.length_append, List.length_singleton, ← hn]; exact hown
  · rcases List.mem_append.1 hR with hR | hR
    · exact ⟨hkr R ((hO.rg R hR).1.stay hUA) (fun x hx => hO.avR x hx R hR), (hO.rg R hR).2⟩
    · obtain rfl : R = r1 := by simpa using hR
      exact ⟨hkr R (h1.stay ((Upd.refl _ _).alloc O)) (fun x hx => hav1 x (hlt x hx) (hav x (.inr (.inr (.inr hx))))), fun b hb => hav1 b (by omega) (hav b (.inl hb))⟩
  · rcases List.mem_append.1 hR with hR | hR
    · exact (hO.avT k hk).2 R hR
    · obtain rfl : R = r1 := by simpa using hR
      exact hav1 k (htl k hk) (hav k (.inr (.inl hk)))
  · rcases List.mem_append.1 hR with hR | hR
    · exact (hO.avB k hk).2 R hR
    · obtain rfl : R = r1 := by simpa using hR
      exact hav1 k (hbl k hk) (hav k (.inr (.inr (.inl hk))))
  · have hk2 : (Value.slice va (n + 1) vc).ownBlock = some k := by
      have e : (⟨l.rs.l ++ [r1], va, vc⟩ : SlR RgR).v = Value.slice va (n + 1) vc := by simp only [SlR.v, List.length_append, List.length_singleton, ← hn]
      rw [← e]; exact hk
    rcases hwh with hw | hw
    · rw [hk2] at hw
      have hx := hw.symm
      rcases List.mem_append.1 hR with hR | hR
      · exact hO.avR k hx R hR
      · obtain rfl : R = r1 := by simpa using hR
        exact hav1 k (hlt k hx) (hav k (.inr (.inr (.inr hx))))
    · rw [hk2] at hw
      simp only [Option.some.injEq] at hw
      rcases List.mem_append.1 hR with hR | hR
      · exact (hO.rg R hR).1.avoids (by rw [hw]; exact hUA.size)
      · obtain rfl : R = r1 := by simpa using hR
        exact h1.avoids (by rw [hw]; simp)
def Added (b0 : Nat) (w : World) (l : LdR) (r : RgR) (g : Ld) (e : Ending) (w' : World) : Prop := ∃ l', e = .returned (encD l') ∧ l'.ld = g ∧ Own b0 w' l' ∧ (∀ b, b < w.heap.size → (∀ x ∈ l.rs.l, AvR x b) → AvR r b → ∀ x ∈ l'.rs.l, AvR x b) ∧ Fr b0 w w' ∧ Upd l.rs.v.ownBlock.toList w w'
end Go.Proofs.Ytneodiemgemhfaa
