/- Contracts: slices.Clone of rungs and of buckets; a record's one cell set in a row. -/
/- The shared store as it lies in the heap: what it holds, what it owns, how it is kept and written. -/
/- Contracts: packed words and handles, the program's and the reference's. -/
/- Contracts: the store's small functions. -/
import Derived.Test.YtmfnfinbkdemkaaGreatGE
import Derived.Test.YtmfnfinbkdemkaaGreatUS
import Derived.Test.YtmfnfinbkdemkaaGreatIB
import Derived.Test.YtmfnfinbkdemkaaGreatW
import Derived.Test.YtmfnfinbkdemkaaGreatCI
import Derived.Test.YtmfnfinbkdemkaaGreatM
import Derived.Lib.Hide
namespace Go.Proofs.YtmfnfinbkdemkaaGreat
open Go.RowKit Go.Lib

theorem Held.own {α : Type} {L : Lay α} {te : TypeId} {w : World} {g cap base : Nat} {l : List α} (h : Held L te w g cap l) (hb : base ≤ g) (hm : cap ≤ maxLen) : w.ownsRow base te L.k (.slice (some ⟨g, 0, none⟩) l.length cap) l.length (L.flat l) := by
  obtain ⟨cur, h1, h2, h3⟩ := h.ex
  exact ⟨L.flat_length l, .inr ⟨g, cap, cur, rfl, hb, h1, h.le, hm, h2, h3⟩⟩
theorem own_cap {w : World} {base size n : Nat} {e : TypeId} {ad : Option Addr} {m c : Nat} {xs : List Value} (h : w.ownsRow base e size (.slice ad m c) n xs) : c ≤ maxLen := by
  rcases h.2 with ⟨h1, _⟩ | ⟨g, cap, cur, h1, _, _, _, h2, _⟩
  · simp only [Value.slice.injEq] at h1; obtain ⟨_, _, rfl⟩ := h1; exact Nat.zero_le _
  · simp only [Value.slice.injEq] at h1; obtain ⟨_, _, rfl⟩ := h1; exact h2
theorem Lay.flat_set1 {α : Type} (L : Lay α) : ∀ (l : List α) (j : Nat) (hj : j < l.length) (t : Nat) (u : Value) (x : α), t < L.k → L.enc x = (L.enc l[j]).set t u → L.flat (l.set j x) = (L.flat l).set (j * L.k + t) u
  | y :: l, 0, _, t, u, x, ht, hx => by
    simp only [List.getElem_cons_zero] at hx
    rw [List.set_cons_zero, L.flat_cons, L.flat_cons, Nat.zero_mul, Nat.zero_add, List.set_append, if_pos (by rw [L.len]; exact ht), hx]
  | y :: l, j + 1, hj, t, u, x, ht, hx => by
    have ih := L.flat_set1 l j (by simpa using hj) t u x ht (by simpa using hx)
    have e : (j + 1) * L.k + t = L.k + (j * L.k + t) := by rw [Nat.add_mul]; omega
    rw [List.set_cons_succ, L.flat_cons, L.flat_cons, e, List.set_append, if_neg (by rw [L.len]; omega), L.len, Nat.add_sub_cancel_left, ih]
theorem Held.set1 {α : Type} {L : Lay α} {te : TypeId} {w : World} {g cap : Nat} {l : List α} (h : Held L te w g cap l) (j : Nat) (hj : j < l.length) (t : Nat) (u : Value) (x : α) (ht : t < L.k) (hx : L.enc x = (L.enc l[j]).set t u) : Held L te (w.setCell ⟨g, j * L.k + t, none⟩ u) g cap (l.set j x) := by
  obtain ⟨cur, h1, h2, h3⟩ := h.ex
  refine ⟨⟨cur.setIfInBounds (j * L.k + t) u, setCell_block h1 u, by simp [h2], ?_⟩, by simpa using h.le⟩
  rw [List.length_set, L.flat_set1 l j hj t u x ht hx, ← h3]
  have e : (cur.setIfInBounds (j * L.k + t) u).toList = cur.toList.set (j * L.k + t) u := by simp
  rw [e, List.take_set]
set_option maxRecDepth 100000 in
set_option maxHeartbeats 2000000 in
theorem CloneR_has (a : Option Addr) (c : Nat) (xs : List RgR) (w : World) (ha : Row LR w a xs) (hnl : a = none → c = 0) (hx : xs.length ≤ 1000000) :
    Calls Tryz.prog 97 #[.slice a xs.length c] w fun e w' => ∃ va vc, e = .returned (.slice va xs.length vc) ∧ w'.ownsRow w.heap.size 93 4 (.slice va xs.length vc) xs.length (LR.flat xs) ∧ Upd [] w w' := by
  have q22 : ∀ (w : World) (a : Option Addr) (n c n' c' : Nat), (binOp .eql 66 (.slice a n c) (.slice none n' c')).run Tryz.prog w = .ok (.bool a.isNone) w := fun w a n c n' c' => Lib.run_eql_slice_nil w _ _ a n c n' c' Tryz.underlying66
  have HA := Lib.hid ha
  clear ha
  cases a with
  | none =>
    have hn : xs = [] := row_none HA.out
    subst hn
    clear HA
    go_enter Tryz.func97, Tryz.ntmps97
    go_wp2_with fail
    go_ret
    exact ⟨_, _, rfl, World.ownsRow_nil _ _ _ _, Upd.refl _ _⟩
  | some ad =>
    obtain ⟨n, hn⟩ : ∃ n, n = xs.length := ⟨_, rfl⟩
    rw [← hn] at hx ⊢
    have HN := Lib.hid hn
    have HR := Lib.hid (HA.out.stay ((Upd.refl [] w).alloc (.cells #[] 93)))
    clear hn HA
    go_enter Tryz.func97, Tryz.ntmps97
    go_wp2_with (at_builtin; refine app_row tyR rfl _ _ rfl w.heap.size (.slice (some ⟨w.heap.size, 0, none⟩) 0 0) 0 [] rfl (World.ownsRow_made w #[] 0 (Nat.le_refl _) (Nat.zero_le _) (by simp)) (some ad) n c xs rfl HN.out HR.out (fun e => by simp at e) (by omega) (by simp) ?_; intro v' w1 hown hgrow)
    rw [Nat.zero_add, List.nil_append] at hown
    have HU : Hid (Upd [] w w1) := ((Upd.refl [] w).alloc _).grown hgrow (fun k hk hl => by simp [Value.ownBlock] at hk; omega)
    obtain ⟨va, vc, rfl⟩ := row_shape hown
    have HO := Lib.hid hown
    clear hown hgrow
    go_wp2_with fail
    go_ret
    exact ⟨va, vc, rfl, HO.out, HU.out⟩
set_option maxRecDepth 100000 in
set_option maxHeartbeats 2000000 in
theorem CloneB_has (a : Option Addr) (c : Nat) (xs : List (SlR It)) (w : World) (ha : Row LB w a xs) (hnl : a = none → c = 0) (hx : xs.length ≤ 1000000) :
    Calls Tryz.prog 98 #[.slice a xs.length c] w fun e w' => ∃ va vc, e = .returned (.slice va xs.length vc) ∧ w'.ownsRow w.heap.size 47 1 (.slice va xs.length vc) xs.length (LB.flat xs) ∧ Upd [] w w' := by
  have q22 : ∀ (w : World) (a : Option Addr) (n c n' c' : Nat), (binOp .eql 91 (.slice a n c) (.slice none n' c')).run Tryz.prog w = .ok (.bool a.isNone) w := fun w a n c n' c' => Lib.run_eql_slice_nil w _ _ a n c n' c' Tryz.underlying91
  have HA := Lib.hid ha
  clear ha
  cases a with
  | none =>
    have hn : xs = [] := row_none HA.out
    subst hn
    clear HA
    go_enter Tryz.func98, Tryz.ntmps98
    go_wp2_with fail
    go_ret
    exact ⟨_, _, rfl, World.ownsRow_nil _ _ _ _, Upd.refl _ _⟩
  | some ad =>
    obtain ⟨n, hn⟩ : ∃ n, n = xs.length := ⟨_, rfl⟩
    rw [← hn] at hx ⊢
    have HN := Lib.hid hn
    have HR := Lib.hid (HA.out.stay ((Upd.refl [] w).alloc (.cells #[] 47)))
    clear hn HA
    go_enter Tryz.func98, Tryz.ntmps98
    go_wp2_with (at_builtin; refine app_row tyB rfl _ _ rfl w.heap.size (.slice (some ⟨w.heap.size, 0, none⟩) 0 0) 0 [] rfl (World.ownsRow_made w #[] 0 (Nat.le_refl _) (Nat.zero_le _) (by simp)) (some ad) n c xs rfl HN.out HR.out (fun e => by simp at e) (by omega) (by simp) ?_; intro v' w1 hown hgrow)
    rw [Nat.zero_add, List.nil_append] at hown
    have HU : Hid (Upd [] w w1) := ((Upd.refl [] w).alloc _).grown hgrow (fun k hk hl => by simp [Value.ownBlock] at hk; omega)
    obtain ⟨va, vc, rfl⟩ := row_shape hown
    have HO := Lib.hid hown
    clear hown hgrow
    go_wp2_with fail
    go_ret
    exact ⟨va, vc, rfl, HO.out, HU.out⟩
end Go.Proofs.YtmfnfinbkdemkaaGreat
namespace Go.Proofs.YtmfnfinbkdemkaaGreat
open Go.RowKit Go.Lib
open A5

theorem HasS.keepL {α : Type} {L : Lay α} {S : List Nat} {w w' : World} {s : SlR α} (h : HasS L w s) (hu : Upd S w w') (ha : ∀ b ∈ S, AvS s b) : HasS L w' s := ⟨h.row.keep hu (fun hn a e hm => ha _ hm hn a e rfl), h.le, h.nn⟩
theorem HasR.keepL {S : List Nat} {w w' : World} {r : RgR} (h : HasR w r) (hu : Upd S w w') (ha : ∀ b ∈ S, AvR r b) : HasR w' r := ⟨h.bk.keepL hu (fun b hb => (ha b hb).bk), fun s hs => (h.its s hs).keepL hu (fun b hb => (ha b hb).its s hs)⟩
theorem HasD.keepL {S : List Nat} {w w' : World} {l : LdR} (h : HasD w l) (hu : Upd S w w') (ha : ∀ b ∈ S, AvD l b) : HasD w' l :=
  ⟨h.top.keepL hu (fun b hb => (ha b hb).top), h.rs.keepL hu (fun b hb => (ha b hb).rs), fun r hr => (h.rg r hr).keepL hu (fun b hb => (ha b hb).rg r hr), h.bot.keepL hu (fun b hb => (ha b hb).bot)⟩

/-- What a store holds, as it lies: the memory's words, the bare arena, the queue, the memory's rest. -/
structure Rw where
  ws : List Int
  ar : Ar
  q : Ld
  ms : List (Bool × Int)
  log : List Acc
  v : Int
def Rw.mem (r : Rw) : St := ⟨r.ws, r.ms, r.log, r.v⟩
/-- Where a store lies. -/
structure At where
  p : Nat
  m : Nat
  bw : Nat
  bm : Nat
  sg : Nat
  sc : Nat
def foot (d : At) (FM : List Nat) (iv : Value) : List Nat := d.p :: d.sg :: (iv.ownBlock.toList ++ FM)
def cellsT (d : At) (r : Rw) (iv : Value) (l : LdR) : Array Value :=
  #[.pointer (some ⟨d.m, 0, none⟩), .slice (some ⟨d.sg, 0, none⟩) r.ar.sl.length d.sc, iv, .int .i64 r.ar.nx, .int .i64 l.ts, .slice l.top.ad l.top.l.length l.top.cap, .slice l.rs.ad l.rs.l.length l.rs.cap, .slice l.bot.ad l.bot.l.length l.bot.cap, .int .i64 l.mv, .int .i64 l.cp]
structure InT (d : At) (FM : List Nat) (iv : Value) (l : LdR) (r : Rw) (w : World) : Prop where
  mem : Mem FM d.m d.bw d.bm r.mem w
  box : w.heap[d.p]? = some (.cells (cellsT d r iv l) 70 (0, 0))
  sl : HeldS w d.sg d.sc r.ar.sl
  id : w.ownsRow 0 3 1 iv r.ar.id.length (r.ar.id.map (Value.int .i64))
  eq : l.ld = r.q
  has : HasD w l
  av : ∀ b ∈ foot d FM iv, AvD l b
  ap : ∀ b ∈ d.p :: d.sg :: iv.ownBlock.toList, b ∉ FM
/-- The store at d holds r; F: all the blocks that it writes. -/
def InR (F : List Nat) (d : At) (r : Rw) (w : World) : Prop := ∃ FM iv l, F = foot d FM iv ∧ InT d FM iv l r w

theorem mem_foot {d : At} {FM : List Nat} {iv : Value} {b : Nat} : b ∈ foot d FM iv ↔ b = d.p ∨ b = d.sg ∨ iv.ownBlock = some b ∨ b ∈ FM := by
  unfold foot
  simp only [List.mem_cons, List.mem_append, Option.mem_toList]
theorem mem_own {d : At} {iv : Value} {b : Nat} : b ∈ d.p :: d.sg :: iv.ownBlock.toList ↔ b = d.p ∨ b = d.sg ∨ iv.ownBlock = some b := by
  simp only [List.mem_cons, Option.mem_toList]
section
variable {d : At} {FM : List Nat} {iv : Value} {l : LdR} {r : Rw} {w : World}
theorem InT.lt (h : InT d FM iv l r w) : ∀ b ∈ foot d FM iv, b < w.heap.size := fun b hb => by
  rcases mem_foot.1 hb with rfl | rfl | hb | hb
  · exact lt_block h.box
  · exact h.sl.lt
  · exact (h.id.lt b hb).2
  · exact h.mem.lt b hb
theorem InT.sg_ne (h : InT d FM iv l r w) : d.sg ≠ d.p := by
  obtain ⟨cur, hg, _⟩ := h.sl.ex
  exact ne_block hg h.box (by decide)
theorem InT.id_p (h : InT d FM iv l r w) : iv.ownBlock ≠ some d.p := ne_own h.box h.id (by decide)
theorem InT.id_sg (h : InT d FM iv l r w) : iv.ownBlock ≠ some d.sg := by
  obtain ⟨cur, hg, _⟩ := h.sl.ex
  exact ne_own hg h.id (by decide)
theorem InT.fm_p (h : InT d FM iv l r w) : d.p ∉ FM := h.ap _ (by simp)
theorem InT.fm_sg (h : InT d FM iv l r w) : d.sg ∉ FM := h.ap _ (by simp)
theorem InT.stay (h : InT d FM iv l r w) {w' : World} (hu : Upd [] w w') : InT d FM iv l r w' :=
  ⟨h.mem.stay hu, hu.at h.box (by simp), h.sl.keep hu (by simp), hu.row h.id (by simp), h.eq, h.has.stay hu, h.av, h.ap⟩
/-- Only other blocks turned. -/
theorem InT.keep (h : InT d FM iv l r w) {S : List Nat} {w' : World} (hu : Upd S w w') (hf : ∀ b ∈ foot d FM iv, b ∉ S) (hq : ∀ b ∈ S, AvD l b) : InT d FM iv l r w' :=
  ⟨h.mem.keep hu (fun b hb => hf b (mem_foot.2 (.inr (.inr (.inr hb))))), hu.at h.box (hf _ (mem_foot.2 (.inl rfl))), h.sl.keep hu (hf _ (mem_foot.2 (.inr (.inl rfl)))), hu.row h.id (fun k hk => hf k (mem_foot.2 (.inr (.inr (.inl hk))))), h.eq, h.has.keepL hu hq, h.av, h.ap⟩
/-- The memory went on. -/
theorem InT.memory (h : InT d FM iv l r w) {FM' : List Nat} {r' : Rw} {w' : World} (hm : Mem FM' d.m d.bw d.bm r'.mem w') (hg : Goes FM FM' w w') (ha : r'.ar = r.ar) (hq : r'.q = r.q) :
    InT d FM' iv l r' w' ∧ Goes (foot d FM iv) (foot d FM' iv) w w' := by
  have hU := hg.1
  have hlt := h.lt
  refine ⟨⟨hm, ?_, ?_, ?_, h.eq.trans hq.symm, h.has.keepL hU (fun b hb => h.av b (mem_foot.2 (.inr (.inr (.inr hb))))), ?_, ?_⟩, ?_, ?_⟩
  · have := hU.at h.box h.fm_p
    unfold cellsT at this ⊢
    rw [ha]; exact this
  · rw [ha]; exact h.sl.keep hU h.fm_sg
  · rw [ha]; exact hU.row h.id (fun k hk => h.ap k (mem_own.2 (.inr (.inr hk))))
  · intro b hb
    rcases mem_foot.1 hb with e | e | e | e
    · exact h.av b (mem_foot.2 (.inl e))
    · exact h.av b (mem_foot.2 (.inr (.inl e)))
    · exact h.av b (mem_foot.2 (.inr (.inr (.inl e))))
    · rcases hg.2 b e with e | e
      · exact h.av b (mem_foot.2 (.inr (.inr (.inr e))))
      · exact h.has.avoids e
  · intro b hb hm'
    have hbl := hlt b (mem_foot.2 (by rcases mem_own.1 hb with e | e | e; exact .inl e; exact .inr (.inl e); exact .inr (.inr (.inl e))))
    rcases hg.2 b hm' with e | e
    · exact h.ap b hb e
    · omega
  · exact hU.mono (fun b hb => mem_foot.2 (.inr (.inr (.inr hb))))
  · intro b hb
    rcases mem_foot.1 hb with e | e | e | e
    · exact .inl (mem_foot.2 (.inl e))
    · exact .inl (mem_foot.2 (.inr (.inl e)))
    · exact .inl (mem_foot.2 (.inr (.inr (.inl e))))
    · exact (hg.2 b e).imp (fun e => mem_foot.2 (.inr (.inr (.inr e)))) (fun e => e)
/-- The box is written: whatever of it, with new contents that fit. -/
theorem InT.boxed (h : InT d FM iv l r w) {iv' : Value} {l' : LdR} {r' : Rw} {w1 w' : World} (hu1 : Upd (foot d FM iv) w w1) (hm1 : Mem FM d.m d.bw d.bm r.mem w1) (hs1 : HeldS w1 d.sg d.sc r.ar.sl) (hu : Upd [d.p] w1 w') (hb : w'.heap[d.p]? = some (.cells (cellsT d r' iv' l') 70 (0, 0)))
    (hmm : r'.mem = r.mem) (hsl : r'.ar.sl = r.ar.sl) (hid : w1.ownsRow 0 3 1 iv' r'.ar.id.length (r'.ar.id.map (Value.int .i64))) (hin : iv'.ownBlock ≠ some d.p) (hio : ∀ k, iv'.ownBlock = some k → iv.ownBlock = some k ∨ w.heap.size ≤ k)
    (heq : l'.ld = r'.q) (hl : HasD w1 l') (hav : ∀ b ∈ foot d FM iv', AvD l' b) : InT d FM iv' l' r' w' ∧ Goes (foot d FM iv) (foot d FM iv') w w' := by
  have hne : d.sg ≠ d.p := h.sg_ne
  refine ⟨⟨?_, hb, ?_, ?_, heq, hl.keepL hu (fun b hb => ?_), hav, ?_⟩, ?_, ?_⟩
  · rw [hmm]; exact hm1.keep hu (fun b hb => by simp only [List.mem_singleton]; rintro rfl; exact h.fm_p hb)
  · rw [hsl]; exact hs1.keep hu (by simpa using hne)
  · exact hu.row hid (fun k hk => by simp only [List.mem_singleton]; rintro rfl; exact hin hk)
  · exact hav b (mem_foot.2 (.inl (by simpa using hb)))
  · intro b hb hm'
    rcases mem_own.1 hb with e | e | e
    · exact h.ap b (mem_own.2 (.inl e)) hm'
    · exact h.ap b (mem_own.2 (.inr (.inl e))) hm'
    · rcases hio b e with e | e
      · exact h.ap b (mem_own.2 (.inr (.inr e))) hm'
      · have := h.mem.lt b hm'; omega
  · exact hu1.trans hu (fun b hb _ => mem_foot.2 (.inl (by simpa using hb)))
  · intro b hb
    rcases mem_foot.1 hb with e | e | e | e
    · exact .inl (mem_foot.2 (.inl e))
    · exact .inl (mem_foot.2 (.inr (.inl e)))
    · exact (hio b e).imp (fun e => mem_foot.2 (.inr (.inr (.inl e)))) (fun e => e)
    · exact .inl (mem_foot.2 (.inr (.inr (.inr e))))
/-- A slot is written. -/
theorem InT.slot (h : InT d FM iv l r w) (i : Nat) (hi : i < r.ar.sl.length) (s : Sl) {r' : Rw} (hr : r' = { r with ar := ⟨r.ar.sl.set i s, r.ar.id, r.ar.nx⟩ }) :
    InT d FM iv l r' ((((w.setCell ⟨d.sg, i * 4, none⟩ (.int .i64 s.g)).setCell ⟨d.sg, i * 4 + 1, none⟩ (.int .i64 s.s)).setCell ⟨d.sg, i * 4 + 2, none⟩ (.int .i64 s.t)).setCell ⟨d.sg, i * 4 + 3, none⟩ (.int .i64 s.q)) ∧
      Upd [d.sg] w ((((w.setCell ⟨d.sg, i * 4, none⟩ (.int .i64 s.g)).setCell ⟨d.sg, i * 4 + 1, none⟩ (.int .i64 s.s)).setCell ⟨d.sg, i * 4 + 2, none⟩ (.int .i64 s.t)).setCell ⟨d.sg, i * 4 + 3, none⟩ (.int .i64 s.q)) := by
  subst hr
  have hu := A5.upd_set4 (Upd.refl [d.sg] w) (g := d.sg) (o := i * 4) (fun _ => by simp) (.int .i64 s.g) (.int .i64 s.s) (.int .i64 s.t) (.int .i64 s.q)
  have hs := h.sl.set i hi s
  generalize (((w.setCell ⟨d.sg, i * 4, none⟩ (.int .i64 s.g)).setCell ⟨d.sg, i * 4 + 1, none⟩ (.int .i64 s.s)).setCell ⟨d.sg, i * 4 + 2, none⟩ (.int .i64 s.t)).setCell ⟨d.sg, i * 4 + 3, none⟩ (.int .i64 s.q) = w' at *
  refine ⟨⟨h.mem.keep hu (fun b hb => by simp only [List.mem_singleton]; rintro rfl; exact h.fm_sg hb), ?_, hs, hu.row h.id (fun k hk => by simp only [List.mem_singleton]; rintro rfl; exact h.id_sg hk), h.eq, h.has.keepL hu (fun b hb => h.av b (mem_foot.2 (.inr (.inl (by simpa using hb))))), h.av, h.ap⟩, hu⟩
  have := hu.at h.box (by simpa using h.sg_ne.symm)
  unfold cellsT at this ⊢
  simpa using this
end
theorem InR.lt {F : List Nat} {d : At} {r : Rw} {w : World} (h : InR F d r w) : ∀ b ∈ F, b < w.heap.size := by
  obtain ⟨FM, iv, l, rfl, h⟩ := h
  exact h.lt
theorem InR.stay {F : List Nat} {d : At} {r : Rw} {w w' : World} (h : InR F d r w) (hu : Upd [] w w') : InR F d r w' := by
  obtain ⟨FM, iv, l, rfl, h⟩ := h
  exact ⟨FM, iv, l, rfl, h.stay hu⟩
theorem cells10 {w : World} {b : Nat} {v0 v1 v2 v3 v4 v5 v6 v7 v8 v9 : Value} {t : TypeId} {f : Nat × Nat} (h : w.heap[b]? = some (.cells #[v0, v1, v2, v3, v4, v5, v6, v7, v8, v9] t f)) :
    w.cell? ⟨b, 0, none⟩ = some v0 ∧ w.cell? ⟨b, 1, none⟩ = some v1 ∧ w.cell? ⟨b, 2, none⟩ = some v2 ∧ w.cell? ⟨b, 3, none⟩ = some v3 ∧ w.cell? ⟨b, 4, none⟩ = some v4 ∧ w.cell? ⟨b, 5, none⟩ = some v5 ∧ w.cell? ⟨b, 6, none⟩ = some v6 ∧ w.cell? ⟨b, 7, none⟩ = some v7 ∧ w.cell? ⟨b, 8, none⟩ = some v8 ∧ w.cell? ⟨b, 9, none⟩ = some v9 :=
  ⟨cell_block h 0, cell_block h 1, cell_block h 2, cell_block h 3, cell_block h 4, cell_block h 5, cell_block h 6, cell_block h 7, cell_block h 8, cell_block h 9⟩
theorem free10 {w : World} {b : Nat} {c : Array Value} {t : TypeId} (h : w.heap[b]? = some (.cells c t (0, 0))) :
    w.frozen? ⟨b, 2, none⟩ = false ∧ w.frozen? ⟨b, 3, none⟩ = false ∧ w.frozen? ⟨b, 4, none⟩ = false ∧ w.frozen? ⟨b, 5, none⟩ = false ∧ w.frozen? ⟨b, 6, none⟩ = false ∧ w.frozen? ⟨b, 7, none⟩ = false ∧ w.frozen? ⟨b, 8, none⟩ = false ∧ w.frozen? ⟨b, 9, none⟩ = false :=
  ⟨free_block h 2, free_block h 3, free_block h 4, free_block h 5, free_block h 6, free_block h 7, free_block h 8, free_block h 9⟩
/-- The box's cells, in any world where nothing old turned. -/
theorem InT.c {d : At} {FM : List Nat} {iv : Value} {l : LdR} {r : Rw} {w : World} (h : InT d FM iv l r w) {w' : World} (hu : Upd [] w w') : w'.heap[d.p]? = some (.cells (cellsT d r iv l) 70 (0, 0)) := hu.at h.box (by simp)
end Go.Proofs.YtmfnfinbkdemkaaGreat
namespace Go.Proofs.YtmfnfinbkdemkaaGreat.A4
open Go.RowKit Go.Lib

theorem ret_int {a b : Int} (h : a = b) : Ending.returned (.int .i64 a) = .returned (.int .i64 b) := by rw [h]
theorem ret_bool {a b : Bool} (h : a = b) : Ending.returned (.bool a) = .returned (.bool b) := by rw [h]

set_option maxHeartbeats 400000 in
theorem Word_in (g s : Int) (hg : 0 ≤ g ∧ g ≤ 1099511627776) (hs : 0 ≤ s ∧ s < 4) (w : World) :
    Calls Tryz.prog 42 #[.int .i64 g, .int .i64 s] w fun e w' => e = .returned (.int .i64 (4 * g + s)) ∧ w = w' := by
  go_enter Tryz.func42, Tryz.ntmps42
  go_wp2
  go_ret
  exact ⟨ret_int (by omega), rfl⟩
set_option maxHeartbeats 400000 in
theorem RWord_in (g s : Int) (hg : 0 ≤ g ∧ g ≤ 1099511627776) (hs : 0 ≤ s ∧ s < 4) (w : World) :
    Calls Tryz.prog 25 #[.int .i64 g, .int .i64 s] w fun e w' => e = .returned (.int .i64 (4 * g + s)) ∧ w = w' := by
  go_enter Tryz.func25, Tryz.ntmps25
  go_wp2
  go_ret
  exact ⟨ret_int (by omega), rfl⟩
set_option maxHeartbeats 400000 in
theorem Make_in (i g : Int) (hi : 0 ≤ i ∧ i < 64) (hg : 0 ≤ g ∧ g ≤ 1099511627776) (w : World) :
    Calls Tryz.prog 43 #[.int .i64 i, .int .i64 g] w fun e w' => e = .returned (.int .i64 (64 * g + i)) ∧ w = w' := by
  go_enter Tryz.func43, Tryz.ntmps43
  go_wp2
  go_ret
  exact ⟨ret_int (by omega), rfl⟩
set_option maxHeartbeats 400000 in
theorem wgen_in (x : Int) (h : 0 ≤ x ∧ x ≤ 70368744177727) (w : World) :
    Calls Tryz.prog 71 #[.int .i64 x] w fun e w' => e = .returned (.int .i64 (x / 4)) ∧ w = w' := by
  have hd : x.tdiv 4 = x / 4 := Int.tdiv_eq_ediv_of_nonneg h.1
  go_enter Tryz.func71, Tryz.ntmps71
  go_wp2
  go_ret
  exact ⟨ret_int (by omega), rfl⟩
set_option maxHeartbeats 400000 in
theorem wstate_in (x : Int) (h : 0 ≤ x ∧ x ≤ 70368744177727) (w : World) :
    Calls Tryz.prog 72 #[.int .i64 x] w fun e w' => e = .returned (.int .i64 (x % 4)) ∧ w = w' := by
  have hd : x.tmod 4 = x % 4 := Int.tmod_eq_emod_of_nonneg h.1
  go_enter Tryz.func72, Tryz.ntmps72
  go_wp2
  go_ret
  exact ⟨ret_int (by omega), rfl⟩
set_option maxHeartbeats 400000 in
theorem RGen_in (x : Int) (h : 0 ≤ x ∧ x ≤ 70368744177727) (w : World) :
    Calls Tryz.prog 33 #[.int .i64 x] w fun e w' => e = .returned (.int .i64 (x / 4)) ∧ w = w' := by
  have hd : x.tdiv 4 = x / 4 := Int.tdiv_eq_ediv_of_nonneg h.1
  go_enter Tryz.func33, Tryz.ntmps33
  go_wp2
  go_ret
  exact ⟨ret_int (by omega), rfl⟩
def validB (h : Int) : Bool := decide (0 ≤ h) && decide (h ≤ 70368744177727)
theorem validB_yes {h : Int} : validB h = true ↔ 0 ≤ h ∧ h ≤ 70368744177727 := by simp [validB]
theorem validB_no {h : Int} : validB h = false ↔ ¬ (0 ≤ h ∧ h ≤ 70368744177727) := by rw [← validB_yes]; simp
set_option maxHeartbeats 400000 in
theorem RValid_any (h : Int) (w : World) :
    Calls Tryz.prog 56 #[.int .i64 h] w fun e w' => e = .returned (.bool (validB h)) ∧ w = w' := by
  by_cases h0 : 0 ≤ h
  · have d0 : decide (0 ≤ h) = true := by simpa using h0
    by_cases h1 : h ≤ 70368744177727
    · have d1 : decide (h ≤ 70368744177727) = true := by simpa using h1
      go_enter Tryz.func56, Tryz.ntmps56
      go_wp2
      go_ret
      exact ⟨ret_bool (by simp [validB, h0, h1]), rfl⟩
    · have d1 : decide (h ≤ 70368744177727) = false := by simpa using h1
      go_enter Tryz.func56, Tryz.ntmps56
      go_wp2
      go_ret
      exact ⟨ret_bool (by simp [validB, h1]), rfl⟩
  · have d0 : decide (0 ≤ h) = false := by simpa using h0
    go_enter Tryz.func56, Tryz.ntmps56
    go_wp2
    go_ret
    exact ⟨ret_bool (by rw [validB, d0]; rfl), rfl⟩
end Go.Proofs.YtmfnfinbkdemkaaGreat.A4
namespace Go.Proofs.YtmfnfinbkdemkaaGreat
open Go.RowKit Go.Lib
open A5

set_option maxHeartbeats 400000 in
theorem orNone_in (p : Nat) (w : World) : Calls Tryz.prog 34 #[.pointer (some ⟨p, 0, none⟩)] w fun e w' => e = .returned (.pointer (some ⟨p, 0, none⟩)) ∧ w = w' := by
  go_enter Tryz.func34, Tryz.ntmps34
  go_wp2_with fail
  go_ret
  exact ⟨rfl, rfl⟩
set_option maxHeartbeats 400000 in
theorem hGen_in (x : Int) (h : 0 ≤ x ∧ x ≤ 70368744177727) (w : World) : Calls Tryz.prog 39 #[.int .i64 x] w fun e w' => e = .returned (.int .i64 (x / 4)) ∧ w = w' := by
  have HC := Lib.hid (A4.wgen_in x h)
  go_enter Tryz.func39, Tryz.ntmps39
  go_wp2_with fail
  refine (HC.out _).mono ?_
  rintro e w' ⟨rfl, rfl⟩
  go_wp2_with fail
  go_ret
  exact ⟨rfl, rfl⟩
set_option maxHeartbeats 400000 in
theorem hState_in (x : Int) (h : 0 ≤ x ∧ x ≤ 70368744177727) (w : World) : Calls Tryz.prog 46 #[.int .i64 x] w fun e w' => e = .returned (.int .i64 (x % 4)) ∧ w = w' := by
  have HC := Lib.hid (A4.wstate_in x h)
  go_enter Tryz.func46, Tryz.ntmps46
  go_wp2_with fail
  refine (HC.out _).mono ?_
  rintro e w' ⟨rfl, rfl⟩
  go_wp2_with fail
  go_ret
  exact ⟨rfl, rfl⟩

/-- How many of the mutexes the thread does not hold. -/
def missK (ms : List (Bool × Int)) (t : Int) (xs : List Nat) : Nat := (xs.filter (fun k => !decide (ms[k]? = some (true, t)))).length
theorem missK_le (ms : List (Bool × Int)) (t : Int) (xs : List Nat) : missK ms t xs ≤ xs.length := List.length_filter_le _ _
theorem missK_succ (ms : List (Bool × Int)) (t : Int) (xs : List Nat) (k : Nat) (h : k < xs.length) : missK ms t (xs.take (k + 1)) = missK ms t (xs.take k) + missK ms t [xs[k]] := by
  unfold missK
  rw [List.take_succ_eq_append_getElem h, List.filter_append, List.length_append]
theorem missK_held {ms : List (Bool × Int)} {t : Int} {xs : List Nat} (h : ∀ k ∈ xs, ms[k]? = some (true, t)) : missK ms t xs = 0 := by
  unfold missK
  rw [List.length_eq_zero_iff, List.filter_eq_nil_iff]
  intro k hk
  simp [h k hk]
def St.more (s : St) (n : Nat) : St := ⟨s.ws, s.ms, s.log, s.v + n⟩
/-- Room for what a call does. -/
structure Sm (s : St) : Prop where
  ws : s.ws.length ≤ 200
  ms : s.ms.length = 4
  log : s.log.length ≤ 50000
  v0 : 0 ≤ s.v
  v1 : s.v ≤ 50000
theorem Sm.small {s : St} (h : Sm s) {n : Nat} (hn : n ≤ 50000) : (s.more n).Small := ⟨by have := h.ws; simp only [St.more]; omega, by have := h.ms; simp only [St.more]; omega, by have := h.log; simp only [St.more]; omega, by have := h.v0; simp only [St.more]; omega, by have := h.v1; simp only [St.more]; omega⟩
theorem St.more_zero (s : St) : s.more 0 = s := by simp [St.more]
theorem Touch_one {FM : List Nat} {m bw bm : Nat} {s : St} {w : World} (h : Mem FM m bw bm s w) (hs : s.Small) (t : Int) (k : Nat) (hk : k < s.ms.length) :
    Calls Tryz.prog 64 #[.pointer (some ⟨m, 0, none⟩), .int .i64 t, .int .i64 k] w fun e w' => ∃ b, e = .returned (.bool b) ∧ Mem FM m bw bm (s.more (missK s.ms t [k])) w' ∧ Upd FM w w' := by
  obtain ⟨⟨b, u⟩, ho⟩ : ∃ y, s.ms[k] = y := ⟨_, rfl⟩
  by_cases hh : b = true ∧ u = t
  · obtain ⟨rfl, rfl⟩ := hh
    refine (Touch_yes h hs u k hk ho).mono ?_
    rintro e w' ⟨rfl, hu⟩
    have e0 : missK s.ms u [k] = 0 := missK_held (by simp [hk, ho])
    exact ⟨true, rfl, by rw [e0, St.more_zero]; exact h.stay hu, hu.mono (by simp)⟩
  · have hf : (s.ms[k].1 && (s.ms[k].2 == t)) = false := by
      rw [ho]
      simp only [Bool.and_eq_false_imp, beq_eq_false_iff_ne]
      exact fun h1 h2 => hh ⟨h1, h2⟩
    refine (Touch_no h hs t k hk hf).mono ?_
    rintro e w' ⟨rfl, hm, hu⟩
    have e1 : missK s.ms t [k] = 1 := by
      unfold missK
      rw [List.filter_cons_of_pos]
      · rfl
      · simp only [hk, List.getElem?_eq_getElem, ho, Option.some.injEq, Prod.mk.injEq, Bool.not_eq_true', decide_eq_false_iff_not]
        exact hh
    exact ⟨false, rfl, by rw [e1]; exact hm, hu⟩
set_option maxHeartbeats 1000000 in
theorem declare_has {FM : List Nat} {m bw bm : Nat} {s : St} {w : World} (h : Mem FM m bw bm s w) (hs : Sm s) (t : Int) (b : Nat) (xs : List Nat) (hx : w.heap[b]? = some (.cells (xs.map (fun k : Nat => Value.int .i64 k)).toArray 3 (0, 0))) (hb : b ∉ FM) (hk : ∀ k ∈ xs, k < 4) (hn : xs.length ≤ 4) :
    Calls Tryz.prog 35 #[.agg #[.pointer (some ⟨m, 0, none⟩)], .int .i64 t, .slice (some ⟨b, 0, none⟩) xs.length xs.length] w fun e w' => e = .returned (.tuple #[]) ∧ Mem FM m bw bm (s.more (missK s.ms t xs)) w' ∧ Upd FM w w' := by
  obtain ⟨n, hnn⟩ : ∃ n, n = xs.length := ⟨_, rfl⟩
  have HN := Lib.hid hnn
  have HFIN : Hid (missK s.ms t (xs.take n) = missK s.ms t xs) := by show _ = _; rw [hnn, List.take_length]
  rw [← hnn] at hn ⊢
  have HM := Lib.hid h; have HS := Lib.hid hs; have HX := Lib.hid hx; have HB := Lib.hid hb; have HK := Lib.hid hk
  clear h hs hx hb hk hnn
  go_enter Tryz.func35, Tryz.ntmps35
  go_upto_region 1 with (fail)
  have HBX : Hid ((w.alloc (.cells #[.pointer (some ⟨m, 0, none⟩)] 65)).heap[w.heap.size]? = _) := heap_alloc1 _ _
  have HU : Hid (Upd [] w (w.alloc (.cells #[.pointer (some ⟨m, 0, none⟩)] 65))) := (Upd.refl [] w).alloc _
  have HNF : Hid (w.heap.size ∉ FM) := fun hm => by have := HM.out.lt _ hm; omega
  generalize w.alloc (.cells #[.pointer (some ⟨m, 0, none⟩)] 65) = W at *
  generalize w.heap.size = H at *
  have HM1 := Lib.hid (HM.out.stay HU.out)
  have HX1 := Lib.hid (HU.out.at HX.out (by simp))
  go_wp2_with fail
  go_loopg [10] n (fun gk vi wr => ∃ k : Nat, vi = .int .i64 k ∧ k + gk = n ∧ Hid (Mem FM m bw bm (s.more (missK s.ms t (xs.take k))) wr) ∧ Hid (Upd FM W wr))
  case atStart => exact ⟨0, rfl, by omega, (by show Mem _ _ _ _ _ _; rw [show missK s.ms t (xs.take 0) = 0 from rfl, St.more_zero]; exact HM1.out), Upd.refl _ _⟩
  case round =>
    obtain ⟨k, rfl, hkg, HMR, HUR⟩ := hrel
    by_cases hlt : k < n
    · have hltz : (k : Int) < (n : Int) := by omega
      have hk1 : k < xs.length := by have := HN.out; omega
      have c0 := cell_block (HUR.out.at HX1.out HB.out) k
      simp only [List.getElem?_toArray, List.getElem?_map, List.getElem?_eq_getElem hk1, Option.map_some] at c0
      have c1 := cell_block (HUR.out.at HBX.out HNF.out) 0
      simp only [List.getElem?_toArray, List.getElem?_cons_zero] at c1
      have hx4 := HK.out xs[k] (List.getElem_mem hk1)
      have HMS := Lib.hid (missK_succ s.ms t xs k hk1)
      have hle := missK_le s.ms t (xs.take k)
      rw [List.length_take] at hle
      have HTC := Lib.hid (Touch_one HMR.out (HS.out.small (by omega)) t xs[k] (by have := HS.out.ms; simp only [St.more]; omega))
      clear hle hx4
      generalize xs[k] = y at *
      go_wp2_with fail
      refine HTC.out.mono ?_
      rintro e w1 ⟨b1, rfl, hm1, hu1⟩
      have HM2 : Hid (Mem FM m bw bm (s.more (missK s.ms t (xs.take (k + 1)))) w1) := by
        show Mem _ _ _ _ _ _
        rw [HMS.out]
        have : s.more (missK s.ms t (xs.take k) + missK s.ms t [y]) = (s.more (missK s.ms t (xs.take k))).more (missK (s.more (missK s.ms t (xs.take k))).ms t [y]) := by
          simp only [St.more, St.mk.injEq, true_and, Int.natCast_add]; omega
        rw [this]; exact hm1
      have HU2 : Hid (Upd FM W w1) := HUR.out.trans hu1 (fun x hx _ => hx)
      clear hm1 hu1
      go_wp2_with fail
      go_roundg (gk - 1)
      case measure => omega
      case rel => exact ⟨k + 1, by go_num, by omega, HM2, HU2⟩
    · have hltz : ¬ (k : Int) < (n : Int) := by omega
      obtain rfl : k = n := by omega
      go_wp2_with fail
      go_end0
      exact ⟨rfl, by rw [← HFIN.out]; exact HMR.out, (HU.out.mono (by simp)).trans HUR.out (fun x hx _ => hx)⟩
end Go.Proofs.YtmfnfinbkdemkaaGreat
