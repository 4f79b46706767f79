/- append to a row of the call's own: the new row's block is the old one or new. -/
/- Frames of the program's queue; sorting a row in place. -/
import Derived.Test.YtpabapjodcafkaaGreatGC
import Derived.Deep.AppendSrc
import Derived.Test.YtpabapjodcafkaaGreatPB
import Derived.Test.YtpabapjodcafkaaGreatPA
import Derived.Test.YtpabapjodcafkaaGreatPO
namespace Go.Proofs.YtpabapjodcafkaaGreat
open Go.RowKit Go.Lib
variable {α : Type}
theorem own_box {w w' : World} {b : Nat} {c : Array Value} {t e : TypeId} {f : Nat × Nat} {base size n : Nat} {v : Value} {xs : List Value} (hb : w.heap[b]? = some (.cells c t f)) (h : w.ownsRow base e size v n xs) (ht : t ≠ e) (hu : Upd [b] w w') : w'.ownsRow base e size v n xs :=
  hu.row h (fun x hx hm => ne_own hb h ht (by simp only [List.mem_singleton] at hm; rw [← hm]; exact hx))
theorem app_where {L : Lay α} {ts te : TypeId} (T : RowTy L ts te) {w w' : World} {ty : TypeId} {base : Nat} {v v' : Value} {n : Nat} {xs : List α} (hown : w.ownsRow base te L.k v n (L.flat xs)) {ad : Addr} {m c : Nat} {ys : List α} (hm : m = ys.length) (hm0 : 0 < m) (hy : Row L w (some ad) ys) (hn : n + m ≤ 1000000)
    (hr : (Builtin.append_ #[ts, ts] ty #[v, .slice (some ad) m c]).run Tryz.prog w = .ok v' w') : v'.ownBlock = v.ownBlock ∨ v'.ownBlock = some w.heap.size := by
  obtain ⟨i0, z, b, hi0, hz0, hz1, hz2, hz3, hb⟩ := T.info
  have hsrc : Src Tryz.prog i0.size ts (.slice (some ad) m c) m (L.flat ys) w := by
    rw [hz1]; exact Src.ofSlice w T.un ad m c (L.flat ys) (by rw [L.flat_length, hm]) hy.cells (L.flat_one ys)
  have hfit : ∀ cp, cp < n + m → Builtin.nextslicecap (n + m) cp * i0.bytes ≤ 281474976710656 := fun cp hcp => growslice_fits hcp (by
    rw [hz2]
    exact Nat.le_trans (Nat.mul_le_mul hn hb) (by decide))
  rcases hown.2 with ⟨rfl, rfl⟩ | ⟨g, cap, cur, rfl, hbg, hg, hc, hmx, hs, ht⟩
  · have hold : (Builtin.firstCells i0.size 0 (.slice none 0 0)).run Tryz.prog w.drew = .ok ([] : List Value).toArray w.drew := run_firstCells_none w.drew _ 0 0 0
    have := run_append_grow_src (P := Tryz.prog) w ts ts ty te i0 z T.un hi0 hz0 none 0 0 [] hold _ m _ hsrc (by omega) (by omega) (hfit 0 (by omega))
    rw [hr] at this
    simp only [Result.ok.injEq] at this
    rw [this.1]
    exact .inr rfl
  · have hrow : ∀ j u, (L.flat xs)[j]? = some u → w.cell? ((⟨g, 0, none⟩ : Addr).add j) = some u := fun j u hj => hown.cells (g := g) rfl j u hj
    by_cases hroom : n + m ≤ cap
    · have hlen : n * L.k + m * L.k ≤ cur.size := by
        rw [hs, ← Nat.add_mul]; exact Nat.mul_le_mul_right _ hroom
      have hfl : (L.flat ys).length = m * L.k := by rw [L.flat_length, hm]
      have := run_append_room_src (P := Tryz.prog) w ts ts ty te i0 T.un hi0 g 0 n cap _ m _ hsrc hroom (fun j hj => by
        rw [cell_block hg, hz1, Nat.zero_add, Array.getElem?_eq_getElem (by omega)]; rfl) (fun j hj => free_block hg _)
      rw [hr] at this
      simp only [Result.ok.injEq] at this
      rw [this.1]
      exact .inl rfl
    · have hold : (Builtin.firstCells i0.size n (.slice (some ⟨g, 0, none⟩) n cap)).run Tryz.prog w.drew = .ok (L.flat xs).toArray w.drew := by
        rw [hz1]
        exact run_firstCells_some w.drew _ n ⟨g, 0, none⟩ n cap (L.flat xs) (by rw [hown.1]) (fun j u hj => hrow j u hj)
      have := run_append_grow_src (P := Tryz.prog) w ts ts ty te i0 z T.un hi0 hz0 (some ⟨g, 0, none⟩) n cap _ hold _ m _ hsrc (by omega) (by omega) (hfit cap (by omega))
      rw [hr] at this
      simp only [Result.ok.injEq] at this
      rw [this.1]
      exact .inr rfl
/-- append of a slice to a row of the call's own: where the row lies then. -/
theorem app_row2 {L : Lay α} {ts te : TypeId} (T : RowTy L ts te) {w : World} {ops : Array Oper} {rest : List Oper} {o : Oper} {a : Act} {Q : Exit → Act → World → Prop} (hgd : o.guard = none) (s x : Operand)
    (ho : o.op = .call { callee := .builtin .append, args := #[s, x], argTypes := #[ts, ts] })
    (base : Nat) (v : Value) (n : Nat) (xs : List α) (hs : a.eval s = v) (hown : w.ownsRow base te L.k v n (L.flat xs))
    (ad : Addr) (m c : Nat) (ys : List α) (hx : a.eval x = .slice (some ad) m c) (hm : m = ys.length) (hm0 : 0 < m) (hy : Row L w (some ad) ys) (hn : n + m ≤ 1000000) (hbase : base ≤ w.heap.size)
    (h : ∀ v' w', w'.ownsRow base te L.k v' (n + m) (L.flat (xs ++ ys)) → w.grownBy w' v.ownBlock → (v'.ownBlock = v.ownBlock ∨ v'.ownBlock = some w.heap.size) → wpList Tryz.prog ops Q rest (a.put o.dst v') w') :
    wpList Tryz.prog ops Q (o :: rest) a w := by
  obtain ⟨i0, z, b, hi0, hz0, hz1, hz2, hz3, hb⟩ := T.info
  refine wpList_plain hgd fun _ hK => ?_
  have hbb : (n + m) * b ≤ 1000000 * 1000 := Nat.mul_le_mul hn hb
  obtain ⟨v', w', hr, h2, h3, _⟩ := run_append_own (P := Tryz.prog) w base ts o.type te i0 z L.k b T.un hi0 hz0 hz1 hz2 hz3 L.pos v n _ hown ad m c (L.flat ys) (by rw [L.flat_length, hm]) hy.cells (L.flat_one ys) (by simp [maxLen]; omega) (by omega) hbase
  have hw := app_where T hown hm hm0 hy hn hr
  rw [← L.flat_append] at h2
  unfold Oper.wp execOp
  simp only [ho, resolve, invoke, builtin, Sem.run_bind, Sem.run_pure, Result.andThen_ok, List.map_toArray, List.map_cons, List.map_nil, hs, hx, hr]
  exact hK _ _ (h v' w' h2 h3 hw)
end Go.Proofs.YtpabapjodcafkaaGreat
namespace Go.Proofs.YtpabapjodcafkaaGreat
open Go.RowKit Go.Lib Go.Sort

theorem held_of_row {α : Type} {L : Lay α} {te : TypeId} {w : World} {g cap : Nat} {l : List α} {c : Array Value} (hb : w.heap[g]? = some (.cells c te (0, 0))) (hs : c.size = cap * L.k) (hle : l.length ≤ cap) (hr : Row L w (some ⟨g, 0, none⟩) l) : Held L te w g cap l := by
  refine ⟨⟨c, hb, hs, ?_⟩, hle⟩
  apply List.ext_getElem?
  intro t
  by_cases ht : t < l.length * L.k
  · rw [List.getElem?_take, if_pos ht]
    obtain ⟨u, hu⟩ : ∃ u, (L.flat l)[t]? = some u := ⟨_, List.getElem?_eq_getElem (by rw [L.flat_length]; exact ht)⟩
    rw [hu]
    have := hr.cells t u hu
    rw [Addr.add_lit, cell_block hb, Nat.zero_add] at this
    simpa using this
  · rw [List.getElem?_take, if_neg ht, List.getElem?_eq_none (by rw [L.flat_length]; omega)]
theorem swk_held {w W : World} {g cap : Nat} {l : List It} {d' : Array It} (hH : Held LI 38 w g cap l) (hs : d'.size = l.length) (h : SWK LI.enc 3 w g 0 d' W) : Held LI 38 W g cap d'.toList := by
  have hr := swk_row hH.lt (held_holdsK hH) (by simpa using hs) h
  obtain ⟨cur, h1, h2, _⟩ := hH.ex
  obtain ⟨n, os, rfl⟩ := h
  have hb : (sortWorldK LI.enc 3 w g 0 n d' os).heap[g]? = some (.cells (putCells id 0 (flatK LI.enc 3 d') cur) 38 (0, 0)) := by
    show ((w.heap.modify g (onCells (putCells id 0 (flatK LI.enc 3 d')))) ++ os)[g]? = _
    rw [Array.getElem?_append_left (by simpa using lt_block h1), Array.getElem?_modify, if_pos rfl, h1]; rfl
  exact held_of_row hb (by simp [putCells, h2]) (by simp [hs]; exact hH.le) hr
set_option maxRecDepth 100000 in
theorem Sort_held (g cap : Nat) (l : List It) (w : World) (hl : l.length ≤ 1000000) (hd : DistI l) (hH : Held LI 38 w g cap l) :
    Calls Tryz.prog 87 #[.slice (some ⟨g, 0, none⟩) l.length cap, .func (.func 35) #[] #[]] w fun e w' =>
      e = .returned (.tuple #[]) ∧ Held LI 38 w' g cap (sortI l) ∧ Upd [g] w w' := by
  have hk := held_holdsK hH
  have hb := hH.lt
  have h := AnyQ.slices_SortFunc sortLays 3 Tryz.isAgg38 Tryz.sizeOf38 LI.enc LI.len LI.one cmpI swoI 35 #[] g 0 cap l.toArray w (enters_of Tryz.func35 (by kernel_rfl) rfl) (cmp_lays w g _) hk hb (by simp; omega)
  have h2 : Calls Tryz.prog 87 #[.slice (some ⟨g, 0, none⟩) l.length cap, .func (.func 35) #[] #[]] w fun e w' => e = .returned (.tuple #[]) ∧ ∃ d' n os, PermIn 0 l.toArray.size l.toArray d' ∧ SortedIn (ltOf cmpI) 0 l.toArray.size d' ∧ w' = sortWorldK LI.enc 3 w g 0 n d' os := by
    have e : l.toArray.size = l.length := by simp
    rw [e] at h ⊢
    exact h
  refine h2.mono ?_
  rintro e w' ⟨rfl, d', n, os, hp, hs, rfl⟩
  obtain ⟨p1, p2⟩ := sorted_perm hp hs
  have p3 : d'.toList.Perm l := by simpa using p1
  refine ⟨rfl, ?_, upd_sortWorldK _ _ _ _ _ _ _ _⟩
  have hsz : d'.size = l.length := by have := p3.length_eq; simpa using this
  have := swk_held hH hsz ⟨n, os, rfl⟩
  rw [sortI_unique (strict_of p2 (hd.perm p3.symm)) p3]
  exact this

/-- Of the blocks of w none below b0 and no box of a queue has turned. -/
structure Fr (b0 : Nat) (w w' : World) : Prop where
  os : w'.os = w.os
  tape : w'.tape = w.tape
  output : w'.output = w.output
  size : w.heap.size ≤ w'.heap.size
  block : ∀ k, k < w.heap.size → (k < b0 ∨ ∃ c f, w.heap[k]? = some (.cells c 42 f)) → w'.heap[k]? = w.heap[k]?
theorem Fr.refl (b0 : Nat) (w : World) : Fr b0 w w := ⟨rfl, rfl, rfl, Nat.le_refl _, fun _ _ _ => rfl⟩
theorem Fr.of_upd {b0 : Nat} {S : List Nat} {w w' : World} (h : Upd S w w') (hS : ∀ x ∈ S, b0 ≤ x ∧ ∀ c f, w.heap[x]? ≠ some (.cells c 42 f)) : Fr b0 w w' :=
  ⟨h.os, h.tape, h.output, h.size, fun k hk hc => h.block k hk fun hm => by
    obtain ⟨h1, h2⟩ := hS k hm
    rcases hc with hc | ⟨c, f, hc⟩
    · omega
    · exact h2 c f hc⟩
theorem Fr.trans {b0 : Nat} {a b c : World} (h : Fr b0 a b) (k : Fr b0 b c) : Fr b0 a c :=
  ⟨k.os.trans h.os, k.tape.trans h.tape, k.output.trans h.output, Nat.le_trans h.size k.size, fun i hi hc => by
    have h1 := h.block i hi hc
    refine (k.block i (Nat.lt_of_lt_of_le hi h.size) ?_).trans h1
    rcases hc with hc | ⟨c', f, hc⟩
    · exact .inl hc
    · exact .inr ⟨c', f, h1.trans hc⟩⟩
theorem Fr.enter {b0 : Nat} {w0 w w' : World} (hu : Upd [] w0 w) (h : Fr b0 w w') : Fr b0 w0 w' := (Fr.of_upd hu (by simp)).trans h
theorem Fr.upd {w0 w w' : World} {b0 : Nat} (h : Fr b0 w w') (hu : Upd [] w0 w) (hb : w0.heap.size ≤ b0) : Upd [] w0 w' :=
  ⟨h.os.trans hu.os, h.tape.trans hu.tape, h.output.trans hu.output, Nat.le_trans hu.size h.size, fun k hk _ => (h.block k (Nat.lt_of_lt_of_le hk hu.size) (.inl (by omega))).trans (hu.block k hk (by simp))⟩
theorem Fr.box {b0 : Nat} {w w' : World} (h : Fr b0 w w') {k : Nat} {c : Array Value} {f : Nat × Nat} (hb : w.heap[k]? = some (.cells c 42 f)) : w'.heap[k]? = some (.cells c 42 f) := (h.block k (lt_block hb) (.inr ⟨c, f, hb⟩)).trans hb
/-- A box that is new to w0 is written. -/
theorem Fr.new {b0 b : Nat} {w0 w w' : World} (h : Fr b0 w0 w) (hu : Upd [b] w w') (hb : w0.heap.size ≤ b) : Fr b0 w0 w' :=
  ⟨hu.os.trans h.os, hu.tape.trans h.tape, hu.output.trans h.output, Nat.le_trans h.size hu.size, fun k hk hc => (hu.block k (Nat.lt_of_lt_of_le hk h.size) (by simp; omega)).trans (h.block k hk hc)⟩
theorem Own.stay {b0 : Nat} {w w' : World} {l : LdR} (h : Own b0 w l) (hu : Upd [] w w') : Own b0 w' l :=
  ⟨hu.row h.top (by simp), hu.row h.rs (by simp), hu.row h.bot (by simp), fun r hr => ⟨(h.rg r hr).1.stay hu, (h.rg r hr).2⟩, h.avT, h.avB, h.avR⟩
theorem Own.keep1 {b0 b : Nat} {w w' : World} {l : LdR} (h : Own b0 w l) (hu : Upd [b] w w') (h1 : l.top.v.ownBlock ≠ some b) (h2 : l.rs.v.ownBlock ≠ some b) (h3 : l.bot.v.ownBlock ≠ some b) (h4 : ∀ r ∈ l.rs.l, AvR r b) : Own b0 w' l :=
  ⟨hu.row h.top (fun x hx hm => h1 (by simp only [List.mem_singleton] at hm; rw [← hm]; exact hx)), hu.row h.rs (fun x hx hm => h2 (by simp only [List.mem_singleton] at hm; rw [← hm]; exact hx)), hu.row h.bot (fun x hx hm => h3 (by simp only [List.mem_singleton] at hm; rw [← hm]; exact hx)), fun r hr => ⟨(h.rg r hr).1.keep1 hu (h4 r hr), (h.rg r hr).2⟩, h.avT, h.avB, h.avR⟩
/-- A box of another kind is written. -/
theorem Own.box {b0 b : Nat} {w w' : World} {l : LdR} (h : Own b0 w l) {c : Array Value} {t : TypeId} {f : Nat × Nat} (hb : w.heap[b]? = some (.cells c t f)) (ht : t ≠ 38 ∧ t ≠ 59) (hav : ∀ r ∈ l.rs.l, AvR r b) (hu : Upd [b] w w') : Own b0 w' l :=
  h.keep1 hu (ne_own hb h.top ht.1) (ne_own hb h.rs ht.2) (ne_own hb h.bot ht.1) hav
theorem Own.has {b0 : Nat} {w : World} {l : LdR} (h : Own b0 w l) : HasD w l := by
  have h1 : HasS LI w l.top := has_own h.top
  have h2 : HasS LI w l.bot := has_own h.bot
  obtain ⟨_, ad, cap, e, hS, _⟩ := hasS_row h.rs
  refine ⟨h1, ?_, fun r hr => (h.rg r hr).1, h2⟩
  obtain ⟨ts, top, ⟨rl, ra, rc⟩, bot, mv, cp⟩ := l
  simp only [SlR.v, Value.slice.injEq] at e
  obtain ⟨rfl, _, rfl⟩ := e
  exact hS
theorem Own.av {b0 : Nat} {w : World} {l : LdR} (h : Own b0 w l) {b : Nat} (hb : b < b0) : AvD l b := by
  refine ⟨av_own h.top hb, fun _ a ea he => ?_, fun r hr => (h.rg r hr).2 b hb, av_own h.bot hb⟩
  have := own_ge h.rs a.block (by obtain ⟨ts, top, ⟨rl, ra, rc⟩, bot, mv, cp⟩ := l; simp only at ea; subst ea; rfl)
  omega
/-- From the queue l of its own in w a call came to l' in w', which holds g. -/
structure Ran (b0 : Nat) (w : World) (l : LdR) (g : Ld) (w' : World) (l' : LdR) : Prop where
  eq : l'.ld = g
  own : Own b0 w' l'
  av : ∀ b, b < w.heap.size → (∀ r ∈ l.rs.l, AvR r b) → ∀ r ∈ l'.rs.l, AvR r b
  fr : Fr b0 w w'
def Gran (b0 : Nat) (w : World) (l : LdR) (g : Ld) (e : Ending) (w' : World) : Prop := ∃ l', e = .returned (encD l') ∧ Ran b0 w l g w' l'
theorem Ran.enter {b0 : Nat} {w0 w : World} {l : LdR} {g : Ld} {w' : World} {l' : LdR} (hu : Upd [] w0 w) (h : Ran b0 w l g w' l') : Ran b0 w0 l g w' l' :=
  ⟨h.eq, h.own, fun b hb ha => h.av b (Nat.lt_of_lt_of_le hb hu.size) ha, h.fr.enter hu⟩
theorem Ran.trans {b0 : Nat} {w w1 w2 : World} {l l1 l2 : LdR} {g1 g2 : Ld} (h : Ran b0 w l g1 w1 l1) (k : Ran b0 w1 l1 g2 w2 l2) : Ran b0 w l g2 w2 l2 :=
  ⟨k.eq, k.own, fun b hb ha => k.av b (Nat.lt_of_lt_of_le hb h.fr.size) (h.av b hb ha), h.fr.trans k.fr⟩
theorem Ran.refl {b0 : Nat} {w : World} {l : LdR} (h : Own b0 w l) : Ran b0 w l l.ld w l := ⟨rfl, h, fun _ _ ha => ha, Fr.refl _ _⟩
theorem Ran.box {b0 b : Nat} {w0 w w' : World} {l l' : LdR} {g : Ld} (h : Ran b0 w0 l g w l') {c : Array Value} {f : Nat × Nat} (hb : w.heap[b]? = some (.cells c 42 f)) (hb0 : w0.heap.size ≤ b) (hav : ∀ r ∈ l'.rs.l, AvR r b) (hu : Upd [b] w w') : Ran b0 w0 l g w' l' :=
  ⟨h.eq, h.own.box hb (by decide) hav hu, h.av, h.fr.new hu hb0⟩
theorem Ran.stay {b0 : Nat} {w0 w w' : World} {l l' : LdR} {g : Ld} (h : Ran b0 w0 l g w l') (hu : Upd [] w w') : Ran b0 w0 l g w' l' :=
  ⟨h.eq, h.own.stay hu, h.av, h.fr.trans (Fr.of_upd hu (by simp))⟩
end Go.Proofs.YtpabapjodcafkaaGreat
