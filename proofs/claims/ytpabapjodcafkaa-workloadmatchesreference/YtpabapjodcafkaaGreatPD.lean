/- Contracts: slices.Clone of rungs and of buckets; a record's one cell set in a row. -/
/- Contract: the program's clone of a queue: all its rows are new. -/
import Derived.Test.YtpabapjodcafkaaGreatGE
import Derived.Test.YtpabapjodcafkaaGreatUS
namespace Go.Proofs.YtpabapjodcafkaaGreat
open Go.RowKit Go.Lib

theorem Held.own {α : Type} {L : Lay α} {te : TypeId} {w : World} {g cap base : Nat} {l : List α} (h : Held L te w g cap l) (hb : base ≤ g) (hm : cap ≤ maxLen) : w.ownsRow base te L.k (.slice (some ⟨g, 0, none⟩) l.length cap) l.length (L.flat l) := by
  obtain ⟨cur, h1, h2, h3⟩ := h.ex
  exact ⟨L.flat_length l, .inr ⟨g, cap, cur, rfl, hb, h1, h.le, hm, h2, h3⟩⟩
theorem own_cap {w : World} {base size n : Nat} {e : TypeId} {ad : Option Addr} {m c : Nat} {xs : List Value} (h : w.ownsRow base e size (.slice ad m c) n xs) : c ≤ maxLen := by
  rcases h.2 with ⟨h1, _⟩ | ⟨g, cap, cur, h1, _, _, _, h2, _⟩
  · simp only [Value.slice.injEq] at h1; obtain ⟨_, _, rfl⟩ := h1; exact Nat.zero_le _
  · simp only [Value.slice.injEq] at h1; obtain ⟨_, _, rfl⟩ := h1; exact h2
theorem Lay.flat_set1 {α : Type} (L : Lay α) : ∀ (l : List α) (j : Nat) (hj : j < l.length) (t : Nat) (u : Value) (x : α), t < L.k → L.enc x = (L.enc l[j]).set t u → L.flat (l.set j x) = (L.flat l).set (j * L.k + t) u
  | y :: l, 0, _, t, u, x, ht, hx => by
    simp only [List.getElem_cons_zero] at hx
    rw [List.set_cons_zero, L.flat_cons, L.flat_cons, Nat.zero_mul, Nat.zero_add, List.set_append, if_pos (by rw [L.len]; exact ht), hx]
  | y :: l, j + 1, hj, t, u, x, ht, hx => by
    have ih := L.flat_set1 l j (by simpa using hj) t u x ht (by simpa using hx)
    have e : (j + 1) * L.k + t = L.k + (j * L.k + t) := by rw [Nat.add_mul]; omega
    rw [List.set_cons_succ, L.flat_cons, L.flat_cons, e, List.set_append, if_neg (by rw [L.len]; omega), L.len, Nat.add_sub_cancel_left, ih]
theorem Held.set1 {α : Type} {L : Lay α} {te : TypeId} {w : World} {g cap : Nat} {l : List α} (h : Held L te w g cap l) (j : Nat) (hj : j < l.length) (t : Nat) (u : Value) (x : α) (ht : t < L.k) (hx : L.enc x = (L.enc l[j]).set t u) : Held L te (w.setCell ⟨g, j * L.k + t, none⟩ u) g cap (l.set j x) := by
  obtain ⟨cur, h1, h2, h3⟩ := h.ex
  refine ⟨⟨cur.setIfInBounds (j * L.k + t) u, setCell_block h1 u, by simp [h2], ?_⟩, by simpa using h.le⟩
  rw [List.length_set, L.flat_set1 l j hj t u x ht hx, ← h3]
  have e : (cur.setIfInBounds (j * L.k + t) u).toList = cur.toList.set (j * L.k + t) u := by simp
  rw [e, List.take_set]
set_option maxRecDepth 100000 in
set_option maxHeartbeats 2000000 in
theorem CloneR_has (a : Option Addr) (c : Nat) (xs : List RgR) (w : World) (ha : Row LR w a xs) (hnl : a = none → c = 0) (hx : xs.length ≤ 1000000) :
    Calls Tryz.prog 53 #[.slice a xs.length c] w fun e w' => ∃ va vc, e = .returned (.slice va xs.length vc) ∧ w'.ownsRow w.heap.size 59 4 (.slice va xs.length vc) xs.length (LR.flat xs) ∧ Upd [] w w' := by
  have q22 : ∀ (w : World) (a : Option Addr) (n c n' c' : Nat), (binOp .eql 40 (.slice a n c) (.slice none n' c')).run Tryz.prog w = .ok (.bool a.isNone) w := fun w a n c n' c' => Lib.run_eql_slice_nil w _ _ a n c n' c' Tryz.underlying40
  have HA := Lib.hid ha
  clear ha
  cases a with
  | none =>
    have hn : xs = [] := row_none HA.out
    subst hn
    clear HA
    go_enter Tryz.func53, Tryz.ntmps53
    go_wp2_with fail
    go_ret
    exact ⟨_, _, rfl, World.ownsRow_nil _ _ _ _, Upd.refl _ _⟩
  | some ad =>
    obtain ⟨n, hn⟩ : ∃ n, n = xs.length := ⟨_, rfl⟩
    rw [← hn] at hx ⊢
    have HN := Lib.hid hn
    have HR := Lib.hid (HA.out.stay ((Upd.refl [] w).alloc (.cells #[] 59)))
    clear hn HA
    go_enter Tryz.func53, Tryz.ntmps53
    go_wp2_with (at_builtin; refine app_row tyR rfl _ _ rfl w.heap.size (.slice (some ⟨w.heap.size, 0, none⟩) 0 0) 0 [] rfl (World.ownsRow_made w #[] 0 (Nat.le_refl _) (Nat.zero_le _) (by simp)) (some ad) n c xs rfl HN.out HR.out (fun e => by simp at e) (by omega) (by simp) ?_; intro v' w1 hown hgrow)
    rw [Nat.zero_add, List.nil_append] at hown
    have HU : Hid (Upd [] w w1) := ((Upd.refl [] w).alloc _).grown hgrow (fun k hk hl => by simp [Value.ownBlock] at hk; omega)
    obtain ⟨va, vc, rfl⟩ := row_shape hown
    have HO := Lib.hid hown
    clear hown hgrow
    go_wp2_with fail
    go_ret
    exact ⟨va, vc, rfl, HO.out, HU.out⟩
set_option maxRecDepth 100000 in
set_option maxHeartbeats 2000000 in
theorem CloneB_has (a : Option Addr) (c : Nat) (xs : List (SlR It)) (w : World) (ha : Row LB w a xs) (hnl : a = none → c = 0) (hx : xs.length ≤ 1000000) :
    Calls Tryz.prog 54 #[.slice a xs.length c] w fun e w' => ∃ va vc, e = .returned (.slice va xs.length vc) ∧ w'.ownsRow w.heap.size 26 1 (.slice va xs.length vc) xs.length (LB.flat xs) ∧ Upd [] w w' := by
  have q22 : ∀ (w : World) (a : Option Addr) (n c n' c' : Nat), (binOp .eql 57 (.slice a n c) (.slice none n' c')).run Tryz.prog w = .ok (.bool a.isNone) w := fun w a n c n' c' => Lib.run_eql_slice_nil w _ _ a n c n' c' Tryz.underlying57
  have HA := Lib.hid ha
  clear ha
  cases a with
  | none =>
    have hn : xs = [] := row_none HA.out
    subst hn
    clear HA
    go_enter Tryz.func54, Tryz.ntmps54
    go_wp2_with fail
    go_ret
    exact ⟨_, _, rfl, World.ownsRow_nil _ _ _ _, Upd.refl _ _⟩
  | some ad =>
    obtain ⟨n, hn⟩ : ∃ n, n = xs.length := ⟨_, rfl⟩
    rw [← hn] at hx ⊢
    have HN := Lib.hid hn
    have HR := Lib.hid (HA.out.stay ((Upd.refl [] w).alloc (.cells #[] 26)))
    clear hn HA
    go_enter Tryz.func54, Tryz.ntmps54
    go_wp2_with (at_builtin; refine app_row tyB rfl _ _ rfl w.heap.size (.slice (some ⟨w.heap.size, 0, none⟩) 0 0) 0 [] rfl (World.ownsRow_made w #[] 0 (Nat.le_refl _) (Nat.zero_le _) (by simp)) (some ad) n c xs rfl HN.out HR.out (fun e => by simp at e) (by omega) (by simp) ?_; intro v' w1 hown hgrow)
    rw [Nat.zero_add, List.nil_append] at hown
    have HU : Hid (Upd [] w w1) := ((Upd.refl [] w).alloc _).grown hgrow (fun k hk hl => by simp [Value.ownBlock] at hk; omega)
    obtain ⟨va, vc, rfl⟩ := row_shape hown
    have HO := Lib.hid hown
    clear hown hgrow
    go_wp2_with fail
    go_ret
    exact ⟨va, vc, rfl, HO.out, HU.out⟩
end Go.Proofs.YtpabapjodcafkaaGreat
namespace Go.Proofs.YtpabapjodcafkaaGreat
open Go.RowKit Go.Lib

/-- A queue whose rows are the call's own: none is older than b0; what may be written in place is apart from the rest. -/
structure Own (b0 : Nat) (w : World) (l : LdR) : Prop where
  top : w.ownsRow b0 38 3 l.top.v l.top.l.length (LI.flat l.top.l)
  rs : w.ownsRow b0 59 4 l.rs.v l.rs.l.length (LR.flat l.rs.l)
  bot : w.ownsRow b0 38 3 l.bot.v l.bot.l.length (LI.flat l.bot.l)
  rg : ∀ r ∈ l.rs.l, HasR w r ∧ ∀ b, b < b0 → AvR r b
  avT : ∀ k, l.top.v.ownBlock = some k → AvS l.bot k ∧ ∀ r ∈ l.rs.l, AvR r k
  avB : ∀ k, l.bot.v.ownBlock = some k → AvS l.top k ∧ ∀ r ∈ l.rs.l, AvR r k
  avR : ∀ k, l.rs.v.ownBlock = some k → ∀ r ∈ l.rs.l, AvR r k
/-- Buckets copied in place, the first k done. -/
structure PartB (W : World) (bl : List (SlR It)) (k : Nat) (wr : World) (sl : List (SlR It)) (g cap : Nat) : Prop where
  len : sl.length = bl.length
  done : ∀ j (h : j < sl.length) (h' : j < bl.length), j < k → sl[j].l = bl[j].l ∧ HasS LI wr sl[j] ∧ ∀ b, b < W.heap.size → AvS sl[j] b
  rest : ∀ j (h : j < sl.length) (h' : j < bl.length), k ≤ j → sl[j] = bl[j]
  held : Held LB 26 wr g cap sl
  lt : g < W.heap.size
  upd : Upd [g] W wr
theorem av_own {s : SlR It} {w : World} {base : Nat} {b : Nat} (h : w.ownsRow base 38 3 s.v s.l.length (LI.flat s.l)) (hb : b < base) : AvS s b := fun _ a ea he => by
  obtain ⟨l, ad, c⟩ := s
  simp only at ea
  subst ea
  have := own_ge h a.block rfl
  omega
theorem has_own {s : SlR It} {w : World} {base : Nat} (h : w.ownsRow base 38 3 s.v s.l.length (LI.flat s.l)) : HasS LI w s := by
  obtain ⟨_, ad, cap, e, hS, _⟩ := hasS_row h
  obtain ⟨l, a, c⟩ := s
  simp only [SlR.v, Value.slice.injEq] at e
  obtain ⟨rfl, _, rfl⟩ := e
  exact hS
theorem PartB.step {W wr w1 : World} {bl sl : List (SlR It)} {k g cap : Nat} (h : PartB W bl k wr sl g cap) (hk : k < bl.length) (s : SlR It) (hs : s.l = bl[k].l) (hu : Upd [] wr w1) (ho : w1.ownsRow wr.heap.size 38 3 s.v s.l.length (LI.flat s.l)) :
    PartB W bl (k + 1) (w1.setCell ⟨g, k, none⟩ s.v) (sl.set k s) g cap := by
  have hl := h.len
  have hks : k < sl.length := by omega
  have hU := upd_set1 w1 g k s.v
  have hsz := h.upd.size
  have hlt := h.lt
  refine ⟨by simp [hl], fun j hj hj' hjk => ?_, fun j hj hj' hjk => ?_, ?_, hlt, (h.upd.trans hu (by simp)).trans hU (fun x hx _ => hx)⟩
  · by_cases e : j = k
    · subst e
      rw [List.getElem_set_self]
      exact ⟨hs, (has_own ho).keep1 hU (av_own ho (by omega)), fun b hb => av_own ho (by omega)⟩
    · rw [List.getElem_set_ne (fun e' => e e'.symm)]
      obtain ⟨d1, d2, d3⟩ := h.done j (by simpa using hj) hj' (by omega)
      exact ⟨d1, (d2.stay hu).keep1 hU (d3 g hlt), d3⟩
  · rw [List.getElem_set_ne (by omega)]
    exact h.rest j (by simpa using hj) hj' (by omega)
  · have := (h.held.keep hu (by simp)).set k hks s
    have e : stores w1 g (k * LB.k) (LB.enc s) = w1.setCell ⟨g, k, none⟩ s.v := by
      show w1.setCell ⟨g, k * 1, none⟩ _ = _
      rw [Nat.mul_one]; rfl
    rw [e] at this
    exact this
/-- Rungs copied in place, the first k done. -/
structure ClnAt (W : World) (b0 : Nat) (rl : List RgR) (k : Nat) (wr : World) (cs : List RgR) (v : Value) : Prop where
  len : cs.length = rl.length
  own : wr.ownsRow b0 59 4 v cs.length (LR.flat cs)
  done : ∀ j (h : j < cs.length) (h' : j < rl.length), j < k → cs[j].rg = rl[j].rg ∧ HasR wr cs[j] ∧ ∀ b, b < W.heap.size → AvR cs[j] b
  rest : ∀ j (h : j < cs.length) (h' : j < rl.length), k ≤ j → cs[j] = rl[j]
  lt : ∀ x, v.ownBlock = some x → x < W.heap.size
  upd : Upd v.ownBlock.toList W wr
theorem ClnAt.step {W wr w2 w3 : World} {b0 k g cap gb capb : Nat} {rl cs : List RgR} {n : Nat} (h : ClnAt W b0 rl k wr cs (.slice (some ⟨g, 0, none⟩) n cap)) (hk : k < rl.length) {sl : List (SlR It)} (hu : Upd [] wr w2)
    (hb : HasS LB w2 ⟨sl, some ⟨gb, 0, none⟩, capb⟩) (hgb : wr.heap.size ≤ gb) (hi : ∀ s ∈ sl, HasS LI w2 s ∧ ∀ b, b < wr.heap.size → AvS s b) (hrow : rowsOf sl = rl[k].rg.bs)
    (e3 : w3 = w2.setCell ⟨g, k * 4 + 3, none⟩ (.slice (some ⟨gb, 0, none⟩) sl.length capb)) :
    ClnAt W b0 rl (k + 1) w3 (cs.set k ⟨rl[k].fr, rl[k].wd, rl[k].cu, ⟨sl, some ⟨gb, 0, none⟩, capb⟩⟩) (.slice (some ⟨g, 0, none⟩) n cap) := by
  have hl := h.len
  have hkc : k < cs.length := by omega
  have hg : g < W.heap.size := h.lt g rfl
  have hsz := h.upd.size
  have hU : Upd [g] w2 w3 := by rw [e3]; exact upd_set1 _ _ _ _
  have hown := hu.row h.own (by simp)
  obtain ⟨hn, g', cap', ev, hbg, hheld⟩ := held_row (L := LR) hown (by rw [hl]; omega)
  simp only [Value.slice.injEq, Option.some.injEq, Addr.mk.injEq] at ev
  obtain ⟨⟨rfl, _⟩, hnn, rfl⟩ := ev
  have hav : ∀ b, b < wr.heap.size → AvR ⟨rl[k].fr, rl[k].wd, rl[k].cu, ⟨sl, some ⟨gb, 0, none⟩, capb⟩⟩ b := fun b hb => ⟨fun _ a ea => by obtain rfl := Option.some.inj ea; simp only; omega, fun s hs => (hi s hs).2 b hb⟩
  refine ⟨by simp [hl], ?_, fun j hj hj' hjk => ?_, fun j hj hj' hjk => ?_, h.lt, (h.upd.trans hu (by simp)).trans (T := [g]) hU (fun x hx _ => by simpa [Value.ownBlock] using hx)⟩
  · have h3 := hheld.set1 k hkc 3 (.slice (some ⟨gb, 0, none⟩) sl.length capb) ⟨rl[k].fr, rl[k].wd, rl[k].cu, ⟨sl, some ⟨gb, 0, none⟩, capb⟩⟩ (by decide) (by rw [h.rest k hkc hk (Nat.le_refl _)]; rfl)
    have h4 := h3.own hbg (own_cap hown)
    rw [List.length_set] at h4 ⊢
    rw [e3, hnn]
    exact h4
  · by_cases e : j = k
    · subst e
      rw [List.getElem_set_self]
      refine ⟨?_, HasR.keep1 (w := w2) ⟨hb, fun s hs => (hi s hs).1⟩ hU (hav g (by omega)), fun b hb => hav b (by omega)⟩
      simp only [RgR.rg] at hrow ⊢
      rw [hrow]
    · rw [List.getElem_set_ne (fun e' => e e'.symm)]
      obtain ⟨d1, d2, d3⟩ := h.done j (by simpa using hj) hj' (by omega)
      exact ⟨d1, (d2.stay hu).keep1 hU (d3 g hg), d3⟩
  · rw [List.getElem_set_ne (by omega)]
    exact h.rest j (by simpa using hj) hj' (by omega)
end Go.Proofs.YtpabapjodcafkaaGreat
