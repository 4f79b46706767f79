/- Contract: the program's takeBucket. -/
/- Contract: the reference's fromRung. -/
import Derived.Test.YtneodiemgemhfaaGreatPQ
import Derived.Test.YtneodiemgemhfaaGreatPH
namespace Go.Proofs.YtneodiemgemhfaaGreat
open Go.RowKit Go.Lib

theorem fromRung_no {l : Ld} {rs0 : List Rg} {r : Rg} {p : Rg × List It × Int × Bool} (hp : nextR r = p) (h : p.2.2.2 = false) : fromRung l rs0 r = { l with rs := rs0 } := by
  subst hp; unfold fromRung; rw [if_pos h]
theorem fromRung_add {l : Ld} {rs0 : List Rg} {r : Rg} {p : Rg × List It × Int × Bool} (hp : nextR r = p) (h : p.2.2.2 = true) (h2 : 4 < p.2.1.length ∧ rs0.length + 1 < 4 ∧ 1 < r.wd) : fromRung l rs0 r = { l with rs := rs0 ++ [p.1] ++ [foldR (newR p.2.2.1 ((r.wd + 7) / 8)) p.2.1], mv := l.mv + p.2.1.length } := by
  subst hp; unfold fromRung; rw [if_neg (by rw [h]; decide), if_pos h2]; rfl
theorem fromRung_sort {l : Ld} {rs0 : List Rg} {r : Rg} {p : Rg × List It × Int × Bool} (hp : nextR r = p) (h : p.2.2.2 = true) (h2 : ¬ (4 < p.2.1.length ∧ rs0.length + 1 < 4 ∧ 1 < r.wd)) : fromRung l rs0 r = { l with rs := rs0 ++ [p.1], bot := sortI p.2.1, mv := l.mv + p.2.1.length } := by
  subst hp; unfold fromRung; rw [if_neg (by rw [h]; decide), if_neg h2]
/-- What Next gives of a good rung with items of good times. -/
theorem next_facts {r : Rg} (hg : GoodR r) (hm : ∀ it ∈ itsR r, it.t ≤ MaxT) {p : Rg × List It × Int × Bool} (hp : nextR r = p) (h : p.2.2.2 = true) : 0 < p.2.1.length ∧ p.2.1.length ≤ lenL r.bs ∧ 0 ≤ p.2.2.1 ∧ p.2.2.1 ≤ 1152921504606846976 ∧ p.1.wd = r.wd ∧ p.2.1.Sublist (itsR r) := by
  subst hp
  have hl := next_len r
  rcases nextR_cases r with ⟨i, hi, hne, h0, e⟩ | ⟨_, e⟩
  · have hi8 : i < 8 := by rw [hg.len] at hi; exact hi
    have hpr := hg.prod (i := i) (by omega) (by omega)
    have hf := hg.fr0
    obtain ⟨it, hit⟩ := List.exists_mem_of_ne_nil _ hne
    have hin := (hg.inb i hi8 it hit).1
    have hmt := hm it (mem_itsR.2 ⟨i, hi, hit⟩)
    have hw : (nextR r).1.wd = r.wd := (nextR_fr r).2
    rw [e] at hl hw ⊢
    simp only at hl hw ⊢
    have h0l : 0 < (bAt r.bs i).length := List.length_pos_iff.2 hne
    refine ⟨h0l, by omega, by omega, by unfold MaxT at hmt; omega, hw, ?_⟩
    rw [bAt_get hi]
    unfold itsR
    exact List.sublist_flatten_of_mem (List.getElem_mem hi)
  · rw [e] at h; simp at h
theorem gran_end2 {b0 : Nat} {w W w5 wf : World} {l l' : LdR} {g : Ld} {B : Nat} (hb : w.heap.size ≤ B) (hF : Fr b0 w W) (hB : ∃ c f, W.heap[B]? = some (.cells c 25 f)) (he : l'.ld = g) (hO : Own b0 w5 l') (hav : ∀ b, b < w.heap.size ∨ b = B → (∀ r ∈ l.rs.l, AvR r b) → ∀ x ∈ l'.rs.l, AvR x b) (hl : ∀ r ∈ l.rs.l, AvR r B) (hf : Fr b0 W w5) (hu2 : Upd [B] w5 wf) :
    Gran b0 w l g (.returned (encD l')) wf := by
  obtain ⟨c, f, hB⟩ := hB
  exact ⟨l', rfl, he, hO.box (hf.box hB) (by decide) (hav B (.inr rfl) hl) hu2, fun b hb2 ha => hav b (.inl hb2) ha, (hF.trans hf).new hu2 hb⟩
/-- Behind Next: the queue with the rest of the rung in its place, the list beside it. -/
structure TB (b0 : Nat) (w : World) (l : LdR) (rs0 : List RgR) (p : Rg × List It × Int × Bool) (w3 : World) (r' : RgR) (s : SlR It) : Prop where
  own : Own b0 w3 ⟨l.ts, l.top, ⟨rs0 ++ [r'], l.rs.ad, l.rs.cap⟩, l.bot, l.mv, l.cp⟩
  sown : w3.ownsRow b0 36 3 s.v s.l.length (LI.flat s.l)
  seq : s.l = p.2.1
  req : r'.rg = p.1
  ap : ∀ k, s.v.ownBlock = some k → l.top.v.ownBlock ≠ some k ∧ ∀ x ∈ rs0 ++ [r'], AvR x k
  av : ∀ b, b < w.heap.size ∨ b = w.heap.size + 1 → AvR r' b
  bw : b0 ≤ w3.heap.size
  sz : w.heap.size + 2 ≤ w3.heap.size
theorem tb_make {b0 g : Nat} {w W w1 w2 w3 : World} {l : LdR} {rs0 : List RgR} {r r' : RgR} {p : Rg × List It × Int × Bool} {s : SlR It} (hO : Own b0 w l) (hb0 : b0 ≤ w.heap.size) (hl : l.rs.l = rs0 ++ [r]) (hrs : l.rs.ad = some ⟨g, 0, none⟩) (hu : Upd [] w W) (hsz : w.heap.size + 2 ≤ W.heap.size) (hn : NextO W p w1 r' s) (hu2 : Upd [] w1 w2) (h3 : w3 = stores w2 g (rs0.length * LR.k) (LR.enc r')) :
    TB b0 w l rs0 p w3 r' s ∧ Upd [g] w2 w3 := by
  have hO1 := hO.stay hu
  obtain ⟨h4, hU⟩ := own_put hO1 hl hrs (hn.upd.thn hu2) (hn.has.stay hu2) hn.av h3
  have hown := hO.rs
  obtain ⟨_, g', cap', ev, hbg, hh⟩ := held_row (L := LR) hown (by rw [hl]; simp)
  simp only [SlR.v, Value.slice.injEq] at ev
  obtain ⟨e1, _, _⟩ := ev
  rw [hrs] at e1
  simp only [Option.some.injEq, Addr.mk.injEq, and_true] at e1
  subst e1
  obtain ⟨cur, hc, _⟩ := (hh.keep ((hu.thn hn.upd).thn hu2) (by simp)).ex
  have hs1 := hu.size; have hs2 := hn.upd.size; have hs3 := hu2.size; have hs4 := hU.size
  have hso := row_base (base' := b0) (own_box hc (hu2.row hn.own (by simp)) (by decide) hU) (by omega)
  refine ⟨⟨h4, hso, hn.seq, hn.eq, fun k hk => ⟨fun ht => ?_, fun x hx => ?_⟩, fun b hb => hn.av b (by omega), by omega, by omega⟩, hU⟩
  · have h1 := (hO.top.lt k ht).2
    have h2 := own_ge hn.own k hk
    omega
  · rcases List.mem_append.1 hx with hx | hx
    · exact (hO1.rg x (by rw [hl]; exact List.mem_append_left _ hx)).1.avoids (own_ge hn.own k hk)
    · obtain rfl : x = r' := by simpa using hx
      exact hn.ap k hk
theorem tb_av {b0 : Nat} {w w3 : World} {l : LdR} {rs0 : List RgR} {r r' : RgR} {p : Rg × List It × Int × Bool} {s : SlR It} (h : TB b0 w l rs0 p w3 r' s) (hl : l.rs.l = rs0 ++ [r]) {b : Nat} (hb : b < w.heap.size ∨ b = w.heap.size + 1) (ha : ∀ x ∈ l.rs.l, AvR x b) : ∀ x ∈ rs0 ++ [r'], AvR x b := fun x hx => by
  rcases List.mem_append.1 hx with hx | hx
  · exact ha x (by rw [hl]; exact List.mem_append_left _ hx)
  · obtain rfl : x = r' := by simpa using hx
    exact h.av b hb
def Then (b0 : Nat) (w : World) (l : LdR) (g : Ld) (W : World) (e : Ending) (w5 : World) : Prop := ∃ l', e = .returned (encD l') ∧ l'.ld = g ∧ Own b0 w5 l' ∧ (∀ b, b < w.heap.size ∨ b = w.heap.size + 1 → (∀ r ∈ l.rs.l, AvR r b) → ∀ x ∈ l'.rs.l, AvR x b) ∧ Fr b0 W w5
theorem tb_sort {b0 : Nat} {w w3 : World} {l : LdR} {rs0 : List RgR} {r r' : RgR} {p : Rg × List It × Int × Bool} {s : SlR It} (h : TB b0 w l rs0 p w3 r' s) (hl : l.rs.l = rs0 ++ [r]) (hg : GoodR r.rg) (hm : ∀ it ∈ itsR r.rg, it.t ≤ MaxT) (hd : DistI (itsR r.rg)) (hn : lenL r.rg.bs ≤ 100000) (hmv : 0 ≤ l.mv ∧ l.mv ≤ 1000000000000) (hp : nextR r.rg = p) (hok : p.2.2.2 = true) (hc : ¬ (4 < s.l.length ∧ rs0.length + 1 < 4 ∧ 1 < r.wd)) :
    Calls Tryz.prog 82 #[encD ⟨l.ts, l.top, ⟨rs0 ++ [r'], l.rs.ad, l.rs.cap⟩, l.bot, l.mv, l.cp⟩, .slice s.ad s.l.length s.cap] w3 (Then b0 w l (fromRung l.ld (rs0.map RgR.rg) r.rg) w3) := by
  obtain ⟨f1, f2, f3, f4, f5, f6⟩ := next_facts hg hm hp hok
  rw [← h.seq] at f1 f2 f6
  have hc2 : ¬ (4 < p.2.1.length ∧ (rs0.map RgR.rg).length + 1 < 4 ∧ 1 < r.rg.wd) := by rw [← h.seq, List.length_map]; exact hc
  refine (fillBottom_has _ s b0 w3 h.own h.sown h.ap f1 (by omega) (hd.sublist f6) hmv).mono ?_
  rintro e w5 ⟨l', he, hR⟩
  refine ⟨l', he, ?_, hR.own, fun b hb ha => hR.av b (by have := h.sz; omega) (tb_av h hl hb ha), hR.fr⟩
  rw [hR.eq, fromRung_sort hp hok hc2]
  simp only [LdR.ld, List.map_append, List.map_cons, List.map_nil, h.req, h.seq]
theorem tb_add {b0 : Nat} {w w3 : World} {l : LdR} {rs0 : List RgR} {r r' : RgR} {p : Rg × List It × Int × Bool} {s : SlR It} (h : TB b0 w l rs0 p w3 r' s) (hl : l.rs.l = rs0 ++ [r]) (hg : GoodR r.rg) (hm : ∀ it ∈ itsR r.rg, it.t ≤ MaxT) (hn : lenL r.rg.bs ≤ 100000) (hmv : 0 ≤ l.mv ∧ l.mv ≤ 1000000000000) (hp : nextR r.rg = p) (hok : p.2.2.2 = true) (hc : 4 < s.l.length ∧ rs0.length + 1 < 4 ∧ 1 < r.wd)
    {W0 Wn W2 : World} {rn : RgR} (hu0 : Upd [] w3 W0) (hB : Born W0 (newR p.2.2.1 ((r.wd + 7) / 8)) Wn rn) (hu2 : Upd [] Wn W2) :
    Calls Tryz.prog 79 #[encD ⟨l.ts, l.top, ⟨rs0 ++ [r'], l.rs.ad, l.rs.cap⟩, l.bot, l.mv, l.cp⟩, encR rn, .slice s.ad s.l.length s.cap] W2 fun e w5 => Then b0 w l (fromRung l.ld (rs0.map RgR.rg) r.rg) W2 e w5 ∧ Upd (Value.slice l.rs.ad (rs0.length + 1) l.rs.cap).ownBlock.toList W2 w5 := by
  obtain ⟨f1, f2, f3, f4, f5, f6⟩ := next_facts hg hm hp hok
  rw [← h.seq] at f1 f2 f6
  have hc2 : 4 < p.2.1.length ∧ (rs0.map RgR.rg).length + 1 < 4 ∧ 1 < r.rg.wd := by rw [← h.seq, List.length_map]; exact hc
  have hu3 := (hu0.thn hB.upd).thn hu2
  have hw0 := hg.wd0; have hw1 := hg.wd1
  have hgn : GoodR rn.rg := by rw [hB.eq]; exact newR_good f3 f4 (by simp only [RgR.rg] at hw0; omega) (by simp only [RgR.rg] at hw1; omega)
  have hO := h.own
  refine (addRung_has _ rn s b0 W2 (hO.stay hu3) (Nat.le_trans h.bw hu3.size) (hB.has.stay hu2) hgn (by rw [hB.eq]; exact lenL_zero (fun i _ => bAt_rep 8 i)) (fun b hb => hB.av b ?_) ((has_own h.sown).stay hu3) (by omega) (by simp only [List.length_append, List.length_singleton]; omega) hmv).mono ?_
  · have hs := hu0.size
    have hbw := h.bw
    rcases hb with hb | hb | hb | hb
    · omega
    · have := (hO.top.lt b hb).2; omega
    · have := (hO.bot.lt b hb).2; omega
    · have := (hO.rs.lt b hb).2; omega
  · rintro e w5 ⟨l', he, h1, h2, h3, h4, h5⟩
    refine ⟨⟨l', he, ?_, h2, fun b hb ha => h3 b (by have e1 := h.sz; have e2 := hu3.size; omega) (tb_av h hl hb ha) (hB.av b (by have e1 := h.sz; have e2 := hu0.size; omega)), h4⟩, by simpa [SlR.v] using h5⟩
    have ew : r.rg.wd = r.wd := rfl
    rw [h1, fromRung_add hp hok hc2, hB.eq, ew]
    simp only [LdR.ld, List.map_append, List.map_cons, List.map_nil, h.req, h.seq]
set_option maxRecDepth 100000 in
set_option maxHeartbeats 8000000 in
theorem takeBucket_has (l : LdR) (rs0 : List RgR) (r : RgR) (b0 : Nat) (w : World) (hO : Own b0 w l) (hb0 : b0 ≤ w.heap.size) (hl : l.rs.l = rs0 ++ [r]) (hr4 : rs0.length ≤ 10) (hg : GoodR r.rg) (hm : ∀ it ∈ itsR r.rg, it.t ≤ MaxT) (hd : DistI (itsR r.rg)) (hn : lenL r.rg.bs ≤ 100000) (hmv : 0 ≤ l.mv ∧ l.mv ≤ 1000000000000) :
    Calls Tryz.prog 55 #[encD l] w (Gran b0 w l (fromRung l.ld (rs0.map RgR.rg) r.rg)) := by
  have hlen : l.rs.l.length = rs0.length + 1 := by rw [hl]; simp
  have hmem : r ∈ l.rs.l := by rw [hl]; simp
  obtain ⟨_, g, cap, ev, hbg, hh⟩ := held_row (L := LR) hO.rs (by rw [hlen]; omega)
  simp only [SlR.v, Value.slice.injEq] at ev
  obtain ⟨hrs, _, hcap⟩ := ev
  have hgt : l.rs.l[rs0.length]'(by omega) = r := by simp [hl]
  have hcell := fun t u (hu : (LR.enc r)[t]? = some u) => hh.cell rs0.length (by omega) t u (by rw [hgt]; exact hu)
  obtain ⟨p, hp⟩ : ∃ p, nextR r.rg = p := ⟨_, rfl⟩
  have HNX : Hid (∀ W, Upd [] w W → Calls Tryz.prog 78 #[encR r] W (GivesRO r p W)) := fun W hu => by rw [← hp]; exact NextO_has r W ((hO.rg r hmem).1.stay hu) hg hn
  have HMK := Lib.hid (fun (W w1 w2 w3 : World) (r' : RgR) (s : SlR It) (hu : Upd [] w W) (hsz : w.heap.size + 2 ≤ W.heap.size) (hn : NextO W p w1 r' s) (hu2 : Upd [] w1 w2) (h3 : w3 = stores w2 g (rs0.length * LR.k) (LR.enc r')) => tb_make hO hb0 hl hrs hu hsz hn hu2 h3)
  have HSR := Lib.hid (fun (w3 : World) (r' : RgR) (s : SlR It) (h : TB b0 w l rs0 p w3 r' s) (hok : p.2.2.2 = true) (hc : ¬ (4 < s.l.length ∧ rs0.length + 1 < 4 ∧ 1 < r.wd)) => tb_sort h hl hg hm hd hn hmv hp hok hc)
  have HAD := Lib.hid (fun (w3 : World) (r' : RgR) (s : SlR It) (h : TB b0 w l rs0 p w3 r' s) (hok : p.2.2.2 = true) (hc : 4 < s.l.length ∧ rs0.length + 1 < 4 ∧ 1 < r.wd) (W0 Wn W2 : World) (rn : RgR) (hu0 : Upd [] w3 W0) (hB : Born W0 (newR p.2.2.1 ((r.wd + 7) / 8)) Wn rn) (hu2 : Upd [] Wn W2) => tb_add h hl hg hm hn hmv hp hok hc hu0 hB hu2)
  have HEND := Lib.hid (fun (W w5 wf : World) (l' : LdR) (hu : Upd [] w W) (hB : ∃ c f, W.heap[w.heap.size + 1]? = some (.cells c 25 f)) (he : l'.ld = fromRung l.ld (rs0.map RgR.rg) r.rg) (hO5 : Own b0 w5 l') (hav : ∀ b, b < w.heap.size ∨ b = w.heap.size + 1 → (∀ r ∈ l.rs.l, AvR r b) → ∀ x ∈ l'.rs.l, AvR x b) (hf : Fr b0 W w5) (hu2 : Upd [w.heap.size + 1] w5 wf) =>
    gran_end (w := w) (l := l) (by omega) hu hB he hO5 hav (fun r hr => (hO.rg r hr).1.avoids (by omega)) hf hu2)
  have HEND2 := Lib.hid (fun (W w5 wf : World) (l' : LdR) (hu : Fr b0 w W) (hB : ∃ c f, W.heap[w.heap.size + 1]? = some (.cells c 25 f)) (he : l'.ld = fromRung l.ld (rs0.map RgR.rg) r.rg) (hO5 : Own b0 w5 l') (hav : ∀ b, b < w.heap.size ∨ b = w.heap.size + 1 → (∀ r ∈ l.rs.l, AvR r b) → ∀ x ∈ l'.rs.l, AvR x b) (hf : Fr b0 W w5) (hu2 : Upd [w.heap.size + 1] w5 wf) =>
    gran_end2 (w := w) (l := l) (by omega) hu hB he hO5 hav (fun r hr => (hO.rg r hr).1.avoids (by omega)) hf hu2)
  have HFG : Hid (∀ (W2 w3 : World), Upd [] w W2 → Upd [g] W2 w3 → Fr b0 w w3) := fun W2 w3 h1 h2 => (Fr.of_upd h2 (fun x hx => by
    simp only [List.mem_singleton] at hx
    subst hx
    obtain ⟨cur, hc, _⟩ := (hh.keep h1 (by simp)).ex
    exact ⟨hbg, fun c f e => by rw [hc] at e; simp at e⟩)).enter h1
  have HNO : Hid (p.2.2.2 = false → ∀ W wf, Upd [] w W → (∃ c f, W.heap[w.heap.size + 1]? = some (.cells c 25 f)) → Upd [w.heap.size + 1] W wf → Gran b0 w l (fromRung l.ld (rs0.map RgR.rg) r.rg) (.returned (.agg #[.int .i64 l.ts, .slice l.top.ad l.top.l.length l.top.cap, .slice l.rs.ad rs0.length l.rs.cap, .slice l.bot.ad l.bot.l.length l.bot.cap, .int .i64 l.mv, .int .i64 l.cp])) wf) := fun hno W wf hu hB hu2 =>
    HEND.out W W wf ⟨l.ts, l.top, ⟨rs0, l.rs.ad, l.rs.cap⟩, l.bot, l.mv, l.cp⟩ hu hB (by rw [fromRung_no hp hno]; rfl) (own_drop (hO.stay hu) hl) (fun b _ ha x hx => ha x (by rw [hl]; exact List.mem_append_left _ hx)) (Fr.refl _ _) hu2
  have HCL := Lib.hid (fun W (hu : Upd [] w W) => And.intro (And.intro (hu.cell (hcell 0 _ rfl).1 (by simp)) (hu.cell (hcell 1 _ rfl).1 (by simp))) (And.intro (hu.cell (hcell 2 _ rfl).1 (by simp)) (hu.cell (hcell 3 _ rfl).1 (by simp))))
  have HFR := Lib.hid (fun (W : World) (hu : Upd [] w W) (o : Nat) => (by obtain ⟨cur, hc, _⟩ := (hh.keep hu (by simp)).ex; exact free_block hc o : W.frozen? ⟨g, o, none⟩ = false))
  have HGT : Hid (g < w.heap.size) := hh.lt
  have HWD : Hid (∀ W, Calls Tryz.prog 81 #[.int .i64 r.wd] W fun e w' => e = .returned (.int .i64 ((r.wd + 7) / 8)) ∧ Upd [] W w') := fun W => Narrow_in r.wd (by have h0 := hg.wd0; have h1 := hg.wd1; simp only [RgR.rg] at h0 h1; omega) W
  have HNW := Lib.hid (fun W => New_has p.2.2.1 ((r.wd + 7) / 8) W)
  have HPW : Hid (p.1.wd = r.wd) := by rw [← hp]; exact (nextR_fr r.rg).2
  have hle := hh.le
  clear hgt hcell
  generalize fromRung l.ld (rs0.map RgR.rg) r.rg = gl at *
  generalize hm0 : rs0.length = m at *
  obtain ⟨ts, ⟨tl, ta, tc⟩, ⟨rl, ra, rc⟩, ⟨bl, ba, bc⟩, mv, cp⟩ := l
  simp only at hlen hrs hcap hmv hle
  subst hrs
  subst hcap
  unfold encD cellsD at HSR HAD
  unfold encR at HAD
  unfold encD cellsD
  simp only [List.length_append, List.length_singleton] at HSR HAD HNO HEND HEND2 HMK ⊢
  have HM0 := Lib.hid hm0
  rw [hm0] at HSR HAD
  generalize hrn : rl.length = rn at *
  generalize tl.length = tn at *
  generalize bl.length = bn at *
  have HLL : Hid ((⟨ts, ⟨tl, ta, tc⟩, ⟨rl, some ⟨g, 0, none⟩, rc⟩, ⟨bl, ba, bc⟩, mv, cp⟩ : LdR).rs.l = rl) := rfl
  generalize (⟨ts, ⟨tl, ta, tc⟩, ⟨rl, some ⟨g, 0, none⟩, rc⟩, ⟨bl, ba, bc⟩, mv, cp⟩ : LdR) = ll at *
  clear hO hb0 hl hg hm hd hn hmem hh hbg hp hm0 hrn
  have hlast : IntKind.i64.wrap ((rn : Int) - 1) = (m : Int) := by rw [IntKind.wrap_i64]; omega
  have hlast2 : (rn : Int) - 1 = (m : Int) := by omega
  have hmz : (m : Int) < (rn : Int) := by omega
  have hmn : m < rn := by omega
  have hmr : m ≤ rc := by omega
  rw [← hlen] at HSR HAD
  have HLEN := Lib.hid hlen
  clear hlen
  go_enter Tryz.func55, Tryz.ntmps55
  go_upto_region 1 with (fail)
  generalize hA : (Obj.cells #[.int .i64 ts, .slice ta tn tc, .slice (some ⟨g, 0, none⟩) rn rc, .slice ba bn bc, .int .i64 mv, .int .i64 cp] 25 : Obj) = A
  generalize hC : (Obj.cells #[.int .i64 0, .slice none 0 0, .slice none 0 0, .slice none 0 0, .int .i64 0, .int .i64 0] 25 : Obj) = C
  obtain ⟨hu, b0', b2, hsz⟩ := two_boxes w A C
  generalize (w.alloc A).alloc C = W at *
  generalize hH : w.heap.size = H at *
  rw [← hA] at b0'
  rw [← hC] at b2
  have HU := Lib.hid hu; have HB0 := Lib.hid b0'; have HB2 := Lib.hid b2; have HH := Lib.hid hH; have HSZ := Lib.hid hsz
  clear hu hA hC b0' b2 hH hsz
  obtain ⟨c0, c1, c2, c3, c4, c5⟩ := cells6 HB0.out
  obtain ⟨⟨k0, k1⟩, k2, k3⟩ := HCL.out W HU.out
  simp only [Nat.add_zero, show LR.k = 4 from rfl] at k0 k1 k2 k3
  clear c0 c1 c3 c4 c5
  have HNX2 := Lib.hid (HNX.out W HU.out)
  unfold encR at HNX2
  go_upto_region 3 with (go_at_call 78; go_loud ((with_reducible refine HNX2.out.mono ?_); rintro e w1 ⟨r', s, rfl, hN⟩; unfold encR; have HN := Lib.hid hN; clear hN))
  have hu2 := (Upd.refl [] w1).alloc (.cells #[.int .i64 r'.fr, .int .i64 r'.wd, .int .i64 r'.cu, .slice r'.bk.ad r'.bk.l.length r'.bk.cap] 53)
  have bP := heap_alloc1 w1 (.cells #[.int .i64 r'.fr, .int .i64 r'.wd, .int .i64 r'.cu, .slice r'.bk.ad r'.bk.l.length r'.bk.cap] 53)
  generalize w1.alloc (.cells #[.int .i64 r'.fr, .int .i64 r'.wd, .int .i64 r'.cu, .slice r'.bk.ad r'.bk.l.length r'.bk.cap] 53) = W2 at *
  have HPG : Hid (H + 2 ≤ w1.heap.size ∧ g < H) := ⟨by have h1 := HN.out.upd.size; have h2 := HSZ.out; omega, HGT.out⟩
  generalize w1.heap.size = P at *
  have HU2 := Lib.hid hu2; have HBP := Lib.hid bP
  have q0 := hu2.at (HN.out.upd.at HB0.out (by simp)) (by simp)
  have q2 := hu2.at (HN.out.upd.at HB2.out (by simp)) (by simp)
  have HUW : Hid (Upd [] w W2) := (HU.out.thn HN.out.upd).thn hu2
  have HQ0 := Lib.hid q0; have HQ2 := Lib.hid q2
  obtain ⟨p1, p2, st, ok⟩ := p
  simp only at HNW HPW HNO HSR HAD ⊢
  clear hu2 bP c2 k0 k1 k2 k3
  obtain ⟨c0, c1, c2, c3, c4, c5⟩ := cells6 q0
  obtain ⟨d0, d1, d2, d3, d4, d5⟩ := free6 q0
  clear q0 q2 c0 c1 c3 c4 c5 d0 d1 d3 d4 d5
  cases ok with
  | false =>
    go_upto_region 5 with (fail)
    have q0 : (W2.setCell ⟨H, 2, none⟩ (.slice (some ⟨g, 0, none⟩) m rc)).heap[H]? = some (.cells #[.int .i64 ts, .slice ta tn tc, .slice (some ⟨g, 0, none⟩) m rc, .slice ba bn bc, .int .i64 mv, .int .i64 cp] 25 (0, 0)) := setCell_block HQ0.out _
    have hU1 := upd_set1 W2 H 2 (.slice (some ⟨g, 0, none⟩) m rc)
    have q2 := hU1.at HQ2.out (by simp)
    have HUA : Hid (Upd [] w (W2.setCell ⟨H, 2, none⟩ (.slice (some ⟨g, 0, none⟩) m rc))) := HUW.out.new hU1 (by have := HH.out; omega)
    generalize W2.setCell ⟨H, 2, none⟩ (.slice (some ⟨g, 0, none⟩) m rc) = w3 at *
    have HQ2' := Lib.hid q2
    clear c2 d2 hU1
    obtain ⟨c0, c1, c2, c3, c4, c5⟩ := cells6 q0
    obtain ⟨z0, z1, z2, z3, z4, z5⟩ := free6 q2
    obtain ⟨y0, y1, y2, y3, y4, y5⟩ := cells6 q2
    clear q0 q2
    go_wp2_with fail
    have p2 := stored6 HQ2'.out (.int .i64 ts) (.slice ta tn tc) (.slice (some ⟨g, 0, none⟩) m rc) (.slice ba bn bc) (.int .i64 mv) (.int .i64 cp)
    have hU5 := upd_set6 w3 (H + 1) (.int .i64 ts) (.slice ta tn tc) (.slice (some ⟨g, 0, none⟩) m rc) (.slice ba bn bc) (.int .i64 mv) (.int .i64 cp)
    generalize (((((w3.setCell ⟨H + 1, 0, none⟩ (.int .i64 ts)).setCell ⟨H + 1, 1, none⟩ (.slice ta tn tc)).setCell ⟨H + 1, 2, none⟩ (.slice (some ⟨g, 0, none⟩) m rc)).setCell ⟨H + 1, 3, none⟩ (.slice ba bn bc)).setCell ⟨H + 1, 4, none⟩ (.int .i64 mv)).setCell ⟨H + 1, 5, none⟩ (.int .i64 cp) = wf at p2 hU5 ⊢
    obtain ⟨r0, r1, r2, r3, r4, r5⟩ := cells6 p2
    exact bodyPost_ret (v := .agg #[.int .i64 ts, .slice ta tn tc, .slice (some ⟨g, 0, none⟩) m rc, .slice ba bn bc, .int .i64 mv, .int .i64 cp]) (by simp [results, Tryz.results55, go_sem, r0, r1, r2, r3, r4, r5]) rfl (HNO.out (by first | rfl | trivial) w3 wf HUA.out ⟨_, _, HQ2'.out⟩ hU5)
  | true =>
    have HCW := HCL.out W2 HUW.out
    obtain ⟨⟨k0, k1⟩, k2, k3⟩ := HCW
    have f0 := HFR.out W2 HUW.out (m * 4)
    have f1 := HFR.out W2 HUW.out (m * 4 + 1)
    have f2 := HFR.out W2 HUW.out (m * 4 + 2)
    have f3 := HFR.out W2 HUW.out (m * 4 + 3)
    simp only [Nat.add_zero, show LR.k = 4 from rfl] at k0 k1 k2 k3
    obtain ⟨p0, p1', p2', p3⟩ := cells4 HBP.out
    clear d2
    go_upto_region 7 with (fail)
    have h3 : ((((W2.setCell ⟨g, m * 4, none⟩ (.int .i64 r'.fr)).setCell ⟨g, m * 4 + 1, none⟩ (.int .i64 r'.wd)).setCell ⟨g, m * 4 + 2, none⟩ (.int .i64 r'.cu)).setCell ⟨g, m * 4 + 3, none⟩ (.slice r'.bk.ad r'.bk.l.length r'.bk.cap)) = stores W2 g (m * LR.k) (LR.enc r') := rfl
    obtain ⟨hTB, hUg⟩ := HMK.out W w1 W2 _ r' s HU.out (by have := HSZ.out; omega) HN.out HU2.out h3
    generalize ((((W2.setCell ⟨g, m * 4, none⟩ (.int .i64 r'.fr)).setCell ⟨g, m * 4 + 1, none⟩ (.int .i64 r'.wd)).setCell ⟨g, m * 4 + 2, none⟩ (.int .i64 r'.cu)).setCell ⟨g, m * 4 + 3, none⟩ (.slice r'.bk.ad r'.bk.l.length r'.bk.cap)) = w3 at *
    have HTB := Lib.hid hTB; have HUG := Lib.hid hUg
    have q0 := hUg.at HQ0.out (by have := HPG.out; simp only [List.mem_singleton]; omega)
    have q2 := hUg.at HQ2.out (by have := HPG.out; simp only [List.mem_singleton]; omega)
    have qp := hUg.at HBP.out (by have := HPG.out; simp only [List.mem_singleton]; omega)
    have HUF := Lib.hid (HFG.out W2 w3 HUW.out hUg)
    have HQ0' := Lib.hid q0; have HQ2' := Lib.hid q2; have HQP := Lib.hid qp
    have HWR : Hid (r'.wd = r.wd) := by have := HTB.out.req; have h2 := HPW.out; simp only at this; rw [← this] at h2; exact h2
    have HSR2 := Lib.hid (HSR.out w3 r' s HTB.out (by first | rfl | trivial))
    have HAD2 := Lib.hid (HAD.out w3 r' s HTB.out (by first | rfl | trivial))
    have HWP : Hid (∀ b, b < H ∨ b = H + 1 → True) := fun _ _ => trivial
    clear h3 hTB hUg c2 k0 k1 k2 k3 f0 f1 f2 f3 p0 p1' p2' p3 HWP
    obtain ⟨c0, c1, c2, c3, c4, c5⟩ := cells6 q0
    obtain ⟨p0, p1', p2', p3⟩ := cells4 qp
    rw [HWR.out] at p1'
    clear q0 q2 qp
    by_cases hc : 4 < s.l.length ∧ rn < 4 ∧ 1 < r.wd
    · have e1 : decide ((4 : Int) < (s.l.length : Int)) = true := by simp; omega
      have e2 : decide ((rn : Int) < 4) = true := by have := HLEN.out; simp; omega
      have e3 : decide ((1 : Int) < r.wd) = true := by simp; omega
      have HAD3 := Lib.hid (HAD2.out hc)
      have HKP := Lib.hid (fun W (hu : Upd [] w3 W) => (⟨hu.cell c0 (by simp), hu.cell c1 (by simp), hu.cell c2 (by simp), hu.cell c3 (by simp), hu.cell c4 (by simp), hu.cell c5 (by simp), hu.cell p1' (by simp)⟩ : W.cell? ⟨H, 0, none⟩ = some (.int .i64 ts) ∧ W.cell? ⟨H, 1, none⟩ = some (.slice ta tn tc) ∧ W.cell? ⟨H, 2, none⟩ = some (.slice (some ⟨g, 0, none⟩) rn rc) ∧ W.cell? ⟨H, 3, none⟩ = some (.slice ba bn bc) ∧ W.cell? ⟨H, 4, none⟩ = some (.int .i64 mv) ∧ W.cell? ⟨H, 5, none⟩ = some (.int .i64 cp) ∧ W.cell? ⟨P, 1, none⟩ = some (.int .i64 r.wd)))
      clear p0 p2' p3
      go_upto_region 8 with (fail)
      go_region_held3 (fun wz => wz.cell? ⟨H, 0, none⟩ = some (.int .i64 ts) ∧ wz.cell? ⟨H, 1, none⟩ = some (.slice ta tn tc) ∧ wz.cell? ⟨H, 2, none⟩ = some (.slice (some ⟨g, 0, none⟩) rn rc) ∧ wz.cell? ⟨H, 3, none⟩ = some (.slice ba bn bc) ∧ wz.cell? ⟨H, 4, none⟩ = some (.int .i64 mv) ∧ wz.cell? ⟨H, 5, none⟩ = some (.int .i64 cp) ∧ wz.cell? ⟨P, 1, none⟩ = some (.int .i64 r.wd)) (first | (with_reducible exact ⟨c0, c1, c2, c3, c4, c5, p1'⟩) | (with_reducible exact ⟨g0, g1, g2, g3, g4, g5, g6⟩) | (refine hkg _ ?_; (repeat (first | (with_reducible exact Upd.refl [H + 1] _) | (with_reducible refine Upd.drew ?_) | refine Upd.setCell ?_ (by simp) _)); done) | (refine HKP.out _ ?_; (repeat (first | (with_reducible exact Upd.refl [] _) | (with_reducible refine Upd.drew ?_) | (with_reducible refine Upd.trans (T := []) ?_ (by assumption) (by simp)) | (with_reducible refine Upd.trans (T := []) ?_ hBn.upd (by simp)))); done)) (first
        | (go_at_call 81; (with_reducible refine (HWD.out _).mono ?_); rintro e w' ⟨rfl, huw⟩)
        | (go_at_call 80; (with_reducible refine (HNW.out _).mono ?_); rintro e wn ⟨rn', rfl, hBn⟩; unfold encR)
        | (go_at_call 79; (with_reducible refine (HAD3.out _ _ _ _ (by (repeat (first | exact Upd.refl [] _ | refine Upd.drew ?_ | refine Upd.trans (T := []) ?_ (by assumption) (by simp)))) hBn (by (repeat (first | exact Upd.refl [] _ | refine Upd.drew ?_)))).mono ?_); rintro e w5 ⟨⟨l', rfl, hR1, hR2, hR3, hR4⟩, hR5⟩; have hqp := hR5.at (hBn.upd.at ((by (repeat (first | exact Upd.refl [] _ | refine Upd.drew ?_ | refine Upd.trans (T := []) ?_ (by assumption) (by simp))) : Upd [] w3 _).at HQP.out (by simp)) (by simp)) (by have := HPG.out; simp [Value.ownBlock]; omega); have g6 := (cells4 hqp).2.1; rw [HWR.out] at g6; have hq := hR4.box (hBn.upd.at ((by (repeat (first | exact Upd.refl [] _ | refine Upd.drew ?_ | refine Upd.trans (T := []) ?_ (by assumption) (by simp))) : Upd [] w3 _).at HQ2'.out (by simp)) (by simp)); obtain ⟨z0, z1, z2, z3, z4, z5⟩ := free6 hq; obtain ⟨y0, y1, y2, y3, y4, y5⟩ := cells6 hq; have hq0 := hR4.box (hBn.upd.at ((by (repeat (first | exact Upd.refl [] _ | refine Upd.drew ?_ | refine Upd.trans (T := []) ?_ (by assumption) (by simp))) : Upd [] w3 _).at HQ0'.out (by simp)) (by simp)); obtain ⟨g0, g1, g2, g3, g4, g5⟩ := cells6 hq0; have HFX : Hid (∃ W2, Fr b0 w W2 ∧ (∃ c f, W2.heap[H + 1]? = some (.cells c 25 f)) ∧ Fr b0 W2 w5) := ⟨_, HUF.out.trans (Fr.of_upd ((by (repeat (first | exact Upd.refl [] _ | refine Upd.drew ?_ | refine Upd.trans (T := []) ?_ (by assumption) (by simp))) : Upd [] w3 _).thn hBn.upd) (by simp)), ⟨_, _, hBn.upd.at ((by (repeat (first | exact Upd.refl [] _ | refine Upd.drew ?_ | refine Upd.trans (T := []) ?_ (by assumption) (by simp))) : Upd [] w3 _).at HQ2'.out (by simp)) (by simp)⟩, hR4⟩; have HRX : Hid (l'.ld = gl ∧ Own b0 w5 l' ∧ (∀ b, b < H ∨ b = H + 1 → (∀ r ∈ ll.rs.l, AvR r b) → ∀ x ∈ l'.rs.l, AvR x b)) := ⟨hR1, hR2, fun b hb ha => hR3 b (by rw [HH.out]; exact hb) ha⟩; have HQF := Lib.hid hq; have hkg := fun W (hu : Upd [H + 1] w5 W) => (⟨hu.cell g0 (by simp), hu.cell g1 (by simp), hu.cell g2 (by simp), hu.cell g3 (by simp), hu.cell g4 (by simp), hu.cell g5 (by simp), hu.cell g6 (by have := HPG.out; simp; omega)⟩ : W.cell? ⟨H, 0, none⟩ = some (.int .i64 ts) ∧ W.cell? ⟨H, 1, none⟩ = some (.slice ta tn tc) ∧ W.cell? ⟨H, 2, none⟩ = some (.slice (some ⟨g, 0, none⟩) rn rc) ∧ W.cell? ⟨H, 3, none⟩ = some (.slice ba bn bc) ∧ W.cell? ⟨H, 4, none⟩ = some (.int .i64 mv) ∧ W.cell? ⟨H, 5, none⟩ = some (.int .i64 cp) ∧ W.cell? ⟨P, 1, none⟩ = some (.int .i64 r.wd)); unfold encD cellsD))
      have p2 := stored6 HQF.out (.int .i64 l'.ts) (.slice l'.top.ad l'.top.l.length l'.top.cap) (.slice l'.rs.ad l'.rs.l.length l'.rs.cap) (.slice l'.bot.ad l'.bot.l.length l'.bot.cap) (.int .i64 l'.mv) (.int .i64 l'.cp)
      have hU5 := upd_set6 w5 (H + 1) (.int .i64 l'.ts) (.slice l'.top.ad l'.top.l.length l'.top.cap) (.slice l'.rs.ad l'.rs.l.length l'.rs.cap) (.slice l'.bot.ad l'.bot.l.length l'.bot.cap) (.int .i64 l'.mv) (.int .i64 l'.cp)
      generalize (((((w5.setCell ⟨H + 1, 0, none⟩ (.int .i64 l'.ts)).setCell ⟨H + 1, 1, none⟩ (.slice l'.top.ad l'.top.l.length l'.top.cap)).setCell ⟨H + 1, 2, none⟩ (.slice l'.rs.ad l'.rs.l.length l'.rs.cap)).setCell ⟨H + 1, 3, none⟩ (.slice l'.bot.ad l'.bot.l.length l'.bot.cap)).setCell ⟨H + 1, 4, none⟩ (.int .i64 l'.mv)).setCell ⟨H + 1, 5, none⟩ (.int .i64 l'.cp) = wf at p2 hU5 ⊢
      obtain ⟨r0, r1, r2, r3, r4, r5⟩ := cells6 p2
      obtain ⟨W9, x1, x2, x3⟩ := HFX.out
      obtain ⟨x4, x5, x6⟩ := HRX.out
      clear hkg c0 c1 c2 c3 c4 c5 g0 g1 g2 g3 g4 g5 g6 y0 y1 y2 y3 y4 y5 z0 z1 z2 z3 z4 z5
      go_wp2_with fail
      exact bodyPost_ret (v := encD l') (by simp [encD, cellsD, results, Tryz.results55, go_sem, r0, r1, r2, r3, r4, r5]) rfl (HEND2.out W9 w5 wf l' x1 x2 x4 x5 (fun b hb ha => x6 b hb (by rw [HLL.out]; exact ha)) x3 hU5)
    · have HSR3 := Lib.hid (HSR2.out hc)
      have hcase : (decide ((4 : Int) < (s.l.length : Int)) = false) ∨ (decide ((4 : Int) < (s.l.length : Int)) = true ∧ decide ((rn : Int) < 4) = false) ∨ (decide ((4 : Int) < (s.l.length : Int)) = true ∧ decide ((rn : Int) < 4) = true ∧ decide ((1 : Int) < r.wd) = false) := by
        have := HLEN.out
        simp only [decide_eq_false_iff_not, decide_eq_true_eq]
        omega
      rcases hcase with e1 | ⟨e1, e2⟩ | ⟨e1, e2, e3⟩
      all_goals
        go_wp2_with (go_at_call 82; go_loud ((with_reducible refine HSR3.out.mono ?_); rintro e w5 ⟨l', rfl, hR1, hR2, hR3, hR4⟩; have hq := hR4.box HQ2'.out; obtain ⟨z0, z1, z2, z3, z4, z5⟩ := free6 hq; obtain ⟨y0, y1, y2, y3, y4, y5⟩ := cells6 hq; have HQF := Lib.hid hq; have HRX : Hid (l'.ld = gl ∧ Own b0 w5 l' ∧ (∀ b, b < H ∨ b = H + 1 → (∀ r ∈ ll.rs.l, AvR r b) → ∀ x ∈ l'.rs.l, AvR x b) ∧ Fr b0 w3 w5) := ⟨hR1, hR2, fun b hb ha => hR3 b (by rw [HH.out]; exact hb) ha, hR4⟩; clear hR1 hR2 hR3 hR4 hq; unfold encD cellsD))
        have p2 := stored6 HQF.out (.int .i64 l'.ts) (.slice l'.top.ad l'.top.l.length l'.top.cap) (.slice l'.rs.ad l'.rs.l.length l'.rs.cap) (.slice l'.bot.ad l'.bot.l.length l'.bot.cap) (.int .i64 l'.mv) (.int .i64 l'.cp)
        have hU5 := upd_set6 w5 (H + 1) (.int .i64 l'.ts) (.slice l'.top.ad l'.top.l.length l'.top.cap) (.slice l'.rs.ad l'.rs.l.length l'.rs.cap) (.slice l'.bot.ad l'.bot.l.length l'.bot.cap) (.int .i64 l'.mv) (.int .i64 l'.cp)
        generalize (((((w5.setCell ⟨H + 1, 0, none⟩ (.int .i64 l'.ts)).setCell ⟨H + 1, 1, none⟩ (.slice l'.top.ad l'.top.l.length l'.top.cap)).setCell ⟨H + 1, 2, none⟩ (.slice l'.rs.ad l'.rs.l.length l'.rs.cap)).setCell ⟨H + 1, 3, none⟩ (.slice l'.bot.ad l'.bot.l.length l'.bot.cap)).setCell ⟨H + 1, 4, none⟩ (.int .i64 l'.mv)).setCell ⟨H + 1, 5, none⟩ (.int .i64 l'.cp) = wf at p2 hU5 ⊢
        obtain ⟨r0, r1, r2, r3, r4, r5⟩ := cells6 p2
        obtain ⟨x4, x5, x6, x7⟩ := HRX.out
        exact bodyPost_ret (v := encD l') (by simp [encD, cellsD, results, Tryz.results55, go_sem, r0, r1, r2, r3, r4, r5]) rfl (HEND2.out w3 w5 wf l' HUF.out ⟨_, _, HQ2'.out⟩ x4 x5 (fun b hb ha => x6 b hb (by rw [HLL.out]; exact ha)) x7 hU5)
end Go.Proofs.YtneodiemgemhfaaGreat
namespace Go.Proofs.YtneodiemgemhfaaGreat
open Go.RowKit Go.Lib

set_option maxRecDepth 100000 in
set_option maxHeartbeats 8000000 in
theorem RFromRung_has (l : LdR) (rs0 : List RgR) (r : RgR) (w : World) (h : HasD w l) (hl : l.rs.l = rs0 ++ [r]) (hg : GoodL l.ld) (hlen : lenD l.ld ≤ 100000) (hmv : 0 ≤ l.mv ∧ l.mv ≤ 1000000000000) :
    Calls Tryz.prog 61 #[encD l] w (GivesRD l (fromRung l.ld (rs0.map RgR.rg) r.rg) w) := by
  have hmem : r ∈ l.rs.l := by rw [hl]; simp
  have hrl : l.rs.l.length ≤ 4 := by have := hg.len; simpa [LdR.ld] using this
  have hok := okRs_mem hg.rs (List.mem_map_of_mem hmem : r.rg ∈ l.ld.rs)
  have hrn := Nat.le_trans (rlen_its hmem) hlen
  obtain ⟨p, hp⟩ : ∃ p, p = nextR r.rg := ⟨_, rfl⟩
  have HNX := Lib.hid (fun W (hu : Upd [] w W) => RNext_has r W ((h.stay hu).rg _ hmem) hok.1 hrn)
  have HFA := Lib.hid (fun (hk : p.2.2.2 = true) => next_facts hok.1 (fun it hit => (hok.2 it hit).2) hp.symm hk)
  rw [← hp] at HNX
  have hgw := hok.1.wd0; have hgw1 := hok.1.wd1
  have HGW : Hid (1 ≤ r.wd ∧ r.wd ≤ 144115188075855873) := ⟨hgw, hgw1⟩
  have HE1 : Hid (∀ l' : LdR, p.2.2.2 = false → l'.ld = { l.ld with rs := rs0.map RgR.rg } → l'.ld = fromRung l.ld (rs0.map RgR.rg) r.rg) := fun l' hk e => by rw [e, fromRung_no hp.symm hk]
  have HE2 : Hid (∀ l' : LdR, p.2.2.2 = true → (4 < p.2.1.length ∧ l.rs.l.length < 4 ∧ 1 < r.wd) → l'.ld = { l.ld with rs := rs0.map RgR.rg ++ [p.1] ++ [spreadR p.2.2.1 ((r.wd + 7) / 8) p.2.1], mv := l.mv + p.2.1.length } → l'.ld = fromRung l.ld (rs0.map RgR.rg) r.rg) := fun l' hk hc e => by
    rw [e, fromRung_add hp.symm hk (by rw [hl] at hc; simp only [List.length_append, List.length_singleton] at hc; simp only [List.length_map]; exact hc)]; rfl
  have HE3 : Hid (∀ l' : LdR, p.2.2.2 = true → ¬ (4 < p.2.1.length ∧ l.rs.l.length < 4 ∧ 1 < r.wd) → l'.ld = { l.ld with rs := rs0.map RgR.rg ++ [p.1], bot := sortI p.2.1, mv := l.mv + p.2.1.length } → l'.ld = fromRung l.ld (rs0.map RgR.rg) r.rg) := fun l' hk hc e => by
    rw [e, fromRung_sort hp.symm hk (by rw [hl] at hc; simp only [List.length_append, List.length_singleton] at hc; simp only [List.length_map]; exact hc)]; rfl
  generalize fromRung l.ld (rs0.map RgR.rg) r.rg = gl at *
  obtain ⟨pr, pi, pf, pk⟩ := p
  simp only at HNX HFA HE1 HE2 HE3
  have HTK : Hid (l.rs.l.take rs0.length = rs0) := by show _ = _; rw [hl]; exact List.take_left
  have HSE : Hid (∀ r' : RgR, l.rs.l.set rs0.length r' = rs0 ++ [r']) := fun r' => by rw [hl]; simp
  have HLA : Hid (∀ hk : rs0.length < l.rs.l.length, l.rs.l[rs0.length] = r) := fun hk => by simp [hl]
  have hnl : l.rs.l.length = rs0.length + 1 := by rw [hl]; simp
  have HRU := Lib.hid (fun (r' : RgR) W (hs : HasS LR W l.rs) => rungs_has l.rs rs0.length r' W hs (by omega) (by omega))
  have HSO := Lib.hid (fun (s : SlR It) W (hs : HasS LI W s) (hn : s.l.length ≤ 100000) => Sort_has s W hs hn)
  have HST : Hid (∀ (H : Nat) (W : World), w.heap.size = H → Upd [] w W → W.heap[H]? = some (.cells (cellsD l) 25 (0, 0)) → InD w W H l W l) := fun H W hH hu hb => InD.start h hu (by omega) hb
  have HMEM := Lib.hid hmem
  have HSUB : Hid (∀ x ∈ rs0, x ∈ l.rs.l) := fun x hx => by rw [hl]; exact List.mem_append_left _ hx
  have HRN := Lib.hid hrn
  have HLL : Hid (encD l = .agg #[.int .i64 l.ts, .slice l.top.ad l.top.l.length l.top.cap, .slice l.rs.ad l.rs.l.length l.rs.cap, .slice l.bot.ad l.bot.l.length l.bot.cap, .int .i64 l.mv, .int .i64 l.cp]) := rfl
  rw [HLL.out]
  have HRG := Lib.hid (fun W (hu : Upd [] w W) => (h.stay hu).rs)
  obtain ⟨n, hn⟩ : ∃ n, n = l.rs.l.length := ⟨_, rfl⟩
  obtain ⟨n1, hn1⟩ : ∃ n1, n1 = rs0.length := ⟨_, rfl⟩
  have HN := Lib.hid hn
  have HN1 := Lib.hid hn1
  rw [← hn, ← hn1] at hnl
  rw [← hn1] at HTK HSE HLA HRU
  rw [← hn] at hrl HE2 HE3 HRU ⊢
  have HNL := Lib.hid hnl
  clear h hl hg hlen hmem hok hp hgw hgw1 HLL hn hn1 hrn hnl
  go_enter Tryz.func61, Tryz.ntmps61
  go_upto_region 1 with (fail)
  generalize hA : (Obj.cells #[.int .i64 l.ts, .slice l.top.ad l.top.l.length l.top.cap, .slice l.rs.ad n l.rs.cap, .slice l.bot.ad l.bot.l.length l.bot.cap, .int .i64 l.mv, .int .i64 l.cp] 25 : Obj) = A
  generalize hC : (Obj.cells #[.int .i64 0, .slice none 0 0, .slice none 0 0, .slice none 0 0, .int .i64 0, .int .i64 0] 25 : Obj) = C
  obtain ⟨hu, b0, b2, hsz⟩ := two_boxes w A C
  generalize (w.alloc A).alloc C = W at *
  generalize hH : w.heap.size = H at *
  rw [← hA, HN.out] at b0
  rw [← hC] at b2
  have HI0 := Lib.hid (HST.out H W rfl hu b0)
  have HB2 := Lib.hid b2; have HH := Lib.hid hH; have HWS := Lib.hid hsz; have HUW := Lib.hid hu
  rw [← HN.out] at b0
  have hk1 : n1 < l.rs.l.length := by have := HN.out; have := HNL.out; omega
  obtain ⟨b, off, hbo, x0, x1, x2, x3⟩ := (HRG.out W hu).row.rung n1 hk1
  rw [HLA.out hk1] at x0 x1 x2 x3
  clear hu hA hC b2 hH hsz HST hk1
  obtain ⟨c0, c1, c2, c3, c4, c5⟩ := cells6 b0
  rw [hbo] at c2
  have HBO := Lib.hid hbo
  have hw0 : IntKind.i64.wrap ((n : Int) - 1) = (n1 : Int) := by have := HNL.out; rw [IntKind.wrap_i64]; omega
  have hltz : (n1 : Int) < (n : Int) := by have := HNL.out; omega
  have hn0 : (0 : Int) ≤ (n1 : Int) := by omega
  have hnx := HNX.out W HUW.out
  have HHR := Lib.hid (HI0.out.has.rg _ HMEM.out)
  have HAVR : Hid (∀ b, AvD l b → AvR r b) := fun b h => h.rg _ HMEM.out
  obtain ⟨fr, wd, cu, bk⟩ := r
  unfold encR at hnx
  simp only at x0 x1 x2 x3 hnx
  have HNXK := Lib.hid hnx
  clear b0 hbo hnx
  go_upto_region 3 with (go_at_call 87; (with_reducible refine HNXK.out.mono ?_); rintro e w1 ⟨r', s, rfl, hN, hG⟩; unfold encR)
  have hal := (Upd.refl [] w1).alloc (.cells #[.int .i64 r'.fr, .int .i64 r'.wd, .int .i64 r'.cu, .slice r'.bk.ad r'.bk.l.length r'.bk.cap] 53)
  have HU2 := Lib.hid (hN.upd.thn hal)
  have HI2 := Lib.hid (HI0.out.stay HU2.out)
  have hqb := heap_alloc1 w1 (.cells #[.int .i64 r'.fr, .int .i64 r'.wd, .int .i64 r'.cu, .slice r'.bk.ad r'.bk.l.length r'.bk.cap] 53)
  have HR2 := Lib.hid (hN.has.stay hal)
  have HS2 := Lib.hid (hG.has.stay hal)
  have HQG : Hid (W.heap.size ≤ w1.heap.size) := hN.upd.size
  have HRAV : Hid (∀ b, b < W.heap.size → AvD l b → AvR r' b) := fun b hb ha => hN.av b hb (HAVR.out b ha)
  have HRE : Hid (r'.rg = pr) := hN.eq
  have HSAV : Hid (∀ b, b < W.heap.size → AvD l b → AvS s b) := fun b hb ha => hG.av b hb (HAVR.out b ha)
  have HSEQ : Hid (s.l = pi) := hG.eq
  clear c0 c1 c2 c3 c4 c5 x0 x1 x2 x3 hal hN hG hw0
  generalize w1.alloc (.cells #[.int .i64 r'.fr, .int .i64 r'.wd, .int .i64 r'.cu, .slice r'.bk.ad r'.bk.l.length r'.bk.cap] 53) = w2 at *
  generalize w1.heap.size = Q at *
  have HQB := Lib.hid hqb
  clear hqb
  obtain ⟨c0, c1, c2, c3, c4, c5⟩ := cells6 HI2.out.cells
  rw [← HN.out, HBO.out] at c2
  cases pk with
  | false =>
    have HE1K := Lib.hid (fun l' => HE1.out l' rfl)
    have hcap := HI2.out.has.rs.le

    rw [← HN.out] at hcap
    have hkc : (n1 : Int) ≤ (l.rs.cap : Int) := by have := HNL.out; omega
    have hkn2 : (n1 : Int) ≤ (n : Int) := by have := HNL.out; omega
    have hu4 := (Upd.refl [] w2).alloc (.cells #[] 53)
    have HR1 : Hid (Row LR (w2.alloc (.cells #[] 53)) (some ⟨b, off, none⟩) rs0) := by
      have := (HI2.out.has.rs.stay hu4).row.part n1
      rw [HTK.out, HBO.out] at this
      exact this
    have hlt0 : H < w2.heap.size := lt_block HI2.out.box
    have hne0 : ¬ H = w2.heap.size := by omega
    have HU4 := Lib.hid hu4
    clear hu4
    go_upto_region 4 with (fail)
    have hq := HU4.out.at HI2.out.cells (by simp)
    rw [← HN.out, HBO.out] at hq
    obtain ⟨z0, z1, z2, z3, z4, z5⟩ := free6 hq
    clear hq
    go_upto_region 5 with (at_builtin; refine app_row tyR rfl _ _ rfl w2.heap.size (.slice (some ⟨w2.heap.size, 0, none⟩) 0 0) 0 [] rfl (World.ownsRow_made w2 #[] 0 (Nat.le_refl _) (Nat.zero_le _) (by simp)) (some ⟨b, off, none⟩) n1 l.rs.cap rs0 (by first | rfl | simp) HN1.out HR1.out (fun e => by simp at e) (by omega) (by simp) ?_; intro v1 w3 hown hgrow; have HU3 : Hid (Upd [] w2 w3) := HU4.out.grown hgrow (fun k hk hl => by simp [Value.ownBlock] at hk; omega); have hq3 := HU3.out.at HI2.out.cells (by simp); obtain ⟨z0, z1, z2, z3, z4, z5⟩ := free6 hq3; obtain ⟨y0, y1, y2, y3, y4, y5⟩ := cells6 hq3; obtain ⟨hnn, ad2, cap2, rfl, hS2, hge2⟩ := hasS_row hown; clear hq3 hown hgrow hnn)
    rw [List.nil_append] at hS2
    have hI3 := HI2.out.rs HU3.out hS2 (fun x hx => (HI2.out.has.rg x (HSUB.out x hx)).stay HU3.out) (fun b hb ha => ⟨avS_ge (n := w2.heap.size) hge2 (Nat.lt_of_lt_of_le hb HI2.out.upd.size), fun x hx => ha.rg x (HSUB.out x hx)⟩)
    simp only at hI3
    rw [← HN1.out] at hI3
    have HI3 := Lib.hid hI3
    clear c0 c1 c2 c3 c4 c5 y0 y1 y2 y3 y4 y5 z0 z1 z2 z3 z4 z5 hS2 hge2 hI3 hlt0 hne0 hkc hkn2 hcap
    with_reducible generalize w3.setCell ⟨H, 2, none⟩ (.slice ad2 n1 cap2) = w4 at HI3 ⊢
    have q2 := HI3.out.other (R := H + 1) (by omega) HB2.out
    have HQ2 := Lib.hid q2
    obtain ⟨c0, c1, c2, c3, c4, c5⟩ := cells6 HI3.out.cells
    obtain ⟨y0, y1, y2, y3, y4, y5⟩ := cells6 q2
    obtain ⟨z0, z1, z2, z3, z4, z5⟩ := free6 q2
    clear q2
    simp only at c0 c1 c2 c3 c4 c5
    rw [← HN1.out] at c2
    go_wp2_with fail
    have p2 := stored6 HQ2.out (.int .i64 l.ts) (.slice l.top.ad l.top.l.length l.top.cap) (.slice ad2 n1 cap2) (.slice l.bot.ad l.bot.l.length l.bot.cap) (.int .i64 l.mv) (.int .i64 l.cp)
    have hU5 := upd_set6 w4 (H + 1) (.int .i64 l.ts) (.slice l.top.ad l.top.l.length l.top.cap) (.slice ad2 n1 cap2) (.slice l.bot.ad l.bot.l.length l.bot.cap) (.int .i64 l.mv) (.int .i64 l.cp)
    with_reducible generalize (((((w4.setCell ⟨H + 1, 0, none⟩ (.int .i64 l.ts)).setCell ⟨H + 1, 1, none⟩ (.slice l.top.ad l.top.l.length l.top.cap)).setCell ⟨H + 1, 2, none⟩ (.slice ad2 n1 cap2)).setCell ⟨H + 1, 3, none⟩ (.slice l.bot.ad l.bot.l.length l.bot.cap)).setCell ⟨H + 1, 4, none⟩ (.int .i64 l.mv)).setCell ⟨H + 1, 5, none⟩ (.int .i64 l.cp) = wf at p2 hU5 ⊢
    obtain ⟨r0, r1, r2, r3, r4, r5⟩ := cells6 p2
    have hfin : GivesRD l gl w (.returned (.agg #[.int .i64 l.ts, .slice l.top.ad l.top.l.length l.top.cap, .slice ad2 n1 cap2, .slice l.bot.ad l.bot.l.length l.bot.cap, .int .i64 l.mv, .int .i64 l.cp])) wf := ⟨⟨l.ts, l.top, ⟨rs0, ad2, cap2⟩, l.bot, l.mv, l.cp⟩, by simp only [encD, cellsD, HN1.out], HI3.out.fin (by have := HH.out; omega) (by have := HWS.out; omega) hU5 (HE1K.out _ rfl)⟩
    exact bodyPost_ret (v := .agg #[.int .i64 l.ts, .slice l.top.ad l.top.l.length l.top.cap, .slice ad2 n1 cap2, .slice l.bot.ad l.bot.l.length l.bot.cap, .int .i64 l.mv, .int .i64 l.cp]) (by simp [results, Tryz.results61, go_sem, r0, r1, r2, r3, r4, r5]) rfl hfin
  | true =>
    obtain ⟨hf0, hf1, hf2, hf3, hf4, hf5⟩ := HFA.out rfl
    have HPI : Hid (s.l.length ≤ 100000) := by show s.l.length ≤ _; rw [HSEQ.out]; exact Nat.le_trans hf1 HRN.out
    have hwd : r'.wd = wd := by have e1 : r'.rg.wd = pr.wd := by rw [HRE.out]
                                have e2 : r'.wd = pr.wd := e1
                                rw [e2]; exact hf4
    have HWD := Lib.hid hwd
    have HPF : Hid (0 ≤ pf ∧ pf ≤ 1152921504606846976) := ⟨hf2, hf3⟩
    have hrr := HRU.out r' w2 HI2.out.has.rs
    rw [HBO.out] at hrr
    unfold encR at hrr
    have HRR := Lib.hid hrr
    obtain ⟨y0, y1, y2, y3⟩ := cells4 HQB.out
    clear hf0 hf1 hf2 hf3 hf4 hf5 hwd hrr
    go_upto_region 7 with (go_at_call 50; (with_reducible refine HRR.out.mono ?_); rintro e w6 ⟨g, cap, rfl, hs, hge, hu⟩; have hq := hu.at HI2.out.cells (by simp); obtain ⟨z0, z1, z2, z3, z4, z5⟩ := free6 hq; obtain ⟨k0, k1, k2, k3, k4, k5⟩ := cells6 hq; clear hq)
    rw [HSE.out] at hs
    have hI6 := HI2.out.rs hu hs (fun x hx => by
      rcases List.mem_append.1 hx with hx | hx
      · exact (HI2.out.has.rg x (HSUB.out x hx)).stay hu
      · rw [List.mem_singleton.1 hx]; exact HR2.out.stay hu) (fun b hb ha => ⟨avS_ge (n := w2.heap.size) (fun a ea => by obtain rfl := Option.some.inj ea; exact hge) (Nat.lt_of_lt_of_le hb HI2.out.upd.size), fun x hx => by
      rcases List.mem_append.1 hx with hx | hx
      · exact ha.rg x (HSUB.out x hx)
      · rw [List.mem_singleton.1 hx]; exact HRAV.out b hb ha⟩)
    have hln : (rs0 ++ [r']).length = n := by have := HN1.out; have := HNL.out; simp; omega
    simp only [hln] at hI6
    have HLN := Lib.hid hln
    have hQ1 := upd_set1 w6 H 2 (.slice (some ⟨g, 0, none⟩) n cap)
    have hne : Q ≠ H := by have h1 := HQG.out; have h2 := HI2.out.lt; omega
    have hq1 := hQ1.at (hu.at HQB.out (by simp)) (by simp [hne])
    have hsit := HS2.out.stay hu
    have hbH : ∀ b, w.heap.size ≤ b → b < W.heap.size → AvS s b := fun b h1 h2 a ea => by have := HSAV.out b h2 (HI0.out.all b h1); exact this a ea
    have hsit := hsit.keep1 hQ1 (hbH H HI0.out.ge HI0.out.lt)
    have HSI := Lib.hid hsit; have HQ1 := Lib.hid hq1
    have HI6 := Lib.hid hI6
    clear hI6 hs hge hu y0 y1 y2 y3 k0 k1 k2 k3 k4 k5 z0 z1 z2 z3 z4 z5 c0 c1 c2 c3 c4 c5 hln hQ1 hq1 hne hsit hbH
    with_reducible generalize w6.setCell ⟨H, 2, none⟩ (.slice (some ⟨g, 0, none⟩) n cap) = w7 at HI6 HSI HQ1 ⊢
    obtain ⟨c0, c1, c2, c3, c4, c5⟩ := cells6 HI6.out.cells
    obtain ⟨z0, z1, z2, z3, z4, z5⟩ := free6 HI6.out.cells
    simp only at c0 c1 c2 c3 c4 c5
    obtain ⟨m, hm⟩ : ∃ m, m = s.l.length := ⟨_, rfl⟩
    have HM := Lib.hid hm
    have hpi := HPI.out
    rw [← hm] at hpi ⊢
    have hw1 : IntKind.i64.wrap (l.mv + (m : Int)) = l.mv + (m : Int) := by rw [IntKind.wrap_i64]; omega
    clear hm
    go_upto_region 8 with (fail)
    have hne : Q ≠ H := by have h1 := HQG.out; have h2 := HI2.out.lt; omega
    have hU4 := upd_set1 w7 H 4 (.int .i64 (l.mv + (m : Int)))
    have HQ2 := Lib.hid (hU4.at HQ1.out (by simp [hne]))
    have HSJ := Lib.hid (HSI.out.keep1 hU4 (fun hn a ea => HSAV.out H HI0.out.lt (HI0.out.all H HI0.out.ge) hn a ea))
    have HI7 := Lib.hid (HI6.out.mv (l.mv + (m : Int)))
    clear c0 c1 c2 c3 c4 c5 z0 z1 z2 z3 z4 z5 hw1 hne hU4
    with_reducible generalize w7.setCell ⟨H, 4, none⟩ (.int .i64 (l.mv + (m : Int))) = w8 at HI7 HQ2 HSJ ⊢
    simp only at HI7
    obtain ⟨c0, c1, c2, c3, c4, c5⟩ := cells6 HI7.out.cells
    obtain ⟨y0, y1, y2, y3⟩ := cells4 HQ2.out
    rw [HWD.out] at y1
    simp only [HLN.out] at c0 c1 c2 c3 c4 c5
    have HSEL : Hid (pi.length = m) := by show pi.length = m; rw [← HSEQ.out, HM.out]
    rw [HSEL.out] at HE2 HE3
    obtain ⟨cnd, hcnd⟩ : ∃ c, c = decide (4 < m ∧ n < 4 ∧ 1 < wd) := ⟨_, rfl⟩
    have HCND := Lib.hid hcnd
    clear hcnd
    go_cut [58] (fun v wx => v = .bool cnd ∧ w8 = wx)
    case first =>
      by_cases q1 : 4 < m
      · have d1 : decide (4 < (m : Int)) = true := by simp; omega
        by_cases q2 : n < 4
        · have d2 : decide ((n : Int) < 4) = true := by simp; omega
          by_cases q3 : 1 < wd
          · have d3 : decide (1 < wd) = true := by simpa using q3
            have HX : Hid (true = cnd) := by show _ = _; rw [HCND.out]; simp [q1, q2, q3]
            go_wp2_with fail
            go_meet
            case rel => exact ⟨by rw [← HX.out], rfl⟩
          · have d3 : decide (1 < wd) = false := by simpa using q3
            have HX : Hid (false = cnd) := by show _ = _; rw [HCND.out]; simp [q3]
            go_wp2_with fail
            go_meet
            case rel => exact ⟨by rw [← HX.out], rfl⟩
        · have d2 : decide ((n : Int) < 4) = false := by simp; omega
          have HX : Hid (false = cnd) := by show _ = _; rw [HCND.out]; simp [q2]
          go_wp2_with fail
          go_meet
          case rel => exact ⟨by rw [← HX.out], rfl⟩
      · have d1 : decide (4 < (m : Int)) = false := by simp; omega
        have HX : Hid (false = cnd) := by show _ = _; rw [HCND.out]; simp [q1]
        go_wp2_with fail
        go_meet
        case rel => exact ⟨by rw [← HX.out], rfl⟩
    case rest =>
    obtain ⟨rfl, hww⟩ := hcut
    subst hww
    cases cnd with
    | true =>
      have HE2K := Lib.hid (fun l' => HE2.out l' (by first | rfl | trivial) (by have := HCND.out; simpa using this.symm))
      have hsp := fun V (hu : Upd [] w8 V) => RSpread_has ⟨l.ts, l.top, ⟨rs0 ++ [r'], some ⟨g, 0, none⟩, cap⟩, l.bot, l.mv + (m : Int), l.cp⟩ pf ((wd + 7) / 8) s V (HI7.out.has.stay hu) (HSJ.out.stay hu) HPI.out (by have := HLN.out; simp only; omega) HPF.out.1 HPF.out.2 (by have := HGW.out; omega) (by have := HGW.out; omega)
      have hgw := HGW.out
      have HNR := Lib.hid (fun W => RNarrow_in wd (by omega) W)
      unfold encD cellsD at hsp
      simp only [HLN.out] at hsp
      rw [← HM.out] at hsp
      have q2 := HI7.out.other (R := H + 1) (by omega) HB2.out
      have HQR := Lib.hid q2
      generalize (wd + 7) / 8 = wn at *
      have HSPK := Lib.hid hsp
      clear hsp q2 hgw
      have hne1 : Q ≠ H + 1 := by have h1 := HQG.out; have h2 := HWS.out; omega
      have HKP := Lib.hid (fun V (hu : Upd [H + 1] w8 V) => (⟨hu.cell c0 (by simp), hu.cell c1 (by simp), hu.cell c2 (by simp), hu.cell c3 (by simp), hu.cell c4 (by simp), hu.cell c5 (by simp), hu.cell y1 (by simp [hne1])⟩ : V.cell? ⟨H, 0, none⟩ = some (.int .i64 l.ts) ∧ V.cell? ⟨H, 1, none⟩ = some (.slice l.top.ad l.top.l.length l.top.cap) ∧ V.cell? ⟨H, 2, none⟩ = some (.slice (some ⟨g, 0, none⟩) n cap) ∧ V.cell? ⟨H, 3, none⟩ = some (.slice l.bot.ad l.bot.l.length l.bot.cap) ∧ V.cell? ⟨H, 4, none⟩ = some (.int .i64 (l.mv + (m : Int))) ∧ V.cell? ⟨H, 5, none⟩ = some (.int .i64 l.cp) ∧ V.cell? ⟨Q, 1, none⟩ = some (.int .i64 wd)))
      go_upto_region 9 with (fail)
      go_region_held3 (fun wz => wz.cell? ⟨H, 0, none⟩ = some (.int .i64 l.ts) ∧ wz.cell? ⟨H, 1, none⟩ = some (.slice l.top.ad l.top.l.length l.top.cap) ∧ wz.cell? ⟨H, 2, none⟩ = some (.slice (some ⟨g, 0, none⟩) n cap) ∧ wz.cell? ⟨H, 3, none⟩ = some (.slice l.bot.ad l.bot.l.length l.bot.cap) ∧ wz.cell? ⟨H, 4, none⟩ = some (.int .i64 (l.mv + (m : Int))) ∧ wz.cell? ⟨H, 5, none⟩ = some (.int .i64 l.cp) ∧ wz.cell? ⟨Q, 1, none⟩ = some (.int .i64 wd)) (first | (with_reducible exact ⟨c0, c1, c2, c3, c4, c5, y1⟩) | (refine HKP.out _ ?_; (repeat (first | (with_reducible exact Upd.refl [H + 1] _) | (with_reducible refine Upd.drew ?_) | refine Upd.setCell ?_ (by simp) _ | refine Upd.trans (T := []) ?_ (by assumption) (by simp))); done)) (first
        | (go_at_call 88; (with_reducible refine (HNR.out _).mono ?_); rintro e w' ⟨rfl, hu1⟩)
        | (go_at_call 85; (with_reducible refine (HSPK.out _ ?_).mono ?_); (repeat (first | exact Upd.refl [] _ | refine Upd.drew ?_ | refine Upd.alloc ?_ _ | refine Upd.trans (T := []) ?_ (by assumption) (by simp))); rintro e w9 ⟨l2, rfl, hN⟩; have hN3 := NxtD.enter (w0 := w8) (by repeat (first | exact Upd.refl [] _ | refine Upd.drew ?_ | refine Upd.trans (T := []) ?_ (by assumption) (by simp))) hN; have hu6 := hN3.upd; have hq := hu6.at HQR.out (by simp); obtain ⟨z0, z1, z2, z3, z4, z5⟩ := free6 hq; obtain ⟨k0, k1, k2, k3, k4, k5⟩ := cells6 hq; have HQF := Lib.hid hq; unfold encD cellsD))
      have hN4 : NxtD w8 ⟨l.ts, l.top, ⟨rs0 ++ [r'], some ⟨g, 0, none⟩, cap⟩, l.bot, l.mv + (m : Int), l.cp⟩ gl w9 l2 := ⟨HE2K.out l2 (by rw [hN3.eq]; simp only [LdR.ld, List.map_append, List.map_cons, List.map_nil, HRE.out, HSEQ.out]), hN3.has, hN3.av, hN3.upd⟩
      have HN4 := Lib.hid hN4
      clear hN hN3 hu6 hq hN4 z0 z1 z2 z3 z4 z5 y0 y1 y2 y3 k0 k1 k2 k3 k4 k5 c0 c1 c2 c3 c4 c5
      have p2 := stored6 HQF.out (.int .i64 l2.ts) (.slice l2.top.ad l2.top.l.length l2.top.cap) (.slice l2.rs.ad l2.rs.l.length l2.rs.cap) (.slice l2.bot.ad l2.bot.l.length l2.bot.cap) (.int .i64 l2.mv) (.int .i64 l2.cp)
      have hU5 := upd_set6 w9 (H + 1) (.int .i64 l2.ts) (.slice l2.top.ad l2.top.l.length l2.top.cap) (.slice l2.rs.ad l2.rs.l.length l2.rs.cap) (.slice l2.bot.ad l2.bot.l.length l2.bot.cap) (.int .i64 l2.mv) (.int .i64 l2.cp)
      with_reducible generalize (((((w9.setCell ⟨H + 1, 0, none⟩ (.int .i64 l2.ts)).setCell ⟨H + 1, 1, none⟩ (.slice l2.top.ad l2.top.l.length l2.top.cap)).setCell ⟨H + 1, 2, none⟩ (.slice l2.rs.ad l2.rs.l.length l2.rs.cap)).setCell ⟨H + 1, 3, none⟩ (.slice l2.bot.ad l2.bot.l.length l2.bot.cap)).setCell ⟨H + 1, 4, none⟩ (.int .i64 l2.mv)).setCell ⟨H + 1, 5, none⟩ (.int .i64 l2.cp) = wf at p2 hU5 ⊢
      go_wp2_with fail
      obtain ⟨r0, r1, r2, r3, r4, r5⟩ := cells6 p2
      have hfin : GivesRD l gl w (.returned (encD l2)) wf := ⟨l2, rfl, HI7.out.next HN4.out (by have := HH.out; omega) (by have := HWS.out; omega) hU5⟩
      exact bodyPost_ret (v := encD l2) (by simp [encD, cellsD, results, Tryz.results61, go_sem, r0, r1, r2, r3, r4, r5]) rfl hfin
    | false =>
      have HE3K := Lib.hid (fun l' => HE3.out l' (by first | rfl | trivial) (by have := HCND.out; simpa using this.symm))
      have hso := HSO.out s w8 HSJ.out HPI.out
      rw [← HM.out] at hso
      have HSOK := Lib.hid hso
      clear hso
      go_upto_region 11 with (go_at_call 25; (with_reducible refine HSOK.out.mono ?_); rintro e w6 ⟨s', rfl, hM⟩; have hq := hM.upd.at HI7.out.cells (by simp); obtain ⟨z0, z1, z2, z3, z4, z5⟩ := free6 hq; obtain ⟨k0, k1, k2, k3, k4, k5⟩ := cells6 hq; clear hq)
      have hI8 := HI7.out.bot hM.upd hM.has (fun b hb _ => avS_ge (n := w8.heap.size) hM.ge (Nat.lt_of_lt_of_le hb HI7.out.upd.size))
      have hme := hM.eq
      simp only at hI8 hme
      have HI8 := Lib.hid hI8
      have HME := Lib.hid hme
      clear hI8 hme hM k0 k1 k2 k3 k4 k5 z0 z1 z2 z3 z4 z5 y0 y1 y2 y3 c0 c1 c2 c3 c4 c5
      with_reducible generalize w6.setCell ⟨H, 3, none⟩ (.slice s'.ad s'.l.length s'.cap) = w9 at HI8 ⊢
      have q2 := HI8.out.other (R := H + 1) (by omega) HB2.out
      have HQR := Lib.hid q2
      obtain ⟨c0, c1, c2, c3, c4, c5⟩ := cells6 HI8.out.cells
      obtain ⟨y0, y1, y2, y3, y4, y5⟩ := cells6 q2
      obtain ⟨z0, z1, z2, z3, z4, z5⟩ := free6 q2
      clear q2
      simp only [HLN.out] at c0 c1 c2 c3 c4 c5
      go_wp2_with fail
      have p2 := stored6 HQR.out (.int .i64 l.ts) (.slice l.top.ad l.top.l.length l.top.cap) (.slice (some ⟨g, 0, none⟩) n cap) (.slice s'.ad s'.l.length s'.cap) (.int .i64 (l.mv + ((m : Nat) : Int))) (.int .i64 l.cp)
      have hU5 := upd_set6 w9 (H + 1) (.int .i64 l.ts) (.slice l.top.ad l.top.l.length l.top.cap) (.slice (some ⟨g, 0, none⟩) n cap) (.slice s'.ad s'.l.length s'.cap) (.int .i64 (l.mv + ((m : Nat) : Int))) (.int .i64 l.cp)
      with_reducible generalize (((((w9.setCell ⟨H + 1, 0, none⟩ (.int .i64 l.ts)).setCell ⟨H + 1, 1, none⟩ (.slice l.top.ad l.top.l.length l.top.cap)).setCell ⟨H + 1, 2, none⟩ (.slice (some ⟨g, 0, none⟩) n cap)).setCell ⟨H + 1, 3, none⟩ (.slice s'.ad s'.l.length s'.cap)).setCell ⟨H + 1, 4, none⟩ (.int .i64 (l.mv + ((m : Nat) : Int)))).setCell ⟨H + 1, 5, none⟩ (.int .i64 l.cp) = wf at p2 hU5 ⊢
      obtain ⟨r0, r1, r2, r3, r4, r5⟩ := cells6 p2
      have hfin : GivesRD l gl w (.returned (.agg #[.int .i64 l.ts, .slice l.top.ad l.top.l.length l.top.cap, .slice (some ⟨g, 0, none⟩) n cap, .slice s'.ad s'.l.length s'.cap, .int .i64 (l.mv + ((m : Nat) : Int)), .int .i64 l.cp])) wf := ⟨⟨l.ts, l.top, ⟨rs0 ++ [r'], some ⟨g, 0, none⟩, cap⟩, s', l.mv + ((m : Nat) : Int), l.cp⟩, by simp only [encD, cellsD, HLN.out], HI8.out.fin (by have := HH.out; omega) (by have := HWS.out; omega) hU5 (HE3K.out _ (by simp only [LdR.ld, List.map_append, List.map_cons, List.map_nil, HRE.out, HSEQ.out, HME.out]))⟩
      exact bodyPost_ret (v := .agg #[.int .i64 l.ts, .slice l.top.ad l.top.l.length l.top.cap, .slice (some ⟨g, 0, none⟩) n cap, .slice s'.ad s'.l.length s'.cap, .int .i64 (l.mv + ((m : Nat) : Int)), .int .i64 l.cp]) (by simp [results, Tryz.results61, go_sem, r0, r1, r2, r3, r4, r5]) rfl hfin
end Go.Proofs.YtneodiemgemhfaaGreat
