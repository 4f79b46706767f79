
/- Contract: the program's takeBucket. -/
import Derived.Test.YtmfnfinbkdemkaaGreatPQ
namespace Go.Proofs.YtmfnfinbkdemkaaGreat
open Go.RowKit Go.Lib

theorem fromRung_no {l : Ld} {rs0 : List Rg} {r : Rg} {p : Rg × List It × Int × Bool} (hp : nextR r = p) (h : p.2.2.2 = false) : fromRung l rs0 r = { l with rs := rs0 } := by
  subst hp; unfold fromRung; rw [if_pos h]
theorem fromRung_add {l : Ld} {rs0 : List Rg} {r : Rg} {p : Rg × List It × Int × Bool} (hp : nextR r = p) (h : p.2.2.2 = true) (h2 : 4 < p.2.1.length ∧ rs0.length + 1 < 4 ∧ 1 < r.wd) : fromRung l rs0 r = { l with rs := rs0 ++ [p.1] ++ [foldR (newR p.2.2.1 ((r.wd + 7) / 8)) p.2.1], mv := l.mv + p.2.1.length } := by
  subst hp; unfold fromRung; rw [if_neg (by rw [h]; decide), if_pos h2]; rfl
theorem fromRung_sort {l : Ld} {rs0 : List Rg} {r : Rg} {p : Rg × List It × Int × Bool} (hp : nextR r = p) (h : p.2.2.2 = true) (h2 : ¬ (4 < p.2.1.length ∧ rs0.length + 1 < 4 ∧ 1 < r.wd)) : fromRung l rs0 r = { l with rs := rs0 ++ [p.1], bot := sortI p.2.1, mv := l.mv + p.2.1.length } := by
  subst hp; unfold fromRung; rw [if_neg (by rw [h]; decide), if_neg h2]
/-- What Next gives of a good rung with items of good times. -/
theorem next_facts {r : Rg} (hg : GoodR r) (hm : ∀ it ∈ itsR r, it.t ≤ MaxT) {p : Rg × List It × Int × Bool} (hp : nextR r = p) (h : p.2.2.2 = true) : 0 < p.2.1.length ∧ p.2.1.length ≤ lenL r.bs ∧ 0 ≤ p.2.2.1 ∧ p.2.2.1 ≤ 1152921504606846976 ∧ p.1.wd = r.wd ∧ p.2.1.Sublist (itsR r) := by
  subst hp
  have hl := next_len r
  rcases nextR_cases r with ⟨i, hi, hne, h0, e⟩ | ⟨_, e⟩
  · have hi8 : i < 8 := by rw [hg.len] at hi; exact hi
    have hpr := hg.prod (i := i) (by omega) (by omega)
    have hf := hg.fr0
    obtain ⟨it, hit⟩ := List.exists_mem_of_ne_nil _ hne
    have hin := (hg.inb i hi8 it hit).1
    have hmt := hm it (mem_itsR.2 ⟨i, hi, hit⟩)
    have hw : (nextR r).1.wd = r.wd := (nextR_fr r).2
    rw [e] at hl hw ⊢
    simp only at hl hw ⊢
    have h0l : 0 < (bAt r.bs i).length := List.length_pos_iff.2 hne
    refine ⟨h0l, by omega, by omega, by unfold MaxT at hmt; omega, hw, ?_⟩
    rw [bAt_get hi]
    unfold itsR
    exact List.sublist_flatten_of_mem (List.getElem_mem hi)
  · rw [e] at h; simp at h
theorem gran_end2 {b0 : Nat} {w W w5 wf : World} {l l' : LdR} {g : Ld} {B : Nat} (hb : w.heap.size ≤ B) (hF : Fr b0 w W) (hB : ∃ c f, W.heap[B]? = some (.cells c 68 f)) (he : l'.ld = g) (hO : Own b0 w5 l') (hav : ∀ b, b < w.heap.size ∨ b = B → (∀ r ∈ l.rs.l, AvR r b) → ∀ x ∈ l'.rs.l, AvR x b) (hl : ∀ r ∈ l.rs.l, AvR r B) (hf : Fr b0 W w5) (hu2 : Upd [B] w5 wf) :
    Gran b0 w l g (.returned (encD l')) wf := by
  obtain ⟨c, f, hB⟩ := hB
  exact ⟨l', rfl, he, hO.box (hf.box hB) (by decide) (hav B (.inr rfl) hl) hu2, fun b hb2 ha => hav b (.inl hb2) ha, (hF.trans hf).new hu2 hb⟩
/-- Behind Next: the queue with the rest of the rung in its place, the list beside it. -/
structure TB (b0 : Nat) (w : World) (l : LdR) (rs0 : List RgR) (p : Rg × List It × Int × Bool) (w3 : World) (r' : RgR) (s : SlR It) : Prop where
  own : Own b0 w3 ⟨l.ts, l.top, ⟨rs0 ++ [r'], l.rs.ad, l.rs.cap⟩, l.bot, l.mv, l.cp⟩
  sown : w3.ownsRow b0 36 3 s.v s.l.length (LI.flat s.l)
  seq : s.l = p.2.1
  req : r'.rg = p.1
  ap : ∀ k, s.v.ownBlock = some k → l.top.v.ownBlock ≠ some k ∧ ∀ x ∈ rs0 ++ [r'], AvR x k
  av : ∀ b, b < w.heap.size ∨ b = w.heap.size + 1 → AvR r' b
  bw : b0 ≤ w3.heap.size
  sz : w.heap.size + 2 ≤ w3.heap.size
theorem tb_make {b0 g : Nat} {w W w1 w2 w3 : World} {l : LdR} {rs0 : List RgR} {r r' : RgR} {p : Rg × List It × Int × Bool} {s : SlR It} (hO : Own b0 w l) (hb0 : b0 ≤ w.heap.size) (hl : l.rs.l = rs0 ++ [r]) (hrs : l.rs.ad = some ⟨g, 0, none⟩) (hu : Upd [] w W) (hsz : w.heap.size + 2 ≤ W.heap.size) (hn : NextO W p w1 r' s) (hu2 : Upd [] w1 w2) (h3 : w3 = stores w2 g (rs0.length * LR.k) (LR.enc r')) :
    TB b0 w l rs0 p w3 r' s ∧ Upd [g] w2 w3 := by
  have hO1 := hO.stay hu
  obtain ⟨h4, hU⟩ := own_put hO1 hl hrs (hn.upd.thn hu2) (hn.has.stay hu2) hn.av h3
  have hown := hO.rs
  obtain ⟨_, g', cap', ev, hbg, hh⟩ := held_row (L := LR) hown (by rw [hl]; simp)
  simp only [SlR.v, Value.slice.injEq] at ev
  obtain ⟨e1, _, _⟩ := ev
  rw [hrs] at e1
  simp only [Option.some.injEq, Addr.mk.injEq, and_true] at e1
  subst e1
  obtain ⟨cur, hc, _⟩ := (hh.keep ((hu.thn hn.upd).thn hu2) (by simp)).ex
  have hs1 := hu.size; have hs2 := hn.upd.size; have hs3 := hu2.size; have hs4 := hU.size
  have hso := row_base (base' := b0) (own_box hc (hu2.row hn.own (by simp)) (by decide) hU) (by omega)
  refine ⟨⟨h4, hso, hn.seq, hn.eq, fun k hk => ⟨fun ht => ?_, fun x hx => ?_⟩, fun b hb => hn.av b (by omega), by omega, by omega⟩, hU⟩
  · have h1 := (hO.top.lt k ht).2
    have h2 := own_ge hn.own k hk
    omega
  · rcases List.mem_append.1 hx with hx | hx
    · exact (hO1.rg x (by rw [hl]; exact List.mem_append_left _ hx)).1.avoids (own_ge hn.own k hk)
    · obtain rfl : x = r' := by simpa using hx
      exact hn.ap k hk
theorem tb_av {b0 : Nat} {w w3 : World} {l : LdR} {rs0 : List RgR} {r r' : RgR} {p : Rg × List It × Int × Bool} {s : SlR It} (h : TB b0 w l rs0 p w3 r' s) (hl : l.rs.l = rs0 ++ [r]) {b : Nat} (hb : b < w.heap.size ∨ b = w.heap.size + 1) (ha : ∀ x ∈ l.rs.l, AvR x b) : ∀ x ∈ rs0 ++ [r'], AvR x b := fun x hx => by
  rcases List.mem_append.1 hx with hx | hx
  · exact ha x (by rw [hl]; exact List.mem_append_left _ hx)
  · obtain rfl : x = r' := by simpa using hx
    exact h.av b hb
def Then (b0 : Nat) (w : World) (l : LdR) (g : Ld) (W : World) (e : Ending) (w5 : World) : Prop := ∃ l', e = .returned (encD l') ∧ l'.ld = g ∧ Own b0 w5 l' ∧ (∀ b, b < w.heap.size ∨ b = w.heap.size + 1 → (∀ r ∈ l.rs.l, AvR r b) → ∀ x ∈ l'.rs.l, AvR x b) ∧ Fr b0 W w5
theorem tb_sort {b0 : Nat} {w w3 : World} {l : LdR} {rs0 : List RgR} {r r' : RgR} {p : Rg × List It × Int × Bool} {s : SlR It} (h : TB b0 w l rs0 p w3 r' s) (hl : l.rs.l = rs0 ++ [r]) (hg : GoodR r.rg) (hm : ∀ it ∈ itsR r.rg, it.t ≤ MaxT) (hd : DistI (itsR r.rg)) (hn : lenL r.rg.bs ≤ 100000) (hmv : 0 ≤ l.mv ∧ l.mv ≤ 1000000000000) (hp : nextR r.rg = p) (hok : p.2.2.2 = true) (hc : ¬ (4 < s.l.length ∧ rs0.length + 1 < 4 ∧ 1 < r.wd)) :
    Calls Tryz.prog 120 #[encD ⟨l.ts, l.top, ⟨rs0 ++ [r'], l.rs.ad, l.rs.cap⟩, l.bot, l.mv, l.cp⟩, .slice s.ad s.l.length s.cap] w3 (Then b0 w l (fromRung l.ld (rs0.map RgR.rg) r.rg) w3) := by
  obtain ⟨f1, f2, f3, f4, f5, f6⟩ := next_facts hg hm hp hok
  rw [← h.seq] at f1 f2 f6
  have hc2 : ¬ (4 < p.2.1.length ∧ (rs0.map RgR.rg).length + 1 < 4 ∧ 1 < r.rg.wd) := by rw [← h.seq, List.length_map]; exact hc
  refine (fillBottom_has _ s b0 w3 h.own h.sown h.ap f1 (by omega) (hd.sublist f6) hmv).mono ?_
  rintro e w5 ⟨l', he, hR⟩
  refine ⟨l', he, ?_, hR.own, fun b hb ha => hR.av b (by have := h.sz; omega) (tb_av h hl hb ha), hR.fr⟩
  rw [hR.eq, fromRung_sort hp hok hc2]
  simp only [LdR.ld, List.map_append, List.map_cons, List.map_nil, h.req, h.seq]
theorem tb_add {b0 : Nat} {w w3 : World} {l : LdR} {rs0 : List RgR} {r r' : RgR} {p : Rg × List It × Int × Bool} {s : SlR It} (h : TB b0 w l rs0 p w3 r' s) (hl : l.rs.l = rs0 ++ [r]) (hg : GoodR r.rg) (hm : ∀ it ∈ itsR r.rg, it.t ≤ MaxT) (hn : lenL r.rg.bs ≤ 100000) (hmv : 0 ≤ l.mv ∧ l.mv ≤ 1000000000000) (hp : nextR r.rg = p) (hok : p.2.2.2 = true) (hc : 4 < s.l.length ∧ rs0.length + 1 < 4 ∧ 1 < r.wd)
    {W0 Wn W2 : World} {rn : RgR} (hu0 : Upd [] w3 W0) (hB : Born W0 (newR p.2.2.1 ((r.wd + 7) / 8)) Wn rn) (hu2 : Upd [] Wn W2) :
    Calls Tryz.prog 117 #[encD ⟨l.ts, l.top, ⟨rs0 ++ [r'], l.rs.ad, l.rs.cap⟩, l.bot, l.mv, l.cp⟩, encR rn, .slice s.ad s.l.length s.cap] W2 fun e w5 => Then b0 w l (fromRung l.ld (rs0.map RgR.rg) r.rg) W2 e w5 ∧ Upd (Value.slice l.rs.ad (rs0.length + 1) l.rs.cap).ownBlock.toList W2 w5 := by
  obtain ⟨f1, f2, f3, f4, f5, f6⟩ := next_facts hg hm hp hok
  rw [← h.seq] at f1 f2 f6
  have hc2 : 4 < p.2.1.length ∧ (rs0.map RgR.rg).length + 1 < 4 ∧ 1 < r.rg.wd := by rw [← h.seq, List.length_map]; exact hc
  have hu3 := (hu0.thn hB.upd).thn hu2
  have hw0 := hg.wd0; have hw1 := hg.wd1
  have hgn : GoodR rn.rg := by rw [hB.eq]; exact newR_good f3 f4 (by simp only [RgR.rg] at hw0; omega) (by simp only [RgR.rg] at hw1; omega)
  have hO := h.own
  refine (addRung_has _ rn s b0 W2 (hO.stay hu3) (Nat.le_trans h.bw hu3.size) (hB.has.stay hu2) hgn (by rw [hB.eq]; exact lenL_zero (fun i _ => bAt_rep 8 i)) (fun b hb => hB.av b ?_) ((has_own h.sown).stay hu3) (by omega) (by simp only [List.length_append, List.length_singleton]; omega) hmv).mono ?_
  · have hs := hu0.size
    have hbw := h.bw
    rcases hb with hb | hb | hb | hb
    · omega
    · have := (hO.top.lt b hb).2; omega
    · have := (hO.bot.lt b hb).2; omega
    · have := (hO.rs.lt b hb).2; omega
  · rintro e w5 ⟨l', he, h1, h2, h3, h4, h5⟩
    refine ⟨⟨l', he, ?_, h2, fun b hb ha => h3 b (by have e1 := h.sz; have e2 := hu3.size; omega) (tb_av h hl hb ha) (hB.av b (by have e1 := h.sz; have e2 := hu0.size; omega)), h4⟩, by simpa [SlR.v] using h5⟩
    have ew : r.rg.wd = r.wd := rfl
    rw [h1, fromRung_add hp hok hc2, hB.eq, ew]
    simp only [LdR.ld, List.map_append, List.map_cons, List.map_nil, h.req, h.seq]
set_option maxRecDepth 100000 in
set_option maxHeartbeats 8000000 in
theorem takeBucket_has (l : LdR) (rs0 : List RgR) (r : RgR) (b0 : Nat) (w : World) (hO : Own b0 w l) (hb0 : b0 ≤ w.heap.size) (hl : l.rs.l = rs0 ++ [r]) (hr4 : rs0.length ≤ 10) (hg : GoodR r.rg) (hm : ∀ it ∈ itsR r.rg, it.t ≤ MaxT) (hd : DistI (itsR r.rg)) (hn : lenL r.rg.bs ≤ 100000) (hmv : 0 ≤ l.mv ∧ l.mv ≤ 1000000000000) :
    Calls Tryz.prog 94 #[encD l] w (Gran b0 w l (fromRung l.ld (rs0.map RgR.rg) r.rg)) := by
  have hlen : l.rs.l.length = rs0.length + 1 := by rw [hl]; simp
  have hmem : r ∈ l.rs.l := by rw [hl]; simp
  obtain ⟨_, g, cap, ev, hbg, hh⟩ := held_row (L := LR) hO.rs (by rw [hlen]; omega)
  simp only [SlR.v, Value.slice.injEq] at ev
  obtain ⟨hrs, _, hcap⟩ := ev
  have hgt : l.rs.l[rs0.length]'(by omega) = r := by simp [hl]
  have hcell := fun t u (hu : (LR.enc r)[t]? = some u) => hh.cell rs0.length (by omega) t u (by rw [hgt]; exact hu)
  obtain ⟨p, hp⟩ : ∃ p, nextR r.rg = p := ⟨_, rfl⟩
  have HNX : Hid (∀ W, Upd [] w W → Calls Tryz.prog 116 #[encR r] W (GivesRO r p W)) := fun W hu => by rw [← hp]; exact NextO_has r W ((hO.rg r hmem).1.stay hu) hg hn
  have HMK := Lib.hid (fun (W w1 w2 w3 : World) (r' : RgR) (s : SlR It) (hu : Upd [] w W) (hsz : w.heap.size + 2 ≤ W.heap.size) (hn : NextO W p w1 r' s) (hu2 : Upd [] w1 w2) (h3 : w3 = stores w2 g (rs0.length * LR.k) (LR.enc r')) => tb_make hO hb0 hl hrs hu hsz hn hu2 h3)
  have HSR := Lib.hid (fun (w3 : World) (r' : RgR) (s : SlR It) (h : TB b0 w l rs0 p w3 r' s) (hok : p.2.2.2 = true) (hc : ¬ (4 < s.l.length ∧ rs0.length + 1 < 4 ∧ 1 < r.wd)) => tb_sort h hl hg hm hd hn hmv hp hok hc)
  have HAD := Lib.hid (fun (w3 : World) (r' : RgR) (s : SlR It) (h : TB b0 w l rs0 p w3 r' s) (hok : p.2.2.2 = true) (hc : 4 < s.l.length ∧ rs0.length + 1 < 4 ∧ 1 < r.wd) (W0 Wn W2 : World) (rn : RgR) (hu0 : Upd [] w3 W0) (hB : Born W0 (newR p.2.2.1 ((r.wd + 7) / 8)) Wn rn) (hu2 : Upd [] Wn W2) => tb_add h hl hg hm hn hmv hp hok hc hu0 hB hu2)
  have HEND := Lib.hid (fun (W w5 wf : World) (l' : LdR) (hu : Upd [] w W) (hB : ∃ c f, W.heap[w.heap.size + 1]? = some (.cells c 68 f)) (he : l'.ld = fromRung l.ld (rs0.map RgR.rg) r.rg) (hO5 : Own b0 w5 l') (hav : ∀ b, b < w.heap.size ∨ b = w.heap.size + 1 → (∀ r ∈ l.rs.l, AvR r b) → ∀ x ∈ l'.rs.l, AvR x b) (hf : Fr b0 W w5) (hu2 : Upd [w.heap.size + 1] w5 wf) =>
    gran_end (w := w) (l := l) (by omega) hu hB he hO5 hav (fun r hr => (hO.rg r hr).1.avoids (by omega)) hf hu2)
  have HEND2 := Lib.hid (fun (W w5 wf : World) (l' : LdR) (hu : Fr b0 w W) (hB : ∃ c f, W.heap[w.heap.size + 1]? = some (.cells c 68 f)) (he : l'.ld = fromRung l.ld (rs0.map RgR.rg) r.rg) (hO5 : Own b0 w5 l') (hav : ∀ b, b < w.heap.size ∨ b = w.heap.size + 1 → (∀ r ∈ l.rs.l, AvR r b) → ∀ x ∈ l'.rs.l, AvR x b) (hf : Fr b0 W w5) (hu2 : Upd [w.heap.size + 1] w5 wf) =>
    gran_end2 (w := w) (l := l) (by omega) hu hB he hO5 hav (fun r hr => (hO.rg r hr).1.avoids (by omega)) hf hu2)
  have HFG : Hid (∀ (W2 w3 : World), Upd [] w W2 → Upd [g] W2 w3 → Fr b0 w w3) := fun W2 w3 h1 h2 => (Fr.of_upd h2 (fun x hx => by
    simp only [List.mem_singleton] at hx
    subst hx
    obtain ⟨cur, hc, _⟩ := (hh.keep h1 (by simp)).ex
    exact ⟨hbg, fun c f e => by rw [hc] at e; simp at e⟩)).enter h1
  have HNO : Hid (p.2.2.2 = false → ∀ W wf, Upd [] w W → (∃ c f, W.heap[w.heap.size + 1]? = some (.cells c 68 f)) → Upd [w.heap.size + 1] W wf → Gran b0 w l (fromRung l.ld (rs0.map RgR.rg) r.rg) (.returned (.agg #[.int .i64 l.ts, .slice l.top.ad l.top.l.length l.top.cap, .slice l.rs.ad rs0.length l.rs.cap, .slice l.bot.ad l.bot.l.length l.bot.cap, .int .i64 l.mv, .int .i64 l.cp])) wf) := fun hno W wf hu hB hu2 =>
    HEND.out W W wf ⟨l.ts, l.top, ⟨rs0, l.rs.ad, l.rs.cap⟩, l.bot, l.mv, l.cp⟩ hu hB (by rw [fromRung_no hp hno]; rfl) (own_drop (hO.stay hu) hl) (fun b _ ha x hx => ha x (by rw [hl]; exact List.mem_append_left _ hx)) (Fr.refl _ _) hu2
  have HCL := Lib.hid (fun W (hu : Upd [] w W) => And.intro (And.intro (hu.cell (hcell 0 _ rfl).1 (by simp)) (hu.cell (hcell 1 _ rfl).1 (by simp))) (And.intro (hu.cell (hcell 2 _ rfl).1 (by simp)) (hu.cell (hcell 3 _ rfl).1 (by simp))))
  have HFR := Lib.hid (fun (W : World) (hu : Upd [] w W) (o : Nat) => (by obtain ⟨cur, hc, _⟩ := (hh.keep hu (by simp)).ex; exact free_block hc o : W.frozen? ⟨g, o, none⟩ = false))
  have HGT : Hid (g < w.heap.size) := hh.lt
  have HWD : Hid (∀ W, Calls Tryz.prog 119 #[.int .i64 r.wd] W fun e w' => e = .returned (.int .i64 ((r.wd + 7) / 8)) ∧ Upd [] W w') := fun W => Narrow_in r.wd (by have h0 := hg.wd0; have h1 := hg.wd1; simp only [RgR.rg] at h0 h1; omega) W
  have HNW := Lib.hid (fun W => New_has p.2.2.1 ((r.wd + 7) / 8) W)
  have HPW : Hid (p.1.wd = r.wd) := by rw [← hp]; exact (nextR_fr r.rg).2
  have hle := hh.le
  clear hgt hcell
  generalize fromRung l.ld (rs0.map RgR.rg) r.rg = gl at *
  generalize hm0 : rs0.length = m at *
  obtain ⟨ts, ⟨tl, ta, tc⟩, ⟨rl, ra, rc⟩, ⟨bl, ba, bc⟩, mv, cp⟩ := l
  simp only at hlen hrs hcap hmv hle
  subst hrs
  subst hcap
  unfold encD cellsD at HSR HAD
  unfold encR at HAD
  unfold encD cellsD
  simp only [List.length_append, List.length_singleton] at HSR HAD HNO HEND HEND2 HMK ⊢
  have HM0 := Lib.hid hm0
  rw [hm0] at HSR HAD
  generalize hrn : rl.length = rn at *
  generalize tl.length = tn at *
  generalize bl.length = bn at *
  have HLL : Hid ((⟨ts, ⟨tl, ta, tc⟩, ⟨rl, some ⟨g, 0, none⟩, rc⟩, ⟨bl, ba, bc⟩, mv, cp⟩ : LdR).rs.l = rl) := rfl
  generalize (⟨ts, ⟨tl, ta, tc⟩, ⟨rl, some ⟨g, 0, none⟩, rc⟩, ⟨bl, ba, bc⟩, mv, cp⟩ : LdR) = ll at *
  clear hO hb0 hl hg hm hd hn hmem hh hbg hp hm0 hrn
  have hlast : IntKind.i64.wrap ((rn : Int) - 1) = (m : Int) := by rw [IntKind.wrap_i64]; omega
  have hlast2 : (rn : Int) - 1 = (m : Int) := by omega
  have hmz : (m : Int) < (rn : Int) := by omega
  have hmn : m < rn := by omega
  have hmr : m ≤ rc := by omega
  rw [← hlen] at HSR HAD
  have HLEN := Lib.hid hlen
  clear hlen
  go_enter Tryz.func94, Tryz.ntmps94
  go_upto_region 1 with (fail)
  generalize hA : (Obj.cells #[.int .i64 ts, .slice ta tn tc, .slice (some ⟨g, 0, none⟩) rn rc, .slice ba bn bc, .int .i64 mv, .int .i64 cp] 68 : Obj) = A
  generalize hC : (Obj.cells #[.int .i64 0, .slice none 0 0, .slice none 0 0, .slice none 0 0, .int .i64 0, .int .i64 0] 68 : Obj) = C
  obtain ⟨hu, b0', b2, hsz⟩ := two_boxes w A C
  generalize (w.alloc A).alloc C = W at *
  generalize hH : w.heap.size = H at *
  rw [← hA] at b0'
  rw [← hC] at b2
  have HU := Lib.hid hu; have HB0 := Lib.hid b0'; have HB2 := Lib.hid b2; have HH := Lib.hid hH; have HSZ := Lib.hid hsz
  clear hu hA hC b0' b2 hH hsz
  obtain ⟨c0, c1, c2, c3, c4, c5⟩ := cells6 HB0.out
  obtain ⟨⟨k0, k1⟩, k2, k3⟩ := HCL.out W HU.out
  simp only [Nat.add_zero, show LR.k = 4 from rfl] at k0 k1 k2 k3
  clear c0 c1 c3 c4 c5
  have HNX2 := Lib.hid (HNX.out W HU.out)
  unfold encR at HNX2
  go_upto_region 3 with (go_at_call 116; go_loud ((with_reducible refine HNX2.out.mono ?_); rintro e w1 ⟨r', s, rfl, hN⟩; unfold encR; have HN := Lib.hid hN; clear hN))
  have hu2 := (Upd.refl [] w1).alloc (.cells #[.int .i64 r'.fr, .int .i64 r'.wd, .int .i64 r'.cu, .slice r'.bk.ad r'.bk.l.length r'.bk.cap] 93)
  have bP := heap_alloc1 w1 (.cells #[.int .i64 r'.fr, .int .i64 r'.wd, .int .i64 r'.cu, .slice r'.bk.ad r'.bk.l.length r'.bk.cap] 93)
  generalize w1.alloc (.cells #[.int .i64 r'.fr, .int .i64 r'.wd, .int .i64 r'.cu, .slice r'.bk.ad r'.bk.l.length r'.bk.cap] 93) = W2 at *
  have HPG : Hid (H + 2 ≤ w1.heap.size ∧ g < H) := ⟨by have h1 := HN.out.upd.size; have h2 := HSZ.out; omega, HGT.out⟩
  generalize w1.heap.size = P at *
  have HU2 := Lib.hid hu2; have HBP := Lib.hid bP
  have q0 := hu2.at (HN.out.upd.at HB0.out (by simp)) (by simp)
  have q2 := hu2.at (HN.out.upd.at HB2.out (by simp)) (by simp)
  have HUW : Hid (Upd [] w W2) := (HU.out.thn HN.out.upd).thn hu2
  have HQ0 := Lib.hid q0; have HQ2 := Lib.hid q2
  obtain ⟨p1, p2, st, ok⟩ := p
  simp only at HNW HPW HNO HSR HAD ⊢
  clear hu2 bP c2 k0 k1 k2 k3
  obtain ⟨c0, c1, c2, c3, c4, c5⟩ := cells6 q0
  obtain ⟨d0, d1, d2, d3, d4, d5⟩ := free6 q0
  clear q0 q2 c0 c1 c3 c4 c5 d0 d1 d3 d4 d5
  cases ok with
  | false =>
    go_upto_region 5 with (fail)
    have q0 : (W2.setCell ⟨H, 2, none⟩ (.slice (some ⟨g, 0, none⟩) m rc)).heap[H]? = some (.cells #[.int .i64 ts, .slice ta tn tc, .slice (some ⟨g, 0, none⟩) m rc, .slice ba bn bc, .int .i64 mv, .int .i64 cp] 68 (0, 0)) := setCell_block HQ0.out _
    have hU1 := upd_set1 W2 H 2 (.slice (some ⟨g, 0, none⟩) m rc)
    have q2 := hU1.at HQ2.out (by simp)
    have HUA : Hid (Upd [] w (W2.setCell ⟨H, 2, none⟩ (.slice (some ⟨g, 0, none⟩) m rc))) := HUW.out.new hU1 (by have := HH.out; omega)
    generalize W2.setCell ⟨H, 2, none⟩ (.slice (some ⟨g, 0, none⟩) m rc) = w3 at *
    have HQ2' := Lib.hid q2
    clear c2 d2 hU1
    obtain ⟨c0, c1, c2, c3, c4, c5⟩ := cells6 q0
    obtain ⟨z0, z1, z2, z3, z4, z5⟩ := free6 q2
    obtain ⟨y0, y1, y2, y3, y4, y5⟩ := cells6 q2
    clear q0 q2
    go_wp2_with fail
    have p2 := stored6 HQ2'.out (.int .i64 ts) (.slice ta tn tc) (.slice (some ⟨g, 0, none⟩) m rc) (.slice ba bn bc) (.int .i64 mv) (.int .i64 cp)
    have hU5 := upd_set6 w3 (H + 1) (.int .i64 ts) (.slice ta tn tc) (.slice (some ⟨g, 0, none⟩) m rc) (.slice ba bn bc) (.int .i64 mv) (.int .i64 cp)
    generalize (((((w3.setCell ⟨H + 1, 0, none⟩ (.int .i64 ts)).setCell ⟨H + 1, 1, none⟩ (.slice ta tn tc)).setCell ⟨H + 1, 2, none⟩ (.slice (some ⟨g, 0, none⟩) m rc)).setCell ⟨H + 1, 3, none⟩ (.slice ba bn bc)).setCell ⟨H + 1, 4, none⟩ (.int .i64 mv)).setCell ⟨H + 1, 5, none⟩ (.int .i64 cp) = wf at p2 hU5 ⊢
    obtain ⟨r0, r1, r2, r3, r4, r5⟩ := cells6 p2
    exact bodyPost_ret (v := .agg #[.int .i64 ts, .slice ta tn tc, .slice (some ⟨g, 0, none⟩) m rc, .slice ba bn bc, .int .i64 mv, .int .i64 cp]) (by simp [results, Tryz.results94, go_sem, r0, r1, r2, r3, r4, r5]) rfl (HNO.out (by first | rfl | trivial) w3 wf HUA.out ⟨_, _, HQ2'.out⟩ hU5)
  | true =>
    have HCW := HCL.out W2 HUW.out
    obtain ⟨⟨k0, k1⟩, k2, k3⟩ := HCW
    have f0 := HFR.out W2 HUW.out (m * 4)
    have f1 := HFR.out W2 HUW.out (m * 4 + 1)
    have f2 := HFR.out W2 HUW.out (m * 4 + 2)
    have f3 := HFR.out W2 HUW.out (m * 4 + 3)
    simp only [Nat.add_zero, show LR.k = 4 from rfl] at k0 k1 k2 k3
    obtain ⟨p0, p1', p2', p3⟩ := cells4 HBP.out
    clear d2
    go_upto_region 7 with (fail)
    have h3 : ((((W2.setCell ⟨g, m * 4, none⟩ (.int .i64 r'.fr)).setCell ⟨g, m * 4 + 1, none⟩ (.int .i64 r'.wd)).setCell ⟨g, m * 4 + 2, none⟩ (.int .i64 r'.cu)).setCell ⟨g, m * 4 + 3, none⟩ (.slice r'.bk.ad r'.bk.l.length r'.bk.cap)) = stores W2 g (m * LR.k) (LR.enc r') := rfl
    obtain ⟨hTB, hUg⟩ := HMK.out W w1 W2 _ r' s HU.out (by have := HSZ.out; omega) HN.out HU2.out h3
    generalize ((((W2.setCell ⟨g, m * 4, none⟩ (.int .i64 r'.fr)).setCell ⟨g, m * 4 + 1, none⟩ (.int .i64 r'.wd)).setCell ⟨g, m * 4 + 2, none⟩ (.int .i64 r'.cu)).setCell ⟨g, m * 4 + 3, none⟩ (.slice r'.bk.ad r'.bk.l.length r'.bk.cap)) = w3 at *
    have HTB := Lib.hid hTB; have HUG := Lib.hid hUg
    have q0 := hUg.at HQ0.out (by have := HPG.out; simp only [List.mem_singleton]; omega)
    have q2 := hUg.at HQ2.out (by have := HPG.out; simp only [List.mem_singleton]; omega)
    have qp := hUg.at HBP.out (by have := HPG.out; simp only [List.mem_singleton]; omega)
    have HUF := Lib.hid (HFG.out W2 w3 HUW.out hUg)
    have HQ0' := Lib.hid q0; have HQ2' := Lib.hid q2; have HQP := Lib.hid qp
    have HWR : Hid (r'.wd = r.wd) := by have := HTB.out.req; have h2 := HPW.out; simp only at this; rw [← this] at h2; exact h2
    have HSR2 := Lib.hid (HSR.out w3 r' s HTB.out (by first | rfl | trivial))
    have HAD2 := Lib.hid (HAD.out w3 r' s HTB.out (by first | rfl | trivial))
    have HWP : Hid (∀ b, b < H ∨ b = H + 1 → True) := fun _ _ => trivial
    clear h3 hTB hUg c2 k0 k1 k2 k3 f0 f1 f2 f3 p0 p1' p2' p3 HWP
    obtain ⟨c0, c1, c2, c3, c4, c5⟩ := cells6 q0
    obtain ⟨p0, p1', p2', p3⟩ := cells4 qp
    rw [HWR.out] at p1'
    clear q0 q2 qp
    by_cases hc : 4 < s.l.length ∧ rn < 4 ∧ 1 < r.wd
    · have e1 : decide ((4 : Int) < (s.l.length : Int)) = true := by simp; omega
      have e2 : decide ((rn : Int) < 4) = true := by have := HLEN.out; simp; omega
      have e3 : decide ((1 : Int) < r.wd) = true := by simp; omega
      have HAD3 := Lib.hid (HAD2.out hc)
      have HKP := Lib.hid (fun W (hu : Upd [] w3 W) => (⟨hu.cell c0 (by simp), hu.cell c1 (by simp), hu.cell c2 (by simp), hu.cell c3 (by simp), hu.cell c4 (by simp), hu.cell c5 (by simp), hu.cell p1' (by simp)⟩ : W.cell? ⟨H, 0, none⟩ = some (.int .i64 ts) ∧ W.cell? ⟨H, 1, none⟩ = some (.slice ta tn tc) ∧ W.cell? ⟨H, 2, none⟩ = some (.slice (some ⟨g, 0, none⟩) rn rc) ∧ W.cell? ⟨H, 3, none⟩ = some (.slice ba bn bc) ∧ W.cell? ⟨H, 4, none⟩ = some (.int .i64 mv) ∧ W.cell? ⟨H, 5, none⟩ = some (.int .i64 cp) ∧ W.cell? ⟨P, 1, none⟩ = some (.int .i64 r.wd)))
      clear p0 p2' p3
      go_upto_region 8 with (fail)
      go_region_held3 (fun wz => wz.cell? ⟨H, 0, none⟩ = some (.int .i64 ts) ∧ wz.cell? ⟨H, 1, none⟩ = some (.slice ta tn tc) ∧ wz.cell? ⟨H, 2, none⟩ = some (.slice (some ⟨g, 0, none⟩) rn rc) ∧ wz.cell? ⟨H, 3, none⟩ = some (.slice ba bn bc) ∧ wz.cell? ⟨H, 4, none⟩ = some (.int .i64 mv) ∧ wz.cell? ⟨H, 5, none⟩ = some (.int .i64 cp) ∧ wz.cell? ⟨P, 1, none⟩ = some (.int .i64 r.wd)) (first | (with_reducible exact ⟨c0, c1, c2, c3, c4, c5, p1'⟩) | (with_reducible exact ⟨g0, g1, g2, g3, g4, g5, g6⟩) | (refine hkg _ ?_; (repeat (first | (with_reducible exact Upd.refl [H + 1] _) | (with_reducible refine Upd.drew ?_) | refine Upd.setCell ?_ (by simp) _)); done) | (refine HKP.out _ ?_; (repeat (first | (with_reducible exact Upd.refl [] _) | (with_reducible refine Upd.drew ?_) | (with_reducible refine Upd.trans (T := []) ?_ (by assumption) (by simp)) | (with_reducible refine Upd.trans (T := []) ?_ hBn.upd (by simp)))); done)) (first
        | (go_at_call 119; (with_reducible refine (HWD.out _).mono ?_); rintro e w' ⟨rfl, huw⟩)
        | (go_at_call 118; (with_reducible refine (HNW.out _).mono ?_); rintro e wn ⟨rn', rfl, hBn⟩; unfold encR)
        | (go_at_call 117; (with_reducible refine (HAD3.out _ _ _ _ (by (repeat (first | exact Upd.refl [] _ | refine Upd.drew ?_ | refine Upd.trans (T := []) ?_ (by assumption) (by simp)))) hBn (by (repeat (first | exact Upd.refl [] _ | refine Upd.drew ?_)))).mono ?_); rintro e w5 ⟨⟨l', rfl, hR1, hR2, hR3, hR4⟩, hR5⟩; have hqp := hR5.at (hBn.upd.at ((by (repeat (first | exact Upd.refl [] _ | refine Upd.drew ?_ | refine Upd.trans (T := []) ?_ (by assumption) (by simp))) : Upd [] w3 _).at HQP.out (by simp)) (by simp)) (by have := HPG.out; simp [Value.ownBlock]; omega); have g6 := (cells4 hqp).2.1; rw [HWR.out] at g6; have hq := hR4.box (hBn.upd.at ((by (repeat (first | exact Upd.refl [] _ | refine Upd.drew ?_ | refine Upd.trans (T := []) ?_ (by assumption) (by simp))) : Upd [] w3 _).at HQ2'.out (by simp)) (by simp)); obtain ⟨z0, z1, z2, z3, z4, z5⟩ := free6 hq; obtain ⟨y0, y1, y2, y3, y4, y5⟩ := cells6 hq; have hq0 := hR4.box (hBn.upd.at ((by (repeat (first | exact Upd.refl [] _ | refine Upd.drew ?_ | refine Upd.trans (T := []) ?_ (by assumption) (by simp))) : Upd [] w3 _).at HQ0'.out (by simp)) (by simp)); obtain ⟨g0, g1, g2, g3, g4, g5⟩ := cells6 hq0; have HFX : Hid (∃ W2, Fr b0 w W2 ∧ (∃ c f, W2.heap[H + 1]? = some (.cells c 68 f)) ∧ Fr b0 W2 w5) := ⟨_, HUF.out.trans (Fr.of_upd ((by (repeat (first | exact Upd.refl [] _ | refine Upd.drew ?_ | refine Upd.trans (T := []) ?_ (by assumption) (by simp))) : Upd [] w3 _).thn hBn.upd) (by simp)), ⟨_, _, hBn.upd.at ((by (repeat (first | exact Upd.refl [] _ | refine Upd.drew ?_ | refine Upd.trans (T := []) ?_ (by assumption) (by simp))) : Upd [] w3 _).at HQ2'.out (by simp)) (by simp)⟩, hR4⟩; have HRX : Hid (l'.ld = gl ∧ Own b0 w5 l' ∧ (∀ b, b < H ∨ b = H + 1 → (∀ r ∈ ll.rs.l, AvR r b) → ∀ x ∈ l'.rs.l, AvR x b)) := ⟨hR1, hR2, fun b hb ha => hR3 b (by rw [HH.out]; exact hb) ha⟩; have HQF := Lib.hid hq; have hkg := fun W (hu : Upd [H + 1] w5 W) => (⟨hu.cell g0 (by simp), hu.cell g1 (by simp), hu.cell g2 (by simp), hu.cell g3 (by simp), hu.cell g4 (by simp), hu.cell g5 (by simp), hu.cell g6 (by have := HPG.out; simp; omega)⟩ : W.cell? ⟨H, 0, none⟩ = some (.int .i64 ts) ∧ W.cell? ⟨H, 1, none⟩ = some (.slice ta tn tc) ∧ W.cell? ⟨H, 2, none⟩ = some (.slice (some ⟨g, 0, none⟩) rn rc) ∧ W.cell? ⟨H, 3, none⟩ = some (.slice ba bn bc) ∧ W.cell? ⟨H, 4, none⟩ = some (.int .i64 mv) ∧ W.cell? ⟨H, 5, none⟩ = some (.int .i64 cp) ∧ W.cell? ⟨P, 1, none⟩ = some (.int .i64 r.wd)); unfold encD cellsD))
      have p2 := stored6 HQF.out (.int .i64 l'.ts) (.slice l'.top.ad l'.top.l.length l'.top.cap) (.slice l'.rs.ad l'.rs.l.length l'.rs.cap) (.slice l'.bot.ad l'.bot.l.length l'.bot.cap) (.int .i64 l'.mv) (.int .i64 l'.cp)
      have hU5 := upd_set6 w5 (H + 1) (.int .i64 l'.ts) (.slice l'.top.ad l'.top.l.length l'.top.cap) (.slice l'.rs.ad l'.rs.l.length l'.rs.cap) (.slice l'.bot.ad l'.bot.l.length l'.bot.cap) (.int .i64 l'.mv) (.int .i64 l'.cp)
      generalize (((((w5.setCell ⟨H + 1, 0, none⟩ (.int .i64 l'.ts)).setCell ⟨H + 1, 1, none⟩ (.slice l'.top.ad l'.top.l.length l'.top.cap)).setCell ⟨H + 1, 2, none⟩ (.slice l'.rs.ad l'.rs.l.length l'.rs.cap)).setCell ⟨H + 1, 3, none⟩ (.slice l'.bot.ad l'.bot.l.length l'.bot.cap)).setCell ⟨H + 1, 4, none⟩ (.int .i64 l'.mv)).setCell ⟨H + 1, 5, none⟩ (.int .i64 l'.cp) = wf at p2 hU5 ⊢
      obtain ⟨r0, r1, r2, r3, r4, r5⟩ := cells6 p2
      obtain ⟨W9, x1, x2, x3⟩ := HFX.out
      obtain ⟨x4, x5, x6⟩ := HRX.out
      clear hkg c0 c1 c2 c3 c4 c5 g0 g1 g2 g3 g4 g5 g6 y0 y1 y2 y3 y4 y5 z0 z1 z2 z3 z4 z5
      go_wp2_with fail
      exact bodyPost_ret (v := encD l') (by simp [encD, cellsD, results, Tryz.results94, go_sem, r0, r1, r2, r3, r4, r5]) rfl (HEND2.out W9 w5 wf l' x1 x2 x4 x5 (fun b hb ha => x6 b hb (by rw [HLL.out]; exact ha)) x3 hU5)
    · have HSR3 := Lib.hid (HSR2.out hc)
      have hcase : (decide ((4 : Int) < (s.l.length : Int)) = false) ∨ (decide ((4 : Int) < (s.l.length : Int)) = true ∧ decide ((rn : Int) < 4) = false) ∨ (decide ((4 : Int) < (s.l.length : Int)) = true ∧ decide ((rn : Int) < 4) = true ∧ decide ((1 : Int) < r.wd) = false) := by
        have := HLEN.out
        simp only [decide_eq_false_iff_not, decide_eq_true_eq]
        omega
      rcases hcase with e1 | ⟨e1, e2⟩ | ⟨e1, e2, e3⟩
      all_goals
        go_wp2_with (go_at_call 120; go_loud ((with_reducible refine HSR3.out.mono ?_); rintro e w5 ⟨l', rfl, hR1, hR2, hR3, hR4⟩; have hq := hR4.box HQ2'.out; obtain ⟨z0, z1, z2, z3, z4, z5⟩ := free6 hq; obtain ⟨y0, y1, y2, y3, y4, y5⟩ := cells6 hq; have HQF := Lib.hid hq; have HRX : Hid (l'.ld = gl ∧ Own b0 w5 l' ∧ (∀ b, b < H ∨ b = H + 1 → (∀ r ∈ ll.rs.l, AvR r b) → ∀ x ∈ l'.rs.l, AvR x b) ∧ Fr b0 w3 w5) := ⟨hR1, hR2, fun b hb ha => hR3 b (by rw [HH.out]; exact hb) ha, hR4⟩; clear hR1 hR2 hR3 hR4 hq; unfold encD cellsD))
        have p2 := stored6 HQF.out (.int .i64 l'.ts) (.slice l'.top.ad l'.top.l.length l'.top.cap) (.slice l'.rs.ad l'.rs.l.length l'.rs.cap) (.slice l'.bot.ad l'.bot.l.length l'.bot.cap) (.int .i64 l'.mv) (.int .i64 l'.cp)
        have hU5 := upd_set6 w5 (H + 1) (.int .i64 l'.ts) (.slice l'.top.ad l'.top.l.length l'.top.cap) (.slice l'.rs.ad l'.rs.l.length l'.rs.cap) (.slice l'.bot.ad l'.bot.l.length l'.bot.cap) (.int .i64 l'.mv) (.int .i64 l'.cp)
        generalize (((((w5.setCell ⟨H + 1, 0, none⟩ (.int .i64 l'.ts)).setCell ⟨H + 1, 1, none⟩ (.slice l'.top.ad l'.top.l.length l'.top.cap)).setCell ⟨H + 1, 2, none⟩ (.slice l'.rs.ad l'.rs.l.length l'.rs.cap)).setCell ⟨H + 1, 3, none⟩ (.slice l'.bot.ad l'.bot.l.length l'.bot.cap)).setCell ⟨H + 1, 4, none⟩ (.int .i64 l'.mv)).setCell ⟨H + 1, 5, none⟩ (.int .i64 l'.cp) = wf at p2 hU5 ⊢
        obtain ⟨r0, r1, r2, r3, r4, r5⟩ := cells6 p2
        obtain ⟨x4, x5, x6, x7⟩ := HRX.out
        exact bodyPost_ret (v := encD l') (by simp [encD, cellsD, results, Tryz.results94, go_sem, r0, r1, r2, r3, r4, r5]) rfl (HEND2.out w3 w5 wf l' HUF.out ⟨_, _, HQ2'.out⟩ x4 x5 (fun b hb ha => x6 b hb (by rw [HLL.out]; exact ha)) x7 hU5)
end Go.Proofs.YtmfnfinbkdemkaaGreat
