
/- The program's takeBucket: what it does to a queue of its own. -/
import Derived.Test.YtpabapjodcafkaaPP
import Derived.Test.YtpabapjodcafkaaPH
namespace Go.Proofs.Ytpabapjodcafkaa
open Go.RowKit Go.Lib

theorem own_ad {ad : Option Addr} {n m c c' : Nat} : (Value.slice ad n c).ownBlock = (Value.slice ad m c').ownBlock := by
  cases ad <;> rfl
theorem own_take {α : Type} {L : Lay α} {te : TypeId} {w : World} {base n : Nat} {ad : Option Addr} {cap : Nat} {l : List α} (m : Nat) (h : w.ownsRow base te L.k (.slice ad n cap) n (L.flat l)) (h0 : 0 < n) (hm : m ≤ l.length) : w.ownsRow base te L.k (.slice ad m cap) m (L.flat (l.take m)) := by
  obtain ⟨hn, g, cap', ev, hb, hh⟩ := held_row (L := L) h h0
  simp only [Value.slice.injEq] at ev
  obtain ⟨rfl, _, rfl⟩ := ev
  have hc := own_cap h
  obtain ⟨cur, h1, h2, h3⟩ := hh.ex
  have hh2 : Held L te w g cap (l.take m) := by
    have hle := hh.le
    have hlm : (l.take m).length = m := by rw [List.length_take, Nat.min_eq_left hm]
    refine ⟨⟨cur, h1, h2, ?_⟩, by omega⟩
    rw [hlm, ← L.flat_take l m hm, ← h3, List.take_take, Nat.min_eq_left (Nat.mul_le_mul_right _ hm)]
  have := hh2.own hb hc
  rw [List.length_take, Nat.min_eq_left hm] at this
  exact this
theorem own_drop {b0 : Nat} {w : World} {l : LdR} (h : Own b0 w l) {rs0 : List RgR} {r : RgR} (hl : l.rs.l = rs0 ++ [r]) : Own b0 w ⟨l.ts, l.top, ⟨rs0, l.rs.ad, l.rs.cap⟩, l.bot, l.mv, l.cp⟩ := by
  have hsub : ∀ x ∈ rs0, x ∈ l.rs.l := fun x hx => by rw [hl]; exact List.mem_append_left _ hx
  have hob : ∀ k, (⟨rs0, l.rs.ad, l.rs.cap⟩ : SlR RgR).v.ownBlock = some k → l.rs.v.ownBlock = some k := fun k hk => by simp only [SlR.v] at hk ⊢; rw [own_ad (m := rs0.length) (c' := l.rs.cap)]; exact hk
  refine ⟨h.top, ?_, h.bot, fun x hx => h.rg x (hsub x hx), fun k hk => ⟨(h.avT k hk).1, fun x hx => (h.avT k hk).2 x (hsub x hx)⟩, fun k hk => ⟨(h.avB k hk).1, fun x hx => (h.avB k hk).2 x (hsub x hx)⟩, fun k hk x hx => h.avR k (hob k hk) x (hsub x hx)⟩
  have h1 := h.rs
  simp only [SlR.v] at h1 ⊢
  have h2 := own_take (L := LR) rs0.length h1 (by rw [hl]; simp) (by rw [hl]; simp)
  rw [hl, List.take_left] at h2
  exact h2
theorem own_put {b0 g : Nat} {W w1 w3 : World} {l : LdR} {rs0 : List RgR} {r r' : RgR} (hO : Own b0 W l) (hl : l.rs.l = rs0 ++ [r]) (hrs : l.rs.ad = some ⟨g, 0, none⟩) (hu : Upd [] W w1) (hr' : HasR w1 r') (hav : ∀ b, b < W.heap.size → AvR r' b) (h3 : w3 = stores w1 g (rs0.length * LR.k) (LR.enc r')) :
    Own b0 w3 ⟨l.ts, l.top, ⟨rs0 ++ [r'], l.rs.ad, l.rs.cap⟩, l.bot, l.mv, l.cp⟩ ∧ Upd [g] w1 w3 := by
  have hown := (hO.stay hu).rs
  obtain ⟨hn, g', cap', ev, hbg, hh⟩ := held_row (L := LR) hown (by rw [hl]; simp)
  simp only [SlR.v, Value.slice.injEq] at ev
  obtain ⟨e1, _, e2⟩ := ev
  rw [hrs] at e1
  simp only [Option.some.injEq, Addr.mk.injEq, and_true] at e1
  subst e1
  have hcap : cap' ≤ maxLen := by rw [← e2]; simp only [SlR.v] at hown; exact own_cap hown
  have hset := hh.set rs0.length (by rw [hl]; simp) r'
  have hU : Upd [g] w1 w3 := by rw [h3]; exact stores_upd _ _ _ _
  rw [← h3] at hset
  have hls : l.rs.l.set rs0.length r' = rs0 ++ [r'] := by rw [hl]; simp
  rw [hls] at hset
  obtain ⟨cur, hc, _⟩ := hh.ex
  have hgl : g < W.heap.size := (hO.rs.lt g (by simp only [SlR.v, Value.ownBlock, hrs])).2
  have hO1 := hO.stay hu
  have hgown : l.rs.v.ownBlock = some g := by simp only [SlR.v, Value.ownBlock, hrs]
  have hmem : ∀ x ∈ rs0 ++ [r'], x ∈ l.rs.l ∨ x = r' := fun x hx => by
    rcases List.mem_append.1 hx with hx | hx
    · exact .inl (by rw [hl]; exact List.mem_append_left _ hx)
    · exact .inr (by simpa using hx)
  refine ⟨⟨hU.row hO1.top (fun x hx hm => ne_own hc hO1.top (by decide) (by simp only [List.mem_singleton] at hm; rw [← hm]; exact hx)), ?_, hU.row hO1.bot (fun x hx hm => ne_own hc hO1.bot (by decide) (by simp only [List.mem_singleton] at hm; rw [← hm]; exact hx)), fun x hx => ?_, fun k hk => ⟨(hO.avT k hk).1, fun x hx => ?_⟩, fun k hk => ⟨(hO.avB k hk).1, fun x hx => ?_⟩, fun k hk x hx => ?_⟩, hU⟩
  · have := hset.own hbg hcap
    simp only [SlR.v, hrs, e2]
    exact this
  · rcases hmem x hx with hx | rfl
    · exact ⟨(hO1.rg x hx).1.keep1 hU (hO.avR g hgown x hx), (hO.rg x hx).2⟩
    · exact ⟨hr'.keep1 hU (hav g hgl), fun b hb => hav b (by omega)⟩
  · rcases hmem x hx with hx | rfl
    · exact (hO.avT k hk).2 x hx
    · exact hav k (hO.top.lt k hk).2
  · rcases hmem x hx with hx | rfl
    · exact (hO.avB k hk).2 x hx
    · exact hav k (hO.bot.lt k hk).2
  · have hk2 : l.rs.v.ownBlock = some k := by simp only [SlR.v] at hk ⊢; rw [own_ad (m := (rs0 ++ [r']).length) (c' := l.rs.cap)]; exact hk
    rcases hmem x hx with hx | rfl
    · exact hO.avR k hk2 x hx
    · exact hav k (hO.rs.lt k hk2).2
end Go.Proofs.Ytpabapjodcafkaa
