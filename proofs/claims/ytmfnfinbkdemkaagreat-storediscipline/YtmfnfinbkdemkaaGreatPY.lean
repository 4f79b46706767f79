
/- The program's Insert: what it does to the copy of a queue. -/
import Derived.Test.YtmfnfinbkdemkaaGreatPB
import Derived.Test.YtmfnfinbkdemkaaGreatPF
namespace Go.Proofs.YtmfnfinbkdemkaaGreat
open Go.RowKit Go.Lib

/-- A box older than the copy is written. -/
theorem Own.old {b0 b : Nat} {w w' : World} {l : LdR} (h : Own b0 w l) (hb : b < b0) (hu : Upd [b] w w') : Own b0 w' l :=
  h.keep1 hu (fun e => by have := own_ge h.top b e; omega) (fun e => by have := own_ge h.rs b e; omega) (fun e => by have := own_ge h.bot b e; omega) (fun r hr => (h.rg r hr).2 b hb)
theorem top_done {b0 : Nat} {w w' : World} {l : LdR} {ad : Option Addr} {cap n : Nat} {t' : List It} {mv cp : Int} (h : Own b0 w l) (hn : n = t'.length) (ho : w'.ownsRow b0 36 3 (.slice ad n cap) n (LI.flat t')) (hu : Upd l.top.v.ownBlock.toList w w') :
    HasD w' ⟨l.ts, ⟨t', ad, cap⟩, l.rs, l.bot, mv, cp⟩ ∧ ∀ b, b < b0 → AvD ⟨l.ts, ⟨t', ad, cap⟩, l.rs, l.bot, mv, cp⟩ b := by
  subst hn
  have hst : w'.ownsRow b0 36 3 (SlR.v ⟨t', ad, cap⟩) t'.length (LI.flat t') := ho
  have hrs := hu.row h.rs (own_apart h.rs h.top (by decide))
  have hS : HasS LR w' l.rs := by
    obtain ⟨_, a, c, e, hS, _⟩ := hasS_row (L := LR) hrs
    obtain ⟨ts, top, ⟨rl, ra, rc⟩, bot, m, c'⟩ := l
    simp only [SlR.v, Value.slice.injEq] at e
    obtain ⟨rfl, _, rfl⟩ := e
    exact hS
  have hD := h.has
  refine ⟨⟨has_own hst, hS, fun r hr => ?_, ?_⟩, fun b hb => ⟨av_own hst hb, (h.av hb).rs, (h.av hb).rg, (h.av hb).bot⟩⟩
  · rcases hx : l.top.v.ownBlock with _ | x
    · rw [hx] at hu; exact (hD.rg r hr).stay hu
    · rw [hx] at hu; exact (hD.rg r hr).keep1 (b := x) hu ((h.avT x hx).2 r hr)
  · rcases hx : l.top.v.ownBlock with _ | x
    · rw [hx] at hu; exact hD.bot.stay hu
    · rw [hx] at hu; exact hD.bot.keep1 (b := x) hu (h.avT x hx).1
theorem bot_done {b0 : Nat} {w w' : World} {l : LdR} {s' : SlR It} {mv cp : Int} (h : Own b0 w l) (hs : HasS LI w' s') (hav : ∀ b, b < b0 → AvS s' b) (hu : Upd l.bot.v.ownBlock.toList w w') :
    HasD w' ⟨l.ts, l.top, l.rs, s', mv, cp⟩ ∧ ∀ b, b < b0 → AvD ⟨l.ts, l.top, l.rs, s', mv, cp⟩ b := by
  have hrs := hu.row h.rs (own_apart h.rs h.bot (by decide))
  have hS : HasS LR w' l.rs := by
    obtain ⟨_, a, c, e, hS, _⟩ := hasS_row (L := LR) hrs
    obtain ⟨ts, top, ⟨rl, ra, rc⟩, bot, m, c'⟩ := l
    simp only [SlR.v, Value.slice.injEq] at e
    obtain ⟨rfl, _, rfl⟩ := e
    exact hS
  have hD := h.has
  refine ⟨⟨?_, hS, fun r hr => ?_, hs⟩, fun b hb => ⟨(h.av hb).top, (h.av hb).rs, (h.av hb).rg, hav b hb⟩⟩
  · rcases hx : l.bot.v.ownBlock with _ | x
    · rw [hx] at hu; exact hD.top.stay hu
    · rw [hx] at hu; exact hD.top.keep1 (b := x) hu (h.avB x hx).1
  · rcases hx : l.bot.v.ownBlock with _ | x
    · rw [hx] at hu; exact (hD.rg r hr).stay hu
    · rw [hx] at hu; exact (hD.rg r hr).keep1 (b := x) hu ((h.avB x hx).2 r hr)
theorem rung_done {b0 g k : Nat} {w w2 w3 : World} {l : LdR} {r r' : RgR} {gr : Rg} {mv cp : Int} (h : Own b0 w l) (hk : k < l.rs.l.length) (hr : l.rs.l[k] = r) (hrs : l.rs.ad = some ⟨g, 0, none⟩) (hn : Nxt w r gr w2 r') (h3 : w3 = stores w2 g (k * LR.k) (LR.enc r')) :
    HasD w3 ⟨l.ts, l.top, ⟨l.rs.l.set k r', l.rs.ad, l.rs.cap⟩, l.bot, mv, cp⟩ ∧ (∀ b, b < b0 → AvD ⟨l.ts, l.top, ⟨l.rs.l.set k r', l.rs.ad, l.rs.cap⟩, l.bot, mv, cp⟩ b) ∧ Upd [g] w2 w3 ∧ b0 ≤ g := by
  have hO := h.stay hn.upd
  have hown := hO.rs
  obtain ⟨_, g', cap', ev, hbg, hh⟩ := held_row (L := LR) hown (by omega)
  simp only [SlR.v, Value.slice.injEq] at ev
  obtain ⟨e1, _, e2⟩ := ev
  rw [hrs] at e1
  simp only [Option.some.injEq, Addr.mk.injEq, and_true] at e1
  subst e1
  have hset := hh.set k hk r'
  have hU : Upd [g] w2 w3 := by rw [h3]; exact stores_upd _ _ _ _
  rw [← h3] at hset
  obtain ⟨cur, hc, _⟩ := hh.ex
  have hgown : l.rs.v.ownBlock = some g := by simp only [SlR.v, Value.ownBlock, hrs]
  have hgl : g < w.heap.size := (h.rs.lt g hgown).2
  have hmem : r ∈ l.rs.l := by rw [← hr]; exact List.getElem_mem hk
  have htop := has_own (own_box hc hO.top (by decide) hU)
  have hbot := has_own (own_box hc hO.bot (by decide) hU)
  have hset2 : HasS LR w3 ⟨l.rs.l.set k r', l.rs.ad, l.rs.cap⟩ := by rw [hrs, e2]; exact hset.has
  refine ⟨⟨htop, hset2, fun x hx => ?_, hbot⟩, fun b hb => ⟨(h.av hb).top, fun _ a ea => ?_, fun x hx => ?_, (h.av hb).bot⟩, hU, hbg⟩
  · rcases List.mem_or_eq_of_mem_set hx with hx | rfl
    · exact (hO.rg x hx).1.keep1 hU (h.avR g hgown x hx)
    · exact hn.has.keep1 hU (hn.av g hgl (h.avR g hgown r hmem))
  · rw [hrs] at ea
    obtain rfl := Option.some.inj ea
    simp only
    omega
  · rcases List.mem_or_eq_of_mem_set hx with hx | rfl
    · exact (h.rg x hx).2 b hb
    · exact hn.av b (by omega) ((h.rg r hmem).2 b hb)
theorem insertL_top {l : Ld} {it : It} (h : l.ts ≤ it.t) : insertL l it = { l with top := l.top ++ [it], mv := l.mv + 1, cp := l.cp + 1 } := by unfold insertL; rw [if_pos h]
theorem insertL_rung {l : Ld} {it : It} (h : ¬ l.ts ≤ it.t) {k : Nat} (hk : k < l.rs.length) (h0 : ∀ j (hj : j < k), ¬ curT (l.rs[j]'(by omega)) ≤ it.t) (h1 : curT l.rs[k] ≤ it.t) : insertL l it = { l with rs := l.rs.set k (putR l.rs[k] it).1, mv := l.mv + 1, cp := l.cp + 1 + (k + 1 : Nat) } := by
  unfold insertL
  rw [if_neg h, insR_at hk h0 h1]
  rfl
theorem insertL_bot {l : Ld} {it : It} (h : ¬ l.ts ≤ it.t) (h0 : ∀ j (hj : j < l.rs.length), ¬ curT l.rs[j] ≤ it.t) : insertL l it = { l with bot := plI l.bot it, mv := l.mv + 1, cp := l.cp + 1 + l.rs.length } := by
  unfold insertL
  rw [if_neg h, insR_no h0]
  rfl
/-- What the search finds is where place puts it. -/
theorem found_pl {l : List It} {it : It} {p : Nat} (hp : p ≤ l.length) (h1 : ∀ i (h : i < l.length), i < p → ltI l[i] it) (h2 : ∀ i (h : i < l.length), p ≤ i → ¬ ltI l[i] it) (hd : ∀ x ∈ l, ¬ eqK it x) : l.take p ++ it :: l.drop p = plI l it := by
  have hpl : plAt it l = p := plAt_is hp (fun i hi hpi => by
    rcases ltI_or it l[i] with h | h | h
    · exact h
    · exact absurd h (hd _ (List.getElem_mem hi))
    · exact absurd h (h2 i hi hpi)) (fun h0 hlt => ltI_asymm hlt (h1 (p - 1) (by omega) (by omega)))
  unfold plI
  rw [hpl]
end Go.Proofs.YtmfnfinbkdemkaaGreat
