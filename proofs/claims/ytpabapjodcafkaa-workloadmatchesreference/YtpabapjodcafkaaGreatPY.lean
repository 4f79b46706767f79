/- Contract: slices.BinarySearchFunc over items. -/
/- The program's Insert: what it does to the copy of a queue. -/
import Derived.Test.YtpabapjodcafkaaGreatPB
import Derived.Test.YtpabapjodcafkaaGreatPD
import Derived.Test.YtpabapjodcafkaaGreatPX
import Derived.Test.YtpabapjodcafkaaGreatPW
namespace Go.Proofs.YtpabapjodcafkaaGreat
open Go.RowKit Go.Lib

/-- What the search gives: the place before which all are less, from which on none is. -/
def FoundAt (l : List It) (it : It) (w : World) (e : Ending) (w' : World) : Prop := ∃ (p : Nat) (b : Bool), e = .returned (.tuple #[.int .i64 p, .bool b]) ∧ p ≤ l.length ∧ (∀ i (h : i < l.length), i < p → ltI l[i] it) ∧ (∀ i (h : i < l.length), p ≤ i → ¬ ltI l[i] it) ∧ Upd [] w w'
set_option maxRecDepth 100000 in
set_option maxHeartbeats 4000000 in
theorem Search_has (a : Option Addr) (c : Nat) (l : List It) (it : It) (w : World) (hr : Row LI w a l) (hl : l.length ≤ 1000000) (hs : SortedI l) :
    Calls Tryz.prog 34 #[.slice a l.length c, aggI it, .func (.func 35) #[] #[]] w (FoundAt l it w) := by
  have HCI := Lib.hid (fun (x : It) W => ((CompareItems_any x it W).mono (R' := fun e w' => e = .returned (.int .i64 (cmpI x it)) ∧ Upd [] W w') (fun e w' h => ⟨h.1, h.2.upd⟩)))
  have HR := Lib.hid hr
  have HS := Lib.hid hs
  have HMO : Hid (∀ i j (hi : i < l.length) (hj : j < l.length), i ≤ j → ltI l[j] it → ltI l[i] it) := fun i j hi hj hij h => by
    by_cases e : i = j
    · subst e; exact h
    · have := (pairwise_at.1 hs) i j hi hj (by omega)
      unfold ltI at *; omega
  have HFN : Hid (∀ (p : Nat) (b : Bool) W, p ≤ l.length → (∀ i (h : i < l.length), i < p → ltI l[i] it) → (∀ i (h : i < l.length), p ≤ i → ¬ ltI l[i] it) → Upd [] w W → FoundAt l it w (.returned (.tuple #[.int .i64 p, .bool b])) W) := fun p b W h1 h2 h3 h4 => ⟨p, b, rfl, h1, h2, h3, h4⟩
  obtain ⟨n, hn⟩ : ∃ n, n = l.length := ⟨_, rfl⟩
  have HN := Lib.hid hn
  rw [← hn] at hl ⊢
  obtain ⟨t1, q1, s1⟩ := it
  unfold aggI at HCI ⊢
  simp only at HCI ⊢
  clear hr hs hn
  have eg : ∀ args w, (callFunc 35 args).run Tryz.prog w = .ok (.enter 35 args) w := enters_of Tryz.func35 (by kernel_rfl) rfl
  go_enter Tryz.func34, Tryz.ntmps34
  go_upto_region 1 with (fail)
  have hu := (Upd.refl [] w).alloc (.cells #[.int .i64 t1, .int .i64 q1, .int .i64 s1] 38)
  have b0 := heap_alloc1 w (.cells #[.int .i64 t1, .int .i64 q1, .int .i64 s1] 38)
  generalize w.alloc (.cells #[.int .i64 t1, .int .i64 q1, .int .i64 s1] 38) = W at *
  generalize w.heap.size = P at *
  have HU := Lib.hid hu; have HB0 := Lib.hid b0
  clear hu b0
  go_wp2_with fail
  go_loopg [9, 10] n (fun gk v9 v10 wr => ∃ lo hi : Nat, v9 = .int .i64 lo ∧ v10 = .int .i64 hi ∧ lo ≤ hi ∧ hi ≤ n ∧ hi - lo ≤ gk ∧ Hid (Upd [] W wr) ∧ Hid ((∀ i (h : i < l.length), i < lo → ltI l[i] ⟨t1, q1, s1⟩) ∧ (∀ i (h : i < l.length), hi ≤ i → ¬ ltI l[i] ⟨t1, q1, s1⟩)))
  case atStart => exact ⟨0, n, rfl, rfl, by omega, by omega, by omega, Lib.hid (Upd.refl _ _), ⟨fun i _ h => by omega, fun i h1 h2 => by have := HN.out; omega⟩⟩
  case round =>
    obtain ⟨lo, hi, rfl, rfl, hlh, hin, hgk, HUR, HIV⟩ := hrel
    by_cases hlt : lo < hi
    · have hltz : (lo : Int) < (hi : Int) := by omega
      have hm1 : (lo + hi) / 2 < l.length := by have := HN.out; omega
      obtain ⟨b, off, hbo, x0, x1, x2⟩ := (HR.out.stay (HU.out.thn HUR.out)).item ((lo + hi) / 2) hm1
      subst hbo
      obtain ⟨c0, c1, c2⟩ := cells3 (HUR.out.at HB0.out (by simp))
      have HCK := Lib.hid (HCI.out l[(lo + hi) / 2])
      have HLO : Hid (cmpI l[(lo + hi) / 2] ⟨t1, q1, s1⟩ < 0 → ∀ i (h : i < l.length), i < (lo + hi) / 2 + 1 → ltI l[i] ⟨t1, q1, s1⟩) := fun h i hi2 hi3 => HMO.out i _ hi2 hm1 (by omega) (cmpI_lt.1 h)
      have HHI : Hid (¬ cmpI l[(lo + hi) / 2] ⟨t1, q1, s1⟩ < 0 → ∀ i (h : i < l.length), (lo + hi) / 2 ≤ i → ¬ ltI l[i] ⟨t1, q1, s1⟩) := fun h i hi2 hi3 hc => h (cmpI_lt.2 (HMO.out _ i hm1 hi2 hi3 hc))
      generalize cmpI l[(lo + hi) / 2] ⟨t1, q1, s1⟩ = r at *
      generalize l[(lo + hi) / 2].t = y0 at *
      generalize l[(lo + hi) / 2].q = y1 at *
      generalize l[(lo + hi) / 2].s = y2 at *
      obtain ⟨m, hm⟩ : ∃ m, m = (lo + hi) / 2 := ⟨_, rfl⟩
      have hmz : (((lo : Int) + (hi : Int)) / 2) = (m : Int) := by omega
      have hmn : (m : Int) < (n : Int) := by omega
      rw [← hm] at x0 x1 x2 HLO HHI
      have hmb : lo ≤ m ∧ m < hi := by omega
      clear hm1 hm
      go_upto_region 5 with (fail)
      have k0 := kept_at c0; have k1 := kept_at c1; have k2 := kept_at c2
      have j0 := kept_at x0; have j1 := kept_at x1; have j2 := kept_at x2
      clear c0 c1 c2 x0 x1 x2
      refine wp_region_quiet_kept mixed (by kernel_rfl) ?_
      repeat (go_big_quiet_step (first | (go_at_call 35; exact calls_kept (HCK.out _))))
      refine wpQuiet_nil ?_
      intro W3 hw'
      obtain ⟨⟨Wx, hu⟩, hw''⟩ := hw'
      simp only at hw''
      subst hw''
      clear k0 k1 k2 j0 j1 j2
      have HU3 := Lib.hid (HUR.out.thn hu)
      clear hu
      by_cases hneg : r < 0
      · have hd : decide (r < 0) = true := by simpa using hneg
        have HL2 := Lib.hid (HLO.out hneg)
        go_wp2_with fail
        go_roundg (hi - (m + 1))
        case measure => omega
        case rel => exact ⟨m + 1, hi, by go_num, rfl, by omega, by omega, by omega, HU3, ⟨HL2.out, HIV.out.2⟩⟩
      · have hd : decide (r < 0) = false := by simpa using hneg
        have HL2 := Lib.hid (HHI.out hneg)
        go_wp2_with fail
        go_roundg (m - lo)
        case measure => omega
        case rel => exact ⟨lo, m, rfl, rfl, by omega, by omega, by omega, HU3, ⟨HIV.out.1, HL2.out⟩⟩
    · have hltz : ¬ (lo : Int) < (hi : Int) := by omega
      obtain rfl : lo = hi := by omega
      go_upto_region 8 with (fail)
      by_cases hln : lo < n
      · have hg : decide ((lo : Int) < (n : Int)) = true := by simp; omega
        have hg2 : (lo : Int) < (n : Int) := by omega
        have hm1 : lo < l.length := by have := HN.out; omega
        obtain ⟨b, off, hbo, x0, x1, x2⟩ := (HR.out.stay (HU.out.thn HUR.out)).item lo hm1
        subst hbo
        obtain ⟨c0, c1, c2⟩ := cells3 (HUR.out.at HB0.out (by simp))
        have HCK := Lib.hid (HCI.out l[lo])
        generalize cmpI l[lo] ⟨t1, q1, s1⟩ = r at *
        generalize l[lo].t = y0 at *
        generalize l[lo].q = y1 at *
        generalize l[lo].s = y2 at *
        have k0 := kept_at c0; have k1 := kept_at c1; have k2 := kept_at c2
        have j0 := kept_at x0; have j1 := kept_at x1; have j2 := kept_at x2
        clear c0 c1 c2 x0 x1 x2 hm1
        refine wp_region_quiet_kept mixed (by kernel_rfl) ?_
        repeat (go_big_quiet_step (first | (go_at_call 35; exact calls_kept (HCK.out _))))
        refine wpQuiet_nil ?_
        intro W3 hw'
        obtain ⟨⟨Wx, hu⟩, hw''⟩ := hw'
        simp only at hw''
        subst hw''
        clear k0 k1 k2 j0 j1 j2
        have HU3 := Lib.hid (HUR.out.thn hu)
        clear hu
        go_wp2_with fail
        go_ret2
        exact HFN.out _ _ _ (by have := HN.out; omega) HIV.out.1 HIV.out.2 (HU.out.thn HU3.out)
      · have hg : decide ((lo : Int) < (n : Int)) = false := by simp; omega
        have hg2 : ¬ (lo : Int) < (n : Int) := by omega
        go_quiet (fail)
        have HU3 := Lib.hid (HUR.out.drewN nq)
        generalize wr.drewN nq = W3 at *
        go_wp2_with fail
        go_ret2
        exact HFN.out _ _ _ (by have := HN.out; omega) HIV.out.1 HIV.out.2 (HU.out.thn HU3.out)
end Go.Proofs.YtpabapjodcafkaaGreat
namespace Go.Proofs.YtpabapjodcafkaaGreat
open Go.RowKit Go.Lib

/-- A box older than the copy is written. -/
theorem Own.old {b0 b : Nat} {w w' : World} {l : LdR} (h : Own b0 w l) (hb : b < b0) (hu : Upd [b] w w') : Own b0 w' l :=
  h.keep1 hu (fun e => by have := own_ge h.top b e; omega) (fun e => by have := own_ge h.rs b e; omega) (fun e => by have := own_ge h.bot b e; omega) (fun r hr => (h.rg r hr).2 b hb)
theorem top_done {b0 : Nat} {w w' : World} {l : LdR} {ad : Option Addr} {cap n : Nat} {t' : List It} {mv cp : Int} (h : Own b0 w l) (hn : n = t'.length) (ho : w'.ownsRow b0 38 3 (.slice ad n cap) n (LI.flat t')) (hu : Upd l.top.v.ownBlock.toList w w') :
    HasD w' ⟨l.ts, ⟨t', ad, cap⟩, l.rs, l.bot, mv, cp⟩ ∧ ∀ b, b < b0 → AvD ⟨l.ts, ⟨t', ad, cap⟩, l.rs, l.bot, mv, cp⟩ b := by
  subst hn
  have hst : w'.ownsRow b0 38 3 (SlR.v ⟨t', ad, cap⟩) t'.length (LI.flat t') := ho
  have hrs := hu.row h.rs (own_apart h.rs h.top (by decide))
  have hS : HasS LR w' l.rs := by
    obtain ⟨_, a, c, e, hS, _⟩ := hasS_row (L := LR) hrs
    obtain ⟨ts, top, ⟨rl, ra, rc⟩, bot, m, c'⟩ := l
    simp only [SlR.v, Value.slice.injEq] at e
    obtain ⟨rfl, _, rfl⟩ := e
    exact hS
  have hD := h.has
  refine ⟨⟨has_own hst, hS, fun r hr => ?_, ?_⟩, fun b hb => ⟨av_own hst hb, (h.av hb).rs, (h.av hb).rg, (h.av hb).bot⟩⟩
  · rcases hx : l.top.v.ownBlock with _ | x
    · rw [hx] at hu; exact (hD.rg r hr).stay hu
    · rw [hx] at hu; exact (hD.rg r hr).keep1 (b := x) hu ((h.avT x hx).2 r hr)
  · rcases hx : l.top.v.ownBlock with _ | x
    · rw [hx] at hu; exact hD.bot.stay hu
    · rw [hx] at hu; exact hD.bot.keep1 (b := x) hu (h.avT x hx).1
theorem bot_done {b0 : Nat} {w w' : World} {l : LdR} {s' : SlR It} {mv cp : Int} (h : Own b0 w l) (hs : HasS LI w' s') (hav : ∀ b, b < b0 → AvS s' b) (hu : Upd l.bot.v.ownBlock.toList w w') :
    HasD w' ⟨l.ts, l.top, l.rs, s', mv, cp⟩ ∧ ∀ b, b < b0 → AvD ⟨l.ts, l.top, l.rs, s', mv, cp⟩ b := by
  have hrs := hu.row h.rs (own_apart h.rs h.bot (by decide))
  have hS : HasS LR w' l.rs := by
    obtain ⟨_, a, c, e, hS, _⟩ := hasS_row (L := LR) hrs
    obtain ⟨ts, top, ⟨rl, ra, rc⟩, bot, m, c'⟩ := l
    simp only [SlR.v, Value.slice.injEq] at e
    obtain ⟨rfl, _, rfl⟩ := e
    exact hS
  have hD := h.has
  refine ⟨⟨?_, hS, fun r hr => ?_, hs⟩, fun b hb => ⟨(h.av hb).top, (h.av hb).rs, (h.av hb).rg, hav b hb⟩⟩
  · rcases hx : l.bot.v.ownBlock with _ | x
    · rw [hx] at hu; exact hD.top.stay hu
    · rw [hx] at hu; exact hD.top.keep1 (b := x) hu (h.avB x hx).1
  · rcases hx : l.bot.v.ownBlock with _ | x
    · rw [hx] at hu; exact (hD.rg r hr).stay hu
    · rw [hx] at hu; exact (hD.rg r hr).keep1 (b := x) hu ((h.avB x hx).2 r hr)
theorem rung_done {b0 g k : Nat} {w w2 w3 : World} {l : LdR} {r r' : RgR} {gr : Rg} {mv cp : Int} (h : Own b0 w l) (hk : k < l.rs.l.length) (hr : l.rs.l[k] = r) (hrs : l.rs.ad = some ⟨g, 0, none⟩) (hn : Nxt w r gr w2 r') (h3 : w3 = stores w2 g (k * LR.k) (LR.enc r')) :
    HasD w3 ⟨l.ts, l.top, ⟨l.rs.l.set k r', l.rs.ad, l.rs.cap⟩, l.bot, mv, cp⟩ ∧ (∀ b, b < b0 → AvD ⟨l.ts, l.top, ⟨l.rs.l.set k r', l.rs.ad, l.rs.cap⟩, l.bot, mv, cp⟩ b) ∧ Upd [g] w2 w3 ∧ b0 ≤ g := by
  have hO := h.stay hn.upd
  have hown := hO.rs
  obtain ⟨_, g', cap', ev, hbg, hh⟩ := held_row (L := LR) hown (by omega)
  simp only [SlR.v, Value.slice.injEq] at ev
  obtain ⟨e1, _, e2⟩ := ev
  rw [hrs] at e1
  simp only [Option.some.injEq, Addr.mk.injEq, and_true] at e1
  subst e1
  have hset := hh.set k hk r'
  have hU : Upd [g] w2 w3 := by rw [h3]; exact stores_upd _ _ _ _
  rw [← h3] at hset
  obtain ⟨cur, hc, _⟩ := hh.ex
  have hgown : l.rs.v.ownBlock = some g := by simp only [SlR.v, Value.ownBlock, hrs]
  have hgl : g < w.heap.size := (h.rs.lt g hgown).2
  have hmem : r ∈ l.rs.l := by rw [← hr]; exact List.getElem_mem hk
  have htop := has_own (own_box hc hO.top (by decide) hU)
  have hbot := has_own (own_box hc hO.bot (by decide) hU)
  have hset2 : HasS LR w3 ⟨l.rs.l.set k r', l.rs.ad, l.rs.cap⟩ := by rw [hrs, e2]; exact hset.has
  refine ⟨⟨htop, hset2, fun x hx => ?_, hbot⟩, fun b hb => ⟨(h.av hb).top, fun _ a ea => ?_, fun x hx => ?_, (h.av hb).bot⟩, hU, hbg⟩
  · rcases List.mem_or_eq_of_mem_set hx with hx | rfl
    · exact (hO.rg x hx).1.keep1 hU (h.avR g hgown x hx)
    · exact hn.has.keep1 hU (hn.av g hgl (h.avR g hgown r hmem))
  · rw [hrs] at ea
    obtain rfl := Option.some.inj ea
    simp only
    omega
  · rcases List.mem_or_eq_of_mem_set hx with hx | rfl
    · exact (h.rg x hx).2 b hb
    · exact hn.av b (by omega) ((h.rg r hmem).2 b hb)
theorem insertL_top {l : Ld} {it : It} (h : l.ts ≤ it.t) : insertL l it = { l with top := l.top ++ [it], mv := l.mv + 1, cp := l.cp + 1 } := by unfold insertL; rw [if_pos h]
theorem insertL_rung {l : Ld} {it : It} (h : ¬ l.ts ≤ it.t) {k : Nat} (hk : k < l.rs.length) (h0 : ∀ j (hj : j < k), ¬ curT (l.rs[j]'(by omega)) ≤ it.t) (h1 : curT l.rs[k] ≤ it.t) : insertL l it = { l with rs := l.rs.set k (putR l.rs[k] it).1, mv := l.mv + 1, cp := l.cp + 1 + (k + 1 : Nat) } := by
  unfold insertL
  rw [if_neg h, insR_at hk h0 h1]
  rfl
theorem insertL_bot {l : Ld} {it : It} (h : ¬ l.ts ≤ it.t) (h0 : ∀ j (hj : j < l.rs.length), ¬ curT l.rs[j] ≤ it.t) : insertL l it = { l with bot := plI l.bot it, mv := l.mv + 1, cp := l.cp + 1 + l.rs.length } := by
  unfold insertL
  rw [if_neg h, insR_no h0]
  rfl
/-- What the search finds is where place puts it. -/
theorem found_pl {l : List It} {it : It} {p : Nat} (hp : p ≤ l.length) (h1 : ∀ i (h : i < l.length), i < p → ltI l[i] it) (h2 : ∀ i (h : i < l.length), p ≤ i → ¬ ltI l[i] it) (hd : ∀ x ∈ l, ¬ eqK it x) : l.take p ++ it :: l.drop p = plI l it := by
  have hpl : plAt it l = p := plAt_is hp (fun i hi hpi => by
    rcases ltI_or it l[i] with h | h | h
    · exact h
    · exact absurd h (hd _ (List.getElem_mem hi))
    · exact absurd h (h2 i hi hpi)) (fun h0 hlt => ltI_asymm hlt (h1 (p - 1) (by omega) (by omega)))
  unfold plI
  rw [hpl]
end Go.Proofs.YtpabapjodcafkaaGreat
