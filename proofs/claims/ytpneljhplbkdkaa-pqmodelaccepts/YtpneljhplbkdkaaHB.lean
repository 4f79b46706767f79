
/- Contracts of layer 10: slices.Clone, and the program's clone of a model. -/
import Derived.Test.YtpneljhplbkdkaaHA
import Derived.Test.YtpneljhplbkdkaaAH
namespace Go.Proofs.Ytpneljhplbkdkaa
open Go.RowKit Go.Lib

set_option maxRecDepth 100000 in
set_option maxHeartbeats 2000000 in
theorem CloneE_has (a : Option Addr) (c : Nat) (xs : List En) (w : World) (ha : Row LE w a xs) (hnl : a = none → c = 0) (hx : xs.length ≤ 1000000) :
    Calls Try.prog 48 #[.slice a xs.length c] w fun e w' => ∃ va vc, e = .returned (.slice va xs.length vc) ∧ w'.ownsRow w.heap.size 49 4 (.slice va xs.length vc) xs.length (LE.flat xs) ∧ Upd [] w w' := by
  have q22 : ∀ (w : World) (a : Option Addr) (n c n' c' : Nat), (binOp .eql 22 (.slice a n c) (.slice none n' c')).run Try.prog w = .ok (.bool a.isNone) w := fun w a n c n' c' => Lib.run_eql_slice_nil w _ _ a n c n' c' Try.underlying22
  have HA := Lib.hid ha
  clear ha
  cases a with
  | none =>
    have hn : xs = [] := row_none HA.out
    subst hn
    clear HA
    go_enter Try.func48, Try.ntmps48
    go_wp2_with fail
    go_ret
    exact ⟨_, _, rfl, World.ownsRow_nil _ _ _ _, Upd.refl _ _⟩
  | some ad =>
    obtain ⟨n, hn⟩ : ∃ n, n = xs.length := ⟨_, rfl⟩
    rw [← hn] at hx ⊢
    have HN := Lib.hid hn
    have HR := Lib.hid (HA.out.stay ((Upd.refl [] w).alloc (.cells #[] 49)))
    clear hn HA
    go_enter Try.func48, Try.ntmps48
    go_wp2_with (at_builtin; refine app_row tyE rfl _ _ rfl w.heap.size (.slice (some ⟨w.heap.size, 0, none⟩) 0 0) 0 [] rfl (World.ownsRow_made w #[] 0 (Nat.le_refl _) (Nat.zero_le _) (by simp)) (some ad) n c xs rfl HN.out HR.out (fun e => by simp at e) (by omega) (by simp) ?_; intro v' w1 hown hgrow)
    rw [Nat.zero_add, List.nil_append] at hown
    have HU : Hid (Upd [] w w1) := ((Upd.refl [] w).alloc _).grown hgrow (fun k hk hl => by simp [Value.ownBlock] at hk; omega)
    obtain ⟨va, vc, rfl⟩ := row_shape hown
    have HO := Lib.hid hown
    clear hown hgrow
    go_wp2_with fail
    go_ret
    exact ⟨va, vc, rfl, HO.out, HU.out⟩
set_option maxRecDepth 100000 in
set_option maxHeartbeats 2000000 in
theorem CloneN_has (a : Option Addr) (c : Nat) (xs : List Int) (w : World) (ha : Row LN w a xs) (hnl : a = none → c = 0) (hx : xs.length ≤ 1000000) :
    Calls Try.prog 49 #[.slice a xs.length c] w fun e w' => ∃ va vc, e = .returned (.slice va xs.length vc) ∧ w'.ownsRow w.heap.size 3 1 (.slice va xs.length vc) xs.length (LN.flat xs) ∧ Upd [] w w' := by
  have q22 : ∀ (w : World) (a : Option Addr) (n c n' c' : Nat), (binOp .eql 23 (.slice a n c) (.slice none n' c')).run Try.prog w = .ok (.bool a.isNone) w := fun w a n c n' c' => Lib.run_eql_slice_nil w _ _ a n c n' c' Try.underlying23
  have HA := Lib.hid ha
  clear ha
  cases a with
  | none =>
    have hn : xs = [] := row_none HA.out
    subst hn
    clear HA
    go_enter Try.func49, Try.ntmps49
    go_wp2_with fail
    go_ret
    exact ⟨_, _, rfl, World.ownsRow_nil _ _ _ _, Upd.refl _ _⟩
  | some ad =>
    obtain ⟨n, hn⟩ : ∃ n, n = xs.length := ⟨_, rfl⟩
    rw [← hn] at hx ⊢
    have HN := Lib.hid hn
    have HR := Lib.hid (HA.out.stay ((Upd.refl [] w).alloc (.cells #[] 3)))
    clear hn HA
    go_enter Try.func49, Try.ntmps49
    go_wp2_with (at_builtin; refine app_row tyN rfl _ _ rfl w.heap.size (.slice (some ⟨w.heap.size, 0, none⟩) 0 0) 0 [] rfl (World.ownsRow_made w #[] 0 (Nat.le_refl _) (Nat.zero_le _) (by simp)) (some ad) n c xs rfl HN.out HR.out (fun e => by simp at e) (by omega) (by simp) ?_; intro v' w1 hown hgrow)
    rw [Nat.zero_add, List.nil_append] at hown
    have HU : Hid (Upd [] w w1) := ((Upd.refl [] w).alloc _).grown hgrow (fun k hk hl => by simp [Value.ownBlock] at hk; omega)
    obtain ⟨va, vc, rfl⟩ := row_shape hown
    have HO := Lib.hid hown
    clear hown hgrow
    go_wp2_with fail
    go_ret
    exact ⟨va, vc, rfl, HO.out, HU.out⟩
/-- A model whose rows are the call's own: none is older than b0. -/
structure OwnM (b0 : Nat) (w : World) (m : MdR) : Prop where
  es : w.ownsRow b0 49 LE.k m.es.v m.es.l.length (LE.flat m.es.l)
  is : w.ownsRow b0 3 LN.k m.is.v m.is.l.length (LN.flat m.is.l)
theorem OwnM.stay {b0 : Nat} {w w' : World} {m : MdR} (h : OwnM b0 w m) (hu : Upd [] w w') : OwnM b0 w' m := ⟨hu.row h.es (by simp), hu.row h.is (by simp)⟩
theorem OwnM.base {b0 b1 : Nat} {w : World} {m : MdR} (h : OwnM b0 w m) (hb : b1 ≤ b0) : OwnM b1 w m := ⟨row_base h.es hb, row_base h.is hb⟩
theorem hasS_own {α : Type} {L : Lay α} {w : World} {base : Nat} {e : TypeId} {s : SlR α} (h : w.ownsRow base e L.k s.v s.l.length (L.flat s.l)) : HasS L w s := by
  obtain ⟨l, ad, cap⟩ := s
  exact (hasS_any h).2
theorem avS_own {α : Type} {L : Lay α} {w : World} {base : Nat} {e : TypeId} {s : SlR α} (h : w.ownsRow base e L.k s.v s.l.length (L.flat s.l)) {b : Nat} (hb : b < base) : AvS s b := by
  obtain ⟨l, ad, cap⟩ := s
  exact av_any h hb
theorem OwnM.has {b0 : Nat} {w : World} {m : MdR} (h : OwnM b0 w m) : HasM w m := ⟨hasS_own h.es, hasS_own h.is⟩
theorem OwnM.av {b0 : Nat} {w : World} {m : MdR} (h : OwnM b0 w m) {b : Nat} (hb : b < b0) : AvM m b := ⟨avS_own h.es hb, avS_own h.is hb⟩
set_option maxRecDepth 100000 in
set_option maxHeartbeats 4000000 in
theorem PClone_has (m : MdR) (w : World) (hm : HasM w m) (hl : m.es.l.length ≤ 1000000) (hi : m.is.l.length ≤ 1000000) :
    Calls Try.prog 28 #[encM m] w fun e w' => ∃ m' : MdR, e = .returned (encM m') ∧ m'.md = m.md ∧ OwnM w.heap.size w' m' ∧ Upd [] w w' := by
  have HCE := Lib.hid (fun W (hu : Upd [] w W) => CloneE_has m.es.ad m.es.cap m.es.l W (hm.es.row.stay hu) hm.es.nn hl)
  have HCN := Lib.hid (fun W (hu : Upd [] w W) => CloneN_has m.is.ad m.is.cap m.is.l W (hm.is.row.stay hu) hm.is.nn hi)
  obtain ⟨cap, ⟨es, ea, ec⟩, nx, ⟨is, ia, ic⟩⟩ := m
  unfold encM cellsM
  simp only at HCE HCN ⊢
  have HRET : Hid (∀ n q, n = es.length → q = is.length → ∀ va vc ya yc (w' : World), w'.ownsRow w.heap.size 49 LE.k (.slice va n vc) n (LE.flat es) → w'.ownsRow w.heap.size 3 LN.k (.slice ya q yc) q (LN.flat is) → Upd [] w w' → ∃ m' : MdR, Ending.returned (.agg #[.int .i64 cap, .slice va n vc, .int .i64 nx, .slice ya q yc]) = .returned (.agg #[.int .i64 m'.cap, .slice m'.es.ad m'.es.l.length m'.es.cap, .int .i64 m'.nx, .slice m'.is.ad m'.is.l.length m'.is.cap]) ∧ m'.md = MdR.md ⟨cap, ⟨es, ea, ec⟩, nx, ⟨is, ia, ic⟩⟩ ∧ OwnM w.heap.size w' m' ∧ Upd [] w w') := fun n q h1 h2 va vc ya yc w' h3 h4 h5 => by
    subst h1; subst h2
    exact ⟨⟨cap, ⟨es, va, vc⟩, nx, ⟨is, ya, yc⟩⟩, rfl, rfl, ⟨h3, h4⟩, h5⟩
  obtain ⟨n, hn⟩ : ∃ n, n = es.length := ⟨_, rfl⟩
  obtain ⟨q, hq⟩ : ∃ q, q = is.length := ⟨_, rfl⟩
  rw [← hn] at HCE ⊢
  rw [← hq] at HCN ⊢
  have HRT := Lib.hid (HRET.out n q hn hq)
  clear hn hq hm hl hi HRET
  go_enter Try.func28, Try.ntmps28
  go_upto_region 1 with (fail)
  obtain ⟨hu, b0, b1, hs⟩ := two_boxes w (.cells #[.int .i64 cap, .slice ea n ec, .int .i64 nx, .slice ia q ic] 25) (.cells #[.int .i64 0, .slice none 0 0, .int .i64 0, .slice none 0 0] 25)
  generalize (w.alloc (.cells #[.int .i64 cap, .slice ea n ec, .int .i64 nx, .slice ia q ic] 25)).alloc (.cells #[.int .i64 0, .slice none 0 0, .int .i64 0, .slice none 0 0] 25) = W at *
  obtain ⟨P, hP⟩ : ∃ P, P = w.heap.size := ⟨_, rfl⟩
  rw [← hP] at b0 b1 hs ⊢
  have HP := Lib.hid hP
  have HU := Lib.hid hu; have HS := Lib.hid hs
  have HB1 := Lib.hid b1; have HB0 := Lib.hid b0
  clear hu b0 b1 hs hP
  obtain ⟨x0, x1, x2, x3⟩ := cells4 HB0.out
  obtain ⟨f0, f1, f2, f3⟩ := free4 HB0.out
  have hc1 := HCE.out W HU.out
  have HC1 := Lib.hid hc1
  clear hc1 HCE
  go_upto_region 2 with (go_at_call 48; (with_reducible refine HC1.out.mono ?_); rintro e w1 ⟨va, vc, rfl, hown, hu1⟩; have HU1 := Lib.hid (HU.out.thn hu1); have HB01 := Lib.hid (hu1.at HB0.out (by simp)); have HB11 := Lib.hid (hu1.at HB1.out (by simp)); have HE1 := Lib.hid hown; clear hown hu1 x0 x1 x2 x3 f0 f1 f2 f3; obtain ⟨x0, x1, x2, x3⟩ := cells4 HB01.out; obtain ⟨f0, f1, f2, f3⟩ := free4 HB01.out)
  have k2 := setCell_block (o := 1) HB01.out (.slice va n vc)
  have u2 := upd_set1 w1 P 1 (.slice va n vc)
  have HB02 := Lib.hid k2
  have HB12 := Lib.hid (u2.at HB11.out (by simp))
  have HU2 := Lib.hid (HU1.out.new u2 (by have := HP.out; omega))
  have HE2 : Hid ((w1.setCell ⟨P, 1, none⟩ (.slice va n vc)).ownsRow W.heap.size 49 LE.k (.slice va n vc) n (LE.flat es)) := u2.row HE1.out (fun x hx hm => by have h1 := own_ge HE1.out x hx; have h2 := HS.out; simp at hm; omega)
  generalize w1.setCell ⟨P, 1, none⟩ (.slice va n vc) = W2 at *
  clear k2 u2 x0 x1 x2 x3 f0 f1 f2 f3 HU1 HB01 HB11 HE1
  obtain ⟨x0, x1, x2, x3⟩ := cells4 HB02.out
  obtain ⟨f0, f1, f2, f3⟩ := free4 HB02.out
  have HC2 := Lib.hid (HCN.out W2 HU2.out)
  go_upto_region 3 with (go_at_call 49; (with_reducible refine HC2.out.mono ?_); rintro e w3 ⟨ya, yc, rfl, hown, hu1⟩; have HU3 := Lib.hid (HU2.out.thn hu1); have HB03 := Lib.hid (hu1.at HB02.out (by simp)); have HB13 := Lib.hid (hu1.at HB12.out (by simp)); have HI3 := Lib.hid hown; have HE3 := Lib.hid (hu1.row HE2.out (by simp)); have HSZ3 := Lib.hid HU2.out.size; clear hown hu1 x0 x1 x2 x3 f0 f1 f2 f3; obtain ⟨x0, x1, x2, x3⟩ := cells4 HB03.out; obtain ⟨f0, f1, f2, f3⟩ := free4 HB03.out)
  have k2 := setCell_block (o := 3) HB03.out (.slice ya q yc)
  have u2 := upd_set1 w3 P 3 (.slice ya q yc)
  have HB04 := Lib.hid k2
  have HB14 := Lib.hid (u2.at HB13.out (by simp))
  have HU4 := Lib.hid (HU3.out.new u2 (by have := HP.out; omega))
  have HE4 := Lib.hid (u2.row HE3.out (fun x hx hm => by have h1 := own_ge HE3.out x hx; have h2 := HS.out; simp at hm; omega))
  have HI4 := Lib.hid (u2.row HI3.out (fun x hx hm => by have h1 := own_ge HI3.out x hx; have h2 := lt_block HB02.out; simp at hm; omega))
  generalize w3.setCell ⟨P, 3, none⟩ (.slice ya q yc) = W4 at *
  clear k2 u2 x0 x1 x2 x3 f0 f1 f2 f3 HU3 HB03 HB13 HE3 HI3
  obtain ⟨x0, x1, x2, x3⟩ := cells4 HB04.out
  obtain ⟨y0, y1, y2, y3⟩ := cells4 HB14.out
  obtain ⟨f0, f1, f2, f3⟩ := free4 HB14.out
  go_wp2_with fail
  have k5 := stored4 HB14.out (.int .i64 cap) (.slice va n vc) (.int .i64 nx) (.slice ya q yc)
  have u5 := upd_set4 W4 (P + 1) (.int .i64 cap) (.slice va n vc) (.int .i64 nx) (.slice ya q yc)
  with_reducible generalize (((W4.setCell ⟨P + 1, 0, none⟩ (.int .i64 cap)).setCell ⟨P + 1, 1, none⟩ (.slice va n vc)).setCell ⟨P + 1, 2, none⟩ (.int .i64 nx)).setCell ⟨P + 1, 3, none⟩ (.slice ya q yc) = W5 at k5 u5 ⊢
  obtain ⟨r0, r1, r2, r3⟩ := cells4 k5
  have hU : Upd [] w W5 := HU4.out.new u5 (by have := HP.out; omega)
  have he := u5.row HE4.out (fun x hx hm => by have h1 := own_ge HE4.out x hx; have h2 := HS.out; simp at hm; omega)
  have hi := u5.row HI4.out (fun x hx hm => by have h1 := own_ge HI4.out x hx; have h2 := lt_block HB12.out; simp at hm; omega)
  have hsz := HU.out.size
  have hsz2 := HU2.out.size
  have hp := HP.out
  exact bodyPost_ret (v := .agg #[.int .i64 cap, .slice va n vc, .int .i64 nx, .slice ya q yc]) (by simp [results, Try.results28, go_sem, r0, r1, r2, r3]) rfl (by subst hp; exact HRT.out va vc ya yc W5 (row_base he (by omega)) (row_base hi (by omega)) hU)
end Go.Proofs.Ytpneljhplbkdkaa
