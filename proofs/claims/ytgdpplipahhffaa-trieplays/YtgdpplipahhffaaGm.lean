/- play, in all kinds; what the scripts of TriePlays and TrieWalks lean on. TriePlays: the walk. -/
import Derived.Test.YtgdpplipahhffaaVn
import Derived.Test.YtgdpplipahhffaaVh
import Derived.Test.YtgdpplipahhffaaVd
import Derived.Test.YtgdpplipahhffaaAo
import Derived.Deep.CutRange
namespace Go.Proofs.Ytgdpplipahhffaa
open Go.RowKit
set_option linter.unusedVariables false
set_option linter.unusedSimpArgs false

section
variable {w0 w : World} {q r W most : Nat} {L : List (List Bool × Int)} {ro : Option Nat}
theorem play_any (hD : Duo w0 w q r W most L ro) (h1 : 1 ≤ W) (hW : W ≤ 128) (o : OpD) (ho : Is128 o.a) :
    Calls Try.prog 13 #[.pointer (some ⟨q, 0, none⟩), .pointer (some ⟨r, 0, none⟩), .agg (opC o)] w fun e w' => e = .returned (.bool true) ∧ ∃ L' ro', Hid (Duo w0 w' q r W most L' ro' ∧ Kept (Tch q r ro) w w' ∧ NewRow w ro ro') := by
  obtain ⟨k, a, l, u⟩ := o
  have hk : k % 12 = 0 ∨ k % 12 = 1 ∨ k % 12 = 2 ∨ k % 12 = 3 ∨ k % 12 = 4 ∨ k % 12 = 5 ∨ k % 12 = 6 ∨ k % 12 = 7 ∨ k % 12 = 8 ∨ k % 12 = 9 ∨ k % 12 = 10 ∨ k % 12 = 11 := by omega
  rcases hk with h | h | h | h | h | h | h | h | h | h | h | h
  · exact play_put hD h1 hW k l u a ho h
  · exact play_set hD h1 hW k l u a ho h
  · exact play_drop hD h1 hW k l u a ho h
  · exact play_get hD h1 hW k l u a ho h
  · exact play_find hD h1 hW k l u a ho h
  · exact play_every hD h1 hW k l u a ho h
  · exact play_nodes hD h1 hW k l u a ho h
  · exact play_all hD h1 hW k l u a ho h
  · exact play_under hD h1 hW k l u a ho h
  · exact play_9 hD h1 hW k l u a ho h
  · exact play_10 hD h1 hW k l u a ho h
  · exact play_11 hD h1 hW k l u a ho h
/-- Another pair stands apart still. -/
theorem Apart.step {q2 r2 : Nat} {ro2 ro' : Option Nat} {W2 m2 : Nat} {L2 : List (List Bool × Int)} (ha : Apart q r ro q2 r2 ro2) (h2 : Duo w0 w q2 r2 W2 m2 L2 ro2) (hn : NewRow w ro ro') : Apart q r ro' q2 r2 ro2 := by
  refine ⟨ha.1, ha.2.1, fun k e1 e2 => ?_⟩
  rcases hn with h | h
  · rw [h] at e1; exact ha.2.2 k e1 e2
  · have := h k e1
    have := h2.tch k (.inr (.inr e2))
    omega
/-- What was emptied: the trie's own call, and the document's list set to nothing. -/
theorem duo_clear (hD : Duo w0 w q r W most L ro) : Calls Try.prog 14 #[.pointer (some ⟨q, 0, none⟩)] w fun e w' => e = .returned (.tuple #[]) ∧ Hid (Own w0 w' q W most [] ∧ RefI w0 w' r W most L ro ∧ Kept (fun k => k = q) w w') := by
  obtain ⟨⟨a, n, N, hT, hk⟩, hb, hl⟩ := id hD.own
  refine (clear_any hT).mono ?_
  rintro e w' ⟨rfl, g1, g2⟩
  have hO : Own w0 w' q W most [] := ⟨⟨none, 0, [], g1, rfl⟩, hb.trans (g2.below hb.size (fun k e => by have e' : k = q := e; rw [e']; exact hl)), hl⟩
  exact ⟨rfl, (⟨hO, hD.step1 hO g2, g2⟩ : _ ∧ _ ∧ _)⟩
theorem ref_clear {w1 : World} (hD : Duo w0 w q r W most L ro) (h : Own w0 w1 q W most [] ∧ RefI w0 w1 r W most L ro ∧ Kept (fun k => k = q) w w1) :
    ∃ s, Blk w1 r #[.int .i64 W, .int .i64 most, s] 40 ∧ Duo w0 (w1.setCell ⟨r, 2, none⟩ (.slice none 0 0)) q r W most [] none ∧ Kept (Tch q r ro) w (w1.setCell ⟨r, 2, none⟩ (.slice none 0 0)) := by
  obtain ⟨hO, hR, hk⟩ := h
  obtain ⟨⟨ba, bc, g1, g2, g3⟩, g4, g5, g6⟩ := id hR
  have ks : Kept (fun k => k = r ∨ ro = some k) w1 (w1.setCell ⟨r, 2, none⟩ (.slice none 0 0)) := (Kept.refl _ _).set (.inl rfl) _
  refine ⟨_, g2, ⟨hR.step2 hO ks, ⟨⟨none, 0, rfl, g2.set 2 _, World.ownsRow_nil _ _ _ _⟩, List.Pairwise.nil, Nat.zero_le _, g6⟩⟩, (hk.mono fun k _ e => .inl e).trans (ks.mono fun k _ e => .inr e)⟩
/-- A copy of both. -/
theorem own_copy (hD : Duo w0 w q r W most L ro) : Calls Try.prog 15 #[.pointer (some ⟨q, 0, none⟩)] w fun e w' => e = .returned (.pointer (some ⟨w.heap.size, 0, none⟩)) ∧ Hid (Own w0 w' w.heap.size W most L ∧ Below w.heap.size w w') := by
  obtain ⟨⟨a, n, N, hT, hk⟩, hb, hl⟩ := hD.own
  refine (copy_any hT).mono ?_
  rintro e w' ⟨rfl, g1, g2⟩
  exact ⟨rfl, (⟨⟨⟨a, n, N, g1, hk⟩, bst hb g2, hb.size⟩, g2⟩ : _ ∧ _)⟩
theorem ref_copy (hR : RefI w0 w r W most L ro) (hs : w0.heap.size ≤ w.heap.size) : Calls Try.prog 16 #[.pointer (some ⟨r, 0, none⟩)] w fun e w' => ∃ r', e = .returned (.pointer (some ⟨r', 0, none⟩)) ∧ Hid (w.heap.size ≤ r' ∧ (∃ ro', RefI w0 w' r' W most L ro' ∧ ∀ k, ro' = some k → w.heap.size ≤ k) ∧ Below w.heap.size w w') := by
  refine (rcopy_any hR.at).mono ?_
  rintro e w' ⟨r', rfl, H⟩
  obtain ⟨h1, ⟨⟨ba, bc, g1, g2⟩, g3, g4⟩, h3⟩ := H.out
  refine ⟨r', rfl, (⟨h1, ⟨_, ⟨⟨ba, bc, rfl, g1, g2.1, g2.2.imp id (fun ⟨g, cap, cur, e, hb, rest⟩ => ⟨g, cap, cur, e, Nat.le_trans hs hb, rest⟩)⟩, g3, g4, Nat.le_trans hs h1⟩, fun k e => ?_⟩, h3.below (Nat.le_refl _) (fun k e => e.elim)⟩ : _ ∧ _ ∧ _)⟩
  rcases g2.2 with ⟨e1, _⟩ | ⟨b, cap, cur, e1, hb, hg, _⟩
  · rw [e1] at e; simp [Value.ownBlock] at e
  · rw [e1] at e
    simp [Value.ownBlock] at e
    omega
/-- New ones. -/
theorem duo_new {W most : Nat} (h1 : 1 ≤ W) (h2 : W ≤ 128) (h3 : 1 ≤ most) (h4 : most ≤ 4096) (hb : Below w0.heap.size w0 w) :
    Calls Try.prog 10 #[.int .i64 W, .int .i64 most] w fun e w' => e = .returned (.tuple #[.pointer (some ⟨w.heap.size, 0, none⟩), .int .i64 0]) ∧ Hid (Own w0 w' w.heap.size W most [] ∧ Below w.heap.size w w') := by
  refine (new_ok W most h1 h2 h3 h4 w).mono ?_
  rintro e w' ⟨rfl, g1, g2⟩
  exact ⟨rfl, (⟨⟨⟨none, 0, [], g1, rfl⟩, bst hb g2, hb.size⟩, g2⟩ : _ ∧ _)⟩
theorem ref_new {W most : Nat} (h1 : 1 ≤ W) (h2 : W ≤ 128) (h3 : 1 ≤ most) (h4 : most ≤ 4096) (hs : w0.heap.size ≤ w.heap.size) :
    Calls Try.prog 11 #[.int .i64 W, .int .i64 most] w fun e w' => e = .returned (.tuple #[.pointer (some ⟨w.heap.size, 0, none⟩), .int .i64 0]) ∧ Hid (RefI w0 w' w.heap.size W most [] none ∧ Below w.heap.size w w') := by
  refine (rnew_ok (W : Int) (most : Int) (by omega) (by omega) (by omega) (by omega)).mono ?_
  rintro e w' ⟨rfl, rfl⟩
  have := one_new w #[.int .i64 W, .int .i64 most, .slice none 0 0] 40
  exact ⟨rfl, (⟨⟨⟨none, 0, rfl, this.1, World.ownsRow_nil _ _ _ _⟩, List.Pairwise.nil, Nat.zero_le _, hs⟩, this.2.1⟩ : _ ∧ _)⟩
end
end Go.Proofs.Ytgdpplipahhffaa
namespace Go.Proofs.Ytgdpplipahhffaa
open Go.RowKit
set_option linter.unusedVariables false
set_option linter.unusedSimpArgs false

/-- Two pairs, apart. -/
def Pairs (w wr : World) (W most q r q2 r2 : Nat) : Prop := ∃ L ro L2 ro2, Duo w wr q r W most L ro ∧ Duo w wr q2 r2 W most L2 ro2 ∧ Apart q r ro q2 r2 ro2
theorem Pairs.swap {w wr : World} {W most q r q2 r2 : Nat} (h : Pairs w wr W most q r q2 r2) : Pairs w wr W most q2 r2 q r := by
  obtain ⟨L, ro, L2, ro2, h1, h2, h3⟩ := h
  exact ⟨L2, ro2, L, ro, h2, h1, h3.symm⟩
theorem Pairs.below {w wr w' : World} {W most q r q2 r2 : Nat} (h : Pairs w wr W most q r q2 r2) (hb : Below wr.heap.size wr w') : Pairs w w' W most q r q2 r2 := by
  obtain ⟨L, ro, L2, ro2, h1, h2, h3⟩ := h
  exact ⟨L, ro, L2, ro2, h1.below hb, h2.below hb, h3⟩
theorem Pairs.be {w wr : World} {W most q r q2 r2 : Nat} (h : Pairs w wr W most q r q2 r2) : Below w.heap.size w wr := by
  obtain ⟨L, ro, L2, ro2, h1, h2, h3⟩ := h
  exact h1.own.be
/-- A call on the first pair. -/
theorem Pairs.play {w wr : World} {W most q r q2 r2 : Nat} (h : Pairs w wr W most q r q2 r2) (h1 : 1 ≤ W) (hW : W ≤ 128) (o : OpD) (ho : Is128 o.a) :
    Calls Try.prog 13 #[.pointer (some ⟨q, 0, none⟩), .pointer (some ⟨r, 0, none⟩), .agg (opC o)] wr fun e w' => e = .returned (.bool true) ∧ Hid (Pairs w w' W most q r q2 r2 ∧ ∀ b cs, Blk wr b cs 35 → Blk w' b cs 35) := by
  obtain ⟨L, ro, L2, ro2, g1, g2, g3⟩ := h
  refine (play_any g1 h1 hW o ho).mono ?_
  rintro e w' ⟨rfl, L', ro', H⟩
  refine ⟨rfl, (⟨⟨L', ro', L2, ro2, H.out.1, g1.other g2 g3 H.out.2.1, g3.step g2 H.out.2.2⟩, fun b cs hb => hb.kept H.out.2.1 ?_⟩ : _ ∧ _)⟩
  rintro (e | e | e)
  · obtain ⟨_, _, k⟩ := g1.own.hdr; rw [← e] at k; exact ty_ne k hb (by decide)
  · obtain ⟨_, _, k⟩ := g1.ref.hdr; rw [← e] at k; exact ty_ne k hb (by decide)
  · obtain ⟨_, _, _, k⟩ := g1.ref.row b e; exact ty_ne k hb (by decide)
theorem Pairs.alike {w wr : World} {W most q r q2 r2 : Nat} (h : Pairs w wr W most q r q2 r2) (hW : W ≤ 128) :
    Calls Try.prog 17 #[.pointer (some ⟨q, 0, none⟩), .pointer (some ⟨r, 0, none⟩)] wr fun e w' => e = .returned (.bool true) ∧ Hid (Pairs w w' W most q r q2 r2) := by
  refine (let ⟨L, ro, L2, ro2, g1, g2, g3⟩ := h; alike_yes g1 hW).mono ?_
  rintro e w' ⟨rfl, hb⟩
  exact ⟨rfl, (h.below hb : Pairs _ _ _ _ _ _ _ _)⟩
theorem Pairs.clear {w wr : World} {W most q r q2 r2 : Nat} (h : Pairs w wr W most q r q2 r2) :
    Calls Try.prog 14 #[.pointer (some ⟨q, 0, none⟩)] wr fun e w' => e = .returned (.tuple #[]) ∧ ∃ s, w'.cell? ⟨r, 2, none⟩ = some s ∧ w'.frozen? ⟨r, 2, none⟩ = false ∧ Hid (Pairs w (w'.setCell ⟨r, 2, none⟩ (.slice none 0 0)) W most q r q2 r2) := by
  obtain ⟨L, ro, L2, ro2, g1, g2, g3⟩ := h
  refine (duo_clear g1).mono ?_
  rintro e w' ⟨rfl, H⟩
  obtain ⟨s, k1, k2, k3⟩ := ref_clear g1 H.out
  exact ⟨rfl, s, k1.cell 2 rfl, k1.frozen 2, (⟨[], none, L2, ro2, k2, g1.other g2 g3 k3, ⟨g3.1, g3.2.1, fun k e => by cases e⟩⟩ : Pairs _ _ _ _ _ _ _ _)⟩
theorem Pairs.copy {w wr : World} {W most q r q2 r2 : Nat} (h : Pairs w wr W most q r q2 r2) :
    Calls Try.prog 15 #[.pointer (some ⟨q, 0, none⟩)] wr fun e w' => ∃ q', e = .returned (.pointer (some ⟨q', 0, none⟩)) ∧ Hid (Calls Try.prog 16 #[.pointer (some ⟨r, 0, none⟩)] w' fun e w'' => ∃ r', e = .returned (.pointer (some ⟨r', 0, none⟩)) ∧ Hid (Pairs w w'' W most q r q' r')) := by
  obtain ⟨L, ro, L2, ro2, g1, g2, g3⟩ := h
  refine (own_copy g1).mono ?_
  rintro e w' ⟨rfl, H⟩
  refine ⟨_, rfl, (?_ : Calls _ _ _ _ _)⟩
  have g1' := g1.below H.out.2
  refine (ref_copy g1'.ref H.out.1.be.size).mono ?_
  rintro e w'' ⟨r', rfl, H2⟩
  obtain ⟨k1, ⟨ro', k2, k3⟩, k4⟩ := H2.out
  have hs := H.out.2.size
  refine ⟨r', rfl, (⟨L, ro, L, ro', g1'.below k4, ⟨H.out.1.below k4, k2⟩, ⟨fun e => ?_, fun e => ?_, fun k e1 e2 => ?_⟩⟩ : Pairs _ _ _ _ _ _ _ _)⟩
  · have := g1.tch q (.inl rfl); omega
  · have := g1.tch r (.inr (.inl rfl)); omega
  · have := g1.tch k (.inr (.inr e1)); have := k3 k e2; omega
/-- Another new pair. -/
theorem Pairs.mk' {w w1 w2 : World} {W most q r q2 r2 : Nat} (h1 : Duo w w1 q r W most [] none) (h2 : Own w w2 q2 W most []) (h3 : RefI w w2 r2 W most [] none) (hb : Below w1.heap.size w1 w2) (g1 : w1.heap.size ≤ q2) (g2 : w1.heap.size ≤ r2) : Pairs w w2 W most q r q2 r2 := by
  refine ⟨[], none, [], none, h1.below hb, ⟨h2, h3⟩, ⟨fun e => ?_, fun e => ?_, fun k e => by cases e⟩⟩
  · have := h1.tch q (.inl rfl); omega
  · have := h1.tch r (.inr (.inl rfl)); omega
set_option maxHeartbeats 8000000 in
set_option maxRecDepth 100000 in
theorem plays_walk (Wd Md : Int) (sv : Value) (l : List OpD) (w : World) (hW : Okn Wd) (hM : Okn Md) (hl : OpRow w sv l) : Calls Try.prog 3 #[.int .i64 Wd, .int .i64 Md, sv] w fun e w' => e = .returned (.bool true) ∧ Below w.heap.size w w' := by
  obtain ⟨⟨ad, cap, rfl, hcap, hcells⟩, hlb⟩ := hl
  have HL : Hid (l = [] ∨ ∃ b o, ad = some ⟨b, o, none⟩ ∧ ∀ i x, l[i]? = some x → ∃ cs, cs.size = 5 ∧ (∀ j u, cs[j]? = some u → w.cell? ⟨b, o + i * 5 + j, none⟩ = some u) ∧ cs = opC x ∧ OpOk x) := hcells
  have CL : Hid (Calls Try.prog 9 #[] w fun e w' => e = .returned (.bool true) ∧ Below w.heap.size w w') := live_any w
  unfold Len at hlb
  clear hcells
  go_enter Try.func3, Try.ntmps3
  go_wp2_with fail
  refine CL.out.mono ?_
  rintro e w1 ⟨rfl, H1⟩
  have HB1 : Hid (Below w.heap.size w w1) := H1
  clear CL H1
  by_cases hbad : ¬ (1 ≤ Wd ∧ Wd ≤ 128 ∧ 1 ≤ Md ∧ Md ≤ 4096)
  · have C10 : Hid (Calls Try.prog 10 #[.int .i64 Wd, .int .i64 Md] w1 fun e w' => e = .returned (.tuple #[.pointer none, .int .i64 1]) ∧ w' = w1) := new_bad Wd Md (by omega) w1
    have C11 : Hid (Calls Try.prog 11 #[.int .i64 Wd, .int .i64 Md] w1 fun e w' => e = .returned (.tuple #[.pointer none, .int .i64 1]) ∧ w' = w1) := rnew_bad Wd Md hbad
    clear hbad HL
    go_wp2_with fail
    refine C10.out.mono ?_
    rintro e w2 ⟨rfl, rfl⟩
    clear C10
    go_wp2_with fail
    refine C11.out.mono ?_
    rintro e w3 ⟨rfl, rfl⟩
    clear C11
    go_wp2
    go_ret
    exact ⟨rfl, HB1.out⟩
  · have hok := Classical.not_not.1 hbad
    obtain ⟨W, rfl⟩ := Int.eq_ofNat_of_zero_le (show 0 ≤ Wd by omega)
    obtain ⟨M, rfl⟩ := Int.eq_ofNat_of_zero_le (show 0 ≤ Md by omega)
    have h1 : 1 ≤ W := by omega
    have h2 : W ≤ 128 := by omega
    have h3 : 1 ≤ M := by omega
    have h4 : M ≤ 4096 := by omega
    have C10 : Hid (∀ V, Below w.heap.size w V → Calls Try.prog 10 #[.int .i64 W, .int .i64 M] V fun e w' => e = .returned (.tuple #[.pointer (some ⟨V.heap.size, 0, none⟩), .int .i64 0]) ∧ Hid (Own w w' V.heap.size W M [] ∧ Below V.heap.size V w')) := fun V hV => duo_new h1 h2 h3 h4 hV
    have C11 : Hid (∀ V, w.heap.size ≤ V.heap.size → Calls Try.prog 11 #[.int .i64 W, .int .i64 M] V fun e w' => e = .returned (.tuple #[.pointer (some ⟨V.heap.size, 0, none⟩), .int .i64 0]) ∧ Hid (RefI w w' V.heap.size W M [] none ∧ Below V.heap.size V w')) := fun V hV => ref_new h1 h2 h3 h4 hV
    clear hbad hok hW hM
    go_wp2_with fail
    refine (C10.out _ HB1.out).mono ?_
    rintro e w2 ⟨rfl, H2⟩
    go_wp2_with fail
    refine (C11.out _ (bst HB1.out H2.out.2).size).mono ?_
    rintro e w3 ⟨rfl, H3⟩
    have HD : Hid (Duo w w3 w1.heap.size w2.heap.size W M [] none ∧ Below w.heap.size w w3) := ⟨⟨H2.out.1.below H3.out.2, H3.out.1⟩, bst (bst HB1.out H2.out.2) H3.out.2⟩
    clear H2 H3 HB1
    generalize w1.heap.size = q at *
    generalize w2.heap.size = r at *
    go_wp2_with fail
    refine (C10.out _ HD.out.2).mono ?_
    rintro e w4 ⟨rfl, H4⟩
    go_wp2_with fail
    refine (C11.out _ (bst HD.out.2 H4.out.2).size).mono ?_
    rintro e w5 ⟨rfl, H5⟩
    have HP : Hid (Pairs w w5 W M q r w3.heap.size w4.heap.size) := Pairs.mk' HD.out.1 (H4.out.1.below H5.out.2) H5.out.1 (bst H4.out.2 H5.out.2) (Nat.le_refl _) H4.out.2.size
    clear H4 H5 HD C10 C11
    generalize w3.heap.size = q2 at *
    generalize w4.heap.size = r2 at *
    go_wp2_with fail
    go_loopw [8, 10, 12, 14, 16] (fun b8 b10 b12 b14 b16 wr => ∃ (k q r q2 r2 : Nat), k ≤ l.length ∧ b16 = .int .i64 k ∧ b8 = .pointer (some ⟨q, 0, none⟩) ∧ b10 = .pointer (some ⟨r, 0, none⟩) ∧ b12 = .pointer (some ⟨q2, 0, none⟩) ∧ b14 = .pointer (some ⟨r2, 0, none⟩) ∧ Hid (Pairs w wr W M q r q2 r2)) (fun b8 b10 b12 b14 b16 wr => l.length - (intOf b16).toNat)
    case atStart => exact ⟨0, q, r, q2, r2, Nat.zero_le _, rfl, rfl, rfl, rfl, rfl, HP⟩
    case round =>
      obtain ⟨k, q, r, q2, r2, hk, rfl, rfl, rfl, rfl, rfl, HR⟩ := hrel
      by_cases hlt : k < l.length
      · obtain ⟨x, hx⟩ : ∃ x, l[k]? = some x := ⟨_, List.getElem?_eq_getElem hlt⟩
        have hne : l ≠ [] := fun e => by rw [e] at hx; cases hx
        obtain ⟨b, o, rfl, hcs⟩ := HL.out.resolve_left hne
        obtain ⟨cs, _, hc, rfl, hok⟩ := hcs k x hx
        obtain ⟨kd, av, n, vv⟩ := x
        have hi1 : (k : Int) < l.length := by omega
        have pres : ∀ {j : Nat} {u : Value}, (opC ⟨kd, av, n, vv⟩)[j]? = some u → wr.cell? ⟨b, o + k * 5 + j, none⟩ = some u := fun {j u} h => (World.cell?_of_block (HR.out.be.block b (World.block_lt_of_cell? w _ (hc j u h)))).trans (hc j u h)
        have c0 := pres (j := 0) rfl
        have c1 := pres (j := 1) rfl
        have c2 := pres (j := 2) rfl
        have c3 := pres (j := 3) rfl
        have c4 := pres (j := 4) rfl
        rw [Nat.add_zero] at c0
        have HB := one_new wr #[.int .i64 kd, .int .u64 (hiOf av), .int .u64 (loOf av), .int .i64 n, .int .i64 vv] 35
        have H1 : Hid (Blk (wr.alloc (.cells #[.int .i64 kd, .int .u64 (hiOf av), .int .u64 (loOf av), .int .i64 n, .int .i64 vv] 35)) wr.heap.size #[.int .i64 kd, .int .u64 (hiOf av), .int .u64 (loOf av), .int .i64 n, .int .i64 vv] 35 ∧ Pairs w (wr.alloc (.cells #[.int .i64 kd, .int .u64 (hiOf av), .int .u64 (loOf av), .int .i64 n, .int .i64 vv] 35)) W M q r q2 r2) := ⟨HB.1, HR.out.below HB.2.1⟩
        have HOK : Hid (Is128 av) := hok.1
        clear pres hc hne hx hok hcs HR HB HP
        go_upto_region 16 with fail
        clear c0 c1 c2 c3 c4
        generalize (wr.alloc _) = w1 at H1 ⊢
        generalize wr.heap.size = bo at H1 ⊢
        have d0 := H1.out.1.cell 0 (v := .int .i64 kd) rfl
        have d1 := H1.out.1.cell 1 (v := .int .u64 (hiOf av)) rfl
        have d2 := H1.out.1.cell 2 (v := .int .u64 (loOf av)) rfl
        have d3 := H1.out.1.cell 3 (v := .int .i64 n) rfl
        have d4 := H1.out.1.cell 4 (v := .int .i64 vv) rfl
        have C12 : Hid (∀ V, Calls Try.prog 12 #[.int .i64 kd] V fun e w' => e = .returned (.int .i64 (kd % 12)) ∧ w' = V) := fun V => rest_any kd V
        obtain ⟨rr, hrr⟩ : ∃ rr, kd % 12 = rr := ⟨_, rfl⟩
        rw [hrr] at C12
        clear hrr
        have CP : Hid (Calls _ _ _ _ _) := H1.out.2.play h1 h2 ⟨kd, av, n, vv⟩ HOK.out
        go_wp2_with fail
        refine (C12.out _).mono ?_
        rintro e w2 ⟨rfl, rfl⟩
        clear C12
        go_wp2_with fail
        refine CP.out.mono ?_
        rintro e w3 ⟨rfl, H3⟩
        have H4 : Hid (Blk w3 bo #[.int .i64 kd, .int .u64 (hiOf av), .int .u64 (loOf av), .int .i64 n, .int .i64 vv] 35 ∧ Pairs w w3 W M q r q2 r2) := ⟨H3.out.2 _ _ H1.out.1, H3.out.1⟩
        clear d0 d1 d2 d3 d4 CP H1 H3
        have d4 := H4.out.1.cell 4 (v := .int .i64 vv) rfl
        have key : rr = 11 ∨ rr = 9 ∨ rr = 10 ∨ (¬ rr = 11 ∧ ¬ rr = 9 ∧ ¬ rr = 10) := by omega
        rcases key with rfl | rfl | rfl | ⟨n1, n2, n3⟩
        · obtain ⟨m, hm⟩ : ∃ m, Int.tmod vv 4 = m := ⟨_, rfl⟩
          by_cases h0 : m = 0
          · subst h0
            have CC : Hid (Calls _ _ _ _ _) := H4.out.2.clear
            go_wp2_with fail
            refine CC.out.mono ?_
            rintro e w4 ⟨rfl, s, s0, s1, H5⟩
            clear d4 hm CC H4
            go_wp2_with fail
            go_roundw
            case rel => exact ⟨k + 1, q, r, q2, r2, by omega, by go_num, rfl, rfl, rfl, rfl, H5⟩
            case measure => simp [intOf]; omega
          · go_wp2_with fail
            have H5 : Hid _ := H4.out.2
            go_roundw
            case rel => exact ⟨k + 1, q, r, q2, r2, by omega, by go_num, rfl, rfl, rfl, rfl, H5⟩
            case measure => simp [intOf]; omega
        · have CC : Hid (Calls _ _ _ _ _) := H4.out.2.copy
          clear d4
          go_wp2_with fail
          refine CC.out.mono ?_
          rintro e w4 ⟨q', rfl, CD⟩
          clear H4 CC
          go_wp2_with fail
          refine CD.out.mono ?_
          rintro e w5 ⟨r', rfl, H5⟩
          clear CD
          go_wp2_with fail
          go_roundw
          case rel => exact ⟨k + 1, q, r, q', r', by omega, by go_num, rfl, rfl, rfl, rfl, H5⟩
          case measure => simp [intOf]; omega
        · clear d4
          have H5 : Hid _ := H4.out.2.swap
          go_wp2_with fail
          go_roundw
          case rel => exact ⟨k + 1, q2, r2, q, r, by omega, by go_num, rfl, rfl, rfl, rfl, H5⟩
          case measure => simp [intOf]; omega
        · clear d4
          have H5 : Hid _ := H4.out.2
          go_wp2_with fail
          go_roundw
          case rel => exact ⟨k + 1, q, r, q2, r2, by omega, by go_num, rfl, rfl, rfl, rfl, H5⟩
          case measure => simp [intOf]; omega
      · have hlt' : ¬ (k : Int) < l.length := by omega
        clear HP
        go_wp2_with fail
        refine (HR.out.alike h2).mono ?_
        rintro e w6 ⟨rfl, H6⟩
        clear HR
        go_wp2_with fail
        refine (H6.out.swap.alike h2).mono ?_
        rintro e w7 ⟨rfl, H7⟩
        clear H6
        go_wp2
        go_ret
        exact ⟨rfl, H7.out.be⟩
end Go.Proofs.Ytgdpplipahhffaa
