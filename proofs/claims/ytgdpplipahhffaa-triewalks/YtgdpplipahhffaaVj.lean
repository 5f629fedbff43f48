/- play, in all kinds; what the scripts of TriePlays and TrieWalks lean on. -/
import Derived.Test.YtgdpplipahhffaaGj
import Derived.Test.YtgdpplipahhffaaVh
import Derived.Test.YtgdpplipahhffaaVd
import Derived.Test.YtgdpplipahhffaaAo
namespace Go.Proofs.Ytgdpplipahhffaa
open Go.RowKit
set_option linter.unusedVariables false
set_option linter.unusedSimpArgs false

section
variable {w0 w : World} {q r W most : Nat} {L : List (List Bool × Int)} {ro : Option Nat}
theorem play_any (hD : Duo w0 w q r W most L ro) (h1 : 1 ≤ W) (hW : W ≤ 128) (o : OpD) (ho : Is128 o.a) :
    Calls Try.prog 13 #[.pointer (some ⟨q, 0, none⟩), .pointer (some ⟨r, 0, none⟩), .agg (opC o)] w fun e w' => e = .returned (.bool true) ∧ ∃ L' ro', Hid (Duo w0 w' q r W most L' ro' ∧ Kept (Tch q r ro) w w' ∧ NewRow w ro ro') := by
  obtain ⟨k, a, l, u⟩ := o
  have hk : k % 12 = 0 ∨ k % 12 = 1 ∨ k % 12 = 2 ∨ k % 12 = 3 ∨ k % 12 = 4 ∨ k % 12 = 5 ∨ k % 12 = 6 ∨ k % 12 = 7 ∨ k % 12 = 8 ∨ k % 12 = 9 ∨ k % 12 = 10 ∨ k % 12 = 11 := by omega
  rcases hk with h | h | h | h | h | h | h | h | h | h | h | h
  · exact play_put hD h1 hW k l u a ho h
  · exact play_set hD h1 hW k l u a ho h
  · exact play_drop hD h1 hW k l u a ho h
  · exact play_get hD h1 hW k l u a ho h
  · exact play_find hD h1 hW k l u a ho h
  · exact play_every hD h1 hW k l u a ho h
  · exact play_nodes hD h1 hW k l u a ho h
  · exact play_all hD h1 hW k l u a ho h
  · exact play_under hD h1 hW k l u a ho h
  · exact play_9 hD h1 hW k l u a ho h
  · exact play_10 hD h1 hW k l u a ho h
  · exact play_11 hD h1 hW k l u a ho h
/-- Another pair stands apart still. -/
theorem Apart.step {q2 r2 : Nat} {ro2 ro' : Option Nat} {W2 m2 : Nat} {L2 : List (List Bool × Int)} (ha : Apart q r ro q2 r2 ro2) (h2 : Duo w0 w q2 r2 W2 m2 L2 ro2) (hn : NewRow w ro ro') : Apart q r ro' q2 r2 ro2 := by
  refine ⟨ha.1, ha.2.1, fun k e1 e2 => ?_⟩
  rcases hn with h | h
  · rw [h] at e1; exact ha.2.2 k e1 e2
  · have := h k e1
    have := h2.tch k (.inr (.inr e2))
    omega
/-- What was emptied: the trie's own call, and the document's list set to nothing. -/
theorem duo_clear (hD : Duo w0 w q r W most L ro) : Calls Try.prog 14 #[.pointer (some ⟨q, 0, none⟩)] w fun e w' => e = .returned (.tuple #[]) ∧ Hid (Own w0 w' q W most [] ∧ RefI w0 w' r W most L ro ∧ Kept (fun k => k = q) w w') := by
  obtain ⟨⟨a, n, N, hT, hk⟩, hb, hl⟩ := id hD.own
  refine (clear_any hT).mono ?_
  rintro e w' ⟨rfl, g1, g2⟩
  have hO : Own w0 w' q W most [] := ⟨⟨none, 0, [], g1, rfl⟩, hb.trans (g2.below hb.size (fun k e => by have e' : k = q := e; rw [e']; exact hl)), hl⟩
  exact ⟨rfl, (⟨hO, hD.step1 hO g2, g2⟩ : _ ∧ _ ∧ _)⟩
theorem ref_clear {w1 : World} (hD : Duo w0 w q r W most L ro) (h : Own w0 w1 q W most [] ∧ RefI w0 w1 r W most L ro ∧ Kept (fun k => k = q) w w1) :
    ∃ s, Blk w1 r #[.int .i64 W, .int .i64 most, s] 40 ∧ Duo w0 (w1.setCell ⟨r, 2, none⟩ (.slice none 0 0)) q r W most [] none ∧ Kept (Tch q r ro) w (w1.setCell ⟨r, 2, none⟩ (.slice none 0 0)) := by
  obtain ⟨hO, hR, hk⟩ := h
  obtain ⟨⟨ba, bc, g1, g2, g3⟩, g4, g5, g6⟩ := id hR
  have ks : Kept (fun k => k = r ∨ ro = some k) w1 (w1.setCell ⟨r, 2, none⟩ (.slice none 0 0)) := (Kept.refl _ _).set (.inl rfl) _
  refine ⟨_, g2, ⟨hR.step2 hO ks, ⟨⟨none, 0, rfl, g2.set 2 _, World.ownsRow_nil _ _ _ _⟩, List.Pairwise.nil, Nat.zero_le _, g6⟩⟩, (hk.mono fun k _ e => .inl e).trans (ks.mono fun k _ e => .inr e)⟩
/-- A copy of both. -/
theorem own_copy (hD : Duo w0 w q r W most L ro) : Calls Try.prog 15 #[.pointer (some ⟨q, 0, none⟩)] w fun e w' => e = .returned (.pointer (some ⟨w.heap.size, 0, none⟩)) ∧ Hid (Own w0 w' w.heap.size W most L ∧ Below w.heap.size w w') := by
  obtain ⟨⟨a, n, N, hT, hk⟩, hb, hl⟩ := hD.own
  refine (copy_any hT).mono ?_
  rintro e w' ⟨rfl, g1, g2⟩
  exact ⟨rfl, (⟨⟨⟨a, n, N, g1, hk⟩, bst hb g2, hb.size⟩, g2⟩ : _ ∧ _)⟩
theorem ref_copy (hR : RefI w0 w r W most L ro) (hs : w0.heap.size ≤ w.heap.size) : Calls Try.prog 16 #[.pointer (some ⟨r, 0, none⟩)] w fun e w' => ∃ r', e = .returned (.pointer (some ⟨r', 0, none⟩)) ∧ Hid (w.heap.size ≤ r' ∧ (∃ ro', RefI w0 w' r' W most L ro' ∧ ∀ k, ro' = some k → w.heap.size ≤ k) ∧ Below w.heap.size w w') := by
  refine (rcopy_any hR.at).mono ?_
  rintro e w' ⟨r', rfl, H⟩
  obtain ⟨h1, ⟨⟨ba, bc, g1, g2⟩, g3, g4⟩, h3⟩ := H.out
  refine ⟨r', rfl, (⟨h1, ⟨_, ⟨⟨ba, bc, rfl, g1, g2.1, g2.2.imp id (fun ⟨g, cap, cur, e, hb, rest⟩ => ⟨g, cap, cur, e, Nat.le_trans hs hb, rest⟩)⟩, g3, g4, Nat.le_trans hs h1⟩, fun k e => ?_⟩, h3.below (Nat.le_refl _) (fun k e => e.elim)⟩ : _ ∧ _ ∧ _)⟩
  rcases g2.2 with ⟨e1, _⟩ | ⟨b, cap, cur, e1, hb, hg, _⟩
  · rw [e1] at e; simp [Value.ownBlock] at e
  · rw [e1] at e
    simp [Value.ownBlock] at e
    omega
/-- New ones. -/
theorem duo_new {W most : Nat} (h1 : 1 ≤ W) (h2 : W ≤ 128) (h3 : 1 ≤ most) (h4 : most ≤ 4096) (hb : Below w0.heap.size w0 w) :
    Calls Try.prog 10 #[.int .i64 W, .int .i64 most] w fun e w' => e = .returned (.tuple #[.pointer (some ⟨w.heap.size, 0, none⟩), .int .i64 0]) ∧ Hid (Own w0 w' w.heap.size W most [] ∧ Below w.heap.size w w') := by
  refine (new_ok W most h1 h2 h3 h4 w).mono ?_
  rintro e w' ⟨rfl, g1, g2⟩
  exact ⟨rfl, (⟨⟨⟨none, 0, [], g1, rfl⟩, bst hb g2, hb.size⟩, g2⟩ : _ ∧ _)⟩
theorem ref_new {W most : Nat} (h1 : 1 ≤ W) (h2 : W ≤ 128) (h3 : 1 ≤ most) (h4 : most ≤ 4096) (hs : w0.heap.size ≤ w.heap.size) :
    Calls Try.prog 11 #[.int .i64 W, .int .i64 most] w fun e w' => e = .returned (.tuple #[.pointer (some ⟨w.heap.size, 0, none⟩), .int .i64 0]) ∧ Hid (RefI w0 w' w.heap.size W most [] none ∧ Below w.heap.size w w') := by
  refine (rnew_ok (W : Int) (most : Int) (by omega) (by omega) (by omega) (by omega)).mono ?_
  rintro e w' ⟨rfl, rfl⟩
  have := one_new w #[.int .i64 W, .int .i64 most, .slice none 0 0] 40
  exact ⟨rfl, (⟨⟨⟨none, 0, rfl, this.1, World.ownsRow_nil _ _ _ _⟩, List.Pairwise.nil, Nat.zero_le _, hs⟩, this.2.1⟩ : _ ∧ _)⟩
end
end Go.Proofs.Ytgdpplipahhffaa
