/- A trie of texts made since: its calls, in all cases; another one beside it. -/
import Derived.Test.YtgdpplipahhffaaSJb
import Derived.Test.YtgdpplipahhffaaSJc
import Derived.Test.YtgdpplipahhffaaOt
import Derived.Test.YtgdpplipahhffaaYo
namespace Go.Proofs.Ytgdpplipahhffaa.St
open Go.RowKit
set_option linter.unusedVariables false
set_option linter.unusedSimpArgs false

section
variable {w0 w : World} {q W : Nat} {L : List (List Bool × ByteArray)}
theorem put3 (hO : Own w0 w q W 4096 L) (hlen : L.length < 4096) (o : OpD) (ho : Is128 o.a) (u : ByteArray) :
    Calls Try.prog 30 #[.pointer (some ⟨q, 0, none⟩), Pf o.a o.n, .string u] w fun e w' => ∃ c : Int, e = .returned (.int .i64 c) ∧ Hid (∃ L', Own w0 w' q W 4096 L' ∧ ((c = 111 ∧ (∀ p, ¬ Val W o p) ∧ L' = L) ∨ (∃ p, Val W o p ∧ ((c = 121 ∧ look p L ≠ none ∧ L' = L) ∨ (c = 0 ∧ look p L = none ∧ L' = upd p u L)))) ∧ Kept (fun k => k = q) w w') := by
  obtain ⟨⟨a, n, N, hT, hk⟩, hb, hlo⟩ := hO
  obtain ⟨kd, v, l, vv⟩ := o
  have hq := hT.hd.lt
  by_cases hP : isP W v l = true
  · obtain ⟨p, h1, h2, h3⟩ := isP_yes hP
    have hval : Val W ⟨kd, v, l, vv⟩ p := ⟨h1, h3, h2⟩
    subst h2
    subst h3
    by_cases hl : look p (kept N) = none
    · refine (put_ok hT h1 u hl (by rw [hk]; exact hlen)).mono ?_
      rintro e w' ⟨rfl, a', n', N', g1, g2, g3⟩
      exact ⟨0, rfl, (⟨_, ⟨⟨a', n', N', g1, g2⟩, hb.trans (g3.below hb.size (fun k e => by have e' : k = q := e; omega)), hlo⟩, .inr ⟨p, hval, .inr ⟨rfl, by rw [← hk]; exact hl, by rw [hk]⟩⟩, g3⟩ : ∃ _, _)⟩
    · refine (put_dup hT h1 u hl).mono ?_
      rintro e w' ⟨rfl, h⟩
      exact ⟨121, rfl, (⟨_, ⟨⟨a, n, N, hT.below h, hk⟩, bst hb h, hlo⟩, .inr ⟨p, hval, .inl ⟨rfl, by rw [← hk]; exact hl, rfl⟩⟩, Kept.of_below h⟩ : ∃ _, _)⟩
  · have hP : isP W v l = false := Bool.eq_false_iff.2 hP
    refine (put_bad hT v ho l u hP).mono ?_
    rintro e w' ⟨rfl, h⟩
    exact ⟨111, rfl, (⟨_, ⟨⟨a, n, N, hT.below h, hk⟩, bst hb h, hlo⟩, .inl ⟨rfl, val_no (o := ⟨kd, v, l, vv⟩) hP, rfl⟩, Kept.of_below h⟩ : ∃ _, _)⟩
theorem set3 (hO : Own w0 w q W 4096 L) {o : OpD} {p : List Bool} (hv : Val W o p) (u : ByteArray) (hl : look p L ≠ none) :
    Calls Try.prog 32 #[.pointer (some ⟨q, 0, none⟩), Pf o.a o.n, .string u] w fun e w' => e = .returned (.int .i64 0) ∧ Hid (Own w0 w' q W 4096 (upd p u L) ∧ Kept (fun k => k = q) w w') := by
  obtain ⟨⟨a, n, N, hT, hk⟩, hb, hlo⟩ := hO
  rw [hv.2.1, hv.2.2]
  refine (set_ok hT hv.1 u (by rw [hk]; exact hl)).mono ?_
  rintro e w' ⟨rfl, a', n', N', g1, g2, g3⟩
  exact ⟨rfl, (⟨⟨⟨a', n', N', g1, by rw [g2, hk]⟩, hb.trans (g3.below hb.size (fun k e => by have e' : k = q := e; omega)), hlo⟩, g3⟩ : _ ∧ _)⟩
theorem drop3 (hO : Own w0 w q W 4096 L) {p : List Bool} (hp : p.length ≤ W) (v : ByteArray) (hl : look p L = some v) :
    Calls Try.prog 33 #[.pointer (some ⟨q, 0, none⟩), Pf (valOf W p) p.length] w fun e w' => e = .returned (.tuple #[.string v, .bool true]) ∧ Hid (Own w0 w' q W 4096 (del p L) ∧ Kept (fun k => k = q) w w') := by
  obtain ⟨⟨a, n, N, hT, hk⟩, hb, hlo⟩ := hO
  refine (drop_some hT hp v (by rw [hk]; exact hl)).mono ?_
  rintro e w' ⟨rfl, a', n', N', g1, g2, g3⟩
  exact ⟨rfl, (⟨⟨⟨a', n', N', g1, by rw [g2, hk]⟩, hb.trans (g3.below hb.size (fun k e => by have e' : k = q := e; omega)), hlo⟩, g3⟩ : _ ∧ _)⟩
theorem get3 (hO : Own w0 w q W 4096 L) (o : OpD) (ho : Is128 o.a) :
    Calls Try.prog 31 #[.pointer (some ⟨q, 0, none⟩), Pf o.a o.n] w fun e w' => ∃ s b, e = .returned (.tuple #[.string s, .bool b]) ∧ Hid ((∀ p, Val W o p → b = (look p L).isSome) ∧ Below w.heap.size w w') := by
  obtain ⟨⟨a, n, N, hT, hk⟩, hb, hlo⟩ := hO
  obtain ⟨kd, v, l, vv⟩ := o
  by_cases hP : isP W v l = true
  · obtain ⟨p, h1, h2, h3⟩ := isP_yes hP
    subst h2
    subst h3
    refine (get_yes hT h1).mono ?_
    rintro e w' ⟨rfl, h⟩
    exact ⟨_, _, rfl, (⟨fun p' hv => by rw [← hk, ← hv.inj (⟨h1, rfl, rfl⟩ : Val W ⟨kd, valOf W p, (p.length : Int), vv⟩ p)], h⟩ : _ ∧ _)⟩
  · have hP : isP W v l = false := Bool.eq_false_iff.2 hP
    refine (get_no hT.wd.1 hT.wd.2 q v ho l hP w (hT.hd.cell 0 rfl)).mono ?_
    rintro e w' ⟨rfl, h⟩
    exact ⟨_, _, rfl, (⟨fun p' hv => absurd hv (val_no (o := ⟨kd, v, l, vv⟩) hP p'), h⟩ : _ ∧ _)⟩
theorem Own.lt (hO : Own w0 w q W 4096 L) : q < w.heap.size := by
  obtain ⟨⟨a, n, N, hT, hk⟩, hb, hlo⟩ := hO
  exact hT.hd.lt
/-- It stands while another one's head is written over. -/
theorem Own.other {w' : World} {q2 : Nat} {L2 : List (List Bool × ByteArray)} {W2 : Nat} (hO : Own w0 w q W 4096 L) (h2 : Own w0 w q2 W2 4096 L2) (hne : q ≠ q2) (hk : Kept (fun k => k = q2) w w') : Own w0 w' q W 4096 L := by
  obtain ⟨⟨a, n, N, hT, hkk⟩, hb, hlo⟩ := hO
  obtain ⟨⟨a2, n2, N2, hT2, _⟩, _, hlo2⟩ := h2
  exact ⟨⟨a, n, N, hT.kept' hk hne (Hang.off_head hT.hang hT2.hd), hkk⟩, hb.trans (hk.below hb.size (fun k e => by have e' : k = q2 := e; omega)), hlo⟩
theorem Own.kept2 {w' : World} {S : Nat → Prop} (hO : Own w0 w q W 4096 L) (hk : Kept S w w') (hS : ∀ k, S k → w.heap.size ≤ k) : Own w0 w' q W 4096 L := by
  obtain ⟨⟨a, n, N, hT, hkk⟩, hb, hlo⟩ := hO
  exact ⟨⟨a, n, N, hT.kept' hk (fun e => by have := hS _ e; have := hT.hd.lt; omega) (Hang.off_new hT.hang hS), hkk⟩, hb.trans (hk.below hb.size (fun k e => by have := hS _ e; have := hb.size; omega)), hlo⟩
/-- It stands while a row of prefixes grows. -/
theorem Own.row {w' : World} {B m : Nat} {s : Value} {xs : List Value} (hO : Own w0 w q W 4096 L) (hr : w.ownsRow B 51 3 s m xs) (hB : w0.heap.size ≤ B) (hk : Kept (fun k => s.ownBlock = some k) w w') : Own w0 w' q W 4096 L := by
  obtain ⟨⟨a, n, N, hT, hkk⟩, hb, hlo⟩ := hO
  have no : ∀ {b : Nat} {cs : Array Value} {t : TypeId}, Blk w b cs t → t ≠ 51 → ¬ s.ownBlock = some b := fun {b cs t} h ht e => by
    obtain ⟨_, cs', f', e2⟩ := own_block hr e
    unfold Blk at h
    rw [h] at e2
    cases e2; exact ht rfl
  refine ⟨⟨a, n, N, hT.kept' hk (no hT.hd (by decide)) (fun x hx => ?_), hkk⟩, hb.trans (hk.below hb.size (fun k e => by have := (own_block hr e).1; omega)), hlo⟩
  obtain ⟨b0, b1, hn⟩ := hT.hang.thing x hx
  exact ⟨no hn.cells (by decide), fun t v ht => no (hn.thing t v ht) (by decide)⟩
theorem Own.off_row {B m : Nat} {s : Value} {xs : List Value} (hO : Own w0 w q W 4096 L) (hr : w.ownsRow B 51 3 s m xs) : ¬ s.ownBlock = some q := fun e => by
  obtain ⟨⟨a, n, N, hT, hkk⟩, hb, hlo⟩ := hO
  obtain ⟨_, cs', f', e2⟩ := own_block hr e
  have h := hT.hd
  unfold Blk at h
  rw [h] at e2
  cases e2
end
theorem kept_le {V : Type} : ∀ N : List (Nd V), (kept N).length ≤ N.length
  | [] => Nat.le_refl _
  | x :: N => by
    have h3 : (ownK x).length ≤ 1 := by unfold ownK; cases x.th <;> simp
    have := kept_le N
    rw [kept, List.length_append, List.length_cons]; omega
/-- Two tries that keep the same have as many nodes. -/
theorem same_nodes {w : World} {q1 q2 W m : Nat} {a1 a2 : Option Nat} {n1 n2 : Nat} {N1 N2 : List (Nd ByteArray)} (h1 : TrieAt w q1 W m a1 n1 N1) (h2 : TrieAt w q2 W m a2 n2 N2) (h : kept N1 = kept N2) : N1.length = N2.length := by
  have := Hang.shape n1 h1.hang h2.hang (by rw [h])
  have := congrArg List.length this
  simpa using this
end Go.Proofs.Ytgdpplipahhffaa.St
