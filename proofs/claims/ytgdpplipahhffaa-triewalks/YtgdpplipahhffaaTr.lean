/- A tree of bits as it lies in memory, and what is kept in it. -/
import Derived.Test.YtgdpplipahhffaaGl
import Derived.Test.YtgdpplipahhffaaKe
namespace Go.Proofs.Ytgdpplipahhffaa
open Go.RowKit
set_option linter.unusedVariables false
set_option linter.unusedSimpArgs false

/-- A node: where it lies, its prefix, where its thing lies and what it is. -/
structure Nd (V : Type) where
  blk : Nat
  key : List Bool
  th : Option (Nat × V)
section
variable {V : Type}
def ownK (x : Nd V) : List (List Bool × V) := match x.th with | none => [] | some t => [(x.key, t.2)]
def kept : List (Nd V) → List (List Bool × V)
  | [] => []
  | x :: N => ownK x ++ kept N
theorem kept_append : ∀ (A B : List (Nd V)), kept (A ++ B) = kept A ++ kept B
  | [], B => rfl
  | x :: A, B => by rw [List.cons_append, kept, kept, kept_append A B, List.append_assoc]
theorem mem_own {x : Nd V} {y} : y ∈ ownK x ↔ ∃ t, x.th = some t ∧ y = (x.key, t.2) := by
  unfold ownK
  cases h : x.th with
  | none => simp
  | some t => simp
theorem mem_kept {y} : ∀ {N : List (Nd V)}, y ∈ kept N ↔ ∃ x ∈ N, y ∈ ownK x
  | [] => by simp [kept]
  | x :: N => by rw [kept, List.mem_append, mem_kept]; simp
abbrev pt (a : Option Nat) : Value := .pointer (a.map fun b => ⟨b, 0, none⟩)
abbrev nodeC (W : Nat) (x : Nd V) (a0 a1 : Option Nat) : Array Value := #[.int .u64 (hiOf (valOf W x.key)), .int .u64 (loOf (valOf W x.key)), .int .i64 x.key.length, pt (x.th.map (·.1)), pt a0, pt a1]
structure NodeAt (nt vt : TypeId) (enc : V → Value) (W : Nat) (w : World) (x : Nd V) (a0 a1 : Option Nat) : Prop where
  cells : Blk w x.blk (nodeC W x a0 a1) nt
  thing : ∀ t v, x.th = some (t, v) → Blk w t #[enc v] vt
  len : x.key.length ≤ W
/-- What hangs on a pointer. -/
def Hang (nt vt : TypeId) (enc : V → Value) (W : Nat) (w : World) : Nat → Option Nat → List (Nd V) → Prop
  | 0, a, N => a = none ∧ N = []
  | n + 1, a, N => (a = none ∧ N = []) ∨ ∃ x a0 a1 N0 N1, a = some x.blk ∧ N = x :: (N0 ++ N1) ∧ NodeAt nt vt enc W w x a0 a1 ∧ (∀ y ∈ N0, x.key ++ [false] <+: y.key) ∧ (∀ y ∈ N1, x.key ++ [true] <+: y.key) ∧ (x.th = none → N0 ≠ [] ∧ N1 ≠ []) ∧ Hang nt vt enc W w n a0 N0 ∧ Hang nt vt enc W w n a1 N1
def Off (S : Nat → Prop) (N : List (Nd V)) : Prop := ∀ x ∈ N, ¬ S x.blk ∧ ∀ t v, x.th = some (t, v) → ¬ S t
variable {nt vt : TypeId} {enc : V → Value} {W : Nat} {w : World}
theorem NodeAt.kept' {w' : World} {x : Nd V} {a0 a1 : Option Nat} {S : Nat → Prop} (h : NodeAt nt vt enc W w x a0 a1) (hk : Kept S w w') (h1 : ¬ S x.blk) (h2 : ∀ t v, x.th = some (t, v) → ¬ S t) : NodeAt nt vt enc W w' x a0 a1 :=
  ⟨h.cells.kept hk h1, fun t v e => (h.thing t v e).kept hk (h2 t v e), h.len⟩
theorem NodeAt.below {w' : World} {x : Nd V} {a0 a1 : Option Nat} (h : NodeAt nt vt enc W w x a0 a1) (hk : Below w.heap.size w w') : NodeAt nt vt enc W w' x a0 a1 :=
  ⟨h.cells.below hk, fun t v e => (h.thing t v e).below hk, h.len⟩
theorem Hang.keptW {w' : World} {S : Nat → Prop} (hk : Kept S w w') : ∀ {n a} {N : List (Nd V)}, Hang nt vt enc W w n a N → Off S N → Hang nt vt enc W w' n a N
  | 0, a, N, h, _ => h
  | n + 1, a, N, h, ho => by
    rcases h with h | ⟨x, a0, a1, N0, N1, h1, rfl, h3, h4, h5, h6, h7, h8⟩
    · exact .inl h
    · have hx := ho x (by simp)
      exact .inr ⟨x, a0, a1, N0, N1, h1, rfl, h3.kept' hk hx.1 hx.2, h4, h5, h6, Hang.keptW hk h7 fun y hy => ho y (by simp [hy]), Hang.keptW hk h8 fun y hy => ho y (by simp [hy])⟩
theorem off_none (N : List (Nd V)) : Off (fun _ => False) N := fun _ _ => ⟨id, fun _ _ _ => id⟩
theorem Hang.below {w' : World} (hk : Below w.heap.size w w') {n a} {N : List (Nd V)} (h : Hang nt vt enc W w n a N) : Hang nt vt enc W w' n a N := h.keptW (S := fun _ => False) (Kept.of_below hk) (off_none N)
theorem Hang.mono : ∀ {n m a} {N : List (Nd V)}, Hang nt vt enc W w n a N → n ≤ m → Hang nt vt enc W w m a N
  | 0, 0, a, N, h, _ => h
  | 0, m + 1, a, N, h, _ => .inl h
  | n + 1, 0, a, N, h, hm => by omega
  | n + 1, m + 1, a, N, h, hm => by
    rcases h with h | ⟨x, a0, a1, N0, N1, h1, h2, h3, h4, h5, h6, h7, h8⟩
    · exact .inl h
    · exact .inr ⟨x, a0, a1, N0, N1, h1, h2, h3, h4, h5, h6, Hang.mono h7 (by omega), Hang.mono h8 (by omega)⟩
theorem Hang.of_none : ∀ {n} {N : List (Nd V)}, Hang nt vt enc W w n none N → N = []
  | 0, N, h => h.2
  | n + 1, N, h => by
    rcases h with h | ⟨x, a0, a1, N0, N1, h1, _⟩
    · exact h.2
    · cases h1
theorem Hang.nil (n : Nat) : Hang nt vt enc W w n none ([] : List (Nd V)) := by cases n; exact ⟨rfl, rfl⟩; exact .inl ⟨rfl, rfl⟩
theorem Hang.empty : ∀ {n a}, Hang nt vt enc W w n a ([] : List (Nd V)) → a = none
  | 0, a, h => h.1
  | n + 1, a, h => by
    rcases h with h | ⟨x, a0, a1, N0, N1, _, h2, _⟩
    · exact h.1
    · cases h2
/-- A node with what hangs on it: a fork may lack a side. -/
structure Root (nt vt : TypeId) (enc : V → Value) (W : Nat) (w : World) (n : Nat) (x : Nd V) (a0 a1 : Option Nat) (N0 N1 : List (Nd V)) : Prop where
  node : NodeAt nt vt enc W w x a0 a1
  pre0 : ∀ y ∈ N0, x.key ++ [false] <+: y.key
  pre1 : ∀ y ∈ N1, x.key ++ [true] <+: y.key
  h0 : Hang nt vt enc W w n a0 N0
  h1 : Hang nt vt enc W w n a1 N1
theorem Root.below {w' : World} (hk : Below w.heap.size w w') {n x a0 a1} {N0 N1 : List (Nd V)} (h : Root nt vt enc W w n x a0 a1 N0 N1) : Root nt vt enc W w' n x a0 a1 N0 N1 :=
  ⟨h.node.below hk, h.pre0, h.pre1, h.h0.below hk, h.h1.below hk⟩
theorem Root.hang {n x a0 a1} {N0 N1 : List (Nd V)} (h : Root nt vt enc W w n x a0 a1 N0 N1) (hf : x.th = none → N0 ≠ [] ∧ N1 ≠ []) : Hang nt vt enc W w (n + 1) (some x.blk) (x :: (N0 ++ N1)) :=
  .inr ⟨x, a0, a1, N0, N1, rfl, rfl, h.node, h.pre0, h.pre1, hf, h.h0, h.h1⟩
theorem Hang.root {n b} {N : List (Nd V)} (h : Hang nt vt enc W w n (some b) N) : ∃ m x a0 a1 N0 N1, n = m + 1 ∧ b = x.blk ∧ N = x :: (N0 ++ N1) ∧ Root nt vt enc W w m x a0 a1 N0 N1 ∧ (x.th = none → N0 ≠ [] ∧ N1 ≠ []) := by
  cases n with
  | zero => cases h.1
  | succ m =>
    rcases h with h | ⟨x, a0, a1, N0, N1, h1, h2, h3, h4, h5, h6, h7, h8⟩
    · cases h.1
    · cases h1
      exact ⟨m, x, a0, a1, N0, N1, rfl, rfl, h2, ⟨h3, h4, h5, h7, h8⟩, h6⟩
theorem Hang.lens : ∀ {n a} {N : List (Nd V)}, Hang nt vt enc W w n a N → ∀ x ∈ N, x.key.length ≤ W
  | 0, a, N, h, x, hx => by rw [h.2] at hx; simp at hx
  | n + 1, a, N, h, x, hx => by
    rcases h with h | ⟨y, a0, a1, N0, N1, h1, rfl, h3, h4, h5, h6, h7, h8⟩
    · rw [h.2] at hx; simp at hx
    · simp only [List.mem_cons, List.mem_append] at hx
      rcases hx with rfl | hx | hx
      · exact h3.len
      · exact h7.lens x hx
      · exact h8.lens x hx
theorem Hang.kept_ne : ∀ {n a} {N : List (Nd V)}, Hang nt vt enc W w n a N → N ≠ [] → kept N ≠ []
  | 0, a, N, h, hn => absurd h.2 hn
  | n + 1, a, N, h, hn => by
    rcases h with h | ⟨x, a0, a1, N0, N1, h1, rfl, h3, h4, h5, h6, h7, h8⟩
    · exact absurd h.2 hn
    · rw [kept, kept_append]
      cases hx : x.th with
      | none => have := h7.kept_ne (h6 hx).1; simp [this]
      | some t => simp [ownK, hx]
/-- If all that is kept begins so, all nodes do. -/
theorem Hang.ext {c : List Bool} : ∀ {n a} {N : List (Nd V)}, Hang nt vt enc W w n a N → (∀ y ∈ kept N, c <+: y.1) → ∀ x ∈ N, c <+: x.key
  | 0, a, N, h, _, x, hx => by rw [h.2] at hx; simp at hx
  | n + 1, a, N, h, hk, x, hx => by
    rcases h with h | ⟨y, a0, a1, N0, N1, h1, rfl, h3, h4, h5, h6, h7, h8⟩
    · rw [h.2] at hx; simp at hx
    · rw [kept, kept_append] at hk
      have e0 := h7.ext fun z hz => hk z (by simp [hz])
      have e1 := h8.ext fun z hz => hk z (by simp [hz])
      have ey : c <+: y.key := by
        cases hy : y.th with
        | some t => exact hk (y.key, t.2) (by simp [ownK, hy])
        | none =>
          obtain ⟨n0, n1⟩ := h6 hy
          obtain ⟨x0, m0⟩ := List.exists_mem_of_ne_nil _ n0
          obtain ⟨x1, m1⟩ := List.exists_mem_of_ne_nil _ n1
          by_cases hl : c.length ≤ y.key.length
          · exact List.prefix_of_prefix_length_le (e0 x0 m0) ((List.prefix_append _ _).trans (h4 x0 m0)) hl
          · exfalso
            have g0 : y.key ++ [false] <+: c := List.prefix_of_prefix_length_le (h4 x0 m0) (e0 x0 m0) (by simp; omega)
            have g1 : y.key ++ [true] <+: c := List.prefix_of_prefix_length_le (h5 x1 m1) (e1 x1 m1) (by simp; omega)
            have := List.prefix_of_prefix_length_le g0 g1 (by simp)
            have := this.eq_of_length (by simp)
            simp at this
      simp only [List.mem_cons, List.mem_append] at hx
      rcases hx with rfl | hx | hx
      · exact ey
      · exact e0 x hx
      · exact e1 x hx
theorem Root.srtN {n x a0 a1} {N0 N1 : List (Nd V)} (h : Root nt vt enc W w n x a0 a1 N0 N1) (s0 : N0.Pairwise fun a b => klt a.key b.key = true) (s1 : N1.Pairwise fun a b => klt a.key b.key = true) : (x :: (N0 ++ N1)).Pairwise fun a b => klt a.key b.key = true := by
  refine List.pairwise_cons.2 ⟨fun y hy => ?_, List.pairwise_append.2 ⟨s0, s1, fun y hy z hz => klt_side (h.pre0 y hy) (h.pre1 z hz)⟩⟩
  rcases List.mem_append.1 hy with hy | hy
  · exact klt_own (h.pre0 y hy)
  · exact klt_own (h.pre1 y hy)
theorem Hang.srtN : ∀ {n a} {N : List (Nd V)}, Hang nt vt enc W w n a N → N.Pairwise fun a b => klt a.key b.key = true
  | 0, a, N, h => by rw [h.2]; exact List.Pairwise.nil
  | n + 1, a, N, h => by
    rcases h with h | ⟨x, a0, a1, N0, N1, h1, rfl, h3, h4, h5, h6, h7, h8⟩
    · rw [h.2]; exact List.Pairwise.nil
    · exact Root.srtN ⟨h3, h4, h5, h7, h8⟩ h7.srtN h8.srtN
theorem kept_key {N : List (Nd V)} {y} (h : y ∈ kept N) : ∃ x ∈ N, x.key = y.1 := by
  obtain ⟨x, h1, h2⟩ := mem_kept.1 h
  obtain ⟨t, _, rfl⟩ := mem_own.1 h2
  exact ⟨x, h1, rfl⟩
theorem srt_kept : ∀ {N : List (Nd V)}, (N.Pairwise fun a b => klt a.key b.key = true) → Srt (kept N)
  | [], _ => List.Pairwise.nil
  | x :: N, h => by
    obtain ⟨h1, h2⟩ := List.pairwise_cons.1 h
    rw [kept]
    refine List.pairwise_append.2 ⟨?_, srt_kept h2, fun y hy z hz => ?_⟩
    · unfold ownK; split <;> simp
    · obtain ⟨t, _, rfl⟩ := mem_own.1 hy
      obtain ⟨u, m, e⟩ := kept_key hz
      rw [← e]; exact h1 u m
theorem Hang.srt {n a} {N : List (Nd V)} (h : Hang nt vt enc W w n a N) : Srt (kept N) := srt_kept h.srtN
/-- The thing kept under a key: where it lies. -/
def thAt (p : List Bool) (N : List (Nd V)) : Option (Nat × V) := (N.find? fun x => decide (x.key = p)).bind (·.th)
theorem thAt_look : ∀ {N : List (Nd V)}, (N.Pairwise fun a b => klt a.key b.key = true) → ∀ p, (thAt p N).map (·.2) = look p (kept N)
  | [], _, p => rfl
  | x :: N, h, p => by
    obtain ⟨h1, h2⟩ := List.pairwise_cons.1 h
    have ih := thAt_look h2 p
    unfold thAt at *
    rw [List.find?_cons, kept]
    by_cases e : x.key = p
    · rw [decide_eq_true e]
      have hn : look p (kept N) = none := look_none.2 fun y hy e' => by
        obtain ⟨u, m, e2⟩ := kept_key hy
        have := h1 u m
        exact klt_ne this (by rw [e, e2, e'])
      simp only [Option.bind_some]
      unfold ownK
      cases hx : x.th with
      | none => simpa using hn.symm
      | some t => simp [look_cons, e]
    · rw [decide_eq_false e]
      have : look p (ownK x ++ kept N) = look p (kept N) := by
        unfold ownK
        cases hx : x.th with
        | none => rfl
        | some t => rw [List.singleton_append, look_cons, if_neg e]
      rw [this]; exact ih
theorem thAt_mem {N : List (Nd V)} {p : List Bool} {t : Nat × V} (h : thAt p N = some t) : ∃ x ∈ N, x.key = p ∧ x.th = some t := by
  unfold thAt at h
  obtain ⟨x, h1, h2⟩ := Option.bind_eq_some_iff.1 h
  have := List.find?_some h1
  exact ⟨x, List.mem_of_find?_eq_some h1, by simpa using this, h2⟩
theorem Hang.thing : ∀ {n a} {N : List (Nd V)}, Hang nt vt enc W w n a N → ∀ x ∈ N, ∃ a0 a1, NodeAt nt vt enc W w x a0 a1
  | 0, a, N, h, x, hx => by rw [h.2] at hx; simp at hx
  | n + 1, a, N, h, x, hx => by
    rcases h with h | ⟨y, a0, a1, N0, N1, h1, rfl, h3, h4, h5, h6, h7, h8⟩
    · rw [h.2] at hx; simp at hx
    · simp only [List.mem_cons, List.mem_append] at hx
      rcases hx with rfl | hx | hx
      · exact ⟨_, _, h3⟩
      · exact h7.thing x hx
      · exact h8.thing x hx
theorem Hang.th_at {n a} {N : List (Nd V)} (h : Hang nt vt enc W w n a N) {p : List Bool} {t : Nat} {v : V} (ht : thAt p N = some (t, v)) : Blk w t #[enc v] vt := by
  obtain ⟨x, h1, h2, h3⟩ := thAt_mem ht
  obtain ⟨a0, a1, h4⟩ := h.thing x h1
  exact h4.thing t v h3
end
end Go.Proofs.Ytgdpplipahhffaa
