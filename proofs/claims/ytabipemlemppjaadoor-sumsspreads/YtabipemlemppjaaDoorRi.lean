/- Rings of numbers, some of them taken: the first free one from a number on. Plain facts. -/
import Derived.WalkKit
namespace Go.Proofs.YtabipemlemppjaaDoor
set_option linter.unusedVariables false

/-- From s on d numbers are taken, and the next one is free. -/
def FF (N : Nat) (T : List Nat) (s d : Nat) : Prop := (s + d) % N ∉ T ∧ ∀ e, e < d → (s + e) % N ∈ T
theorem FF.only {N : Nat} {T : List Nat} {s d d' : Nat} (h : FF N T s d) (h' : FF N T s d') : d = d' := by
  rcases Nat.lt_trichotomy d d' with hl | hl | hl
  · exact absurd (h'.2 d hl) h.1
  · exact hl
  · exact absurd (h.2 d' hl) h'.1
theorem FF.skip {N : Nat} {T : List Nat} {s d k : Nat} (h : FF N T s d) (hk : k ≤ d) : FF N T ((s + k) % N) (d - k) := by
  have e : ∀ j, ((s + k) % N + j) % N = (s + (k + j)) % N := fun j => by rw [Nat.mod_add_mod, Nat.add_assoc]
  refine ⟨?_, fun j hj => ?_⟩
  · rw [e, show k + (d - k) = d by omega]; exact h.1
  · rw [e]; exact h.2 _ (by omega)
/-- More places than taken numbers: one is free. -/
theorem pigeon : ∀ (T : List Nat) (n : Nat) (f : Nat → Nat), T.length < n → (∀ i j, i < n → j < n → f i = f j → i = j) → ∃ i, i < n ∧ f i ∉ T := by
  intro T; induction T with
  | nil => intro n f h _; exact ⟨0, by simpa using h, by simp⟩
  | cons t T ih =>
    intro n f h hf
    rw [List.length_cons] at h
    by_cases hx : ∃ i, i < n ∧ f i = t
    · obtain ⟨i0, hi0, he⟩ := hx
      obtain ⟨j, hj, hn⟩ := ih (n - 1) (fun i => if i < i0 then f i else f (i + 1)) (by omega) (fun a b ha hb hab => by
        try dsimp only at hab
        by_cases h1 : a < i0 <;> by_cases h2 : b < i0
        · rw [if_pos h1, if_pos h2] at hab; exact hf a b (by omega) (by omega) hab
        · rw [if_pos h1, if_neg h2] at hab; have := hf a (b + 1) (by omega) (by omega) hab; omega
        · rw [if_neg h1, if_pos h2] at hab; have := hf (a + 1) b (by omega) (by omega) hab; omega
        · rw [if_neg h1, if_neg h2] at hab; have := hf (a + 1) (b + 1) (by omega) (by omega) hab; omega)
      try dsimp only at hn
      by_cases h1 : j < i0
      · rw [if_pos h1] at hn
        refine ⟨j, by omega, fun hm => ?_⟩
        rcases List.mem_cons.1 hm with e | hm
        · have := hf j i0 (by omega) hi0 (e.trans he.symm); omega
        · exact hn hm
      · rw [if_neg h1] at hn
        refine ⟨j + 1, by omega, fun hm => ?_⟩
        rcases List.mem_cons.1 hm with e | hm
        · have := hf (j + 1) i0 (by omega) hi0 (e.trans he.symm); omega
        · exact hn hm
    · obtain ⟨j, hj, hn⟩ := ih n f (by omega) hf
      refine ⟨j, hj, fun hm => ?_⟩
      rcases List.mem_cons.1 hm with e | hm
      · exact hx ⟨j, hj, e⟩
      · exact hn hm
theorem mod_step {N q k : Nat} (hq : q < N) (hk : 0 < k) (hkN : k < N) : (q + k) % N ≠ q := by
  by_cases h : q + k < N
  · rw [Nat.mod_eq_of_lt h]; omega
  · rw [Nat.mod_eq_sub_mod (by omega), Nat.mod_eq_of_lt (by omega)]; omega
theorem mod_inj {N s i j : Nat} (hi : i < N) (hj : j < N) (h : (s + i) % N = (s + j) % N) : i = j := by
  have hN : 0 < N := by omega
  have key : ∀ a b : Nat, a < b → b < N → (s + a) % N ≠ (s + b) % N := fun a b hab hb e => by
    have h1 : (s + b) % N = ((s + a) % N + (b - a)) % N := by rw [Nat.mod_add_mod]; congr 1; omega
    rw [← e] at h1
    exact mod_step (Nat.mod_lt (s + a) hN) (show 0 < b - a by omega) (by omega) h1.symm
  rcases Nat.lt_trichotomy i j with hl | hl | hl
  · exact absurd h (key i j hl hj)
  · exact hl
  · exact absurd h.symm (key j i hl hi)
theorem least {P : Nat → Prop} (hd : ∀ i, P i ∨ ¬ P i) : ∀ n, (∃ i, i ≤ n ∧ P i) → ∃ i, i ≤ n ∧ P i ∧ ∀ j, j < i → ¬ P j := by
  intro n; induction n with
  | zero => rintro ⟨i, hi, h⟩; exact ⟨i, hi, h, fun j hj => by omega⟩
  | succ n ih =>
    rintro ⟨i, hi, h⟩
    by_cases hx : ∃ i, i ≤ n ∧ P i
    · obtain ⟨j, hj, h1⟩ := ih hx; exact ⟨j, by omega, h1⟩
    · exact ⟨i, hi, h, fun j hj hp => hx ⟨j, by omega, hp⟩⟩
theorem FF.some {N : Nat} {T : List Nat} (s : Nat) (hT : T.length < N) : ∃ d, d ≤ T.length ∧ FF N T s d := by
  obtain ⟨i, hi, hn⟩ := pigeon T (T.length + 1) (fun d => (s + d) % N) (by omega) (fun a b ha hb h => mod_inj (by omega) (by omega) h)
  obtain ⟨d, hd, h1, h2⟩ := least (P := fun d => (s + d) % N ∉ T) (fun d => by by_cases h : (s + d) % N ∈ T; exact .inr (fun x => x h); exact .inl h) T.length ⟨i, by omega, hn⟩
  exact ⟨d, hd, h1, fun e he => by by_cases h : (s + e) % N ∈ T; exact h; exact absurd h (h2 e he)⟩
/-- How far it is to the first free one. -/
def dstF (N : Nat) (T : List Nat) : Nat → Nat → Nat
  | 0, _ => 0
  | k + 1, s => if s ∈ T then 1 + dstF N T k ((s + 1) % N) else 0
theorem dst_is {N : Nat} {T : List Nat} : ∀ (k s d : Nat), s < N → d < k → FF N T s d → dstF N T k s = d := by
  intro k; induction k with
  | zero => intro s d _ h; omega
  | succ k ih =>
    intro s d hs hd h
    rw [dstF]
    have e0 : (s + 0) % N = s := by rw [Nat.add_zero, Nat.mod_eq_of_lt hs]
    cases d with
    | zero => rw [if_neg (by have := h.1; rw [e0] at this; exact this)]
    | succ d =>
      rw [if_pos (by have := h.2 0 (by omega); rw [e0] at this; exact this), ih _ d (Nat.mod_lt _ (by omega)) (by omega) (h.skip (by omega))]
      omega
/-- What the ring keeps: to each taken number a later one, all between being taken. -/
structure Rg (N : Nat) (f : Int → Option Int) (T : List Nat) : Prop where
  dom : ∀ s : Nat, s < N → ((f s).isSome = true ↔ s ∈ T)
  low : ∀ t ∈ T, t < N
  step : ∀ s, s ∈ T → ∃ d, 1 ≤ d ∧ f (s : Int) = some (((s + d) % N : Nat) : Int) ∧ ∀ e, e < d → (s + e) % N ∈ T
theorem Rg.free {N : Nat} {f : Int → Option Int} {T : List Nat} (h : Rg N f T) {s : Nat} (hs : s < N) (hf : f s = none) : s ∉ T := fun hm => by
  have := (h.dom s hs).2 hm; rw [hf] at this; cases this
/-- A way is made shorter. -/
theorem Rg.short {N : Nat} {f : Int → Option Int} {T : List Nat} (h : Rg N f T) {s d1 : Nat} (hs : s ∈ T) (hd : 1 ≤ d1) (h1 : ∀ e, e < d1 → (s + e) % N ∈ T) {far : Int} (hf : f (((s + d1) % N : Nat) : Int) = Option.some far) : Rg N (fun x => if x = (s : Int) then Option.some far else f x) T := by
  have hsN := h.low s hs
  have hn := Nat.mod_lt (s + d1) (show 0 < N by omega)
  have hm : (s + d1) % N ∈ T := (h.dom _ hn).1 (by rw [hf]; rfl)
  obtain ⟨d2, g1, g2, g3⟩ := h.step _ hm
  rw [hf] at g2
  injection g2 with g2
  have e : ∀ j, ((s + d1) % N + j) % N = (s + (d1 + j)) % N := fun j => by rw [Nat.mod_add_mod, Nat.add_assoc]
  refine ⟨fun x hx => ?_, h.low, fun x hx => ?_⟩
  · try dsimp only
    by_cases e1 : (x : Int) = (s : Int)
    · rw [if_pos e1]
      have : x = s := by omega
      subst this
      exact ⟨fun _ => hs, fun _ => rfl⟩
    · rw [if_neg e1]; exact h.dom x hx
  · try dsimp only
    by_cases e1 : (x : Int) = (s : Int)
    · have : x = s := by omega
      subst this
      rw [if_pos e1]
      refine ⟨d1 + d2, by omega, by rw [g2, e], fun j hj => ?_⟩
      by_cases hj1 : j < d1
      · exact h1 j hj1
      · have := g3 (j - d1) (by omega)
        rw [e, show d1 + (j - d1) = j by omega] at this
        exact this
    · rw [if_neg e1]; exact h.step x hx
/-- A free number is taken. -/
theorem Rg.taken {N : Nat} {f : Int → Option Int} {T : List Nat} (h : Rg N f T) {s : Nat} (hs : s < N) : Rg N (fun x => if x = (s : Int) then Option.some (((s + 1) % N : Nat) : Int) else f x) (T ++ [s]) := by
  refine ⟨fun x hx => ?_, fun t ht => ?_, fun x hx => ?_⟩
  · try dsimp only
    by_cases e1 : (x : Int) = (s : Int)
    · rw [if_pos e1]
      have : x = s := by omega
      subst this
      exact ⟨fun _ => by simp, fun _ => rfl⟩
    · rw [if_neg e1, h.dom x hx]
      have : x ≠ s := by omega
      simp [this]
  · rcases List.mem_append.1 ht with ht | ht
    · exact h.low t ht
    · simp at ht; omega
  · try dsimp only
    by_cases e1 : (x : Int) = (s : Int)
    · have : x = s := by omega
      subst this
      rw [if_pos e1]
      refine ⟨1, by omega, rfl, fun e he => ?_⟩
      obtain rfl : e = 0 := by omega
      rw [Nat.add_zero, Nat.mod_eq_of_lt hs]; simp
    · rw [if_neg e1]
      have hxT : x ∈ T := by
        rcases List.mem_append.1 hx with hx | hx
        · exact hx
        · simp at hx; omega
      obtain ⟨d, g1, g2, g3⟩ := h.step x hxT
      exact ⟨d, g1, g2, fun e he => List.mem_append_left _ (g3 e he)⟩
end Go.Proofs.YtabipemlemppjaaDoor
