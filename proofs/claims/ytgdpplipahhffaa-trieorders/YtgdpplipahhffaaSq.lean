/- Plain: the keys of what is kept tell the nodes. -/
import Derived.Test.YtgdpplipahhffaaTw
namespace Go.Proofs.Ytgdpplipahhffaa
open Go.RowKit
set_option linter.unusedVariables false
set_option linter.unusedSimpArgs false

section
variable {V V' : Type} {nt vt nt' vt' : TypeId} {enc : V → Value} {enc' : V' → Value} {W W' : Nat} {w w' : World}
theorem keys_own (x : Nd V) : (ownK x).map (·.1) = if x.th.isSome = true then [x.key] else [] := by
  unfold ownK; cases x.th <;> rfl
theorem keys_root (x : Nd V) (N0 N1 : List (Nd V)) : (kept (x :: (N0 ++ N1))).map (·.1) = (if x.th.isSome = true then [x.key] else []) ++ ((kept N0).map (·.1) ++ (kept N1).map (·.1)) := by
  rw [kept_root, List.map_append, List.map_append, keys_own]
theorem Root.keys_pre {n : Nat} {x : Nd V} {a0 a1 : Option Nat} {N0 N1 : List (Nd V)} (h : Root nt vt enc W w n x a0 a1 N0 N1) : ∀ k ∈ (kept (x :: (N0 ++ N1))).map (·.1), x.key <+: k := by
  intro k hk
  rw [keys_root] at hk
  simp only [List.mem_append] at hk
  rcases hk with hk | hk | hk
  · split at hk
    · rw [List.mem_singleton.1 hk]; exact List.prefix_refl _
    · cases hk
  · obtain ⟨y, hy, rfl⟩ := List.mem_map.1 hk
    exact (List.prefix_append _ _).trans (h.lt0 hy)
  · obtain ⟨y, hy, rfl⟩ := List.mem_map.1 hk
    exact (List.prefix_append _ _).trans (h.lt1 hy)
/-- A root's key is the longest beginning that all keys have. -/
theorem Root.longest {n : Nat} {x : Nd V} {a0 a1 : Option Nat} {N0 N1 : List (Nd V)} (h : Root nt vt enc W w n x a0 a1 N0 N1) (hf : x.th = none → N0 ≠ [] ∧ N1 ≠ []) (c : List Bool) (hc : ∀ k ∈ (kept (x :: (N0 ++ N1))).map (·.1), c <+: k) : c <+: x.key := by
  cases hx : x.th with
  | some t =>
    refine hc _ ?_
    rw [keys_root, hx]; simp
  | none =>
    obtain ⟨h0, h1⟩ := hf hx
    obtain ⟨y0, hy0⟩ := List.exists_mem_of_ne_nil _ (h.h0.kept_ne h0)
    obtain ⟨y1, hy1⟩ := List.exists_mem_of_ne_nil _ (h.h1.kept_ne h1)
    have p0 := h.lt0 hy0
    have p1 := h.lt1 hy1
    have c0 : c <+: y0.1 := hc _ (by rw [keys_root]; simp only [List.mem_append, List.mem_map]; exact .inr (.inl ⟨_, hy0, rfl⟩))
    have c1 : c <+: y1.1 := hc _ (by rw [keys_root]; simp only [List.mem_append, List.mem_map]; exact .inr (.inr ⟨_, hy1, rfl⟩))
    by_cases hl : c.length ≤ x.key.length
    · exact List.prefix_of_prefix_length_le c0 ((List.prefix_append _ _).trans p0) hl
    · exfalso
      have e0 : x.key ++ [false] <+: c := List.prefix_of_prefix_length_le p0 c0 (by simp; omega)
      have e1 : x.key ++ [true] <+: c := List.prefix_of_prefix_length_le p1 c1 (by simp; omega)
      have := (bit_of e0).symm.trans (bit_of e1)
      cases this
theorem Root.keys_side {n : Nat} {x : Nd V} {a0 a1 : Option Nat} {N0 N1 : List (Nd V)} (h : Root nt vt enc W w n x a0 a1 N0 N1) (i : Bool) : ((kept (x :: (N0 ++ N1))).map (·.1)).filter (fun k => decide (x.key ++ [i] <+: k)) = (kept (if i then N1 else N0)).map (·.1) := by
  have hno : ∀ {L : List (List Bool)} {j : Bool}, (∀ k ∈ L, x.key ++ [j] <+: k) → L.filter (fun k => decide (x.key ++ [i] <+: k)) = if i = j then L else [] := fun {L j} hL => by
    split
    · rename_i e
      subst e
      rw [List.filter_eq_self]
      exact fun k hk => decide_eq_true (hL k hk)
    · rename_i e
      rw [List.filter_eq_nil_iff]
      intro k hk e2
      have := (bit_of (of_decide_eq_true e2)).symm.trans (bit_of (hL k hk))
      exact e (Option.some.inj this)
  have g0 : ∀ k ∈ (kept N0).map (·.1), x.key ++ [false] <+: k := fun k hk => by
    obtain ⟨y, hy, rfl⟩ := List.mem_map.1 hk
    exact h.lt0 hy
  have g1 : ∀ k ∈ (kept N1).map (·.1), x.key ++ [true] <+: k := fun k hk => by
    obtain ⟨y, hy, rfl⟩ := List.mem_map.1 hk
    exact h.lt1 hy
  have gx : (if x.th.isSome = true then [x.key] else []).filter (fun k => decide (x.key ++ [i] <+: k)) = [] := by
    rw [List.filter_eq_nil_iff]
    intro k hk e
    split at hk
    · rw [List.mem_singleton.1 hk] at e
      have := (of_decide_eq_true e).length_le
      simp at this
      omega
    · cases hk
  rw [keys_root, List.filter_append, List.filter_append, gx, hno g0, hno g1]
  cases i <;> simp
theorem Hang.shape : ∀ (n : Nat) {m : Nat} {a b : Option Nat} {N : List (Nd V)} {M : List (Nd V')}, Hang nt vt enc W w n a N → Hang nt' vt' enc' W' w' m b M → (kept N).map (·.1) = (kept M).map (·.1) → N.map (·.key) = M.map (·.key) := by
  intro n
  induction n with
  | zero =>
    intro m a b N M h g e
    have hN : N = [] := h.2
    subst hN
    have : M = [] := by
      apply Classical.byContradiction
      intro hM
      have := g.kept_ne hM
      simp [kept] at e
      exact this e
    rw [this]; rfl
  | succ n ih =>
    intro m a b N M h g e
    cases a with
    | none =>
      have hN := h.of_none
      subst hN
      have : M = [] := by
        apply Classical.byContradiction
        intro hM
        have := g.kept_ne hM
        simp [kept] at e
        exact this e
      rw [this]; rfl
    | some c =>
      obtain ⟨m1, x, a0, a1, N0, N1, e1, rfl, rfl, hR, hf⟩ := h.root
      cases b with
      | none =>
        exfalso
        have hM := g.of_none
        subst hM
        have hne := h.kept_ne (by simp)
        have e2 : (kept (x :: (N0 ++ N1))).map (·.1) = [] := e
        exact hne (List.map_eq_nil_iff.1 e2)
      | some d =>
        obtain ⟨m2, y, b0, b1, M0, M1, e2, rfl, rfl, hS, hg⟩ := g.root
        have hk : x.key = y.key := by
          have p1 := hS.longest hg x.key (by rw [← e]; exact hR.keys_pre)
          have p2 := hR.longest hf y.key (by rw [e]; exact hS.keys_pre)
          exact p1.eq_of_length (Nat.le_antisymm p1.length_le p2.length_le)
        obtain rfl : m1 = n := by omega
        have s0 : (kept N0).map (·.1) = (kept M0).map (·.1) := by
          have q1 := hR.keys_side false
          have q2 := hS.keys_side false
          rw [e, hk] at q1
          exact q1.symm.trans q2
        have s1 : (kept N1).map (·.1) = (kept M1).map (·.1) := by
          have q1 := hR.keys_side true
          have q2 := hS.keys_side true
          rw [e, hk] at q1
          exact q1.symm.trans q2
        rw [List.map_cons, List.map_append, List.map_cons, List.map_append, hk, ih hR.h0 hS.h0 s0, ih hR.h1 hS.h1 s1]
end
end Go.Proofs.Ytgdpplipahhffaa
