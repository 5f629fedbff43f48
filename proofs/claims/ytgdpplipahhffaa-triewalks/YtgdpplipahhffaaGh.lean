/- Plain: the keys of what is kept tell the nodes. Plain: how many nodes a list of keys has, by its neighbours. The document's trie: Nodes. -/
import Derived.Test.YtgdpplipahhffaaGu
import Derived.Test.YtgdpplipahhffaaGc
namespace Go.Proofs.Ytgdpplipahhffaa
open Go.RowKit
set_option linter.unusedVariables false
set_option linter.unusedSimpArgs false

section
variable {V V' : Type} {nt vt nt' vt' : TypeId} {enc : V → Value} {enc' : V' → Value} {W W' : Nat} {w w' : World}
theorem keys_own (x : Nd V) : (ownK x).map (·.1) = if x.th.isSome = true then [x.key] else [] := by
  unfold ownK; cases x.th <;> rfl
theorem keys_root (x : Nd V) (N0 N1 : List (Nd V)) : (kept (x :: (N0 ++ N1))).map (·.1) = (if x.th.isSome = true then [x.key] else []) ++ ((kept N0).map (·.1) ++ (kept N1).map (·.1)) := by
  rw [kept_root, List.map_append, List.map_append, keys_own]
theorem Root.keys_pre {n : Nat} {x : Nd V} {a0 a1 : Option Nat} {N0 N1 : List (Nd V)} (h : Root nt vt enc W w n x a0 a1 N0 N1) : ∀ k ∈ (kept (x :: (N0 ++ N1))).map (·.1), x.key <+: k := by
  intro k hk
  rw [keys_root] at hk
  simp only [List.mem_append] at hk
  rcases hk with hk | hk | hk
  · split at hk
    · rw [List.mem_singleton.1 hk]; exact List.prefix_refl _
    · cases hk
  · obtain ⟨y, hy, rfl⟩ := List.mem_map.1 hk
    exact (List.prefix_append _ _).trans (h.lt0 hy)
  · obtain ⟨y, hy, rfl⟩ := List.mem_map.1 hk
    exact (List.prefix_append _ _).trans (h.lt1 hy)
/-- A root's key is the longest beginning that all keys have. -/
theorem Root.longest {n : Nat} {x : Nd V} {a0 a1 : Option Nat} {N0 N1 : List (Nd V)} (h : Root nt vt enc W w n x a0 a1 N0 N1) (hf : x.th = none → N0 ≠ [] ∧ N1 ≠ []) (c : List Bool) (hc : ∀ k ∈ (kept (x :: (N0 ++ N1))).map (·.1), c <+: k) : c <+: x.key := by
  cases hx : x.th with
  | some t =>
    refine hc _ ?_
    rw [keys_root, hx]; simp
  | none =>
    obtain ⟨h0, h1⟩ := hf hx
    obtain ⟨y0, hy0⟩ := List.exists_mem_of_ne_nil _ (h.h0.kept_ne h0)
    obtain ⟨y1, hy1⟩ := List.exists_mem_of_ne_nil _ (h.h1.kept_ne h1)
    have p0 := h.lt0 hy0
    have p1 := h.lt1 hy1
    have c0 : c <+: y0.1 := hc _ (by rw [keys_root]; simp only [List.mem_append, List.mem_map]; exact .inr (.inl ⟨_, hy0, rfl⟩))
    have c1 : c <+: y1.1 := hc _ (by rw [keys_root]; simp only [List.mem_append, List.mem_map]; exact .inr (.inr ⟨_, hy1, rfl⟩))
    by_cases hl : c.length ≤ x.key.length
    · exact List.prefix_of_prefix_length_le c0 ((List.prefix_append _ _).trans p0) hl
    · exfalso
      have e0 : x.key ++ [false] <+: c := List.prefix_of_prefix_length_le p0 c0 (by simp; omega)
      have e1 : x.key ++ [true] <+: c := List.prefix_of_prefix_length_le p1 c1 (by simp; omega)
      have := (bit_of e0).symm.trans (bit_of e1)
      cases this
theorem Root.keys_side {n : Nat} {x : Nd V} {a0 a1 : Option Nat} {N0 N1 : List (Nd V)} (h : Root nt vt enc W w n x a0 a1 N0 N1) (i : Bool) : ((kept (x :: (N0 ++ N1))).map (·.1)).filter (fun k => decide (x.key ++ [i] <+: k)) = (kept (if i then N1 else N0)).map (·.1) := by
  have hno : ∀ {L : List (List Bool)} {j : Bool}, (∀ k ∈ L, x.key ++ [j] <+: k) → L.filter (fun k => decide (x.key ++ [i] <+: k)) = if i = j then L else [] := fun {L j} hL => by
    split
    · rename_i e
      subst e
      rw [List.filter_eq_self]
      exact fun k hk => decide_eq_true (hL k hk)
    · rename_i e
      rw [List.filter_eq_nil_iff]
      intro k hk e2
      have := (bit_of (of_decide_eq_true e2)).symm.trans (bit_of (hL k hk))
      exact e (Option.some.inj this)
  have g0 : ∀ k ∈ (kept N0).map (·.1), x.key ++ [false] <+: k := fun k hk => by
    obtain ⟨y, hy, rfl⟩ := List.mem_map.1 hk
    exact h.lt0 hy
  have g1 : ∀ k ∈ (kept N1).map (·.1), x.key ++ [true] <+: k := fun k hk => by
    obtain ⟨y, hy, rfl⟩ := List.mem_map.1 hk
    exact h.lt1 hy
  have gx : (if x.th.isSome = true then [x.key] else []).filter (fun k => decide (x.key ++ [i] <+: k)) = [] := by
    rw [List.filter_eq_nil_iff]
    intro k hk e
    split at hk
    · rw [List.mem_singleton.1 hk] at e
      have := (of_decide_eq_true e).length_le
      simp at this
      omega
    · cases hk
  rw [keys_root, List.filter_append, List.filter_append, gx, hno g0, hno g1]
  cases i <;> simp
theorem Hang.shape : ∀ (n : Nat) {m : Nat} {a b : Option Nat} {N : List (Nd V)} {M : List (Nd V')}, Hang nt vt enc W w n a N → Hang nt' vt' enc' W' w' m b M → (kept N).map (·.1) = (kept M).map (·.1) → N.map (·.key) = M.map (·.key) := by
  intro n
  induction n with
  | zero =>
    intro m a b N M h g e
    have hN : N = [] := h.2
    subst hN
    have : M = [] := by
      apply Classical.byContradiction
      intro hM
      have := g.kept_ne hM
      simp [kept] at e
      exact this e
    rw [this]; rfl
  | succ n ih =>
    intro m a b N M h g e
    cases a with
    | none =>
      have hN := h.of_none
      subst hN
      have : M = [] := by
        apply Classical.byContradiction
        intro hM
        have := g.kept_ne hM
        simp [kept] at e
        exact this e
      rw [this]; rfl
    | some c =>
      obtain ⟨m1, x, a0, a1, N0, N1, e1, rfl, rfl, hR, hf⟩ := h.root
      cases b with
      | none =>
        exfalso
        have hM := g.of_none
        subst hM
        have hne := h.kept_ne (by simp)
        have e2 : (kept (x :: (N0 ++ N1))).map (·.1) = [] := e
        exact hne (List.map_eq_nil_iff.1 e2)
      | some d =>
        obtain ⟨m2, y, b0, b1, M0, M1, e2, rfl, rfl, hS, hg⟩ := g.root
        have hk : x.key = y.key := by
          have p1 := hS.longest hg x.key (by rw [← e]; exact hR.keys_pre)
          have p2 := hR.longest hf y.key (by rw [e]; exact hS.keys_pre)
          exact p1.eq_of_length (Nat.le_antisymm p1.length_le p2.length_le)
        obtain rfl : m1 = n := by omega
        have s0 : (kept N0).map (·.1) = (kept M0).map (·.1) := by
          have q1 := hR.keys_side false
          have q2 := hS.keys_side false
          rw [e, hk] at q1
          exact q1.symm.trans q2
        have s1 : (kept N1).map (·.1) = (kept M1).map (·.1) := by
          have q1 := hR.keys_side true
          have q2 := hS.keys_side true
          rw [e, hk] at q1
          exact q1.symm.trans q2
        rw [List.map_cons, List.map_append, List.map_cons, List.map_append, hk, ih hR.h0 hS.h0 s0, ih hR.h1 hS.h1 s1]
end
end Go.Proofs.Ytgdpplipahhffaa
namespace Go.Proofs.Ytgdpplipahhffaa
open Go.RowKit
set_option linter.unusedVariables false
set_option linter.unusedSimpArgs false

/-- Where two neighbours part. -/
def part (a b : List Bool) : List Bool := a.take (lcp a b)
/-- Forks between neighbours; f tells what is kept. -/
def adj (f : List Bool → Bool) : List (List Bool) → Nat
  | a :: b :: K => (if f (part a b) = true then 0 else 1) + adj f (b :: K)
  | _ => 0
theorem adj_two (f : List Bool → Bool) (a b : List Bool) (K : List (List Bool)) : adj f (a :: b :: K) = (if f (part a b) = true then 0 else 1) + adj f (b :: K) := by rw [adj]
theorem adj_append (f : List Bool → Bool) (a b : List Bool) : ∀ (A B : List (List Bool)), adj f ((A ++ [a]) ++ (b :: B)) = adj f (A ++ [a]) + (if f (part a b) = true then 0 else 1) + adj f (b :: B)
  | [], B => by
    have : adj f [a] = 0 := by unfold adj; rfl
    rw [List.nil_append, List.singleton_append, adj_two, this]; omega
  | [x], B => by
    have e : adj f [a] = 0 := by unfold adj; rfl
    simp only [List.nil_append, List.singleton_append, List.cons_append] at *
    rw [adj_two f x a (b :: B), adj_two f a b B, adj_two f x a [], e]; omega
  | x :: y :: A, B => by
    have := adj_append f a b (y :: A) B
    simp only [List.cons_append] at *
    rw [adj_two, adj_two f x y, this]; omega
theorem adj_join (f : List Bool → Bool) {A B : List (List Bool)} (hA : A ≠ []) (hB : B ≠ []) : ∃ a b, a ∈ A ∧ b ∈ B ∧ adj f (A ++ B) = adj f A + (if f (part a b) = true then 0 else 1) + adj f B := by
  obtain ⟨A', a, rfl⟩ : ∃ A' a, A = A' ++ [a] := ⟨A.dropLast, A.getLast hA, (List.dropLast_concat_getLast hA).symm⟩
  obtain ⟨b, B', rfl⟩ : ∃ b B', B = b :: B' := List.exists_cons_of_ne_nil hB
  exact ⟨a, b, by simp, by simp, adj_append f a b A' B'⟩
theorem part_side {c a b : List Bool} (h0 : c ++ [false] <+: a) (h1 : c ++ [true] <+: b) : part a b = c := by
  have l0 := h0.length_le
  have l1 := h1.length_le
  simp at l0 l1
  have e : lcp a b = c.length := by
    refine lcp_of (fun i hi => ?_) (by omega) (by omega) (.inr (.inr ?_))
    · obtain ⟨s, rfl⟩ := h0
      obtain ⟨t, rfl⟩ := h1
      rw [List.append_assoc, List.append_assoc, List.getElem?_append_left hi, List.getElem?_append_left hi]
    · rw [bit_of h0, bit_of h1]; simp
  unfold part
  rw [e]
  exact (List.prefix_iff_eq_take.1 ((List.prefix_append _ _).trans h0)).symm
theorem part_own {c b : List Bool} (h : c <+: b) : part c b = c := by
  have e : lcp c b = c.length := by
    refine lcp_of (fun i hi => ?_) (Nat.le_refl _) h.length_le (.inl rfl)
    obtain ⟨s, rfl⟩ := h
    rw [List.getElem?_append_left hi]
  unfold part
  rw [e, List.take_length]
section
variable {V : Type} {nt vt : TypeId} {enc : V → Value} {W : Nat} {w : World}
theorem Hang.forks (f : List Bool → Bool) : ∀ (n : Nat) {a : Option Nat} {N : List (Nd V)}, Hang nt vt enc W w n a N → (∀ y ∈ N, ∀ s, y.key <+: s → (f s = true ↔ s ∈ (kept N).map (·.1))) → N.length = (kept N).length + adj f ((kept N).map (·.1))
  | 0, a, N, h, _ => by rw [h.2]; simp [kept, adj]
  | n + 1, none, N, h, _ => by rw [h.of_none]; simp [kept, adj]
  | n + 1, some c, N, h, hf => by
    obtain ⟨m, x, a0, a1, N0, N1, e1, rfl, rfl, hR, hg⟩ := h.root
    obtain rfl : m = n := by omega
    have p0 : ∀ k ∈ (kept N0).map (·.1), x.key ++ [false] <+: k := fun k hk => by
      obtain ⟨y, hy, rfl⟩ := List.mem_map.1 hk
      exact hR.lt0 hy
    have p1 : ∀ k ∈ (kept N1).map (·.1), x.key ++ [true] <+: k := fun k hk => by
      obtain ⟨y, hy, rfl⟩ := List.mem_map.1 hk
      exact hR.lt1 hy
    have key : ∀ (i : Bool) (Nn Mm : List (Nd V)), (∀ y ∈ Nn, x.key ++ [i] <+: y.key) → (∀ k ∈ (kept Mm).map (·.1), x.key ++ [!i] <+: k) → (∀ y ∈ Nn, y ∈ N0 ++ N1) → ((kept (x :: (N0 ++ N1))).map (·.1)).Perm ((if x.th.isSome = true then [x.key] else []) ++ ((kept Nn).map (·.1) ++ (kept Mm).map (·.1))) → ∀ y ∈ Nn, ∀ s, y.key <+: s → (f s = true ↔ s ∈ (kept Nn).map (·.1)) := fun i Nn Mm g1 g2 g3 g4 y hy s hs => by
      have e := hf y (by rw [List.mem_cons]; exact .inr (g3 y hy)) s hs
      rw [e, g4.mem_iff, List.mem_append, List.mem_append]
      have hxs : x.key ++ [i] <+: s := (g1 y hy).trans hs
      constructor
      · rintro (h | h | h)
        · exfalso
          split at h
          · have e2 := List.mem_singleton.1 h
            have := hxs.length_le
            rw [e2] at this
            simp at this
            omega
          · cases h
        · exact h
        · exfalso
          have := (bit_of hxs).symm.trans (bit_of (g2 s h))
          cases i <;> simp at this
      · exact fun h => .inr (.inl h)
    have hk := keys_root x N0 N1
    have i0 := Hang.forks f m hR.h0 (key false N0 N1 hR.pre0 p1 (fun y hy => List.mem_append_left _ hy) (by rw [hk]))
    have i1 := Hang.forks f m hR.h1 (key true N1 N0 hR.pre1 p0 (fun y hy => List.mem_append_right _ hy) (by
      rw [hk]; exact (List.Perm.refl _).append List.perm_append_comm))
    have hfx : f x.key = true ↔ x.th.isSome = true := by
      rw [hf x (by simp) x.key (List.prefix_refl _), hk, List.mem_append, List.mem_append]
      constructor
      · rintro (h | h | h)
        · split at h
          · assumption
          · cases h
        · have := (p0 _ h).length_le; simp at this; omega
        · have := (p1 _ h).length_le; simp at this; omega
      · intro h; rw [if_pos h]; simp
    have hlen : (kept (x :: (N0 ++ N1))).length = (if x.th.isSome = true then 1 else 0) + ((kept N0).length + (kept N1).length) := by
      have := congrArg List.length hk
      simp only [List.length_map, List.length_append] at this
      rw [this]; split <;> rfl
    have hjoin : adj f ((kept N0).map (·.1) ++ (kept N1).map (·.1)) = adj f ((kept N0).map (·.1)) + (if kept N0 = [] ∨ kept N1 = [] then 0 else if f x.key = true then 0 else 1) + adj f ((kept N1).map (·.1)) := by
      by_cases z0 : kept N0 = []
      · rw [z0]; simp [adj]
      · by_cases z1 : kept N1 = []
        · rw [z1]; simp [adj]
        · rw [if_neg (by simp [z0, z1])]
          obtain ⟨a, b, ha, hb, e⟩ := adj_join f (A := (kept N0).map (·.1)) (B := (kept N1).map (·.1)) (by simpa using z0) (by simpa using z1)
          rw [e, part_side (p0 a ha) (p1 b hb)]
    rw [hlen, hk]
    cases hx : x.th with
    | none =>
      obtain ⟨n0, n1⟩ := hg hx
      have hfalse : ¬ f x.key = true := fun e => by rw [hfx, hx] at e; cases e
      have k0 := hR.h0.kept_ne n0
      have k1 := hR.h1.kept_ne n1
      rw [if_neg (by simp), if_neg (by simp), List.nil_append, hjoin, if_neg (by simp [k0, k1]), if_neg hfalse, List.length_cons, List.length_append]
      omega
    | some t =>
      have htrue : f x.key = true := hfx.2 (by rw [hx]; rfl)
      have hj2 : adj f ([x.key] ++ ((kept N0).map (·.1) ++ (kept N1).map (·.1))) = adj f ((kept N0).map (·.1) ++ (kept N1).map (·.1)) := by
        by_cases z : (kept N0).map (·.1) ++ (kept N1).map (·.1) = []
        · rw [z]; simp [adj]
        · obtain ⟨a, b, ha, hb, e⟩ := adj_join f (A := [x.key]) (by simp) z
          have ea := List.mem_singleton.1 ha
          have hxb : x.key <+: b := by
            rcases List.mem_append.1 hb with h | h
            · exact (List.prefix_append _ _).trans (p0 b h)
            · exact (List.prefix_append _ _).trans (p1 b h)
          have e1 : adj f [x.key] = 0 := by unfold adj; rfl
          rw [e, ea, part_own hxb, if_pos htrue, e1]; omega
      rw [if_pos (by simp), if_pos (by simp), hj2, hjoin, if_pos htrue, List.length_cons, List.length_append]
      split <;> omega
end
/-- The document's number of nodes. -/
def nodesR (L : List (List Bool × Int)) : Nat := L.length + adj (fun s => (look s L).isSome) (keysR L)
  where keysR (L : List (List Bool × Int)) : List (List Bool) := L.map (·.1)
theorem nodes_eq {nt vt : TypeId} {enc : Int → Value} {W n : Nat} {w : World} {a : Option Nat} {N : List (Nd Int)} (h : Hang nt vt enc W w n a N) : N.length = nodesR (kept N) := by
  refine Hang.forks _ n h fun y hy s hs => ?_
  cases e : look s (kept N) with
  | none =>
    have := look_none.1 e
    simp only [Option.isSome_none, Bool.false_eq_true, false_iff, List.mem_map, not_exists, not_and]
    exact fun z hz => this z hz
  | some v =>
    have := look_some e
    simp only [Option.isSome_some, true_iff, List.mem_map]
    exact ⟨_, this, rfl⟩
/-- So far. -/
def nodesUp (L : List (List Bool × Int)) (i : Nat) : Nat := L.length + adj (fun s => (look s L).isSome) ((nodesR.keysR L).take i)
theorem nodesUp_one (L : List (List Bool × Int)) : nodesUp L 1 = L.length := by
  unfold nodesUp nodesR.keysR
  cases L with
  | nil => simp [adj]
  | cons y L => simp [adj]
theorem nodesUp_all (L : List (List Bool × Int)) {i : Nat} (h : L.length ≤ i) : nodesUp L i = nodesR L := by
  unfold nodesUp nodesR
  rw [List.take_of_length_le]
  unfold nodesR.keysR; simpa using h
theorem nodesUp_succ {L : List (List Bool × Int)} {i : Nat} {y z : List Bool × Int} (h1 : L[i]? = some y) (h2 : L[i + 1]? = some z) : nodesUp L (i + 2) = nodesUp L (i + 1) + if (look (part y.1 z.1) L).isSome = true then 0 else 1 := by
  have e1 : (nodesR.keysR L)[i]? = some y.1 := by unfold nodesR.keysR; rw [List.getElem?_map, h1]; rfl
  have e2 : (nodesR.keysR L)[i + 1]? = some z.1 := by unfold nodesR.keysR; rw [List.getElem?_map, h2]; rfl
  unfold nodesUp
  rw [List.take_add_one (i := i + 1), e2, List.take_add_one (i := i), e1]
  simp only [Option.toList_some]
  rw [adj_append]
  have : adj (fun s => (look s L).isSome) [z.1] = 0 := by unfold adj; rfl
  rw [this]
  omega
theorem nodesUp_le (L : List (List Bool × Int)) : ∀ i, nodesUp L i ≤ L.length + i := by
  intro i
  unfold nodesUp
  have key : ∀ (f : List Bool → Bool) (K : List (List Bool)), adj f K ≤ K.length := fun f K => by
    induction K with
    | nil => simp [adj]
    | cons a K ih =>
      cases K with
      | nil => simp [adj]
      | cons b K =>
        rw [adj_two]
        rw [List.length_cons]
        split <;> omega
  have := key (fun s => (look s L).isSome) ((nodesR.keysR L).take i)
  rw [List.length_take] at this
  omega
end Go.Proofs.Ytgdpplipahhffaa
namespace Go.Proofs.Ytgdpplipahhffaa
open Go.RowKit
set_option linter.unusedVariables false
set_option linter.unusedSimpArgs false

theorem lcp_same {a b : List Bool} {k : Nat} (h : k < lcp a b) : ∃ c, a[k]? = some c ∧ b[k]? = some c := by
  have e := lcp_take a b
  have h1 := lcp_le a b
  have e1 : (a.take (lcp a b))[k]? = a[k]? := by rw [List.getElem?_take, if_pos h]
  have e2 : (b.take (lcp a b))[k]? = b[k]? := by rw [List.getElem?_take, if_pos h]
  have e3 : a[k]? = some (a[k]'(by omega)) := List.getElem?_eq_getElem _
  exact ⟨a[k]'(by omega), e3, by rw [← e2, ← e, e1]; exact e3⟩
theorem lcp_diff {a b : List Bool} (h1 : lcp a b < a.length) (h2 : lcp a b < b.length) : ∃ c, a[lcp a b]? = some c ∧ b[lcp a b]? = some (!c) := by
  have h := lcp_ne h1 h2
  have e3 : a[lcp a b]? = some (a[lcp a b]'h1) := List.getElem?_eq_getElem _
  have e4 : b[lcp a b]? = some (b[lcp a b]'h2) := List.getElem?_eq_getElem _
  refine ⟨_, e3, ?_⟩
  rw [e3, e4] at h
  simp only [Option.getD_some] at h
  rw [e4, h]; simp
section
variable {w : World} {B q W most : Nat} {L : List (List Bool × Int)}
set_option maxHeartbeats 2000000 in
theorem rnodes_any (hT : RefAt w B q W most L) (hlen : ∀ y ∈ L, y.1.length ≤ 128) :
    Calls Try.prog 47 #[.pointer (some ⟨q, 0, none⟩)] w fun e w' => e = .returned (.int .i64 (nodesR L)) ∧ Below w.heap.size w w' := by
  have HR : Hid (RefAt w B q W most L ∧ ∀ y ∈ L, y.1.length ≤ 128) := ⟨hT, hlen⟩
  obtain ⟨m, hm⟩ : ∃ m, L.length = m := ⟨_, rfl⟩
  have HM : Hid (L.length = m) := hm
  have h4 : m ≤ 4096 := by rw [← hm]; exact hT.few
  have hc : ∃ ba bc, Blk w q #[.int .i64 W, .int .i64 most, .slice ba m bc] 40 := by
    obtain ⟨⟨ba, bc, h, _⟩, _⟩ := hT
    rw [hm] at h; exact ⟨ba, bc, h⟩
  obtain ⟨ba, bc, hB⟩ := hc
  have HB : Hid (Blk w q #[.int .i64 W, .int .i64 most, .slice ba m bc] 40) := hB
  have c2 := hB.cell 2 (v := .slice ba m bc) rfl
  clear hT hlen hm hB
  go_enter Try.func47, Try.ntmps47
  go_wp2
  clear c2
  go_loopw [3, 4] (fun n b wr => ∃ j : Nat, j ≤ m ∧ b = .int .i64 ((j : Int) + 1) ∧ ∃ t : Nat, t ≤ 10000 ∧ n = .int .i64 t ∧ Hid (t = nodesUp L (j + 1) ∧ Below w.heap.size w wr)) (fun n b wr => 5000 - (intOf b).toNat)
  case atStart => exact ⟨0, Nat.zero_le _, rfl, m, by omega, rfl, (⟨by rw [nodesUp_one, HM.out], Below.refl _ _⟩ : _ ∧ _)⟩
  case round =>
    obtain ⟨j, hj, rfl, t, ht4, rfl, HK⟩ := hrel
    have hbw := HB.out.below HK.out.2
    have c2 := hbw.cell 2 (v := .slice ba m bc) rfl
    by_cases hlt : j + 1 < m
    · have hlt' : (j : Int) + 1 < m := by omega
      obtain ⟨y, hy⟩ : ∃ y, L[j]? = some y := ⟨_, List.getElem?_eq_getElem (by have := HM.out; omega)⟩
      obtain ⟨z, hz⟩ : ∃ z, L[j + 1]? = some z := ⟨_, List.getElem?_eq_getElem (by have := HM.out; omega)⟩
      have HT := HR.out.1.below HK.out.2
      have hrow' : ∃ g, ba = some ⟨g, 0, none⟩ ∧ m ≤ bc ∧ ∀ i y, L[i]? = some y → wr.cell? ⟨g, i * 2, none⟩ = some (.string (tx y.1)) ∧ wr.cell? ⟨g, i * 2 + 1, none⟩ = some (.int .i64 y.2) := by
        obtain ⟨⟨b1, c1, h1, h2⟩, _⟩ := HT
        have e := hbw.cell 2 (v := .slice ba m bc) rfl
        rw [h1.cell 2 rfl] at e
        injection e with e
        injection e with e1 e2 e3
        subst e1; subst e3
        have hm2 : L.length = m := HM.out
        rw [hm2] at h2
        exact rowR_at h2 hm2 (by omega)
      obtain ⟨g, hba, hnb, hrow⟩ := hrow'
      obtain ⟨r0, _⟩ := hrow j y hy
      obtain ⟨s0, _⟩ := hrow (j + 1) z hz
      subst hba
      have hN : Hid (nodesUp L (j + 2) = nodesUp L (j + 1) + if (look (part y.1 z.1) L).isSome = true then 0 else 1) := nodesUp_succ hy hz
      have hNl : nodesUp L (j + 2) ≤ 10000 := by have := nodesUp_le L (j + 2); have := HM.out; omega
      have HNL : Hid (nodesUp L (j + 2) ≤ 10000) := hNl
      have C64 : Hid (∀ tp w1, tx (part y.1 z.1) = tp → Below wr.heap.size wr w1 → Calls Try.prog 64 #[.pointer (some ⟨q, 0, none⟩), .string tp] w1 fun e w' => ∃ po : Int, e = .returned (.tuple #[.int .i64 po, .bool (look (part y.1 z.1) L).isSome]) ∧ Hid (Below wr.heap.size wr w')) := fun tp w1 e hb => by
        rw [← e]
        exact (at64 (HT.below hb) (part y.1 z.1)).mono fun _ _ h => ⟨_, h.1, bst hb h.2⟩
      have hyl : y.1.length ≤ 128 := HR.out.2 y (List.mem_of_getElem? hy)
      have hzl : z.1.length ≤ 128 := HR.out.2 z (List.mem_of_getElem? hz)
      obtain ⟨a, ha⟩ : ∃ a, y.1 = a := ⟨_, rfl⟩
      obtain ⟨b, hb⟩ : ∃ b, z.1 = b := ⟨_, rfl⟩
      rw [ha] at r0 hN C64 hyl
      rw [hb] at s0 hN C64 hzl
      obtain ⟨ta, hta⟩ : ∃ ta, tx a = ta := ⟨_, rfl⟩
      obtain ⟨tb, htb⟩ : ∃ tb, tx b = tb := ⟨_, rfl⟩
      have HA : Hid (tx a = ta ∧ tx b = tb) := ⟨hta, htb⟩
      have hsa : ta.size = a.length := by rw [← hta]; exact tx_size a
      have hsb : tb.size = b.length := by rw [← htb]; exact tx_size b
      rw [hta] at r0
      rw [htb] at s0
      have hmul : ((j : Int) + 1 - 1) = j := by omega
      clear hrow hy hz ha hb hta htb HT hbw hNl
      go_wp2_with fail
      clear r0 s0 c2
      obtain ⟨wo, hwo⟩ : ∃ wo, wo = wr := ⟨_, rfl⟩
      subst hwo
      go_loopw [7] (fun kv wq => ∃ k : Nat, k ≤ lcp a b ∧ kv = .int .i64 k ∧ Hid (Below wo.heap.size wo wq)) (fun kv wq => 1000 - (intOf kv).toNat)
      case atStart => exact ⟨0, Nat.zero_le _, rfl, (Below.refl _ _ : Below _ _ _)⟩
      case round =>
        obtain ⟨k, hk, rfl, HQW⟩ := hrel
        have hle := lcp_le a b
        by_cases hkl : k < lcp a b
        · obtain ⟨c, ec, ed⟩ := lcp_same hkl
          have ka : k < ta.size := by omega
          have kb : k < tb.size := by omega
          have ka' : (k : Int) < a.length := by omega
          have kb' : (k : Int) < b.length := by omega
          have x1 : ta[k]'ka = if c then 49 else 48 := by
            have := tx_at a k (by rw [tx_size]; omega) c ec
            simp only [HA.out.1] at this; exact this
          have x2 : tb[k]'kb = if c then 49 else 48 := by
            have := tx_at b k (by rw [tx_size]; omega) c ed
            simp only [HA.out.2] at this; exact this
          have xx : ((((ta[k]'ka).toNat : Int)) == (((tb[k]'kb).toNat : Int))) = true := by rw [x1, x2]; simp
          clear x1 x2
          go_upto_region 8 with fail
          go_quiet (fail)
          have HQN : Hid (Below wo.heap.size wo (wr.drewN nq)) := below_drewN HQW.out nq
          go_wp2
          go_roundw
          case rel => exact ⟨k + 1, by omega, by go_num, HQN⟩
          case measure => simp [intOf]; omega
        · have hke : k = lcp a b := by omega
          have HX : Hid (ta.extract 0 k = tx (part a b)) := by
            show _ = tx (a.take _)
            rw [← HA.out.1, hke]; exact tx_take _ _
          have hcase : (decide (k < a.length) = false ∧ decide ((k : Int) < a.length) = false) ∨ ((k : Int) < a.length ∧ decide (k < b.length) = false ∧ decide ((k : Int) < b.length) = false) ∨ ∃ (ka : k < ta.size) (kb : k < tb.size), (k : Int) < a.length ∧ (k : Int) < b.length ∧ ((((ta[k]'ka).toNat : Int)) == (((tb[k]'kb).toNat : Int))) = false := by
            by_cases h1 : k < a.length
            · by_cases h2 : k < b.length
              · right; right
                obtain ⟨c, ec, ed⟩ := lcp_diff (a := a) (b := b) (by omega) (by omega)
                rw [← hke] at ec ed
                have ka : k < ta.size := by omega
                have kb : k < tb.size := by omega
                have x1 : ta[k]'ka = if c then 49 else 48 := by
                  have := tx_at a k (by rw [tx_size]; omega) c ec
                  simp only [HA.out.1] at this; exact this
                have x2 : tb[k]'kb = if (!c) then 49 else 48 := by
                  have := tx_at b k (by rw [tx_size]; omega) (!c) ed
                  simp only [HA.out.2] at this; exact this
                exact ⟨ka, kb, by omega, by omega, by rw [x1, x2]; cases c <;> rfl⟩
              · right; left; exact ⟨by omega, decide_eq_false (by omega), decide_eq_false (by omega)⟩
            · left; exact ⟨decide_eq_false (by omega), decide_eq_false (by omega)⟩
          have hka : k ≤ ta.size := by omega
          clear hke hkl hk hle
          rcases hcase with ⟨h1, h1'⟩ | ⟨h1, h2, h2'⟩ | ⟨ka, kb, h1, h2, xx⟩
          all_goals
            go_upto_region 8 with fail
            go_quiet (fail)
            have HQN : Hid (Below wo.heap.size wo (wr.drewN nq)) := below_drewN HQW.out nq
            go_wp2_with fail
            refine (C64.out _ _ HX.out.symm HQN.out).mono ?_
            rintro e w2 ⟨po, rfl, H2⟩
            cases hl : (look (part a b) L).isSome with
            | true =>
              rw [hl] at hN
              have HQ : Hid (t = nodesUp L (j + 2) ∧ Below w.heap.size w w2) := ⟨by rw [hN.out, HK.out.1]; rfl, bst HK.out.2 H2.out⟩
              go_wp2
              go_roundw
              case rel => exact ⟨j + 1, by omega, by go_num, t, ht4, rfl, HQ⟩
              case measure => simp [intOf]; omega
            | false =>
              rw [hl] at hN
              have HQ : Hid (t + 1 = nodesUp L (j + 2) ∧ Below w.heap.size w w2) := ⟨by rw [hN.out, HK.out.1]; rfl, bst HK.out.2 H2.out⟩
              have ht5 : t + 1 ≤ 10000 := by have := HNL.out; have := HQ.out.1; omega
              go_wp2
              go_roundw
              case rel => exact ⟨j + 1, by omega, by go_num, t + 1, ht5, by go_num, HQ⟩
              case measure => simp [intOf]; omega
    · have hlt' : ¬ (j : Int) + 1 < m := by omega
      have HE : Hid (t = nodesR L ∧ Below w.heap.size w wr) := ⟨by rw [HK.out.1]; exact nodesUp_all L (by have := HM.out; omega), HK.out.2⟩
      clear hbw HK
      go_wp2
      go_ret
      exact ⟨by rw [HE.out.1]; rfl, HE.out.2⟩
end
end Go.Proofs.Ytgdpplipahhffaa
