/- Plain: the order of prefixes, and lists in that order. -/
import Derived.Test.YtgdpplipahhffaaBt
namespace Go.Proofs.Ytgdpplipahhffaa
set_option linter.unusedVariables false
set_option linter.unusedSimpArgs false

/-- The order of keys. -/
def klt : List Bool → List Bool → Bool
  | [], [] => false
  | [], _ :: _ => true
  | _ :: _, [] => false
  | a :: xs, b :: ys => (!a && b) || (a == b && klt xs ys)
theorem klt_irrefl : ∀ a, klt a a = false
  | [] => rfl
  | a :: xs => by simp [klt, klt_irrefl xs]
theorem klt_ne {a b : List Bool} (h : klt a b = true) : a ≠ b := fun e => by rw [e, klt_irrefl] at h; cases h
theorem klt_trans : ∀ {a b c : List Bool}, klt a b = true → klt b c = true → klt a c = true
  | [], [], c, h, _ => by simp [klt] at h
  | [], b :: bs, [], _, h => by simp [klt] at h
  | [], b :: bs, c :: cs, _, _ => rfl
  | a :: xs, [], c, h, _ => by simp [klt] at h
  | a :: xs, b :: bs, [], _, h => by simp [klt] at h
  | a :: xs, b :: bs, c :: cs, h, k => by
    have ih := @klt_trans xs bs cs
    simp only [klt] at *
    cases a <;> cases b <;> cases c <;> simp_all
theorem klt_tri : ∀ (a b : List Bool), a ≠ b → klt a b = true ∨ klt b a = true
  | [], [], h => absurd rfl h
  | [], b :: bs, _ => .inl rfl
  | a :: xs, [], _ => .inr rfl
  | a :: xs, b :: bs, h => by
    have ih := klt_tri xs bs
    simp only [klt]
    cases a <;> cases b <;> simp_all
theorem klt_asymm {a b : List Bool} (h : klt a b = true) : klt b a = false := by
  cases e : klt b a
  · rfl
  · exact absurd rfl (klt_ne (klt_trans h e))
theorem klt_append : ∀ (c a b : List Bool), klt (c ++ a) (c ++ b) = klt a b
  | [], a, b => rfl
  | x :: c, a, b => by simp [klt, klt_append c a b]
theorem klt_pre {a b : List Bool} (h : a <+: b) (hne : a ≠ b) : klt a b = true := by
  obtain ⟨t, rfl⟩ := h
  have := klt_append a [] t
  rw [List.append_nil] at this
  rw [this]
  cases t
  · simp at hne
  · rfl
theorem klt_side {c a b : List Bool} (h : c ++ [false] <+: a) (k : c ++ [true] <+: b) : klt a b = true := by
  obtain ⟨s, rfl⟩ := h
  obtain ⟨t, rfl⟩ := k
  rw [List.append_assoc, List.append_assoc, klt_append]; rfl
theorem klt_own {c a : List Bool} {i : Bool} (h : c ++ [i] <+: a) : klt c a = true :=
  klt_pre ((List.prefix_append _ _).trans h) (fun e => by have := h.length_le; rw [e] at this; simp at this; omega)
section
variable {V : Type}
abbrev Srt (L : List (List Bool × V)) : Prop := L.Pairwise fun a b => klt a.1 b.1 = true
/-- A thing put in its place. -/
def upd (p : List Bool) (v : V) : List (List Bool × V) → List (List Bool × V)
  | [] => [(p, v)]
  | y :: L => if klt y.1 p = true then y :: upd p v L else if y.1 = p then (p, v) :: L else (p, v) :: y :: L
def del (p : List Bool) (L : List (List Bool × V)) : List (List Bool × V) := L.filter fun y => decide (y.1 ≠ p)
def look (p : List Bool) (L : List (List Bool × V)) : Option V := (L.find? fun y => decide (y.1 = p)).map (·.2)
theorem look_cons (p : List Bool) (y : List Bool × V) (L) : look p (y :: L) = if y.1 = p then some y.2 else look p L := by
  unfold look
  rw [List.find?_cons]
  by_cases h : y.1 = p <;> simp [h]
theorem look_some : ∀ {L : List (List Bool × V)} {p : List Bool} {v : V}, look p L = some v → (p, v) ∈ L
  | [], p, v, h => by simp [look] at h
  | y :: L, p, v, h => by
    rw [look_cons] at h
    split at h
    · rename_i e; cases h; rw [← e]; simp
    · exact List.mem_cons_of_mem _ (look_some h)
theorem look_none {L : List (List Bool × V)} {p : List Bool} : look p L = none ↔ ∀ y ∈ L, y.1 ≠ p := by
  unfold look; simp
theorem look_mem : ∀ {L : List (List Bool × V)} {p : List Bool} {v : V}, Srt L → (p, v) ∈ L → look p L = some v
  | [], p, v, _, h => by simp at h
  | y :: L, p, v, hs, h => by
    obtain ⟨h1, h2⟩ := List.pairwise_cons.1 hs
    rw [look_cons]
    rcases List.mem_cons.1 h with e | e
    · rw [← e, if_pos rfl]
    · rw [if_neg (klt_ne (h1 _ e)), look_mem h2 e]
theorem upd_left {p : List Bool} {v : V} : ∀ {A B : List (List Bool × V)}, (∀ y ∈ A, klt y.1 p = true) → upd p v (A ++ B) = A ++ upd p v B
  | [], B, _ => rfl
  | y :: A, B, h => by
    rw [List.cons_append, upd, if_pos (h y (by simp)), upd_left (fun z hz => h z (by simp [hz])), List.cons_append]
theorem upd_front {p : List Bool} {v : V} : ∀ {B : List (List Bool × V)}, (∀ y ∈ B, klt p y.1 = true) → upd p v B = (p, v) :: B
  | [], _ => rfl
  | y :: B, h => by
    have := h y (by simp)
    rw [upd, klt_asymm this, if_neg (by simp), if_neg (fun e => klt_ne this e.symm)]
theorem upd_right {p : List Bool} {v : V} : ∀ {A B : List (List Bool × V)}, (∀ y ∈ B, klt p y.1 = true) → upd p v (A ++ B) = upd p v A ++ B
  | [], B, h => by rw [List.nil_append, upd_front h]; rfl
  | y :: A, B, h => by
    rw [List.cons_append, upd, upd]
    split
    · rw [upd_right h, List.cons_append]
    · split <;> rfl
theorem upd_at {p : List Bool} {v u : V} {B : List (List Bool × V)} : upd p v ((p, u) :: B) = (p, v) :: B := by
  rw [upd, klt_irrefl, if_neg (by simp), if_pos rfl]
theorem mem_upd : ∀ {p : List Bool} {v : V} {L : List (List Bool × V)}, Srt L → ∀ y, y ∈ upd p v L ↔ y = (p, v) ∨ (y ∈ L ∧ y.1 ≠ p)
  | p, v, [], _, y => by simp [upd]
  | p, v, x :: L, hs, y => by
    obtain ⟨h1, h2⟩ := List.pairwise_cons.1 hs
    rw [upd]
    split
    · rename_i hx
      rw [List.mem_cons, mem_upd h2, List.mem_cons]
      have := klt_ne hx
      constructor
      · rintro (rfl | h | h)
        · exact .inr ⟨.inl rfl, this⟩
        · exact .inl h
        · exact .inr ⟨.inr h.1, h.2⟩
      · rintro (h | ⟨rfl | h, h'⟩)
        · exact .inr (.inl h)
        · exact .inl rfl
        · exact .inr (.inr ⟨h, h'⟩)
    · rename_i hx
      split
      · rename_i e
        subst e
        rw [List.mem_cons, List.mem_cons]
        constructor
        · rintro (h | h)
          · exact .inl h
          · exact .inr ⟨.inr h, fun e => klt_ne (h1 y h) e.symm⟩
        · rintro (h | ⟨rfl | h, h'⟩)
          · exact .inl h
          · exact absurd rfl h'
          · exact .inr h
      · rename_i e
        have hp : klt p x.1 = true := (klt_tri x.1 p e).resolve_left hx
        rw [List.mem_cons, List.mem_cons]
        constructor
        · rintro (h | rfl | h)
          · exact .inl h
          · exact .inr ⟨.inl rfl, e⟩
          · exact .inr ⟨.inr h, fun e' => klt_ne (klt_trans hp (h1 y h)) e'.symm⟩
        · rintro (h | ⟨h, h'⟩)
          · exact .inl h
          · exact .inr h
theorem srt_upd : ∀ {p : List Bool} {v : V} {L : List (List Bool × V)}, Srt L → Srt (upd p v L)
  | p, v, [], _ => by simp [upd]
  | p, v, x :: L, hs => by
    obtain ⟨h1, h2⟩ := List.pairwise_cons.1 hs
    rw [upd]
    split
    · rename_i hx
      refine List.pairwise_cons.2 ⟨fun y hy => ?_, srt_upd h2⟩
      rcases (mem_upd h2 y).1 hy with rfl | h
      · exact hx
      · exact h1 y h.1
    · rename_i hx
      split
      · rename_i e
        exact List.pairwise_cons.2 ⟨fun y hy => by rw [← e]; exact h1 y hy, h2⟩
      · rename_i e
        have hp : klt p x.1 = true := (klt_tri x.1 p e).resolve_left hx
        refine List.pairwise_cons.2 ⟨fun y hy => ?_, hs⟩
        rcases List.mem_cons.1 hy with rfl | hy
        · exact hp
        · exact klt_trans hp (h1 y hy)
theorem len_upd : ∀ {p : List Bool} {v : V} {L : List (List Bool × V)}, Srt L → (upd p v L).length = if (look p L).isSome then L.length else L.length + 1
  | p, v, [], _ => by simp [upd, look]
  | p, v, x :: L, hs => by
    obtain ⟨h1, h2⟩ := List.pairwise_cons.1 hs
    rw [upd, look_cons]
    split
    · rename_i hx
      rw [if_neg (klt_ne hx), List.length_cons, len_upd h2]
      split <;> simp
    · rename_i hx
      split
      · simp
      · rename_i e
        have hp : klt p x.1 = true := (klt_tri x.1 p e).resolve_left hx
        have : look p L = none := look_none.2 fun y hy e' => klt_ne (klt_trans hp (h1 y hy)) e'.symm
        rw [this]; simp
theorem srt_del {p : List Bool} {L : List (List Bool × V)} (h : Srt L) : Srt (del p L) := h.filter _
theorem mem_del {p : List Bool} {L : List (List Bool × V)} (y) : y ∈ del p L ↔ y ∈ L ∧ y.1 ≠ p := by unfold del; simp
theorem del_append {p : List Bool} (A B : List (List Bool × V)) : del p (A ++ B) = del p A ++ del p B := List.filter_append ..
theorem del_none {p : List Bool} {L : List (List Bool × V)} (h : ∀ y ∈ L, y.1 ≠ p) : del p L = L := by
  unfold del; rw [List.filter_eq_self]; intro y hy; simpa using h y hy
theorem len_del : ∀ {p : List Bool} {L : List (List Bool × V)}, Srt L → (look p L).isSome → (del p L).length + 1 = L.length
  | p, [], _, h => by simp [look] at h
  | p, x :: L, hs, h => by
    obtain ⟨h1, h2⟩ := List.pairwise_cons.1 hs
    rw [look_cons] at h
    by_cases e : x.1 = p
    · have : del p (x :: L) = L := by
        have h3 : del p L = L := del_none fun y hy e' => klt_ne (h1 y hy) (e.trans e'.symm)
        show List.filter _ _ = _
        rw [List.filter_cons, if_neg (by simpa using e)]; exact h3
      rw [this]; rfl
    · rw [if_neg e] at h
      have ih := len_del h2 h
      show (List.filter _ _).length + 1 = _
      rw [List.filter_cons, if_pos (by simpa using e), List.length_cons, List.length_cons]
      exact congrArg (· + 1) ih
theorem look_upd {p q : List Bool} {v : V} {L : List (List Bool × V)} (hs : Srt L) : look q (upd p v L) = if q = p then some v else look q L := by
  by_cases h : q = p
  · rw [if_pos h, h]; exact look_mem (srt_upd hs) ((mem_upd hs _).2 (.inl rfl))
  · rw [if_neg h]
    cases e : look q L with
    | none => rw [look_none] at *; intro y hy; rcases (mem_upd hs y).1 hy with rfl | h'
              · exact fun e => h e.symm
              · exact e y h'.1
    | some u => exact look_mem (srt_upd hs) ((mem_upd hs _).2 (.inr ⟨look_some e, h⟩))
theorem look_del {p q : List Bool} {L : List (List Bool × V)} (hs : Srt L) : look q (del p L) = if q = p then none else look q L := by
  by_cases h : q = p
  · rw [if_pos h, h, look_none]; intro y hy; exact ((mem_del y).1 hy).2
  · rw [if_neg h]
    cases e : look q L with
    | none => rw [look_none] at *; intro y hy; exact e y ((mem_del y).1 hy).1
    | some u => exact look_mem (srt_del hs) ((mem_del _).2 ⟨look_some e, h⟩)
theorem srt_ext {A B : List (List Bool × V)} (ha : Srt A) (hb : Srt B) (h : ∀ y, y ∈ A ↔ y ∈ B) : A = B := by
  have nd : ∀ {L : List (List Bool × V)}, Srt L → L.Nodup := fun h => List.Pairwise.imp (S := fun a b => a ≠ b) (fun h e => klt_ne h (congrArg Prod.fst e)) h
  have p : A.Perm B := (List.perm_ext_iff_of_nodup (nd ha) (nd hb)).2 h
  exact p.eq_of_pairwise (fun a b _ _ h1 h2 => absurd rfl (klt_ne (klt_trans h1 h2))) ha hb
end
end Go.Proofs.Ytgdpplipahhffaa
