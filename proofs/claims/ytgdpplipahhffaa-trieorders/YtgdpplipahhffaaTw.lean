/- Plain: what a way down a tree meets, and what lies under a prefix. -/
import Derived.Test.YtgdpplipahhffaaTt
namespace Go.Proofs.Ytgdpplipahhffaa
open Go.RowKit
set_option linter.unusedVariables false
set_option linter.unusedSimpArgs false

section
variable {V : Type} {nt vt : TypeId} {enc : V → Value} {W : Nat} {w : World} {n : Nat} {x : Nd V} {a0 a1 : Option Nat} {N0 N1 : List (Nd V)}
/-- The nodes whose prefixes begin p. -/
def wayN (p : List Bool) (N : List (Nd V)) : List (Nd V) := N.filter fun x => decide (x.key <+: p)
/-- The nodes whose prefixes p begins. -/
def undN (p : List Bool) (N : List (Nd V)) : List (Nd V) := N.filter fun x => decide (p <+: x.key)
theorem bit_of {c q : List Bool} {i : Bool} (h : c ++ [i] <+: q) : q[c.length]? = some i := by
  obtain ⟨s, rfl⟩ := h; simp
theorem way_off (h : Root nt vt enc W w n x a0 a1 N0 N1) {p : List Bool} (hx : ¬ x.key <+: p) : wayN p (x :: (N0 ++ N1)) = [] := by
  unfold wayN
  rw [List.filter_eq_nil_iff]
  intro y hy e
  have hk : x.key <+: y.key := by
    simp only [List.mem_cons, List.mem_append] at hy
    rcases hy with rfl | hy | hy
    · exact List.prefix_refl _
    · exact (List.prefix_append _ _).trans (h.pre0 y hy)
    · exact (List.prefix_append _ _).trans (h.pre1 y hy)
  exact hx (hk.trans (of_decide_eq_true e))
theorem way_on (h : Root nt vt enc W w n x a0 a1 N0 N1) {p : List Bool} (hx : x.key <+: p) : wayN p (x :: (N0 ++ N1)) = x :: wayN p (if p[x.key.length]?.getD false = true then N1 else N0) := by
  have none0 : p[x.key.length]? ≠ some false → wayN p N0 = [] := fun hn => by
    unfold wayN
    rw [List.filter_eq_nil_iff]
    intro y hy e
    exact hn (bit_of ((h.pre0 y hy).trans (of_decide_eq_true e)))
  have none1 : p[x.key.length]? ≠ some true → wayN p N1 = [] := fun hn => by
    unfold wayN
    rw [List.filter_eq_nil_iff]
    intro y hy e
    exact hn (bit_of ((h.pre1 y hy).trans (of_decide_eq_true e)))
  have e0 : wayN p (x :: (N0 ++ N1)) = x :: (wayN p N0 ++ wayN p N1) := by
    unfold wayN
    rw [List.filter_cons, if_pos (decide_eq_true hx), List.filter_append]
  rw [e0]
  cases hb : p[x.key.length]? with
  | none => rw [none0 (by rw [hb]; simp), none1 (by rw [hb]; simp)]; simp [none0 (by rw [hb]; simp)]
  | some i => cases i
              · rw [none1 (by rw [hb]; simp)]; simp
              · rw [none0 (by rw [hb]; simp)]; simp
theorem und_on (h : Root nt vt enc W w n x a0 a1 N0 N1) {p : List Bool} (hl : p.length ≤ x.key.length) : undN p (x :: (N0 ++ N1)) = if p <+: x.key then x :: (N0 ++ N1) else [] := by
  have hk : ∀ y ∈ x :: (N0 ++ N1), x.key <+: y.key := fun y hy => by
    simp only [List.mem_cons, List.mem_append] at hy
    rcases hy with rfl | hy | hy
    · exact List.prefix_refl _
    · exact (List.prefix_append _ _).trans (h.pre0 y hy)
    · exact (List.prefix_append _ _).trans (h.pre1 y hy)
  unfold undN
  split
  · rename_i hp
    rw [List.filter_eq_self]
    intro y hy
    exact decide_eq_true (hp.trans (hk y hy))
  · rename_i hp
    rw [List.filter_eq_nil_iff]
    intro y hy e
    exact hp (List.prefix_of_prefix_length_le (of_decide_eq_true e) (hk y hy) hl)
theorem und_off (h : Root nt vt enc W w n x a0 a1 N0 N1) {p : List Bool} (hl : x.key.length < p.length) : undN p (x :: (N0 ++ N1)) = undN p (if p[x.key.length]?.getD false = true then N1 else N0) := by
  obtain ⟨i, hi⟩ : ∃ i, p[x.key.length]? = some i := ⟨_, List.getElem?_eq_getElem hl⟩
  have same : ∀ {y : Nd V} {j : Bool}, x.key ++ [j] <+: y.key → p <+: y.key → j = i := fun h1 h2 => by
    have e1 := bit_of h1
    obtain ⟨s, hs⟩ := h2
    rw [← hs, List.getElem?_append_left hl, hi] at e1
    exact (Option.some.inj e1).symm
  have no0 : i ≠ false → undN p N0 = [] := fun hn => by
    unfold undN
    rw [List.filter_eq_nil_iff]
    intro y hy e
    exact hn (same (h.pre0 y hy) (of_decide_eq_true e)).symm
  have no1 : i ≠ true → undN p N1 = [] := fun hn => by
    unfold undN
    rw [List.filter_eq_nil_iff]
    intro y hy e
    exact hn (same (h.pre1 y hy) (of_decide_eq_true e)).symm
  have e0 : undN p (x :: (N0 ++ N1)) = undN p N0 ++ undN p N1 := by
    unfold undN
    rw [List.filter_cons, if_neg (by simp only [decide_eq_true_eq]; intro e; have := e.length_le; omega), List.filter_append]
  rw [e0, hi]
  cases i
  · rw [no1 (by simp)]; simp
  · rw [no0 (by simp)]; simp
theorem kept_filter (f : List Bool → Bool) : ∀ (N : List (Nd V)), kept (N.filter fun x => f x.key) = (kept N).filter fun y => f y.1
  | [] => rfl
  | x :: N => by
    have ih := kept_filter f N
    rw [List.filter_cons, kept, List.filter_append]
    have ho : (ownK x).filter (fun y => f y.1) = if f x.key = true then ownK x else [] := by
      unfold ownK
      cases x.th with
      | none => simp
      | some t => simp [List.filter_cons]
    split
    · rename_i h
      rw [kept, ih, ho, if_pos h]
    · rename_i h
      rw [ih, ho, if_neg h]; rfl
end
end Go.Proofs.Ytgdpplipahhffaa
