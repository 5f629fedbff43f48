/- A list of pairs of disks: a pair more. -/
import Derived.Test.YtnpcnflfpmjgiaaDoorLl
namespace Go.Proofs.YtnpcnflfpmjgiaaDoor
open Go.RowKit
set_option linter.unusedVariables false
set_option linter.unusedSimpArgs false

theorem pcells_snoc (a b : Nat) : ∀ ps : List (Nat × Nat), pcells (ps ++ [(a, b)]) = pcells ps ++ [.pointer (some ⟨a, 0, none⟩), .pointer (some ⟨b, 0, none⟩)]
  | [] => rfl
  | p :: ps => by rw [List.cons_append, pcells, pcells_snoc a b ps, pcells]; rfl
theorem Fld.push {B m a b z : Nat} {w wT : World} {v v' : Value} {ps : List (Nat × Nat)} {fs gs : Nat → (Nat → Prop)} {Ss : Nat → DS} {fa fb : Nat → Prop} {S : DS} (h : Fld B w v ps fs gs Ss m) (t : Two B w a b fa fb S S) (hS : S.wait.length ≤ m)
    (hz : ∀ i k, i < ps.length → (fs i k ∨ gs i k) → k < z) (hzv : ∀ k, v.ownBlock = some k → k < z) (hab : ∀ k, (fa k ∨ fb k) → z ≤ k)
    (hk : Kept (fun k => v.ownBlock = some k) w wT) (hv' : ∀ k, v'.ownBlock = some k → v.ownBlock = some k ∨ w.heap.size ≤ k)
    (hrow : wT.ownsRow B 43 2 v' (ps.length + 1) (pcells ps ++ [.pointer (some ⟨a, 0, none⟩), .pointer (some ⟨b, 0, none⟩)])) : All B wT v' (ps ++ [(a, b)]) m := by
  have hlen : (ps ++ [(a, b)]).length = ps.length + 1 := by simp
  refine ⟨fun i => if i < ps.length then fs i else fa, fun i => if i < ps.length then gs i else fb, fun i => if i < ps.length then Ss i else S, ⟨?_, ?_, ?_, ?_⟩⟩
  · rw [hlen, pcells_snoc]; exact hrow
  · intro i p hp
    by_cases e : i < ps.length
    · rw [List.getElem?_append_left e] at hp
      simp only [if_pos e]
      exact ⟨(h.two i p hp).1.kept hk (fun k hf hv => h.far i k e hv hf), (h.two i p hp).2⟩
    · have hi : i = ps.length := by
        have := (List.getElem?_eq_some_iff.1 hp).1
        omega
      subst hi
      simp at hp
      subst hp
      simp only [Nat.lt_irrefl, if_false]
      exact ⟨t.kept hk (fun k hf hv => by have := hab k hf; have := hzv k hv; omega), hS⟩
  · intro i j k hi hj hne
    by_cases e1 : i < ps.length
    · by_cases e2 : j < ps.length
      · simp only [if_pos e1, if_pos e2]; exact h.dis i j k e1 e2 hne
      · simp only [if_pos e1, if_neg e2]
        intro h1 h2
        have := hz i k e1 h1; have := hab k h2; omega
    · by_cases e2 : j < ps.length
      · simp only [if_neg e1, if_pos e2]
        intro h1 h2
        have := hz j k e2 h2; have := hab k h1; omega
      · omega
  · intro i k hi hv h1
    by_cases e1 : i < ps.length
    · simp only [if_pos e1] at h1
      rcases hv' k hv with q | q
      · exact h.far i k e1 q h1
      · have := ((h.two i _ (List.getElem?_eq_getElem e1)).1.low k h1).2; omega
    · simp only [if_neg e1] at h1
      rcases hv' k hv with q | q
      · have := hzv k q; have := hab k h1; omega
      · have := (t.low k h1).2; omega
end Go.Proofs.YtnpcnflfpmjgiaaDoor
