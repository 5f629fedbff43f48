/- A row of things of so many cells, one behind the other in a block: how it is read and written over. -/
import Derived.Test.YtkcjcidndckgbaaKe
import Derived.Deep.MidRow
namespace Go.Proofs.Ytkcjcidndckgbaa
open Go.RowKit
set_option linter.unusedVariables false
set_option linter.unusedSimpArgs false

theorem info_of {t : TypeId} {z : Value} {s b : Nat} (h : (Try.prog.info? t).map (fun i => (i.zero, i.size, i.bytes)) = some (some z, s, b)) : ∃ i, Try.prog.info? t = some i ∧ i.zero = some z ∧ i.size = s ∧ i.bytes = b := by
  cases hi : Try.prog.info? t with
  | none => rw [hi] at h; cases h
  | some i =>
    rw [hi] at h
    simp only [Option.map_some, Option.some.injEq, Prod.mk.injEq] at h
    exact ⟨i, rfl, h.1, h.2.1, h.2.2⟩
theorem blk_there {w : World} {b : Nat} {cs : Array Value} {t : TypeId} (h : Blk w b cs t) {o n : Nat} (hn : o + n ≤ cs.size) : w.there b o n := fun j hj => by
  have hlt : o + j < cs.size := by omega
  refine ⟨?_, h.frozen _⟩
  rw [h.cell (o + j) (v := cs[o + j]) (Array.getElem?_eq_getElem hlt)]; rfl
theorem setCells_kept (b : Nat) : ∀ (vs : List Value) (o : Nat) (w : World), Kept (fun k => k = b) w (w.setCells b o vs)
  | [], _, w => Kept.refl _ _
  | v :: vs, o, w => by
    rw [World.setCells]
    exact (Kept.set (S := fun k => k = b) (p := ⟨b, o, none⟩) (Kept.refl _ w) rfl v).trans (setCells_kept b vs (o + 1) _)
theorem size_setCells (b : Nat) : ∀ (vs : List Value) (o : Nat) (w : World), (w.setCells b o vs).heap.size = w.heap.size
  | [], _, w => rfl
  | v :: vs, o, w => by rw [World.setCells, size_setCells]; simp [World.setCell]
theorem setCells_blk {b : Nat} {t : TypeId} : ∀ (vs : List Value) {w : World} {cs : Array Value} (o : Nat), Blk w b cs t → o + vs.length ≤ cs.size →
    ∃ cs', Blk (w.setCells b o vs) b cs' t ∧ cs'.size = cs.size ∧ (∀ j v, vs[j]? = some v → cs'[o + j]? = some v) ∧ ∀ i, (i < o ∨ o + vs.length ≤ i) → cs'[i]? = cs[i]?
  | [], _, cs, o, h, _ => ⟨cs, h, rfl, fun j v hv => by simp at hv, fun _ _ => rfl⟩
  | v :: vs, w, cs, o, h, hl => by
    have hl' : o + 1 + vs.length ≤ (cs.setIfInBounds o v).size := by simp at hl ⊢; omega
    obtain ⟨cs', h1, h2, h3, h4⟩ := setCells_blk vs (o + 1) (h.set o v) hl'
    refine ⟨cs', h1, by rw [h2]; simp, fun j u hu => ?_, fun i hi => ?_⟩
    · cases j with
      | zero =>
        rw [Nat.add_zero, h4 o (.inl (by omega))]
        simp at hu; subst hu
        rw [Array.getElem?_setIfInBounds_self_of_lt (by simp at hl; omega)]
      | succ j => rw [show o + (j + 1) = o + 1 + j by omega]; exact h3 j u (by simpa using hu)
    · rw [h4 i (by simp at hi; omega), Array.getElem?_setIfInBounds_ne (by simp at hi; omega)]

/-- The things xs, of K cells each, lie one behind the other in block b. -/
structure RowOf {α : Type} (E K : Nat) (enc : α → List Value) (w : World) (b : Nat) (xs : List α) : Prop where
  ex : ∃ cs, Blk w b cs E ∧ xs.length * K ≤ cs.size ∧ ∀ i x, xs[i]? = some x → ∀ j v, (enc x)[j]? = some v → cs[i * K + j]? = some v
section
variable {α : Type} {E K : Nat} {enc : α → List Value} {w : World} {b : Nat} {xs : List α}
theorem RowOf.lt (h : RowOf E K enc w b xs) : b < w.heap.size := by obtain ⟨cs, h1, _⟩ := h.ex; exact h1.lt
theorem RowOf.cell (h : RowOf E K enc w b xs) {i : Nat} {x : α} (hx : xs[i]? = some x) (j : Nat) {v : Value} (hv : (enc x)[j]? = some v) : w.cell? ⟨b, i * K + j, none⟩ = some v := by
  obtain ⟨cs, h1, _, h2⟩ := h.ex
  exact h1.cell _ (h2 i x hx j v hv)
theorem RowOf.cell0 (h : RowOf E K enc w b xs) {i : Nat} {x : α} (hx : xs[i]? = some x) {v : Value} (hv : (enc x)[0]? = some v) : w.cell? ⟨b, i * K, none⟩ = some v := h.cell hx 0 hv
theorem RowOf.frozen (h : RowOf E K enc w b xs) (i : Nat) : w.frozen? ⟨b, i, none⟩ = false := by
  obtain ⟨cs, h1, _, h2⟩ := h.ex
  exact h1.frozen _
theorem RowOf.range (h : RowOf E K enc w b xs) {i : Nat} {x : α} (hx : xs[i]? = some x) : w.rangeAt b (i * K) (enc x) := fun j v hv => h.cell hx j hv
theorem RowOf.there (h : RowOf E K enc w b xs) {i : Nat} (hi : i < xs.length) : w.there b (i * K) K := by
  obtain ⟨cs, h1, hs, h2⟩ := h.ex
  refine blk_there h1 ?_
  have : (i + 1) * K ≤ xs.length * K := Nat.mul_le_mul_right K hi
  rw [Nat.add_mul, Nat.one_mul] at this; omega
theorem RowOf.kept (h : RowOf E K enc w b xs) {S : Nat → Prop} {w' : World} (hk : Kept S w w') (hb : ¬ S b) : RowOf E K enc w' b xs := by
  obtain ⟨cs, h1, h2⟩ := h.ex
  exact ⟨cs, h1.kept hk hb, h2⟩
theorem RowOf.below (h : RowOf E K enc w b xs) {w' : World} (hk : Below w.heap.size w w') : RowOf E K enc w' b xs := by
  obtain ⟨cs, h1, h2⟩ := h.ex
  exact ⟨cs, h1.below hk, h2⟩
theorem RowOf.set (h : RowOf E K enc w b xs) (i : Nat) (x : α) (hi : i < xs.length) (hlen : ∀ y, (enc y).length = K) : RowOf E K enc (w.setCells b (i * K) (enc x)) b (xs.set i x) := by
  obtain ⟨cs, h1, h2, h3⟩ := h.ex
  have hl := hlen x
  have hm : (i + 1) * K ≤ xs.length * K := Nat.mul_le_mul_right K hi
  rw [Nat.add_mul, Nat.one_mul] at hm
  obtain ⟨cs', g1, g2, g3, g4⟩ := setCells_blk (enc x) (i * K) h1 (by omega)
  refine ⟨cs', g1, by rw [g2, List.length_set]; exact h2, fun j y hy k v hv => ?_⟩
  by_cases e : i = j
  · subst e
    rw [List.getElem?_set_self hi] at hy
    injection hy with hy; subst hy
    exact g3 k v hv
  · rw [List.getElem?_set_ne e] at hy
    have hj : j < xs.length := (List.getElem?_eq_some_iff.1 hy).1
    by_cases hk : k < K
    · rw [g4 _ ?_]
      · exact h3 j y hy k v hv
      · rw [hl]
        rcases Nat.lt_or_gt_of_ne e with q | q
        · right
          have : (i + 1) * K ≤ j * K := Nat.mul_le_mul_right K q
          rw [Nat.add_mul, Nat.one_mul] at this; omega
        · left
          have : (j + 1) * K ≤ i * K := Nat.mul_le_mul_right K q
          rw [Nat.add_mul, Nat.one_mul] at this; omega
    · exact absurd (Nat.lt_of_lt_of_eq (List.getElem?_eq_some_iff.1 hv).1 (hlen y)) hk
end
end Go.Proofs.Ytkcjcidndckgbaa
