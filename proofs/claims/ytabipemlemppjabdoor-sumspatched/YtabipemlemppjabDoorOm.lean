/- The sum of ones: what follows of it, plain facts: its own sum behind a text, words in another order, bytes the other way round, a word that becomes another one. -/
import Derived.Test.YtabipemlemppjabDoorFp
namespace Go.Proofs.YtabipemlemppjabDoor
open Go.RowKit
set_option linter.unusedVariables false

theorem fold_pos (n : Nat) (h : 0 < n) : foldN n = (n - 1) % 65535 + 1 := by
  induction n using Nat.strongRecOn with
  | _ n ih =>
    by_cases h' : 65535 < n
    · rw [foldN_more h', ih _ (by omega) (by omega)]; omega
    · rw [foldN_end h']; omega
theorem fold_zero : foldN 0 = 0 := by rw [foldN_end (by decide)]
theorem sumW_append : ∀ (a b : List UInt8), a.length % 2 = 0 → sumW (a ++ b) = sumW a + sumW b
  | [], b, _ => by simp [sumW]
  | [x], b, h => by simp at h
  | x :: y :: r, b, h => by
    have := sumW_append r b (by simp at h; omega)
    simp only [List.cons_append, sumW, this]; omega
theorem sumW_pair (x y : UInt8) : sumW [x, y] = 256 * x.toNat + y.toNat := by simp [sumW]
theorem ones_le (l : List UInt8) : onesW l ≤ 65535 := by unfold onesW; omega
theorem fold_ones (l : List UInt8) : 65535 - onesW l = foldN (sumW l) := by
  have := foldN_le (sumW l); unfold onesW; omega
/-- With its own sum behind it a text's sum is 0. -/
theorem ones_own (l : List UInt8) (h : l.length % 2 = 0) (x y : UInt8) (e : 256 * x.toNat + y.toNat = onesW l) : onesW (l ++ [x, y]) = 0 := by
  have h1 : sumW (l ++ [x, y]) = sumW l + onesW l := by rw [sumW_append l _ h, sumW_pair, e]
  have h2 := ones_le l
  have h3 := fold_ones l
  show 65535 - foldN (sumW (l ++ [x, y])) = 0
  rw [h1]
  rcases Nat.eq_zero_or_pos (sumW l) with hz | hp
  · rw [hz, fold_zero] at h3
    rw [hz, fold_pos _ (by omega)]; omega
  · rw [fold_pos _ hp] at h3
    rw [fold_pos _ (by omega)]; omega
theorem ones_turned (l : List UInt8) (k : Nat) (h : l.length % 2 = 0) (hk : k % 2 = 0) (hkl : k ≤ l.length) : onesW (l.drop k ++ l.take k) = onesW l := by
  have e1 := sumW_append (l.drop k) (l.take k) (by rw [List.length_drop]; omega)
  have e2 := sumW_append (l.take k) (l.drop k) (by rw [List.length_take]; omega)
  rw [List.take_append_drop] at e2
  unfold onesW
  rw [e1, e2, Nat.add_comm]
/-- The bytes of each word the other way round. -/
def swapL : List UInt8 → List UInt8
  | x :: y :: r => y :: x :: swapL r
  | l => l
theorem swapL_length : ∀ l : List UInt8, (swapL l).length = l.length
  | [] => rfl
  | [_] => rfl
  | x :: y :: r => by simp [swapL, swapL_length r]
theorem swap_sum : ∀ l : List UInt8, l.length % 2 = 0 → ∃ A, 256 * sumW l = sumW (swapL l) + 65535 * A ∧ (sumW l = 0 ↔ sumW (swapL l) = 0)
  | [], _ => ⟨0, by simp [swapL, sumW], by simp [swapL, sumW]⟩
  | [_], h => by simp at h
  | x :: y :: r, h => by
    obtain ⟨A, e, f⟩ := swap_sum r (by simp at h; omega)
    refine ⟨A + x.toNat, ?_, ?_⟩
    · simp only [swapL, sumW]; omega
    · simp only [swapL, sumW]; omega
theorem ones_swapped (l : List UInt8) (h : l.length % 2 = 0) : onesW (swapL l) = onesW l / 256 + onesW l % 256 * 256 := by
  obtain ⟨A, e, f⟩ := swap_sum l h
  have h1 := fold_ones l
  have h2 := fold_ones (swapL l)
  have h3 := ones_le l
  have h4 := ones_le (swapL l)
  rcases Nat.eq_zero_or_pos (sumW l) with hz | hp
  · rw [hz, fold_zero] at h1
    rw [f.1 hz, fold_zero] at h2
    omega
  · rw [fold_pos _ hp] at h1
    rw [fold_pos _ (by omega)] at h2
    omega
theorem sumW_zero : ∀ l : List UInt8, sumW l = 0 ↔ (l.any fun b => b != 0) = false
  | [] => by simp [sumW]
  | [a] => by
    simp [sumW]
    constructor
    · intro h; apply UInt8.toNat_inj.1; simp; omega
    · intro h; subst h; rfl
  | a :: b :: r => by
    have ih := sumW_zero r
    have ha : a.toNat = 0 ↔ a = 0 := ⟨fun h => UInt8.toNat_inj.1 (by simp [h]), fun h => by subst h; rfl⟩
    have hb : b.toNat = 0 ↔ b = 0 := ⟨fun h => UInt8.toNat_inj.1 (by simp [h]), fun h => by subst h; rfl⟩
    simp only [sumW, List.any_cons, Bool.or_eq_false_iff]
    rw [← ih]
    simp only [bne_eq_false_iff_eq, ← ha, ← hb]
    omega
/-- A word that becomes another one. -/
theorem ones_patched (u v : List UInt8) (a b c d : UInt8) (hu : u.length % 2 = 0) :
    onesW (u ++ [c, d] ++ v) = patchN (onesW (u ++ [a, b] ++ v)) (256 * a.toNat + b.toNat) (256 * c.toNat + d.toNat) ∨ ((u ++ [c, d] ++ v).any (fun b => b != 0) = false ∧ onesW (u ++ [c, d] ++ v) = 65535) := by
  have hl : ∀ x y : UInt8, sumW (u ++ [x, y] ++ v) = sumW u + (256 * x.toNat + y.toNat) + sumW v := fun x y => by
    rw [List.append_assoc, sumW_append u _ hu, sumW_append [x, y] v (by simp), sumW_pair]; omega
  have h1 := fold_ones (u ++ [a, b] ++ v)
  have ha := a.toNat_lt; have hb := b.toNat_lt; have hc := c.toNat_lt; have hd := d.toNat_lt
  rcases Nat.eq_zero_or_pos (sumW (u ++ [c, d] ++ v)) with hz | hp
  · exact .inr ⟨(sumW_zero _).1 hz, by unfold onesW; rw [hz, fold_zero]⟩
  · left
    show 65535 - foldN (sumW (u ++ [c, d] ++ v)) = 65535 - foldN ((65535 - onesW (u ++ [a, b] ++ v)) + (65535 - (256 * a.toNat + b.toNat)) + (256 * c.toNat + d.toNat))
    rw [h1]
    have e1 := hl a b
    have e2 := hl c d
    congr 1
    rw [fold_pos _ hp]
    rcases Nat.eq_zero_or_pos (sumW (u ++ [a, b] ++ v)) with hz | hp'
    · rw [hz, fold_zero, fold_pos _ (by omega)]; omega
    · have := fold_pos _ hp'
      rw [fold_pos _ (by rw [this]; omega), this]; omega
end Go.Proofs.YtabipemlemppjabDoor
