/- Plain: a key taken out; what the two maps answer then. -/
import Derived.Test.YtkcjcidndckgbaaTd
namespace Go.Proofs.Ytkcjcidndckgbaa
open Go.RowKit Go.Sort
set_option linter.unusedVariables false
set_option linter.unusedSimpArgs false

theorem erase_self {D : List ByteArray} (h : D.Nodup) (k : ByteArray) : k ∉ D.erase k := h.not_mem_erase
theorem erase_other {D : List ByteArray} {k x : ByteArray} (h : x ∈ D) (hx : x ≠ k) : x ∈ D.erase k := (List.mem_erase_of_ne hx).2 h
section
variable {w W : World} {q1 q2 : Nat} {D : List ByteArray} {k x : ByteArray}
theorem Two.get1_out (h : Two w W q1 q2 (D.erase k) (D.erase k)) (hd : D.Nodup) (hk : k.size ≤ 281474976710656) :
    Calls Try.prog 21 #[.pointer (some ⟨q1, 0, none⟩), .string k] W fun e w' => e = .returned (.tuple #[.string ⟨#[]⟩, .bool false]) ∧ Below W.heap.size W w' := by
  have := h.get1 k hk
  rw [if_neg (erase_self hd k), decide_eq_false (erase_self hd k)] at this
  exact this
theorem Two.get2_out (h : Two w W q1 q2 (D.erase k) (D.erase k)) (hd : D.Nodup) (hk : k.size ≤ 281474976710656) :
    Calls Try.prog 22 #[.pointer (some ⟨q2, 0, none⟩), .string k] W fun e w' => e = .returned (.tuple #[.agg #[.string ⟨#[]⟩, .int .i64 0, .int .i64 0], .bool false]) ∧ Below W.heap.size W w' := by
  have := h.get2 k hk
  rw [if_neg (erase_self hd k), if_neg (erase_self hd k), if_neg (erase_self hd k), decide_eq_false (erase_self hd k)] at this
  exact this
theorem Two.get1_in (h : Two w W q1 q2 (D.erase k) (D.erase k)) (hx : x ∈ D) (hne : x ≠ k) (hk : x.size ≤ 281474976710656) :
    Calls Try.prog 21 #[.pointer (some ⟨q1, 0, none⟩), .string x] W fun e w' => e = .returned (.tuple #[.string (under ++ x), .bool true]) ∧ Below W.heap.size W w' := by
  have := h.get1 x hk
  rw [if_pos (erase_other hx hne), decide_eq_true (erase_other hx hne)] at this
  exact this
theorem Two.get2_in (h : Two w W q1 q2 (D.erase k) (D.erase k)) (hx : x ∈ D) (hne : x ≠ k) (hk : x.size ≤ 281474976710656) :
    Calls Try.prog 22 #[.pointer (some ⟨q2, 0, none⟩), .string x] W fun e w' => e = .returned (.tuple #[.agg #[.string x, .int .i64 (x.size : Int), .int .i64 7], .bool true]) ∧ Below W.heap.size W w' := by
  have := h.get2 x hk
  rw [if_pos (erase_other hx hne), if_pos (erase_other hx hne), if_pos (erase_other hx hne), decide_eq_true (erase_other hx hne)] at this
  exact this
end
end Go.Proofs.Ytkcjcidndckgbaa
