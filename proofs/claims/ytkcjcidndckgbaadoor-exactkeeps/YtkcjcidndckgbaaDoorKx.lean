/- The keys of the law: a number's text and a tail: no two are the same. -/
import Derived.Test.YtkcjcidndckgbaaDoorKe
import Derived.Lib.ItoaNum
import Derived.Lib.SmallJoins
namespace Go.Proofs.YtkcjcidndckgbaaDoor
open Go.RowKit Go.Lib
set_option linter.unusedVariables false
set_option linter.unusedSimpArgs false

def digVal (l : List UInt8) : Nat := l.foldl (fun a b => a * 10 + (b.toNat - 48)) 0
theorem dig_byte {d : Nat} (h : d < 10) : (UInt8.ofNat (48 + d)).toNat = 48 + d := by
  rw [UInt8.toNat_ofNat']; omega
theorem digVal_dec (u : Nat) : digVal (decDigits u) = u := by
  induction u using Nat.strongRecOn with
  | _ u ih =>
    rw [decDigits]
    split
    · next h =>
      show 0 * 10 + ((UInt8.ofNat (48 + u)).toNat - 48) = u
      rw [dig_byte h]; omega
    · next h =>
      have e := ih (u / 10) (by omega)
      unfold digVal at e ⊢
      rw [List.foldl_append, e, List.foldl_cons, List.foldl_nil, dig_byte (by omega)]
      omega
theorem dec_inj {u v : Nat} (h : decDigits u = decDigits v) : u = v := by rw [← digVal_dec u, ← digVal_dec v, h]
theorem dec_digit (u : Nat) : ∀ b ∈ decDigits u, b.toNat < 58 := by
  induction u using Nat.strongRecOn with
  | _ u ih =>
    rw [decDigits]
    split
    · next h =>
      intro b hb
      rw [List.mem_singleton] at hb; subst hb
      rw [dig_byte h]; omega
    · next h =>
      intro b hb
      rcases List.mem_append.1 hb with hb | hb
      · exact ih (u / 10) (by omega) b hb
      · rw [List.mem_singleton] at hb; subst hb
        rw [dig_byte (by omega)]; omega
theorem dec_ne (u : Nat) : decDigits u ≠ [] := by
  rw [decDigits]; split <;> simp
theorem dec_len : ∀ (d u : Nat), u < 10 ^ (d + 1) → (decDigits u).length ≤ d + 1
  | 0, u, h => by rw [decDigits, dif_pos (by simpa using h)]; simp
  | d + 1, u, h => by
    rw [decDigits]
    split
    · simp
    · rw [List.length_append]
      have := dec_len d (u / 10) (by rw [Nat.pow_succ] at h; omega)
      simp; omega
/-- A key. -/
def keyB (i : Nat) (tail : ByteArray) : ByteArray := ⟨(decDigits i).toArray⟩ ++ tail
theorem keyB_data (i : Nat) (tail : ByteArray) : (keyB i tail).data.toList = decDigits i ++ tail.data.toList := by
  unfold keyB; rw [ByteArray.data_append, Array.toList_append]
theorem keyB_inj {i j : Nat} {tail : ByteArray} (h : keyB i tail = keyB j tail) : i = j := by
  have e : (keyB i tail).data.toList = (keyB j tail).data.toList := by rw [h]
  rw [keyB_data, keyB_data] at e
  exact dec_inj (List.append_cancel_right e)
/-- The key that is put in at the end. -/
def oneMore : ByteArray := ⟨#[111, 110, 101, 32, 109, 111, 114, 101]⟩
theorem keyB_more (i : Nat) (tail : ByteArray) : keyB i tail ≠ oneMore := by
  intro h
  have e : (keyB i tail).data.toList = oneMore.data.toList := by rw [h]
  rw [keyB_data] at e
  cases hd : decDigits i with
  | nil => exact dec_ne i hd
  | cons b l =>
    rw [hd] at e
    have hb := dec_digit i b (by rw [hd]; simp)
    have : b = 111 := by simpa [oneMore] using congrArg List.head? e
    subst this
    simp at hb
theorem keyB_size (i : Nat) (hi : i < 10000) (tail : ByteArray) (ht : tail.size ≤ 64) : (keyB i tail).size ≤ 68 := by
  have e : (keyB i tail).size = (keyB i tail).data.toList.length := by rw [Array.length_toList]; rfl
  rw [e, keyB_data, List.length_append]
  have := dec_len 3 i (by omega)
  have h2 : tail.data.toList.length = tail.size := by rw [Array.length_toList]; rfl
  omega
end Go.Proofs.YtkcjcidndckgbaaDoor
