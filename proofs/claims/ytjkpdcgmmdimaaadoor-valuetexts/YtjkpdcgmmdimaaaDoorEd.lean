/- What the reference's Text joins of bytes: dots and colons. Plain facts. -/
import Derived.Test.YtjkpdcgmmdimaaaDoorLb
import Derived.Test.YtjkpdcgmmdimaaaDoorEc
namespace Go.Proofs.YtjkpdcgmmdimaaaDoor
open Go.RowKit
set_option linter.unusedVariables false

/-- The text of the first i of four bytes, a dot between. -/
def djN (n : Nat) : Nat → List UInt8
  | 0 => []
  | i + 1 => djN n i ++ (if 0 < i then [46] else []) ++ digs 10 (byteN n (3 - i))
theorem dj_four (n : Nat) : djN n 4 = dpre n 4 := by simp [djN, dpre]
theorem dj_length (n : Nat) : ∀ i, (djN n i).length ≤ 130 * i := by
  intro i; induction i with
  | zero => simp [djN]
  | succ i ih => have := digs_length 10 (byteN n (3 - i)); simp only [djN, List.length_append]; split <;> simp <;> omega
/-- The text of the first i of k bytes, a colon between. -/
def cjN (n k : Nat) : Nat → List UInt8
  | 0 => []
  | i + 1 => cjN n k i ++ (if 0 < i then [58] else []) ++ [sgn (byteN n (k - 1 - i) / 16), sgn (byteN n (k - 1 - i) % 16)]
theorem cj_step (n k : Nat) : ∀ i, i < k → cjN n k (i + 1) ++ (if k - (i + 1) = 0 then [] else 58 :: colN n (k - (i + 1))) = colN n k := by
  intro i; induction i with
  | zero =>
    intro h
    obtain ⟨j, rfl⟩ : ∃ j, k = j + 1 := ⟨k - 1, by omega⟩
    rw [colN]
    simp only [cjN, Nat.add_sub_cancel, Nat.sub_zero, Nat.zero_add, Nat.lt_irrefl, if_false, List.nil_append, List.append_nil]
    rfl
  | succ i ih =>
    intro h
    have ih' := ih (by omega)
    obtain ⟨j, hj⟩ : ∃ j, k - (i + 1) = j + 1 := ⟨k - (i + 1) - 1, by omega⟩
    rw [hj, if_neg (Nat.succ_ne_zero j), colN] at ih'
    have e : cjN n k (i + 1 + 1) = cjN n k (i + 1) ++ [58] ++ [sgn (byteN n (k - 1 - (i + 1)) / 16), sgn (byteN n (k - 1 - (i + 1)) % 16)] := by rw [cjN, if_pos (Nat.succ_pos i)]
    rw [← ih', e, show k - 1 - (i + 1) = j by omega, show k - (i + 1 + 1) = j by omega]
    simp
theorem cj_all {n k : Nat} (hk : 1 ≤ k) : cjN n k k = colN n k := by
  obtain ⟨j, rfl⟩ : ∃ j, k = j + 1 := ⟨k - 1, by omega⟩
  have := cj_step n (j + 1) j (by omega)
  rw [Nat.sub_self, if_pos rfl, List.append_nil] at this
  exact this
theorem cj_length (n k : Nat) : ∀ i, (cjN n k i).length ≤ 3 * i := by
  intro i; induction i with
  | zero => simp [cjN]
  | succ i ih => simp only [cjN, List.length_append]; split <;> simp <;> omega
/-- The bytes of a number, as a text. -/
theorem be_bytes (k n : Nat) : ∃ s : ByteArray, s = ⟨(be k n).toArray⟩ ∧ s.size = k ∧ ∀ i (h : i < s.size), (s[i]).toNat = byteN n (k - 1 - i) := by
  refine ⟨_, rfl, by show (be k n).toArray.size = k; simp [be_length], fun i h => ?_⟩
  have hik : i < k := by have : (be k n).toArray.size = k := by simp [be_length]
                         have h' : i < (be k n).toArray.size := h
                         omega
  have e := be_get k n i hik
  have hg : ((⟨(be k n).toArray⟩ : ByteArray)[i]) = (be k n)[i]'(by rw [be_length]; exact hik) := rfl
  rw [hg]
  rw [List.getElem?_eq_getElem (by rw [be_length]; exact hik)] at e
  rw [Option.some.inj e]
  have := byteN_lt n (k - 1 - i)
  simp [UInt8.toNat_ofNat', Nat.mod_eq_of_lt this]
theorem conv_two (w : World) (a b : UInt8) : (convert 57 9 (.slice (some ⟨w.heap.size, 0, none⟩) 2 2)).run Tryd.prog (w.alloc (.cells #[.int .u8 (a.toNat : Int), .int .u8 (b.toNat : Int)] 5)) = .ok (.string ⟨#[a, b]⟩) (w.alloc (.cells #[.int .u8 (a.toNat : Int), .int .u8 (b.toNat : Int)] 5)) := by
  refine run_convert_bytes_back (P := Tryd.prog) _ 57 9 5 ⟨w.heap.size, 0, none⟩ 2 [a, b] Tryd.underlying57 Tryd.underlying5 Tryd.underlying9 (fun j hj => ?_)
  exact two_cells w _ _ 5 j _ (by match j, hj with | 0, _ => rfl | 1, _ => rfl)
theorem rdigits_ten (n : Nat) (hn : Is128 n) (w : World) : Calls Tryd.prog 64 #[B n, .int .i64 10] w fun e w' => e = .returned (.string ⟨(digs 10 n).toArray⟩) ∧ Below w.heap.size w w' :=
  rdigits_any 10 n (by decide) (by decide) hn (Nat.lt_of_lt_of_le hn (by decide)) w
theorem rdigits_two (n : Nat) (hn : Is128 n) (w : World) : Calls Tryd.prog 64 #[B n, .int .i64 2] w fun e w' => e = .returned (.string ⟨(digs 2 n).toArray⟩) ∧ Below w.heap.size w w' :=
  rdigits_any 2 n (by decide) (by decide) hn (Nat.lt_of_lt_of_le hn (by decide)) w
theorem rdigits_hex (n : Nat) (hn : Is128 n) (w : World) : Calls Tryd.prog 64 #[B n, .int .i64 16] w fun e w' => e = .returned (.string ⟨(digs 16 n).toArray⟩) ∧ Below w.heap.size w w' :=
  rdigits_any 16 n (by decide) (by decide) hn (Nat.lt_of_lt_of_le hn (by decide)) w
end Go.Proofs.YtjkpdcgmmdimaaaDoor
