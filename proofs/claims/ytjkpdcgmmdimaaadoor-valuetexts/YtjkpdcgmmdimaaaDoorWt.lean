/- Package value's byteAt and dots: a value's bytes, and the text of its four lowest ones. -/
import Derived.Test.YtjkpdcgmmdimaaaDoorWg
import Derived.Test.YtjkpdcgmmdimaaaDoorWd
namespace Go.Proofs.YtjkpdcgmmdimaaaDoor
open Go.RowKit
set_option linter.unusedVariables false
set_option linter.unusedSimpArgs false

/-- The byte of a value that has so many bytes below it. -/
def byteN (n i : Nat) : Nat := n / 256 ^ i % 256
theorem byteN_lt (n i : Nat) : byteN n i < 256 := by unfold byteN; omega
theorem byte_lo (n : Nat) {i : Nat} (h : i < 8) : loOf n / 2 ^ (8 * i) % 256 = ((byteN n i : Nat) : Int) := by
  unfold loOf byteN
  have e : (2 : Nat) ^ (8 * i) = 256 ^ i := by rw [Nat.pow_mul]
  have e2 : (18446744073709551616 : Nat) = 256 ^ i * 256 ^ (8 - i) := by rw [← Nat.pow_add, show i + (8 - i) = 8 by omega]
  have e3 : ((2 : Int) ^ (8 * i)) = ((256 ^ i : Nat) : Int) := by rw [← e]; simp
  rw [e3, ← Int.natCast_ediv, e2, Nat.mod_mul_right_div_self]
  have e4 : (256 : Nat) ^ (8 - i) = 256 * 256 ^ (7 - i) := by rw [show 8 - i = 7 - i + 1 by omega, Nat.pow_succ, Nat.mul_comm]
  have : n / 256 ^ i % 256 ^ (8 - i) % 256 = n / 256 ^ i % 256 := by rw [e4]; exact Nat.mod_mul_right_mod _ _ _
  rw [← this]; simp
theorem byte_hi (n : Nat) (i : Nat) : hiOf n / 2 ^ (8 * i) % 256 = ((byteN n (8 + i) : Nat) : Int) := by
  unfold hiOf byteN
  have e : (2 : Nat) ^ (8 * i) = 256 ^ i := by rw [Nat.pow_mul]
  have e3 : ((2 : Int) ^ (8 * i)) = ((256 ^ i : Nat) : Int) := by rw [← e]; simp
  rw [e3, ← Int.natCast_ediv, Nat.pow_add, ← Nat.div_div_eq_div_mul]
  simp

theorem byteAt_any (n : Nat) (i : Nat) (h : i < 16) (w : World) : Calls Tryd.prog 52 #[B n, .int .i64 i] w fun e w' => e = .returned (.int .u8 (byteN n i : Nat)) ∧ Below w.heap.size w w' := by
  by_cases h8 : 8 ≤ i
  · obtain ⟨k, rfl⟩ : ∃ k, i = 8 + k := ⟨i - 8, by omega⟩
    have E : Hid _ := byte_hi n k
    have h0 : 0 ≤ hiOf n := hiOf_nonneg n
    go_enter Tryd.func52, Tryd.ntmps52
    go_wp2
    go_ret
    exact ⟨congrArg (fun x => Ending.returned (.int .u8 x)) E.out, by go_grown⟩
  · have h8' : i < 8 := by omega
    have E : Hid _ := byte_lo n h8'
    have h0 : 0 ≤ loOf n := loOf_nonneg n
    go_enter Tryd.func52, Tryd.ntmps52
    go_wp2
    go_ret
    exact ⟨congrArg (fun x => Ending.returned (.int .u8 x)) E.out, by go_grown⟩
theorem byteAt_int (n : Nat) (i : Int) (h0 : 0 ≤ i) (h : i < 16) (w : World) : Calls Tryd.prog 52 #[B n, .int .i64 i] w fun e w' => e = .returned (.int .u8 (byteN n i.toNat : Nat)) ∧ Below w.heap.size w w' := by
  obtain ⟨k, rfl⟩ := Int.eq_ofNat_of_zero_le h0
  simpa using byteAt_any n k (by omega) w

/-- The text of the k highest of the four lowest bytes. -/
def dpre (n : Nat) : Nat → List UInt8
  | 0 => []
  | k + 1 => dpre n k ++ digs 10 (byteN n (3 - k)) ++ (if k < 3 then [46] else [])
theorem dpre_length (n k : Nat) : (dpre n k).length ≤ 129 * k := by
  induction k with
  | zero => simp [dpre]
  | succ k ih => have := digs_length 10 (byteN n (3 - k)); simp only [dpre, List.length_append]; split <;> simp <;> omega
theorem tenBound (b : Nat) (h : b < 256) : b < 10 ^ 128 := Nat.lt_of_lt_of_le h (by decide)
theorem div_small_said (base n : Nat) (hb : 0 < base) (hn : n < 18446744073709551616) : DivSaid base n := fun m hm w => divide_small m (by omega) base hb w

theorem small_words {b : Nat} (h : b < 18446744073709551616) : B b = .agg #[.int .u64 0, .int .u64 b] := by
  simp only [B, hiOf, loOf, Nat.div_eq_of_lt h, Nat.mod_eq_of_lt h]; rfl
theorem digits_byte (b : Nat) (h : b < 256) (w : World) (hT : Tab w) : Calls Tryd.prog 57 #[.agg #[.int .u64 0, .int .u64 b], .int .u64 10] w fun e w' => e = .returned (.string ⟨(digs 10 b).toArray⟩) ∧ Below w.heap.size w w' := by
  have := digits_of 10 b (by decide) (by decide) (tenBound b h) (div_small_said 10 b (by decide) (by omega)) w hT
  rwa [small_words (by omega)] at this
theorem str_app (a b : List UInt8) : (⟨a.toArray⟩ : ByteArray) ++ (⟨b.toArray⟩ : ByteArray) = ⟨(a ++ b).toArray⟩ := by
  apply ByteArray.ext; simp

set_option maxHeartbeats 1000000 in
theorem dots_any (n : Nat) (w : World) (hT : Tab w) : Calls Tryd.prog 58 #[B n] w fun e w' => e = .returned (.string ⟨(dpre n 4).toArray⟩) ∧ Below w.heap.size w w' := by
  go_enter Tryd.func58, Tryd.ntmps58
  go_wp2
  go_loopw [3, 4] (fun o i wr => ∃ k : Nat, k ≤ 4 ∧ i = .int .i64 (3 - k) ∧ o = .string ⟨(dpre n k).toArray⟩ ∧ wr.cell? ⟨w.heap.size, 0, none⟩ = some (.int .u64 (hiOf n)) ∧ wr.cell? ⟨w.heap.size, 1, none⟩ = some (.int .u64 (loOf n)) ∧ Below w.heap.size w wr ∧ w.heap.size < wr.heap.size) (fun _ i _ => (intOf i + 1).toNat)
  case atStart => exact ⟨0, by omega, rfl, rfl, by simp, by simp, by go_grown, by simp⟩
  case round =>
    obtain ⟨k, hk, rfl, rfl, hc0, hc1, hbel, hsz⟩ := hrel
    have hl := dpre_length n k
    by_cases hlt : k < 4
    · have hTr := hT.below hbel
      have HT : Hid (Tab wr) := hTr
      clear hTr
      go_wp2_with fail
      refine (byteAt_int n _ (by omega) (by omega) _).mono ?_
      rintro e w1 ⟨rfl, hb1⟩
      rw [show ((3 : Int) - k).toNat = 3 - k by omega]
      have hB := byteN_lt n (3 - k)
      generalize hb : byteN n (3 - k) = b at *
      have HB : Hid _ := hb
      clear hb
      have HT1 : Hid (Tab w1) := HT.out.below hb1
      have hd := digs_length 10 b
      have hc0' : w1.cell? ⟨w.heap.size, 0, none⟩ = some (.int .u64 (hiOf n)) := by rw [hb1.cell (p := ⟨w.heap.size, 0, none⟩) hsz]; exact hc0
      have hc1' : w1.cell? ⟨w.heap.size, 1, none⟩ = some (.int .u64 (loOf n)) := by rw [hb1.cell (p := ⟨w.heap.size, 1, none⟩) hsz]; exact hc1
      have hsz1 : w.heap.size < w1.heap.size := Nat.lt_of_lt_of_le hsz hb1.size
      have hbel1 : Below w.heap.size w w1 := hbel.trans (hb1.mono (by omega))
      clear hc0 hc1 hsz hbel hb1 HT
      go_wp2_with fail
      refine (digits_byte b hB _ HT1.out).mono ?_
      rintro e w2 ⟨rfl, hb2⟩
      have hc0 : w2.cell? ⟨w.heap.size, 0, none⟩ = some (.int .u64 (hiOf n)) := by rw [hb2.cell (p := ⟨w.heap.size, 0, none⟩) hsz1]; exact hc0'
      have hc1 : w2.cell? ⟨w.heap.size, 1, none⟩ = some (.int .u64 (loOf n)) := by rw [hb2.cell (p := ⟨w.heap.size, 1, none⟩) hsz1]; exact hc1'
      have hsz : w.heap.size < w2.heap.size := Nat.lt_of_lt_of_le hsz1 hb2.size
      have hbel : Below w.heap.size w w2 := hbel1.trans (hb2.mono (by omega))
      clear hc0' hc1' hsz1 hbel1 hb2 HT1
      have e1 : Value.int IntKind.i64 (3 - (k : Int) - 1) = Value.int IntKind.i64 (3 - ((k + 1 : Nat) : Int)) := congrArg (Value.int .i64) (by omega)
      have H1 : Hid _ := e1
      clear e1
      by_cases h3 : k < 3
      · go_wp2
        refine ⟨⟨k + 1, by omega, H1.out, ?_, hc0, hc1, hbel, hsz⟩, by simp only [intOf]; omega⟩
        rw [dpre, if_pos h3, HB.out, str_app (dpre n k) (digs 10 b)]; exact congrArg Value.string (str_app _ [46])
      · go_wp2
        refine ⟨⟨k + 1, by omega, H1.out, ?_, hc0, hc1, hbel, hsz⟩, by simp only [intOf]; omega⟩
        rw [dpre, if_neg h3, HB.out, str_app, List.append_nil]
    · go_wp2
      go_ret
      obtain rfl : k = 4 := by omega
      exact ⟨rfl, hbel⟩

theorem isForm_yes (f : Int) (h0 : 1 ≤ f) (h1 : f ≤ 5) (w : World) : Calls Tryd.prog 55 #[.int .i64 f] w fun e w' => e = .returned (.bool true) ∧ w' = w := by
  go_enter Tryd.func55, Tryd.ntmps55
  go_wp2
  go_ret
  exact ⟨by simp [h0, h1], rfl⟩
theorem formHas_dots (wd : Int) (w : World) : Calls Tryd.prog 56 #[.int .i64 4, .int .i64 wd] w fun e w' => e = .returned (.bool (wd == 32)) ∧ w' = w := by
  go_enter Tryd.func56, Tryd.ntmps56
  go_wp2
  go_ret
  exact ⟨rfl, rfl⟩

theorem text_dots (n : Nat) (hn : n < 4294967296) (w : World) (hT : Tab w) : Calls Tryd.prog 38 #[B n, .int .i64 32, .int .i64 4] w fun e w' => e = .returned (.tuple #[.string ⟨(dpre n 4).toArray⟩, .int .i64 0]) ∧ Below w.heap.size w w' := by
  have hI : Is128 n := by unfold Is128; omega
  have hf : fitsN n 32 = true := by unfold fitsN isW; simp; exact hn
  have HF : Hid (Is128 n) := hI
  clear hn hI
  go_enter Tryd.func38, Tryd.ntmps38
  go_wp2_with fail
  refine (isForm_yes 4 (by decide) (by decide) _).mono ?_
  rintro e w1 ⟨rfl, rfl⟩
  go_wp2_with fail
  refine (formHas_dots 32 _).mono ?_
  rintro e w1 ⟨rfl, rfl⟩
  go_wp2_with fail
  refine (fits_any n HF.out 32 _).mono ?_
  rw [hf]
  rintro e w1 ⟨rfl, hb1⟩
  obtain ⟨hc1, hf1⟩ := bcell hb1
  simp at hc1
  have hT1 : Tab w1 := hT.below (bstep ((Below.refl _ _).alloc (Nat.le_refl _) _) hb1)
  go_wp2_with fail
  refine (dots_any n _ hT1).mono ?_
  rintro e w2 ⟨rfl, hb2⟩
  go_wp2
  go_ret2
  exact ⟨rfl, bstep (bstep ((Below.refl _ _).alloc (Nat.le_refl _) _) hb1) hb2⟩
end Go.Proofs.YtjkpdcgmmdimaaaDoor
