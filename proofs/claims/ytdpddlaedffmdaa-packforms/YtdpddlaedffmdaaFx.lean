/- The bytes of a fixed number: package pack's isFixed and fixedBytes: what they answer. -/
import Derived.Test.YtdpddlaedffmdaaVb
namespace Go.Proofs.Ytdpddlaedffmdaa
open Go.RowKit
set_option linter.unusedVariables false
set_option linter.unusedSimpArgs false

/-- Can a fixed number have so many bytes? -/
def isFx (k : Int) : Bool := decide (1 ≤ k) && decide (k ≤ 8)
theorem isFx_bounds {k : Int} (h : isFx k = true) : 1 ≤ k ∧ k ≤ 8 := by
  simp [isFx] at h; exact h
theorem isFixed_val {k : Int} {b : Bool} (h : isFx k = b) (w : World) : Calls Try.prog 77 #[.int .i64 k] w fun e w' => e = .returned (.bool b) ∧ w' = w := by
  subst h
  unfold isFx
  by_cases h1 : 1 ≤ k
  · by_cases h2 : k ≤ 8
    · go_enter Try.func77, Try.ntmps77
      go_wp2
      go_ret
      exact ⟨by simp [h1, h2], rfl⟩
    · have h2' : 8 < k := by omega
      go_enter Try.func77, Try.ntmps77
      go_wp2
      go_ret
      exact ⟨by simp [h1]; omega, rfl⟩
  · have h1' : k < 1 := by omega
    go_enter Try.func77, Try.ntmps77
    go_wp2
    go_ret
    exact ⟨by simp; omega, rfl⟩
/-- What fixedBytes answers. -/
def fxR (n : Nat) (k : Int) : ByteArray × Int := if isFx k = true then (if n < 256 ^ k.toNat then (⟨(be k.toNat n).toArray⟩, 0) else (⟨#[]⟩, 11)) else (⟨#[]⟩, 1)
theorem fixed_no (n : Nat) (k : Int) (h : isFx k = false) (w : World) : Calls Try.prog 63 #[.int .u64 n, .int .i64 k] w fun e w' => e = .returned (.tuple #[.string ⟨#[]⟩, .int .i64 1]) ∧ w' = w := by
  go_enter Try.func63, Try.ntmps63
  go_wp2_with fail
  refine (isFixed_val h _).mono ?_
  rintro e w1 ⟨rfl, rfl⟩
  go_wp2
  go_ret2
  exact ⟨rfl, rfl⟩
theorem pow8 (k : Nat) : (2 : Int) ^ (8 * k) = ((256 ^ k : Nat) : Int) := by
  rw [Int.pow_mul]; simp
theorem shr_zero (n k : Nat) : (n : Int) / 2 ^ (8 * k) = 0 ↔ n < 256 ^ k := by
  rw [pow8, ← Int.natCast_ediv]
  have h := Nat.div_eq_zero_iff_lt (x := n) (Nat.pow_pos (n := k) (by decide : 0 < 256))
  constructor
  · intro e; exact h.1 (by omega)
  · intro e; rw [h.2 e]; rfl
theorem fixed_fit (n k : Nat) (h : isFx (k : Int) = true) (hn : ¬ n < 256 ^ k) (w : World) : Calls Try.prog 63 #[.int .u64 n, .int .i64 k] w fun e w' => e = .returned (.tuple #[.string ⟨#[]⟩, .int .i64 11]) ∧ w' = w := by
  have hb := isFx_bounds h
  have hd : ¬ (n : Int) / 2 ^ (8 * k) = 0 := fun e => hn ((shr_zero n k).1 e)
  clear hn
  go_enter Try.func63, Try.ntmps63
  go_wp2_with fail
  refine (isFixed_val h _).mono ?_
  rintro e w1 ⟨rfl, rfl⟩
  go_wp2
  go_ret2
  exact ⟨rfl, rfl⟩
theorem fixed_byte (n k j : Nat) (h : j < k) : IntKind.u8.wrap ((n : Int) / 2 ^ (8 * (k - 1 - j))) = ((byteN n (k - 1 - j) : Nat) : Int) := by
  rw [IntKind.wrap_u8, pow8, ← Int.natCast_ediv]; unfold byteN; simp
set_option maxHeartbeats 1000000 in
theorem fixed_ok (n k : Nat) (h : isFx (k : Int) = true) (hn : n < 256 ^ k) (w : World) : Calls Try.prog 63 #[.int .u64 n, .int .i64 k] w fun e w' => e = .returned (.tuple #[.string ⟨(be k n).toArray⟩, .int .i64 0]) ∧ Below w.heap.size w w' := by
  obtain ⟨i0, hi, hz0, hz1, hz2⟩ := info_parts info5
  have hb := isFx_bounds h
  have hd : (n : Int) / 2 ^ (8 * k) = 0 := (shr_zero n k).2 hn
  clear hn
  go_enter Try.func63, Try.ntmps63
  go_wp2_with fail
  refine (isFixed_val h _).mono ?_
  rintro e w1 ⟨rfl, rfl⟩
  clear h
  go_wp2_with (at_make; refine wpList_make_full _ rfl _ _ 28 rfl w1.heap.size 5 i0 (.int .u8 0) 1 Try.underlying28 hi hz0 hz1 _ _ _ _ k rfl rfl rfl rfl ?c1 ?c2 ?c3 ?_)
  case c1 => rw [hz2]; omega
  case c2 => unfold maxLen; omega
  case c3 => omega
  intro w2 hown hgrow
  have R2 := Row.made hown
  have B2 : Below w1.heap.size w1 w2 := (Below.refl _ _).grown hgrow (Nat.le_refl _) (fun _ h => by cases h)
  have z2 : w1.heap.size < w2.heap.size := (hown.lt w1.heap.size rfl).2
  clear hown hgrow hd
  go_wp2_with fail
  go_loopw [20] (fun c wr => ∃ (j : Nat) (f : Nat → Nat), j ≤ k ∧ c = .int .i64 j ∧ Row wr w1.heap.size k f ∧ (∀ t, t < j → f t = byteN n (k - 1 - t)) ∧ Below w1.heap.size w1 wr) (fun c _ => k - (intOf c).toNat)
  case atStart => exact ⟨0, fun _ => 0, by omega, rfl, R2, fun t h => by omega, B2⟩
  case round =>
    obtain ⟨j, f, hj, rfl, R, hff, hB⟩ := hrel
    have HFF : Hid (∀ t, t < j → f t = byteN n (k - 1 - t)) := hff
    clear hff R2 B2
    by_cases hlt : j < k
    · have hbt := byteN_lt n (k - 1 - j)
      have W8 := fixed_byte n k j hlt
      obtain ⟨rc, rf⟩ := R j hlt
      obtain ⟨d, hd⟩ : ∃ d, k - 1 - j = d := ⟨_, rfl⟩
      have e1 : (k : Int) - 1 - (j : Int) = (d : Int) := by omega
      rw [hd] at W8 hbt
      generalize hbv : byteN n d = b at *
      have HBV : Hid (byteN n (k - 1 - j) = b) := by show _ = _; rw [hd]; exact hbv
      have hd8 : (d : Int) < 8 := by omega
      clear hbv hd
      go_wp2
      refine ⟨⟨j + 1, _, by omega, rfl, R.set j b hlt, ?_, hB.setCell (Nat.le_refl _) _⟩, by simp only [intOf]; omega⟩
      intro t ht
      by_cases e : t = j
      · simp only [e, if_true]; exact HBV.out.symm
      · simp only [e, if_false]; exact HFF.out t (by omega)
    · have hjk : j = k := by omega
      have hcv : (convert 28 9 (.slice (some ⟨w1.heap.size, 0, none⟩) k k)).run Try.prog wr = .ok (.string ⟨(be k n).toArray⟩) wr := by
        have := run_convert_bytes_back (P := Try.prog) wr 28 9 5 ⟨w1.heap.size, 0, none⟩ k (be k n) Try.underlying28 Try.underlying5 Try.underlying9 (fun t ht => by
          have ht' : t < k := by rw [be_length] at ht; exact ht
          rw [show (⟨w1.heap.size, 0, none⟩ : Addr).add t = ⟨w1.heap.size, t, none⟩ by unfold Addr.add; split <;> simp_all]
          rw [(R t ht').1, HFF.out t (by omega)]
          have e := be_get k n t ht'
          rw [List.getElem?_eq_getElem ht] at e
          rw [Option.some.inj e]
          have := byteN_lt n (k - 1 - t)
          simp [UInt8.toNat_ofNat', Nat.mod_eq_of_lt this])
        rw [be_length] at this
        exact this
      clear hjk HFF R
      go_wp2
      go_ret2
      exact ⟨rfl, hB⟩
theorem fixed_all (n : Nat) (k : Int) (w : World) : Calls Try.prog 63 #[.int .u64 n, .int .i64 k] w fun e w' => e = .returned (.tuple #[.string (fxR n k).1, .int .i64 (fxR n k).2]) ∧ Below w.heap.size w w' := by
  cases h : isFx k
  · rw [show fxR n k = (⟨#[]⟩, 1) by unfold fxR; rw [h]; rfl]
    refine (fixed_no n k h w).mono ?_
    rintro e w' ⟨rfl, rfl⟩
    exact ⟨rfl, Below.refl _ _⟩
  · have hb := isFx_bounds h
    obtain ⟨m, rfl⟩ := Int.eq_ofNat_of_zero_le (show 0 ≤ k by omega)
    by_cases hn : n < 256 ^ m
    · rw [show fxR n (m : Int) = (⟨(be m n).toArray⟩, 0) by unfold fxR; rw [if_pos h, Int.toNat_natCast, if_pos hn]]
      exact fixed_ok n m h hn w
    · rw [show fxR n (m : Int) = (⟨#[]⟩, 11) by unfold fxR; rw [if_pos h, Int.toNat_natCast, if_neg hn]]
      refine (fixed_fit n m h hn w).mono ?_
      rintro e w' ⟨rfl, rfl⟩
      exact ⟨rfl, Below.refl _ _⟩
end Go.Proofs.Ytdpddlaedffmdaa
