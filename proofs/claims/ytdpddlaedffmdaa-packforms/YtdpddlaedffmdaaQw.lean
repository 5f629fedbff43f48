/- The head of each statement of this layer: it answers true; older memory is as it was. -/
import Derived.Test.YtdpddlaedffmdaaQn
namespace Go.Proofs.Ytdpddlaedffmdaa
open Go.RowKit
set_option linter.unusedVariables false
set_option linter.unusedSimpArgs false

theorem numR_zero (l : List UInt8) (most : Nat) : (numR l most).2.2 ≠ 0 → numR l most = (0, 0, (numR l most).2.2) := by
  unfold numR
  split
  · simp
  · split
    · rename_i h1 h2; intro h; exact absurd (by simpa using h1) h
    · simp
/-- Reader.Uint. -/
theorem ruint_any {w : World} {b : Nat} {s : ByteArray} {a : Nat} (h : Rd w b s a 0) (hs : s.size ≤ 140737488351232) (most : Nat) :
    Calls Try.prog 21 #[.pointer (some ⟨b, 0, none⟩), .int .u64 most] w fun e w' => e = .returned (.int .u64 (numR (s.data.toList.drop a) most).1) ∧ Rd w' b s (a + (numR (s.data.toList.drop a) most).2.1) (numR (s.data.toList.drop a) most).2.2 ∧ Kept (fun k => k = b) w w' := by
  have hmf := mk_func
  have hb1 : Below w.heap.size w (w.alloc (.cells #[.int .u64 (most : Int)] 32)) := (Below.refl _ _).alloc (Nat.le_refl _) _
  have hz := numR_zero (s.data.toList.drop a) most
  have c0 : (w.alloc (.cells #[.int .u64 (most : Int)] 32)).cell? ⟨w.heap.size, 0, none⟩ = some (.int .u64 most) := by simp
  have hsz : (w.alloc (.cells #[.int .u64 (most : Int)] 32)).heap.size = w.heap.size + 1 := by simp
  have C : Hid (Calls Try.prog 48 #[.pointer (some ⟨b, 0, none⟩), .func (.func 49) #[] #[.pointer (some ⟨w.heap.size, 0, none⟩)]] (w.alloc (.cells #[.int .u64 (most : Int)] 32)) fun e w' => e = .returned (.int .u64 (numR (s.data.toList.drop a) most).1) ∧ Rd w' b s (a + (numR (s.data.toList.drop a) most).2.1) (numR (s.data.toList.drop a) most).2.2 ∧ Kept (fun k => k = b) (w.alloc (.cells #[.int .u64 (most : Int)] 32)) w') := by
    refine read49 (h.below hb1) _ _ _ _ (fun hf => ?_) (fun w1 hB hP => ?_)
    · rw [hz hf]; exact ⟨rfl, rfl⟩
    · exact close49 hP hs most w.heap.size (by rw [hB.cell (p := ⟨w.heap.size, 0, none⟩) (by rw [hsz]; simp)]; exact c0)
  generalize numR (s.data.toList.drop a) most = R at *
  clear h hz c0
  go_enter Try.func21, Try.ntmps21
  go_wp2_with fail
  refine C.out.mono ?_
  rintro e w1 ⟨rfl, hR, hk⟩
  go_wp2
  go_ret
  exact ⟨rfl, hR, (Kept.of_below hb1).trans hk⟩
theorem vb300 : vb 300 = [172, 2] := by rw [vb_more (by decide), vb_end (by decide)]; rfl
theorem vb2 : vb 2 = [2] := by rw [vb_end (by decide)]; rfl
section
variable {B b : Nat} {v : Value} {w : World}
theorem aw1 (h : Wr B w b v [] 0) (hB : B ≤ w.heap.size) : Calls Try.prog 26 #[.pointer (some ⟨b, 0, none⟩), .int .u64 300] w fun e w' => e = .returned (.tuple #[]) ∧ Left B b v w [172, 2] 0 w' := by
  have := uint_any h 300 (by decide) (by decide) hB
  rw [vb300] at this
  exact this
theorem aw2 (h : Wr B w b v [172, 2] 0) (hB : B ≤ w.heap.size) : Calls Try.prog 27 #[.pointer (some ⟨b, 0, none⟩), .int .u64 258, .int .i64 2] w fun e w' => e = .returned (.tuple #[]) ∧ Left B b v w [172, 2, 1, 2] 0 w' := by
  have := wfixed_any h 258 2 (by decide) hB
  rw [show fxR 258 2 = (⟨#[1, 2]⟩, 0) from rfl] at this
  exact this
theorem aw3 (h : Wr B w b v [172, 2, 1, 2] 0) (hB : B ≤ w.heap.size) : Calls Try.prog 28 #[.pointer (some ⟨b, 0, none⟩), .string ⟨#[97, 98]⟩] w fun e w' => e = .returned (.tuple #[]) ∧ Left B b v w [172, 2, 1, 2, 2, 97, 98] 0 w' := by
  have := text_any h ⟨#[97, 98]⟩ (by decide) hB
  rw [show textR [172, 2, 1, 2] 0 ⟨#[97, 98]⟩ = ([172, 2, 1, 2, 2, 97, 98], 0) by unfold textR; rw [show (⟨#[97, 98]⟩ : ByteArray).size = 2 from rfl, vb2]; rfl] at this
  exact this
theorem aw4 (h : Wr B w b v [172, 2, 1, 2, 2, 97, 98] 0) (hB : B ≤ w.heap.size) : Calls Try.prog 29 #[.pointer (some ⟨b, 0, none⟩), .agg #[.int .u64 0, .int .u64 258], .int .i64 12] w fun e w' => e = .returned (.tuple #[]) ∧ Left B b v w [172, 2, 1, 2, 2, 97, 98, 1, 2] 0 w' := by
  have := wbits_any h 258 (by unfold Is128; decide) 12 (by decide) hB
  rw [show byR 258 12 = (⟨#[1, 2]⟩, 0) by decide +kernel] at this
  exact this
theorem aw5 (h : Wr B w b v [172, 2, 1, 2, 2, 97, 98, 1, 2] 0) : Calls Try.prog 15 #[.pointer (some ⟨b, 0, none⟩)] w fun e w' => e = .returned (.tuple #[.string ⟨#[172, 2, 1, 2, 2, 97, 98, 1, 2]⟩, .int .i64 0]) ∧ Below w.heap.size w w' := by
  refine (out_any h).mono ?_
  rintro e w' ⟨rfl, n, rfl⟩
  exact ⟨rfl, below_drewN (Below.refl _ _) _⟩
end
theorem aw6 {b : Nat} {w : World} (h : Rd w b ⟨#[172, 2, 7]⟩ 0 0) : Calls Try.prog 21 #[.pointer (some ⟨b, 0, none⟩), .int .u64 300] w fun e w' => e = .returned (.int .u64 300) ∧ Rd w' b ⟨#[172, 2, 7]⟩ 2 0 ∧ Kept (fun k => k = b) w w' := by
  have := ruint_any h (by decide) 300
  rw [show numR ((⟨#[172, 2, 7]⟩ : ByteArray).data.toList.drop 0) 300 = (300, 2, 0) by decide +kernel] at this
  exact this
theorem aw7 {b : Nat} {w : World} (h : Rd w b ⟨#[172, 2, 7]⟩ 2 0) : Calls Try.prog 20 #[.pointer (some ⟨b, 0, none⟩)] w fun e w' => e = .returned (.int .i64 31) ∧ Below w.heap.size w w' := by
  refine (end_any h (by decide)).mono ?_
  rintro e w' ⟨rfl, n, rfl⟩
  exact ⟨rfl, below_drewN (Below.refl _ _) _⟩
set_option maxHeartbeats 1000000 in
set_option maxRecDepth 100000 in
theorem awake_any (w : World) : Calls Try.prog 8 #[] w fun e w' => e = .returned (.bool true) ∧ Below w.heap.size w w' := by
  go_enter Try.func8, Try.ntmps8
  go_wp2_with fail
  refine (new_any w).mono ?_
  rintro e w1 ⟨rfl, rfl⟩
  have W1 := Wr.new (B := w.heap.size) (w := w) (Nat.le_refl _) 71
  have B1 : Below w.heap.size w (w.alloc (.cells #[.slice none 0 0, .int .i64 0] 71)) := (Below.refl _ _).alloc (Nat.le_refl _) _
  generalize w.alloc (.cells #[.slice none 0 0, .int .i64 0] 71) = w1 at *
  have HB1 : Hid (Below w.heap.size w w1) := B1
  have HW1 : Hid (Wr w.heap.size w1 w.heap.size (.slice none 0 0) [] 0) := W1
  clear B1 W1
  go_wp2_with fail
  refine (aw1 HW1.out HB1.out.size).mono ?_
  rintro e w2 ⟨rfl, hL⟩
  have HB2 : Hid (Below w.heap.size w w2) := HB1.out.trans (hL.below HW1.out HB1.out.size)
  obtain ⟨v2, W2, -, -⟩ := hL
  have HW2 : Hid (Wr w.heap.size w2 w.heap.size v2 [172, 2] 0) := W2
  clear W2 HB1 HW1
  go_wp2_with fail
  refine (aw2 HW2.out HB2.out.size).mono ?_
  rintro e w3 ⟨rfl, hL⟩
  have HB3 : Hid (Below w.heap.size w w3) := HB2.out.trans (hL.below HW2.out HB2.out.size)
  obtain ⟨v3, W3, -, -⟩ := hL
  have HW3 : Hid (Wr w.heap.size w3 w.heap.size v3 [172, 2, 1, 2] 0) := W3
  clear W3 HB2 HW2
  go_wp2_with fail
  refine (aw3 HW3.out HB3.out.size).mono ?_
  rintro e w4 ⟨rfl, hL⟩
  have HB4 : Hid (Below w.heap.size w w4) := HB3.out.trans (hL.below HW3.out HB3.out.size)
  obtain ⟨v4, W4, -, -⟩ := hL
  have HW4 : Hid (Wr w.heap.size w4 w.heap.size v4 [172, 2, 1, 2, 2, 97, 98] 0) := W4
  clear W4 HB3 HW3
  go_wp2_with fail
  refine (aw4 HW4.out HB4.out.size).mono ?_
  rintro e w5 ⟨rfl, hL⟩
  have HB5 : Hid (Below w.heap.size w w5) := HB4.out.trans (hL.below HW4.out HB4.out.size)
  obtain ⟨v5, W5, -, -⟩ := hL
  have HW5 : Hid (Wr w.heap.size w5 w.heap.size v5 [172, 2, 1, 2, 2, 97, 98, 1, 2] 0) := W5
  clear W5 HB4 HW4
  go_wp2_with fail
  refine (aw5 HW5.out).mono ?_
  rintro e w6 ⟨rfl, hb6⟩
  have HB6 : Hid (Below w.heap.size w w6) := bstep HB5.out hb6
  clear HB5 HW5 hb6
  go_wp2_with fail
  refine (open_any ⟨#[172, 2, 7]⟩ _).mono ?_
  rintro e w7 ⟨rfl, rfl⟩
  have HR7 : Hid (Rd (w6.alloc (.cells #[.string ⟨#[172, 2, 7]⟩, .int .i64 0, .int .i64 0] 75)) w6.heap.size ⟨#[172, 2, 7]⟩ 0 0) := Rd.new _ w6 75
  have HB7 : Hid (Below w.heap.size w (w6.alloc (.cells #[.string ⟨#[172, 2, 7]⟩, .int .i64 0, .int .i64 0] 75))) := HB6.out.alloc HB6.out.size _
  have hz : w.heap.size ≤ w6.heap.size := HB6.out.size
  generalize w6.alloc (.cells #[.string ⟨#[172, 2, 7]⟩, .int .i64 0, .int .i64 0] 75) = w7 at *
  clear HB6
  go_wp2_with fail
  refine (aw6 HR7.out).mono ?_
  rintro e w8 ⟨rfl, hR8, hk8⟩
  have HB8 : Hid (Below w.heap.size w w8) := HB7.out.trans (hk8.below HB7.out.size (fun k hk => by omega))
  have HR8 : Hid (Rd w8 w6.heap.size ⟨#[172, 2, 7]⟩ 2 0) := hR8
  clear hk8 hR8 HB7 HR7
  go_wp2_with fail
  refine (aw7 HR8.out).mono ?_
  rintro e w9 ⟨rfl, hb9⟩
  have hB9 := bstep HB8.out hb9
  clear HB8 HR8 hb9
  go_wp2
  go_ret
  exact ⟨rfl, hB9⟩
end Go.Proofs.Ytdpddlaedffmdaa
