/- The law's own answer: a number's bits, as a text. -/
import Derived.Test.YtgdpplipahhffaaRb
import Derived.Test.YtgdpplipahhffaaRg
import Derived.Deep.RegionLaw
namespace Go.Proofs.Ytgdpplipahhffaa
open Go.RowKit
set_option linter.unusedVariables false
set_option linter.unusedSimpArgs false

theorem info5 : (Try.prog.info? 5).map (fun i => (i.zero, i.size, i.bytes)) = some (some (.int .u8 0), 1, 1) := by kernel_rfl
def bytesV (l : List UInt8) : List Value := l.map fun b => Value.int .u8 (b.toNat : Int)
theorem bytesV_snoc (l : List UInt8) (b : UInt8) : bytesV (l ++ [b]) = bytesV l ++ [Value.int .u8 (b.toNat : Int)] := by simp [bytesV]
/-- Bits as letters. -/
def chB (l : List Bool) : List UInt8 := l.map fun b => if b then 49 else 48
theorem chB_snoc (l : List Bool) (b : Bool) : chB (l ++ [b]) = chB l ++ [if b then 49 else 48] := by simp [chB]
def tx (l : List Bool) : ByteArray := ⟨(chB l).toArray⟩
theorem conv_own {w : World} {base : Nat} {v : Value} {l : List UInt8} {n : Nat} (h : w.ownsRow base 5 1 v n (bytesV l)) (h1 : 1 ≤ n) : (convert 101 9 v).run Try.prog w = .ok (.string ⟨l.toArray⟩) w := by
  obtain ⟨hl, h2⟩ := h
  have hl : l.length = n := by simpa [bytesV] using hl
  subst hl
  rcases h2 with ⟨e, h0⟩ | ⟨g, cap, cur, rfl, _, hg, _, _, hsz, ht⟩
  · omega
  · refine run_convert_bytes_back (P := Try.prog) w 101 9 5 ⟨g, 0, none⟩ cap l Try.underlying101 Try.underlying5 Try.underlying9 (fun j hj => ?_)
    rw [show (⟨g, 0, none⟩ : Addr).add j = ⟨g, j, none⟩ by unfold Addr.add; split <;> simp_all]
    rw [cell_of_row w g j _ _ _ hg]
    have : (cur.toList.take (l.length * 1))[j]? = (bytesV l)[j]? := by rw [ht]
    rw [List.getElem?_take, if_pos (by omega)] at this
    rw [show cur[j]? = cur.toList[j]? by simp, this]
    simp [bytesV, hj]
theorem take_bits {W v i : Nat} (h : i < W) : (bitsOf W v).take (W - i) = (bitsOf W v).take (W - 1 - i) ++ [v.testBit i] := by
  have := bits_at (W := W) (n := v) (i := W - 1 - i) (by omega)
  rw [show W - 1 - (W - 1 - i) = i by omega] at this
  have hl : W - 1 - i < (bitsOf W v).length := by rw [bits_len]; omega
  rw [show W - i = (W - 1 - i) + 1 by omega, List.take_add_one, this]; rfl
theorem fits_high {v W j : Nat} (hj : W ≤ j) (h : v.testBit j = true) : fitsN v W = false := by
  unfold fitsN isW
  rw [Bool.eq_false_iff]
  intro e
  simp only [Bool.and_eq_true, decide_eq_true_eq, Int.toNat_natCast] at e
  have := Nat.testBit_lt_two_pow (Nat.lt_of_lt_of_le e.2 (Nat.pow_le_pow_right (by decide) hj))
  rw [h] at this; cases this
theorem fits_all {v W : Nat} (hW : 1 ≤ W) (hW2 : W ≤ 128) (hv : Is128 v) (h : ∀ j, W ≤ j → j < 128 → v.testBit j = false) : fitsN v W = true := by
  unfold fitsN isW
  simp only [Bool.and_eq_true, decide_eq_true_eq, Int.toNat_natCast]
  have hv' : v < 2 ^ 128 := hv
  have := Nat.lt_pow_two_of_testBit v fun j hj => by
    by_cases h2 : j < 128
    · exact h j hj h2
    · exact Nat.testBit_lt_two_pow (Nat.lt_of_lt_of_le hv' (Nat.pow_le_pow_right (by decide) (by omega)))
  first | exact ⟨by omega, this⟩ | exact ⟨⟨by omega, by omega⟩, this⟩
/-- What Bits tells. -/
def bitsT (W v : Nat) : ByteArray := if fitsN v W then tx (bitsOf W v) else ⟨#[]⟩
attribute [local go_sem ↓] append_appd
set_option maxHeartbeats 4000000 in
set_option maxRecDepth 100000 in
theorem rbits_any (v : Nat) (hv : Is128 v) (W : Nat) (hW : 1 ≤ W) (hW2 : W ≤ 128) (w : World) : Calls Try.prog 23 #[B v, .int .i64 W] w fun e w' => e = .returned (.tuple #[.string (bitsT W v), .bool (fitsN v W)]) ∧ Below w.heap.size w w' := by
  have HB : Hid _ := one_new w #[.int .u64 (hiOf v), .int .u64 (loOf v)] 33
  obtain ⟨i0, hi, hz0, hz1, hz2⟩ := info_parts info5
  go_enter Try.func23, Try.ntmps23
  go_upto_region 3 with fail
  generalize (w.alloc _) = w0 at HB ⊢
  have lA := HB.out.2.2
  go_loopw [6, 7] (fun a b wr => ∃ k : Nat, k ≤ 128 ∧ b = .int .i64 (127 - (k : Int)) ∧ wr.ownsRow w0.heap.size 5 1 a (W + k - 128) (bytesV (chB ((bitsOf W v).take (W + k - 128)))) ∧ (∀ j, W ≤ j → 128 ≤ j + k → j < 128 → v.testBit j = false) ∧ Below w0.heap.size w0 wr) (fun a b wr => (intOf b + 1).toNat)
  case atStart =>
    refine ⟨0, by omega, by go_num, ?_, fun j h1 h2 => by omega, Below.refl _ _⟩
    rw [show W + 0 - 128 = 0 by omega]
    exact World.ownsRow_nil _ _ _ _
  case round =>
    obtain ⟨k, hk, rfl, ho, hz, hb⟩ := hrel
    have HR : Hid (wr.ownsRow w0.heap.size 5 1 u6 (W + k - 128) (bytesV (chB ((bitsOf W v).take (W + k - 128)))) ∧ (∀ j, W ≤ j → 128 ≤ j + k → j < 128 → v.testBit j = false) ∧ Below w0.heap.size w0 wr) := ⟨ho, hz, hb⟩
    clear ho hz hb
    by_cases hk2 : k < 128
    · have C : Hid (∀ w1, Calls Try.prog 54 #[B v, .int .i64 (127 - (k : Int))] w1 fun e w' => e = .returned (.bool (v.testBit (127 - k))) ∧ Below w1.heap.size w1 w') := fun w1 => by
        have := rbit_any v hv (127 - k) (by omega) w1
        rwa [show (((127 - k : Nat)) : Int) = 127 - (k : Int) by omega] at this
      have hxb := HB.out.1.below HR.out.2.2
      have x0 := hxb.cell 0 (v := .int .u64 (hiOf v)) rfl
      have x1 := hxb.cell 1 (v := .int .u64 (loOf v)) rfl
      have c1 : (0 : Int) ≤ 127 - (k : Int) := by omega
      clear hxb
      go_wp2_with fail
      refine (C.out _).mono ?_
      rintro e w4 ⟨rfl, h4⟩
      have HR4 : Hid (w4.ownsRow w0.heap.size 5 1 u6 (W + k - 128) (bytesV (chB ((bitsOf W v).take (W + k - 128)))) ∧ (∀ j, W ≤ j → 128 ≤ j + k → j < 128 → v.testBit j = false) ∧ Below w0.heap.size w0 w4) := ⟨ownsRow_kept HR.out.1 (Kept.of_below (S := fun _ => False) h4) (fun k _ e => e), HR.out.2.1, bst HR.out.2.2 h4⟩
      obtain ⟨bb, hbb⟩ : ∃ bb, v.testBit (127 - k) = bb := ⟨_, rfl⟩
      have HBB : Hid (v.testBit (127 - k) = bb) := hbb
      rw [hbb]
      clear hbb h4 HR C x0 x1
      by_cases hi2 : (W : Int) ≤ 127 - (k : Int)
      · cases bb
        · have HE : Hid (∀ j, W ≤ j → 128 ≤ j + (k + 1) → j < 128 → v.testBit j = false) := fun j a b c => by
            by_cases e : 128 ≤ j + k
            · exact HR4.out.2.1 j a e c
            · rw [show j = 127 - k by omega]; exact HBB.out
          have hn : ¬ (127 - (k : Int)) < W := by omega
          go_wp2_with fail
          go_roundw
          case rel =>
            have e : W + (k + 1) - 128 = W + k - 128 := by omega
            exact ⟨k + 1, by omega, by go_num, by rw [e]; exact HR4.out.1, HE.out, HR4.out.2.2⟩
          case measure => simp [intOf]; omega
        · have HF : Hid (fitsN v W = false) := fits_high (j := 127 - k) (by omega) HBB.out
          have HL : Hid (Below w.heap.size w w4) := HB.out.2.1.trans (HR4.out.2.2.mono HB.out.2.1.size)
          clear HR4 HBB HB
          go_wp2_with fail
          go_ret2
          exact ⟨by unfold bitsT; rw [HF.out]; rfl, HL.out⟩
      · have hn : (127 - (k : Int)) < W := by omega
        have HX : Hid (Blk (w4.alloc (.cells #[.int .u8 ((if bb then 49 else 48 : UInt8).toNat : Int)] 5)) w4.heap.size #[.int .u8 ((if bb then 49 else 48 : UInt8).toNat : Int)] 5 ∧ Below w4.heap.size w4 (w4.alloc (.cells #[.int .u8 ((if bb then 49 else 48 : UInt8).toNat : Int)] 5))) := ⟨Blk.new _ _ 5, (Below.refl _ _).alloc (Nat.le_refl _) _⟩
        obtain ⟨s', W2, hr, ho2, hg2, _⟩ := run_append_own (P := Try.prog) (w := w4.alloc (.cells #[.int .u8 ((if bb then 49 else 48 : UInt8).toNat : Int)] 5)) w0.heap.size 101 101 5 i0 _ 1 1 Try.underlying101 hi hz0 hz1 hz2 rfl (by decide) u6 _ _
          (ownsRow_kept HR4.out.1 (Kept.of_below (S := fun _ => False) HX.out.2) (fun k _ e => e)) ⟨w4.heap.size, 0, none⟩ 1 1 [.int .u8 ((if bb then 49 else 48 : UInt8).toNat : Int)] rfl (fun j u hu => by
            rw [Addr.add_mid, Nat.zero_add]
            rw [← List.getElem?_toArray] at hu
            exact HX.out.1.cell j hu) (fun u hu => by
            simp only [List.mem_cons, List.not_mem_nil, or_false] at hu
            rw [hu]; rfl) (by unfold maxLen; omega) (by omega) (Nat.le_trans HR4.out.2.2.size HX.out.2.size)
        have HG : Hid (W2.ownsRow w0.heap.size 5 1 s' (W + (k + 1) - 128) (bytesV (chB ((bitsOf W v).take (W + (k + 1) - 128)))) ∧ (∀ j, W ≤ j → 128 ≤ j + (k + 1) → j < 128 → v.testBit j = false) ∧ Below w0.heap.size w0 W2) := by
          refine ⟨?_, fun j a b c => ?_, ?_⟩
          · have e1 := take_bits (W := W) (v := v) (i := 127 - k) (by omega)
            rw [HBB.out] at e1
            rw [show W + (k + 1) - 128 = W - (127 - k) by omega, e1, chB_snoc, bytesV_snoc]
            rw [show W + k - 128 = W - 1 - (127 - k) by omega] at ho2
            rw [show W - (127 - k) = W - 1 - (127 - k) + 1 by omega]
            exact ho2
          · exact HR4.out.2.1 j a (by omega) c
          · have hb := bst HR4.out.2.2 HX.out.2
            exact ⟨hg2.os.trans hb.os, hg2.tape.trans hb.tape, hg2.output.trans hb.output, Nat.le_trans hb.size hg2.size, fun j hj => (hg2.block j (Nat.lt_of_lt_of_le hj hb.size) (fun e => by
              have := (HR4.out.1.lt j e.symm).1
              omega)).trans (hb.block j hj)⟩
        clear ho2 hg2 HX HR4 HBB
        cases bb
        all_goals (
          first
            | have hr' : (appd #[101, 101] 101 #[u6, .slice (some ⟨w4.heap.size, 0, none⟩) 1 1]).run Try.prog (w4.alloc (.cells #[.int .u8 48] 5)) = .ok s' W2 := hr
            | have hr' : (appd #[101, 101] 101 #[u6, .slice (some ⟨w4.heap.size, 0, none⟩) 1 1]).run Try.prog (w4.alloc (.cells #[.int .u8 49] 5)) = .ok s' W2 := hr
          clear hr
          go_wp2_with fail
          go_roundw
          case rel => exact ⟨k + 1, by omega, by go_num, HG.out⟩
          case measure => simp [intOf]; omega)
    · obtain rfl : k = 128 := by omega
      have HF : Hid (fitsN v W = true) := fits_all hW hW2 hv fun j a b => HR.out.2.1 j a (by omega) b
      have hc := conv_own HR.out.1 (by omega)
      have e : (bitsOf W v).take (W + 128 - 128) = bitsOf W v := List.take_of_length_le (by rw [bits_len]; omega)
      rw [e] at hc
      have HL : Hid (Below w.heap.size w wr) := HB.out.2.1.trans (HR.out.2.2.mono HB.out.2.1.size)
      clear HR HB
      go_wp2_with fail
      go_ret2
      exact ⟨by unfold bitsT; rw [HF.out]; rfl, HL.out⟩
end Go.Proofs.Ytgdpplipahhffaa
