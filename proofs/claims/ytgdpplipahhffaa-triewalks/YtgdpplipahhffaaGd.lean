/- The law's own answer: a bit of a number. The law's own answer: a number's bits, as a text. The law's own answer: a prefix, as a text. -/
import Derived.Test.YtgdpplipahhffaaAo
import Derived.Test.YtgdpplipahhffaaGo
import Derived.Deep.RegionLaw
namespace Go.Proofs.Ytgdpplipahhffaa
open Go.RowKit
set_option linter.unusedVariables false
set_option linter.unusedSimpArgs false

theorem test_div (n k : Nat) : n.testBit k = decide (n / 2 ^ k % 2 = 1) := by
  rw [Nat.testBit_eq_decide_div_mod_eq]
theorem test_lo (v : Nat) {i : Nat} (h : i < 64) : (v % 18446744073709551616).testBit i = v.testBit i := by
  rw [show (18446744073709551616 : Nat) = 2 ^ 64 from rfl, Nat.testBit_mod_two_pow, decide_eq_true h, Bool.true_and]
theorem test_hi (v : Nat) {i : Nat} (h : 64 ≤ i) : (v / 18446744073709551616).testBit (i - 64) = v.testBit i := by
  rw [show (18446744073709551616 : Nat) = 2 ^ 64 from rfl, Nat.testBit_div_two_pow, show i - 64 + 64 = i by omega]
set_option maxHeartbeats 2000000 in
theorem rbit_any (v : Nat) (hv : Is128 v) (i : Nat) (hi : i < 128) (w : World) : Calls Try.prog 54 #[B v, .int .i64 i] w fun e w' => e = .returned (.bool (v.testBit i)) ∧ Below w.heap.size w w' := by
  have HB : Hid _ := one_new w #[.int .u64 (hiOf v), .int .u64 (loOf v)] 33
  go_enter Try.func54, Try.ntmps54
  go_upto_region 1 with fail
  generalize (w.alloc _) = w0 at HB ⊢
  have x0 := HB.out.1.cell 0 (v := .int .u64 (hiOf v)) rfl
  have x1 := HB.out.1.cell 1 (v := .int .u64 (loOf v)) rfl
  have HF : Hid (Below w.heap.size w w0) := HB.out.2.1
  clear HB
  by_cases h : 63 < i
  all_goals (
    have h9 : (63 < (i : Int)) ↔ 63 < i := by omega
    go_upto_region 5 with fail
    clear x0 x1
    go_loopw [5, 1] (fun a b wr => ∃ y k : Nat, a = .int .u64 y ∧ b = .int .i64 k ∧ y.testBit k = v.testBit i ∧ y < 18446744073709551616 ∧ k < 64 ∧ wr = w0) (fun a b wr => (intOf b).toNat)
    case atStart =>
      have hv' := hv
      unfold Is128 at hv'
      first
        | exact ⟨v / 18446744073709551616, i - 64, rfl, by go_num, test_hi v (by omega), by omega, by omega, rfl⟩
        | exact ⟨v % 18446744073709551616, i, rfl, rfl, test_lo v (by omega), by omega, by omega, rfl⟩
    case round =>
      obtain ⟨y, k, rfl, rfl, ht, hy, hk, rfl⟩ := hrel
      rcases Nat.eq_zero_or_pos k with rfl | hp
      · have e3 : ((y : Int) % 2 == 1) = v.testBit i := by
          rw [← ht, test_div, Bool.eq_iff_iff]
          simp only [Nat.pow_zero, Nat.div_one, beq_iff_eq, decide_eq_true_eq]
          omega
        go_wp2
        go_ret
        exact ⟨rfl, HF.out⟩
      · have e2 : (IntKind.u64.wrap ((y : Int).tdiv 2)) = ((y / 2 : Nat) : Int) := by
          rw [Int.tdiv_eq_ediv_of_nonneg (by omega), IntKind.wrap_u64]; omega
        have hp' : (0 : Int) < k := by omega
        have ht2 : (y / 2).testBit (k - 1) = v.testBit i := by
          rw [← ht, ← Nat.testBit_succ, Nat.succ_eq_add_one, show k - 1 + 1 = k by omega]
        go_wp2
        go_roundw
        case rel => exact ⟨y / 2, k - 1, by first | rw [e2] | rfl | go_num, by go_num, ht2, by omega, by omega, trivial⟩
        case measure => simp [intOf]; omega)
end Go.Proofs.Ytgdpplipahhffaa
namespace Go.Proofs.Ytgdpplipahhffaa
open Go.RowKit
set_option linter.unusedVariables false
set_option linter.unusedSimpArgs false

theorem info5 : (Try.prog.info? 5).map (fun i => (i.zero, i.size, i.bytes)) = some (some (.int .u8 0), 1, 1) := by kernel_rfl
def bytesV (l : List UInt8) : List Value := l.map fun b => Value.int .u8 (b.toNat : Int)
theorem bytesV_snoc (l : List UInt8) (b : UInt8) : bytesV (l ++ [b]) = bytesV l ++ [Value.int .u8 (b.toNat : Int)] := by simp [bytesV]
/-- Bits as letters. -/
def chB (l : List Bool) : List UInt8 := l.map fun b => if b then 49 else 48
theorem chB_snoc (l : List Bool) (b : Bool) : chB (l ++ [b]) = chB l ++ [if b then 49 else 48] := by simp [chB]
def tx (l : List Bool) : ByteArray := ⟨(chB l).toArray⟩
theorem conv_own {w : World} {base : Nat} {v : Value} {l : List UInt8} {n : Nat} (h : w.ownsRow base 5 1 v n (bytesV l)) (h1 : 1 ≤ n) : (convert 101 9 v).run Try.prog w = .ok (.string ⟨l.toArray⟩) w := by
  obtain ⟨hl, h2⟩ := h
  have hl : l.length = n := by simpa [bytesV] using hl
  subst hl
  rcases h2 with ⟨e, h0⟩ | ⟨g, cap, cur, rfl, _, hg, _, _, hsz, ht⟩
  · omega
  · refine run_convert_bytes_back (P := Try.prog) w 101 9 5 ⟨g, 0, none⟩ cap l Try.underlying101 Try.underlying5 Try.underlying9 (fun j hj => ?_)
    rw [show (⟨g, 0, none⟩ : Addr).add j = ⟨g, j, none⟩ by unfold Addr.add; split <;> simp_all]
    rw [cell_of_row w g j _ _ _ hg]
    have : (cur.toList.take (l.length * 1))[j]? = (bytesV l)[j]? := by rw [ht]
    rw [List.getElem?_take, if_pos (by omega)] at this
    rw [show cur[j]? = cur.toList[j]? by simp, this]
    simp [bytesV, hj]
theorem take_bits {W v i : Nat} (h : i < W) : (bitsOf W v).take (W - i) = (bitsOf W v).take (W - 1 - i) ++ [v.testBit i] := by
  have := bits_at (W := W) (n := v) (i := W - 1 - i) (by omega)
  rw [show W - 1 - (W - 1 - i) = i by omega] at this
  have hl : W - 1 - i < (bitsOf W v).length := by rw [bits_len]; omega
  rw [show W - i = (W - 1 - i) + 1 by omega, List.take_add_one, this]; rfl
theorem fits_high {v W j : Nat} (hj : W ≤ j) (h : v.testBit j = true) : fitsN v W = false := by
  unfold fitsN isW
  rw [Bool.eq_false_iff]
  intro e
  simp only [Bool.and_eq_true, decide_eq_true_eq, Int.toNat_natCast] at e
  have := Nat.testBit_lt_two_pow (Nat.lt_of_lt_of_le e.2 (Nat.pow_le_pow_right (by decide) hj))
  rw [h] at this; cases this
theorem fits_all {v W : Nat} (hW : 1 ≤ W) (hW2 : W ≤ 128) (hv : Is128 v) (h : ∀ j, W ≤ j → j < 128 → v.testBit j = false) : fitsN v W = true := by
  unfold fitsN isW
  simp only [Bool.and_eq_true, decide_eq_true_eq, Int.toNat_natCast]
  have hv' : v < 2 ^ 128 := hv
  have := Nat.lt_pow_two_of_testBit v fun j hj => by
    by_cases h2 : j < 128
    · exact h j hj h2
    · exact Nat.testBit_lt_two_pow (Nat.lt_of_lt_of_le hv' (Nat.pow_le_pow_right (by decide) (by omega)))
  first | exact ⟨by omega, this⟩ | exact ⟨⟨by omega, by omega⟩, this⟩
/-- What Bits tells. -/
def bitsT (W v : Nat) : ByteArray := if fitsN v W then tx (bitsOf W v) else ⟨#[]⟩
attribute [local go_sem ↓] append_appd
set_option maxHeartbeats 4000000 in
set_option maxRecDepth 100000 in
theorem rbits_any (v : Nat) (hv : Is128 v) (W : Nat) (hW : 1 ≤ W) (hW2 : W ≤ 128) (w : World) : Calls Try.prog 23 #[B v, .int .i64 W] w fun e w' => e = .returned (.tuple #[.string (bitsT W v), .bool (fitsN v W)]) ∧ Below w.heap.size w w' := by
  have HB : Hid _ := one_new w #[.int .u64 (hiOf v), .int .u64 (loOf v)] 33
  obtain ⟨i0, hi, hz0, hz1, hz2⟩ := info_parts info5
  go_enter Try.func23, Try.ntmps23
  go_upto_region 3 with fail
  generalize (w.alloc _) = w0 at HB ⊢
  have lA := HB.out.2.2
  go_loopw [6, 7] (fun a b wr => ∃ k : Nat, k ≤ 128 ∧ b = .int .i64 (127 - (k : Int)) ∧ wr.ownsRow w0.heap.size 5 1 a (W + k - 128) (bytesV (chB ((bitsOf W v).take (W + k - 128)))) ∧ (∀ j, W ≤ j → 128 ≤ j + k → j < 128 → v.testBit j = false) ∧ Below w0.heap.size w0 wr) (fun a b wr => (intOf b + 1).toNat)
  case atStart =>
    refine ⟨0, by omega, by go_num, ?_, fun j h1 h2 => by omega, Below.refl _ _⟩
    rw [show W + 0 - 128 = 0 by omega]
    exact World.ownsRow_nil _ _ _ _
  case round =>
    obtain ⟨k, hk, rfl, ho, hz, hb⟩ := hrel
    have HR : Hid (wr.ownsRow w0.heap.size 5 1 u6 (W + k - 128) (bytesV (chB ((bitsOf W v).take (W + k - 128)))) ∧ (∀ j, W ≤ j → 128 ≤ j + k → j < 128 → v.testBit j = false) ∧ Below w0.heap.size w0 wr) := ⟨ho, hz, hb⟩
    clear ho hz hb
    by_cases hk2 : k < 128
    · have C : Hid (∀ w1, Calls Try.prog 54 #[B v, .int .i64 (127 - (k : Int))] w1 fun e w' => e = .returned (.bool (v.testBit (127 - k))) ∧ Below w1.heap.size w1 w') := fun w1 => by
        have := rbit_any v hv (127 - k) (by omega) w1
        rwa [show (((127 - k : Nat)) : Int) = 127 - (k : Int) by omega] at this
      have hxb := HB.out.1.below HR.out.2.2
      have x0 := hxb.cell 0 (v := .int .u64 (hiOf v)) rfl
      have x1 := hxb.cell 1 (v := .int .u64 (loOf v)) rfl
      have c1 : (0 : Int) ≤ 127 - (k : Int) := by omega
      clear hxb
      go_wp2_with fail
      refine (C.out _).mono ?_
      rintro e w4 ⟨rfl, h4⟩
      have HR4 : Hid (w4.ownsRow w0.heap.size 5 1 u6 (W + k - 128) (bytesV (chB ((bitsOf W v).take (W + k - 128)))) ∧ (∀ j, W ≤ j → 128 ≤ j + k → j < 128 → v.testBit j = false) ∧ Below w0.heap.size w0 w4) := ⟨ownsRow_kept HR.out.1 (Kept.of_below (S := fun _ => False) h4) (fun k _ e => e), HR.out.2.1, bst HR.out.2.2 h4⟩
      obtain ⟨bb, hbb⟩ : ∃ bb, v.testBit (127 - k) = bb := ⟨_, rfl⟩
      have HBB : Hid (v.testBit (127 - k) = bb) := hbb
      rw [hbb]
      clear hbb h4 HR C x0 x1
      by_cases hi2 : (W : Int) ≤ 127 - (k : Int)
      · cases bb
        · have HE : Hid (∀ j, W ≤ j → 128 ≤ j + (k + 1) → j < 128 → v.testBit j = false) := fun j a b c => by
            by_cases e : 128 ≤ j + k
            · exact HR4.out.2.1 j a e c
            · rw [show j = 127 - k by omega]; exact HBB.out
          have hn : ¬ (127 - (k : Int)) < W := by omega
          go_wp2_with fail
          go_roundw
          case rel =>
            have e : W + (k + 1) - 128 = W + k - 128 := by omega
            exact ⟨k + 1, by omega, by go_num, by rw [e]; exact HR4.out.1, HE.out, HR4.out.2.2⟩
          case measure => simp [intOf]; omega
        · have HF : Hid (fitsN v W = false) := fits_high (j := 127 - k) (by omega) HBB.out
          have HL : Hid (Below w.heap.size w w4) := HB.out.2.1.trans (HR4.out.2.2.mono HB.out.2.1.size)
          clear HR4 HBB HB
          go_wp2_with fail
          go_ret2
          exact ⟨by unfold bitsT; rw [HF.out]; rfl, HL.out⟩
      · have hn : (127 - (k : Int)) < W := by omega
        have HX : Hid (Blk (w4.alloc (.cells #[.int .u8 ((if bb then 49 else 48 : UInt8).toNat : Int)] 5)) w4.heap.size #[.int .u8 ((if bb then 49 else 48 : UInt8).toNat : Int)] 5 ∧ Below w4.heap.size w4 (w4.alloc (.cells #[.int .u8 ((if bb then 49 else 48 : UInt8).toNat : Int)] 5))) := ⟨Blk.new _ _ 5, (Below.refl _ _).alloc (Nat.le_refl _) _⟩
        obtain ⟨s', W2, hr, ho2, hg2, _⟩ := run_append_own (P := Try.prog) (w := w4.alloc (.cells #[.int .u8 ((if bb then 49 else 48 : UInt8).toNat : Int)] 5)) w0.heap.size 101 101 5 i0 _ 1 1 Try.underlying101 hi hz0 hz1 hz2 rfl (by decide) u6 _ _
          (ownsRow_kept HR4.out.1 (Kept.of_below (S := fun _ => False) HX.out.2) (fun k _ e => e)) ⟨w4.heap.size, 0, none⟩ 1 1 [.int .u8 ((if bb then 49 else 48 : UInt8).toNat : Int)] rfl (fun j u hu => by
            rw [Addr.add_mid, Nat.zero_add]
            rw [← List.getElem?_toArray] at hu
            exact HX.out.1.cell j hu) (fun u hu => by
            simp only [List.mem_cons, List.not_mem_nil, or_false] at hu
            rw [hu]; rfl) (by unfold maxLen; omega) (by omega) (Nat.le_trans HR4.out.2.2.size HX.out.2.size)
        have HG : Hid (W2.ownsRow w0.heap.size 5 1 s' (W + (k + 1) - 128) (bytesV (chB ((bitsOf W v).take (W + (k + 1) - 128)))) ∧ (∀ j, W ≤ j → 128 ≤ j + (k + 1) → j < 128 → v.testBit j = false) ∧ Below w0.heap.size w0 W2) := by
          refine ⟨?_, fun j a b c => ?_, ?_⟩
          · have e1 := take_bits (W := W) (v := v) (i := 127 - k) (by omega)
            rw [HBB.out] at e1
            rw [show W + (k + 1) - 128 = W - (127 - k) by omega, e1, chB_snoc, bytesV_snoc]
            rw [show W + k - 128 = W - 1 - (127 - k) by omega] at ho2
            rw [show W - (127 - k) = W - 1 - (127 - k) + 1 by omega]
            exact ho2
          · exact HR4.out.2.1 j a (by omega) c
          · have hb := bst HR4.out.2.2 HX.out.2
            exact ⟨hg2.os.trans hb.os, hg2.tape.trans hb.tape, hg2.output.trans hb.output, Nat.le_trans hb.size hg2.size, fun j hj => (hg2.block j (Nat.lt_of_lt_of_le hj hb.size) (fun e => by
              have := (HR4.out.1.lt j e.symm).1
              omega)).trans (hb.block j hj)⟩
        clear ho2 hg2 HX HR4 HBB
        cases bb
        all_goals (
          first
            | have hr' : (appd #[101, 101] 101 #[u6, .slice (some ⟨w4.heap.size, 0, none⟩) 1 1]).run Try.prog (w4.alloc (.cells #[.int .u8 48] 5)) = .ok s' W2 := hr
            | have hr' : (appd #[101, 101] 101 #[u6, .slice (some ⟨w4.heap.size, 0, none⟩) 1 1]).run Try.prog (w4.alloc (.cells #[.int .u8 49] 5)) = .ok s' W2 := hr
          clear hr
          go_wp2_with fail
          go_roundw
          case rel => exact ⟨k + 1, by omega, by go_num, HG.out⟩
          case measure => simp [intOf]; omega)
    · obtain rfl : k = 128 := by omega
      have HF : Hid (fitsN v W = true) := fits_all hW hW2 hv fun j a b => HR.out.2.1 j a (by omega) b
      have hc := conv_own HR.out.1 (by omega)
      have e : (bitsOf W v).take (W + 128 - 128) = bitsOf W v := List.take_of_length_le (by rw [bits_len]; omega)
      rw [e] at hc
      have HL : Hid (Below w.heap.size w wr) := HB.out.2.1.trans (HR.out.2.2.mono HB.out.2.1.size)
      clear HR HB
      go_wp2_with fail
      go_ret2
      exact ⟨by unfold bitsT; rw [HF.out]; rfl, HL.out⟩
end Go.Proofs.Ytgdpplipahhffaa
namespace Go.Proofs.Ytgdpplipahhffaa
open Go.RowKit
set_option linter.unusedVariables false
set_option linter.unusedSimpArgs false

theorem tx_size (l : List Bool) : (tx l).size = l.length := by simp [tx, chB, ByteArray.size]
theorem tx_at (l : List Bool) (i : Nat) (h : i < (tx l).size) (b : Bool) (hb : l[i]? = some b) : ((tx l)[i]'h) = if b then 49 else 48 := by
  have h' : i < (chB l).length := by simpa [chB, tx, ByteArray.size] using h
  have e : ((tx l)[i]'h) = (chB l)[i]'h' := by
    show (tx l).data[i] = _
    simp [tx]
  rw [e]
  have h2 : i < l.length := by simpa [chB] using h'
  have e2 : l[i] = b := by rw [List.getElem?_eq_getElem h2] at hb; exact Option.some.inj hb
  simp [chB, e2]
theorem tx_take (l : List Bool) (n : Nat) : (tx l).extract 0 n = tx (l.take n) := by
  apply ByteArray.ext
  simp [tx, chB, ByteArray.data_extract, List.map_take]
theorem fits_of_isP {W v : Nat} (hW : 1 ≤ W) (hW2 : W ≤ 128) {l : Int} (h : isP W v l = true) : fitsN v W = true := by
  obtain ⟨bs, h1, rfl, rfl⟩ := isP_yes h
  unfold fitsN isW
  have := val_lt h1
  simp only [Bool.and_eq_true, decide_eq_true_eq, Int.toNat_natCast]
  first | exact ⟨by omega, this⟩ | exact ⟨⟨by omega, by omega⟩, this⟩
theorem isP_off {W v n j : Nat} (h : isP W v n = true) (h1 : n ≤ j) (h2 : j < W) : v.testBit (W - 1 - j) = false := by
  obtain ⟨bs, h3, e, rfl⟩ := isP_yes h
  have e : n = bs.length := by omega
  rw [val_at h3 h2, List.getElem?_eq_none (by omega)]; rfl
theorem isP_on {W v n : Nat} (hf : fitsN v W = true) (hn : n ≤ W) (h : ∀ j, n ≤ j → j < W → v.testBit (W - 1 - j) = false) : isP W v n = true ∧ v = valOf W ((bitsOf W v).take n) ∧ ((bitsOf W v).take n).length = n := by
  have hl : ((bitsOf W v).take n).length = n := by rw [List.length_take, bits_len]; omega
  have e : v = valOf W ((bitsOf W v).take n) := by
    have hv := fits_bits hf
    apply Nat.eq_of_testBit_eq
    intro j
    rw [val_bit (by omega)]
    by_cases hj : j < W
    · rw [decide_eq_true hj, Bool.true_and]
      by_cases hk : W - 1 - j < n
      · rw [List.getElem?_take, if_pos hk, bits_at (by omega), show W - 1 - (W - 1 - j) = j by omega]; rfl
      · rw [List.getElem?_take, if_neg hk]
        have := h (W - 1 - j) (by omega) (by omega)
        rw [show W - 1 - (W - 1 - j) = j by omega] at this
        rw [this]; rfl
    · rw [decide_eq_false hj, Bool.false_and, hv]
      exact Nat.testBit_lt_two_pow (Nat.lt_of_lt_of_le (val_lt (Nat.le_of_eq (bits_len _ _))) (Nat.pow_le_pow_right (by decide) (by omega)))
  have := isP_mk (W := W) (bs := (bitsOf W v).take n) (by omega)
  rw [← e, hl] at this
  exact ⟨this, e, hl⟩
/-- What Text tells. -/
def textT (W v : Nat) (l : Int) : ByteArray := if isP W v l then tx ((bitsOf W v).take l.toNat) else ⟨#[]⟩
theorem text_mk {W : Nat} {p : List Bool} (h : p.length ≤ W) : textT W (valOf W p) p.length = tx p := by
  unfold textT
  rw [isP_mk h, if_pos rfl]
  congr 1
  apply getD_eq
  · rw [List.length_take, bits_len]; omega
  · intro i hi
    rw [List.length_take, bits_len] at hi
    rw [List.getElem?_take, if_pos (by omega), bits_at (by omega), ← val_at h (by omega)]; rfl
set_option maxHeartbeats 4000000 in
set_option maxRecDepth 100000 in
theorem rtext_any (v : Nat) (hv : Is128 v) (l : Int) (W : Nat) (hW : 1 ≤ W) (hW2 : W ≤ 128) (w : World) : Calls Try.prog 25 #[B v, .int .i64 l, .int .i64 W] w fun e w' => e = .returned (.tuple #[.string (textT W v l), .bool (isP W v l)]) ∧ Below w.heap.size w w' := by
  have HB : Hid _ := one_new w #[.int .u64 (hiOf v), .int .u64 (loOf v)] 33
  have C : Hid (∀ w1, Calls Try.prog 23 #[B v, .int .i64 W] w1 fun e w' => e = .returned (.tuple #[.string (bitsT W v), .bool (fitsN v W)]) ∧ Below w1.heap.size w1 w') := fun w1 => rbits_any v hv W hW hW2 w1
  obtain ⟨rs, hrs⟩ : ∃ rs, textT W v l = rs := ⟨_, rfl⟩
  obtain ⟨rb, hrb⟩ : ∃ rb, isP W v l = rb := ⟨_, rfl⟩
  obtain ⟨s, hs⟩ : ∃ s, bitsT W v = s := ⟨_, rfl⟩
  obtain ⟨fb, hf⟩ : ∃ fb, fitsN v W = fb := ⟨_, rfl⟩
  rw [hrs, hrb]
  rw [hs, hf] at C
  have HR : Hid (textT W v l = rs ∧ isP W v l = rb ∧ bitsT W v = s ∧ fitsN v W = fb) := ⟨hrs, hrb, hs, hf⟩
  have hno : ((fb = false ∨ l < 0 ∨ (W : Int) < l) → rs = ⟨#[]⟩ ∧ rb = false) := fun h => by
    have : isP W v l = false := by
      rw [Bool.eq_false_iff]
      intro e
      rcases h with h | h
      · rw [← hf, fits_of_isP hW hW2 e] at h; cases h
      · obtain ⟨bs, h1, h2, _⟩ := isP_yes e
        omega
    rw [← hrs, ← hrb]
    unfold textT
    rw [this]; exact ⟨rfl, rfl⟩
  have HN : Hid ((fb = false ∨ l < 0 ∨ (W : Int) < l) → rs = ⟨#[]⟩ ∧ rb = false) := hno
  clear hrs hrb hs hf hno
  go_enter Try.func25, Try.ntmps25
  go_upto_region 1 with fail
  generalize (w.alloc _) = w0 at HB ⊢
  have x0 := HB.out.1.cell 0 (v := .int .u64 (hiOf v)) rfl
  have x1 := HB.out.1.cell 1 (v := .int .u64 (loOf v)) rfl
  go_wp2_with fail
  refine (C.out _).mono ?_
  rintro e w2 ⟨rfl, H2⟩
  have HF : Hid (Below w.heap.size w w2) := bst HB.out.2.1 H2
  clear HB C x0 x1 H2
  by_cases hbad : fb = false ∨ l < 0 ∨ (W : Int) < l
  · obtain ⟨rfl, rfl⟩ := HN.out hbad
    clear HN
    have key : (fb = false) ∨ (fb = true ∧ l < 0) ∨ (fb = true ∧ ¬ l < 0 ∧ (W : Int) < l) := by
      by_cases hfb : fb = false
      · exact .inl hfb
      · have hfb' : fb = true := by
          cases fb
          · exact absurd rfl hfb
          · rfl
        rcases hbad with h | h | h
        · exact absurd h hfb
        · exact .inr (.inl ⟨hfb', h⟩)
        · by_cases h0 : l < 0
          · exact .inr (.inl ⟨hfb', h0⟩)
          · exact .inr (.inr ⟨hfb', h0, h⟩)
    clear hbad
    rcases key with rfl | ⟨rfl, h1⟩ | ⟨rfl, h1, h2⟩
    all_goals (
      go_wp2_with fail
      go_ret2
      exact ⟨rfl, HF.out⟩)
  · have hfb : fb = true := by
      by_cases h : fb = false
      · exact absurd (.inl h) hbad
      · cases fb
        · exact absurd rfl h
        · rfl
    subst hfb
    obtain ⟨n, rfl⟩ : ∃ n : Nat, l = n := Int.eq_ofNat_of_zero_le (by omega)
    have hn : n ≤ W := by omega
    have h1 : ¬ (n : Int) < 0 := by omega
    have h2 : ¬ (W : Int) < n := by omega
    have hs2 : s = tx (bitsOf W v) := by rw [← HR.out.2.2.1]; unfold bitsT; rw [HR.out.2.2.2]; rfl
    have HSZ : Hid (s.size = W) := (by rw [hs2, tx_size, bits_len] : s.size = W)
    have HAT : Hid (∀ (k : Nat) (h : k < s.size), (((s[k]'h).toNat : Int) == 49) = v.testBit (W - 1 - k)) := fun k h => by
      subst hs2
      have hk : k < W := by rw [tx_size, bits_len] at h; exact h
      rw [tx_at _ k h _ (bits_at hk)]
      cases v.testBit (W - 1 - k) <;> rfl
    have HTK : Hid (s.extract 0 n = tx ((bitsOf W v).take n)) := (by rw [hs2, tx_take] : s.extract 0 n = tx ((bitsOf W v).take n))
    clear hs2 hbad HN
    go_upto_region 5 with fail
    go_loop [10] (fun b => ∃ k : Nat, n ≤ k ∧ k ≤ W ∧ b = .int .i64 k ∧ (∀ j, n ≤ j → j < k → v.testBit (W - 1 - j) = false)) (fun b => W - (intOf b).toNat)
    case atStart => exact ⟨n, by omega, hn, rfl, fun j a b => by omega⟩
    case round =>
      obtain ⟨k, hk1, hk2, rfl, hz⟩ := hrel
      have HZ : Hid (∀ j, n ≤ j → j < k → v.testBit (W - 1 - j) = false) := hz
      clear hz
      by_cases hk : k < W
      · have hsz := HSZ.out
        have hk' : k < s.size := by omega
        have hk3 : (k : Int) < s.size := by omega
        have hat := HAT.out k hk'
        obtain ⟨bb, hbb⟩ : ∃ bb, v.testBit (W - 1 - k) = bb := ⟨_, rfl⟩
        have HBB : Hid (v.testBit (W - 1 - k) = bb) := hbb
        rw [hbb] at hat
        clear hbb
        cases bb
        · go_wp2_with fail
          go_round
          case rel => exact ⟨k + 1, by omega, by omega, by go_num, fun j a b => by
            by_cases e : j = k
            · rw [e]; exact HBB.out
            · exact HZ.out j a (by omega)⟩
          case measure => simp [intOf]; omega
        · have HE : Hid (rs = ⟨#[]⟩ ∧ rb = false) := by
            have : isP W v n = false := by
              rw [Bool.eq_false_iff]
              intro e
              have := isP_off e hk1 hk
              rw [HBB.out] at this; cases this
            rw [← HR.out.1, ← HR.out.2.1]
            unfold textT
            rw [this]; exact ⟨rfl, rfl⟩
          obtain ⟨rfl, rfl⟩ := HE.out
          go_wp2_with fail
          go_ret2
          exact ⟨rfl, HF.out⟩
      · obtain rfl : k = W := by omega
        have HE : Hid (rs = s.extract 0 n ∧ rb = true) := by
          have := isP_on HR.out.2.2.2 hn HZ.out
          rw [← HR.out.1, ← HR.out.2.1, HTK.out]
          unfold textT
          rw [this.1]; exact ⟨rfl, rfl⟩
        have hsz := HSZ.out
        obtain ⟨he, rfl⟩ := HE.out
        have hnS : (n : Int) ≤ s.size := by omega
        clear HE
        go_wp2_with fail
        go_ret2
        exact ⟨rfl, HF.out⟩
end Go.Proofs.Ytgdpplipahhffaa
