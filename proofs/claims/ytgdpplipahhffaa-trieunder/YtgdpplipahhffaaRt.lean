/- The law's own answer: a prefix, as a text. -/
import Derived.Test.YtgdpplipahhffaaRc
namespace Go.Proofs.Ytgdpplipahhffaa
open Go.RowKit
set_option linter.unusedVariables false
set_option linter.unusedSimpArgs false

theorem tx_size (l : List Bool) : (tx l).size = l.length := by simp [tx, chB, ByteArray.size]
theorem tx_at (l : List Bool) (i : Nat) (h : i < (tx l).size) (b : Bool) (hb : l[i]? = some b) : ((tx l)[i]'h) = if b then 49 else 48 := by
  have h' : i < (chB l).length := by simpa [chB, tx, ByteArray.size] using h
  have e : ((tx l)[i]'h) = (chB l)[i]'h' := by
    show (tx l).data[i] = _
    simp [tx]
  rw [e]
  have h2 : i < l.length := by simpa [chB] using h'
  have e2 : l[i] = b := by rw [List.getElem?_eq_getElem h2] at hb; exact Option.some.inj hb
  simp [chB, e2]
theorem tx_take (l : List Bool) (n : Nat) : (tx l).extract 0 n = tx (l.take n) := by
  apply ByteArray.ext
  simp [tx, chB, ByteArray.data_extract, List.map_take]
theorem fits_of_isP {W v : Nat} (hW : 1 ≤ W) (hW2 : W ≤ 128) {l : Int} (h : isP W v l = true) : fitsN v W = true := by
  obtain ⟨bs, h1, rfl, rfl⟩ := isP_yes h
  unfold fitsN isW
  have := val_lt h1
  simp only [Bool.and_eq_true, decide_eq_true_eq, Int.toNat_natCast]
  first | exact ⟨by omega, this⟩ | exact ⟨⟨by omega, by omega⟩, this⟩
theorem isP_off {W v n j : Nat} (h : isP W v n = true) (h1 : n ≤ j) (h2 : j < W) : v.testBit (W - 1 - j) = false := by
  obtain ⟨bs, h3, e, rfl⟩ := isP_yes h
  have e : n = bs.length := by omega
  rw [val_at h3 h2, List.getElem?_eq_none (by omega)]; rfl
theorem isP_on {W v n : Nat} (hf : fitsN v W = true) (hn : n ≤ W) (h : ∀ j, n ≤ j → j < W → v.testBit (W - 1 - j) = false) : isP W v n = true ∧ v = valOf W ((bitsOf W v).take n) ∧ ((bitsOf W v).take n).length = n := by
  have hl : ((bitsOf W v).take n).length = n := by rw [List.length_take, bits_len]; omega
  have e : v = valOf W ((bitsOf W v).take n) := by
    have hv := fits_bits hf
    apply Nat.eq_of_testBit_eq
    intro j
    rw [val_bit (by omega)]
    by_cases hj : j < W
    · rw [decide_eq_true hj, Bool.true_and]
      by_cases hk : W - 1 - j < n
      · rw [List.getElem?_take, if_pos hk, bits_at (by omega), show W - 1 - (W - 1 - j) = j by omega]; rfl
      · rw [List.getElem?_take, if_neg hk]
        have := h (W - 1 - j) (by omega) (by omega)
        rw [show W - 1 - (W - 1 - j) = j by omega] at this
        rw [this]; rfl
    · rw [decide_eq_false hj, Bool.false_and, hv]
      exact Nat.testBit_lt_two_pow (Nat.lt_of_lt_of_le (val_lt (Nat.le_of_eq (bits_len _ _))) (Nat.pow_le_pow_right (by decide) (by omega)))
  have := isP_mk (W := W) (bs := (bitsOf W v).take n) (by omega)
  rw [← e, hl] at this
  exact ⟨this, e, hl⟩
/-- What Text tells. -/
def textT (W v : Nat) (l : Int) : ByteArray := if isP W v l then tx ((bitsOf W v).take l.toNat) else ⟨#[]⟩
theorem text_mk {W : Nat} {p : List Bool} (h : p.length ≤ W) : textT W (valOf W p) p.length = tx p := by
  unfold textT
  rw [isP_mk h, if_pos rfl]
  congr 1
  apply getD_eq
  · rw [List.length_take, bits_len]; omega
  · intro i hi
    rw [List.length_take, bits_len] at hi
    rw [List.getElem?_take, if_pos (by omega), bits_at (by omega), ← val_at h (by omega)]; rfl
set_option maxHeartbeats 4000000 in
set_option maxRecDepth 100000 in
theorem rtext_any (v : Nat) (hv : Is128 v) (l : Int) (W : Nat) (hW : 1 ≤ W) (hW2 : W ≤ 128) (w : World) : Calls Try.prog 25 #[B v, .int .i64 l, .int .i64 W] w fun e w' => e = .returned (.tuple #[.string (textT W v l), .bool (isP W v l)]) ∧ Below w.heap.size w w' := by
  have HB : Hid _ := one_new w #[.int .u64 (hiOf v), .int .u64 (loOf v)] 33
  have C : Hid (∀ w1, Calls Try.prog 23 #[B v, .int .i64 W] w1 fun e w' => e = .returned (.tuple #[.string (bitsT W v), .bool (fitsN v W)]) ∧ Below w1.heap.size w1 w') := fun w1 => rbits_any v hv W hW hW2 w1
  obtain ⟨rs, hrs⟩ : ∃ rs, textT W v l = rs := ⟨_, rfl⟩
  obtain ⟨rb, hrb⟩ : ∃ rb, isP W v l = rb := ⟨_, rfl⟩
  obtain ⟨s, hs⟩ : ∃ s, bitsT W v = s := ⟨_, rfl⟩
  obtain ⟨fb, hf⟩ : ∃ fb, fitsN v W = fb := ⟨_, rfl⟩
  rw [hrs, hrb]
  rw [hs, hf] at C
  have HR : Hid (textT W v l = rs ∧ isP W v l = rb ∧ bitsT W v = s ∧ fitsN v W = fb) := ⟨hrs, hrb, hs, hf⟩
  have hno : ((fb = false ∨ l < 0 ∨ (W : Int) < l) → rs = ⟨#[]⟩ ∧ rb = false) := fun h => by
    have : isP W v l = false := by
      rw [Bool.eq_false_iff]
      intro e
      rcases h with h | h
      · rw [← hf, fits_of_isP hW hW2 e] at h; cases h
      · obtain ⟨bs, h1, h2, _⟩ := isP_yes e
        omega
    rw [← hrs, ← hrb]
    unfold textT
    rw [this]; exact ⟨rfl, rfl⟩
  have HN : Hid ((fb = false ∨ l < 0 ∨ (W : Int) < l) → rs = ⟨#[]⟩ ∧ rb = false) := hno
  clear hrs hrb hs hf hno
  go_enter Try.func25, Try.ntmps25
  go_upto_region 1 with fail
  generalize (w.alloc _) = w0 at HB ⊢
  have x0 := HB.out.1.cell 0 (v := .int .u64 (hiOf v)) rfl
  have x1 := HB.out.1.cell 1 (v := .int .u64 (loOf v)) rfl
  go_wp2_with fail
  refine (C.out _).mono ?_
  rintro e w2 ⟨rfl, H2⟩
  have HF : Hid (Below w.heap.size w w2) := bst HB.out.2.1 H2
  clear HB C x0 x1 H2
  by_cases hbad : fb = false ∨ l < 0 ∨ (W : Int) < l
  · obtain ⟨rfl, rfl⟩ := HN.out hbad
    clear HN
    have key : (fb = false) ∨ (fb = true ∧ l < 0) ∨ (fb = true ∧ ¬ l < 0 ∧ (W : Int) < l) := by
      by_cases hfb : fb = false
      · exact .inl hfb
      · have hfb' : fb = true := by
          cases fb
          · exact absurd rfl hfb
          · rfl
        rcases hbad with h | h | h
        · exact absurd h hfb
        · exact .inr (.inl ⟨hfb', h⟩)
        · by_cases h0 : l < 0
          · exact .inr (.inl ⟨hfb', h0⟩)
          · exact .inr (.inr ⟨hfb', h0, h⟩)
    clear hbad
    rcases key with rfl | ⟨rfl, h1⟩ | ⟨rfl, h1, h2⟩
    all_goals (
      go_wp2_with fail
      go_ret2
      exact ⟨rfl, HF.out⟩)
  · have hfb : fb = true := by
      by_cases h : fb = false
      · exact absurd (.inl h) hbad
      · cases fb
        · exact absurd rfl h
        · rfl
    subst hfb
    obtain ⟨n, rfl⟩ : ∃ n : Nat, l = n := Int.eq_ofNat_of_zero_le (by omega)
    have hn : n ≤ W := by omega
    have h1 : ¬ (n : Int) < 0 := by omega
    have h2 : ¬ (W : Int) < n := by omega
    have hs2 : s = tx (bitsOf W v) := by rw [← HR.out.2.2.1]; unfold bitsT; rw [HR.out.2.2.2]; rfl
    have HSZ : Hid (s.size = W) := (by rw [hs2, tx_size, bits_len] : s.size = W)
    have HAT : Hid (∀ (k : Nat) (h : k < s.size), (((s[k]'h).toNat : Int) == 49) = v.testBit (W - 1 - k)) := fun k h => by
      subst hs2
      have hk : k < W := by rw [tx_size, bits_len] at h; exact h
      rw [tx_at _ k h _ (bits_at hk)]
      cases v.testBit (W - 1 - k) <;> rfl
    have HTK : Hid (s.extract 0 n = tx ((bitsOf W v).take n)) := (by rw [hs2, tx_take] : s.extract 0 n = tx ((bitsOf W v).take n))
    clear hs2 hbad HN
    go_upto_region 5 with fail
    go_loop [10] (fun b => ∃ k : Nat, n ≤ k ∧ k ≤ W ∧ b = .int .i64 k ∧ (∀ j, n ≤ j → j < k → v.testBit (W - 1 - j) = false)) (fun b => W - (intOf b).toNat)
    case atStart => exact ⟨n, by omega, hn, rfl, fun j a b => by omega⟩
    case round =>
      obtain ⟨k, hk1, hk2, rfl, hz⟩ := hrel
      have HZ : Hid (∀ j, n ≤ j → j < k → v.testBit (W - 1 - j) = false) := hz
      clear hz
      by_cases hk : k < W
      · have hsz := HSZ.out
        have hk' : k < s.size := by omega
        have hk3 : (k : Int) < s.size := by omega
        have hat := HAT.out k hk'
        obtain ⟨bb, hbb⟩ : ∃ bb, v.testBit (W - 1 - k) = bb := ⟨_, rfl⟩
        have HBB : Hid (v.testBit (W - 1 - k) = bb) := hbb
        rw [hbb] at hat
        clear hbb
        cases bb
        · go_wp2_with fail
          go_round
          case rel => exact ⟨k + 1, by omega, by omega, by go_num, fun j a b => by
            by_cases e : j = k
            · rw [e]; exact HBB.out
            · exact HZ.out j a (by omega)⟩
          case measure => simp [intOf]; omega
        · have HE : Hid (rs = ⟨#[]⟩ ∧ rb = false) := by
            have : isP W v n = false := by
              rw [Bool.eq_false_iff]
              intro e
              have := isP_off e hk1 hk
              rw [HBB.out] at this; cases this
            rw [← HR.out.1, ← HR.out.2.1]
            unfold textT
            rw [this]; exact ⟨rfl, rfl⟩
          obtain ⟨rfl, rfl⟩ := HE.out
          go_wp2_with fail
          go_ret2
          exact ⟨rfl, HF.out⟩
      · obtain rfl : k = W := by omega
        have HE : Hid (rs = s.extract 0 n ∧ rb = true) := by
          have := isP_on HR.out.2.2.2 hn HZ.out
          rw [← HR.out.1, ← HR.out.2.1, HTK.out]
          unfold textT
          rw [this.1]; exact ⟨rfl, rfl⟩
        have hsz := HSZ.out
        obtain ⟨he, rfl⟩ := HE.out
        have hnS : (n : Int) ≤ s.size := by omega
        clear HE
        go_wp2_with fail
        go_ret2
        exact ⟨rfl, HF.out⟩
end Go.Proofs.Ytgdpplipahhffaa
