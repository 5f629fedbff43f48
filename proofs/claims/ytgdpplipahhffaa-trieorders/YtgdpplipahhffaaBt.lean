/- Plain: prefixes of numbers as lists of bits, the highest first. -/
import Derived.Test.YtgdpplipahhffaaLo
namespace Go.Proofs.Ytgdpplipahhffaa
open Go.RowKit
set_option linter.unusedVariables false
set_option linter.unusedSimpArgs false

/-- A list of bits as the highest ones of a width. -/
def valOf (W : Nat) : List Bool → Nat
  | [] => 0
  | b :: bs => (if b then 2 ^ (W - 1) else 0) + valOf (W - 1) bs
theorem val_lt : ∀ {W : Nat} {bs : List Bool}, bs.length ≤ W → valOf W bs < 2 ^ W
  | W, [], _ => by rw [valOf]; exact Nat.two_pow_pos _
  | 0, b :: bs, h => by simp at h
  | W + 1, b :: bs, h => by
    have := val_lt (W := W) (bs := bs) (by simpa using h)
    rw [valOf, Nat.add_sub_cancel, Nat.pow_succ]
    split <;> omega
theorem val_bit : ∀ {W : Nat} {bs : List Bool}, bs.length ≤ W → ∀ j, (valOf W bs).testBit j = (decide (j < W) && (bs[W - 1 - j]?.getD false))
  | W, [], _, j => by simp [valOf]
  | 0, b :: bs, h, j => by simp at h
  | W + 1, b :: bs, h, j => by
    have hl : bs.length ≤ W := by simpa using h
    have hv := val_lt hl
    have ih := val_bit hl
    rw [valOf, Nat.add_sub_cancel]
    rcases Nat.lt_trichotomy j W with hj | hj | hj
    · have e : W - j = (W - 1 - j) + 1 := by omega
      rw [decide_eq_true (by omega : j < W + 1), e, List.getElem?_cons_succ]
      have := ih j
      rw [decide_eq_true hj] at this
      split
      · rw [Nat.testBit_two_pow_add_gt hj, this]
      · rw [Nat.zero_add, this]
    · subst hj
      have := ih j
      rw [decide_eq_false (Nat.lt_irrefl _)] at this
      rw [decide_eq_true (by omega : j < j + 1), Nat.sub_self]
      cases b
      · simpa using this
      · simp only [if_true, Nat.testBit_two_pow_add_eq, this]; rfl
    · rw [decide_eq_false (by omega : ¬ j < W + 1), Bool.false_and]
      have h2 : 2 ^ (W + 1) ≤ 2 ^ j := Nat.pow_le_pow_right (by decide) hj
      rw [Nat.pow_succ] at h2
      exact Nat.testBit_lt_two_pow (by split <;> omega)
theorem val_at {W : Nat} {bs : List Bool} (h : bs.length ≤ W) {i : Nat} (hi : i < W) : (valOf W bs).testBit (W - 1 - i) = bs[i]?.getD false := by
  rw [val_bit h, decide_eq_true (by omega), show W - 1 - (W - 1 - i) = i by omega]; rfl
theorem getD_eq {bs cs : List Bool} (hl : bs.length = cs.length) (h : ∀ i, i < bs.length → bs[i]?.getD false = cs[i]?.getD false) : bs = cs := by
  apply List.ext_getElem hl
  intro i h1 h2
  have := h i h1
  rw [List.getElem?_eq_getElem h1, List.getElem?_eq_getElem h2] at this
  exact this
theorem val_inj {W : Nat} {bs cs : List Bool} (h1 : bs.length ≤ W) (h2 : cs.length ≤ W) (hl : bs.length = cs.length) (h : valOf W bs = valOf W cs) : bs = cs :=
  getD_eq hl fun i hi => by rw [← val_at h1 (by omega), ← val_at h2 (by omega), h]
/-- A number's bits in a width. -/
def bitsOf (W n : Nat) : List Bool := (List.range W).map fun i => n.testBit (W - 1 - i)
theorem bits_len (W n : Nat) : (bitsOf W n).length = W := by simp [bitsOf]
theorem bits_at {W n i : Nat} (h : i < W) : (bitsOf W n)[i]? = some (n.testBit (W - 1 - i)) := by
  unfold bitsOf; rw [List.getElem?_map, List.getElem?_range h]; rfl
theorem val_bits {W n : Nat} (h : n < 2 ^ W) : valOf W (bitsOf W n) = n := by
  apply Nat.eq_of_testBit_eq
  intro j
  rw [val_bit (Nat.le_of_eq (bits_len W n))]
  by_cases hj : j < W
  · rw [decide_eq_true hj, bits_at (by omega), show W - 1 - (W - 1 - j) = j by omega]; rfl
  · rw [decide_eq_false hj]; exact (Nat.testBit_lt_two_pow (Nat.lt_of_lt_of_le h (Nat.pow_le_pow_right (by decide) (by omega)))).symm
theorem bits_val {W : Nat} {bs : List Bool} (h : bs.length = W) : bitsOf W (valOf W bs) = bs :=
  val_inj (Nat.le_of_eq (bits_len _ _)) (Nat.le_of_eq h) ((bits_len _ _).trans h.symm) (val_bits (val_lt (Nat.le_of_eq h)))
theorem val_is {W : Nat} (hW : W ≤ 128) {bs : List Bool} (h : bs.length ≤ W) : Is128 (valOf W bs) := by
  unfold Is128; rw [← two128]; exact Nat.lt_of_lt_of_le (val_lt h) (Nat.pow_le_pow_right (by decide) hW)
theorem mask_bit {W n : Nat} (h : n ≤ W) (j : Nat) : (maskN W n).testBit j = (decide (j < W) && decide (W - n ≤ j)) := by
  unfold maskN
  rw [Nat.testBit_xor, ones_bit, ones_bit, show ((W : Int) - (n : Int)).toNat = W - n by omega, Int.toNat_natCast]
  by_cases h1 : j < W <;> by_cases h2 : j < W - n <;> simp [h1, h2] <;> omega
theorem val_mask {W n : Nat} (hn : n ≤ W) {bs : List Bool} (h : bs.length ≤ W) : valOf W bs &&& maskN W n = valOf W (bs.take n) := by
  have hl : (bs.take n).length ≤ W := Nat.le_trans (List.length_take_le _ _) hn
  apply Nat.eq_of_testBit_eq
  intro j
  rw [Nat.testBit_and, val_bit h, val_bit hl, mask_bit hn, List.getElem?_take]
  by_cases h1 : j < W
  · by_cases h2 : W - n ≤ j
    · rw [if_pos (by omega)]; simp [h1, h2]
    · rw [if_neg (by omega)]; simp [h1, h2]
  · simp [h1]
theorem and_mask {W n : Nat} (hn : n ≤ W) (v : Nat) : v &&& maskN W n = valOf W ((bitsOf W (v % 2 ^ W)).take n) := by
  rw [← val_mask hn (Nat.le_of_eq (bits_len _ _)), val_bits (Nat.mod_lt _ (Nat.two_pow_pos _))]
  apply Nat.eq_of_testBit_eq
  intro j
  rw [Nat.testBit_and, Nat.testBit_and, mask_bit hn, Nat.testBit_mod_two_pow]
  by_cases h1 : j < W <;> simp [h1]
/-- Is it a prefix of the width? -/
def isP (W v : Nat) (l : Int) : Bool := decide (0 ≤ l) && decide (l ≤ W) && decide (v &&& maskN W l = v)
theorem isP_mk {W : Nat} {bs : List Bool} (h : bs.length ≤ W) : isP W (valOf W bs) bs.length = true := by
  unfold isP
  rw [val_mask h h, List.take_length]
  simp; omega
theorem isP_yes {W v : Nat} {l : Int} (h : isP W v l = true) : ∃ bs : List Bool, bs.length ≤ W ∧ l = bs.length ∧ v = valOf W bs := by
  unfold isP at h
  simp only [Bool.and_eq_true, decide_eq_true_eq] at h
  obtain ⟨⟨h1, h2⟩, h3⟩ := h
  obtain ⟨n, rfl⟩ := Int.eq_ofNat_of_zero_le h1
  have hn : n ≤ W := by omega
  refine ⟨(bitsOf W (v % 2 ^ W)).take n, ?_, ?_, ?_⟩
  · rw [List.length_take, bits_len]; omega
  · rw [List.length_take, bits_len]; omega
  · rw [← and_mask hn]; exact h3.symm
/-- How many bits two lists have in common ahead. -/
def lcp : List Bool → List Bool → Nat
  | a :: xs, b :: ys => if a = b then lcp xs ys + 1 else 0
  | _, _ => 0
theorem lcp_of : ∀ {bs cs : List Bool} {k : Nat}, (∀ i, i < k → bs[i]? = cs[i]?) → k ≤ bs.length → k ≤ cs.length → (k = bs.length ∨ k = cs.length ∨ bs[k]? ≠ cs[k]?) → lcp bs cs = k
  | [], cs, k, _, h1, _, _ => by simp at h1; subst h1; cases cs <;> rfl
  | b :: bs, [], k, _, _, h2, _ => by simp at h2; subst h2; rfl
  | b :: bs, c :: cs, 0, h, h1, h2, h3 => by
    have : b ≠ c := fun e => by subst e; simp at h3
    rw [lcp, if_neg this]
  | b :: bs, c :: cs, k + 1, h, h1, h2, h3 => by
    have e : b = c := by simpa using h 0 (by omega)
    rw [lcp, if_pos e, lcp_of (k := k) (fun i hi => by simpa using h (i + 1) (by omega)) (by simpa using h1) (by simpa using h2) (by simpa using h3)]
theorem lcp_comm : ∀ bs cs : List Bool, lcp bs cs = lcp cs bs
  | [], [] => rfl
  | [], c :: cs => rfl
  | b :: bs, [] => rfl
  | b :: bs, c :: cs => by
    unfold lcp
    by_cases e : b = c
    · rw [if_pos e, if_pos e.symm, lcp_comm bs cs]
    · rw [if_neg e, if_neg (fun h => e h.symm)]
theorem lcp_le : ∀ bs cs : List Bool, lcp bs cs ≤ bs.length ∧ lcp bs cs ≤ cs.length
  | [], cs => by cases cs <;> simp [lcp]
  | b :: bs, [] => by simp [lcp]
  | b :: bs, c :: cs => by
    have := lcp_le bs cs
    unfold lcp
    split <;> simp <;> omega
theorem lcp_take : ∀ bs cs : List Bool, bs.take (lcp bs cs) = cs.take (lcp bs cs)
  | [], cs => by cases cs <;> simp [lcp]
  | b :: bs, [] => by simp [lcp]
  | b :: bs, c :: cs => by
    unfold lcp
    by_cases e : b = c
    · rw [if_pos e]; simp [e, lcp_take bs cs]
    · rw [if_neg e]; simp
theorem lcp_ne : ∀ {bs cs : List Bool}, lcp bs cs < bs.length → lcp bs cs < cs.length → bs[lcp bs cs]?.getD false = !(cs[lcp bs cs]?.getD false)
  | [], cs, h, _ => by simp at h
  | b :: bs, [], _, h => by simp at h
  | b :: bs, c :: cs, h1, h2 => by
    unfold lcp at *
    by_cases e : b = c
    · rw [if_pos e] at h1 h2 ⊢
      simpa using lcp_ne (by simpa using h1) (by simpa using h2)
    · rw [if_neg e]
      cases b <;> cases c <;> simp_all
theorem lcp_pre {bs cs : List Bool} : lcp bs cs = bs.length ↔ bs <+: cs := by
  constructor
  · intro h
    have := lcp_take bs cs
    rw [h, List.take_length] at this
    rw [this]; exact List.take_prefix _ _
  · rintro ⟨t, rfl⟩
    exact lcp_of (fun i hi => by rw [List.getElem?_append_left hi]) (Nat.le_refl _) (by simp) (.inl rfl)
theorem com_lcp {W : Nat} (h1 : 1 ≤ W) (h2 : W ≤ 128) {bs cs : List Bool} (hb : bs.length ≤ W) (hc : cs.length ≤ W) : min (min (comN (valOf W bs) (valOf W cs) W) bs.length) cs.length = (lcp bs cs : Int) := by
  have hW : isW (W : Int) = true := by simp [isW]; omega
  have ib := val_is h2 hb
  have ic := val_is h2 hc
  have eb : cutN (valOf W bs) W = valOf W bs := by rw [cut_yes hW, Int.toNat_natCast]; exact Nat.mod_eq_of_lt (val_lt hb)
  have ec : cutN (valOf W cs) W = valOf W cs := by rw [cut_yes hW, Int.toNat_natCast]; exact Nat.mod_eq_of_lt (val_lt hc)
  obtain ⟨r1, r2⟩ := com_range ib ic hW
  have hm := com_mask ib ic hW
  have hbit := com_bit ib ic hW
  rw [eb, ec] at hm hbit
  obtain ⟨c, hcc⟩ := Int.eq_ofNat_of_zero_le r1
  rw [hcc] at hm hbit r2 ⊢
  have hcW : c ≤ W := by omega
  rw [val_mask hcW hb, val_mask hcW hc] at hm
  have lt1 : (bs.take c).length ≤ W := Nat.le_trans (List.length_take_le _ _) hcW
  have lt2 : (cs.take c).length ≤ W := Nat.le_trans (List.length_take_le _ _) hcW
  have heq : ∀ i, i < c → bs[i]?.getD false = cs[i]?.getD false := fun i hi => by
    have e1 := val_at lt1 (show i < W by omega)
    have e2 := val_at lt2 (show i < W by omega)
    rw [hm, e2, List.getElem?_take, List.getElem?_take, if_pos hi, if_pos hi] at e1
    exact e1.symm
  have hne : c < W → bs[c]?.getD false ≠ cs[c]?.getD false := fun hlt e => by
    have h3 := (hbit (by omega)).1
    unfold bitN at h3
    rw [hW, show decide (0 ≤ (c : Int)) = true by simp, show decide ((c : Int) < (W : Int)) = true by simp; omega, show ((W : Int) - 1 - (c : Int)).toNat = W - 1 - c by omega, val_at hb hlt, val_at hc hlt, e] at h3
    revert h3; cases cs[c]?.getD false <;> simp
  have hk : lcp bs cs = min (min c bs.length) cs.length := by
    refine lcp_of (fun i hi => ?_) (by omega) (by omega) ?_
    · have hi1 : i < bs.length := by omega
      have hi2 : i < cs.length := by omega
      have := heq i (by omega)
      rw [List.getElem?_eq_getElem hi1, List.getElem?_eq_getElem hi2] at this ⊢
      exact congrArg some this
    · by_cases g1 : c < bs.length
      · by_cases g2 : c < cs.length
        · right; right
          rw [show min (min c bs.length) cs.length = c by omega]
          intro e
          exact hne (by omega) (by rw [e])
        · right; left; omega
      · omega
  rw [hk]; omega
theorem side_bit {W : Nat} (h1 : 1 ≤ W) (h2 : W ≤ 128) {bs : List Bool} (hb : bs.length ≤ W) (n : Nat) : bitN (valOf W bs) W n = bs[n]?.getD false := by
  have hW : isW (W : Int) = true := by simp [isW]; omega
  unfold bitN
  rw [hW, show decide (0 ≤ (n : Int)) = true by simp]
  by_cases hn : n < W
  · rw [show decide ((n : Int) < (W : Int)) = true by simp; omega, show ((W : Int) - 1 - (n : Int)).toNat = W - 1 - n by omega, val_at hb hn]; rfl
  · rw [show decide ((n : Int) < (W : Int)) = false by simp; omega, List.getElem?_eq_none (by omega)]; rfl
end Go.Proofs.Ytgdpplipahhffaa
