/- Plain: prefixes of numbers as lists of bits, the highest first. Plain: the order of prefixes, and lists in that order. -/
import Derived.Test.YtgdpplipahhffaaLo
namespace Go.Proofs.Ytgdpplipahhffaa
open Go.RowKit
set_option linter.unusedVariables false
set_option linter.unusedSimpArgs false

/-- A list of bits as the highest ones of a width. -/
def valOf (W : Nat) : List Bool → Nat
  | [] => 0
  | b :: bs => (if b then 2 ^ (W - 1) else 0) + valOf (W - 1) bs
theorem val_lt : ∀ {W : Nat} {bs : List Bool}, bs.length ≤ W → valOf W bs < 2 ^ W
  | W, [], _ => by rw [valOf]; exact Nat.two_pow_pos _
  | 0, b :: bs, h => by simp at h
  | W + 1, b :: bs, h => by
    have := val_lt (W := W) (bs := bs) (by simpa using h)
    rw [valOf, Nat.add_sub_cancel, Nat.pow_succ]
    split <;> omega
theorem val_bit : ∀ {W : Nat} {bs : List Bool}, bs.length ≤ W → ∀ j, (valOf W bs).testBit j = (decide (j < W) && (bs[W - 1 - j]?.getD false))
  | W, [], _, j => by simp [valOf]
  | 0, b :: bs, h, j => by simp at h
  | W + 1, b :: bs, h, j => by
    have hl : bs.length ≤ W := by simpa using h
    have hv := val_lt hl
    have ih := val_bit hl
    rw [valOf, Nat.add_sub_cancel]
    rcases Nat.lt_trichotomy j W with hj | hj | hj
    · have e : W - j = (W - 1 - j) + 1 := by omega
      rw [decide_eq_true (by omega : j < W + 1), e, List.getElem?_cons_succ]
      have := ih j
      rw [decide_eq_true hj] at this
      split
      · rw [Nat.testBit_two_pow_add_gt hj, this]
      · rw [Nat.zero_add, this]
    · subst hj
      have := ih j
      rw [decide_eq_false (Nat.lt_irrefl _)] at this
      rw [decide_eq_true (by omega : j < j + 1), Nat.sub_self]
      cases b
      · simpa using this
      · simp only [if_true, Nat.testBit_two_pow_add_eq, this]; rfl
    · rw [decide_eq_false (by omega : ¬ j < W + 1), Bool.false_and]
      have h2 : 2 ^ (W + 1) ≤ 2 ^ j := Nat.pow_le_pow_right (by decide) hj
      rw [Nat.pow_succ] at h2
      exact Nat.testBit_lt_two_pow (by split <;> omega)
theorem val_at {W : Nat} {bs : List Bool} (h : bs.length ≤ W) {i : Nat} (hi : i < W) : (valOf W bs).testBit (W - 1 - i) = bs[i]?.getD false := by
  rw [val_bit h, decide_eq_true (by omega), show W - 1 - (W - 1 - i) = i by omega]; rfl
theorem getD_eq {bs cs : List Bool} (hl : bs.length = cs.length) (h : ∀ i, i < bs.length → bs[i]?.getD false = cs[i]?.getD false) : bs = cs := by
  apply List.ext_getElem hl
  intro i h1 h2
  have := h i h1
  rw [List.getElem?_eq_getElem h1, List.getElem?_eq_getElem h2] at this
  exact this
theorem val_inj {W : Nat} {bs cs : List Bool} (h1 : bs.length ≤ W) (h2 : cs.length ≤ W) (hl : bs.length = cs.length) (h : valOf W bs = valOf W cs) : bs = cs :=
  getD_eq hl fun i hi => by rw [← val_at h1 (by omega), ← val_at h2 (by omega), h]
/-- A number's bits in a width. -/
def bitsOf (W n : Nat) : List Bool := (List.range W).map fun i => n.testBit (W - 1 - i)
theorem bits_len (W n : Nat) : (bitsOf W n).length = W := by simp [bitsOf]
theorem bits_at {W n i : Nat} (h : i < W) : (bitsOf W n)[i]? = some (n.testBit (W - 1 - i)) := by
  unfold bitsOf; rw [List.getElem?_map, List.getElem?_range h]; rfl
theorem val_bits {W n : Nat} (h : n < 2 ^ W) : valOf W (bitsOf W n) = n := by
  apply Nat.eq_of_testBit_eq
  intro j
  rw [val_bit (Nat.le_of_eq (bits_len W n))]
  by_cases hj : j < W
  · rw [decide_eq_true hj, bits_at (by omega), show W - 1 - (W - 1 - j) = j by omega]; rfl
  · rw [decide_eq_false hj]; exact (Nat.testBit_lt_two_pow (Nat.lt_of_lt_of_le h (Nat.pow_le_pow_right (by decide) (by omega)))).symm
theorem bits_val {W : Nat} {bs : List Bool} (h : bs.length = W) : bitsOf W (valOf W bs) = bs :=
  val_inj (Nat.le_of_eq (bits_len _ _)) (Nat.le_of_eq h) ((bits_len _ _).trans h.symm) (val_bits (val_lt (Nat.le_of_eq h)))
theorem val_is {W : Nat} (hW : W ≤ 128) {bs : List Bool} (h : bs.length ≤ W) : Is128 (valOf W bs) := by
  unfold Is128; rw [← two128]; exact Nat.lt_of_lt_of_le (val_lt h) (Nat.pow_le_pow_right (by decide) hW)
theorem mask_bit {W n : Nat} (h : n ≤ W) (j : Nat) : (maskN W n).testBit j = (decide (j < W) && decide (W - n ≤ j)) := by
  unfold maskN
  rw [Nat.testBit_xor, ones_bit, ones_bit, show ((W : Int) - (n : Int)).toNat = W - n by omega, Int.toNat_natCast]
  by_cases h1 : j < W <;> by_cases h2 : j < W - n <;> simp [h1, h2] <;> omega
theorem val_mask {W n : Nat} (hn : n ≤ W) {bs : List Bool} (h : bs.length ≤ W) : valOf W bs &&& maskN W n = valOf W (bs.take n) := by
  have hl : (bs.take n).length ≤ W := Nat.le_trans (List.length_take_le _ _) hn
  apply Nat.eq_of_testBit_eq
  intro j
  rw [Nat.testBit_and, val_bit h, val_bit hl, mask_bit hn, List.getElem?_take]
  by_cases h1 : j < W
  · by_cases h2 : W - n ≤ j
    · rw [if_pos (by omega)]; simp [h1, h2]
    · rw [if_neg (by omega)]; simp [h1, h2]
  · simp [h1]
theorem and_mask {W n : Nat} (hn : n ≤ W) (v : Nat) : v &&& maskN W n = valOf W ((bitsOf W (v % 2 ^ W)).take n) := by
  rw [← val_mask hn (Nat.le_of_eq (bits_len _ _)), val_bits (Nat.mod_lt _ (Nat.two_pow_pos _))]
  apply Nat.eq_of_testBit_eq
  intro j
  rw [Nat.testBit_and, Nat.testBit_and, mask_bit hn, Nat.testBit_mod_two_pow]
  by_cases h1 : j < W <;> simp [h1]
/-- Is it a prefix of the width? -/
def isP (W v : Nat) (l : Int) : Bool := decide (0 ≤ l) && decide (l ≤ W) && decide (v &&& maskN W l = v)
theorem isP_mk {W : Nat} {bs : List Bool} (h : bs.length ≤ W) : isP W (valOf W bs) bs.length = true := by
  unfold isP
  rw [val_mask h h, List.take_length]
  simp; omega
theorem isP_yes {W v : Nat} {l : Int} (h : isP W v l = true) : ∃ bs : List Bool, bs.length ≤ W ∧ l = bs.length ∧ v = valOf W bs := by
  unfold isP at h
  simp only [Bool.and_eq_true, decide_eq_true_eq] at h
  obtain ⟨⟨h1, h2⟩, h3⟩ := h
  obtain ⟨n, rfl⟩ := Int.eq_ofNat_of_zero_le h1
  have hn : n ≤ W := by omega
  refine ⟨(bitsOf W (v % 2 ^ W)).take n, ?_, ?_, ?_⟩
  · rw [List.length_take, bits_len]; omega
  · rw [List.length_take, bits_len]; omega
  · rw [← and_mask hn]; exact h3.symm
/-- How many bits two lists have in common ahead. -/
def lcp : List Bool → List Bool → Nat
  | a :: xs, b :: ys => if a = b then lcp xs ys + 1 else 0
  | _, _ => 0
theorem lcp_of : ∀ {bs cs : List Bool} {k : Nat}, (∀ i, i < k → bs[i]? = cs[i]?) → k ≤ bs.length → k ≤ cs.length → (k = bs.length ∨ k = cs.length ∨ bs[k]? ≠ cs[k]?) → lcp bs cs = k
  | [], cs, k, _, h1, _, _ => by simp at h1; subst h1; cases cs <;> rfl
  | b :: bs, [], k, _, _, h2, _ => by simp at h2; subst h2; rfl
  | b :: bs, c :: cs, 0, h, h1, h2, h3 => by
    have : b ≠ c := fun e => by subst e; simp at h3
    rw [lcp, if_neg this]
  | b :: bs, c :: cs, k + 1, h, h1, h2, h3 => by
    have e : b = c := by simpa using h 0 (by omega)
    rw [lcp, if_pos e, lcp_of (k := k) (fun i hi => by simpa using h (i + 1) (by omega)) (by simpa using h1) (by simpa using h2) (by simpa using h3)]
theorem lcp_comm : ∀ bs cs : List Bool, lcp bs cs = lcp cs bs
  | [], [] => rfl
  | [], c :: cs => rfl
  | b :: bs, [] => rfl
  | b :: bs, c :: cs => by
    unfold lcp
    by_cases e : b = c
    · rw [if_pos e, if_pos e.symm, lcp_comm bs cs]
    · rw [if_neg e, if_neg (fun h => e h.symm)]
theorem lcp_le : ∀ bs cs : List Bool, lcp bs cs ≤ bs.length ∧ lcp bs cs ≤ cs.length
  | [], cs => by cases cs <;> simp [lcp]
  | b :: bs, [] => by simp [lcp]
  | b :: bs, c :: cs => by
    have := lcp_le bs cs
    unfold lcp
    split <;> simp <;> omega
theorem lcp_take : ∀ bs cs : List Bool, bs.take (lcp bs cs) = cs.take (lcp bs cs)
  | [], cs => by cases cs <;> simp [lcp]
  | b :: bs, [] => by simp [lcp]
  | b :: bs, c :: cs => by
    unfold lcp
    by_cases e : b = c
    · rw [if_pos e]; simp [e, lcp_take bs cs]
    · rw [if_neg e]; simp
theorem lcp_ne : ∀ {bs cs : List Bool}, lcp bs cs < bs.length → lcp bs cs < cs.length → bs[lcp bs cs]?.getD false = !(cs[lcp bs cs]?.getD false)
  | [], cs, h, _ => by simp at h
  | b :: bs, [], _, h => by simp at h
  | b :: bs, c :: cs, h1, h2 => by
    unfold lcp at *
    by_cases e : b = c
    · rw [if_pos e] at h1 h2 ⊢
      simpa using lcp_ne (by simpa using h1) (by simpa using h2)
    · rw [if_neg e]
      cases b <;> cases c <;> simp_all
theorem lcp_pre {bs cs : List Bool} : lcp bs cs = bs.length ↔ bs <+: cs := by
  constructor
  · intro h
    have := lcp_take bs cs
    rw [h, List.take_length] at this
    rw [this]; exact List.take_prefix _ _
  · rintro ⟨t, rfl⟩
    exact lcp_of (fun i hi => by rw [List.getElem?_append_left hi]) (Nat.le_refl _) (by simp) (.inl rfl)
theorem com_lcp {W : Nat} (h1 : 1 ≤ W) (h2 : W ≤ 128) {bs cs : List Bool} (hb : bs.length ≤ W) (hc : cs.length ≤ W) : min (min (comN (valOf W bs) (valOf W cs) W) bs.length) cs.length = (lcp bs cs : Int) := by
  have hW : isW (W : Int) = true := by simp [isW]; omega
  have ib := val_is h2 hb
  have ic := val_is h2 hc
  have eb : cutN (valOf W bs) W = valOf W bs := by rw [cut_yes hW, Int.toNat_natCast]; exact Nat.mod_eq_of_lt (val_lt hb)
  have ec : cutN (valOf W cs) W = valOf W cs := by rw [cut_yes hW, Int.toNat_natCast]; exact Nat.mod_eq_of_lt (val_lt hc)
  obtain ⟨r1, r2⟩ := com_range ib ic hW
  have hm := com_mask ib ic hW
  have hbit := com_bit ib ic hW
  rw [eb, ec] at hm hbit
  obtain ⟨c, hcc⟩ := Int.eq_ofNat_of_zero_le r1
  rw [hcc] at hm hbit r2 ⊢
  have hcW : c ≤ W := by omega
  rw [val_mask hcW hb, val_mask hcW hc] at hm
  have lt1 : (bs.take c).length ≤ W := Nat.le_trans (List.length_take_le _ _) hcW
  have lt2 : (cs.take c).length ≤ W := Nat.le_trans (List.length_take_le _ _) hcW
  have heq : ∀ i, i < c → bs[i]?.getD false = cs[i]?.getD false := fun i hi => by
    have e1 := val_at lt1 (show i < W by omega)
    have e2 := val_at lt2 (show i < W by omega)
    rw [hm, e2, List.getElem?_take, List.getElem?_take, if_pos hi, if_pos hi] at e1
    exact e1.symm
  have hne : c < W → bs[c]?.getD false ≠ cs[c]?.getD false := fun hlt e => by
    have h3 := (hbit (by omega)).1
    unfold bitN at h3
    rw [hW, show decide (0 ≤ (c : Int)) = true by simp, show decide ((c : Int) < (W : Int)) = true by simp; omega, show ((W : Int) - 1 - (c : Int)).toNat = W - 1 - c by omega, val_at hb hlt, val_at hc hlt, e] at h3
    revert h3; cases cs[c]?.getD false <;> simp
  have hk : lcp bs cs = min (min c bs.length) cs.length := by
    refine lcp_of (fun i hi => ?_) (by omega) (by omega) ?_
    · have hi1 : i < bs.length := by omega
      have hi2 : i < cs.length := by omega
      have := heq i (by omega)
      rw [List.getElem?_eq_getElem hi1, List.getElem?_eq_getElem hi2] at this ⊢
      exact congrArg some this
    · by_cases g1 : c < bs.length
      · by_cases g2 : c < cs.length
        · right; right
          rw [show min (min c bs.length) cs.length = c by omega]
          intro e
          exact hne (by omega) (by rw [e])
        · right; left; omega
      · omega
  rw [hk]; omega
theorem side_bit {W : Nat} (h1 : 1 ≤ W) (h2 : W ≤ 128) {bs : List Bool} (hb : bs.length ≤ W) (n : Nat) : bitN (valOf W bs) W n = bs[n]?.getD false := by
  have hW : isW (W : Int) = true := by simp [isW]; omega
  unfold bitN
  rw [hW, show decide (0 ≤ (n : Int)) = true by simp]
  by_cases hn : n < W
  · rw [show decide ((n : Int) < (W : Int)) = true by simp; omega, show ((W : Int) - 1 - (n : Int)).toNat = W - 1 - n by omega, val_at hb hn]; rfl
  · rw [show decide ((n : Int) < (W : Int)) = false by simp; omega, List.getElem?_eq_none (by omega)]; rfl
end Go.Proofs.Ytgdpplipahhffaa
namespace Go.Proofs.Ytgdpplipahhffaa
set_option linter.unusedVariables false
set_option linter.unusedSimpArgs false

/-- The order of keys. -/
def klt : List Bool → List Bool → Bool
  | [], [] => false
  | [], _ :: _ => true
  | _ :: _, [] => false
  | a :: xs, b :: ys => (!a && b) || (a == b && klt xs ys)
theorem klt_irrefl : ∀ a, klt a a = false
  | [] => rfl
  | a :: xs => by simp [klt, klt_irrefl xs]
theorem klt_ne {a b : List Bool} (h : klt a b = true) : a ≠ b := fun e => by rw [e, klt_irrefl] at h; cases h
theorem klt_trans : ∀ {a b c : List Bool}, klt a b = true → klt b c = true → klt a c = true
  | [], [], c, h, _ => by simp [klt] at h
  | [], b :: bs, [], _, h => by simp [klt] at h
  | [], b :: bs, c :: cs, _, _ => rfl
  | a :: xs, [], c, h, _ => by simp [klt] at h
  | a :: xs, b :: bs, [], _, h => by simp [klt] at h
  | a :: xs, b :: bs, c :: cs, h, k => by
    have ih := @klt_trans xs bs cs
    simp only [klt] at *
    cases a <;> cases b <;> cases c <;> simp_all
theorem klt_tri : ∀ (a b : List Bool), a ≠ b → klt a b = true ∨ klt b a = true
  | [], [], h => absurd rfl h
  | [], b :: bs, _ => .inl rfl
  | a :: xs, [], _ => .inr rfl
  | a :: xs, b :: bs, h => by
    have ih := klt_tri xs bs
    simp only [klt]
    cases a <;> cases b <;> simp_all
theorem klt_asymm {a b : List Bool} (h : klt a b = true) : klt b a = false := by
  cases e : klt b a
  · rfl
  · exact absurd rfl (klt_ne (klt_trans h e))
theorem klt_append : ∀ (c a b : List Bool), klt (c ++ a) (c ++ b) = klt a b
  | [], a, b => rfl
  | x :: c, a, b => by simp [klt, klt_append c a b]
theorem klt_pre {a b : List Bool} (h : a <+: b) (hne : a ≠ b) : klt a b = true := by
  obtain ⟨t, rfl⟩ := h
  have := klt_append a [] t
  rw [List.append_nil] at this
  rw [this]
  cases t
  · simp at hne
  · rfl
theorem klt_side {c a b : List Bool} (h : c ++ [false] <+: a) (k : c ++ [true] <+: b) : klt a b = true := by
  obtain ⟨s, rfl⟩ := h
  obtain ⟨t, rfl⟩ := k
  rw [List.append_assoc, List.append_assoc, klt_append]; rfl
theorem klt_own {c a : List Bool} {i : Bool} (h : c ++ [i] <+: a) : klt c a = true :=
  klt_pre ((List.prefix_append _ _).trans h) (fun e => by have := h.length_le; rw [e] at this; simp at this; omega)
section
variable {V : Type}
abbrev Srt (L : List (List Bool × V)) : Prop := L.Pairwise fun a b => klt a.1 b.1 = true
/-- A thing put in its place. -/
def upd (p : List Bool) (v : V) : List (List Bool × V) → List (List Bool × V)
  | [] => [(p, v)]
  | y :: L => if klt y.1 p = true then y :: upd p v L else if y.1 = p then (p, v) :: L else (p, v) :: y :: L
def del (p : List Bool) (L : List (List Bool × V)) : List (List Bool × V) := L.filter fun y => decide (y.1 ≠ p)
def look (p : List Bool) (L : List (List Bool × V)) : Option V := (L.find? fun y => decide (y.1 = p)).map (·.2)
theorem look_cons (p : List Bool) (y : List Bool × V) (L) : look p (y :: L) = if y.1 = p then some y.2 else look p L := by
  unfold look
  rw [List.find?_cons]
  by_cases h : y.1 = p <;> simp [h]
theorem look_some : ∀ {L : List (List Bool × V)} {p : List Bool} {v : V}, look p L = some v → (p, v) ∈ L
  | [], p, v, h => by simp [look] at h
  | y :: L, p, v, h => by
    rw [look_cons] at h
    split at h
    · rename_i e; cases h; rw [← e]; simp
    · exact List.mem_cons_of_mem _ (look_some h)
theorem look_none {L : List (List Bool × V)} {p : List Bool} : look p L = none ↔ ∀ y ∈ L, y.1 ≠ p := by
  unfold look; simp
theorem look_mem : ∀ {L : List (List Bool × V)} {p : List Bool} {v : V}, Srt L → (p, v) ∈ L → look p L = some v
  | [], p, v, _, h => by simp at h
  | y :: L, p, v, hs, h => by
    obtain ⟨h1, h2⟩ := List.pairwise_cons.1 hs
    rw [look_cons]
    rcases List.mem_cons.1 h with e | e
    · rw [← e, if_pos rfl]
    · rw [if_neg (klt_ne (h1 _ e)), look_mem h2 e]
theorem upd_left {p : List Bool} {v : V} : ∀ {A B : List (List Bool × V)}, (∀ y ∈ A, klt y.1 p = true) → upd p v (A ++ B) = A ++ upd p v B
  | [], B, _ => rfl
  | y :: A, B, h => by
    rw [List.cons_append, upd, if_pos (h y (by simp)), upd_left (fun z hz => h z (by simp [hz])), List.cons_append]
theorem upd_front {p : List Bool} {v : V} : ∀ {B : List (List Bool × V)}, (∀ y ∈ B, klt p y.1 = true) → upd p v B = (p, v) :: B
  | [], _ => rfl
  | y :: B, h => by
    have := h y (by simp)
    rw [upd, klt_asymm this, if_neg (by simp), if_neg (fun e => klt_ne this e.symm)]
theorem upd_right {p : List Bool} {v : V} : ∀ {A B : List (List Bool × V)}, (∀ y ∈ B, klt p y.1 = true) → upd p v (A ++ B) = upd p v A ++ B
  | [], B, h => by rw [List.nil_append, upd_front h]; rfl
  | y :: A, B, h => by
    rw [List.cons_append, upd, upd]
    split
    · rw [upd_right h, List.cons_append]
    · split <;> rfl
theorem upd_at {p : List Bool} {v u : V} {B : List (List Bool × V)} : upd p v ((p, u) :: B) = (p, v) :: B := by
  rw [upd, klt_irrefl, if_neg (by simp), if_pos rfl]
theorem mem_upd : ∀ {p : List Bool} {v : V} {L : List (List Bool × V)}, Srt L → ∀ y, y ∈ upd p v L ↔ y = (p, v) ∨ (y ∈ L ∧ y.1 ≠ p)
  | p, v, [], _, y => by simp [upd]
  | p, v, x :: L, hs, y => by
    obtain ⟨h1, h2⟩ := List.pairwise_cons.1 hs
    rw [upd]
    split
    · rename_i hx
      rw [List.mem_cons, mem_upd h2, List.mem_cons]
      have := klt_ne hx
      constructor
      · rintro (rfl | h | h)
        · exact .inr ⟨.inl rfl, this⟩
        · exact .inl h
        · exact .inr ⟨.inr h.1, h.2⟩
      · rintro (h | ⟨rfl | h, h'⟩)
        · exact .inr (.inl h)
        · exact .inl rfl
        · exact .inr (.inr ⟨h, h'⟩)
    · rename_i hx
      split
      · rename_i e
        subst e
        rw [List.mem_cons, List.mem_cons]
        constructor
        · rintro (h | h)
          · exact .inl h
          · exact .inr ⟨.inr h, fun e => klt_ne (h1 y h) e.symm⟩
        · rintro (h | ⟨rfl | h, h'⟩)
          · exact .inl h
          · exact absurd rfl h'
          · exact .inr h
      · rename_i e
        have hp : klt p x.1 = true := (klt_tri x.1 p e).resolve_left hx
        rw [List.mem_cons, List.mem_cons]
        constructor
        · rintro (h | rfl | h)
          · exact .inl h
          · exact .inr ⟨.inl rfl, e⟩
          · exact .inr ⟨.inr h, fun e' => klt_ne (klt_trans hp (h1 y h)) e'.symm⟩
        · rintro (h | ⟨h, h'⟩)
          · exact .inl h
          · exact .inr h
theorem srt_upd : ∀ {p : List Bool} {v : V} {L : List (List Bool × V)}, Srt L → Srt (upd p v L)
  | p, v, [], _ => by simp [upd]
  | p, v, x :: L, hs => by
    obtain ⟨h1, h2⟩ := List.pairwise_cons.1 hs
    rw [upd]
    split
    · rename_i hx
      refine List.pairwise_cons.2 ⟨fun y hy => ?_, srt_upd h2⟩
      rcases (mem_upd h2 y).1 hy with rfl | h
      · exact hx
      · exact h1 y h.1
    · rename_i hx
      split
      · rename_i e
        exact List.pairwise_cons.2 ⟨fun y hy => by rw [← e]; exact h1 y hy, h2⟩
      · rename_i e
        have hp : klt p x.1 = true := (klt_tri x.1 p e).resolve_left hx
        refine List.pairwise_cons.2 ⟨fun y hy => ?_, hs⟩
        rcases List.mem_cons.1 hy with rfl | hy
        · exact hp
        · exact klt_trans hp (h1 y hy)
theorem len_upd : ∀ {p : List Bool} {v : V} {L : List (List Bool × V)}, Srt L → (upd p v L).length = if (look p L).isSome then L.length else L.length + 1
  | p, v, [], _ => by simp [upd, look]
  | p, v, x :: L, hs => by
    obtain ⟨h1, h2⟩ := List.pairwise_cons.1 hs
    rw [upd, look_cons]
    split
    · rename_i hx
      rw [if_neg (klt_ne hx), List.length_cons, len_upd h2]
      split <;> simp
    · rename_i hx
      split
      · simp
      · rename_i e
        have hp : klt p x.1 = true := (klt_tri x.1 p e).resolve_left hx
        have : look p L = none := look_none.2 fun y hy e' => klt_ne (klt_trans hp (h1 y hy)) e'.symm
        rw [this]; simp
theorem srt_del {p : List Bool} {L : List (List Bool × V)} (h : Srt L) : Srt (del p L) := h.filter _
theorem mem_del {p : List Bool} {L : List (List Bool × V)} (y) : y ∈ del p L ↔ y ∈ L ∧ y.1 ≠ p := by unfold del; simp
theorem del_append {p : List Bool} (A B : List (List Bool × V)) : del p (A ++ B) = del p A ++ del p B := List.filter_append ..
theorem del_none {p : List Bool} {L : List (List Bool × V)} (h : ∀ y ∈ L, y.1 ≠ p) : del p L = L := by
  unfold del; rw [List.filter_eq_self]; intro y hy; simpa using h y hy
theorem len_del : ∀ {p : List Bool} {L : List (List Bool × V)}, Srt L → (look p L).isSome → (del p L).length + 1 = L.length
  | p, [], _, h => by simp [look] at h
  | p, x :: L, hs, h => by
    obtain ⟨h1, h2⟩ := List.pairwise_cons.1 hs
    rw [look_cons] at h
    by_cases e : x.1 = p
    · have : del p (x :: L) = L := by
        have h3 : del p L = L := del_none fun y hy e' => klt_ne (h1 y hy) (e.trans e'.symm)
        show List.filter _ _ = _
        rw [List.filter_cons, if_neg (by simpa using e)]; exact h3
      rw [this]; rfl
    · rw [if_neg e] at h
      have ih := len_del h2 h
      show (List.filter _ _).length + 1 = _
      rw [List.filter_cons, if_pos (by simpa using e), List.length_cons, List.length_cons]
      exact congrArg (· + 1) ih
theorem look_upd {p q : List Bool} {v : V} {L : List (List Bool × V)} (hs : Srt L) : look q (upd p v L) = if q = p then some v else look q L := by
  by_cases h : q = p
  · rw [if_pos h, h]; exact look_mem (srt_upd hs) ((mem_upd hs _).2 (.inl rfl))
  · rw [if_neg h]
    cases e : look q L with
    | none => rw [look_none] at *; intro y hy; rcases (mem_upd hs y).1 hy with rfl | h'
              · exact fun e => h e.symm
              · exact e y h'.1
    | some u => exact look_mem (srt_upd hs) ((mem_upd hs _).2 (.inr ⟨look_some e, h⟩))
theorem look_del {p q : List Bool} {L : List (List Bool × V)} (hs : Srt L) : look q (del p L) = if q = p then none else look q L := by
  by_cases h : q = p
  · rw [if_pos h, h, look_none]; intro y hy; exact ((mem_del y).1 hy).2
  · rw [if_neg h]
    cases e : look q L with
    | none => rw [look_none] at *; intro y hy; exact e y ((mem_del y).1 hy).1
    | some u => exact look_mem (srt_del hs) ((mem_del _).2 ⟨look_some e, h⟩)
theorem srt_ext {A B : List (List Bool × V)} (ha : Srt A) (hb : Srt B) (h : ∀ y, y ∈ A ↔ y ∈ B) : A = B := by
  have nd : ∀ {L : List (List Bool × V)}, Srt L → L.Nodup := fun h => List.Pairwise.imp (S := fun a b => a ≠ b) (fun h e => klt_ne h (congrArg Prod.fst e)) h
  have p : A.Perm B := (List.perm_ext_iff_of_nodup (nd ha) (nd hb)).2 h
  exact p.eq_of_pairwise (fun a b _ _ h1 h2 => absurd rfl (klt_ne (klt_trans h1 h2))) ha hb
end
end Go.Proofs.Ytgdpplipahhffaa
