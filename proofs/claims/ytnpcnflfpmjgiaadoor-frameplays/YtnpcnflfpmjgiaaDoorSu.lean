/- The cyclic sum: package sums' and the document's calls: what each answers; its turns are linear; bits turned within 32 change it. -/
import Derived.Test.YtnpcnflfpmjgiaaDoorProg
import Derived.WalkKit
import Derived.WalkSpells
import Derived.WalkLawsBesides
import Derived.Handy
import Derived.Laws.BitsAllLaws
import Derived.Laws.IdiomStrings
import Derived.RowKit3
import Derived.WalkSmall
import Derived.Outline
import Derived.Below
namespace Go.Proofs.YtnpcnflfpmjgiaaDoor
open Go.RowKit
set_option linter.unusedVariables false
set_option linter.unusedSimpArgs false

theorem byte_at (s : ByteArray) {p : Nat} (h : p < s.size) : s.data.toList.drop p = s[p] :: s.data.toList.drop (p + 1) := by
  have h' : p < s.data.toList.length := by simpa using h
  rw [List.drop_eq_getElem_cons h']; rfl
theorem over_pow (k F : Nat) (h : F < 2 ^ k) : (2 ^ k - 1) ^^^ F = 2 ^ k - 1 - F := by
  have e := congrArg BitVec.toNat (BitVec.allOnes_xor (x := BitVec.ofNat k F))
  rw [BitVec.toNat_xor, BitVec.toNat_not, BitVec.toNat_allOnes, BitVec.toNat_ofNat, Nat.mod_eq_of_lt h] at e
  exact e
theorem not32 (m : Nat) (h : m < 4294967296) : bits .xor .u32 IntKind.u32.max (m : Int) = ((4294967295 - m : Nat) : Int) := by
  have := u32_xor_nat 4294967295 m (by decide) (by omega)
  rw [show IntKind.u32.max = ((4294967295 : Nat) : Int) by decide, this]
  exact congrArg Nat.cast (over_pow 32 m (by omega))
def halvesN : List Nat := [0, 498536548, 997073096, 651767980, 1994146192, 1802195444, 1303535960, 1342533948, 3988292384, 4027552580, 3604390888, 3412177804, 2607071920, 2262029012, 2685067896, 3183342108]
def hlf (d : Nat) : Nat := halvesN.getD d 0
theorem half_lt : ∀ d, d < 16 → hlf d < 4294967296 := by decide
/-- The table of halves lies in memory. -/
def Tab (w : World) : Prop := ∀ d, d < 16 → w.cell? ⟨1, d, none⟩ = some (.int .u32 (hlf d : Int))
theorem Tab.below {w w' : World} (h : Tab w) (hb : Below w.heap.size w w') : Tab w' := fun d hd => by
  have hz : 1 < w.heap.size := World.block_lt_of_cell? w ⟨1, d, none⟩ (h d hd)
  rw [hb.cell (p := ⟨1, d, none⟩) hz]; exact h d hd
theorem Tab.pos {w : World} (h : Tab w) : 1 < w.heap.size := World.block_lt_of_cell? w ⟨1, 0, none⟩ (h 0 (by decide))
/-- Four turns. -/
def fourN (r : Nat) : Nat := (r / 16) ^^^ hlf (r % 16)
/-- Eight turns. -/
def forthN (r : Nat) : Nat := fourN (fourN r)
theorem fourN_lt (r : Nat) (h : r < 4294967296) : fourN r < 4294967296 := by
  unfold fourN
  exact Nat.xor_lt_two_pow (n := 32) (by omega) (half_lt _ (by omega))
theorem forthN_lt (r : Nat) (h : r < 4294967296) : forthN r < 4294967296 := fourN_lt _ (fourN_lt _ h)
theorem and15 (r : Nat) (h : r < 4294967296) : bits .and .u32 (r : Int) 15 = ((r % 16 : Nat) : Int) := by
  have := u32_and_nat r 15 h (by decide)
  rw [show ((15 : Nat) : Int) = 15 from rfl] at this
  rw [this]; congr 1
  exact Nat.and_two_pow_sub_one_eq_mod r 4
theorem four_word (r : Nat) (h : r < 4294967296) : bits .xor .u32 ((r : Int) / 16) (hlf (r % 16) : Int) = ((fourN r : Nat) : Int) := by
  have := u32_xor_nat (r / 16) (hlf (r % 16)) (by omega) (half_lt _ (by omega))
  rw [show ((r / 16 : Nat) : Int) = (r : Int) / 16 by omega] at this
  exact this
set_option maxHeartbeats 1000000 in
theorem forth_any (r : Nat) (hr : r < 4294967296) (w : World) (hT : Tab w) : Calls Tryd.prog 99 #[.int .u32 r] w fun e w' => e = .returned (.int .u32 (forthN r)) ∧ w' = w := by
  have A1 := and15 r hr
  have c1 := hT (r % 16) (by omega)
  have d1 : r % 16 < 16 := by omega
  have F1 := four_word r hr
  have h2 := fourN_lt r hr
  have A2 := and15 (fourN r) h2
  have c2 := hT (fourN r % 16) (by omega)
  have d2 : fourN r % 16 < 16 := by omega
  have F2 := four_word (fourN r) h2
  have HF : Hid (forthN r = fourN (fourN r)) := by show _ = _; rfl
  generalize fourN (fourN r) = q at *
  generalize hlf (fourN r % 16) = y2 at *
  generalize fourN r % 16 = x2 at *
  generalize fourN r = p at *
  generalize hlf (r % 16) = y1 at *
  generalize r % 16 = x1 at *
  clear hT
  go_enter Tryd.func99, Tryd.ntmps99
  go_wp2
  go_ret
  exact ⟨by rw [HF.out]; rfl, rfl⟩
def takeN (r b : Nat) : Nat := forthN (r ^^^ b)
theorem takeN_lt (r b : Nat) (h : r < 4294967296) (hb : b < 256) : takeN r b < 4294967296 := forthN_lt _ (Nat.xor_lt_two_pow (n := 32) h (by omega))
set_option maxHeartbeats 1000000 in
theorem take_any (r b : Nat) (hr : r < 4294967296) (hb : b < 256) (w : World) (hT : Tab w) : Calls Tryd.prog 98 #[.int .u32 r, .int .u8 b] w fun e w' => e = .returned (.int .u32 (takeN r b)) ∧ w' = w := by
  have E := u32_xor_nat r b hr (by omega)
  have hx : r ^^^ b < 4294967296 := Nat.xor_lt_two_pow (n := 32) hr (by omega)
  have C : Hid (∀ w : World, Tab w → Calls Tryd.prog 99 #[.int .u32 ((r ^^^ b : Nat) : Int)] w fun e w' => e = .returned (.int .u32 (forthN (r ^^^ b))) ∧ w' = w) := fun w hT => forth_any _ hx w hT
  have HF : Hid (takeN r b = forthN (r ^^^ b)) := by show _ = _; rfl
  have W : IntKind.u32.wrap (b : Int) = (b : Int) := by rw [IntKind.wrap_u32]; omega
  generalize forthN (r ^^^ b) = q at *
  generalize r ^^^ b = x at *
  go_enter Tryd.func98, Tryd.ntmps98
  go_wp2_with fail
  refine (C.out _ hT).mono ?_
  rintro e w1 ⟨rfl, rfl⟩
  go_wp2
  go_ret
  exact ⟨by rw [HF.out]; rfl, rfl⟩
/-- The register behind bytes. -/
def regN (r : Nat) (l : List UInt8) : Nat := l.foldl (fun r b => takeN r b.toNat) r
theorem regN_cons (r : Nat) (b : UInt8) (l : List UInt8) : regN r (b :: l) = regN (takeN r b.toNat) l := rfl
theorem regN_lt : ∀ (l : List UInt8) (r : Nat), r < 4294967296 → regN r l < 4294967296
  | [], r, h => h
  | b :: l, r, h => by rw [regN_cons]; exact regN_lt l _ (takeN_lt r _ h b.toNat_lt)
def moreC (s : Nat) (l : List UInt8) : Nat := 4294967295 - regN (4294967295 - s) l
theorem moreC_lt (s : Nat) (l : List UInt8) : moreC s l < 4294967296 := by unfold moreC; omega
set_option maxHeartbeats 1000000 in
theorem more_any (n : Nat) (hn : n < 4294967296) (s : ByteArray) (hs : s.size ≤ 9223372036854775807) (w : World) (hT : Tab w) : Calls Tryd.prog 95 #[.int .u32 n, .string s] w fun e w' => e = .returned (.int .u32 (moreC n s.data.toList)) ∧ w' = w := by
  have E := not32 n hn
  have HM : Hid (moreC n s.data.toList = 4294967295 - regN (4294967295 - n) s.data.toList) := by show _ = _; rfl
  have hr0 : 4294967295 - n < 4294967296 := by omega
  generalize 4294967295 - n = r0 at *
  generalize hM : moreC n s.data.toList = M at *
  clear hM
  go_enter Tryd.func95, Tryd.ntmps95
  go_wp2
  go_loopw [5, 6] (fun a i wr => ∃ p r : Nat, a = .int .u32 r ∧ i = .int .i64 p ∧ p ≤ s.size ∧ r < 4294967296 ∧ regN r (s.data.toList.drop p) = regN r0 s.data.toList ∧ wr = w) (fun _ i _ => (s.size - intOf i).toNat)
  case atStart => exact ⟨0, r0, rfl, rfl, by omega, hr0, rfl, rfl⟩
  case round =>
    obtain ⟨p, r, rfl, rfl, hp, hr, hx, rfl⟩ := hrel
    by_cases h : p < s.size
    · have hb := (s[p]).toNat_lt
      have e := byte_at s h
      have HX : Hid (regN r (s.data.toList.drop p) = regN r0 s.data.toList) := hx
      have HE : Hid (s.data.toList.drop p = s[p] :: s.data.toList.drop (p + 1)) := e
      have C : Hid (∀ w : World, Tab w → Calls Tryd.prog 98 #[.int .u32 (r : Int), .int .u8 ((s[p]).toNat : Int)] w fun e w' => e = .returned (.int .u32 (takeN r (s[p]).toNat)) ∧ w' = w) := fun w hT => take_any r _ hr hb w hT
      have hl := takeN_lt r _ hr hb
      clear hx e
      go_wp2_with fail
      refine (C.out _ hT).mono ?_
      rintro e w1 ⟨rfl, rfl⟩
      go_wp2
      refine ⟨⟨p + 1, takeN r (s[p]).toNat, rfl, rfl, by omega, hl, ?_, trivial⟩, by simp only [intOf]; omega⟩
      rw [← HX.out, HE.out, regN_cons]
    · have e2 : s.data.toList.drop p = [] := List.drop_eq_nil_of_le (by simp; omega)
      rw [e2] at hx
      have hx' : r = regN r0 s.data.toList := hx
      have E2 := not32 r hr
      have HN : Hid (bits .xor .u32 IntKind.u32.max (r : Int) = ((4294967295 - r : Nat) : Int)) := E2
      have HX : Hid (r = regN r0 s.data.toList) := hx'
      clear hx hx' E2 e2
      go_wp2
      go_ret
      exact ⟨by rw [HM.out, ← HX.out, ← HN.out]; rfl, rfl⟩
/-- A row of texts lies in memory. -/
def Strs (w : World) (b o : Nat) (l : List ByteArray) : Prop := ∀ i (h : i < l.length), w.cell? ⟨b, o + i, none⟩ = some (.string l[i])
def sumC (n : Nat) (l : List ByteArray) : Nat := l.foldl (fun n s => moreC n s.data.toList) n
theorem sumC_at (n : Nat) (l : List ByteArray) {p : Nat} (h : p < l.length) : sumC n (l.drop p) = sumC (moreC n (l[p]).data.toList) (l.drop (p + 1)) := by
  rw [List.drop_eq_getElem_cons h]; rfl
set_option maxHeartbeats 1000000 in
theorem sum_any (b o cap : Nat) (l : List ByteArray) (hl : l.length ≤ 140737488351232) (hs : ∀ s ∈ l, s.size ≤ 9223372036854775807) (w : World) (hT : Tab w) (hS : Strs w b o l) :
    Calls Tryd.prog 85 #[.slice (some ⟨b, o, none⟩) l.length cap] w fun e w' => e = .returned (.int .u32 (sumC 0 l)) ∧ w' = w := by
  go_enter Tryd.func85, Tryd.ntmps85
  go_wp2
  go_loopw [3, 8] (fun a i wr => ∃ p n : Nat, a = .int .u32 n ∧ i = .int .i64 p ∧ p ≤ l.length ∧ n < 4294967296 ∧ sumC n (l.drop p) = sumC 0 l ∧ wr = w) (fun _ i _ => (l.length - intOf i).toNat)
  case atStart => exact ⟨0, 0, rfl, rfl, by omega, by decide, rfl, rfl⟩
  case round =>
    obtain ⟨p, n, rfl, rfl, hp, hn, hx, rfl⟩ := hrel
    by_cases h : p < l.length
    · have hc := hS p h
      have C : Hid (∀ w : World, Tab w → Calls Tryd.prog 95 #[.int .u32 (n : Int), .string l[p]] w fun e w' => e = .returned (.int .u32 (moreC n (l[p]).data.toList)) ∧ w' = w) := fun w hT => more_any n hn _ (hs _ (List.getElem_mem h)) w hT
      have HX : Hid (sumC n (l.drop p) = sumC 0 l) := hx
      have HE : Hid (sumC n (l.drop p) = sumC (moreC n (l[p]).data.toList) (l.drop (p + 1))) := sumC_at n l h
      have hm := moreC_lt n (l[p]).data.toList
      have HS : Hid (Strs wr b o l) := hS
      clear hx hS
      generalize moreC n (l[p]).data.toList = M at *
      generalize l[p] = S at *
      go_wp2_with fail
      refine (C.out _ hT).mono ?_
      rintro e w1 ⟨rfl, rfl⟩
      go_wp2
      refine ⟨⟨p + 1, M, rfl, rfl, by omega, hm, ?_, trivial⟩, by simp only [intOf]; omega⟩
      rw [← HX.out, HE.out]
    · have e2 : l.drop p = [] := List.drop_eq_nil_of_le (by omega)
      rw [e2] at hx
      have hx' : n = sumC 0 l := hx
      have HX : Hid (n = sumC 0 l) := hx'
      clear hx hx' e2
      go_wp2
      go_ret
      exact ⟨by rw [← HX.out]; rfl, rfl⟩
/-- A turn of the register. -/
def turnN (r : Nat) : Nat := if r % 2 = 1 then (r / 2) ^^^ 3988292384 else r / 2
theorem turnN_odd {r : Nat} (h : r % 2 = 1) : turnN r = (r / 2) ^^^ 3988292384 := by rw [turnN, if_pos h]
theorem turnN_even {r : Nat} (h : ¬ r % 2 = 1) : turnN r = r / 2 := by rw [turnN, if_neg h]
theorem turnN_lt (r : Nat) (h : r < 4294967296) : turnN r < 4294967296 := by
  by_cases e : r % 2 = 1
  · rw [turnN_odd e]; exact Nat.xor_lt_two_pow (n := 32) (by omega) (by decide)
  · rw [turnN_even e]; omega
theorem xor_half (a b : Nat) : (a ^^^ b) / 2 = a / 2 ^^^ b / 2 := by
  apply Nat.eq_of_testBit_eq; intro i
  simp only [Nat.testBit_div_two, Nat.testBit_xor]
theorem xor_low (a b : Nat) : ((a ^^^ b) % 2 = 1) ↔ ¬ ((a % 2 = 1) ↔ (b % 2 = 1)) := by
  have h := Nat.testBit_xor a b 0
  simp only [Nat.testBit_zero] at h
  by_cases ha : a % 2 = 1 <;> by_cases hb : b % 2 = 1 <;> simp [ha, hb] at h <;> simp [ha, hb] <;> omega
theorem xor_swap (a b p : Nat) : (a ^^^ p) ^^^ (b ^^^ p) = a ^^^ b := by
  apply Nat.eq_of_testBit_eq; intro i
  simp only [Nat.testBit_xor]
  cases a.testBit i <;> cases b.testBit i <;> cases p.testBit i <;> rfl
theorem xor_mid (a b p : Nat) : (a ^^^ b) ^^^ p = (a ^^^ p) ^^^ b := by
  rw [Nat.xor_assoc, Nat.xor_comm b p, ← Nat.xor_assoc]
theorem turn_xor (a b : Nat) : turnN (a ^^^ b) = turnN a ^^^ turnN b := by
  have h := xor_low a b
  by_cases ha : a % 2 = 1 <;> by_cases hb : b % 2 = 1
  · rw [turnN_odd ha, turnN_odd hb, turnN_even (by rw [h]; simp [ha, hb]), xor_half, xor_swap]
  · rw [turnN_odd ha, turnN_even hb, turnN_odd (by rw [h]; simp [ha, hb]), xor_half, xor_mid]
  · rw [turnN_even ha, turnN_odd hb, turnN_odd (by rw [h]; simp [ha, hb]), xor_half, Nat.xor_assoc]
  · rw [turnN_even ha, turnN_even hb, turnN_even (by rw [h]; simp [ha, hb]), xor_half]
/-- So many turns. -/
def turnsN : Nat → Nat → Nat
  | 0, r => r
  | k + 1, r => turnsN k (turnN r)
theorem turns_xor : ∀ (k a b : Nat), turnsN k (a ^^^ b) = turnsN k a ^^^ turnsN k b
  | 0, _, _ => rfl
  | k + 1, a, b => by rw [turnsN, turnsN, turnsN, turn_xor, turns_xor k]
theorem turns_lt : ∀ (k r : Nat), r < 4294967296 → turnsN k r < 4294967296
  | 0, _, h => h
  | k + 1, r, h => by rw [turnsN]; exact turns_lt k _ (turnN_lt r h)
theorem turns_add : ∀ (k j r : Nat), turnsN (k + j) r = turnsN j (turnsN k r)
  | 0, j, r => by rw [Nat.zero_add]; rfl
  | k + 1, j, r => by rw [Nat.add_right_comm, turnsN, turnsN, turns_add k j]
theorem turn_double (q : Nat) : turnN (2 * q) = q := by rw [turnN_even (by omega)]; omega
theorem turns_four (q : Nat) : turnsN 4 (16 * q) = q := by
  rw [show 16 * q = 2 * (2 * (2 * (2 * q))) by omega]
  simp only [turnsN, turn_double]
theorem split16 (r : Nat) : r = (16 * (r / 16)) ^^^ (r % 16) := by
  apply Nat.eq_of_testBit_eq; intro i
  rw [Nat.testBit_xor, show r % 16 = r % 2 ^ 4 from rfl, Nat.testBit_mod_two_pow, Nat.mul_comm, show r / 16 * 16 = r / 2 ^ 4 * 2 ^ 4 from rfl, Nat.testBit_mul_two_pow, Nat.testBit_div_two_pow]
  by_cases h : i < 4
  · simp [h, show ¬ 4 ≤ i by omega]
  · simp [h, show 4 ≤ i by omega]
theorem half_turns : ∀ d, d < 16 → turnsN 4 d = hlf d := by decide
theorem four_turns (r : Nat) : fourN r = turnsN 4 r := by
  conv => rhs; rw [split16 r, turns_xor, turns_four, half_turns _ (Nat.mod_lt _ (by decide))]
  rfl
theorem forth_turns (r : Nat) : forthN r = turnsN 8 r := by
  rw [forthN, four_turns, four_turns, ← turns_add]
theorem turn_word (r : Nat) (h : r < 4294967296) : bits .xor .u32 ((r : Int) / 2) 3988292384 = ((r / 2 ^^^ 3988292384 : Nat) : Int) := by
  have := u32_xor_nat (r / 2) 3988292384 (by omega) (by decide)
  rw [show ((r / 2 : Nat) : Int) = (r : Int) / 2 by omega] at this
  exact this
set_option maxHeartbeats 1000000 in
theorem turn_any (r : Nat) (hr : r < 4294967296) (w : World) : Calls Tryd.prog 96 #[.int .u32 r] w fun e w' => e = .returned (.int .u32 (turnN r)) ∧ w' = w := by
  by_cases h : r % 2 = 1
  · have h' : (r : Int) % 2 = 1 := by omega
    have e := turn_word r hr
    have HT : Hid (turnN r = (r / 2) ^^^ 3988292384) := turnN_odd h
    generalize r / 2 ^^^ 3988292384 = q at *
    go_enter Tryd.func96, Tryd.ntmps96
    go_wp2
    go_ret
    exact ⟨by rw [HT.out]; rfl, rfl⟩
  · have h' : (r : Int) % 2 = 0 := by omega
    have HT : Hid (turnN r = r / 2) := turnN_even h
    go_enter Tryd.func96, Tryd.ntmps96
    go_wp2
    go_ret
    exact ⟨by rw [HT.out]; rfl, rfl⟩
set_option maxHeartbeats 1000000 in
theorem over_any (r : Nat) (hr : r < 4294967296) (w : World) : Calls Tryd.prog 87 #[.int .u32 r] w fun e w' => e = .returned (.int .u32 ((4294967295 - r : Nat) : Int)) ∧ w' = w := by
  have e0 : ((4294967295 : Int) - (r : Int)) = ((4294967295 - r : Nat) : Int) := by omega
  go_enter Tryd.func87, Tryd.ntmps87
  go_wp2
  go_ret
  exact ⟨by rw [← e0]; rfl, rfl⟩
theorem turns_step {j : Nat} (h : j < 8) (q : Nat) : turnsN (8 - j) q = turnsN (8 - (j + 1)) (turnN q) := by
  rw [show 8 - j = (8 - (j + 1)) + 1 by omega, turnsN]
set_option maxHeartbeats 2000000 in
theorem takes_any (r0 : Nat) (hr0 : r0 < 4294967296) (s : ByteArray) (hs : s.size ≤ 9223372036854775807) (w : World) : Calls Tryd.prog 86 #[.int .u32 r0, .string s] w fun e w' => e = .returned (.int .u32 (regN r0 s.data.toList)) ∧ w' = w := by
  go_enter Tryd.func86, Tryd.ntmps86
  go_wp2
  go_loopw [0, 5] (fun a i wr => ∃ p r : Nat, a = .int .u32 r ∧ i = .int .i64 p ∧ p ≤ s.size ∧ r < 4294967296 ∧ regN r (s.data.toList.drop p) = regN r0 s.data.toList ∧ wr = w) (fun _ i _ => (s.size - intOf i).toNat)
  case atStart => exact ⟨0, r0, rfl, rfl, by omega, hr0, rfl, rfl⟩
  case round =>
    obtain ⟨p, r, rfl, rfl, hp, hr, hx, rfl⟩ := hrel
    by_cases h : p < s.size
    · have hb := (s[p]).toNat_lt
      have e := byte_at s h
      have HX : Hid (regN r (s.data.toList.drop p) = regN r0 s.data.toList) := hx
      have HE : Hid (s.data.toList.drop p = s[p] :: s.data.toList.drop (p + 1)) := e
      have E1 := u32_xor_nat r (s[p]).toNat hr (by omega)
      have W : IntKind.u32.wrap ((s[p]).toNat : Int) = ((s[p]).toNat : Int) := by rw [IntKind.wrap_u32]; omega
      have hxl : r ^^^ (s[p]).toNat < 4294967296 := Nat.xor_lt_two_pow (n := 32) hr (by omega)
      have HT : Hid (takeN r (s[p]).toNat = turnsN 8 (r ^^^ (s[p]).toNat)) := forth_turns _
      have hl := takeN_lt r _ hr hb
      clear hx e
      generalize r ^^^ (s[p]).toNat = x at *
      generalize hT : takeN r (s[p]).toNat = T at *
      have HT2 : Hid (takeN r (s[p]).toNat = T) := hT
      clear hT
      go_wp2
      go_loopw [0, 6] (fun a k wr' => ∃ j q : Nat, a = .int .u32 q ∧ k = .int .i64 j ∧ j ≤ 8 ∧ q < 4294967296 ∧ turnsN (8 - j) q = T ∧ wr' = wr) (fun _ k _ => (8 - intOf k).toNat)
      case atStart => exact ⟨0, x, rfl, rfl, by omega, hxl, HT.out.symm, rfl⟩
      case round =>
        obtain ⟨j, q, rfl, rfl, hj, hq, ht, rfl⟩ := hrel
        by_cases h8 : j < 8
        · have C : Hid (∀ w : World, Calls Tryd.prog 96 #[.int .u32 (q : Int)] w fun e w' => e = .returned (.int .u32 (turnN q)) ∧ w' = w) := turn_any q hq
          have HQ : Hid (turnsN (8 - j) q = T) := ht
          have hl' := turnN_lt q hq
          clear ht
          generalize hq' : turnN q = q' at *
          have HQ' : Hid (turnN q = q') := hq'
          clear hq'
          go_wp2_with fail
          refine (C.out _).mono ?_
          rintro e w1 ⟨rfl, rfl⟩
          go_wp2
          refine ⟨⟨j + 1, q', rfl, rfl, by omega, hl', ?_, trivial⟩, by simp only [intOf]; omega⟩
          rw [← HQ.out, turns_step h8, HQ'.out]
        · obtain rfl : j = 8 := by omega
          have ht' : q = T := ht
          subst ht'
          clear ht
          go_wp2
          refine ⟨⟨p + 1, q, rfl, rfl, by omega, hq, ?_, trivial⟩, by simp only [intOf]; omega⟩
          rw [← HX.out, HE.out, regN_cons, HT2.out]
    · have e2 : s.data.toList.drop p = [] := List.drop_eq_nil_of_le (by simp; omega)
      rw [e2] at hx
      have hx' : r = regN r0 s.data.toList := hx
      have HX : Hid (r = regN r0 s.data.toList) := hx'
      clear hx hx' e2
      go_wp2
      go_ret
      exact ⟨by rw [← HX.out]; rfl, rfl⟩
set_option maxHeartbeats 1000000 in
theorem rmore_any (n : Nat) (hn : n < 4294967296) (s : ByteArray) (hs : s.size ≤ 9223372036854775807) (w : World) : Calls Tryd.prog 70 #[.int .u32 n, .string s] w fun e w' => e = .returned (.int .u32 (moreC n s.data.toList)) ∧ w' = w := by
  have C1 : Hid (∀ w : World, Calls Tryd.prog 87 #[.int .u32 (n : Int)] w fun e w' => e = .returned (.int .u32 ((4294967295 - n : Nat) : Int)) ∧ w' = w) := over_any n hn
  have h1 : 4294967295 - n < 4294967296 := by omega
  have C2 : Hid (∀ w : World, Calls Tryd.prog 86 #[.int .u32 ((4294967295 - n : Nat) : Int), .string s] w fun e w' => e = .returned (.int .u32 (regN (4294967295 - n) s.data.toList)) ∧ w' = w) := takes_any _ h1 s hs
  have h2 := regN_lt s.data.toList _ h1
  have C3 : Hid (∀ w : World, Calls Tryd.prog 87 #[.int .u32 ((regN (4294967295 - n) s.data.toList : Nat) : Int)] w fun e w' => e = .returned (.int .u32 ((4294967295 - regN (4294967295 - n) s.data.toList : Nat) : Int)) ∧ w' = w) := over_any _ h2
  have HM : Hid (moreC n s.data.toList = 4294967295 - regN (4294967295 - n) s.data.toList) := by show _ = _; rfl
  generalize 4294967295 - regN (4294967295 - n) s.data.toList = z at *
  generalize regN (4294967295 - n) s.data.toList = y at *
  generalize 4294967295 - n = x at *
  go_enter Tryd.func70, Tryd.ntmps70
  go_wp2_with fail
  refine (C1.out _).mono ?_
  rintro e w1 ⟨rfl, rfl⟩
  go_wp2_with fail
  refine (C2.out _).mono ?_
  rintro e w2 ⟨rfl, rfl⟩
  go_wp2_with fail
  refine (C3.out _).mono ?_
  rintro e w3 ⟨rfl, rfl⟩
  go_wp2
  go_ret
  exact ⟨by rw [HM.out]; rfl, rfl⟩
/-- What the register was ahead of a turn. -/
def undoN (r : Nat) : Nat := if 2147483648 ≤ r then 2 * (r ^^^ 3988292384) + 1 else 2 * r
theorem low31 (r : Nat) (h : r < 4294967296) (h' : 2147483648 ≤ r) : r ^^^ 3988292384 < 2147483648 := by
  have e : (r ^^^ 3988292384) / 2 ^ 31 = 0 := by
    have : (r ^^^ 3988292384) / 2 ^ 31 = r / 2 ^ 31 ^^^ 3988292384 / 2 ^ 31 := by
      apply Nat.eq_of_testBit_eq; intro i
      simp only [Nat.testBit_div_two_pow, Nat.testBit_xor]
    rw [this, show r / 2 ^ 31 = 1 by omega]
    decide
  omega
theorem undoN_lt (r : Nat) (h : r < 4294967296) : undoN r < 4294967296 := by
  unfold undoN
  split
  · have := low31 r h (by assumption); omega
  · omega
theorem xor_back (a p : Nat) : (a ^^^ p) ^^^ p = a := by rw [Nat.xor_assoc, Nat.xor_self, Nat.xor_zero]
theorem turn_undo (r : Nat) (h : r < 4294967296) : turnN (undoN r) = r := by
  unfold undoN
  split
  · rw [turnN_odd (by omega), show (2 * (r ^^^ 3988292384) + 1) / 2 = r ^^^ 3988292384 by omega, xor_back]
  · rw [turn_double]
theorem high31 (r : Nat) (h : r < 2147483648) : 2147483648 ≤ r ^^^ 3988292384 := by
  have e : (r ^^^ 3988292384) / 2 ^ 31 = 1 := by
    have : (r ^^^ 3988292384) / 2 ^ 31 = r / 2 ^ 31 ^^^ 3988292384 / 2 ^ 31 := by
      apply Nat.eq_of_testBit_eq; intro i
      simp only [Nat.testBit_div_two_pow, Nat.testBit_xor]
    rw [this, show r / 2 ^ 31 = 0 by omega]
    decide
  omega
theorem undo_turn (r : Nat) (h : r < 4294967296) : undoN (turnN r) = r := by
  by_cases e : r % 2 = 1
  · rw [turnN_odd e]
    have := high31 (r / 2) (by omega)
    rw [undoN, if_pos this, xor_back]; omega
  · rw [turnN_even e, undoN, if_neg (by omega)]; omega
def undosN : Nat → Nat → Nat
  | 0, r => r
  | k + 1, r => undosN k (undoN r)
theorem undos_lt : ∀ (k r : Nat), r < 4294967296 → undosN k r < 4294967296
  | 0, _, h => h
  | k + 1, r, h => by rw [undosN]; exact undos_lt k _ (undoN_lt r h)
theorem undos_add : ∀ (k j r : Nat), undosN (k + j) r = undosN j (undosN k r)
  | 0, j, r => by rw [Nat.zero_add]; rfl
  | k + 1, j, r => by rw [Nat.add_right_comm, undosN, undosN, undos_add k j]
theorem turns_last : ∀ (k r : Nat), turnsN (k + 1) r = turnN (turnsN k r)
  | 0, _ => rfl
  | k + 1, r => by rw [turnsN, turns_last k, turnsN]
theorem undos_last : ∀ (k r : Nat), undosN (k + 1) r = undoN (undosN k r)
  | 0, _ => rfl
  | k + 1, r => by rw [undosN, undos_last k, undosN]
theorem turns_undos : ∀ (k r : Nat), r < 4294967296 → turnsN k (undosN k r) = r
  | 0, _, _ => rfl
  | k + 1, r, h => by rw [undos_last, turnsN, turn_undo _ (undos_lt k r h), turns_undos k r h]
theorem undos_turns : ∀ (k r : Nat), r < 4294967296 → undosN k (turnsN k r) = r
  | 0, _, _ => rfl
  | k + 1, r, h => by rw [turns_last, undosN, undo_turn _ (turns_lt k r h), undos_turns k r h]
theorem split256 (r : Nat) : r = (r % 256) ^^^ (256 * (r / 256)) := by
  apply Nat.eq_of_testBit_eq; intro i
  rw [Nat.testBit_xor, show r % 256 = r % 2 ^ 8 from rfl, Nat.testBit_mod_two_pow, Nat.mul_comm, show r / 256 * 256 = r / 2 ^ 8 * 2 ^ 8 from rfl, Nat.testBit_mul_two_pow, Nat.testBit_div_two_pow]
  by_cases h : i < 8
  · simp [h, show ¬ 8 ≤ i by omega]
  · simp [h, show 8 ≤ i by omega]
theorem turns_eight (q : Nat) : turnsN 8 (256 * q) = q := by
  rw [show 256 * q = 16 * (16 * q) by omega, show (8 : Nat) = 4 + 4 from rfl, turns_add, turns_four, turns_four]
theorem take_word (r y : Nat) : turnsN 8 (r ^^^ y) = takeN r (y % 256) ^^^ (y / 256) := by
  conv => lhs; rw [split256 y, ← Nat.xor_assoc, turns_xor, turns_eight]
  rw [takeN, forth_turns]
/-- The four bytes of a word, the lowest first. -/
def le4 (y : Nat) : List UInt8 := [UInt8.ofNat (y % 256), UInt8.ofNat (y / 256 % 256), UInt8.ofNat (y / 65536 % 256), UInt8.ofNat (y / 16777216 % 256)]
theorem ofNat_byte (y : Nat) : (UInt8.ofNat (y % 256)).toNat = y % 256 := by simp [UInt8.toNat_ofNat']
theorem reg_le4 (r y : Nat) (hy : y < 4294967296) : regN r (le4 y) = turnsN 32 (r ^^^ y) := by
  rw [show (32 : Nat) = 8 + (8 + (8 + 8)) from rfl, turns_add, turns_add, turns_add, take_word, take_word, take_word, take_word]
  rw [show y / 256 / 256 = y / 65536 by omega, show y / 65536 / 256 = y / 16777216 by omega, show y / 16777216 / 256 = 0 by omega, Nat.xor_zero]
  simp only [le4, regN, List.foldl_cons, List.foldl_nil, ofNat_byte]
theorem reg_append (r : Nat) (a b : List UInt8) : regN r (a ++ b) = regN (regN r a) b := by simp [regN, List.foldl_append]
/-- Four bytes are a word's. -/
theorem le4_of (a b c d : UInt8) : ∃ y, y < 4294967296 ∧ le4 y = [a, b, c, d] := by
  have ha := a.toNat_lt; have hb := b.toNat_lt; have hc := c.toNat_lt; have hd := d.toNat_lt
  refine ⟨a.toNat + 256 * b.toNat + 65536 * c.toNat + 16777216 * d.toNat, by omega, ?_⟩
  unfold le4
  rw [show (a.toNat + 256 * b.toNat + 65536 * c.toNat + 16777216 * d.toNat) % 256 = a.toNat by omega, show (a.toNat + 256 * b.toNat + 65536 * c.toNat + 16777216 * d.toNat) / 256 % 256 = b.toNat by omega,
    show (a.toNat + 256 * b.toNat + 65536 * c.toNat + 16777216 * d.toNat) / 65536 % 256 = c.toNat by omega, show (a.toNat + 256 * b.toNat + 65536 * c.toNat + 16777216 * d.toNat) / 16777216 % 256 = d.toNat by omega]
  simp
/-- The word whose bytes lead a sum to another one. -/
def fourW (s t : Nat) : Nat := undosN 32 (4294967295 - t) ^^^ (4294967295 - s)
theorem fourW_lt (s t : Nat) : fourW s t < 4294967296 := Nat.xor_lt_two_pow (n := 32) (undos_lt _ _ (by omega)) (by omega)
theorem four_leads (s t : Nat) (ht : t < 4294967296) : moreC s (le4 (fourW s t)) = t := by
  unfold moreC
  rw [reg_le4 _ _ (fourW_lt s t), fourW, Nat.xor_comm (undosN 32 _), ← Nat.xor_assoc, Nat.xor_self, Nat.zero_xor, turns_undos _ _ (by omega)]
  omega
theorem four_only (s : Nat) (hs : s < 4294967296) (y : Nat) (hy : y < 4294967296) : fourW s (moreC s (le4 y)) = y := by
  have h1 : turnsN 32 ((4294967295 - s) ^^^ y) < 4294967296 := turns_lt _ _ (Nat.xor_lt_two_pow (n := 32) (by omega) hy)
  unfold fourW moreC
  rw [reg_le4 _ _ hy, show 4294967295 - (4294967295 - turnsN 32 ((4294967295 - s) ^^^ y)) = turnsN 32 ((4294967295 - s) ^^^ y) by omega, undos_turns _ _ (Nat.xor_lt_two_pow (n := 32) (by omega) hy), Nat.xor_comm, ← Nat.xor_assoc, Nat.xor_self, Nat.zero_xor]
theorem more_append (s : Nat) (hs : s < 4294967296) (a b : List UInt8) : moreC s (a ++ b) = moreC (moreC s a) b := by
  unfold moreC
  rw [reg_append]
  have := regN_lt a (4294967295 - s) (by omega)
  rw [show 4294967295 - (4294967295 - regN (4294967295 - s) a) = regN (4294967295 - s) a by omega]
/-- The first j bytes of a text, xored with those of a number, the lowest first. -/
def xorV : Nat → List UInt8 → Nat → List UInt8
  | 0, m, _ => m
  | _ + 1, [], _ => []
  | j + 1, b :: m, V => (b ^^^ UInt8.ofNat (V % 256)) :: xorV j m (V / 256)
theorem xorV_length : ∀ (j : Nat) (m : List UInt8) (V : Nat), (xorV j m V).length = m.length
  | 0, _, _ => rfl
  | _ + 1, [], _ => rfl
  | j + 1, b :: m, V => by simp [xorV, xorV_length j m]
theorem xorV_at : ∀ (j : Nat) (m : List UInt8) (V : Nat) (h : j < m.length), (xorV j m V)[j]? = some m[j]
  | 0, b :: m, _, _ => rfl
  | j + 1, b :: m, V, h => by simp [xorV]; exact xorV_at j m (V / 256) (by simpa using h)
theorem xorV_set : ∀ (j : Nat) (m : List UInt8) (V : Nat) (h : j < m.length), xorV (j + 1) m V = (xorV j m V).set j (m[j] ^^^ UInt8.ofNat (V / 256 ^ j % 256))
  | 0, b :: m, V, _ => by simp [xorV]
  | j + 1, b :: m, V, h => by
    have h' : j < m.length := by simpa using h
    have e := xorV_set j m (V / 256) h'
    rw [xorV, e]
    simp only [xorV, List.set_cons_succ, List.getElem_cons_succ]
    rw [Nat.div_div_eq_div_mul, Nat.pow_succ, Nat.mul_comm 256]
theorem low_of_mod (V k : Nat) : V % 256 ^ (k + 1) % 256 = V % 256 ∧ V % 256 ^ (k + 1) / 256 = V / 256 % 256 ^ k := by
  rw [Nat.pow_succ, Nat.mul_comm]
  exact ⟨Nat.mod_mul_right_mod _ _ _, Nat.mod_mul_right_div_self _ _ _⟩
theorem byte_toNat (V : Nat) : (UInt8.ofNat (V % 256)).toNat = V % 256 := ofNat_byte V
theorem take_apart (r1 r2 b x : Nat) : takeN r1 (b ^^^ x) ^^^ takeN r2 b = turnsN 8 ((r1 ^^^ r2) ^^^ x) := by
  rw [takeN, takeN, forth_turns, forth_turns, ← turns_xor]
  congr 1
  apply Nat.eq_of_testBit_eq; intro i
  simp only [Nat.testBit_xor]
  cases r1.testBit i <;> cases r2.testBit i <;> cases b.testBit i <;> cases x.testBit i <;> rfl
theorem reg_apart0 : ∀ (m : List UInt8) (r1 r2 : Nat), regN r1 m ^^^ regN r2 m = turnsN (8 * m.length) (r1 ^^^ r2)
  | [], _, _ => rfl
  | b :: m, r1, r2 => by
    rw [regN_cons, regN_cons, reg_apart0 m]
    have := take_apart r1 r2 b.toNat 0
    rw [Nat.xor_zero, Nat.xor_zero] at this
    rw [this, List.length_cons, show 8 * (m.length + 1) = 8 + 8 * m.length by omega, turns_add]
/-- Two registers, the one with a number's bytes xored into what it takes. -/
theorem reg_apart : ∀ (j : Nat) (m : List UInt8) (V r1 r2 : Nat), j ≤ m.length → regN r1 (xorV j m V) ^^^ regN r2 m = turnsN (8 * m.length) ((r1 ^^^ r2) ^^^ (V % 256 ^ j))
  | 0, m, V, r1, r2, _ => by rw [Nat.pow_zero, Nat.mod_one, Nat.xor_zero]; exact reg_apart0 m r1 r2
  | j + 1, [], V, r1, r2, h => by simp at h
  | j + 1, b :: m, V, r1, r2, h => by
    have h' : j ≤ m.length := by simpa using h
    rw [xorV, regN_cons, regN_cons, reg_apart j m _ _ _ h', UInt8.toNat_xor, byte_toNat, take_apart, List.length_cons, show 8 * (m.length + 1) = 8 + 8 * m.length by omega, turns_add]
    congr 1
    obtain ⟨e1, e2⟩ := low_of_mod V j
    have e := split256 (V % 256 ^ (j + 1))
    rw [e1, e2] at e
    conv => rhs; rw [e, ← Nat.xor_assoc, turns_xor, turns_eight]
theorem undo_zero : ∀ k, undosN k 0 = 0
  | 0 => rfl
  | k + 1 => by rw [undosN, show undoN 0 = 0 from rfl, undo_zero k]
theorem turns_zero : ∀ k, turnsN k 0 = 0
  | 0 => rfl
  | k + 1 => by rw [turnsN, show turnN 0 = 0 from rfl, turns_zero k]
theorem turns_ne (k r : Nat) (h : r < 4294967296) (h0 : turnsN k r = 0) : r = 0 := by
  rw [← undos_turns k r h, h0, undo_zero]
theorem turns_pow : ∀ (s k q : Nat), turnsN (s + k) (2 ^ s * q) = turnsN k q
  | 0, k, q => by rw [Nat.zero_add, Nat.pow_zero, Nat.one_mul]
  | s + 1, k, q => by
    rw [show s + 1 + k = (s + k) + 1 by omega, turnsN, show 2 ^ (s + 1) * q = 2 * (2 ^ s * q) by rw [Nat.pow_succ, Nat.mul_comm (2 ^ s) 2, Nat.mul_assoc], turn_double, turns_pow s k q]
/-- What is left of a mask of 32 bits, shifted by less than a byte, within j bytes. -/
theorem mask_mod (q s j : Nat) (hs : s < 8) (hq : q < 4294967296) : ∃ q', q' < 4294967296 ∧ 2 ^ s * q % 256 ^ j = 2 ^ s * q' ∧ (j = 0 → q' = 0) := by
  rcases Nat.eq_zero_or_pos j with rfl | hj
  · exact ⟨0, by decide, by rw [Nat.pow_zero, Nat.mod_one, Nat.mul_zero], fun _ => rfl⟩
  · refine ⟨q % 2 ^ (8 * j - s), Nat.lt_of_le_of_lt (Nat.mod_le _ _) hq, ?_, fun h => by omega⟩
    rw [show (256 : Nat) ^ j = 2 ^ s * 2 ^ (8 * j - s) by rw [← Nat.pow_add, show s + (8 * j - s) = 8 * j by omega, Nat.pow_mul], Nat.mul_mod_mul_left]
/-- The registers behind the two texts are one just if no bit was turned. -/
theorem apart_iff (r j s q : Nat) (m : List UInt8) (hj : j ≤ m.length) (hs : s < 8) (hq : q < 4294967296) : (regN r (xorV j m (2 ^ s * q)) = regN r m) ↔ 2 ^ s * q % 256 ^ j = 0 := by
  have e := reg_apart j m (2 ^ s * q) r r hj
  rw [Nat.xor_self, Nat.zero_xor] at e
  obtain ⟨q', hq', e1, e2⟩ := mask_mod q s j hs hq
  rw [e1] at e ⊢
  constructor
  · intro h
    rw [h, Nat.xor_self] at e
    rcases Nat.eq_zero_or_pos j with rfl | hj0
    · rw [e2 rfl, Nat.mul_zero]
    · rw [show 8 * m.length = s + (8 * m.length - s) by omega, turns_pow] at e
      rw [turns_ne _ _ hq' e.symm, Nat.mul_zero]
  · intro h
    rw [h, turns_zero] at e
    exact Nat.eq_of_testBit_eq fun i => by
      have := congrArg (fun n => n.testBit i) e
      simp only [Nat.testBit_xor, Nat.zero_testBit] at this
      revert this
      cases (regN r (xorV j m (2 ^ s * q))).testBit i <;> cases (regN r m).testBit i <;> simp
theorem sum_apart (l : List UInt8) (i j s q : Nat) (hi : i ≤ l.length) (hj : i + j ≤ l.length) (hs : s < 8) (hq : q < 4294967296) :
    (moreC 0 l = moreC 0 (l.take i ++ xorV j (l.drop i) (2 ^ s * q))) ↔ 2 ^ s * q % 256 ^ j = 0 := by
  rw [← apart_iff (regN 4294967295 (l.take i)) j s q (l.drop i) (by rw [List.length_drop]; omega) hs hq]
  have h1 : regN 4294967295 l = regN (regN 4294967295 (l.take i)) (l.drop i) := by rw [← reg_append, List.take_append_drop]
  have h2 := reg_append 4294967295 (l.take i) (xorV j (l.drop i) (2 ^ s * q))
  have l1 := regN_lt l 4294967295 (by decide)
  have l2 := regN_lt (l.take i ++ xorV j (l.drop i) (2 ^ s * q)) 4294967295 (by decide)
  unfold moreC
  rw [Nat.sub_zero]
  rw [← h1, ← h2]
  omega
end Go.Proofs.YtnpcnflfpmjgiaaDoor
