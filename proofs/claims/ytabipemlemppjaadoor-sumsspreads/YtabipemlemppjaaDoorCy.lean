/- The cyclic sum: package sums' forth, take, More and Sum: what each answers. The table of halves lies in memory; texts are no longer than any text may be. -/
import Derived.Test.YtabipemlemppjaaDoorFp
namespace Go.Proofs.YtabipemlemppjaaDoor
open Go.RowKit
set_option linter.unusedVariables false
set_option linter.unusedSimpArgs false

def halvesN : List Nat := [0, 498536548, 997073096, 651767980, 1994146192, 1802195444, 1303535960, 1342533948, 3988292384, 4027552580, 3604390888, 3412177804, 2607071920, 2262029012, 2685067896, 3183342108]
def half (d : Nat) : Nat := halvesN.getD d 0
theorem half_lt : ∀ d, d < 16 → half d < 4294967296 := by decide
/-- The table of halves lies in memory. -/
def Tab (w : World) : Prop := ∀ d, d < 16 → w.cell? ⟨0, d, none⟩ = some (.int .u32 (half d : Int))
theorem Tab.below {w w' : World} (h : Tab w) (hb : Below w.heap.size w w') : Tab w' := fun d hd => by
  have hz : 0 < w.heap.size := World.block_lt_of_cell? w ⟨0, d, none⟩ (h d hd)
  rw [hb.cell (p := ⟨0, d, none⟩) hz]; exact h d hd
theorem Tab.pos {w : World} (h : Tab w) : 0 < w.heap.size := World.block_lt_of_cell? w ⟨0, 0, none⟩ (h 0 (by decide))
/-- Four turns. -/
def fourN (r : Nat) : Nat := (r / 16) ^^^ half (r % 16)
/-- Eight turns. -/
def forthN (r : Nat) : Nat := fourN (fourN r)
theorem fourN_lt (r : Nat) (h : r < 4294967296) : fourN r < 4294967296 := by
  unfold fourN
  exact Nat.xor_lt_two_pow (n := 32) (by omega) (half_lt _ (by omega))
theorem forthN_lt (r : Nat) (h : r < 4294967296) : forthN r < 4294967296 := fourN_lt _ (fourN_lt _ h)
theorem and15 (r : Nat) (h : r < 4294967296) : bits .and .u32 (r : Int) 15 = ((r % 16 : Nat) : Int) := by
  have := u32_and_nat r 15 h (by decide)
  rw [show ((15 : Nat) : Int) = 15 from rfl] at this
  rw [this]; congr 1
  exact Nat.and_two_pow_sub_one_eq_mod r 4
theorem four_word (r : Nat) (h : r < 4294967296) : bits .xor .u32 ((r : Int) / 16) (half (r % 16) : Int) = ((fourN r : Nat) : Int) := by
  have := u32_xor_nat (r / 16) (half (r % 16)) (by omega) (half_lt _ (by omega))
  rw [show ((r / 16 : Nat) : Int) = (r : Int) / 16 by omega] at this
  exact this

set_option maxHeartbeats 1000000 in
theorem forth_any (r : Nat) (hr : r < 4294967296) (w : World) (hT : Tab w) : Calls Tryd.prog 34 #[.int .u32 r] w fun e w' => e = .returned (.int .u32 (forthN r)) ∧ w' = w := by
  have A1 := and15 r hr
  have c1 := hT (r % 16) (by omega)
  have d1 : r % 16 < 16 := by omega
  have F1 := four_word r hr
  have h2 := fourN_lt r hr
  have A2 := and15 (fourN r) h2
  have c2 := hT (fourN r % 16) (by omega)
  have d2 : fourN r % 16 < 16 := by omega
  have F2 := four_word (fourN r) h2
  have HF : Hid (forthN r = fourN (fourN r)) := by show _ = _; rfl
  generalize fourN (fourN r) = q at *
  generalize half (fourN r % 16) = y2 at *
  generalize fourN r % 16 = x2 at *
  generalize fourN r = p at *
  generalize half (r % 16) = y1 at *
  generalize r % 16 = x1 at *
  clear hT
  go_enter Tryd.func34, Tryd.ntmps34
  go_wp2
  go_ret
  exact ⟨by rw [HF.out]; rfl, rfl⟩

def takeN (r b : Nat) : Nat := forthN (r ^^^ b)
theorem takeN_lt (r b : Nat) (h : r < 4294967296) (hb : b < 256) : takeN r b < 4294967296 := forthN_lt _ (Nat.xor_lt_two_pow (n := 32) h (by omega))
set_option maxHeartbeats 1000000 in
theorem take_any (r b : Nat) (hr : r < 4294967296) (hb : b < 256) (w : World) (hT : Tab w) : Calls Tryd.prog 31 #[.int .u32 r, .int .u8 b] w fun e w' => e = .returned (.int .u32 (takeN r b)) ∧ w' = w := by
  have E := u32_xor_nat r b hr (by omega)
  have hx : r ^^^ b < 4294967296 := Nat.xor_lt_two_pow (n := 32) hr (by omega)
  have C : Hid (∀ w : World, Tab w → Calls Tryd.prog 34 #[.int .u32 ((r ^^^ b : Nat) : Int)] w fun e w' => e = .returned (.int .u32 (forthN (r ^^^ b))) ∧ w' = w) := fun w hT => forth_any _ hx w hT
  have HF : Hid (takeN r b = forthN (r ^^^ b)) := by show _ = _; rfl
  have W : IntKind.u32.wrap (b : Int) = (b : Int) := by rw [IntKind.wrap_u32]; omega
  generalize forthN (r ^^^ b) = q at *
  generalize r ^^^ b = x at *
  go_enter Tryd.func31, Tryd.ntmps31
  go_wp2_with fail
  refine (C.out _ hT).mono ?_
  rintro e w1 ⟨rfl, rfl⟩
  go_wp2
  go_ret
  exact ⟨by rw [HF.out]; rfl, rfl⟩

/-- The register behind bytes. -/
def regN (r : Nat) (l : List UInt8) : Nat := l.foldl (fun r b => takeN r b.toNat) r
theorem regN_cons (r : Nat) (b : UInt8) (l : List UInt8) : regN r (b :: l) = regN (takeN r b.toNat) l := rfl
theorem regN_lt : ∀ (l : List UInt8) (r : Nat), r < 4294967296 → regN r l < 4294967296
  | [], r, h => h
  | b :: l, r, h => by rw [regN_cons]; exact regN_lt l _ (takeN_lt r _ h b.toNat_lt)
def moreC (s : Nat) (l : List UInt8) : Nat := 4294967295 - regN (4294967295 - s) l
theorem moreC_lt (s : Nat) (l : List UInt8) : moreC s l < 4294967296 := by unfold moreC; omega
set_option maxHeartbeats 1000000 in
theorem more_any (n : Nat) (hn : n < 4294967296) (s : ByteArray) (hs : s.size ≤ 9223372036854775807) (w : World) (hT : Tab w) : Calls Tryd.prog 14 #[.int .u32 n, .string s] w fun e w' => e = .returned (.int .u32 (moreC n s.data.toList)) ∧ w' = w := by
  have E := not32 n hn
  have HM : Hid (moreC n s.data.toList = 4294967295 - regN (4294967295 - n) s.data.toList) := by show _ = _; rfl
  have hr0 : 4294967295 - n < 4294967296 := by omega
  generalize 4294967295 - n = r0 at *
  generalize hM : moreC n s.data.toList = M at *
  clear hM
  go_enter Tryd.func14, Tryd.ntmps14
  go_wp2
  go_loopw [5, 6] (fun a i wr => ∃ p r : Nat, a = .int .u32 r ∧ i = .int .i64 p ∧ p ≤ s.size ∧ r < 4294967296 ∧ regN r (s.data.toList.drop p) = regN r0 s.data.toList ∧ wr = w) (fun _ i _ => (s.size - intOf i).toNat)
  case atStart => exact ⟨0, r0, rfl, rfl, by omega, hr0, rfl, rfl⟩
  case round =>
    obtain ⟨p, r, rfl, rfl, hp, hr, hx, rfl⟩ := hrel
    by_cases h : p < s.size
    · have hb := (s[p]).toNat_lt
      have e := byte_at s h
      have HX : Hid (regN r (s.data.toList.drop p) = regN r0 s.data.toList) := hx
      have HE : Hid (s.data.toList.drop p = s[p] :: s.data.toList.drop (p + 1)) := e
      have C : Hid (∀ w : World, Tab w → Calls Tryd.prog 31 #[.int .u32 (r : Int), .int .u8 ((s[p]).toNat : Int)] w fun e w' => e = .returned (.int .u32 (takeN r (s[p]).toNat)) ∧ w' = w) := fun w hT => take_any r _ hr hb w hT
      have hl := takeN_lt r _ hr hb
      clear hx e
      go_wp2_with fail
      refine (C.out _ hT).mono ?_
      rintro e w1 ⟨rfl, rfl⟩
      go_wp2
      refine ⟨⟨p + 1, takeN r (s[p]).toNat, rfl, rfl, by omega, hl, ?_, trivial⟩, by simp only [intOf]; omega⟩
      rw [← HX.out, HE.out, regN_cons]
    · have e2 : s.data.toList.drop p = [] := List.drop_eq_nil_of_le (by simp; omega)
      rw [e2] at hx
      have hx' : r = regN r0 s.data.toList := hx
      have E2 := not32 r hr
      have HN : Hid (bits .xor .u32 IntKind.u32.max (r : Int) = ((4294967295 - r : Nat) : Int)) := E2
      have HX : Hid (r = regN r0 s.data.toList) := hx'
      clear hx hx' E2 e2
      go_wp2
      go_ret
      exact ⟨by rw [HM.out, ← HX.out, ← HN.out]; rfl, rfl⟩

/-- A row of texts lies in memory. -/
def Strs (w : World) (b o : Nat) (l : List ByteArray) : Prop := ∀ i (h : i < l.length), w.cell? ⟨b, o + i, none⟩ = some (.string l[i])
def sumC (n : Nat) (l : List ByteArray) : Nat := l.foldl (fun n s => moreC n s.data.toList) n
theorem sumC_at (n : Nat) (l : List ByteArray) {p : Nat} (h : p < l.length) : sumC n (l.drop p) = sumC (moreC n (l[p]).data.toList) (l.drop (p + 1)) := by
  rw [List.drop_eq_getElem_cons h]; rfl
set_option maxHeartbeats 1000000 in
theorem sum_any (b o cap : Nat) (l : List ByteArray) (hl : l.length ≤ 140737488351232) (hs : ∀ s ∈ l, s.size ≤ 9223372036854775807) (w : World) (hT : Tab w) (hS : Strs w b o l) :
    Calls Tryd.prog 12 #[.slice (some ⟨b, o, none⟩) l.length cap] w fun e w' => e = .returned (.int .u32 (sumC 0 l)) ∧ w' = w := by
  go_enter Tryd.func12, Tryd.ntmps12
  go_wp2
  go_loopw [3, 8] (fun a i wr => ∃ p n : Nat, a = .int .u32 n ∧ i = .int .i64 p ∧ p ≤ l.length ∧ n < 4294967296 ∧ sumC n (l.drop p) = sumC 0 l ∧ wr = w) (fun _ i _ => (l.length - intOf i).toNat)
  case atStart => exact ⟨0, 0, rfl, rfl, by omega, by decide, rfl, rfl⟩
  case round =>
    obtain ⟨p, n, rfl, rfl, hp, hn, hx, rfl⟩ := hrel
    by_cases h : p < l.length
    · have hc := hS p h
      have C : Hid (∀ w : World, Tab w → Calls Tryd.prog 14 #[.int .u32 (n : Int), .string l[p]] w fun e w' => e = .returned (.int .u32 (moreC n (l[p]).data.toList)) ∧ w' = w) := fun w hT => more_any n hn _ (hs _ (List.getElem_mem h)) w hT
      have HX : Hid (sumC n (l.drop p) = sumC 0 l) := hx
      have HE : Hid (sumC n (l.drop p) = sumC (moreC n (l[p]).data.toList) (l.drop (p + 1))) := sumC_at n l h
      have hm := moreC_lt n (l[p]).data.toList
      have HS : Hid (Strs wr b o l) := hS
      clear hx hS
      generalize moreC n (l[p]).data.toList = M at *
      generalize l[p] = S at *
      go_wp2_with fail
      refine (C.out _ hT).mono ?_
      rintro e w1 ⟨rfl, rfl⟩
      go_wp2
      refine ⟨⟨p + 1, M, rfl, rfl, by omega, hm, ?_, trivial⟩, by simp only [intOf]; omega⟩
      rw [← HX.out, HE.out]
    · have e2 : l.drop p = [] := List.drop_eq_nil_of_le (by omega)
      rw [e2] at hx
      have hx' : n = sumC 0 l := hx
      have HX : Hid (n = sumC 0 l) := hx'
      clear hx hx' e2
      go_wp2
      go_ret
      exact ⟨by rw [← HX.out]; rfl, rfl⟩
end Go.Proofs.YtabipemlemppjaaDoor
