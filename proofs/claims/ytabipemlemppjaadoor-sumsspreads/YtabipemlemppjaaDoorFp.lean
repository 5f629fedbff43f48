/- The sum of ones: package sums' Ones and Patch, and the document's: what each answers. Texts are no longer than any text may be. -/
import Derived.Test.YtabipemlemppjaaDoorFo
namespace Go.Proofs.YtabipemlemppjaaDoor
open Go.RowKit
set_option linter.unusedVariables false
set_option linter.unusedSimpArgs false

theorem over_pow (k F : Nat) (h : F < 2 ^ k) : (2 ^ k - 1) ^^^ F = 2 ^ k - 1 - F := by
  have e := congrArg BitVec.toNat (BitVec.allOnes_xor (x := BitVec.ofNat k F))
  rw [BitVec.toNat_xor, BitVec.toNat_not, BitVec.toNat_allOnes, BitVec.toNat_ofNat, Nat.mod_eq_of_lt h] at e
  exact e
theorem not16 (m : Nat) (h : m ≤ 65535) : bits .xor .u16 IntKind.u16.max (m : Int) = ((65535 - m : Nat) : Int) := by
  have := u16_xor_nat 65535 m (by decide) (by omega)
  rw [show IntKind.u16.max = ((65535 : Nat) : Int) by decide, this]
  exact congrArg Nat.cast (over_pow 16 m (by omega))
theorem not32 (m : Nat) (h : m < 4294967296) : bits .xor .u32 IntKind.u32.max (m : Int) = ((4294967295 - m : Nat) : Int) := by
  have := u32_xor_nat 4294967295 m (by decide) (by omega)
  rw [show IntKind.u32.max = ((4294967295 : Nat) : Int) by decide, this]
  exact congrArg Nat.cast (over_pow 32 m (by omega))

set_option maxHeartbeats 1000000 in
theorem ones_any (s : ByteArray) (hs : s.size ≤ 140737488351232) (w : World) : Calls Tryd.prog 20 #[.string s] w fun e w' => e = .returned (.int .u16 (onesW s.data.toList)) ∧ w' = w := by
  have hle := sumW_le s.data.toList
  have hlen : s.data.toList.length = s.size := by simp
  go_enter Tryd.func20, Tryd.ntmps20
  go_wp2
  go_loopw [3, 4] (fun a i wr => ∃ p x : Nat, a = .int .u64 x ∧ i = .int .i64 p ∧ p ≤ s.size + 1 ∧ x + sumW (s.data.toList.drop p) = sumW s.data.toList ∧ wr = w) (fun _ i _ => (s.size + 2 - intOf i).toNat)
  case atStart => exact ⟨0, 0, rfl, rfl, by omega, by simp, rfl⟩
  case round =>
    obtain ⟨p, x, rfl, rfl, hp, hx, rfl⟩ := hrel
    by_cases h : p < s.size
    · have hb := (s[p]).toNat_lt
      by_cases h' : p + 1 < s.size
      · have hb' := (s[p+1]).toNat_lt
        have e := sumW_two s h'
        have hx' : x + 256 * (s[p]).toNat + (s[p+1]).toNat < 18446744073709551616 := by omega
        have HX : Hid (x + sumW (s.data.toList.drop p) = sumW s.data.toList) := hx
        have HE : Hid (sumW (s.data.toList.drop p) = 256 * (s[p]).toNat + (s[p+1]).toNat + sumW (s.data.toList.drop (p + 2))) := e
        clear hx e hle hlen
        go_wp2
        have hx := HX.out; have e := HE.out
        refine ⟨⟨p + 2, x + 256 * (s[p]).toNat + (s[p+1]).toNat, congrArg (Value.int .u64) (by omega), rfl, by omega, by omega, trivial⟩, by simp only [intOf]; omega⟩
      · have e := sumW_one s h h'
        have hx' : x + 256 * (s[p]).toNat < 18446744073709551616 := by omega
        have HX : Hid (x + sumW (s.data.toList.drop p) = sumW s.data.toList) := hx
        have HE : Hid (sumW (s.data.toList.drop p) = 256 * (s[p]).toNat) := e
        clear hx e hle hlen
        go_wp2
        have hx := HX.out; have e := HE.out
        have e2 : s.data.toList.drop (p + 2) = [] := List.drop_eq_nil_of_le (by simp; omega)
        refine ⟨⟨p + 2, x + 256 * (s[p]).toNat, congrArg (Value.int .u64) (by omega), rfl, by omega, by rw [e2]; simp only [sumW]; omega, trivial⟩, by simp only [intOf]; omega⟩
    · have e2 : s.data.toList.drop p = [] := List.drop_eq_nil_of_le (by simp; omega)
      rw [e2, sumW, Nat.add_zero] at hx
      subst hx
      have hl : sumW s.data.toList < 18446744073709551616 := by omega
      have hf := foldN_le (sumW s.data.toList)
      have HO : Hid (onesW s.data.toList = 65535 - foldN (sumW s.data.toList)) := by show _ = _; rfl
      generalize sumW s.data.toList = S at *
      clear e2 hle hlen hp
      go_wp2_with fail
      refine (folded_any S hl _).mono ?_
      rintro e w1 ⟨rfl, rfl⟩
      have hn := not16 _ hf
      generalize foldN S = F at *
      have HN : Hid (bits .xor .u16 IntKind.u16.max (F : Int) = ((65535 - F : Nat) : Int)) := hn
      clear hn
      go_wp2
      go_ret
      exact ⟨by rw [HO.out, ← HN.out]; rfl, rfl⟩

set_option maxHeartbeats 1000000 in
theorem rones_any (s : ByteArray) (hs : s.size ≤ 140737488351232) (w : World) : Calls Tryd.prog 21 #[.string s] w fun e w' => e = .returned (.int .u16 (onesW s.data.toList)) ∧ w' = w := by
  have hle := sumW_le s.data.toList
  have hlen : s.data.toList.length = s.size := by simp
  go_enter Tryd.func21, Tryd.ntmps21
  go_wp2
  go_loopw [3, 4] (fun a i wr => ∃ p x : Nat, a = .int .i64 x ∧ i = .int .i64 p ∧ p ≤ s.size + 1 ∧ x + sumW (s.data.toList.drop p) = sumW s.data.toList ∧ wr = w) (fun _ i _ => (s.size + 2 - intOf i).toNat)
  case atStart => exact ⟨0, 0, rfl, rfl, by omega, by simp, rfl⟩
  case round =>
    obtain ⟨p, x, rfl, rfl, hp, hx, rfl⟩ := hrel
    by_cases h : p < s.size
    · have hb := (s[p]).toNat_lt
      by_cases h' : p + 1 < s.size
      · have hb' := (s[p+1]).toNat_lt
        have e := sumW_two s h'
        have hx' : x + 256 * (s[p]).toNat + (s[p+1]).toNat < 9223372036854775808 := by omega
        have HX : Hid (x + sumW (s.data.toList.drop p) = sumW s.data.toList) := hx
        have HE : Hid (sumW (s.data.toList.drop p) = 256 * (s[p]).toNat + (s[p+1]).toNat + sumW (s.data.toList.drop (p + 2))) := e
        clear hx e hle hlen
        go_wp2
        have hx := HX.out; have e := HE.out
        refine ⟨⟨p + 2, x + 256 * (s[p]).toNat + (s[p+1]).toNat, congrArg (Value.int .i64) (by omega), rfl, by omega, by omega, trivial⟩, by simp only [intOf]; omega⟩
      · have e := sumW_one s h h'
        have hx' : x + 256 * (s[p]).toNat < 9223372036854775808 := by omega
        have HX : Hid (x + sumW (s.data.toList.drop p) = sumW s.data.toList) := hx
        have HE : Hid (sumW (s.data.toList.drop p) = 256 * (s[p]).toNat) := e
        clear hx e hle hlen
        go_wp2
        have hx := HX.out; have e := HE.out
        have e2 : s.data.toList.drop (p + 2) = [] := List.drop_eq_nil_of_le (by simp; omega)
        refine ⟨⟨p + 2, x + 256 * (s[p]).toNat, congrArg (Value.int .i64) (by omega), rfl, by omega, by rw [e2]; simp only [sumW]; omega, trivial⟩, by simp only [intOf]; omega⟩
    · have e2 : s.data.toList.drop p = [] := List.drop_eq_nil_of_le (by simp; omega)
      rw [e2, sumW, Nat.add_zero] at hx
      subst hx
      have hl : sumW s.data.toList < 9223372036854775808 := by omega
      have hf := foldN_le (sumW s.data.toList)
      have HO : Hid (onesW s.data.toList = 65535 - foldN (sumW s.data.toList)) := by show _ = _; rfl
      generalize sumW s.data.toList = S at *
      clear e2 hle hlen hp
      go_wp2_with fail
      refine (rfolded_any S hl _).mono ?_
      rintro e w1 ⟨rfl, rfl⟩
      generalize foldN S = F at *
      go_wp2
      go_ret
      exact ⟨by rw [HO.out]; simp; omega, rfl⟩

/-- What a sum of ones becomes where a word becomes another one. -/
def patchN (s o f : Nat) : Nat := 65535 - foldN ((65535 - s) + (65535 - o) + f)
set_option maxHeartbeats 1000000 in
theorem patch_any (s o f : Nat) (hs : s ≤ 65535) (ho : o ≤ 65535) (hf : f ≤ 65535) (w : World) : Calls Tryd.prog 22 #[.int .u16 s, .int .u16 o, .int .u16 f] w fun e w' => e = .returned (.int .u16 (patchN s o f)) ∧ w' = w := by
  have HS := not16 s hs
  have HO := not16 o ho
  have hs' : 65535 - s ≤ 65535 := by omega
  have ho' : 65535 - o ≤ 65535 := by omega
  have HP : Hid (patchN s o f = 65535 - foldN ((65535 - s) + (65535 - o) + f)) := by show _ = _; rfl
  generalize 65535 - s = s' at *
  generalize 65535 - o = o' at *
  have HB : Hid (s' + o' + f < 18446744073709551616) := by show _ < _; omega
  have W1 : IntKind.u64.wrap (s' : Int) = (s' : Int) := by rw [IntKind.wrap_u64]; omega
  have W2 : IntKind.u64.wrap (o' : Int) = (o' : Int) := by rw [IntKind.wrap_u64]; omega
  have W3 : IntKind.u64.wrap ((s' : Int) + (o' : Int)) = (s' : Int) + (o' : Int) := by rw [IntKind.wrap_u64]; omega
  have W4 : IntKind.u64.wrap ((s' : Int) + (o' : Int) + (f : Int)) = (s' : Int) + (o' : Int) + (f : Int) := by rw [IntKind.wrap_u64]; omega
  have hF := foldN_le (s' + o' + f)
  have hn := not16 _ hF
  have HN : Hid (bits .xor .u16 IntKind.u16.max (foldN (s' + o' + f) : Int) = ((65535 - foldN (s' + o' + f) : Nat) : Int)) := hn
  clear hn
  have e0 : ((s' : Int) + (o' : Int) + (f : Int)) = ((s' + o' + f : Nat) : Int) := by omega
  have C : Hid (∀ w : World, Calls Tryd.prog 37 #[.int .u64 ((s' : Int) + (o' : Int) + (f : Int))] w fun e w' => e = .returned (.int .u16 (foldN (s' + o' + f))) ∧ w' = w) := by
    show ∀ w : World, _
    intro w; rw [e0]; exact folded_any _ HB.out w
  clear e0
  generalize foldN (s' + o' + f) = F at *
  go_enter Tryd.func22, Tryd.ntmps22
  go_wp2_with fail
  refine (C.out _).mono ?_
  rintro e w1 ⟨rfl, rfl⟩
  go_wp2
  go_ret
  exact ⟨by rw [HP.out, ← HN.out]; rfl, rfl⟩
set_option maxHeartbeats 1000000 in
theorem rpatch_any (s o f : Nat) (hs : s ≤ 65535) (ho : o ≤ 65535) (hf : f ≤ 65535) (w : World) : Calls Tryd.prog 23 #[.int .u16 s, .int .u16 o, .int .u16 f] w fun e w' => e = .returned (.int .u16 (patchN s o f)) ∧ w' = w := by
  have HP : Hid (patchN s o f = 65535 - foldN ((65535 - s) + (65535 - o) + f)) := by show _ = _; rfl
  have HB : Hid ((65535 - s) + (65535 - o) + f < 9223372036854775808) := by show _ < _; omega
  have hF := foldN_le ((65535 - s) + (65535 - o) + f)
  have e0 : ((65535 : Int) - (s : Int) + 65535 - (o : Int) + (f : Int)) = (((65535 - s) + (65535 - o) + f : Nat) : Int) := by omega
  have C : Hid (∀ w : World, Calls Tryd.prog 38 #[.int .i64 ((65535 : Int) - (s : Int) + 65535 - (o : Int) + (f : Int))] w fun e w' => e = .returned (.int .i64 (foldN ((65535 - s) + (65535 - o) + f))) ∧ w' = w) := by
    show ∀ w : World, _
    intro w; rw [e0]; exact rfolded_any _ HB.out w
  clear e0
  generalize foldN ((65535 - s) + (65535 - o) + f) = F at *
  go_enter Tryd.func23, Tryd.ntmps23
  go_wp2_with fail
  refine (C.out _).mono ?_
  rintro e w1 ⟨rfl, rfl⟩
  go_wp2
  go_ret
  exact ⟨by rw [HP.out]; simp; omega, rfl⟩
end Go.Proofs.YtabipemlemppjaaDoor
