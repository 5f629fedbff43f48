/- The document's takes and More: what each answers. -/
import Derived.Test.YtabipemlemppjaaDoorCt
namespace Go.Proofs.YtabipemlemppjaaDoor
open Go.RowKit
set_option linter.unusedVariables false
set_option linter.unusedSimpArgs false

theorem turns_step {j : Nat} (h : j < 8) (q : Nat) : turnsN (8 - j) q = turnsN (8 - (j + 1)) (turnN q) := by
  rw [show 8 - j = (8 - (j + 1)) + 1 by omega, turnsN]
set_option maxHeartbeats 2000000 in
theorem takes_any (r0 : Nat) (hr0 : r0 < 4294967296) (s : ByteArray) (hs : s.size ≤ 9223372036854775807) (w : World) : Calls Tryd.prog 29 #[.int .u32 r0, .string s] w fun e w' => e = .returned (.int .u32 (regN r0 s.data.toList)) ∧ w' = w := by
  go_enter Tryd.func29, Tryd.ntmps29
  go_wp2
  go_loopw [0, 5] (fun a i wr => ∃ p r : Nat, a = .int .u32 r ∧ i = .int .i64 p ∧ p ≤ s.size ∧ r < 4294967296 ∧ regN r (s.data.toList.drop p) = regN r0 s.data.toList ∧ wr = w) (fun _ i _ => (s.size - intOf i).toNat)
  case atStart => exact ⟨0, r0, rfl, rfl, by omega, hr0, rfl, rfl⟩
  case round =>
    obtain ⟨p, r, rfl, rfl, hp, hr, hx, rfl⟩ := hrel
    by_cases h : p < s.size
    · have hb := (s[p]).toNat_lt
      have e := byte_at s h
      have HX : Hid (regN r (s.data.toList.drop p) = regN r0 s.data.toList) := hx
      have HE : Hid (s.data.toList.drop p = s[p] :: s.data.toList.drop (p + 1)) := e
      have E1 := u32_xor_nat r (s[p]).toNat hr (by omega)
      have W : IntKind.u32.wrap ((s[p]).toNat : Int) = ((s[p]).toNat : Int) := by rw [IntKind.wrap_u32]; omega
      have hxl : r ^^^ (s[p]).toNat < 4294967296 := Nat.xor_lt_two_pow (n := 32) hr (by omega)
      have HT : Hid (takeN r (s[p]).toNat = turnsN 8 (r ^^^ (s[p]).toNat)) := forth_turns _
      have hl := takeN_lt r _ hr hb
      clear hx e
      generalize r ^^^ (s[p]).toNat = x at *
      generalize hT : takeN r (s[p]).toNat = T at *
      have HT2 : Hid (takeN r (s[p]).toNat = T) := hT
      clear hT
      go_wp2
      go_loopw [0, 6] (fun a k wr' => ∃ j q : Nat, a = .int .u32 q ∧ k = .int .i64 j ∧ j ≤ 8 ∧ q < 4294967296 ∧ turnsN (8 - j) q = T ∧ wr' = wr) (fun _ k _ => (8 - intOf k).toNat)
      case atStart => exact ⟨0, x, rfl, rfl, by omega, hxl, HT.out.symm, rfl⟩
      case round =>
        obtain ⟨j, q, rfl, rfl, hj, hq, ht, rfl⟩ := hrel
        by_cases h8 : j < 8
        · have C : Hid (∀ w : World, Calls Tryd.prog 41 #[.int .u32 (q : Int)] w fun e w' => e = .returned (.int .u32 (turnN q)) ∧ w' = w) := turn_any q hq
          have HQ : Hid (turnsN (8 - j) q = T) := ht
          have hl' := turnN_lt q hq
          clear ht
          generalize hq' : turnN q = q' at *
          have HQ' : Hid (turnN q = q') := hq'
          clear hq'
          go_wp2_with fail
          refine (C.out _).mono ?_
          rintro e w1 ⟨rfl, rfl⟩
          go_wp2
          refine ⟨⟨j + 1, q', rfl, rfl, by omega, hl', ?_, trivial⟩, by simp only [intOf]; omega⟩
          rw [← HQ.out, turns_step h8, HQ'.out]
        · obtain rfl : j = 8 := by omega
          have ht' : q = T := ht
          subst ht'
          clear ht
          go_wp2
          refine ⟨⟨p + 1, q, rfl, rfl, by omega, hq, ?_, trivial⟩, by simp only [intOf]; omega⟩
          rw [← HX.out, HE.out, regN_cons, HT2.out]
    · have e2 : s.data.toList.drop p = [] := List.drop_eq_nil_of_le (by simp; omega)
      rw [e2] at hx
      have hx' : r = regN r0 s.data.toList := hx
      have HX : Hid (r = regN r0 s.data.toList) := hx'
      clear hx hx' e2
      go_wp2
      go_ret
      exact ⟨by rw [← HX.out]; rfl, rfl⟩
set_option maxHeartbeats 1000000 in
theorem rmore_any (n : Nat) (hn : n < 4294967296) (s : ByteArray) (hs : s.size ≤ 9223372036854775807) (w : World) : Calls Tryd.prog 11 #[.int .u32 n, .string s] w fun e w' => e = .returned (.int .u32 (moreC n s.data.toList)) ∧ w' = w := by
  have C1 : Hid (∀ w : World, Calls Tryd.prog 30 #[.int .u32 (n : Int)] w fun e w' => e = .returned (.int .u32 ((4294967295 - n : Nat) : Int)) ∧ w' = w) := over_any n hn
  have h1 : 4294967295 - n < 4294967296 := by omega
  have C2 : Hid (∀ w : World, Calls Tryd.prog 29 #[.int .u32 ((4294967295 - n : Nat) : Int), .string s] w fun e w' => e = .returned (.int .u32 (regN (4294967295 - n) s.data.toList)) ∧ w' = w) := takes_any _ h1 s hs
  have h2 := regN_lt s.data.toList _ h1
  have C3 : Hid (∀ w : World, Calls Tryd.prog 30 #[.int .u32 ((regN (4294967295 - n) s.data.toList : Nat) : Int)] w fun e w' => e = .returned (.int .u32 ((4294967295 - regN (4294967295 - n) s.data.toList : Nat) : Int)) ∧ w' = w) := over_any _ h2
  have HM : Hid (moreC n s.data.toList = 4294967295 - regN (4294967295 - n) s.data.toList) := by show _ = _; rfl
  generalize 4294967295 - regN (4294967295 - n) s.data.toList = z at *
  generalize regN (4294967295 - n) s.data.toList = y at *
  generalize 4294967295 - n = x at *
  go_enter Tryd.func11, Tryd.ntmps11
  go_wp2_with fail
  refine (C1.out _).mono ?_
  rintro e w1 ⟨rfl, rfl⟩
  go_wp2_with fail
  refine (C2.out _).mono ?_
  rintro e w2 ⟨rfl, rfl⟩
  go_wp2_with fail
  refine (C3.out _).mono ?_
  rintro e w3 ⟨rfl, rfl⟩
  go_wp2
  go_ret
  exact ⟨by rw [HM.out]; rfl, rfl⟩
end Go.Proofs.YtabipemlemppjaaDoor
