/- The document's Spread. -/
import Derived.Test.YtabipemlemppjaaDoorSr
namespace Go.Proofs.YtabipemlemppjaaDoor
open Go.RowKit Go.Maps
set_option linter.unusedVariables false
set_option linter.unusedSimpArgs false

set_option maxHeartbeats 1000000 in
theorem rspread_any (n : Nat) (hn : n < 4294967296) (s : ByteArray) (hs : s.size ≤ 9223372036854775807) (w : World) : Calls Tryd.prog 25 #[.int .u32 n, .string s] w fun e w' => e = .returned (.int .u32 (spreadN n s.data.toList)) ∧ w' = w := by
  have E := u32_xor_nat 2166136261 n (by decide) hn
  have E' : bits .xor .u32 2166136261 (n : Int) = ((2166136261 ^^^ n : Nat) : Int) := E
  have hr0 : 2166136261 ^^^ n < 4294967296 := Nat.xor_lt_two_pow (n := 32) (by decide) hn
  have HM : Hid (spreadN n s.data.toList = spEnd (spBytes (2166136261 ^^^ n) s.data.toList)) := by show _ = _; rfl
  clear E
  generalize 2166136261 ^^^ n = r0 at *
  generalize hM : spreadN n s.data.toList = M at *
  clear hM
  go_enter Tryd.func25, Tryd.ntmps25
  go_wp2
  go_loopw [5, 6] (fun a i wr => ∃ p r : Nat, a = .int .u32 r ∧ i = .int .i64 p ∧ p ≤ s.size ∧ r < 4294967296 ∧ spBytes r (s.data.toList.drop p) = spBytes r0 s.data.toList ∧ wr = w) (fun _ i _ => (s.size - intOf i).toNat)
  case atStart => exact ⟨0, r0, rfl, rfl, by omega, hr0, rfl, rfl⟩
  case round =>
    obtain ⟨p, r, rfl, rfl, hp, hr, hx, rfl⟩ := hrel
    by_cases h : p < s.size
    · have hb := (s[p]).toNat_lt
      have e := byte_at s h
      have HX : Hid (spBytes r (s.data.toList.drop p) = spBytes r0 s.data.toList) := hx
      have HE : Hid (s.data.toList.drop p = s[p] :: s.data.toList.drop (p + 1)) := e
      have E1 := u32_xor_nat r (s[p]).toNat hr (by omega)
      have W : IntKind.u32.wrap ((s[p]).toNat : Int) = ((s[p]).toNat : Int) := by rw [IntKind.wrap_u32]; omega
      have E2 := mul32 (r ^^^ (s[p]).toNat) 16777619
      have HS : Hid (spStep r (s[p]).toNat = (r ^^^ (s[p]).toNat) * 16777619 % 4294967296) := by show _ = _; rfl
      have hl := spStep_lt r (s[p]).toNat
      clear hx e
      generalize r ^^^ (s[p]).toNat = x at *
      generalize hyy : spStep r (s[p]).toNat = y at *
      have HY : Hid (spStep r (s[p]).toNat = y) := hyy
      clear hyy
      go_wp2
      have e0 : ((x : Int) * 16777619 % 4294967296) = (y : Int) := by rw [HS.out]; omega
      refine ⟨⟨p + 1, y, congrArg (Value.int .u32) e0, rfl, by omega, hl, ?_, trivial⟩, by simp only [intOf]; omega⟩
      rw [← HX.out, HE.out, spBytes_cons]; rw [HY.out]
    · have e2 : s.data.toList.drop p = [] := List.drop_eq_nil_of_le (by simp; omega)
      rw [e2] at hx
      have hx' : r = spBytes r0 s.data.toList := hx
      have E1 := u32_xor_nat r (r / 65536) hr (by omega)
      have E1' : bits .xor .u32 (r : Int) ((r : Int) / 65536) = ((r ^^^ r / 65536 : Nat) : Int) := E1
      have hg : (r ^^^ r / 65536) * 2246822507 % 4294967296 < 4294967296 := Nat.mod_lt _ (by decide)
      have W : IntKind.u32.wrap (((r ^^^ r / 65536 : Nat) : Int) * 2246822507) = (((r ^^^ r / 65536) * 2246822507 % 4294967296 : Nat) : Int) := mul32 _ 2246822507
      have HD : Hid (spEnd r = ((r ^^^ r / 65536) * 2246822507 % 4294967296) ^^^ ((r ^^^ r / 65536) * 2246822507 % 4294967296) / 8192) := by show _ = _; rfl
      generalize hgg : (r ^^^ r / 65536) * 2246822507 % 4294967296 = g at *
      have E2 := u32_xor_nat g (g / 8192) hg (by omega)
      have E2' : Hid (bits .xor .u32 (g : Int) ((g : Int) / 8192) = ((g ^^^ g / 8192 : Nat) : Int)) := E2
      have HX : Hid (r = spBytes r0 s.data.toList) := hx'
      have HG : Hid ((r ^^^ r / 65536) * 2246822507 % 4294967296 = g) := hgg
      clear hx hx' e2 E1 E2 hgg
      generalize r ^^^ r / 65536 = y at *
      go_wp2
      go_ret
      refine ⟨?_, rfl⟩
      rw [HM.out, ← HX.out, HD.out, ← E2'.out]
      simp

end Go.Proofs.YtabipemlemppjaaDoor
