/- Package sums' Spread; package exact's spread, home, behind and way: what each answers. -/
import Derived.Test.YtkcjcidndckgbaaPl
import Derived.Test.YtkcjcidndckgbaaRp
import Derived.Laws.BitsAllLaws
import Derived.Outline
namespace Go.Proofs.Ytkcjcidndckgbaa
open Go.RowKit
set_option linter.unusedVariables false
set_option linter.unusedSimpArgs false

theorem byte_at (s : ByteArray) {p : Nat} (h : p < s.size) : s.data.toList.drop p = s[p] :: s.data.toList.drop (p + 1) := by
  have h' : p < s.data.toList.length := by simpa using h
  rw [List.drop_eq_getElem_cons h']; rfl
/-- One byte more of a spreading number. -/
def spStep (h b : Nat) : Nat := (h ^^^ b) * 16777619 % 4294967296
def spBytes (h : Nat) (l : List UInt8) : Nat := l.foldl (fun h b => spStep h b.toNat) h
def spEnd (h : Nat) : Nat := let g := (h ^^^ h / 65536) * 2246822507 % 4294967296; g ^^^ g / 8192
def spreadN (seed : Nat) (l : List UInt8) : Nat := spEnd (spBytes (2166136261 ^^^ seed) l)
theorem spStep_lt (h b : Nat) : spStep h b < 4294967296 := Nat.mod_lt _ (by decide)
theorem spEnd_lt (h : Nat) : spEnd h < 4294967296 := by
  unfold spEnd
  have := Nat.mod_lt ((h ^^^ h / 65536) * 2246822507) (by decide : 0 < 4294967296)
  exact Nat.xor_lt_two_pow (n := 32) this (by omega)
theorem spBytes_cons (h : Nat) (b : UInt8) (l : List UInt8) : spBytes h (b :: l) = spBytes (spStep h b.toNat) l := rfl
theorem mul32 (a c : Nat) : IntKind.u32.wrap ((a : Int) * (c : Int)) = ((a * c % 4294967296 : Nat) : Int) := by
  rw [IntKind.wrap_u32]; simp
set_option maxHeartbeats 1000000 in
theorem spread_any (n : Nat) (hn : n < 4294967296) (s : ByteArray) (hs : s.size ≤ 9223372036854775807) (w : World) : Calls Try.prog 71 #[.int .u32 n, .string s] w fun e w' => e = .returned (.int .u32 (spreadN n s.data.toList)) ∧ w' = w := by
  have E := u32_xor_nat 2166136261 n (by decide) hn
  have E' : bits .xor .u32 2166136261 (n : Int) = ((2166136261 ^^^ n : Nat) : Int) := E
  have hr0 : 2166136261 ^^^ n < 4294967296 := Nat.xor_lt_two_pow (n := 32) (by decide) hn
  have HM : Hid (spreadN n s.data.toList = spEnd (spBytes (2166136261 ^^^ n) s.data.toList)) := by show _ = _; rfl
  clear E
  generalize 2166136261 ^^^ n = r0 at *
  generalize hM : spreadN n s.data.toList = M at *
  clear hM
  go_enter Try.func71, Try.ntmps71
  go_wp2
  go_loopw [5, 6] (fun a i wr => ∃ p r : Nat, a = .int .u32 r ∧ i = .int .i64 p ∧ p ≤ s.size ∧ r < 4294967296 ∧ spBytes r (s.data.toList.drop p) = spBytes r0 s.data.toList ∧ wr = w) (fun _ i _ => (s.size - intOf i).toNat)
  case atStart => exact ⟨0, r0, rfl, rfl, by omega, hr0, rfl, rfl⟩
  case round =>
    obtain ⟨p, r, rfl, rfl, hp, hr, hx, rfl⟩ := hrel
    by_cases h : p < s.size
    · have hb := (s[p]).toNat_lt
      have e := byte_at s h
      have HX : Hid (spBytes r (s.data.toList.drop p) = spBytes r0 s.data.toList) := hx
      have HE : Hid (s.data.toList.drop p = s[p] :: s.data.toList.drop (p + 1)) := e
      have E1 := u32_xor_nat r (s[p]).toNat hr (by omega)
      have W : IntKind.u32.wrap ((s[p]).toNat : Int) = ((s[p]).toNat : Int) := by rw [IntKind.wrap_u32]; omega
      have E2 := mul32 (r ^^^ (s[p]).toNat) 16777619
      have HS : Hid (spStep r (s[p]).toNat = (r ^^^ (s[p]).toNat) * 16777619 % 4294967296) := by show _ = _; rfl
      have hl := spStep_lt r (s[p]).toNat
      clear hx e
      generalize r ^^^ (s[p]).toNat = x at *
      generalize hyy : spStep r (s[p]).toNat = y at *
      have HY : Hid (spStep r (s[p]).toNat = y) := hyy
      clear hyy
      go_wp2
      have e0 : ((x : Int) * 16777619 % 4294967296) = (y : Int) := by rw [HS.out]; omega
      refine ⟨⟨p + 1, y, congrArg (Value.int .u32) e0, rfl, by omega, hl, ?_, trivial⟩, by simp only [intOf]; omega⟩
      rw [← HX.out, HE.out, spBytes_cons]; rw [HY.out]
    · have e2 : s.data.toList.drop p = [] := List.drop_eq_nil_of_le (by simp; omega)
      rw [e2] at hx
      have hx' : r = spBytes r0 s.data.toList := hx
      have E1 := u32_xor_nat r (r / 65536) hr (by omega)
      have E1' : bits .xor .u32 (r : Int) ((r : Int) / 65536) = ((r ^^^ r / 65536 : Nat) : Int) := E1
      have hg : (r ^^^ r / 65536) * 2246822507 % 4294967296 < 4294967296 := Nat.mod_lt _ (by decide)
      have W : IntKind.u32.wrap (((r ^^^ r / 65536 : Nat) : Int) * 2246822507) = (((r ^^^ r / 65536) * 2246822507 % 4294967296 : Nat) : Int) := mul32 _ 2246822507
      have HD : Hid (spEnd r = ((r ^^^ r / 65536) * 2246822507 % 4294967296) ^^^ ((r ^^^ r / 65536) * 2246822507 % 4294967296) / 8192) := by show _ = _; rfl
      generalize hgg : (r ^^^ r / 65536) * 2246822507 % 4294967296 = g at *
      have E2 := u32_xor_nat g (g / 8192) hg (by omega)
      have E2' : Hid (bits .xor .u32 (g : Int) ((g : Int) / 8192) = ((g ^^^ g / 8192 : Nat) : Int)) := E2
      have HX : Hid (r = spBytes r0 s.data.toList) := hx'
      have HG : Hid ((r ^^^ r / 65536) * 2246822507 % 4294967296 = g) := hgg
      clear hx hx' e2 E1 E2 hgg
      generalize r ^^^ r / 65536 = y at *
      go_wp2
      go_ret
      refine ⟨?_, rfl⟩
      rw [HM.out, ← HX.out, HD.out, ← E2'.out]
      simp


/-- Where a text is looked for. -/
def spr (k : ByteArray) : Nat := spreadN 0 k.data.toList
theorem spr_lt (k : ByteArray) : spr k < 4294967296 := spEnd_lt _
set_option maxHeartbeats 1000000 in
theorem spr_any (k : ByteArray) (hk : k.size ≤ 9223372036854775807) (w : World) : Calls Try.prog 49 #[.string k] w fun e w' => e = .returned (.int .u32 (spr k)) ∧ w' = w := by
  have C : Hid (Calls Try.prog 71 #[.int .u32 0, .string k] w fun e w' => e = .returned (.int .u32 (spr k)) ∧ w' = w) := spread_any 0 (by decide) k hk w
  go_enter Try.func49, Try.ntmps49
  go_wp2_with fail
  refine C.out.mono ?_
  rintro e w1 ⟨rfl, rfl⟩
  go_wp2
  go_ret
  exact ⟨rfl, rfl⟩
set_option maxHeartbeats 1000000 in
theorem homeI_any (ad : Option Addr) (L cap h : Nat) (h0 : 0 < L) (hL : L ≤ 16384) (hh : h < 4294967296) (w : World) : Calls Try.prog 85 #[.slice ad L cap, .int .u32 h] w fun e w' => e = .returned (.int .i64 ((h % L : Nat) : Int)) ∧ w' = w := by
  have hm : h % L < L := Nat.mod_lt _ h0
  have e1 : IntKind.u64.wrap (h : Int) = (h : Int) := by rw [IntKind.wrap_u64]; omega
  have e2 : IntKind.u64.wrap (L : Int) = (L : Int) := by rw [IntKind.wrap_u64]; omega
  have e3 : ((h : Int) % (L : Int)) = ((h % L : Nat) : Int) := by rw [Int.natCast_emod]
  have e4 : IntKind.i64.wrap ((h % L : Nat) : Int) = ((h % L : Nat) : Int) := by rw [IntKind.wrap_i64]; omega
  have e5 : (L : Int) ≠ 0 := by omega
  have e6 : ((L : Int) == 0) = false := by simp; omega
  generalize h % L = m at *
  go_enter Try.func85, Try.ntmps85
  go_wp2
  go_ret
  exact ⟨rfl, rfl⟩
set_option maxHeartbeats 1000000 in
theorem behindI_any (ad : Option Addr) (L cap a : Nat) (h0 : a < L) (hL : L ≤ 16384) (w : World) : Calls Try.prog 83 #[.slice ad L cap, .int .i64 a] w fun e w' => e = .returned (.int .i64 (nx L a)) ∧ w' = w := by
  go_enter Try.func83, Try.ntmps83
  go_wp2
  go_ret
  refine ⟨congrArg (fun z => Ending.returned (Value.int .i64 z)) ?_, rfl⟩
  rw [← nx_mod h0, Int.natCast_emod]; rfl
set_option maxHeartbeats 1000000 in
theorem wayI_any (ad : Option Addr) (L cap a b : Nat) (h0 : a < L) (h1 : b < L) (hL : L ≤ 16384) (w : World) : Calls Try.prog 84 #[.slice ad L cap, .int .i64 a, .int .i64 b] w fun e w' => e = .returned (.int .i64 (dist L a b)) ∧ w' = w := by
  go_enter Try.func84, Try.ntmps84
  go_wp2
  go_ret
  refine ⟨congrArg (fun z => Ending.returned (Value.int .i64 z)) ?_, rfl⟩
  rw [← dist_mod h0 h1, Int.natCast_emod]; congr 1; omega
end Go.Proofs.Ytkcjcidndckgbaa
