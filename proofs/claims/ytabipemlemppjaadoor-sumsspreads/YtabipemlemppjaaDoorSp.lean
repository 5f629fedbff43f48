/- Package sums' Spread, and Slots at the chapter's first example: what each answers. -/
import Derived.Test.YtabipemlemppjaaDoorCy
import Derived.Maps.Own
import Derived.Maps.OwnOps
import Derived.Maps.OwnSet
import Derived.Maps.Keyed
import Derived.Deep.RegionHeld3
import Derived.LoopN
import Derived.Maps.AppendAt
namespace Go.Proofs.YtabipemlemppjaaDoor
open Go.RowKit Go.Maps
set_option linter.unusedVariables false
set_option linter.unusedSimpArgs false

theorem law3 : Keyed Tryd.prog 3 := int_keyed Tryd.underlying3
theorem law9 : Keyed Tryd.prog 9 := string_keyed Tryd.underlying9
theorem zero3 (w : World) : (zeroValue 3).run Tryd.prog w = .ok (.int .i64 0) w := by kernel_rfl
abbrev OwnI (w : World) (b n : Nat) (D : DataW Unit) : Prop := w.ownsMap Tryd.prog 3 (plainElem (H := Unit) Tryd.prog 3) b n D
abbrev OwnS (w : World) (b n : Nat) (D : DataW Unit) : Prop := w.ownsMap Tryd.prog 9 (plainElem (H := Unit) Tryd.prog 3) b n D

/-- One byte more of a spreading number. -/
def spStep (h b : Nat) : Nat := (h ^^^ b) * 16777619 % 4294967296
def spBytes (h : Nat) (l : List UInt8) : Nat := l.foldl (fun h b => spStep h b.toNat) h
def spEnd (h : Nat) : Nat := let g := (h ^^^ h / 65536) * 2246822507 % 4294967296; g ^^^ g / 8192
def spreadN (seed : Nat) (l : List UInt8) : Nat := spEnd (spBytes (2166136261 ^^^ seed) l)
theorem spStep_lt (h b : Nat) : spStep h b < 4294967296 := Nat.mod_lt _ (by decide)
theorem spEnd_lt (h : Nat) : spEnd h < 4294967296 := by
  unfold spEnd
  have := Nat.mod_lt ((h ^^^ h / 65536) * 2246822507) (by decide : 0 < 4294967296)
  exact Nat.xor_lt_two_pow (n := 32) this (by omega)
theorem spBytes_cons (h : Nat) (b : UInt8) (l : List UInt8) : spBytes h (b :: l) = spBytes (spStep h b.toNat) l := rfl
theorem mul32 (a c : Nat) : IntKind.u32.wrap ((a : Int) * (c : Int)) = ((a * c % 4294967296 : Nat) : Int) := by
  rw [IntKind.wrap_u32]; simp
set_option maxHeartbeats 1000000 in
theorem spread_any (n : Nat) (hn : n < 4294967296) (s : ByteArray) (hs : s.size ≤ 9223372036854775807) (w : World) : Calls Tryd.prog 24 #[.int .u32 n, .string s] w fun e w' => e = .returned (.int .u32 (spreadN n s.data.toList)) ∧ w' = w := by
  have E := u32_xor_nat 2166136261 n (by decide) hn
  have E' : bits .xor .u32 2166136261 (n : Int) = ((2166136261 ^^^ n : Nat) : Int) := E
  have hr0 : 2166136261 ^^^ n < 4294967296 := Nat.xor_lt_two_pow (n := 32) (by decide) hn
  have HM : Hid (spreadN n s.data.toList = spEnd (spBytes (2166136261 ^^^ n) s.data.toList)) := by show _ = _; rfl
  clear E
  generalize 2166136261 ^^^ n = r0 at *
  generalize hM : spreadN n s.data.toList = M at *
  clear hM
  go_enter Tryd.func24, Tryd.ntmps24
  go_wp2
  go_loopw [5, 6] (fun a i wr => ∃ p r : Nat, a = .int .u32 r ∧ i = .int .i64 p ∧ p ≤ s.size ∧ r < 4294967296 ∧ spBytes r (s.data.toList.drop p) = spBytes r0 s.data.toList ∧ wr = w) (fun _ i _ => (s.size - intOf i).toNat)
  case atStart => exact ⟨0, r0, rfl, rfl, by omega, hr0, rfl, rfl⟩
  case round =>
    obtain ⟨p, r, rfl, rfl, hp, hr, hx, rfl⟩ := hrel
    by_cases h : p < s.size
    · have hb := (s[p]).toNat_lt
      have e := byte_at s h
      have HX : Hid (spBytes r (s.data.toList.drop p) = spBytes r0 s.data.toList) := hx
      have HE : Hid (s.data.toList.drop p = s[p] :: s.data.toList.drop (p + 1)) := e
      have E1 := u32_xor_nat r (s[p]).toNat hr (by omega)
      have W : IntKind.u32.wrap ((s[p]).toNat : Int) = ((s[p]).toNat : Int) := by rw [IntKind.wrap_u32]; omega
      have E2 := mul32 (r ^^^ (s[p]).toNat) 16777619
      have HS : Hid (spStep r (s[p]).toNat = (r ^^^ (s[p]).toNat) * 16777619 % 4294967296) := by show _ = _; rfl
      have hl := spStep_lt r (s[p]).toNat
      clear hx e
      generalize r ^^^ (s[p]).toNat = x at *
      generalize hyy : spStep r (s[p]).toNat = y at *
      have HY : Hid (spStep r (s[p]).toNat = y) := hyy
      clear hyy
      go_wp2
      have e0 : ((x : Int) * 16777619 % 4294967296) = (y : Int) := by rw [HS.out]; omega
      refine ⟨⟨p + 1, y, congrArg (Value.int .u32) e0, rfl, by omega, hl, ?_, trivial⟩, by simp only [intOf]; omega⟩
      rw [← HX.out, HE.out, spBytes_cons]; rw [HY.out]
    · have e2 : s.data.toList.drop p = [] := List.drop_eq_nil_of_le (by simp; omega)
      rw [e2] at hx
      have hx' : r = spBytes r0 s.data.toList := hx
      have E1 := u32_xor_nat r (r / 65536) hr (by omega)
      have E1' : bits .xor .u32 (r : Int) ((r : Int) / 65536) = ((r ^^^ r / 65536 : Nat) : Int) := E1
      have hg : (r ^^^ r / 65536) * 2246822507 % 4294967296 < 4294967296 := Nat.mod_lt _ (by decide)
      have W : IntKind.u32.wrap (((r ^^^ r / 65536 : Nat) : Int) * 2246822507) = (((r ^^^ r / 65536) * 2246822507 % 4294967296 : Nat) : Int) := mul32 _ 2246822507
      have HD : Hid (spEnd r = ((r ^^^ r / 65536) * 2246822507 % 4294967296) ^^^ ((r ^^^ r / 65536) * 2246822507 % 4294967296) / 8192) := by show _ = _; rfl
      generalize hgg : (r ^^^ r / 65536) * 2246822507 % 4294967296 = g at *
      have E2 := u32_xor_nat g (g / 8192) hg (by omega)
      have E2' : Hid (bits .xor .u32 (g : Int) ((g : Int) / 8192) = ((g ^^^ g / 8192 : Nat) : Int)) := E2
      have HX : Hid (r = spBytes r0 s.data.toList) := hx'
      have HG : Hid ((r ^^^ r / 65536) * 2246822507 % 4294967296 = g) := hgg
      clear hx hx' e2 E1 E2 hgg
      generalize r ^^^ r / 65536 = y at *
      go_wp2
      go_ret
      refine ⟨?_, rfl⟩
      rw [HM.out, ← HX.out, HD.out, ← E2'.out]
      simp

set_option maxHeartbeats 1000000 in
theorem take_first (b n : Nat) (w : World) (hown : OwnI w b n (.map [])) (hn : n < 1000) : Calls Tryd.prog 40 #[.agg #[.int .i64 1, .map (some b)], .int .i64 0] w fun e w' => e = .returned (.int .i64 0) ∧ w.grownBy w' (some b) := by
  have hkey : keyOf Tryd.prog 3 (.int .i64 0) = some (.int .i64 0) := keyOf_int_mk Tryd.underlying3 (by decide)
  go_enter Tryd.func40, Tryd.ntmps40
  go_wp2
  refine wp_loop_rounds 1 ?_
  rw [rounds_succ]
  have h1 := hown.alloc (.cells #[.int .i64 1, .map (some b)] 66)
  obtain ⟨w2, hrun, hown2, hgrow⟩ := h1.drew.update (t := 64) (e := 3) law3 Tryd.underlying64 (by unfold maxLen; omega) hkey (plainElem_int Tryd.underlying3 (a := 0) (by decide))
  have hh : has (DataW.map [] : DataW Unit) (Lit.int IntKind.i64 0) = false := rfl
  go_wp2_with (first
      | (at_lookup; refine wpList_lookup_own_ok_int _ rfl _ _ 64 rfl 3 3 .i64 law3 Tryd.underlying64 Tryd.underlying3 (zero3 _) b n _ rfl h1 _ _ rfl hkey ?_; intro c hat hwc)
      | go_in)
  go_region
  go_wp2
  go_ret
  exact ⟨rfl, (show w.grownBy (w.alloc (.cells #[.int .i64 1, .map (some b)] 66)).drew (some b) from ⟨rfl, rfl, rfl, (World.grownBy_alloc w _ none).size, (World.grownBy_alloc w _ _).block⟩).trans hgrow⟩
end Go.Proofs.YtabipemlemppjaaDoor
