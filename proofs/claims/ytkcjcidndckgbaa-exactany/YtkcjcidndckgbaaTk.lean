/- Package exact: the places that hold something are gone over. -/
import Derived.Test.YtkcjcidndckgbaaLa
import Derived.Test.YtkcjcidndckgbaaRa
import Derived.Test.YtkcjcidndckgbaaRe
import Derived.Shelf.RegionOpen
import Derived.Sort.CutIn
import Derived.OwnWalkIn
import Derived.TacticsInMore
import Derived.LoopNIn
import Derived.LoopIn
import Derived.RangeFuncCalls
namespace Go.Proofs.Ytkcjcidndckgbaa
open Go.RowKit
set_option linter.unusedVariables false
set_option linter.unusedSimpArgs false

theorem no_depth (n : Nat) : Fence.wide.depth.isSome = true → 1 ≤ n := fun h => absurd h (by simp [Fence.wide])
section
variable {V : Type}
theorem cont_take_none {r : List (Pl V)} {k : Nat} (h : r[k]? = some none) : cont (r.take (k + 1)) = cont (r.take k) := by
  rw [List.take_add_one, h]; simp [cont_append, cont]
theorem cont_take_some {r : List (Pl V)} {k : Nat} {x} (h : r[k]? = some (some x)) : cont (r.take (k + 1)) = cont (r.take k) ++ [x] := by
  rw [List.take_add_one, h]; simp [cont_append, cont]
theorem cont_take_pre (r : List (Pl V)) (k : Nat) : cont (r.take k) <+: cont r := ⟨cont (r.drop k), by rw [← cont_append, List.take_append_drop]⟩
end
theorem mf (fn : Fn) (first cap : Array Value) (w : World) : (Instr.makeFunc fn first cap).run Try.prog w = .ok (.func fn first cap) w := rfl
theorem takenI_any (ad : Option Addr) (n cap : Nat) (w : World) : Calls Try.prog 63 #[.slice ad n cap] w fun e w' => e = .returned (.func (.func 86) #[] #[.pointer (some ⟨w.heap.size, 0, none⟩)]) ∧ Blk w' w.heap.size #[.slice ad n cap] 75 ∧ Below w.heap.size w w' := by
  have hmf := mf
  have HB : Hid (Below w.heap.size w (w.alloc (.cells #[.slice ad n cap] 75))) := (Below.refl _ _).alloc (Nat.le_refl _) _
  have HX : Hid (Blk (w.alloc (.cells #[.slice ad n cap] 75)) w.heap.size #[.slice ad n cap] 75) := Blk.new w _ 75
  go_enter Try.func63, Try.ntmps63
  go_wp2
  go_ret
  exact ⟨rfl, HX.out, HB.out⟩
set_option maxHeartbeats 2000000 in
set_option maxRecDepth 100000 in
theorem takenI_tells (r : List (Pl Int)) (b cap : Nat) (hL : r.length ≤ 16384) (w : World) (hr : RowOf 89 4 encI w b r) (bx : Nat) (hbx : Blk w bx #[.slice (some ⟨b, 0, none⟩) r.length cap] 75) (S : Nat → Prop) (hSb : ¬ S bx) (hSr : ¬ S b) :
    Tells Try.prog 86 #[.pointer (some ⟨bx, 0, none⟩)] (fun x : ByteArray × Int => #[Value.agg (encI (some x)).toArray]) (cont r) S w := by
  intro n l J Jx W hW hl hJ hJx hY h0
  have HR0 : Hid (RowOf 89 4 encI W b r) := hr.below hW
  have HBW : Hid (Blk W bx #[.slice (some ⟨b, 0, none⟩) r.length cap] 75) := hbx.below hW
  have HY : Hid (∀ (pre : List (ByteArray × Int)) x W1, pre ++ [x] <+: cont r → J pre W1 → YieldAt Fence.wide (n - 1) Try.prog l #[Value.agg (encI (some x)).toArray] W1 fun e W' => (e = .returned (.bool true) ∧ J (pre ++ [x]) W' ∧ Kept S W1 W') ∨ (e = .returned (.bool false) ∧ Jx (pre ++ [x]) W' ∧ Kept (fun k => S k ∨ k = l) W1 W')) := hY
  have HJ : Hid (Low W.heap.size J) := hJ
  have H0 : Hid (J (cont (r.take 0)) W) := h0
  have c0 := HBW.out.cell 0 (v := .slice (some ⟨b, 0, none⟩) r.length cap) rfl
  obtain ⟨N, hN⟩ : ∃ N, N = r.length := ⟨_, rfl⟩
  have HN : Hid (N = r.length) := hN
  rw [← hN] at hL HBW c0
  clear hN hr hbx hW hY h0 hJ
  refine callsIn_of_wp Try.func86 rfl trivial ?_ rfl
  simp only [Try.ntmps86, List.size_toArray, List.length_cons, List.length_nil, Nat.reduceAdd, Nat.reduceSub, Array.replicate_succ, Array.replicate_zero, List.push_toArray, List.append_toArray, List.nil_append, List.cons_append]
  gi_wp2
  gi_loopw [7] (fun t wr => ∃ k : Nat, k ≤ N ∧ t = .int .i64 k ∧ J (cont (r.take k)) wr ∧ Kept S W wr) (fun t _ => N - (intOf t).toNat)
  case atStart => exact ⟨0, Nat.zero_le _, rfl, H0.out, Kept.refl _ _⟩
  case round =>
    obtain ⟨k, hk, rfl, hj, hkS⟩ := hrel
    by_cases hkN : k < N
    · obtain ⟨x, hx⟩ : ∃ x, r[k]? = some x := ⟨r[k]'(by rw [← HN.out]; exact hkN), List.getElem?_eq_getElem _⟩
      have HX : Hid (r[k]? = some x) := hx
      have HRW : Hid (RowOf 89 4 encI wr b r) := HR0.out.kept hkS hSr
      have hWz := hkS.size
      have HJK : Hid (∀ (xs : List (ByteArray × Int)) W', Below wr.heap.size wr W' → J xs wr → J xs W') := fun xs W' hb hh => HJ.out xs wr W' (Kept.of_below hb) hh
      clear hx
      cases x with
      | none =>
        have q0 := HRW.out.cell0 HX.out (v := .bool false) rfl
        have q1 := HRW.out.cell HX.out 1 (v := .int .u32 0) rfl
        have q2 := HRW.out.cell HX.out 2 (v := .string ⟨#[]⟩) rfl
        have q3 := HRW.out.cell HX.out 3 (v := .int .i64 0) rfl
        have HE : Hid (cont (r.take (k + 1)) = cont (r.take k)) := cont_take_none HX.out
        have HA : Hid (Below wr.heap.size wr (wr.alloc (.cells #[.bool false, .int .u32 0, .string ⟨#[]⟩, .int .i64 0] 89))) := (Below.refl _ _).alloc (Nat.le_refl _) _
        have HJ1 : Hid (J (cont (r.take (k + 1))) (wr.alloc (.cells #[.bool false, .int .u32 0, .string ⟨#[]⟩, .int .i64 0] 89)) ∧ Kept S W (wr.alloc (.cells #[.bool false, .int .u32 0, .string ⟨#[]⟩, .int .i64 0] 89))) := ⟨by rw [HE.out]; exact HJK.out _ _ HA.out hj, hkS.trans (Kept.of_below HA.out)⟩
        clear hj hkS HJK H0
        gi_wp2_with fail
        refine ⟨by simp, ?_⟩
        gi_wp2_with fail
        go_roundw
        case rel => exact ⟨k + 1, by omega, by go_num, HJ1.out.1, HJ1.out.2⟩
        case measure => simp only [intOf]; omega
      | some y =>
        obtain ⟨k', v⟩ := y
        have q0 := HRW.out.cell0 HX.out (v := .bool true) rfl
        have q1 := HRW.out.cell HX.out 1 (v := .int .u32 (spr k')) rfl
        have q2 := HRW.out.cell HX.out 2 (v := .string k') rfl
        have q3 := HRW.out.cell HX.out 3 (v := .int .i64 v) rfl
        have HE : Hid (cont (r.take (k + 1)) = cont (r.take k) ++ [(k', v)]) := cont_take_some HX.out
        have HA : Hid (Below wr.heap.size wr (wr.alloc (.cells #[.bool true, .int .u32 (spr k'), .string k', .int .i64 v] 89))) := (Below.refl _ _).alloc (Nat.le_refl _) _
        have CT : Hid (∃ fn tmps assign body, (Instr.yield l #[.agg #[.bool true, .int .u32 (spr k'), .string k', .int .i64 v]]).run Try.prog (wr.alloc (.cells #[.bool true, .int .u32 (spr k'), .string k', .int .i64 v] 89)) = .ok (.round l fn tmps assign body) (wr.alloc (.cells #[.bool true, .int .u32 (spr k'), .string k', .int .i64 v] 89)) ∧ Hid (RoundIn Fence.wide (n - 1) Try.prog l fn tmps assign body (wr.alloc (.cells #[.bool true, .int .u32 (spr k'), .string k', .int .i64 v] 89)) fun e w' => (e = .returned (.bool true) ∧ Hid (J (cont (r.take (k + 1))) w' ∧ Kept S W w')) ∨ (e = .returned (.bool false) ∧ Hid (Jx (cont (r.take (k + 1))) w')))) := by
          obtain ⟨fn, tmps, assign, body, h1, h2⟩ := HY.out (cont (r.take k)) (k', v) (wr.alloc (.cells #[.bool true, .int .u32 (spr k'), .string k', .int .i64 v] 89)) (by rw [← HE.out]; exact cont_take_pre _ _) (HJK.out _ _ HA.out hj)
          refine ⟨fn, tmps, assign, body, h1, h2.mono ?_⟩
          rw [HE.out]
          rintro e w' (⟨rfl, hj, hk⟩ | ⟨rfl, hj, hk⟩)
          · exact .inl ⟨rfl, hj, (hkS.trans (Kept.of_below HA.out)).trans hk⟩
          · exact .inr ⟨rfl, hj⟩
        obtain ⟨fn, tmps, assign, body, hyi, HRd⟩ := CT.out
        clear CT hj hkS HJK H0
        gi_wp2_with fail
        refine ⟨no_depth _, ?_⟩
        refine HRd.out.mono ?_
        rintro e w7 (⟨rfl, HM7⟩ | ⟨rfl, HJ7⟩)
        · clear hyi HRd q0 q1 q2 q3
          gi_wp2_with fail
          go_roundw
          case rel => exact ⟨k + 1, by omega, by go_num, HM7.out.1, HM7.out.2⟩
          case measure => simp only [intOf]; omega
        · clear hyi HRd q0 q1 q2 q3
          gi_wp2_with fail
          first | go_end0 | refine bodyPost_ret (results_none rfl _ _ _) rfl ?_
          exact ⟨⟨_, rfl⟩, .inr ⟨_, cont_take_pre _ _, HJ7.out⟩⟩
    · have e : k = N := by omega
      subst e
      have HJ1 : Hid (J (cont r) wr) := by
        have : r.take k = r := List.take_of_length_le (by rw [HN.out]; exact Nat.le_refl _)
        rw [this] at hj; exact hj
      clear hj hkS
      gi_wp2_with fail
      go_end0
      exact ⟨⟨_, rfl⟩, .inl HJ1.out⟩
end Go.Proofs.Ytkcjcidndckgbaa
