/- ExactNil's walk. -/
import Derived.Test.YtkcjcidndckgbaaNl
namespace Go.Proofs.Ytkcjcidndckgbaa
open Go.RowKit
set_option linter.unusedVariables false
set_option linter.unusedSimpArgs false

theorem fn_nil (g : Nat) (caps : Array Value) (w : World) : (binOp .eql 35 (.func (.func g) #[] caps) .nilFunc).run Try.prog w = .ok (.bool false) w := by kernel_rfl
attribute [local go_sem] Oper.semAt_some
set_option maxHeartbeats 4000000 in
set_option maxRecDepth 100000 in
theorem nil_walk (k : ByteArray) (v : Int) (w : World) : Calls Try.prog 5 #[.string k, .int .i64 v] w fun e w' => e = .returned (.bool true) ∧ Below w.heap.size w w' := by
  suffices h : ∀ m, CallsIn Fence.wide m Try.prog 5 #[.string k, .int .i64 v] w fun e w' => e = .returned (.bool true) ∧ Below w.heap.size w w' from callsIn_wide.1 (h 0)
  intro m
  have HA : Hid (Below w.heap.size w (w.alloc (.cells #[.bool false] 4))) := (Below.refl _ _).alloc (Nat.le_refl _) _
  have HX : Hid (Blk (w.alloc (.cells #[.bool false] 4)) w.heap.size #[.bool false] 4) := Blk.new w _ 4
  have C0 : Hid (∀ m w, CallsIn Fence.wide m Try.prog 6 #[] w fun e w' => e = .returned (.bool true) ∧ Below w.heap.size w w') := fun m w => callsIn_wide.2 (awake_any w)
  have CP : Hid (∀ m w, CallsIn Fence.wide m Try.prog 27 #[.pointer none, .string k, .int .i64 v] w fun e w' => e = .returned (.int .i64 1) ∧ w' = w) := fun m w => callsIn_wide.2 (putI_nil k v w)
  have CS : Hid (∀ m w, CallsIn Fence.wide m Try.prog 28 #[.pointer none, .string k, .int .i64 v] w fun e w' => e = .returned (.int .i64 1) ∧ w' = w) := fun m w => callsIn_wide.2 (setI_nil k v w)
  have CD : Hid (∀ m w, CallsIn Fence.wide m Try.prog 29 #[.pointer none, .string k] w fun e w' => e = .returned (.tuple #[.int .i64 0, .bool false]) ∧ w' = w) := fun m w => callsIn_wide.2 (dropI_nil k w)
  have CG : Hid (∀ m w, CallsIn Fence.wide m Try.prog 30 #[.pointer none, .string k] w fun e w' => e = .returned (.tuple #[.int .i64 0, .bool false]) ∧ w' = w) := fun m w => callsIn_wide.2 (getI_nil k w)
  have CL : Hid (∀ m w, CallsIn Fence.wide m Try.prog 33 #[.pointer none] w fun e w' => e = .returned (.int .i64 0) ∧ w' = w) := fun m w => callsIn_wide.2 (lenI_nil w)
  have CC : Hid (∀ m w, CallsIn Fence.wide m Try.prog 31 #[.pointer none] w fun e w' => e = .returned (.tuple #[]) ∧ w' = w) := fun m w => callsIn_wide.2 (clearI_nil w)
  have CY : Hid (∀ m w, CallsIn Fence.wide m Try.prog 32 #[.pointer none] w fun e w' => e = .returned (.pointer none) ∧ w' = w) := fun m w => callsIn_wide.2 (copyI_nil w)
  have CA : Hid (∀ m w, CallsIn Fence.wide m Try.prog 11 #[.pointer none] w fun e w' => e = .returned (.func (.func 42) #[] #[.pointer (some ⟨w.heap.size, 0, none⟩)]) ∧ Blk w' w.heap.size #[.pointer none] 24 ∧ Below w.heap.size w w') := fun m w => callsIn_wide.2 (allI_any none w)
  refine callsIn_of_wp_marks Try.func5 rfl trivial ?_ rfl
  simp only [Try.ntmps5, List.size_toArray, List.length_cons, List.length_nil, Nat.reduceAdd, Nat.reduceSub, Array.replicate_succ, Array.replicate_zero, List.push_toArray, List.append_toArray, List.nil_append, List.cons_append]
  gi_wp2_with fail
  refine ⟨trivial, no_depth _, ?_⟩
  refine (C0.out _ _).mono ?_
  rintro e w1 ⟨rfl, hb⟩
  have HB1 : Hid (Below w.heap.size w w1) := HA.out.trans (hb.mono HA.out.size)
  have HX1 : Hid (Blk w1 w.heap.size #[.bool false] 4) := HX.out.below hb
  clear hb HA HX C0
  gi_wp2_with fail
  refine ⟨trivial, no_depth _, ?_⟩
  refine (CP.out _ _).mono ?_
  rintro e w2 ⟨rfl, rfl⟩
  gi_wp2_with fail
  refine ⟨trivial, no_depth _, ?_⟩
  refine (CS.out _ _).mono ?_
  rintro e w2 ⟨rfl, rfl⟩
  gi_wp2_with fail
  refine ⟨trivial, no_depth _, ?_⟩
  refine (CD.out _ _).mono ?_
  rintro e w2 ⟨rfl, rfl⟩
  gi_wp2_with fail
  refine ⟨trivial, no_depth _, ?_⟩
  refine (CG.out _ _).mono ?_
  rintro e w2 ⟨rfl, rfl⟩
  gi_wp2_with fail
  refine ⟨trivial, no_depth _, ?_⟩
  refine (CC.out _ _).mono ?_
  rintro e w2 ⟨rfl, rfl⟩
  gi_wp2_with fail
  refine ⟨trivial, no_depth _, ?_⟩
  refine (CY.out _ _).mono ?_
  rintro e w2 ⟨rfl, rfl⟩
  gi_wp2_with fail
  refine ⟨trivial, no_depth _, ?_⟩
  refine (CA.out _ _).mono ?_
  rintro e w3 ⟨rfl, hx, hb⟩
  have HB3 : Hid (Below w.heap.size w w3) := HB1.out.trans (hb.mono HB1.out.size)
  have HX3 : Hid (Blk w3 w.heap.size #[.bool false] 4) := HX1.out.below hb
  have HY3 : Hid (Blk w3 w2.heap.size #[.pointer none] 24) := hx
  have hfn := fn_nil 42 #[.pointer (some ⟨w2.heap.size, 0, none⟩)] w3
  clear hb hx HB1 HX1 CP CS CD CG CC CY CA
  gi_wp2_with fail
  have hl3 := HX3.out.lt
  refine range_outer (gf := 42) (lb := #[.pointer (some ⟨w2.heap.size, 0, none⟩)]) (encs := fun x : Unit => #[Value.string ⟨#[]⟩, Value.int .i64 0]) (xs := []) (S := fun _ => False) rfl (enters_of Try.func42 (by kernel_rfl) rfl)
    (fun k e => e.elim) (allI_tells_nil _ w3 _ HY3.out _) (Below.refl _ _) (fun _ => rfl)
    (fun _ W => Kept (fun _ => False) w3 W) (fun _ _ _ => False) (low_kept _ _ _ (Nat.le_refl _)) (fun c => low_pure _ _) (Kept.refl _ _) ?round ?done ?stop
  case round =>
    rintro l pre x W K _ _ _ hpre
    have := hpre.length_le
    simp at this
  case stop =>
    rintro c pre2 W' _ hf
    exact hf.elim
  case done =>
    rintro W hK hks hD
    have HX4 : Hid (Blk W w.heap.size #[.bool false] 4) := HX3.out.kept hK id
    have HB4 : Hid (Below w.heap.size w W) := HB3.out.trans (hK.below HB3.out.size (fun k e => e.elim))
    have c0 := HX4.out.cell 0 (v := .bool false) rfl
    have f0 := HX4.out.frozen 0
    have hHD : Hid (W.heap[w3.heap.size]? = some (.deferred (some []))) := hD
    clear hK hks hfn hD
    gi_wp2_with fail
    refine ⟨trivial, no_depth _, ?_⟩
    refine (CL.out _ _).mono ?_
    rintro e w5 ⟨rfl, rfl⟩
    have HX5 : Hid (Blk (w5.setCell ⟨w.heap.size, 0, none⟩ (.bool true)) w.heap.size #[.bool true] 4) := HX4.out.set 0 _
    have HB5 : Hid (Below w.heap.size w (w5.setCell ⟨w.heap.size, 0, none⟩ (.bool true))) := HB4.out.setCell (Nat.le_refl _) _
    have HD5 : Hid ((w5.setCell ⟨w.heap.size, 0, none⟩ (.bool true)).heap[w3.heap.size]? = some (.deferred (some []))) := (Below.heap_setCell _ _ _ _ (by show w3.heap.size ≠ w.heap.size; omega)).trans hHD.out
    clear CL HX4 HB4 hHD
    gi_wp2_with fail
    generalize w5.setCell ⟨w.heap.size, 0, none⟩ (.bool true) = W6 at *
    refine ⟨by simp, .inl ⟨_, _, rfl, run_takeDeferred HD5.out, ?_⟩⟩
    have hkk := kept_putObj (fun k => k = w3.heap.size) W6 w3.heap.size (.deferred none) rfl
    have HX6 := HX5.out.kept hkk (by show ¬ _ = _; omega)
    have x0 := HX6.cell 0 (v := .bool true) rfl
    refine ⟨.bool true, ?_, rfl, HB5.out.trans (hkk.below HB5.out.size (fun k e => by have e' : k = w3.heap.size := e; omega))⟩
    simp [results, Try.results5, go_sem, x0]
end Go.Proofs.Ytkcjcidndckgbaa
