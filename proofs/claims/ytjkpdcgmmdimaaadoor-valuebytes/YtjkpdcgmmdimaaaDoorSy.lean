/- The walk of ValueBytes: it returns true at any number of 128 bits, any bytes, any width; memory only grows. The table of signs lies in memory. -/
import Derived.Test.YtjkpdcgmmdimaaaDoorBc
import Derived.Test.YtjkpdcgmmdimaaaDoorBd
namespace Go.Proofs.YtjkpdcgmmdimaaaDoor
open Go.RowKit
set_option linter.unusedVariables false
set_option linter.unusedSimpArgs false

set_option maxHeartbeats 4000000 in
set_option maxRecDepth 100000 in
theorem bytes_walk (n : Nat) (hn : Is128 n) (s : ByteArray) (hs : s.size ≤ maxLen) (wd : Int) (w : World) (hT : Tab w) :
    Calls Tryd.prog 4 #[B n, .string s, .int .i64 wd] w fun e w' => e = .returned (.bool true) ∧ Below w.heap.size w w' := by
  have B0 : Below w.heap.size w (w.alloc (.cells #[.int .u64 (hiOf n), .int .u64 (loOf n)] 24)) := by go_grown
  have HT0 : Hid (Tab (w.alloc (.cells #[.int .u64 (hiOf n), .int .u64 (loOf n)] 24))) := hT.below B0
  have cY : ∀ w, Calls Tryd.prog 34 #[B n, .int .i64 wd] w fun e w' => e = .returned (.tuple #[.string (byR n wd).1, .int .i64 (byR n wd).2]) ∧ Below w.heap.size w w' := bytes_all n hn wd
  have cF : ∀ w, Calls Tryd.prog 35 #[.string s, .int .i64 wd] w fun e w' => e = .returned (.tuple #[B (frR s.data.toList wd).1, .int .i64 (frR s.data.toList wd).2]) ∧ Below w.heap.size w w' := from_any s hs wd
  have rY : ∀ w, Calls Tryd.prog 36 #[B n, .int .i64 wd] w fun e w' => e = .returned (.tuple #[.string (byR n wd).1, .int .i64 (byR n wd).2]) ∧ Below w.heap.size w w' := rbytes_all n hn wd
  have rF : ∀ w, Calls Tryd.prog 37 #[.string s, .int .i64 wd] w fun e w' => e = .returned (.tuple #[B (frR s.data.toList wd).1, .int .i64 (frR s.data.toList wd).2]) ∧ Below w.heap.size w w' := rfrom_any s hs wd
  generalize (byR n wd).1 = y at *
  generalize (byR n wd).2 = ye at *
  generalize (frR s.data.toList wd).1 = f at *
  generalize (frR s.data.toList wd).2 = fe at *
  have HcY : Hid (∀ w, Calls Tryd.prog 34 #[B n, .int .i64 wd] w fun e w' => e = .returned (.tuple #[.string y, .int .i64 ye]) ∧ Below w.heap.size w w') := cY
  have HcF : Hid (∀ w, Calls Tryd.prog 35 #[.string s, .int .i64 wd] w fun e w' => e = .returned (.tuple #[B f, .int .i64 fe]) ∧ Below w.heap.size w w') := cF
  have HrY : Hid (∀ w, Calls Tryd.prog 36 #[B n, .int .i64 wd] w fun e w' => e = .returned (.tuple #[.string y, .int .i64 ye]) ∧ Below w.heap.size w w') := rY
  have HrF : Hid (∀ w, Calls Tryd.prog 37 #[.string s, .int .i64 wd] w fun e w' => e = .returned (.tuple #[B f, .int .i64 fe]) ∧ Below w.heap.size w w') := rF
  clear cY cF rY rF
  have ef := fun w => run_eqB (n := f) (m := f) (b := true) (by simp) w
  go_enter Tryd.func4, Tryd.ntmps4
  go_wp2_with fail
  refine (awake_any _ HT0.out).mono ?_
  rintro e w1 ⟨rfl, hb1⟩
  have A1 : Box w1 w.heap.size n := (Box.new w n).below hb1 (by simp)
  have hB1 := bstep B0 hb1
  clear hb1 B0 HT0
  obtain ⟨a0, a1⟩ := id A1
  go_wp2_with fail
  refine (HcY.out _).mono ?_
  rintro e w2 ⟨rfl, hb2⟩
  have A2 := A1.below hb2 A1.lt
  have hB2 := bstep hB1 hb2
  clear a0 a1 A1 hB1 hb2
  go_wp2_with fail
  refine (HcF.out _).mono ?_
  rintro e w3 ⟨rfl, hb3⟩
  have A3 := (A2.below hb3 A2.lt).past (.cells #[.int .u64 (hiOf f), .int .u64 (loOf f)] 24)
  have F3 := Box.new w3 f
  have hB3 := (bstep hB2 hb3).alloc (bstep hB2 hb3).size (.cells #[.int .u64 (hiOf f), .int .u64 (loOf f)] 24)
  clear A2 hB2 hb3
  obtain ⟨a0, a1⟩ := id A3
  go_wp2_with fail
  refine (HrY.out _).mono ?_
  rintro e w4 ⟨rfl, hb4⟩
  have F4 := F3.below hb4 F3.lt
  have hB4 := bstep hB3 hb4
  clear a0 a1 A3 F3 hB3 hb4
  go_wp2_with fail
  refine (HrF.out _).mono ?_
  rintro e w5 ⟨rfl, hb5⟩
  have F5 := (F4.below hb5 F4.lt).past (.cells #[.int .u64 (hiOf f), .int .u64 (loOf f)] 24)
  have G5 := Box.new w5 f
  have hB5 := (bstep hB4 hb5).alloc (bstep hB4 hb5).size (.cells #[.int .u64 (hiOf f), .int .u64 (loOf f)] 24)
  clear F4 hB4 hb5
  obtain ⟨f0, f1⟩ := id F5
  obtain ⟨g0, g1⟩ := id G5
  go_wp2
  go_ret
  exact ⟨rfl, hB5⟩
end Go.Proofs.YtjkpdcgmmdimaaaDoor
