/- Package schema: stages that are well made. -/
import Derived.Test.YtmbpclknhkbbkaaGreatJ05
import Derived.Test.YtmbpclknhkbbkaaGreatJ40
import Derived.Test.YtmbpclknhkbbkaaGreatJ42
namespace Go.Proofs.YtmbpclknhkbbkaaGreat
open Go.RowKit
set_option linter.unusedVariables false
set_option linter.unusedSimpArgs false

abbrev zeroT : Tst := ⟨0, zeroO, zeroO⟩
theorem zero_test (t : Tst) (u : World) : (binOp .eql 125 (.agg #[.int .i64 t.kind, .string t.a.ref.head, .string t.a.ref.name, .int .u64 (hiOf t.a.const), .int .u64 (loOf t.a.const), .string t.b.ref.head, .string t.b.ref.name, .int .u64 (hiOf t.b.const), .int .u64 (loOf t.b.const)]) (.agg #[.int .i64 0, .string ⟨#[]⟩, .string ⟨#[]⟩, .int .u64 0, .int .u64 0, .string ⟨#[]⟩, .string ⟨#[]⟩, .int .u64 0, .int .u64 0])).run Tryz.prog u = .ok (.bool (decide (t = zeroT))) u := by
  have := run_eq125 t zeroT u
  simpa [TstC, hiOf, loOf] using this
theorem int_zero (m : Nat) : ((m : Int) == 0) = decide (m = 0) := by rw [Bool.eq_iff_iff]; simp
/-- A stage that is well made, as far as itself goes. -/
def isStg (x : Stg) : Bool :=
  if x.kind = 1 then decide (x.test = zeroT)
  else if x.kind = 2 then decide (x.table = ⟨#[]⟩) && isTst x.test
  else if x.kind = 3 then decide (x.table = ⟨#[]⟩) && (decide (x.test = zeroT) && (decide (x.thn.length = 0) && decide (x.els.length = 0)))
  else false
set_option maxHeartbeats 1000000 in
set_option maxRecDepth 100000 in
theorem isStage_1 (a0 a1 : Option Addr) (c0 c1 : Nat) (t : Tst) (n : ByteArray) (m0 m1 : Nat) (w : World) : Calls Tryz.prog 206 #[.agg #[.int .i64 1, .string n, .int .i64 t.kind, .string t.a.ref.head, .string t.a.ref.name, .int .u64 (hiOf t.a.const), .int .u64 (loOf t.a.const), .string t.b.ref.head, .string t.b.ref.name, .int .u64 (hiOf t.b.const), .int .u64 (loOf t.b.const), .slice a0 m0 c0, .slice a1 m1 c1]] w fun e w' => e = .returned (.bool (decide (t = zeroT))) ∧ Below w.heap.size w w' := by
  have hE : ∀ u : World, (binOp .eql 125 (.agg #[.int .i64 t.kind, .string t.a.ref.head, .string t.a.ref.name, .int .u64 (hiOf t.a.const), .int .u64 (loOf t.a.const), .string t.b.ref.head, .string t.b.ref.name, .int .u64 (hiOf t.b.const), .int .u64 (loOf t.b.const)]) (.agg #[.int .i64 0, .string ⟨#[]⟩, .string ⟨#[]⟩, .int .u64 0, .int .u64 0, .string ⟨#[]⟩, .string ⟨#[]⟩, .int .u64 0, .int .u64 0])).run Tryz.prog u = .ok (.bool (decide (t = zeroT))) u := fun u => zero_test t u
  generalize decide (t = zeroT) = z at *
  have HB0 : Hid (Blk (w.alloc (.cells #[.int .i64 1, .string n, .int .i64 t.kind, .string t.a.ref.head, .string t.a.ref.name, .int .u64 (hiOf t.a.const), .int .u64 (loOf t.a.const), .string t.b.ref.head, .string t.b.ref.name, .int .u64 (hiOf t.b.const), .int .u64 (loOf t.b.const), .slice a0 m0 c0, .slice a1 m1 c1] 127)) w.heap.size #[.int .i64 1, .string n, .int .i64 t.kind, .string t.a.ref.head, .string t.a.ref.name, .int .u64 (hiOf t.a.const), .int .u64 (loOf t.a.const), .string t.b.ref.head, .string t.b.ref.name, .int .u64 (hiOf t.b.const), .int .u64 (loOf t.b.const), .slice a0 m0 c0, .slice a1 m1 c1] 127 ∧ Below w.heap.size w (w.alloc (.cells #[.int .i64 1, .string n, .int .i64 t.kind, .string t.a.ref.head, .string t.a.ref.name, .int .u64 (hiOf t.a.const), .int .u64 (loOf t.a.const), .string t.b.ref.head, .string t.b.ref.name, .int .u64 (hiOf t.b.const), .int .u64 (loOf t.b.const), .slice a0 m0 c0, .slice a1 m1 c1] 127))) := ⟨Blk.new _ _ _, (Below.refl _ _).alloc (Nat.le_refl _) _⟩
  go_enter Tryz.func206, Tryz.ntmps206
  go_upto_region 1 with fail
  generalize (w.alloc _) = W0 at HB0 ⊢
  have p0 := HB0.out.1.cell 0 (v := .int .i64 1) rfl
  have p1 := HB0.out.1.cell 1 (v := .string n) rfl
  have p11 := HB0.out.1.cell 11 (v := .slice a0 m0 c0) rfl
  have p12 := HB0.out.1.cell 12 (v := .slice a1 m1 c1) rfl
  have R1 : Hid (W0.rangeAt w.heap.size 2 ([.int .i64 t.kind, .string t.a.ref.head, .string t.a.ref.name, .int .u64 (hiOf t.a.const), .int .u64 (loOf t.a.const), .string t.b.ref.head, .string t.b.ref.name, .int .u64 (hiOf t.b.const), .int .u64 (loOf t.b.const)] : List Value)) := blk_part (l := ([.int .i64 1, .string n, .int .i64 t.kind, .string t.a.ref.head, .string t.a.ref.name, .int .u64 (hiOf t.a.const), .int .u64 (loOf t.a.const), .string t.b.ref.head, .string t.b.ref.name, .int .u64 (hiOf t.b.const), .int .u64 (loOf t.b.const), .slice a0 m0 c0, .slice a1 m1 c1] : List Value)) HB0.out.1 2 rfl
  go_wp2_with (refine wpList_load_mid rfl 125 _ rfl w.heap.size 2 rfl ([.int .i64 t.kind, .string t.a.ref.head, .string t.a.ref.name, .int .u64 (hiOf t.a.const), .int .u64 (loOf t.a.const), .string t.b.ref.head, .string t.b.ref.name, .int .u64 (hiOf t.b.const), .int .u64 (loOf t.b.const)] : List Value) _ R1.out Tryz.underlying125 rfl (by kernel_rfl) ?_)
  go_ret
  exact ⟨rfl, HB0.out.2⟩
set_option maxHeartbeats 1000000 in
set_option maxRecDepth 100000 in
theorem isStage_2y (a0 a1 : Option Addr) (c0 c1 : Nat) (t : Tst) (m0 m1 : Nat) (w : World) : Calls Tryz.prog 206 #[.agg #[.int .i64 2, .string ⟨#[]⟩, .int .i64 t.kind, .string t.a.ref.head, .string t.a.ref.name, .int .u64 (hiOf t.a.const), .int .u64 (loOf t.a.const), .string t.b.ref.head, .string t.b.ref.name, .int .u64 (hiOf t.b.const), .int .u64 (loOf t.b.const), .slice a0 m0 c0, .slice a1 m1 c1]] w fun e w' => e = .returned (.bool (isTst t)) ∧ Below w.heap.size w w' := by
  have hE : ∀ u : World, (binOp .eql 125 (.agg #[.int .i64 t.kind, .string t.a.ref.head, .string t.a.ref.name, .int .u64 (hiOf t.a.const), .int .u64 (loOf t.a.const), .string t.b.ref.head, .string t.b.ref.name, .int .u64 (hiOf t.b.const), .int .u64 (loOf t.b.const)]) (.agg #[.int .i64 0, .string ⟨#[]⟩, .string ⟨#[]⟩, .int .u64 0, .int .u64 0, .string ⟨#[]⟩, .string ⟨#[]⟩, .int .u64 0, .int .u64 0])).run Tryz.prog u = .ok (.bool (decide (t = zeroT))) u := fun u => zero_test t u
  have CT : Hid (∀ w, Calls Tryz.prog 232 #[.agg #[.int .i64 t.kind, .string t.a.ref.head, .string t.a.ref.name, .int .u64 (hiOf t.a.const), .int .u64 (loOf t.a.const), .string t.b.ref.head, .string t.b.ref.name, .int .u64 (hiOf t.b.const), .int .u64 (loOf t.b.const)]] w fun e w' => e = .returned (.bool (isTst t)) ∧ Below w.heap.size w w') := fun w => isTest_any t w
  generalize isTst t = ct at *
  generalize decide (t = zeroT) = z at *
  have HB0 : Hid (Blk (w.alloc (.cells #[.int .i64 2, .string ⟨#[]⟩, .int .i64 t.kind, .string t.a.ref.head, .string t.a.ref.name, .int .u64 (hiOf t.a.const), .int .u64 (loOf t.a.const), .string t.b.ref.head, .string t.b.ref.name, .int .u64 (hiOf t.b.const), .int .u64 (loOf t.b.const), .slice a0 m0 c0, .slice a1 m1 c1] 127)) w.heap.size #[.int .i64 2, .string ⟨#[]⟩, .int .i64 t.kind, .string t.a.ref.head, .string t.a.ref.name, .int .u64 (hiOf t.a.const), .int .u64 (loOf t.a.const), .string t.b.ref.head, .string t.b.ref.name, .int .u64 (hiOf t.b.const), .int .u64 (loOf t.b.const), .slice a0 m0 c0, .slice a1 m1 c1] 127 ∧ Below w.heap.size w (w.alloc (.cells #[.int .i64 2, .string ⟨#[]⟩, .int .i64 t.kind, .string t.a.ref.head, .string t.a.ref.name, .int .u64 (hiOf t.a.const), .int .u64 (loOf t.a.const), .string t.b.ref.head, .string t.b.ref.name, .int .u64 (hiOf t.b.const), .int .u64 (loOf t.b.const), .slice a0 m0 c0, .slice a1 m1 c1] 127))) := ⟨Blk.new _ _ _, (Below.refl _ _).alloc (Nat.le_refl _) _⟩
  go_enter Tryz.func206, Tryz.ntmps206
  go_upto_region 1 with fail
  generalize (w.alloc _) = W0 at HB0 ⊢
  have p0 := HB0.out.1.cell 0 (v := .int .i64 2) rfl
  have p1 := HB0.out.1.cell 1 (v := .string ⟨#[]⟩) rfl
  have p11 := HB0.out.1.cell 11 (v := .slice a0 m0 c0) rfl
  have p12 := HB0.out.1.cell 12 (v := .slice a1 m1 c1) rfl
  have R1 : Hid (W0.rangeAt w.heap.size 2 ([.int .i64 t.kind, .string t.a.ref.head, .string t.a.ref.name, .int .u64 (hiOf t.a.const), .int .u64 (loOf t.a.const), .string t.b.ref.head, .string t.b.ref.name, .int .u64 (hiOf t.b.const), .int .u64 (loOf t.b.const)] : List Value)) := blk_part (l := ([.int .i64 2, .string ⟨#[]⟩, .int .i64 t.kind, .string t.a.ref.head, .string t.a.ref.name, .int .u64 (hiOf t.a.const), .int .u64 (loOf t.a.const), .string t.b.ref.head, .string t.b.ref.name, .int .u64 (hiOf t.b.const), .int .u64 (loOf t.b.const), .slice a0 m0 c0, .slice a1 m1 c1] : List Value)) HB0.out.1 2 rfl
  have p2 := HB0.out.1.cell 2 (v := .int .i64 t.kind) rfl
  have p3 := HB0.out.1.cell 3 (v := .string t.a.ref.head) rfl
  have p4 := HB0.out.1.cell 4 (v := .string t.a.ref.name) rfl
  have p5 := HB0.out.1.cell 5 (v := .int .u64 (hiOf t.a.const)) rfl
  have p6 := HB0.out.1.cell 6 (v := .int .u64 (loOf t.a.const)) rfl
  have p7 := HB0.out.1.cell 7 (v := .string t.b.ref.head) rfl
  have p8 := HB0.out.1.cell 8 (v := .string t.b.ref.name) rfl
  have p9 := HB0.out.1.cell 9 (v := .int .u64 (hiOf t.b.const)) rfl
  have p10 := HB0.out.1.cell 10 (v := .int .u64 (loOf t.b.const)) rfl
  go_wp2_with (refine wpList_load_mid rfl 125 _ rfl w.heap.size 2 rfl ([.int .i64 t.kind, .string t.a.ref.head, .string t.a.ref.name, .int .u64 (hiOf t.a.const), .int .u64 (loOf t.a.const), .string t.b.ref.head, .string t.b.ref.name, .int .u64 (hiOf t.b.const), .int .u64 (loOf t.b.const)] : List Value) _ R1.out Tryz.underlying125 rfl (by kernel_rfl) ?_)
  refine (CT.out _).mono ?_
  rintro e V ⟨rfl, hb⟩
  have HB1 : Hid (Below w.heap.size w V) := bst HB0.out.2 hb (Nat.le_refl _)
  clear hb
  go_wp2
  go_ret
  exact ⟨rfl, HB1.out⟩
set_option maxHeartbeats 1000000 in
set_option maxRecDepth 100000 in
theorem isStage_2n (a0 a1 : Option Addr) (c0 c1 : Nat) (t : Tst) (n : ByteArray) (hn : ¬ n = ⟨#[]⟩) (m0 m1 : Nat) (w : World) : Calls Tryz.prog 206 #[.agg #[.int .i64 2, .string n, .int .i64 t.kind, .string t.a.ref.head, .string t.a.ref.name, .int .u64 (hiOf t.a.const), .int .u64 (loOf t.a.const), .string t.b.ref.head, .string t.b.ref.name, .int .u64 (hiOf t.b.const), .int .u64 (loOf t.b.const), .slice a0 m0 c0, .slice a1 m1 c1]] w fun e w' => e = .returned (.bool (false)) ∧ Below w.heap.size w w' := by
  have hE : ∀ u : World, (binOp .eql 125 (.agg #[.int .i64 t.kind, .string t.a.ref.head, .string t.a.ref.name, .int .u64 (hiOf t.a.const), .int .u64 (loOf t.a.const), .string t.b.ref.head, .string t.b.ref.name, .int .u64 (hiOf t.b.const), .int .u64 (loOf t.b.const)]) (.agg #[.int .i64 0, .string ⟨#[]⟩, .string ⟨#[]⟩, .int .u64 0, .int .u64 0, .string ⟨#[]⟩, .string ⟨#[]⟩, .int .u64 0, .int .u64 0])).run Tryz.prog u = .ok (.bool (decide (t = zeroT))) u := fun u => zero_test t u
  have hn1 : (n.toList == []) = false := by rw [lit_eq]; exact decide_eq_false hn
  have hn2 : n.toList.isEmpty = false := by rw [emp_eq]; exact decide_eq_false hn
  generalize decide (t = zeroT) = z at *
  have HB0 : Hid (Blk (w.alloc (.cells #[.int .i64 2, .string n, .int .i64 t.kind, .string t.a.ref.head, .string t.a.ref.name, .int .u64 (hiOf t.a.const), .int .u64 (loOf t.a.const), .string t.b.ref.head, .string t.b.ref.name, .int .u64 (hiOf t.b.const), .int .u64 (loOf t.b.const), .slice a0 m0 c0, .slice a1 m1 c1] 127)) w.heap.size #[.int .i64 2, .string n, .int .i64 t.kind, .string t.a.ref.head, .string t.a.ref.name, .int .u64 (hiOf t.a.const), .int .u64 (loOf t.a.const), .string t.b.ref.head, .string t.b.ref.name, .int .u64 (hiOf t.b.const), .int .u64 (loOf t.b.const), .slice a0 m0 c0, .slice a1 m1 c1] 127 ∧ Below w.heap.size w (w.alloc (.cells #[.int .i64 2, .string n, .int .i64 t.kind, .string t.a.ref.head, .string t.a.ref.name, .int .u64 (hiOf t.a.const), .int .u64 (loOf t.a.const), .string t.b.ref.head, .string t.b.ref.name, .int .u64 (hiOf t.b.const), .int .u64 (loOf t.b.const), .slice a0 m0 c0, .slice a1 m1 c1] 127))) := ⟨Blk.new _ _ _, (Below.refl _ _).alloc (Nat.le_refl _) _⟩
  go_enter Tryz.func206, Tryz.ntmps206
  go_upto_region 1 with fail
  generalize (w.alloc _) = W0 at HB0 ⊢
  have p0 := HB0.out.1.cell 0 (v := .int .i64 2) rfl
  have p1 := HB0.out.1.cell 1 (v := .string n) rfl
  have p11 := HB0.out.1.cell 11 (v := .slice a0 m0 c0) rfl
  have p12 := HB0.out.1.cell 12 (v := .slice a1 m1 c1) rfl
  have R1 : Hid (W0.rangeAt w.heap.size 2 ([.int .i64 t.kind, .string t.a.ref.head, .string t.a.ref.name, .int .u64 (hiOf t.a.const), .int .u64 (loOf t.a.const), .string t.b.ref.head, .string t.b.ref.name, .int .u64 (hiOf t.b.const), .int .u64 (loOf t.b.const)] : List Value)) := blk_part (l := ([.int .i64 2, .string n, .int .i64 t.kind, .string t.a.ref.head, .string t.a.ref.name, .int .u64 (hiOf t.a.const), .int .u64 (loOf t.a.const), .string t.b.ref.head, .string t.b.ref.name, .int .u64 (hiOf t.b.const), .int .u64 (loOf t.b.const), .slice a0 m0 c0, .slice a1 m1 c1] : List Value)) HB0.out.1 2 rfl
  go_wp2_with (refine wpList_load_mid rfl 125 _ rfl w.heap.size 2 rfl ([.int .i64 t.kind, .string t.a.ref.head, .string t.a.ref.name, .int .u64 (hiOf t.a.const), .int .u64 (loOf t.a.const), .string t.b.ref.head, .string t.b.ref.name, .int .u64 (hiOf t.b.const), .int .u64 (loOf t.b.const)] : List Value) _ R1.out Tryz.underlying125 rfl (by kernel_rfl) ?_)
  go_ret
  exact ⟨rfl, HB0.out.2⟩
set_option maxHeartbeats 1000000 in
set_option maxRecDepth 100000 in
theorem isStage_3n (a0 a1 : Option Addr) (c0 c1 : Nat) (t : Tst) (n : ByteArray) (hn : ¬ n = ⟨#[]⟩) (m0 m1 : Nat) (w : World) : Calls Tryz.prog 206 #[.agg #[.int .i64 3, .string n, .int .i64 t.kind, .string t.a.ref.head, .string t.a.ref.name, .int .u64 (hiOf t.a.const), .int .u64 (loOf t.a.const), .string t.b.ref.head, .string t.b.ref.name, .int .u64 (hiOf t.b.const), .int .u64 (loOf t.b.const), .slice a0 m0 c0, .slice a1 m1 c1]] w fun e w' => e = .returned (.bool (false)) ∧ Below w.heap.size w w' := by
  have hE : ∀ u : World, (binOp .eql 125 (.agg #[.int .i64 t.kind, .string t.a.ref.head, .string t.a.ref.name, .int .u64 (hiOf t.a.const), .int .u64 (loOf t.a.const), .string t.b.ref.head, .string t.b.ref.name, .int .u64 (hiOf t.b.const), .int .u64 (loOf t.b.const)]) (.agg #[.int .i64 0, .string ⟨#[]⟩, .string ⟨#[]⟩, .int .u64 0, .int .u64 0, .string ⟨#[]⟩, .string ⟨#[]⟩, .int .u64 0, .int .u64 0])).run Tryz.prog u = .ok (.bool (decide (t = zeroT))) u := fun u => zero_test t u
  have hn1 : (n.toList == []) = false := by rw [lit_eq]; exact decide_eq_false hn
  have hn2 : n.toList.isEmpty = false := by rw [emp_eq]; exact decide_eq_false hn
  generalize decide (t = zeroT) = z at *
  have HB0 : Hid (Blk (w.alloc (.cells #[.int .i64 3, .string n, .int .i64 t.kind, .string t.a.ref.head, .string t.a.ref.name, .int .u64 (hiOf t.a.const), .int .u64 (loOf t.a.const), .string t.b.ref.head, .string t.b.ref.name, .int .u64 (hiOf t.b.const), .int .u64 (loOf t.b.const), .slice a0 m0 c0, .slice a1 m1 c1] 127)) w.heap.size #[.int .i64 3, .string n, .int .i64 t.kind, .string t.a.ref.head, .string t.a.ref.name, .int .u64 (hiOf t.a.const), .int .u64 (loOf t.a.const), .string t.b.ref.head, .string t.b.ref.name, .int .u64 (hiOf t.b.const), .int .u64 (loOf t.b.const), .slice a0 m0 c0, .slice a1 m1 c1] 127 ∧ Below w.heap.size w (w.alloc (.cells #[.int .i64 3, .string n, .int .i64 t.kind, .string t.a.ref.head, .string t.a.ref.name, .int .u64 (hiOf t.a.const), .int .u64 (loOf t.a.const), .string t.b.ref.head, .string t.b.ref.name, .int .u64 (hiOf t.b.const), .int .u64 (loOf t.b.const), .slice a0 m0 c0, .slice a1 m1 c1] 127))) := ⟨Blk.new _ _ _, (Below.refl _ _).alloc (Nat.le_refl _) _⟩
  go_enter Tryz.func206, Tryz.ntmps206
  go_upto_region 1 with fail
  generalize (w.alloc _) = W0 at HB0 ⊢
  have p0 := HB0.out.1.cell 0 (v := .int .i64 3) rfl
  have p1 := HB0.out.1.cell 1 (v := .string n) rfl
  have p11 := HB0.out.1.cell 11 (v := .slice a0 m0 c0) rfl
  have p12 := HB0.out.1.cell 12 (v := .slice a1 m1 c1) rfl
  have R1 : Hid (W0.rangeAt w.heap.size 2 ([.int .i64 t.kind, .string t.a.ref.head, .string t.a.ref.name, .int .u64 (hiOf t.a.const), .int .u64 (loOf t.a.const), .string t.b.ref.head, .string t.b.ref.name, .int .u64 (hiOf t.b.const), .int .u64 (loOf t.b.const)] : List Value)) := blk_part (l := ([.int .i64 3, .string n, .int .i64 t.kind, .string t.a.ref.head, .string t.a.ref.name, .int .u64 (hiOf t.a.const), .int .u64 (loOf t.a.const), .string t.b.ref.head, .string t.b.ref.name, .int .u64 (hiOf t.b.const), .int .u64 (loOf t.b.const), .slice a0 m0 c0, .slice a1 m1 c1] : List Value)) HB0.out.1 2 rfl
  go_wp2_with (refine wpList_load_mid rfl 125 _ rfl w.heap.size 2 rfl ([.int .i64 t.kind, .string t.a.ref.head, .string t.a.ref.name, .int .u64 (hiOf t.a.const), .int .u64 (loOf t.a.const), .string t.b.ref.head, .string t.b.ref.name, .int .u64 (hiOf t.b.const), .int .u64 (loOf t.b.const)] : List Value) _ R1.out Tryz.underlying125 rfl (by kernel_rfl) ?_)
  go_ret
  exact ⟨rfl, HB0.out.2⟩
set_option maxHeartbeats 1000000 in
set_option maxRecDepth 100000 in
theorem isStage_3 (a0 a1 : Option Addr) (c0 c1 : Nat) (t : Tst) (m0 m1 : Nat) (w : World) : Calls Tryz.prog 206 #[.agg #[.int .i64 3, .string ⟨#[]⟩, .int .i64 t.kind, .string t.a.ref.head, .string t.a.ref.name, .int .u64 (hiOf t.a.const), .int .u64 (loOf t.a.const), .string t.b.ref.head, .string t.b.ref.name, .int .u64 (hiOf t.b.const), .int .u64 (loOf t.b.const), .slice a0 m0 c0, .slice a1 m1 c1]] w fun e w' => e = .returned (.bool (decide (t = zeroT) && (decide (m0 = 0) && decide (m1 = 0)))) ∧ Below w.heap.size w w' := by
  have hE : ∀ u : World, (binOp .eql 125 (.agg #[.int .i64 t.kind, .string t.a.ref.head, .string t.a.ref.name, .int .u64 (hiOf t.a.const), .int .u64 (loOf t.a.const), .string t.b.ref.head, .string t.b.ref.name, .int .u64 (hiOf t.b.const), .int .u64 (loOf t.b.const)]) (.agg #[.int .i64 0, .string ⟨#[]⟩, .string ⟨#[]⟩, .int .u64 0, .int .u64 0, .string ⟨#[]⟩, .string ⟨#[]⟩, .int .u64 0, .int .u64 0])).run Tryz.prog u = .ok (.bool (decide (t = zeroT))) u := fun u => zero_test t u
  generalize decide (t = zeroT) = z at *
  have HB0 : Hid (Blk (w.alloc (.cells #[.int .i64 3, .string ⟨#[]⟩, .int .i64 t.kind, .string t.a.ref.head, .string t.a.ref.name, .int .u64 (hiOf t.a.const), .int .u64 (loOf t.a.const), .string t.b.ref.head, .string t.b.ref.name, .int .u64 (hiOf t.b.const), .int .u64 (loOf t.b.const), .slice a0 m0 c0, .slice a1 m1 c1] 127)) w.heap.size #[.int .i64 3, .string ⟨#[]⟩, .int .i64 t.kind, .string t.a.ref.head, .string t.a.ref.name, .int .u64 (hiOf t.a.const), .int .u64 (loOf t.a.const), .string t.b.ref.head, .string t.b.ref.name, .int .u64 (hiOf t.b.const), .int .u64 (loOf t.b.const), .slice a0 m0 c0, .slice a1 m1 c1] 127 ∧ Below w.heap.size w (w.alloc (.cells #[.int .i64 3, .string ⟨#[]⟩, .int .i64 t.kind, .string t.a.ref.head, .string t.a.ref.name, .int .u64 (hiOf t.a.const), .int .u64 (loOf t.a.const), .string t.b.ref.head, .string t.b.ref.name, .int .u64 (hiOf t.b.const), .int .u64 (loOf t.b.const), .slice a0 m0 c0, .slice a1 m1 c1] 127))) := ⟨Blk.new _ _ _, (Below.refl _ _).alloc (Nat.le_refl _) _⟩
  go_enter Tryz.func206, Tryz.ntmps206
  go_upto_region 1 with fail
  generalize (w.alloc _) = W0 at HB0 ⊢
  have p0 := HB0.out.1.cell 0 (v := .int .i64 3) rfl
  have p1 := HB0.out.1.cell 1 (v := .string ⟨#[]⟩) rfl
  have p11 := HB0.out.1.cell 11 (v := .slice a0 m0 c0) rfl
  have p12 := HB0.out.1.cell 12 (v := .slice a1 m1 c1) rfl
  have R1 : Hid (W0.rangeAt w.heap.size 2 ([.int .i64 t.kind, .string t.a.ref.head, .string t.a.ref.name, .int .u64 (hiOf t.a.const), .int .u64 (loOf t.a.const), .string t.b.ref.head, .string t.b.ref.name, .int .u64 (hiOf t.b.const), .int .u64 (loOf t.b.const)] : List Value)) := blk_part (l := ([.int .i64 3, .string ⟨#[]⟩, .int .i64 t.kind, .string t.a.ref.head, .string t.a.ref.name, .int .u64 (hiOf t.a.const), .int .u64 (loOf t.a.const), .string t.b.ref.head, .string t.b.ref.name, .int .u64 (hiOf t.b.const), .int .u64 (loOf t.b.const), .slice a0 m0 c0, .slice a1 m1 c1] : List Value)) HB0.out.1 2 rfl
  have HQ0 : Hid (((m0 : Int) == 0) = decide (m0 = 0)) := int_zero m0
  have HQ1 : Hid (((m1 : Int) == 0) = decide (m1 = 0)) := int_zero m1
  cases z
  · go_wp2_with (refine wpList_load_mid rfl 125 _ rfl w.heap.size 2 rfl ([.int .i64 t.kind, .string t.a.ref.head, .string t.a.ref.name, .int .u64 (hiOf t.a.const), .int .u64 (loOf t.a.const), .string t.b.ref.head, .string t.b.ref.name, .int .u64 (hiOf t.b.const), .int .u64 (loOf t.b.const)] : List Value) _ R1.out Tryz.underlying125 rfl (by kernel_rfl) ?_)
    go_ret
    exact ⟨rfl, HB0.out.2⟩
  · by_cases h0 : m0 = 0
    · subst h0
      go_wp2_with (refine wpList_load_mid rfl 125 _ rfl w.heap.size 2 rfl ([.int .i64 t.kind, .string t.a.ref.head, .string t.a.ref.name, .int .u64 (hiOf t.a.const), .int .u64 (loOf t.a.const), .string t.b.ref.head, .string t.b.ref.name, .int .u64 (hiOf t.b.const), .int .u64 (loOf t.b.const)] : List Value) _ R1.out Tryz.underlying125 rfl (by kernel_rfl) ?_)
      go_ret
      exact ⟨by rw [← HQ1.out]; rfl, HB0.out.2⟩
    · have h0' : ((m0 : Int) == 0) = false := by rw [int_zero]; exact decide_eq_false h0
      have HD : Hid (decide (m0 = 0) = false) := decide_eq_false h0
      go_wp2_with (refine wpList_load_mid rfl 125 _ rfl w.heap.size 2 rfl ([.int .i64 t.kind, .string t.a.ref.head, .string t.a.ref.name, .int .u64 (hiOf t.a.const), .int .u64 (loOf t.a.const), .string t.b.ref.head, .string t.b.ref.name, .int .u64 (hiOf t.b.const), .int .u64 (loOf t.b.const)] : List Value) _ R1.out Tryz.underlying125 rfl (by kernel_rfl) ?_)
      go_ret
      exact ⟨by rw [HD.out]; rfl, HB0.out.2⟩
set_option maxHeartbeats 1000000 in
set_option maxRecDepth 100000 in
theorem isStage_not (a0 a1 : Option Addr) (c0 c1 : Nat) (t : Tst) (k : Int) (h1 : ¬ k = 1) (h2 : ¬ k = 2) (h3 : ¬ k = 3) (n : ByteArray) (m0 m1 : Nat) (w : World) : Calls Tryz.prog 206 #[.agg #[.int .i64 k, .string n, .int .i64 t.kind, .string t.a.ref.head, .string t.a.ref.name, .int .u64 (hiOf t.a.const), .int .u64 (loOf t.a.const), .string t.b.ref.head, .string t.b.ref.name, .int .u64 (hiOf t.b.const), .int .u64 (loOf t.b.const), .slice a0 m0 c0, .slice a1 m1 c1]] w fun e w' => e = .returned (.bool (false)) ∧ Below w.heap.size w w' := by
  have hE : ∀ u : World, (binOp .eql 125 (.agg #[.int .i64 t.kind, .string t.a.ref.head, .string t.a.ref.name, .int .u64 (hiOf t.a.const), .int .u64 (loOf t.a.const), .string t.b.ref.head, .string t.b.ref.name, .int .u64 (hiOf t.b.const), .int .u64 (loOf t.b.const)]) (.agg #[.int .i64 0, .string ⟨#[]⟩, .string ⟨#[]⟩, .int .u64 0, .int .u64 0, .string ⟨#[]⟩, .string ⟨#[]⟩, .int .u64 0, .int .u64 0])).run Tryz.prog u = .ok (.bool (decide (t = zeroT))) u := fun u => zero_test t u
  have k1 : (k == 1) = false := by simpa using h1
  have k2 : (k == 2) = false := by simpa using h2
  have k3 : (k == 3) = false := by simpa using h3
  generalize decide (t = zeroT) = z at *
  have HB0 : Hid (Blk (w.alloc (.cells #[.int .i64 k, .string n, .int .i64 t.kind, .string t.a.ref.head, .string t.a.ref.name, .int .u64 (hiOf t.a.const), .int .u64 (loOf t.a.const), .string t.b.ref.head, .string t.b.ref.name, .int .u64 (hiOf t.b.const), .int .u64 (loOf t.b.const), .slice a0 m0 c0, .slice a1 m1 c1] 127)) w.heap.size #[.int .i64 k, .string n, .int .i64 t.kind, .string t.a.ref.head, .string t.a.ref.name, .int .u64 (hiOf t.a.const), .int .u64 (loOf t.a.const), .string t.b.ref.head, .string t.b.ref.name, .int .u64 (hiOf t.b.const), .int .u64 (loOf t.b.const), .slice a0 m0 c0, .slice a1 m1 c1] 127 ∧ Below w.heap.size w (w.alloc (.cells #[.int .i64 k, .string n, .int .i64 t.kind, .string t.a.ref.head, .string t.a.ref.name, .int .u64 (hiOf t.a.const), .int .u64 (loOf t.a.const), .string t.b.ref.head, .string t.b.ref.name, .int .u64 (hiOf t.b.const), .int .u64 (loOf t.b.const), .slice a0 m0 c0, .slice a1 m1 c1] 127))) := ⟨Blk.new _ _ _, (Below.refl _ _).alloc (Nat.le_refl _) _⟩
  go_enter Tryz.func206, Tryz.ntmps206
  go_upto_region 1 with fail
  generalize (w.alloc _) = W0 at HB0 ⊢
  have p0 := HB0.out.1.cell 0 (v := .int .i64 k) rfl
  have p1 := HB0.out.1.cell 1 (v := .string n) rfl
  have p11 := HB0.out.1.cell 11 (v := .slice a0 m0 c0) rfl
  have p12 := HB0.out.1.cell 12 (v := .slice a1 m1 c1) rfl
  have R1 : Hid (W0.rangeAt w.heap.size 2 ([.int .i64 t.kind, .string t.a.ref.head, .string t.a.ref.name, .int .u64 (hiOf t.a.const), .int .u64 (loOf t.a.const), .string t.b.ref.head, .string t.b.ref.name, .int .u64 (hiOf t.b.const), .int .u64 (loOf t.b.const)] : List Value)) := blk_part (l := ([.int .i64 k, .string n, .int .i64 t.kind, .string t.a.ref.head, .string t.a.ref.name, .int .u64 (hiOf t.a.const), .int .u64 (loOf t.a.const), .string t.b.ref.head, .string t.b.ref.name, .int .u64 (hiOf t.b.const), .int .u64 (loOf t.b.const), .slice a0 m0 c0, .slice a1 m1 c1] : List Value)) HB0.out.1 2 rfl
  go_wp2_with (refine wpList_load_mid rfl 125 _ rfl w.heap.size 2 rfl ([.int .i64 t.kind, .string t.a.ref.head, .string t.a.ref.name, .int .u64 (hiOf t.a.const), .int .u64 (loOf t.a.const), .string t.b.ref.head, .string t.b.ref.name, .int .u64 (hiOf t.b.const), .int .u64 (loOf t.b.const)] : List Value) _ R1.out Tryz.underlying125 rfl (by kernel_rfl) ?_)
  go_ret
  exact ⟨rfl, HB0.out.2⟩
theorem isStage_any (x : Stg) (cs : Array Value) (w : World) (hI : StgIs w x cs) : Calls Tryz.prog 206 #[.agg cs] w fun e w' => e = .returned (.bool (isStg x)) ∧ Below w.heap.size w w' := by
  obtain ⟨v0, v1, rfl, _, h0, h1⟩ := (stgIs_iff w x cs).1 hI
  obtain ⟨a0, c0, rfl, _⟩ := h0.slice
  obtain ⟨a1, c1, rfl, _⟩ := h1.slice
  clear hI h0 h1
  unfold isStg
  generalize x.kind = k
  generalize x.table = n
  generalize x.test = t
  generalize x.thn.length = m0
  generalize x.els.length = m1
  by_cases e1 : k = 1
  · subst e1; rw [if_pos rfl]; exact isStage_1 a0 a1 c0 c1 t n m0 m1 w
  rw [if_neg e1]
  by_cases e2 : k = 2
  · subst e2; rw [if_pos rfl]
    by_cases hn : n = ⟨#[]⟩
    · subst hn; rw [decide_eq_true rfl, Bool.true_and]; exact isStage_2y a0 a1 c0 c1 t m0 m1 w
    · rw [decide_eq_false hn, Bool.false_and]; exact isStage_2n a0 a1 c0 c1 t n hn m0 m1 w
  rw [if_neg e2]
  by_cases e3 : k = 3
  · subst e3; rw [if_pos rfl]
    by_cases hn : n = ⟨#[]⟩
    · subst hn; rw [decide_eq_true rfl, Bool.true_and]; exact isStage_3 a0 a1 c0 c1 t m0 m1 w
    · rw [decide_eq_false hn, Bool.false_and]; exact isStage_3n a0 a1 c0 c1 t n hn m0 m1 w
  rw [if_neg e3]
  exact isStage_not a0 a1 c0 c1 t k e1 e2 e3 n m0 m1 w
end Go.Proofs.YtmbpclknhkbbkaaGreat
