/- The walks of FrameNil and FrameSeals. -/
import Derived.Test.YtnpcnflfpmjgiaaDoorHp
import Derived.Test.YtnpcnflfpmjgiaaDoorGb
namespace Go.Proofs.YtnpcnflfpmjgiaaDoor
open Go.RowKit
set_option linter.unusedVariables false
set_option linter.unusedSimpArgs false

set_option maxHeartbeats 2000000 in
set_option maxRecDepth 100000 in
theorem nil_walk5 (n : Int) (f : Fr) (h1 : I64 f.kind) (h2 : I64 f.idx) (w : World) (hT : Tab w) : Calls Tryd.prog 11 #[.int .i64 n, frV f] w fun e w' => e = .returned (.bool true) ∧ Below w.heap.size w w' := by
  have heq := run_eqF
  obtain ⟨W, hW⟩ : ∃ W, W = w.alloc (.cells #[.int .i64 f.kind, .int .u64 f.num, .int .i64 f.idx, .string f.body] 24) := ⟨_, rfl⟩
  have hb0 : Below w.heap.size w W := by rw [hW]; exact (Below.refl _ _).alloc (Nat.le_refl _) _
  have hblk : Blk W w.heap.size #[.int .i64 f.kind, .int .u64 f.num, .int .i64 f.idx, .string f.body] 24 := by rw [hW]; exact Blk.new _ _ _
  have CA : Hid (∀ w : World, Tab w → Calls Tryd.prog 12 #[] w fun e w' => e = .returned (.bool true) ∧ Below w.heap.size w w') := awake_any
  have CR : Hid (∀ w : World, Calls Tryd.prog 29 #[.agg #[.int .i64 f.kind, .int .u64 f.num, .int .i64 f.idx, .string f.body]] w fun e w' => e = .returned (frV (rightF f)) ∧ Below w.heap.size w w') := right_any f h1 h2
  have CP : Hid (∀ w : World, Calls Tryd.prog 32 #[.pointer none, .int .i64 n, frV (rightF f)] w fun e w' => e = .returned (.int .i64 1) ∧ Below w.heap.size w w') := put_nil n (rightF f)
  have CG : Hid (∀ w : World, Calls Tryd.prog 35 #[.pointer none, .int .i64 n] w fun e w' => e = .returned (.tuple #[.agg #[.int .i64 0, .int .u64 0, .int .i64 0, .string ⟨#[]⟩], .int .i64 1]) ∧ Below w.heap.size w w') := get_nil n
  generalize frV (rightF f) = FV at *
  obtain ⟨k, m, i, b⟩ := f
  unfold frV
  simp only at *
  have hTW := hT.below hb0
  clear h1 h2 hT
  go_enter Tryd.func11, Tryd.ntmps11
  go_wp2_with fail
  rw [← hW]
  clear hW
  refine (CA.out _ hTW).mono ?_
  rintro e w1 ⟨rfl, hb1⟩
  have hblk1 := hblk.below hb1
  have hB1 := hb0.trans (hb1.mono hb0.size)
  have c0 := hblk1.cell 0 rfl
  have c1 := hblk1.cell 1 rfl
  have c2 := hblk1.cell 2 rfl
  have c3 := hblk1.cell 3 rfl
  clear hblk hb0 hb1 hTW CA hblk1
  go_wp2_with fail
  refine (CR.out _).mono ?_
  rintro e w2 ⟨rfl, hb2⟩
  have hB2 := hB1.trans (hb2.mono hB1.size)
  clear CR c0 c1 c2 c3 hb2 hB1
  go_wp2_with fail
  refine (CP.out _).mono ?_
  rintro e w3 ⟨rfl, hb3⟩
  have hB3 := hB2.trans (hb3.mono hB2.size)
  clear CP hb3 hB2
  go_wp2_with fail
  refine (CG.out _).mono ?_
  rintro e w4 ⟨rfl, hb4⟩
  have hB4 := hB3.trans (hb4.mono hB3.size)
  have hB5 := hB4.alloc hB4.size (.cells #[.int .i64 0, .int .u64 0, .int .i64 0, .string ⟨#[]⟩] 24)
  have he := heq 0 0 0 0 ⟨#[]⟩ ⟨#[]⟩ 0 0
  clear CG hb4 hB3 heq
  go_wp2
  go_ret
  exact ⟨rfl, hB5⟩
end Go.Proofs.YtnpcnflfpmjgiaaDoor
