/- The walk of FrameSeals. -/
import Derived.Test.YtnpcnflfpmjgiaaDoorHp
import Derived.Test.YtnpcnflfpmjgiaaDoorGb
namespace Go.Proofs.YtnpcnflfpmjgiaaDoor
open Go.RowKit
set_option linter.unusedVariables false
set_option linter.unusedSimpArgs false

set_option maxHeartbeats 2000000 in
set_option maxRecDepth 100000 in
theorem seals_walk (f : Fr) (m : Int) (hn : f.num < 18446744073709551616) (w : World) (hT : Tab w) : Calls Tryd.prog 3 #[frV f, .int .i64 m] w fun e w' => e = .returned (.bool true) ∧ Below w.heap.size w w' := by
  obtain ⟨W, hW⟩ : ∃ W, W = w.alloc (.cells #[.int .i64 f.kind, .int .u64 f.num, .int .i64 f.idx, .string f.body] 24) := ⟨_, rfl⟩
  have hb0 : Below w.heap.size w W := by rw [hW]; exact (Below.refl _ _).alloc (Nat.le_refl _) _
  have hblk : Blk W w.heap.size #[.int .i64 f.kind, .int .u64 f.num, .int .i64 f.idx, .string f.body] 24 := by rw [hW]; exact Blk.new _ _ _
  have CA : Hid (∀ w : World, Tab w → Calls Tryd.prog 12 #[] w fun e w' => e = .returned (.bool true) ∧ Below w.heap.size w w') := awake_any
  have C1 : Hid (∀ w : World, Tab w → Calls Tryd.prog 13 #[.agg #[.int .i64 f.kind, .int .u64 f.num, .int .i64 f.idx, .string f.body], .int .i64 m] w fun e w' => e = .returned (.tuple #[.string (sealR f m), .int .i64 (sealE f m)]) ∧ Below w.heap.size w w') := seal_any f m hn
  have C2 : Hid (∀ w : World, Calls Tryd.prog 14 #[.agg #[.int .i64 f.kind, .int .u64 f.num, .int .i64 f.idx, .string f.body], .int .i64 m] w fun e w' => e = .returned (.tuple #[.string (sealR f m), .int .i64 (sealE f m)]) ∧ Below w.heap.size w w') := rseal_any f m hn
  generalize sealR f m = S at *
  generalize sealE f m = E at *
  obtain ⟨k, n, i, b⟩ := f
  unfold frV
  simp only at *
  have hTW := hT.below hb0
  clear hn hT
  go_enter Tryd.func3, Tryd.ntmps3
  go_wp2_with fail
  rw [← hW]
  clear hW
  refine (CA.out _ hTW).mono ?_
  rintro e w1 ⟨rfl, hb1⟩
  have hblk1 := hblk.below hb1
  have hB1 := hb0.trans (hb1.mono hb0.size)
  have hT1 := hTW.below hb1
  have c0 := hblk1.cell 0 rfl
  have c1 := hblk1.cell 1 rfl
  have c2 := hblk1.cell 2 rfl
  have c3 := hblk1.cell 3 rfl
  clear hblk hb0 hb1 hTW CA
  go_wp2_with fail
  refine (C1.out _ hT1).mono ?_
  rintro e w2 ⟨rfl, hb2⟩
  have hblk2 := hblk1.below hb2
  have hB2 := hB1.trans (hb2.mono hB1.size)
  have d0 := hblk2.cell 0 rfl
  have d1 := hblk2.cell 1 rfl
  have d2 := hblk2.cell 2 rfl
  have d3 := hblk2.cell 3 rfl
  clear C1 c0 c1 c2 c3 hb2 hB1 hblk1 hT1 hblk2
  go_wp2_with fail
  refine (C2.out _).mono ?_
  rintro e w3 ⟨rfl, hb3⟩
  have hB3 := hB2.trans (hb3.mono hB2.size)
  clear C2 d0 d1 d2 d3 hb3 hB2
  go_wp2
  go_ret
  exact ⟨by simp, hB3⟩
end Go.Proofs.YtnpcnflfpmjgiaaDoor
