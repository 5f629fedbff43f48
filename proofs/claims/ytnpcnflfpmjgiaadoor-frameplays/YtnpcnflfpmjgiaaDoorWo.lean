/- The walk of FrameOpens. -/
import Derived.Test.YtnpcnflfpmjgiaaDoorHp
import Derived.Test.YtnpcnflfpmjgiaaDoorGd
import Derived.Test.YtnpcnflfpmjgiaaDoorGe
namespace Go.Proofs.YtnpcnflfpmjgiaaDoor
open Go.RowKit
set_option linter.unusedVariables false
set_option linter.unusedSimpArgs false

theorem ropen_any (s : ByteArray) (hl : s.size ≤ 9223372036854775807) (w : World) : Calls Tryd.prog 16 #[.string s] w fun e w' => e = .returned (.tuple #[frV (openR s), .int .i64 (openM s), .int .i64 (openE s)]) ∧ Below w.heap.size w w' := by
  by_cases h : openE s = 0
  · unfold openR openM
    rw [if_pos h, if_pos h, h]
    obtain ⟨h1, h2, h3, h4, h5⟩ := opened_facts h
    exact ropen_ok s h1 h2 h3 h4 h5 w
  · unfold openR openM
    rw [if_neg h, if_neg h]
    unfold openE at h ⊢
    by_cases h1 : s.size ≠ 512
    · rw [if_pos h1]; exact ropen_size s h1 hl w
    · rw [if_neg h1] at h ⊢
      have hs : s.size = 512 := by simpa using h1
      by_cases h2 : at8 s 0 ≠ at8 s 511
      · rw [if_pos h2]; exact ropen_torn s hs h2 w
      · rw [if_neg h2] at h ⊢
        have h2' : at8 s 0 = at8 s 511 := by simpa using h2
        by_cases h3 : s.extract 507 511 ≠ sumB (s.extract 1 507)
        · rw [if_pos h3]; exact ropen_sum s hs h2' h3 w
        · rw [if_neg h3] at h ⊢
          have h3' : s.extract 507 511 = sumB (s.extract 1 507) := Classical.byContradiction h3
          by_cases h4 : numA s 1 2 = 0 ∨ 2147483647 < numA s 10 14 ∨ 491 < numA s 14 16
          · rw [if_pos h4]
            by_cases k1 : numA s 1 2 = 0
            · exact ropen_kind s hs h2' h3' k1 w
            · by_cases k2 : 2147483647 < numA s 10 14
              · exact ropen_index s hs h2' h3' ⟨k1, k2⟩ w
              · exact ropen_length s hs h2' h3' ⟨k1, by omega, by omega⟩ w
          · rw [if_neg h4] at h ⊢
            by_cases h5 : s.extract (16 + numA s 14 16) 507 ≠ zerosB (491 - numA s 14 16)
            · rw [if_pos h5]; exact ropen_rest s hs h2' h3' ⟨by omega, by omega, by omega⟩ h5 w
            · rw [if_neg h5] at h; exact absurd rfl h
set_option maxHeartbeats 2000000 in
set_option maxRecDepth 100000 in
theorem opens_walk (s : ByteArray) (hs : s.size ≤ 140737488351232) (w : World) (hT : Tab w) : Calls Tryd.prog 4 #[.string s] w fun e w' => e = .returned (.bool true) ∧ Below w.heap.size w w' := by
  have CA : Hid (∀ w : World, Tab w → Calls Tryd.prog 12 #[] w fun e w' => e = .returned (.bool true) ∧ Below w.heap.size w w') := awake_any
  have CO : Hid (∀ w : World, Tab w → Calls Tryd.prog 15 #[.string s] w fun e w' => e = .returned (.tuple #[.agg #[.int .i64 (openR s).kind, .int .u64 (openR s).num, .int .i64 (openR s).idx, .string (openR s).body], .int .i64 (openM s), .int .i64 (openE s)]) ∧ Below w.heap.size w w') := fun w hT => open_any s (by omega) w hT
  have CR : Hid (∀ w : World, Calls Tryd.prog 16 #[.string s] w fun e w' => e = .returned (.tuple #[.agg #[.int .i64 (openR s).kind, .int .u64 (openR s).num, .int .i64 (openR s).idx, .string (openR s).body], .int .i64 (openM s), .int .i64 (openE s)]) ∧ Below w.heap.size w w') := fun w => ropen_any s (by omega) w
  generalize openE s = E at *
  generalize openM s = M at *
  generalize openR s = g at *
  obtain ⟨gk, gn, gi, gb⟩ := g
  simp only at *
  have heq : ∀ w : World, (binOp .eql 24 (.agg #[.int .i64 gk, .int .u64 (gn : Int), .int .i64 gi, .string gb]) (.agg #[.int .i64 gk, .int .u64 (gn : Int), .int .i64 gi, .string gb])).run Tryd.prog w = .ok (.bool true) w := by
    intro w
    rw [run_eqF]; simp
  go_enter Tryd.func4, Tryd.ntmps4
  go_wp2_with fail
  refine (CA.out _ hT).mono ?_
  rintro e w1 ⟨rfl, hb1⟩
  have hT1 := hT.below hb1
  clear CA hT
  go_wp2_with fail
  refine (CO.out _ hT1).mono ?_
  rintro e w2 ⟨rfl, hb2⟩
  have hb3 : Below w2.heap.size w2 (w2.alloc (.cells #[.int .i64 gk, .int .u64 gn, .int .i64 gi, .string gb] 24)) := (Below.refl _ _).alloc (Nat.le_refl _) _
  have hblk := Blk.new w2 #[.int .i64 gk, .int .u64 gn, .int .i64 gi, .string gb] 24
  have hB2 := hb1.trans (hb2.mono hb1.size)
  have hB3 := hB2.trans (hb3.mono hB2.size)
  clear CO hb1 hb2 hb3 hB2 hT1
  go_wp2_with fail
  generalize w2.alloc (.cells #[.int .i64 gk, .int .u64 gn, .int .i64 gi, .string gb] 24) = W3 at *
  generalize w2.heap.size = p at *
  refine (CR.out _).mono ?_
  rintro e w4 ⟨rfl, hb4⟩
  have hblk4 := hblk.below hb4
  have hB4 := hB3.trans (hb4.mono hB3.size)
  have hB5 := hB4.alloc hB4.size (.cells #[.int .i64 gk, .int .u64 gn, .int .i64 gi, .string gb] 24)
  have hlt := hblk4.lt
  have c0 := hblk4.cell 0 rfl
  have c1 := hblk4.cell 1 rfl
  have c2 := hblk4.cell 2 rfl
  have c3 := hblk4.cell 3 rfl
  clear CR hblk hB3 hb4 hblk4 hB4
  go_wp2
  go_ret
  exact ⟨rfl, hB5⟩
end Go.Proofs.YtnpcnflfpmjgiaaDoor
