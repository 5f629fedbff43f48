/- The walk of FrameAgain. -/
import Derived.Test.YtnpcnflfpmjgiaaDoorHp
namespace Go.Proofs.YtnpcnflfpmjgiaaDoor
open Go.RowKit
set_option linter.unusedVariables false
set_option linter.unusedSimpArgs false

theorem openF_right {s : ByteArray} (h : openE s = 0) : wrong (openF s) = 0 ∧ (openF s).num < 18446744073709551616 := by
  obtain ⟨hs, _, _, ⟨h1, h2, h3⟩, _⟩ := opened_facts h
  have l1 := numA_lt s 1 2 hs (by omega) (by omega)
  have l2 := numA_lt s 2 10 hs (by omega) (by omega)
  rw [show (256 : Nat) ^ (2 - 1) = 256 from rfl] at l1
  rw [show (256 : Nat) ^ (10 - 2) = 18446744073709551616 from rfl] at l2
  refine ⟨?_, l2⟩
  unfold wrong openF
  simp only
  rw [if_neg (by omega), if_neg]
  rw [ByteArray.size_extract]; omega
theorem seal_openF {s : ByteArray} (h : openE s = 0) : sealE (openF s) ((at8 s 0).toNat : Int) = 0 ∧ sealR (openF s) ((at8 s 0).toNat : Int) = s := by
  have hm := (at8 s 0).toNat_lt
  have he : sealE (openF s) ((at8 s 0).toNat : Int) = 0 := by unfold sealE; rw [if_neg (by omega), (openF_right h).1]
  refine ⟨he, ?_⟩
  unfold sealR
  rw [if_pos he, Int.toNat_natCast]
  exact seal_open s h
set_option maxHeartbeats 2000000 in
set_option maxRecDepth 100000 in
theorem again_walk (s : ByteArray) (hs : s.size ≤ 140737488351232) (w : World) (hT : Tab w) : Calls Tryd.prog 7 #[.string s] w fun e w' => e = .returned (.bool true) ∧ Below w.heap.size w w' := by
  have CA : Hid (∀ w : World, Tab w → Calls Tryd.prog 12 #[] w fun e w' => e = .returned (.bool true) ∧ Below w.heap.size w w') := awake_any
  by_cases h : openE s = 0
  · have CO : Hid (∀ w : World, Tab w → Calls Tryd.prog 15 #[.string s] w fun e w' => e = .returned (.tuple #[.agg #[.int .i64 (openF s).kind, .int .u64 (openF s).num, .int .i64 (openF s).idx, .string (openF s).body], .int .i64 ((at8 s 0).toNat : Int), .int .i64 0]) ∧ Below w.heap.size w w') := fun w hT => open_yes s h w hT
    obtain ⟨e1, e2⟩ := seal_openF h
    have hn := (openF_right h).2
    have CS : Hid (∀ w : World, Tab w → Calls Tryd.prog 13 #[.agg #[.int .i64 (openF s).kind, .int .u64 (openF s).num, .int .i64 (openF s).idx, .string (openF s).body], .int .i64 ((at8 s 0).toNat : Int)] w fun e w' => e = .returned (.tuple #[.string s, .int .i64 0]) ∧ Below w.heap.size w w') := by
      intro w hT
      have := seal_any (openF s) ((at8 s 0).toNat : Int) hn w hT
      rw [e1, e2] at this
      exact this
    clear e1 e2 hn h
    generalize openF s = g at *
    generalize ((at8 s 0).toNat : Int) = m at *
    obtain ⟨gk, gn, gi, gb⟩ := g
    simp only at *
    go_enter Tryd.func7, Tryd.ntmps7
    go_wp2_with fail
    refine (CA.out _ hT).mono ?_
    rintro e w1 ⟨rfl, hb1⟩
    have hT1 := hT.below hb1
    clear CA hT
    go_wp2_with fail
    refine (CO.out _ hT1).mono ?_
    rintro e w2 ⟨rfl, hb2⟩
    have hb3 : Below w2.heap.size w2 (w2.alloc (.cells #[.int .i64 gk, .int .u64 gn, .int .i64 gi, .string gb] 24)) := (Below.refl _ _).alloc (Nat.le_refl _) _
    have hB2 := hb1.trans (hb2.mono hb1.size)
    have hB3 := hB2.trans (hb3.mono hB2.size)
    have hT3 := (hT1.below hb2).below hb3
    clear CO hb1 hb2 hb3 hB2 hT1
    go_wp2_with fail
    refine (CS.out _ hT3).mono ?_
    rintro e w4 ⟨rfl, hb4⟩
    have hB4 := hB3.trans (hb4.mono hB3.size)
    clear CS hb4 hB3 hT3
    go_wp2
    go_ret
    exact ⟨by simp, hB4⟩
  · have CO : Hid (∀ w : World, Tab w → Calls Tryd.prog 15 #[.string s] w fun e w' => e = .returned (.tuple #[.agg #[.int .i64 0, .int .u64 0, .int .i64 0, .string ⟨#[]⟩], .int .i64 0, .int .i64 (openE s)]) ∧ Below w.heap.size w w') := fun w hT => open_no s (by omega) h w hT
    have h' : (openE s == 0) = false := by simpa using h
    have heq : ∀ w : World, (binOp .eql 24 (.agg #[.int .i64 0, .int .u64 0, .int .i64 0, .string ⟨#[]⟩]) (.agg #[.int .i64 0, .int .u64 0, .int .i64 0, .string ⟨#[]⟩])).run Tryd.prog w = .ok (.bool true) w := by
      intro w
      have := run_eqF 0 0 0 0 ⟨#[]⟩ ⟨#[]⟩ 0 0 w
      simpa using this
    clear h
    generalize openE s = E at *
    go_enter Tryd.func7, Tryd.ntmps7
    go_wp2_with fail
    refine (CA.out _ hT).mono ?_
    rintro e w1 ⟨rfl, hb1⟩
    have hT1 := hT.below hb1
    clear CA hT
    go_wp2_with fail
    refine (CO.out _ hT1).mono ?_
    rintro e w2 ⟨rfl, hb2⟩
    have hb3 : Below w2.heap.size w2 (w2.alloc (.cells #[.int .i64 0, .int .u64 0, .int .i64 0, .string ⟨#[]⟩] 24)) := (Below.refl _ _).alloc (Nat.le_refl _) _
    have hB2 := hb1.trans (hb2.mono hb1.size)
    have hB3 := hB2.trans (hb3.mono hB2.size)
    clear CO hb1 hb2 hb3 hB2 hT1
    go_wp2
    go_ret
    exact ⟨rfl, hB3⟩
end Go.Proofs.YtnpcnflfpmjgiaaDoor
