/- The statements' head: live. -/
import Derived.Test.YtlgfpjaomiomjaaGreatDoorLp
namespace Go.Proofs.YtlgfpjaomiomjaaGreatDoor
open Go.RowKit
set_option linter.unusedVariables false
set_option linter.unusedSimpArgs false

/-- A row of words in memory. -/
def Toks (w : World) (sv : Value) (ts : List Tk) : Prop := ∃ ad cap, sv = .slice ad ts.length cap ∧ ∀ (i j : Nat) (t : Tk) (v : Value), ts[i]? = some t → (tkV t)[j]? = some v → ∃ g, ad = some ⟨g, 0, none⟩ ∧ w.cell? ⟨g, i * 6 + j, none⟩ = some v
theorem toks_of_row {w : World} {B : Nat} {sv : Value} {ts : List Tk} (h : w.ownsRow B 39 6 sv ts.length (tcells ts)) : Toks w sv ts := by
  rcases h.2 with ⟨rfl, h0⟩ | ⟨g, cap, cur, e, _⟩
  · have : ts = [] := List.length_eq_zero_iff.1 h0
    subst this
    exact ⟨none, 0, rfl, fun i j t v hi => by simp at hi⟩
  · refine ⟨some ⟨g, 0, none⟩, cap, e, fun i j t v hi hv => ⟨g, rfl, ?_⟩⟩
    subst e
    have hi' := (List.getElem?_eq_some_iff.1 hi).1
    have hj' := (List.getElem?_eq_some_iff.1 hv).1
    rw [tkV_length] at hj'
    rw [h.cellAt (i * 6 + j) (by omega)]
    exact tcells_at ts i j t v hi hv
theorem live_one : (tokR [97, 61, 61, 48, 120, 49, 102, 32, 111, 110, 59]).2 = (0, 0, 0) ∧ (tokR [97, 61, 61, 48, 120, 49, 102, 32, 111, 110, 59]).1.length = 5 ∧ (tokR [97, 61, 61, 48, 120, 49, 102, 32, 111, 110, 59]).1[2]?.map (·.val) = some 31 ∧ (tokR [97, 61, 61, 48, 120, 49, 102, 32, 111, 110, 59]).1[3]?.map (·.kind) = some 2 := by decide +kernel
theorem live_two : (tokR [97, 32, 33]).2 = (60, 1, 3) := by decide +kernel
set_option maxHeartbeats 1000000 in
theorem live_any (w : World) (hT : Tabs w) : Calls Tryz.prog 5 #[] w fun e w' => e = .returned (.bool true) ∧ Below w.heap.size w w' := by
  obtain ⟨e1, e2, e3, e4⟩ := live_one
  have C1 : Hid (Calls Tryz.prog 7 #[.string ⟨#[97, 61, 61, 48, 120, 49, 102, 32, 111, 110, 59]⟩] w fun e w' => ∃ g cap, e = .returned (.tuple #[.slice (some ⟨g, 0, none⟩) 5 cap, .agg (fltA (0, 0, 0))]) ∧ g < w'.heap.size ∧ w'.cell? ⟨g, 15, none⟩ = some (.int .u64 31) ∧ w'.cell? ⟨g, 18, none⟩ = some (.int .i64 2) ∧ Below w.heap.size w w') := by
    refine (tokens_any ⟨#[97, 61, 61, 48, 120, 49, 102, 32, 111, 110, 59]⟩ (by decide) w hT).mono ?_
    rintro e w' ⟨sv, rfl, hrow, hb⟩
    obtain ⟨ad, cap, rfl, hc⟩ := toks_of_row hrow
    change ∀ (i j : Nat) (t : Tk) (v : Value), (tokR [97, 61, 61, 48, 120, 49, 102, 32, 111, 110, 59]).1[i]? = some t → _ at hc
    cases h2 : (tokR [97, 61, 61, 48, 120, 49, 102, 32, 111, 110, 59]).1[2]? with
    | none => rw [h2] at e3; cases e3
    | some t2 =>
      rw [h2] at e3
      simp only [Option.map_some, Option.some.injEq] at e3
      cases h3 : (tokR [97, 61, 61, 48, 120, 49, 102, 32, 111, 110, 59]).1[3]? with
      | none => rw [h3] at e4; cases e4
      | some t3 =>
        rw [h3] at e4
        simp only [Option.map_some, Option.some.injEq] at e4
        obtain ⟨g, rfl, c1⟩ := hc 2 3 t2 (.int .u64 31) h2 (by simp [tkV, e3]; decide)
        obtain ⟨g', eg, c2⟩ := hc 3 0 t3 (.int .i64 2) h3 (by simp [tkV, e4])
        injection eg with eg
        injection eg with eg
        subst eg
        refine ⟨g, cap, ?_, World.block_lt_of_cell? _ _ c1, c1, c2, hb⟩
        show Ending.returned (.tuple #[.slice (some ⟨g, 0, none⟩) (tokR [97, 61, 61, 48, 120, 49, 102, 32, 111, 110, 59]).1.length cap, .agg (fltA (tokR [97, 61, 61, 48, 120, 49, 102, 32, 111, 110, 59]).2)]) = _
        rw [e1, e2]
  have C2 : Hid (∀ w1, Below w.heap.size w w1 → Calls Tryz.prog 7 #[.string ⟨#[97, 32, 33]⟩] w1 fun e w' => ∃ sv, e = .returned (.tuple #[sv, .agg (fltA (60, 1, 3))]) ∧ Below w1.heap.size w1 w') := by
    show ∀ w1, _
    intro w1 h
    refine (tokens_any ⟨#[97, 32, 33]⟩ (by decide) w1 (hT.below h)).mono ?_
    rintro e w' ⟨sv, rfl, hrow, hb⟩
    refine ⟨sv, ?_, hb⟩
    show Ending.returned (.tuple #[sv, .agg (fltA (tokR [97, 32, 33]).2)]) = _
    rw [live_two]
  clear hT e1 e2 e3 e4
  go_enter Tryz.func5, Tryz.ntmps5
  go_wp2_with fail
  refine C1.out.mono ?_
  rintro e w1 ⟨g, cap, rfl, hg, c1, c2, hb1⟩
  have hb1' : Below w.heap.size w (w1.alloc (.cells (fltA (0, 0, 0)) 28)) := hb1.alloc hb1.size _
  have d1 : (w1.alloc (.cells (fltA (0, 0, 0)) 28)).cell? ⟨g, 15, none⟩ = some (.int .u64 31) := by rw [((Below.refl w1.heap.size w1).alloc (Nat.le_refl _) _).cell (p := ⟨g, 15, none⟩) hg]; exact c1
  have d2 : (w1.alloc (.cells (fltA (0, 0, 0)) 28)).cell? ⟨g, 18, none⟩ = some (.int .i64 2) := by rw [((Below.refl w1.heap.size w1).alloc (Nat.le_refl _) _).cell (p := ⟨g, 18, none⟩) hg]; exact c2
  have HF : Hid (Blk (w1.alloc (.cells (fltA (0, 0, 0)) 28)) w1.heap.size (fltA (0, 0, 0)) 28) := Blk.new _ _ _
  clear C1 hb1 c1 c2
  go_wp2_with fail
  refine (C2.out _ hb1').mono ?_
  rintro e w2 ⟨sv, rfl, hb2⟩
  have hz2 : w1.heap.size < w2.heap.size := by have := hb2.size; simp at this; omega
  have hb2' : Below w.heap.size w (w2.alloc (.cells (fltA (60, 1, 3)) 28)) := (bst hb1' hb2).alloc (by have := hb1'.size; have := hb2.size; omega) _
  have k1 : w2.cell? ⟨g, 15, none⟩ = some (.int .u64 31) := by rw [hb2.cell (p := ⟨g, 15, none⟩) (by simp; omega)]; exact d1
  have k2 : w2.cell? ⟨g, 18, none⟩ = some (.int .i64 2) := by rw [hb2.cell (p := ⟨g, 18, none⟩) (by simp; omega)]; exact d2
  have HF2 : Hid (Blk w2 w1.heap.size (fltA (0, 0, 0)) 28) := HF.out.below hb2
  have f0 := HF2.out.cell 0 (v := .int .i64 0) rfl
  have f1 := HF2.out.cell 1 (v := .int .i64 0) rfl
  have f2 := HF2.out.cell 2 (v := .int .i64 0) rfl
  have HB : Hid (Below w.heap.size w (w2.alloc (.cells (fltA (60, 1, 3)) 28))) := hb2'
  have hg2 : g < w2.heap.size := by omega
  clear C2 hb1' hb2 d1 d2 hb2' HF
  go_wp2
  go_ret
  exact ⟨rfl, HB.out⟩
end Go.Proofs.YtlgfpjaomiomjaaGreatDoor
