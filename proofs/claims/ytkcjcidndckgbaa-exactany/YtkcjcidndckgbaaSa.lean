/- Package exact: the taken places, sorted by their texts: the order, and the library's sort at them. -/
import Derived.Test.YtkcjcidndckgbaaSg
import Derived.Test.YtkcjcidndckgbaaPq
import Derived.Test.YtkcjcidndckgbaaMq
namespace Go.Proofs.Ytkcjcidndckgbaa
open Go.RowKit Go.Sort
set_option linter.unusedVariables false
set_option linter.unusedSimpArgs false

theorem cmpb_lt : ∀ (a b : List UInt8), decide (Lib.compareBytes a b < 0) = decide (a < b)
  | [], [] => by simp [Lib.compareBytes]
  | [], b :: y => by simp [Lib.compareBytes]
  | a :: x, [] => by simp [Lib.compareBytes]
  | a :: x, b :: y => by
    rw [Lib.compareBytes]
    have ih := cmpb_lt x y
    by_cases h1 : a < b
    · simp [h1, List.cons_lt_cons_iff]
    · by_cases h2 : b < a
      · have h3 : ¬ a = b := fun e => by subst e; exact absurd h2 (UInt8.lt_irrefl _)
        simp [h1, h2, h3, List.cons_lt_cons_iff]
      · have h3 : a = b := UInt8.le_antisymm (UInt8.not_lt.1 h2) (UInt8.not_lt.1 h1)
        subst h3
        simp only [h1, if_false, List.cons_lt_cons_iff, false_or, true_and]
        exact ih
/-- How the program holds two things against each other. -/
def cfK {V : Type} (x y : ByteArray × V) : Int := Lib.compareBytes x.1.data.toList y.1.data.toList
theorem lt_cfK {V : Type} (x y : ByteArray × V) : ltOf cfK x y = blt x.1 y.1 := by
  unfold ltOf cfK blt
  rw [cmpb_lt, bless_eq, ByteArray.toList_eq, ByteArray.toList_eq]
theorem swoK {V : Type} : SWO (ltOf (cfK (V := V))) where
  irrefl x := by rw [lt_cfK]; exact blt_irrefl _
  trans x y z h1 h2 := by rw [lt_cfK] at *; exact blt_trans h1 h2
  ntrans x y z h1 h2 := by
    rw [lt_cfK] at *
    cases q : blt x.1 z.1 with
    | false => rfl
    | true =>
      cases p : blt y.1 x.1 with
      | true => have := blt_trans p q; rw [this] at h2; cases h2
      | false => have e := blt_tri h1 p; rw [e] at q; rw [q] at h2; cases h2
/-- A taken place's cells. -/
def encS (x : ByteArray × Int) : List Value := encI (some x)
theorem encS_one (x : ByteArray × Int) : ∀ v ∈ encS x, v.oneCell' = true := by
  intro v hv
  simp only [encS, encI, List.mem_cons, List.not_mem_nil, or_false] at hv
  rcases hv with rfl | rfl | rfl | rfl <;> rfl
set_option maxHeartbeats 1000000 in
theorem cmpI_any (x y : ByteArray × Int) (W : World) : Calls Try.prog 65 #[.agg (encS x).toArray, .agg (encS y).toArray] W fun e w' => e = .returned (.int .i64 (cfK x y)) ∧ ∃ q os', w' = grow (W.drewN q) os' := by
  obtain ⟨k1, v1⟩ := x
  obtain ⟨k2, v2⟩ := y
  have C : Hid (∀ w, Calls Try.prog 66 #[.string k1, .string k2] w fun e w' => e = .returned (.int .i64 (cfK (k1, v1) (k2, v2))) ∧ w' = w) := fun w => Try.strings_Compare k1 k2 w
  generalize cfK (k1, v1) (k2, v2) = c at *
  show Calls Try.prog 65 #[.agg #[.bool true, .int .u32 (spr k1), .string k1, .int .i64 v1], .agg #[.bool true, .int .u32 (spr k2), .string k2, .int .i64 v2]] W _
  go_enter Try.func65, Try.ntmps65
  go_wp2_with fail
  refine (C.out _).mono ?_
  rintro e w1 ⟨rfl, rfl⟩
  clear C
  go_wp2
  go_ret
  exact ⟨rfl, 0, _, by rw [alloc_eq_grow, alloc_eq_grow, grow_grow]; rfl⟩
/-- Things as they can be read. -/
def CellsOf {α : Type} (K : Nat) (enc : α → List Value) (w : World) (g : Nat) (xs : List α) : Prop := ∀ (i : Nat) (x : α), xs[i]? = some x → ∀ (j : Nat) (v : Value), (enc x)[j]? = some v → w.cell? ⟨g, i * K + j, none⟩ = some v
end Go.Proofs.Ytkcjcidndckgbaa
