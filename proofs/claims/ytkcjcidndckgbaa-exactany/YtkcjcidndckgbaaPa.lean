/- ExactAny, proved: for every input the statement answers true, and its arguments read afterwards as before. -/
import Derived.Test.YtkcjcidndckgbaaRows
import Derived.Test.YtkcjcidndckgbaaOa
import Derived.Test.YtkcjcidndckgbaaOb
import Derived.Test.YtkcjcidndckgbaaTw
namespace Go.Proofs.Ytkcjcidndckgbaa
open Go.ChangeShapes Go.WideShapes Go.ChangeAt Go.RowKit Go.Joins
set_option linter.unusedVariables false

set_option maxRecDepth 100000 in
theorem any_lifted (os : Os) (started : os.Started) (H : Type) (enc : TypeId × Value → H) :
    ReturnsInHanded {} Try.checked os 4 .any (Rows.exactAnySpec.pre6 enc Try.prog Try.f4 Rows.exactAnyRow.domain false) (Rows.exactAnySpec.post enc Try.prog Try.f4 false true false false) := by
  refine returnsInHanded_of_change_sized (C := Try.checked) knob started (by kernel_rfl) Try.func4
    (ChangeSpec.witness6 (enc := enc) (C := Try.checked) false ⟨#[], #[.slice none 0 0, .string ⟨#[]⟩], []⟩ 8 (by kernel_rfl) (by kernel_rfl) (by kernel_rfl) (by kernel_rfl)) ?_
  intro W base args ds gs before hval0 hW _ hsz0 _
  have hsz : (DataW.weightsEach Try.prog (Try.f4.params.toList ++ Rows.exactAnySpec.plain.varTypes Try.prog) (ds ++ gs)).all (· ≤ reachBytes) = true := hsz0
  have hval : ∀ (j : Nat) t v, Try.f4.params[j]? = some t → args[j]? = some v → Value.okWide Try.prog W .any base t v := hval0
  have hW' := hW
  obtain ⟨p, q, hA0, hV, rfl, _, _⟩ := hW
  have hA : DataW.TrodAll enc Try.prog W 0 (fun _ => true) true Try.f4.params.toList args.toList ds p := hA0
  rw [Try.params4] at hA hval hsz
  obtain ⟨v0, v1, d0, d1, p0, p1, rfl, rfl, rfl, h0, h1⟩ := trodAll_two hA
  obtain ⟨rfl, rfl⟩ := trodVars_none hV
  have hzz : ∀ (j : Nat) (t : TypeId) (d : DataW H), (#[44, 9] : Array TypeId).toList[j]? = some t → [d0, d1][j]? = some d → ∀ n ∈ d.weights Try.prog t, n ≤ reachBytes := fun j t d ht hd n hn => by
    have h9 := List.all_eq_true.1 hsz n (DataW.weights_mem_each (j := j) (t := t) (d := d) ?_ ?_ n hn)
    · exact of_decide_eq_true h9
    · have hj := (List.getElem?_eq_some_iff.1 ht).1
      rw [List.getElem?_append_left hj]; exact ht
    · have hj := (List.getElem?_eq_some_iff.1 hd).1
      rw [List.getElem?_append_left hj]; exact hd
  have hk0 := h0
  obtain ⟨f0, hf0⟩ := h0
  obtain ⟨b0, len0, cap0, rfl⟩ := okWide_slice Try.underlying44 (hval 0 44 v0 rfl rfl)
  obtain ⟨u0, s0, e0, hs0⟩ := open_txts (enc := enc) (W := W) (held := true) (fuel := f0) ⟨_, hf0, hzz 0 44 d0 rfl rfl⟩
  simp only [Value.cells, List.cons.injEq, and_true] at e0
  subst e0
  have hk1 := h1
  obtain ⟨f1, hf1⟩ := h1
  obtain ⟨t1, rfl⟩ := okWide_string Try.underlying9 (hval 1 9 v1 rfl rfl)
  obtain ⟨s1, e1, hs1⟩ := open_txt (enc := enc) (W := W) (held := true) (fuel := f1) ⟨_, hf1, hzz 1 9 d1 rfl rfl⟩
  simp only [Value.cells, List.cons.injEq, Value.string.injEq, and_true] at e1
  subst e1
  clear hA0 hval0 hsz0
  simp only [List.append_nil] at hW'
  have hlt : ∀ y ∈ p0 ++ p1, y.block < W.heap.size := fun y hy => by simpa using hW'.lt y hy
  refine (any_walk _ s0 t1 W hs0 hs1).mono fun e W' ⟨he, hb⟩ => ?_
  subst he
  have r0 := Below.trod laidOut (by kernel_rfl) (of_decide_eq_true (by kernel_rfl)) hk0 hb (fun y hy => hlt y (by simp [hy]))
  have r1 := Below.trod laidOut (by kernel_rfl) (of_decide_eq_true (by kernel_rfl)) hk1 hb (fun y hy => hlt y (by simp [hy]))
  exact ⟨_, rfl, _, _, _, [], p0 ++ p1, [], hW', trodAll_mk1 (shut_bool Try.underlying4 true), trodAll_mk2 r0 r1, rfl, hb.frame _, fun h => by cases h⟩
theorem any_holds : Rows.ExactAnySaid :=
  OpenClaim.holds_of_wide 4 Try.f4 rfl rfl rfl rfl rfl rfl rfl ⟨rfl, rfl, rfl, rfl, rfl⟩ rfl rfl rfl rfl rfl (by kernel_rfl) Try.func4 (by kernel_rfl)
    (of_decide_eq_true (by kernel_rfl)) (by unfold Func.isWrapper; first | (rw [if_pos (by decide +kernel)]; kernel_rfl) | (rw [if_neg (by decide +kernel)]; exact ⟨rfl, rfl⟩))
    (fun os started H enc _ => any_lifted os started H enc)
#print axioms any_holds
end Go.Proofs.Ytkcjcidndckgbaa
