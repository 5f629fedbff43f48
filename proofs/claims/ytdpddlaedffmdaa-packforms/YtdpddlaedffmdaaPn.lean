/- PackNil, proved: for every item and every want the statement answers true, and its arguments read afterwards as before. -/
import Derived.Test.YtdpddlaedffmdaaRows
import Derived.Test.YtdpddlaedffmdaaQx
import Derived.ProofKit
import Derived.SizedLaws
import Derived.OpenShut
import Derived.Lib.SmallJoins
namespace Go.Proofs.Ytdpddlaedffmdaa
open Go.ChangeShapes Go.WideShapes Go.ChangeAt Go.RowKit Go.Joins
open Go.ChangeMaps (open_string shut_string)
set_option linter.unusedVariables false

theorem knob : ownKnob Try.prog.godebug = none := by kernel_rfl
theorem laidOut : laidOutB Try.prog = true := by kernel_rfl
theorem cells36 : Try.prog.cellsOf 36 = 7 := by kernel_rfl
theorem cells45 : Try.prog.cellsOf 45 = 4 := by kernel_rfl
theorem cells34 : Try.prog.cellsOf 34 = 2 := by kernel_rfl
theorem cells32 : Try.prog.cellsOf 32 = 1 := by kernel_rfl
theorem cells9 : Try.prog.cellsOf 9 = 1 := by kernel_rfl
theorem cells4 : Try.prog.cellsOf 4 = 1 := by kernel_rfl
theorem cells3 : Try.prog.cellsOf 3 = 1 := by kernel_rfl
section
variable {H : Type} {enc : TypeId × Value → H} {W : World} {base : Nat} {sp : Nat → Bool} {held : Bool} {fuel : Nat}
theorem list7 {α : Type} {l : List α} (h : l.length = 7) : ∃ a b c d e f g, l = [a, b, c, d, e, f, g] := by
  match l, h with
  | [a, b, c, d, e, f, g], _ => exact ⟨a, b, c, d, e, f, g, rfl⟩
theorem list6 {α : Type} {l : List α} (h : l.length = 6) : ∃ a b c d e f, l = [a, b, c, d, e, f] := by
  match l, h with
  | [a, b, c, d, e, f], _ => exact ⟨a, b, c, d, e, f, rfl⟩
theorem list2 {α : Type} {l : List α} (h : l.length = 2) : ∃ a b, l = [a, b] := by
  match l, h with
  | [a, b], _ => exact ⟨a, b, rfl⟩
theorem list4 {α : Type} {l : List α} (h : l.length = 4) : ∃ a b c d, l = [a, b, c, d] := by
  match l, h with
  | [a, b, c, d], _ => exact ⟨a, b, c, d, rfl⟩
theorem word_of {x : Int} (h : (Lit.int .u64 x).wf = true) : ∃ n : Nat, x = (n : Int) ∧ n < 18446744073709551616 := by
  have := bounds_u64 h
  exact ⟨x.toNat, by omega, by omega⟩
/-- An item's cells. -/
theorem open_item {cs : List Value} {y : DataW H × List MemPlace} (h : DataW.trod enc Try.prog W base sp held fuel 36 cs = some y) :
    ∃ (o : Bool) (kd : Int) (n : Nat) (k : Int) (s : ByteArray) (x : Nat), cs = [.bool o, .int .i64 kd, .int .u64 n, .int .i64 k, .string s, .int .u64 (hiOf x), .int .u64 (loOf x)] ∧ n < 18446744073709551616 ∧ Is128 x ∧ (Lit.int .i64 kd).wf = true ∧ (Lit.int .i64 k).wf = true ∧
      y = (.agg [.lit (.bool o), .lit (.int .i64 kd), .lit (.int .u64 n), .lit (.int .i64 k), .lit (.string s.data.toList), .agg [.lit (.int .u64 (hiOf x)), .lit (.int .u64 (loOf x))]], []) := by
  obtain ⟨xs, m, _, rfl, hl, hlen, hf⟩ := DataW.trod_struct Try.underlying36 h
  obtain ⟨a, b, c, d, e, f, g, rfl⟩ := list7 (hl.trans cells36)
  obtain ⟨x0, x1, x2, x3, x4, x5, rfl⟩ := list6 hlen
  have g0 : DataW.trod enc Try.prog W base sp held m 4 [a] = some x0 := by have := hf 0 _ rfl; simpa [cells4] using this
  have g1 : DataW.trod enc Try.prog W base sp held m 3 [b] = some x1 := by have := hf 1 _ rfl; simpa [cells3] using this
  have g2 : DataW.trod enc Try.prog W base sp held m 32 [c] = some x2 := by have := hf 2 _ rfl; simpa [cells32] using this
  have g3 : DataW.trod enc Try.prog W base sp held m 3 [d] = some x3 := by have := hf 3 _ rfl; simpa [cells3] using this
  have g4 : DataW.trod enc Try.prog W base sp held m 9 [e] = some x4 := by have := hf 4 _ rfl; simpa [cells9] using this
  have g5 : DataW.trod enc Try.prog W base sp held m 34 [f, g] = some x5 := by have := hf 5 _ rfl; simpa [cells34] using this
  clear hf h hl hlen
  obtain ⟨o, e0, rfl⟩ := DataW.trod_bool Try.underlying4 g0
  obtain ⟨kd, e1, rfl, w1⟩ := DataW.trod_int Try.underlying3 g1
  obtain ⟨n, e2, rfl, w2⟩ := DataW.trod_int Try.underlying32 g2
  obtain ⟨k, e3, rfl, w3⟩ := DataW.trod_int Try.underlying3 g3
  obtain ⟨s, e4, rfl, w4⟩ := DataW.trod_string Try.underlying9 g4
  obtain ⟨ys, m', _, rfl, hl, hlen, hf⟩ := DataW.trod_struct Try.underlying34 g5
  obtain ⟨y0, y1, rfl⟩ := list2 hlen
  have q0 : DataW.trod enc Try.prog W base sp held m' 32 [f] = some y0 := by have := hf 0 _ rfl; simpa [cells32] using this
  have q1 : DataW.trod enc Try.prog W base sp held m' 32 [g] = some y1 := by have := hf 1 _ rfl; simpa [cells32] using this
  obtain ⟨hi, e5, rfl, w5⟩ := DataW.trod_int Try.underlying32 q0
  obtain ⟨lo, e6, rfl, w6⟩ := DataW.trod_int Try.underlying32 q1
  simp only [List.cons.injEq, and_true] at e0 e1 e2 e3 e4 e5 e6
  subst e0 e1 e2 e3 e4 e5 e6
  obtain ⟨n, rfl, hn⟩ := word_of w2
  obtain ⟨x, hx, rfl, rfl⟩ := words_are (bounds_u64 w5).1 (by have := (bounds_u64 w5).2; omega) (bounds_u64 w6).1 (by have := (bounds_u64 w6).2; omega)
  exact ⟨o, kd, n, k, s, x, rfl, hn, hx, w1, w3, by simp⟩
/-- A want's cells. -/
theorem open_want {cs : List Value} {y : DataW H × List MemPlace} (h : DataW.trod enc Try.prog W base sp held fuel 45 cs = some y) :
    ∃ (o : Bool) (kd : Int) (n : Nat) (k : Int), cs = [.bool o, .int .i64 kd, .int .u64 n, .int .i64 k] ∧ n < 18446744073709551616 ∧ (Lit.int .i64 kd).wf = true ∧ (Lit.int .i64 k).wf = true ∧
      y = (.agg [.lit (.bool o), .lit (.int .i64 kd), .lit (.int .u64 n), .lit (.int .i64 k)], []) := by
  obtain ⟨xs, m, _, rfl, hl, hlen, hf⟩ := DataW.trod_struct Try.underlying45 h
  obtain ⟨a, b, c, d, rfl⟩ := list4 (hl.trans cells45)
  obtain ⟨x0, x1, x2, x3, rfl⟩ := list4 hlen
  have g0 : DataW.trod enc Try.prog W base sp held m 4 [a] = some x0 := by have := hf 0 _ rfl; simpa [cells4] using this
  have g1 : DataW.trod enc Try.prog W base sp held m 3 [b] = some x1 := by have := hf 1 _ rfl; simpa [cells3] using this
  have g2 : DataW.trod enc Try.prog W base sp held m 32 [c] = some x2 := by have := hf 2 _ rfl; simpa [cells32] using this
  have g3 : DataW.trod enc Try.prog W base sp held m 3 [d] = some x3 := by have := hf 3 _ rfl; simpa [cells3] using this
  clear hf h hl hlen
  obtain ⟨o, e0, rfl⟩ := DataW.trod_bool Try.underlying4 g0
  obtain ⟨kd, e1, rfl, w1⟩ := DataW.trod_int Try.underlying3 g1
  obtain ⟨n, e2, rfl, w2⟩ := DataW.trod_int Try.underlying32 g2
  obtain ⟨k, e3, rfl, w3⟩ := DataW.trod_int Try.underlying3 g3
  simp only [List.cons.injEq, and_true] at e0 e1 e2 e3
  subst e0 e1 e2 e3
  obtain ⟨n, rfl, hn⟩ := word_of w2
  exact ⟨o, kd, n, k, rfl, hn, w1, w3, by simp⟩
end

set_option maxRecDepth 100000 in
theorem nil_lifted (os : Os) (started : os.Started) (H : Type) (enc : TypeId × Value → H) :
    ReturnsInHanded {} Try.checked os 7 .any (Rows.packNilSpec.pre6 enc Try.prog Try.f7 Rows.packNilRow.domain false) (Rows.packNilSpec.post enc Try.prog Try.f7 false true false false) := by
  refine returnsInHanded_of_change_sized (C := Try.checked) knob started (by kernel_rfl) Try.func7
    (ChangeSpec.witness6 (enc := enc) (C := Try.checked) false ⟨#[], #[.agg #[.bool false, .int .i64 0, .int .u64 0, .int .i64 0, .string ⟨#[]⟩, .int .u64 0, .int .u64 0], .agg #[.bool false, .int .i64 0, .int .u64 0, .int .i64 0]], []⟩ 8 (by kernel_rfl) (by kernel_rfl) (by kernel_rfl) (by kernel_rfl)) ?_
  intro W base args ds gs before hval0 hW _ hsz0 _
  have hsz : (DataW.weightsEach Try.prog (Try.f7.params.toList ++ Rows.packNilSpec.plain.varTypes Try.prog) (ds ++ gs)).all (· ≤ reachBytes) = true := hsz0
  have hval : ∀ (j : Nat) t v, Try.f7.params[j]? = some t → args[j]? = some v → Value.okWide Try.prog W .any base t v := hval0
  have hW' := hW
  obtain ⟨p, q, hA0, hV, rfl, _, _⟩ := hW
  have hA : DataW.TrodAll enc Try.prog W 0 (fun _ => true) true Try.f7.params.toList args.toList ds p := hA0
  rw [Try.params7] at hA hval hsz
  obtain ⟨v0, v1, d0, d1, p0, p1, rfl, rfl, rfl, h0, h1⟩ := trodAll_two hA
  obtain ⟨rfl, rfl⟩ := trodVars_none hV
  obtain ⟨cs0, rfl, _⟩ := okWide_struct Try.underlying36 (hval 0 36 v0 rfl rfl)
  obtain ⟨cs1, rfl, _⟩ := okWide_struct Try.underlying45 (hval 1 45 v1 rfl rfl)
  have h0k := h0
  have h1k := h1
  obtain ⟨f0, hf0⟩ := h0
  obtain ⟨f1, hf1⟩ := h1
  obtain ⟨o, kd, n, k, s, x, e0, hn, hx, _, _, y0⟩ := open_item hf0
  obtain ⟨o2, kd2, m, k2, e1, hm, _, _, y1⟩ := open_want hf1
  simp only [Prod.mk.injEq] at y0 y1
  obtain ⟨rfl, rfl⟩ := y0
  obtain ⟨rfl, rfl⟩ := y1
  have e0' : cs0 = #[.bool o, .int .i64 kd, .int .u64 n, .int .i64 k, .string s, .int .u64 (hiOf x), .int .u64 (loOf x)] := Array.ext' (by simpa [Value.cells] using e0)
  have e1' : cs1 = #[.bool o2, .int .i64 kd2, .int .u64 m, .int .i64 k2] := Array.ext' (by simpa [Value.cells] using e1)
  subst e0' e1'
  have hs : s.size ≤ 140737488351232 := by
    simp [DataW.weightsEach, DataW.weights, Try.underlying36, reachBytes] at hsz
    exact of_decide_eq_true hsz
  clear hA0 hval0 hsz0
  simp only [List.append_nil] at hW'
  refine (nil_walk o kd n hn k s hs x hx o2 kd2 m k2 W).mono fun e W' ⟨he, hb⟩ => ?_
  subst he
  have a0 := Below.trod laidOut (by kernel_rfl) (of_decide_eq_true (by kernel_rfl)) h0k hb (fun y hy => by cases hy)
  have a1 := Below.trod laidOut (by kernel_rfl) (of_decide_eq_true (by kernel_rfl)) h1k hb (fun y hy => by cases hy)
  exact ⟨_, rfl, _, _, _, [], [], [], hW', trodAll_mk1 (shut_bool Try.underlying4 true), trodAll_mk2 a0 a1, rfl, hb.frame _, fun h => by cases h⟩
theorem nil_holds : Rows.PackNilSaid :=
  OpenClaim.holds_of_wide 7 Try.f7 rfl rfl rfl rfl rfl rfl rfl ⟨rfl, rfl, rfl, rfl, rfl⟩ rfl rfl rfl rfl rfl (by kernel_rfl) Try.func7 (by kernel_rfl)
    (of_decide_eq_true (by kernel_rfl)) (by unfold Func.isWrapper; first | (rw [if_pos (by decide +kernel)]; kernel_rfl) | (rw [if_neg (by decide +kernel)]; exact ⟨rfl, rfl⟩))
    (fun os started H enc _ => nil_lifted os started H enc)
#print axioms nil_holds
end Go.Proofs.Ytdpddlaedffmdaa
