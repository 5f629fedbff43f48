/- What the listed variable gives the walks: the table of halves lies in memory; and the statements' arguments, opened. -/
import Derived.Test.YtnpcnflfpmjgiaaDoorTie
import Derived.Test.YtnpcnflfpmjgiaaDoorCards
import Derived.Test.YtnpcnflfpmjgiaaDoorFn
import Derived.Test.YtnpcnflfpmjgiaaDoorCm
import Derived.ProofKit
import Derived.OpenShut
import Derived.LaidMore
import Derived.Lay
import Derived.SevenTiedAt
import Derived.Stop.Joined
import Derived.Lib.SmallJoins
import Derived.SizedLaws
import Derived.Deep.Slices
namespace Go.Proofs.YtnpcnflfpmjgiaaDoor
open Go.ChangeShapes Go.WideShapes Go.ChangeAt Go.RowKit Go.Joins
set_option linter.unusedVariables false

theorem own : ownKnob Tryd.prog.godebug = none := by kernel_rfl
theorem laidOut : laidOutB Tryd.prog = true := by kernel_rfl
abbrev laid1 : List (String × DataW Unit) := [("turnout/sums.halves", Rows.laid_turnout_sums_halves)]
def halvesZ : List Int := [0, 498536548, 997073096, 651767980, 1994146192, 1802195444, 1303535960, 1342533948, 3988292384, 4027552580, 3604390888, 3412177804, 2607071920, 2262029012, 2685067896, 3183342108]
theorem halvesZ_at : ∀ d, d < 16 → halvesZ.getD d 0 = ((hlf d : Nat) : Int) := by decide
theorem tab_of_laid {W : World} (h : laidMetH Tryd.prog laid1 W) : Tab W := by
  rw [MakeChecks.laidMetH_plain _ _ _ (by kernel_rfl)] at h
  obtain ⟨ps, ⟨g, t, cs, fuel, p, q, hg, ht, hv, hd, _, _⟩, _, _⟩ := h
  obtain rfl := Option.some.inj ((show Tryd.prog.globalNamed "turnout/sums.halves" = some 1 by kernel_rfl).symm.trans hg)
  obtain rfl := Option.some.inj ((show (Tryd.prog.globals[1]?).map (·.type) = some 130 by kernel_rfl).symm.trans ht)
  obtain ⟨xs, m, _, ex, _, hl, hel⟩ := DataW.trod_array Tryd.underlying130 hd
  have c5 : Tryd.prog.cellsOf 57 = 1 := by kernel_rfl
  intro r hr
  have hE := hel r hr
  rw [c5, Nat.mul_one, List.getElem?_eq_getElem (by omega)] at hE
  obtain ⟨z, e1, e2, _⟩ := DataW.trod_int Tryd.underlying57 hE
  have hlen : halvesZ.length = 16 := rfl
  have e3 : (xs.map (·.1)) = halvesZ.map fun n => .lit (.int .u32 n) := (DataW.agg.inj (Prod.mk.inj ex).1).symm
  have e4 : (xs.map (·.1))[r]? = (halvesZ.map fun n => (DataW.lit (.int .u32 n) : DataW Unit))[r]? := by rw [e3]
  rw [List.getElem?_map, List.getElem?_map, List.getElem?_eq_getElem (by omega : r < xs.length), List.getElem?_eq_getElem (by omega : r < halvesZ.length), e2] at e4
  have hz : z = halvesZ.getD r 0 := by
    simp only [Option.map_some, Option.some.injEq, DataW.lit.injEq, Lit.int.injEq, true_and] at e4
    rw [e4, List.getD, List.getElem?_eq_getElem (by omega : r < halvesZ.length)]; rfl
  rw [World.var?_cell hg hv r, ← halvesZ_at r hr, ← hz]
  have : cs.toList[r]? = some (.int .u32 z) := by
    have h0 : ((cs.toList.drop r).take 1)[0]? = some (.int .u32 z) := by rw [e1]; rfl
    simpa using h0
  simpa using this
theorem word_of_wf {x : Int} (h : (Lit.int .u32 x).wf = true) : ∃ n : Nat, x = (n : Int) ∧ n < 4294967296 := by
  simp [Lit.wf, IntKind.min, IntKind.max, IntKind.signed, IntKind.bits] at h
  exact ⟨x.toNat, by omega, by omega⟩
theorem word64_of_wf {x : Int} (h : (Lit.int .u64 x).wf = true) : ∃ n : Nat, x = (n : Int) ∧ n < 18446744073709551616 := by
  simp [Lit.wf, IntKind.min, IntKind.max, IntKind.signed, IntKind.bits] at h
  exact ⟨x.toNat, by omega, by omega⟩
theorem i64_of {x : Int} (h : (Lit.int .i64 x).wf = true) : I64 x := bounds_i64 h
theorem cells24 : Tryd.prog.cellsOf 24 = 4 := by kernel_rfl
theorem cells3 : Tryd.prog.cellsOf 3 = 1 := by kernel_rfl
theorem cells22 : Tryd.prog.cellsOf 22 = 1 := by kernel_rfl
theorem cells9 : Tryd.prog.cellsOf 9 = 1 := by kernel_rfl
theorem list4 {α : Type} {l : List α} (h : l.length = 4) : ∃ a b c d, l = [a, b, c, d] := by
  match l, h with
  | [a, b, c, d], _ => exact ⟨a, b, c, d, rfl⟩
section
variable {H : Type} {enc : TypeId × Value → H} {W : World} {base : Nat} {sp : Nat → Bool} {held : Bool} {fuel : Nat}
/-- A frame that a program can hold. -/
def Fr.In (f : Fr) : Prop := I64 f.kind ∧ I64 f.idx ∧ f.num < 18446744073709551616 ∧ f.body.size ≤ 9223372036854775807
/-- A frame's cells. -/
theorem open_frame {cs : List Value} {y : DataW H × List MemPlace} (h : DataW.trod enc Tryd.prog W base sp held fuel 24 cs = some y) :
    ∃ f : Fr, cs = [.int .i64 f.kind, .int .u64 f.num, .int .i64 f.idx, .string f.body] ∧ f.In := by
  obtain ⟨xs, m, _, rfl, hl, hlen, hf⟩ := DataW.trod_struct Tryd.underlying24 h
  obtain ⟨a, b, c, d, rfl⟩ := list4 (hl.trans cells24)
  obtain ⟨x0, x1, x2, x3, rfl⟩ := list4 hlen
  have g0 : DataW.trod enc Tryd.prog W base sp held m 3 [a] = some x0 := by have := hf 0 _ rfl; simpa [cells3, cells22, cells9] using this
  have g1 : DataW.trod enc Tryd.prog W base sp held m 22 [b] = some x1 := by have := hf 1 _ rfl; simpa [cells3, cells22, cells9] using this
  have g2 : DataW.trod enc Tryd.prog W base sp held m 3 [c] = some x2 := by have := hf 2 _ rfl; simpa [cells3, cells22, cells9] using this
  have g3 : DataW.trod enc Tryd.prog W base sp held m 9 [d] = some x3 := by have := hf 3 _ rfl; simpa [cells3, cells22, cells9] using this
  obtain ⟨k, e0, rfl, w0⟩ := DataW.trod_int Tryd.underlying3 g0
  obtain ⟨n, e1, rfl, w1⟩ := DataW.trod_int Tryd.underlying22 g1
  obtain ⟨i, e2, rfl, w2⟩ := DataW.trod_int Tryd.underlying3 g2
  obtain ⟨s, e3, rfl, w3⟩ := DataW.trod_string Tryd.underlying9 g3
  simp only [List.cons.injEq, and_true] at e0 e1 e2 e3
  subst e0 e1 e2 e3
  obtain ⟨nn, rfl, hn⟩ := word64_of_wf w1
  exact ⟨⟨k, nn, i, s⟩, rfl, i64_of w0, i64_of w2, hn, by simpa [maxLen] using w3⟩
set_option maxRecDepth 100000 in
/-- A frame as an argument. -/
theorem open_fr {v : Value} {d : DataW H} {p : List MemPlace} {r : Reach} {b0 : Nat} (hv : Value.okWide Tryd.prog W r b0 24 v) (h : DataW.Trod enc Tryd.prog W base sp held 24 v d p) : ∃ f : Fr, v = frV f ∧ f.In := by
  obtain ⟨cs, rfl, hsz⟩ := okWide_struct Tryd.underlying24 hv
  obtain ⟨fuel, hf⟩ := h
  obtain ⟨f, hc, hi⟩ := open_frame hf
  refine ⟨f, ?_, hi⟩
  have e : cs.toList = [.int .i64 f.kind, .int .u64 f.num, .int .i64 f.idx, .string f.body] := by simpa [Value.cells] using hc
  unfold frV
  congr 1
  exact Array.ext' e
/-- A text's length. -/
theorem size_str {s : ByteArray} {x : DataW H × List MemPlace} (h : DataW.trod enc Tryd.prog W base sp held fuel 9 (Value.cells (.string s)).toList = some x) (hz : ∀ n ∈ x.1.weights Tryd.prog 9, n ≤ reachBytes) : s.size ≤ 140737488351232 := by
  obtain ⟨s', e, hx, _⟩ := DataW.trod_string Tryd.underlying9 h
  simp only [Value.cells, List.cons.injEq, Value.string.injEq, and_true] at e
  subst e
  subst hx
  have := hz s.data.toList.length (by simp [DataW.weights])
  simpa [reachBytes] using this
end
end Go.Proofs.YtnpcnflfpmjgiaaDoor
