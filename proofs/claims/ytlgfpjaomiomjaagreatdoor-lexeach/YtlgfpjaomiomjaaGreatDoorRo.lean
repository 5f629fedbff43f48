/- What the listed variables give the walks: the tables lie in memory; and the statements' arguments, opened. -/
import Derived.Test.YtlgfpjaomiomjaaGreatDoorTie
import Derived.Test.YtlgfpjaomiomjaaGreatDoorCards
import Derived.Test.YtlgfpjaomiomjaaGreatDoorTb
import Derived.ProofKit
import Derived.OpenShut
import Derived.LaidMore
import Derived.Lay
import Derived.SevenTiedAt
import Derived.Stop.Joined
import Derived.Lib.SmallJoins
import Derived.SizedLaws
namespace Go.Proofs.YtlgfpjaomiomjaaGreatDoor
open Go.ChangeShapes Go.WideShapes Go.ChangeAt Go.RowKit Go.Joins
set_option linter.unusedVariables false

theorem own : ownKnob Tryz.prog.godebug = none := by kernel_rfl
theorem laidOut : laidOutB Tryz.prog = true := by kernel_rfl
abbrev laid7 : List (String × DataW Unit) := [("unicode/utf8.acceptRanges", Rows.laid_unicode_utf8_acceptRanges), ("turnout/value.sixteenths", Rows.laid_turnout_value_sixteenths), ("turnout/lex.signs", Rows.laid_turnout_lex_signs), ("turnout/lex.reserved", Rows.laid_turnout_lex_reserved), ("turnout/lex.bases", Rows.laid_turnout_lex_bases), ("unicode.CaseRanges", Rows.laid_unicode_CaseRanges), ("unicode/utf8.first", Rows.laid_unicode_utf8_first)]
theorem cells9 : Tryz.prog.cellsOf 9 = 1 := by kernel_rfl
/-- A listed variable that is an array of texts. -/
theorem strs_var {W : World} {name : String} {g : Nat} {t : TypeId} {cs : Array Value} {fuel : Nat} {q : List MemPlace} {L : List (List UInt8)} {enc : TypeId × Value → Unit} {base : Nat} {sp : Nat → Bool} {held : Bool}
    (hg : Tryz.prog.globalNamed name = some g) (hv : W.var? Tryz.prog name = some cs) (ht : Tryz.prog.underlying t = some (.array L.length 9)) (hc : Tryz.prog.cellsOf t = L.length)
    (hd : DataW.trod enc Tryz.prog W base sp held fuel t cs.toList = some (.agg (L.map fun l => .lit (.string l)), q)) : Var W g (strsA L) := by
  obtain ⟨xs, m, _, ex, hlen, hl, hel⟩ := DataW.trod_array ht hd
  have e3 : (xs.map (·.1)) = L.map fun l => .lit (.string l) := (DataW.agg.inj (Prod.mk.inj ex).1).symm
  have hcs : cs = strsA L := by
    apply Array.ext'
    apply List.ext_getElem?
    intro r
    by_cases hr : r < L.length
    · have hE := hel r hr
      rw [cells9, Nat.mul_one, List.getElem?_eq_getElem (by omega)] at hE
      obtain ⟨s, e1, e2, _⟩ := DataW.trod_string Tryz.underlying9 hE
      have e4 : (xs.map (·.1))[r]? = (L.map fun l => (DataW.lit (.string l) : DataW Unit))[r]? := by rw [e3]
      rw [List.getElem?_map, List.getElem?_map, List.getElem?_eq_getElem (by omega : r < xs.length), List.getElem?_eq_getElem hr, e2] at e4
      simp only [Option.map_some, Option.some.injEq, DataW.lit.injEq, Lit.string.injEq] at e4
      have h0 : ((cs.toList.drop r).take 1)[0]? = some (.string s) := by rw [e1]; rfl
      have h1 : cs.toList[r]? = some (.string s) := by simpa using h0
      rw [h1]
      have h2 : (strsA L).toList[r]? = some (.string ⟨(L[r]).toArray⟩) := by
        have := strsA_at L r (L[r]) (List.getElem?_eq_getElem hr)
        simpa using this
      rw [h2, ← e4]
    · have h1 : cs.toList.length ≤ r := by omega
      have h2 : (strsA L).toList.length ≤ r := by unfold strsA; simp; omega
      rw [List.getElem?_eq_none h1, List.getElem?_eq_none h2]
  subst hcs
  simp only [World.var?, hg, Option.bind_some] at hv
  split at hv
  · rename_i cs' t' fr' hh
    injection hv with hv
    subst hv
    exact ⟨t', fr', hh⟩
  · cases hv
def sgnZ : List Int := [48, 49, 50, 51, 52, 53, 54, 55, 56, 57, 97, 98, 99, 100, 101, 102]
theorem sgnZ_at : ∀ d, d < 16 → sgnZ.getD d 0 = ((sgn d).toNat : Int) := by decide
theorem tabs_of_laid {W : World} (h : laidMetH Tryz.prog laid7 W) : Tabs W := by
  rw [MakeChecks.laidMetH_plain _ _ _ (by kernel_rfl)] at h
  obtain ⟨ps, ⟨g0, t0, cs0, f0, p0, q0, hg0, ht0, hv0, hd0, ⟨g, t, cs, fuel, p, q, hg, ht, hv, hd, ⟨g2, t2, cs2, f2, p2, q2, hg2, ht2, hv2, hd2, ⟨g3, t3, cs3, f3, p3, q3, hg3, ht3, hv3, hd3, ⟨g4, t4, cs4, f4, p4, q4, hg4, ht4, hv4, hd4, _⟩, _⟩, _⟩, _⟩, _⟩, _, _⟩ := h
  clear hd0 hv0 ht0 hg0
  obtain rfl := Option.some.inj ((show Tryz.prog.globalNamed "turnout/lex.signs" = some 0 by kernel_rfl).symm.trans hg2)
  obtain rfl := Option.some.inj ((show (Tryz.prog.globals[0]?).map (·.type) = some 75 by kernel_rfl).symm.trans ht2)
  obtain rfl := Option.some.inj ((show Tryz.prog.globalNamed "turnout/lex.reserved" = some 3 by kernel_rfl).symm.trans hg3)
  obtain rfl := Option.some.inj ((show (Tryz.prog.globals[3]?).map (·.type) = some 88 by kernel_rfl).symm.trans ht3)
  obtain rfl := Option.some.inj ((show Tryz.prog.globalNamed "turnout/lex.bases" = some 2 by kernel_rfl).symm.trans hg4)
  obtain rfl := Option.some.inj ((show (Tryz.prog.globals[2]?).map (·.type) = some 84 by kernel_rfl).symm.trans ht4)
  refine ⟨?_, strs_var (L := resL) hg3 hv3 Tryz.underlying88 (by kernel_rfl) hd3, strs_var (L := signL) hg2 hv2 Tryz.underlying75 (by kernel_rfl) hd2, strs_var (L := baseL) hg4 hv4 Tryz.underlying84 (by kernel_rfl) hd4⟩
  obtain rfl := Option.some.inj ((show Tryz.prog.globalNamed "turnout/value.sixteenths" = some 4 by kernel_rfl).symm.trans hg)
  obtain rfl := Option.some.inj ((show (Tryz.prog.globals[4]?).map (·.type) = some 118 by kernel_rfl).symm.trans ht)
  obtain ⟨xs, m, _, ex, _, hl, hel⟩ := DataW.trod_array Tryz.underlying118 hd
  have c5 : Tryz.prog.cellsOf 5 = 1 := by kernel_rfl
  intro r hr
  have hE := hel r hr
  rw [c5, Nat.mul_one, List.getElem?_eq_getElem (by omega)] at hE
  obtain ⟨z, e1, e2, _⟩ := DataW.trod_int Tryz.underlying5 hE
  have hlen : sgnZ.length = 16 := rfl
  have e3 : (xs.map (·.1)) = sgnZ.map fun n => .lit (.int .u8 n) := (DataW.agg.inj (Prod.mk.inj ex).1).symm
  have e4 : (xs.map (·.1))[r]? = (sgnZ.map fun n => (DataW.lit (.int .u8 n) : DataW Unit))[r]? := by rw [e3]
  rw [List.getElem?_map, List.getElem?_map, List.getElem?_eq_getElem (by omega : r < xs.length), List.getElem?_eq_getElem (by omega : r < sgnZ.length), e2] at e4
  have hz : z = sgnZ.getD r 0 := by
    simp only [Option.map_some, Option.some.injEq, DataW.lit.injEq, Lit.int.injEq, true_and] at e4
    rw [e4, List.getD, List.getElem?_eq_getElem (by omega : r < sgnZ.length)]; rfl
  rw [World.var?_cell hg hv r, ← sgnZ_at r hr, ← hz]
  have : cs.toList[r]? = some (.int .u8 z) := by
    have h0 : ((cs.toList.drop r).take 1)[0]? = some (.int .u8 z) := by rw [e1]; rfl
    simpa using h0
  simpa using this
theorem word64_of_wf {x : Int} (h : (Lit.int .u64 x).wf = true) : 0 ≤ x ∧ x < 18446744073709551616 := by
  simp [Lit.wf, IntKind.min, IntKind.max, IntKind.signed, IntKind.bits] at h
  exact ⟨by omega, by omega⟩
section
variable {H : Type} {enc : TypeId × Value → H} {W : World} {base : Nat} {sp : Nat → Bool} {held : Bool} {fuel : Nat}
/-- A text's length. -/
theorem size_str {s : ByteArray} {x : DataW H × List MemPlace} (h : DataW.trod enc Tryz.prog W base sp held fuel 9 (Value.cells (.string s)).toList = some x) (hz : ∀ n ∈ x.1.weights Tryz.prog 9, n ≤ reachBytes) : s.size ≤ 140737488351232 := by
  obtain ⟨s', e, hx, _⟩ := DataW.trod_string Tryz.underlying9 h
  simp only [Value.cells, List.cons.injEq, Value.string.injEq, and_true] at e
  subst e
  subst hx
  have := hz s.data.toList.length (by simp [DataW.weights])
  simpa [reachBytes] using this
end
end Go.Proofs.YtlgfpjaomiomjaaGreatDoor
