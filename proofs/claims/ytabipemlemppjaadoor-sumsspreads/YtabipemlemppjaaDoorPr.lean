/- SumsSpreads, proved: for every number, every number of slots and every list of texts the statement answers true, and its arguments read afterwards as before. Condition: the listed package variable starts as the program's text lays it (the card ties it). -/
import Derived.Test.YtabipemlemppjaaDoorRb
import Derived.SizedLaws
import Derived.Test.YtabipemlemppjaaDoorSz
import Derived.SliceStrings
import Derived.Deep.Slices
namespace Go.Proofs.YtabipemlemppjaaDoor
open Go.ChangeShapes Go.WideShapes Go.ChangeAt Go.RowKit Go.Joins
open Go.ChangeMaps (open_string shut_string)
set_option linter.unusedVariables false
set_option linter.unusedSimpArgs false

theorem laidOut : laidOutB Tryd.prog = true := by kernel_rfl
theorem cells9 : Tryd.prog.cellsOf 9 = 1 := by kernel_rfl
theorem bytes9 : Tryd.prog.bytesOf 9 = 16 := by kernel_rfl
set_option maxRecDepth 100000 in
theorem spreads_lifted (os : Os) (started : os.Started) (H : Type) (enc : TypeId × Value → H) :
    ReturnsInHanded {} Tryd.checked os 7 .any (fun w args => (Rows.sumsSpreadsSpec.pre enc Tryd.prog Tryd.f7 [] false w args ∧ laidMetH Tryd.prog laid1 w) ∧ sizedMet enc Tryd.prog Tryd.f7 (OpenSpec.ofChange Rows.sumsSpreadsSpec) false w args)
      (Rows.sumsSpreadsSpec.post enc Tryd.prog Tryd.f7 false true false false) := by
  refine returnsInHanded_of_change_and (C := Tryd.checked) (X := fun w _ => laidMetH Tryd.prog laid1 w) (fun _ _ _ hh h => h.of_heap hh) own started (by kernel_rfl) Tryd.func7
    (ChangeSpec.witness_shaped (enc := enc) (C := Tryd.checked) (os := os) (X := fun w _ => laidMetH Tryd.prog laid1 w) false (World.laidAll Tryd.prog os laid1) #[.int .u32 0, .int .i64 0, .slice none 0 0] 8 (World.laidAll_os _ _ _)
      (World.shaped_of_ZipB (by kernel_rfl) (by kernel_rfl)) (by kernel_rfl) (by kernel_rfl) (by kernel_rfl)
      (by rw [MakeChecks.laidMetH_plain _ _ _ (by kernel_rfl)]; exact laidMet_laidAll _ (by kernel_rfl) (by kernel_rfl))) ?_
  intro W base args ds gs before hval0 hW _ hsz0 hL _
  have hval : ∀ (j : Nat) t v, Tryd.f7.params[j]? = some t → args[j]? = some v → Value.okWide Tryd.prog W .any base t v := hval0
  have hW' := hW
  obtain ⟨p, q, hA0, hV, rfl, _, _⟩ := hW
  have hA : DataW.TrodAll enc Tryd.prog W 0 (fun _ => true) true Tryd.f7.params.toList args.toList ds p := hA0
  have hsz : (DataW.weightsEach Tryd.prog (Tryd.f7.params.toList ++ Rows.sumsSpreadsSpec.plain.varTypes Tryd.prog) (ds ++ gs)).all (· ≤ reachBytes) = true := hsz0
  rw [Tryd.params7] at hA hval hsz
  obtain ⟨v0, v1, v2, d0, d1, d2, p0, p1, p2, rfl, rfl, rfl, h0, h1, h2⟩ := trodAll_three hA
  obtain ⟨rfl, rfl⟩ := trodVars_none hV
  obtain ⟨x, rfl, rfl, rfl, wx⟩ := open_int Tryd.underlying23 (hval 0 23 v0 rfl rfl) h0
  obtain ⟨y, rfl, rfl, rfl, wy⟩ := open_int Tryd.underlying3 (hval 1 3 v1 rfl rfl) h1
  obtain ⟨a0, len, cap, rfl⟩ := okWide_slice Tryd.underlying22 (hval 2 22 v2 rfl rfl)
  have hT := tab_of_laid hL
  clear hA0 hval0 hL
  simp only [List.append_nil, List.nil_append] at hW'
  have h2k := h2
  obtain ⟨fuel, hf⟩ := h2
  have hlt : ∀ z ∈ p2, z.block < W.heap.size := fun z hz => by simpa using hW'.lt z hz
  have hargs : ∀ (W' : World), Below W.heap.size W W' → DataW.Trod enc Tryd.prog W' 0 (fun b => decide (b < W.heap.size)) true 22 (.slice a0 len cap) d2 p2 :=
    fun W' hn => Below.trod laidOut (by kernel_rfl) (of_decide_eq_true (by kernel_rfl)) h2k hn hlt
  obtain ⟨n, rfl, hn⟩ := word_of_wf wx
  have hy : -9223372036854775808 ≤ y ∧ y ≤ 9223372036854775807 := by
    have := wy
    simp [Lit.wf, IntKind.min, IntKind.max, IntKind.signed, IntKind.bits] at this
    omega
  have fin : ∀ e W', (e = Ending.returned (.bool true) ∧ Below W.heap.size W W') →
      ∃ v, e = Ending.returned v ∧ Rows.sumsSpreadsSpec.post enc Tryd.checked.prog Tryd.f7 false true false false W #[.int .u32 n, .int .i64 y, .slice a0 len cap] v W' := by
    intro e W' ⟨he, hb⟩
    subst he
    exact ⟨_, rfl, _, _, _, [], p2, [], hW', trodAll_mk1 (shut_bool Tryd.underlying4 true), by have := trodAll_mk3 (shut_int Tryd.underlying23 wx) (shut_int Tryd.underlying3 wy) (hargs _ hb); simp only [List.append_nil, List.nil_append] at this; exact this, rfl, hb.frame _, fun h => by cases h⟩
  rcases open_strings Tryd.underlying22 Tryd.underlying9 cells9 hf with ⟨hcs, hx⟩ | ⟨a, len', cap', ss, hcs, _, hl, hm, hz, hx, hcell, hws⟩
  · simp [Value.cells] at hcs
    obtain ⟨rfl, rfl, rfl⟩ := hcs
    exact (spreads_none none 0 n hn y hy.1 hy.2 W hT).mono fin
  · simp [Value.cells] at hcs
    obtain ⟨rfl, rfl, rfl⟩ := hcs
    simp only [Prod.mk.injEq] at hx
    obtain ⟨rfl, rfl⟩ := hx
    simp only [if_true] at hz
    have hreach : len * 16 ≤ 140737488351232 := by
      have := sized_slice hsz (j := 2) (t := 22) (e := 9) rfl rfl Tryd.underlying22
      rw [bytes9] at this
      simp only [strs, List.length_map, List.length_take, List.length_drop, reachBytes] at this
      omega
    by_cases hl0 : len = 0
    · subst hl0
      exact (spreads_none (some a) cap n hn y hy.1 hy.2 W hT).mono fin
    · obtain ⟨b, off, spot⟩ := a
      have hspot : spot = none := by simpa [Addr.add] using World.cell?_spot (hcell 0 (by omega))
      subst hspot
      have hbW : b < W.heap.size := hlt (.cell b off) (MemPlace.mem_row.2 ⟨0, by omega, by simp⟩)
      have hll : (ss.take len).length = len := by simp; omega
      have hS : Strs W b off (ss.take len) := fun i hi => by
        rw [hll] at hi
        have := hcell i (by omega)
        rw [add_plain, List.getD, List.getElem?_eq_getElem (by omega : i < ss.length)] at this
        rw [List.getElem_take]; exact this
      have hw := spreads_walk b off cap (ss.take len) (by rw [hll]; omega) (by rw [hll]; omega) (by simpa [maxLen] using hm) (by rw [hll]; exact hreach) (fun s hs => by have := hws s (List.mem_of_mem_take hs); simpa [maxLen] using this) n hn y hy.1 hy.2 W hS hbW hT
      rw [hll] at hw
      exact hw.mono fin

theorem spreads_holds : Rows.SumsSpreadsSaid :=
  OpenClaim.holds_of_wide 7 Tryd.f7 rfl rfl rfl rfl rfl rfl rfl ⟨rfl, rfl, rfl, rfl, rfl⟩ rfl rfl rfl rfl rfl (by kernel_rfl) Tryd.func7 (by kernel_rfl)
    (of_decide_eq_true (by kernel_rfl)) (by unfold Func.isWrapper; first | (rw [if_pos (by decide +kernel)]; kernel_rfl) | (rw [if_neg (by decide +kernel)]; exact ⟨rfl, rfl⟩))
    (fun os started H enc _ => spreads_lifted os started H enc)
theorem spreads_card : Rows.SumsSpreadsCardSaid :=
  Claim7.holds_tied_plain_at .later [] [.data] true (true, "bf5e11c38103e99373a158d11dbb86dedbb2673d01a26e68b8b4a85fed1e7b9c") false spreads_holds (fun _ h => by cases h) (by kernel_rfl) (fun _ h => by cases h) sumsSpreads_row_tie rfl ⟨rfl, rfl⟩ (by kernel_rfl) rfl
    (fun f fn hf hfn => by
      obtain rfl : f = 7 := Option.some.inj ((show Tryd.prog.funcNamed "turnout/turnoutlaw02.SumsSpreads" = some 7 by kernel_rfl).symm.trans hf) |>.symm
      obtain rfl : fn = Tryd.f7 := (Option.some.inj (Tryd.func7.symm.trans hfn)).symm
      exact ⟨by kernel_rfl, fun j t ht => by
        rw [Tryd.params7] at ht
        have hm : t ∈ [23, 3, 22] := by simpa using Array.mem_of_getElem? ht
        have hall : ([23, 3, 22].all fun u => !Tryd.prog.wantsStandIn u) = true := by kernel_rfl
        exact (show Tryd.prog.wantsStandIn t = false by simpa using List.all_eq_true.1 hall t hm)⟩)
    (by kernel_rfl)
#print axioms spreads_card
end Go.Proofs.YtabipemlemppjaaDoor
