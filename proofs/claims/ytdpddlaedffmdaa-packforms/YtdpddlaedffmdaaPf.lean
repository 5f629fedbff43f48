/- PackForms, proved: for every text and every script of wants the statement answers true, and its arguments read afterwards as before. -/
import Derived.Test.YtdpddlaedffmdaaOp
import Derived.Test.YtdpddlaedffmdaaGc
import Derived.SizedLaws
namespace Go.Proofs.Ytdpddlaedffmdaa
open Go.ChangeShapes Go.WideShapes Go.ChangeAt Go.RowKit Go.Joins
open Go.ChangeMaps (open_string shut_string)
set_option linter.unusedVariables false

section
variable {H : Type} {enc : TypeId × Value → H} {W : World} {held : Bool} {fuel : Nat}
/-- A list of wants, with the bound of the number. -/
theorem open_wants2 {cs : List Value} {x : DataW H × List MemPlace} (h : DataW.trod enc Try.prog W 0 (fun _ => true) held fuel 38 cs = some x) (hz : ∀ n ∈ x.1.weights Try.prog 38, n ≤ reachBytes) :
    ∃ (ad : Option Addr) (cap : Nat) (l : List Wa), cs = [.slice ad l.length cap] ∧ l.length ≤ 140737488351232 ∧ (∀ i (h : i < l.length), (l[i]).n < 18446744073709551616) ∧ (l = [] ∨ ∃ b off, ad = some ⟨b, off, none⟩ ∧ b < W.heap.size ∧ Wants W b off l) := by
  rcases Go.Deep.open_slice Try.underlying38 h with ⟨rfl, _⟩ | ⟨a, len, cap, m, n, D, Pl, rfl, _, hl, hm, hmm, rfl, hc⟩
  · exact ⟨none, 0, [], rfl, by decide, fun i h => by simp at h, .inl rfl⟩
  · simp only [if_true] at hmm
    subst hmm
    rw [cells45] at hc
    have hw := hz _ (by rw [DataW.weights, Try.underlying38]; exact List.mem_cons_self ..)
    rw [bytes45] at hw
    simp [reachBytes] at hw
    have each : ∀ i, i < len → ∃ y : Wa, (W.cells? 0 (a.add (i * 4)) 4 = some [.bool y.o, .int .i64 y.kd, .int .u64 y.n, .int .i64 y.k]) ∧ y.ok ∧ y.n < 18446744073709551616 := by
      intro i hi
      obtain ⟨cs', h1, h2⟩ := hc i (by omega)
      obtain ⟨o, kd, k1, k2, rfl, hn, w1, w3, hy⟩ := open_want h2
      have b1 := bounds_i64 w1
      have b3 := bounds_i64 w3
      exact ⟨⟨o, kd, k1, k2⟩, h1, ⟨b1.1, b1.2, b3.1, b3.2⟩, hn⟩
    obtain ⟨l, rfl, hP⟩ := list_of _ len each
    refine ⟨some a, _, l, rfl, by omega, fun i hi => (hP i hi).2.2, ?_⟩
    by_cases h0 : l = []
    · exact .inl h0
    · right
      have hpos : 0 < l.length := List.length_pos_iff.2 h0
      have h1 := (hP 0 hpos).1
      have h2 := cells_spot (by decide) h1
      have hsp : a.spot = none := by simpa [Addr.add] using h2.1
      obtain ⟨b, off, sp⟩ := a
      simp only at hsp
      subst hsp
      refine ⟨b, off, rfl, by simpa [Addr.add] using h2.2, fun i hi => ⟨?_, (hP i hi).2.1⟩⟩
      have hcell := cells_at (a := ⟨b, off, none⟩) rfl (hP i hi).1
      exact ⟨hcell 0 _ rfl, hcell 1 _ rfl, hcell 2 _ rfl, hcell 3 _ rfl⟩
end
set_option maxRecDepth 100000 in
theorem forms_lifted (os : Os) (started : os.Started) (H : Type) (enc : TypeId × Value → H) :
    ReturnsInHanded {} Try.checked os 6 .any (Rows.packFormsSpec.pre6 enc Try.prog Try.f6 Rows.packFormsRow.domain false) (Rows.packFormsSpec.post enc Try.prog Try.f6 false true false false) := by
  refine returnsInHanded_of_change_sized (C := Try.checked) knob started (by kernel_rfl) Try.func6
    (ChangeSpec.witness6 (enc := enc) (C := Try.checked) false ⟨#[], #[.string ⟨#[]⟩, .slice none 0 0], []⟩ 8 (by kernel_rfl) (by kernel_rfl) (by kernel_rfl) (by kernel_rfl)) ?_
  intro W base args ds gs before hval0 hW _ hsz0 _
  have hsz : (DataW.weightsEach Try.prog (Try.f6.params.toList ++ Rows.packFormsSpec.plain.varTypes Try.prog) (ds ++ gs)).all (· ≤ reachBytes) = true := hsz0
  have hval : ∀ (j : Nat) t v, Try.f6.params[j]? = some t → args[j]? = some v → Value.okWide Try.prog W .any base t v := hval0
  have hW' := hW
  obtain ⟨p, q, hA0, hV, rfl, _, _⟩ := hW
  have hA : DataW.TrodAll enc Try.prog W 0 (fun _ => true) true Try.f6.params.toList args.toList ds p := hA0
  rw [Try.params6] at hA hval hsz
  obtain ⟨v0, v1, d0, d1, p0, p1, rfl, rfl, rfl, h0, h1⟩ := trodAll_two hA
  obtain ⟨rfl, rfl⟩ := trodVars_none hV
  obtain ⟨s, rfl, rfl, rfl, hs⟩ := open_string Try.underlying9 (hval 0 9 v0 rfl rfl) h0
  obtain ⟨a0, len, cap, rfl⟩ := okWide_slice Try.underlying38 (hval 1 38 v1 rfl rfl)
  have hs1 : s.size ≤ 140737488351232 := by
    have := sized_string (j := 0) (t := 9) hsz rfl rfl
    simpa [reachBytes] using this
  have h1k := h1
  obtain ⟨f0, hf0⟩ := h1
  have hz : ∀ n ∈ d1.weights Try.prog 38, n ≤ reachBytes := fun n hn => by
    have h9 := List.all_eq_true.1 hsz n (DataW.weights_mem_each (j := 1) (t := 38) (d := d1) rfl rfl n hn)
    exact of_decide_eq_true h9
  obtain ⟨ad, cap', l, hcs, hl, hNN, hwants⟩ := open_wants2 hf0 hz
  simp only [Value.cells, List.cons.injEq, Value.slice.injEq, and_true] at hcs
  obtain ⟨rfl, rfl, rfl⟩ := hcs
  clear hA0 hval0 hsz0
  simp only [List.append_nil, List.nil_append] at hW'
  have hlt : ∀ y ∈ p1, y.block < W.heap.size := fun y hy => by simpa using hW'.lt y hy
  have fin : ∀ e W', (e = Ending.returned (.bool true) ∧ Below W.heap.size W W') →
      ∃ v, e = Ending.returned v ∧ Rows.packFormsSpec.post enc Try.checked.prog Try.f6 false true false false W #[.string s, .slice a0 l.length cap] v W' := by
    intro e W' ⟨he, hb⟩
    subst he
    have ar := Below.trod laidOut (by kernel_rfl) (of_decide_eq_true (by kernel_rfl)) h1k hb hlt
    exact ⟨_, rfl, _, _, _, [], p1, [], hW', trodAll_mk1 (shut_bool Try.underlying4 true), by have := trodAll_mk2 (shut_string Try.underlying9 hs) ar; simp only [List.nil_append] at this; exact this, rfl, hb.frame _, fun h => by cases h⟩
  rcases hwants with rfl | ⟨b, off, rfl, hb, hI⟩
  · exact (packForms_empty s hs1 a0 cap W).mono fin
  · exact (packForms_some s hs1 b off cap l hl W hI hNN hb).mono fin
theorem forms_holds : Rows.PackFormsSaid :=
  OpenClaim.holds_of_wide 6 Try.f6 rfl rfl rfl rfl rfl rfl rfl ⟨rfl, rfl, rfl, rfl, rfl⟩ rfl rfl rfl rfl rfl (by kernel_rfl) Try.func6 (by kernel_rfl)
    (of_decide_eq_true (by kernel_rfl)) (by unfold Func.isWrapper; first | (rw [if_pos (by decide +kernel)]; kernel_rfl) | (rw [if_neg (by decide +kernel)]; exact ⟨rfl, rfl⟩))
    (fun os started H enc _ => forms_lifted os started H enc)
#print axioms forms_holds
end Go.Proofs.Ytdpddlaedffmdaa
