/- A list of calls, opened. -/
import Derived.Test.YtnpcnflfpmjgiaaDoorRq
import Derived.Test.YtnpcnflfpmjgiaaDoorLl
namespace Go.Proofs.YtnpcnflfpmjgiaaDoor
open Go.ChangeShapes Go.WideShapes Go.ChangeAt Go.RowKit Go.Joins
set_option linter.unusedVariables false

theorem u8_of {x : Int} (h : (Lit.int .u8 x).wf = true) : ∃ b : UInt8, x = (b.toNat : Int) := by
  have h0 : 0 ≤ x ∧ x ≤ 255 := by
    have := bounds_u8 h
    omega
  exact ⟨UInt8.ofNat x.toNat, by simp; omega⟩
theorem weights_all {H : Type} {P : Program} {e : TypeId} : ∀ {ds : List (DataW H)} {d : DataW H}, d ∈ ds → ∀ n ∈ d.weights P e, n ∈ DataW.weightsAll P e ds
  | d' :: r, d, hd, n, hn => by
    rw [DataW.weightsAll]
    rcases List.mem_cons.1 hd with rfl | hd
    · exact List.mem_append_left _ hn
    · exact List.mem_append_right _ (weights_all hd n hn)
theorem cells46 : Tryd.prog.cellsOf 46 = 9 := by kernel_rfl
theorem cells5 : Tryd.prog.cellsOf 5 = 1 := by kernel_rfl
theorem cells44 : Tryd.prog.cellsOf 44 = 1 := by kernel_rfl
theorem bytes46 : Tryd.prog.bytesOf 46 = 96 := by kernel_rfl
theorem list6 {α : Type} {l : List α} (h : l.length = 6) : ∃ a b c d e f, l = [a, b, c, d, e, f] := by
  match l, h with
  | [a, b, c, d, e, f], _ => exact ⟨a, b, c, d, e, f, rfl⟩
theorem list9 {α : Type} {l : List α} (h : l.length = 9) : ∃ a b c d e f g i j, l = [a, b, c, d, e, f, g, i, j] := by
  match l, h with
  | [a, b, c, d, e, f, g, i, j], _ => exact ⟨a, b, c, d, e, f, g, i, j, rfl⟩
section
variable {H : Type} {enc : TypeId × Value → H} {W : World} {held : Bool} {fuel : Nat}
theorem open_op {cs : List Value} {y : DataW H × List MemPlace} (h : DataW.trod enc Tryd.prog W 0 (fun _ => true) held fuel 46 cs = some y) (hz : ∀ n ∈ y.1.weights Tryd.prog 46, n ≤ reachBytes) :
    ∃ o : Opr, cs = (opCells o).toList ∧ OpOk W o := by
  obtain ⟨xs, m, _, rfl, hl, hlen, hf⟩ := DataW.trod_struct Tryd.underlying46 h
  obtain ⟨a, b, c, d1, d2, d3, d4, e, g, rfl⟩ := list9 (hl.trans cells46)
  obtain ⟨x0, x1, x2, x3, x4, x5, rfl⟩ := list6 hlen
  have g0 : DataW.trod enc Tryd.prog W 0 (fun _ => true) held m 3 [a] = some x0 := by have := hf 0 _ rfl; simpa [cells3] using this
  have g1 : DataW.trod enc Tryd.prog W 0 (fun _ => true) held m 3 [b] = some x1 := by have := hf 1 _ rfl; simpa [cells3] using this
  have g2 : DataW.trod enc Tryd.prog W 0 (fun _ => true) held m 3 [c] = some x2 := by have := hf 2 _ rfl; simpa [cells3] using this
  have g3 : DataW.trod enc Tryd.prog W 0 (fun _ => true) held m 24 [d1, d2, d3, d4] = some x3 := by have := hf 3 _ rfl; simpa [cells3, cells24] using this
  have g4 : DataW.trod enc Tryd.prog W 0 (fun _ => true) held m 5 [e] = some x4 := by have := hf 4 _ rfl; simpa [cells3, cells24, cells5] using this
  have g5 : DataW.trod enc Tryd.prog W 0 (fun _ => true) held m 44 [g] = some x5 := by have := hf 5 _ rfl; simpa [cells3, cells24, cells5, cells44] using this
  have z5 : ∀ n ∈ x5.1.weights Tryd.prog 44, n ≤ reachBytes := fun n hn => hz n (by simp [DataW.weights, DataW.weightsEach, Tryd.underlying46, hn])
  obtain ⟨kd, e0, _, w0⟩ := DataW.trod_int Tryd.underlying3 g0
  obtain ⟨on, e1, _, w1⟩ := DataW.trod_int Tryd.underlying3 g1
  obtain ⟨n, e2, _, w2⟩ := DataW.trod_int Tryd.underlying3 g2
  obtain ⟨fr, e3, hfr⟩ := open_frame g3
  obtain ⟨fl, e4, _, w4⟩ := DataW.trod_int Tryd.underlying5 g4
  obtain ⟨ad, cap, fs, e5, hl5, hF⟩ := open_fates g5 z5
  simp only [List.cons.injEq, and_true] at e0 e1 e2 e4 e5
  rw [List.cons.injEq, List.cons.injEq, List.cons.injEq, List.cons.injEq] at e3
  obtain ⟨rfl, rfl, rfl, rfl, _⟩ := e3
  obtain ⟨f, rfl⟩ := u8_of w4
  subst e0 e1 e2 e4 e5
  exact ⟨⟨kd, on, n, fr, f, fs, ad, cap⟩, rfl, i64_of w1, i64_of w2, hfr.2.2.1, by show fs.length ≤ 8796093021952; omega, hF⟩
theorem open_ops {cs : List Value} {x : DataW H × List MemPlace} (h : DataW.trod enc Tryd.prog W 0 (fun _ => true) held fuel 33 cs = some x) (hz : ∀ n ∈ x.1.weights Tryd.prog 33, n ≤ reachBytes) :
    ∃ (ad : Option Addr) (cap : Nat) (l : List Opr), cs = [.slice ad l.length cap] ∧ l.length * 96 ≤ 140737488351232 ∧ OpsV W l ad := by
  rcases Go.Deep.open_slice Tryd.underlying33 h with ⟨rfl, _⟩ | ⟨a, len, cap, m, n, D, Pl, rfl, _, hl, hm, hmm, rfl, hc⟩
  · exact ⟨none, 0, [], rfl, by decide, .inl rfl⟩
  · simp only [if_true] at hmm
    subst hmm
    rw [cells46] at hc
    have hw := hz _ (by rw [DataW.weights, Tryd.underlying33]; exact List.mem_cons_self ..)
    rw [bytes46] at hw
    simp [reachBytes] at hw
    have each : ∀ i, i < len → ∃ y : Opr, (W.cells? 0 (a.add (i * 9)) 9 = some (opCells y).toList) ∧ OpOk W y := by
      intro i hi
      obtain ⟨cs', h1, h2⟩ := hc i (by omega)
      obtain ⟨o, rfl, ho⟩ := open_op h2 (fun n hn => hz n (by
        rw [DataW.weights, Tryd.underlying33]
        exact List.mem_cons_of_mem _ (List.mem_append_left _ (weights_all (d := D i) (List.mem_map.2 ⟨i, by simpa using hi, rfl⟩) _ hn))))
      exact ⟨o, h1, ho⟩
    obtain ⟨l, rfl, hP⟩ := list_of _ len each
    refine ⟨some a, _, l, rfl, by omega, ?_⟩
    by_cases h0 : l = []
    · exact .inl h0
    · right
      have hpos : 0 < l.length := List.length_pos_iff.2 h0
      have h1 := (hP 0 hpos).1
      rw [Nat.zero_mul, show a.add 0 = a by simp [Addr.add]] at h1
      obtain ⟨hs, hlt⟩ := cells_spot (by decide) h1
      obtain ⟨b, off, sp⟩ := a
      simp only at hs hlt
      subst hs
      refine ⟨b, off, rfl, hlt, fun i o hi j u hj => ?_, fun i o hi => ?_⟩
      · obtain ⟨hil, hpe⟩ := List.getElem?_eq_some_iff.1 hi
        have h2 := hP i hil
        rw [hpe] at h2
        exact cells_at (a := ⟨b, off, none⟩) rfl h2.1 j u (by simpa using hj)
      · obtain ⟨hil, hpe⟩ := List.getElem?_eq_some_iff.1 hi
        have h2 := hP i hil
        rw [hpe] at h2
        exact h2.2
end
end Go.Proofs.YtnpcnflfpmjgiaaDoor
