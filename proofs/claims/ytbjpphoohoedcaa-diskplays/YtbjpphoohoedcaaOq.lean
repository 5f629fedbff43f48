/- More arguments of this layer, opened: lists of fates, of bools, texts. -/
import Derived.Test.YtbjpphoohoedcaaOp
import Derived.Test.YtbjpphoohoedcaaCw
namespace Go.Proofs.Ytbjpphoohoedcaa
open Go.ChangeShapes Go.WideShapes Go.ChangeAt Go.RowKit Go.Joins
set_option linter.unusedVariables false

section
variable {H : Type} {enc : TypeId × Value → H} {W : World} {base : Nat} {sp : Nat → Bool} {held : Bool} {fuel : Nat}
/-- A fate's cells. -/
theorem open_fate {cs : List Value} {y : DataW H × List MemPlace} (h : DataW.trod enc Try.prog W base sp held fuel 59 cs = some y) :
    ∃ p : Int × Int, cs = [.int .i64 p.1, .int .i64 p.2] ∧ I64 p.1 ∧ I64 p.2 := by
  obtain ⟨xs, m, _, rfl, hl, hlen, hf⟩ := DataW.trod_struct Try.underlying59 h
  obtain ⟨a, b, rfl⟩ := list2 (hl.trans cells59)
  obtain ⟨x0, x1, rfl⟩ := list2 hlen
  have g0 : DataW.trod enc Try.prog W base sp held m 3 [a] = some x0 := by have := hf 0 _ rfl; simpa [cells3] using this
  have g1 : DataW.trod enc Try.prog W base sp held m 3 [b] = some x1 := by have := hf 1 _ rfl; simpa [cells3] using this
  obtain ⟨n, e0, rfl, w0⟩ := DataW.trod_int Try.underlying3 g0
  obtain ⟨f, e1, rfl, w1⟩ := DataW.trod_int Try.underlying3 g1
  simp only [List.cons.injEq, and_true] at e0 e1
  subst e0 e1
  exact ⟨⟨n, f⟩, rfl, i64_of w0, i64_of w1⟩
/-- A list of fates. -/
theorem open_fates {cs : List Value} {x : DataW H × List MemPlace} (h : DataW.trod enc Try.prog W 0 (fun _ => true) held fuel 40 cs = some x) (hz : ∀ n ∈ x.1.weights Try.prog 40, n ≤ reachBytes) :
    ∃ (ad : Option Addr) (cap : Nat) (l : List (Int × Int)), cs = [.slice ad l.length cap] ∧ l.length * 16 ≤ 140737488351232 ∧ FtO W l ad := by
  rcases Go.Deep.open_slice Try.underlying40 h with ⟨rfl, _⟩ | ⟨a, len, cap, m, n, D, Pl, rfl, _, hl, hm, hmm, rfl, hc⟩
  · exact ⟨none, 0, [], rfl, by decide, .inl rfl⟩
  · simp only [if_true] at hmm
    subst hmm
    rw [cells59] at hc
    have hw := hz _ (by rw [DataW.weights, Try.underlying40]; exact List.mem_cons_self ..)
    rw [bytes59] at hw
    simp [reachBytes] at hw
    have each : ∀ i, i < len → ∃ y : Int × Int, (W.cells? 0 (a.add (i * 2)) 2 = some [.int .i64 y.1, .int .i64 y.2]) := by
      intro i hi
      obtain ⟨cs', h1, h2⟩ := hc i (by omega)
      obtain ⟨p, rfl, hp⟩ := open_fate h2
      exact ⟨p, h1⟩
    obtain ⟨l, rfl, hP⟩ := list_of _ len each
    refine ⟨some a, _, l, rfl, by omega, ?_⟩
    by_cases h0 : l = []
    · exact .inl h0
    · right
      have hpos : 0 < l.length := List.length_pos_iff.2 h0
      have h1 := hP 0 hpos
      rw [Nat.zero_mul, show a.add 0 = a by simp [Addr.add]] at h1
      obtain ⟨hs, hlt⟩ := cells_spot (by decide) h1
      obtain ⟨b, off, sp⟩ := a
      simp only at hs hlt
      subst hs
      refine ⟨b, off, rfl, hlt, fun i kd t hi => ?_⟩
      obtain ⟨hil, hpe⟩ := List.getElem?_eq_some_iff.1 hi
      have h2 := hP i hil
      rw [hpe] at h2
      have := cells_at (a := ⟨b, off, none⟩) rfl h2
      exact ⟨by simpa using this 0 _ rfl, by simpa using this 1 _ rfl⟩
/-- Bools in memory. -/
def Bls (w : World) (bb off : Nat) (l : List Bool) : Prop := ∀ (i : Nat) (b : Bool), l[i]? = some b → w.cell? ⟨bb, off + i, none⟩ = some (.bool b)
def BlsV (w : World) (l : List Bool) (a : Option Addr) : Prop := l = [] ∨ ∃ bb off, a = some ⟨bb, off, none⟩ ∧ bb < w.heap.size ∧ Bls w bb off l
/-- A list of bools. -/
theorem open_bools {cs : List Value} {x : DataW H × List MemPlace} (h : DataW.trod enc Try.prog W 0 (fun _ => true) held fuel 64 cs = some x) (hz : ∀ n ∈ x.1.weights Try.prog 64, n ≤ reachBytes) :
    ∃ (ad : Option Addr) (cap : Nat) (l : List Bool), cs = [.slice ad l.length cap] ∧ l.length ≤ 140737488351232 ∧ BlsV W l ad := by
  rcases Go.Deep.open_slice Try.underlying64 h with ⟨rfl, _⟩ | ⟨a, len, cap, m, n, D, Pl, rfl, _, hl, hm, hmm, rfl, hc⟩
  · exact ⟨none, 0, [], rfl, by decide, .inl rfl⟩
  · simp only [if_true] at hmm
    subst hmm
    rw [cells4] at hc
    have hw := hz _ (by rw [DataW.weights, Try.underlying64]; exact List.mem_cons_self ..)
    rw [bytes4] at hw
    simp [reachBytes] at hw
    have each : ∀ i, i < len → ∃ y : Bool, (W.cells? 0 (a.add (i * 1)) 1 = some [.bool y]) := by
      intro i hi
      obtain ⟨cs', h1, h2⟩ := hc i (by omega)
      obtain ⟨o, rfl, _⟩ := DataW.trod_bool Try.underlying4 h2
      exact ⟨o, h1⟩
    obtain ⟨l, rfl, hP⟩ := list_of _ len each
    refine ⟨some a, _, l, rfl, by omega, ?_⟩
    by_cases h0 : l = []
    · exact .inl h0
    · right
      have hpos : 0 < l.length := List.length_pos_iff.2 h0
      have h1 := hP 0 hpos
      rw [Nat.zero_mul, show a.add 0 = a by simp [Addr.add]] at h1
      obtain ⟨hs, hlt⟩ := cells_spot (by decide) h1
      obtain ⟨b, off, sp⟩ := a
      simp only at hs hlt
      subst hs
      refine ⟨b, off, rfl, hlt, fun i b' hi => ?_⟩
      obtain ⟨hil, hpe⟩ := List.getElem?_eq_some_iff.1 hi
      have h2 := hP i hil
      rw [hpe] at h2
      have := cells_at (a := ⟨b, off, none⟩) rfl h2
      simpa using this 0 _ rfl
/-- A text's length. -/
theorem size_str {s : ByteArray} {x : DataW H × List MemPlace} (h : DataW.trod enc Try.prog W base sp held fuel 9 (Value.cells (.string s)).toList = some x) (hz : ∀ n ∈ x.1.weights Try.prog 9, n ≤ reachBytes) : s.size ≤ 140737488351232 := by
  obtain ⟨s', e, hx, _⟩ := DataW.trod_string Try.underlying9 h
  simp only [Value.cells, List.cons.injEq, Value.string.injEq, and_true] at e
  subst e
  subst hx
  have := hz s.data.toList.length (by simp [DataW.weights])
  simpa [reachBytes] using this
end
end Go.Proofs.Ytbjpphoohoedcaa
