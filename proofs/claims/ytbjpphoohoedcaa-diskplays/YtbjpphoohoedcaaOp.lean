/- Arguments of this layer, opened: lists of writes, of fates, of bools. -/
import Derived.Test.YtbjpphoohoedcaaPn
import Derived.Test.YtbjpphoohoedcaaCm
import Derived.Deep.Slices
namespace Go.Proofs.Ytbjpphoohoedcaa
open Go.ChangeShapes Go.WideShapes Go.ChangeAt Go.RowKit Go.Joins
set_option linter.unusedVariables false

theorem list_of {α : Type} (P : Nat → α → Prop) : ∀ n : Nat, (∀ i, i < n → ∃ y, P i y) → ∃ l : List α, l.length = n ∧ ∀ i (h : i < l.length), P i l[i]
  | 0, _ => ⟨[], rfl, fun i h => by simp at h⟩
  | n + 1, h => by
    obtain ⟨l, hl, hP⟩ := list_of P n (fun i hi => h i (by omega))
    obtain ⟨y, hy⟩ := h n (by omega)
    refine ⟨l ++ [y], by simp [hl], fun i hi => ?_⟩
    by_cases e : i < l.length
    · rw [List.getElem_append_left e]; exact hP i e
    · have hin : i = n := by simp at hi; omega
      subst hin
      rw [List.getElem_append_right (by omega)]
      simp [hl]; exact hy
theorem cells_at {w : World} {a : Addr} {p n : Nat} {cs : List Value} (ha : a.spot = none) (h : w.cells? 0 (a.add p) n = some cs) : ∀ j v, cs[j]? = some v → w.cell? ⟨a.block, a.off + p + j, none⟩ = some v := by
  intro j v hj
  obtain ⟨_, h2, h3⟩ := World.cells?_some h
  have hjn : j < n := by rw [← h2]; exact (List.getElem?_eq_some_iff.1 hj).1
  have := h3 j hjn
  obtain ⟨b, off, sp⟩ := a
  simp only at ha
  subst ha
  rw [add_plain, add_plain] at this
  rw [this, hj]
theorem cells_spot {w : World} {a : Addr} {n : Nat} {cs : List Value} (hn : 0 < n) (h : w.cells? 0 a n = some cs) : a.spot = none ∧ a.block < w.heap.size := by
  refine ⟨?_, World.cells?_block h hn⟩
  obtain ⟨_, h2, h3⟩ := World.cells?_some h
  have h4 := h3 0 hn
  obtain ⟨v, hv⟩ : ∃ v, cs[0]? = some v := ⟨_, List.getElem?_eq_getElem (by omega)⟩
  rw [hv] at h4
  have := World.cell?_spot h4
  simpa [Addr.add] using this
theorem list3 {α : Type} {l : List α} (h : l.length = 3) : ∃ a b c, l = [a, b, c] := by
  match l, h with
  | [a, b, c], _ => exact ⟨a, b, c, rfl⟩
theorem list2 {α : Type} {l : List α} (h : l.length = 2) : ∃ a b, l = [a, b] := by
  match l, h with
  | [a, b], _ => exact ⟨a, b, rfl⟩
theorem cells52 : Try.prog.cellsOf 52 = 3 := by kernel_rfl
theorem cells59 : Try.prog.cellsOf 59 = 2 := by kernel_rfl
theorem cells5 : Try.prog.cellsOf 5 = 1 := by kernel_rfl
theorem cells4 : Try.prog.cellsOf 4 = 1 := by kernel_rfl
theorem cells3 : Try.prog.cellsOf 3 = 1 := by kernel_rfl
theorem bytes52 : Try.prog.bytesOf 52 = 16 := by kernel_rfl
theorem bytes59 : Try.prog.bytesOf 59 = 16 := by kernel_rfl
theorem bytes4 : Try.prog.bytesOf 4 = 1 := by kernel_rfl
theorem i64_of {x : Int} (h : (Lit.int .i64 x).wf = true) : I64 x := bounds_i64 h
theorem u8_of {x : Int} (h : (Lit.int .u8 x).wf = true) : ∃ b : UInt8, x = (b.toNat : Int) := by
  have h0 : 0 ≤ x ∧ x ≤ 255 := by
    have := bounds_u8 h
    omega
  exact ⟨UInt8.ofNat x.toNat, by simp; omega⟩
section
variable {H : Type} {enc : TypeId × Value → H} {W : World} {base : Nat} {sp : Nat → Bool} {held : Bool} {fuel : Nat}
/-- A write's cells. -/
theorem open_put {cs : List Value} {y : DataW H × List MemPlace} (h : DataW.trod enc Try.prog W base sp held fuel 52 cs = some y) :
    ∃ p : Pu, cs = [.int .i64 p.n, .int .u8 (p.f.toNat : Int), .int .u8 (p.e.toNat : Int)] ∧ I64 p.n := by
  obtain ⟨xs, m, _, rfl, hl, hlen, hf⟩ := DataW.trod_struct Try.underlying52 h
  obtain ⟨a, b, c, rfl⟩ := list3 (hl.trans cells52)
  obtain ⟨x0, x1, x2, rfl⟩ := list3 hlen
  have g0 : DataW.trod enc Try.prog W base sp held m 3 [a] = some x0 := by have := hf 0 _ rfl; simpa [cells3] using this
  have g1 : DataW.trod enc Try.prog W base sp held m 5 [b] = some x1 := by have := hf 1 _ rfl; simpa [cells5] using this
  have g2 : DataW.trod enc Try.prog W base sp held m 5 [c] = some x2 := by have := hf 2 _ rfl; simpa [cells5] using this
  obtain ⟨n, e0, rfl, w0⟩ := DataW.trod_int Try.underlying3 g0
  obtain ⟨f, e1, rfl, w1⟩ := DataW.trod_int Try.underlying5 g1
  obtain ⟨e, e2, rfl, w2⟩ := DataW.trod_int Try.underlying5 g2
  simp only [List.cons.injEq, and_true] at e0 e1 e2
  obtain ⟨f', rfl⟩ := u8_of w1
  obtain ⟨e', rfl⟩ := u8_of w2
  subst e0 e1 e2
  exact ⟨⟨n, f', e'⟩, rfl, i64_of w0⟩
/-- A list of writes. -/
theorem open_puts {cs : List Value} {x : DataW H × List MemPlace} (h : DataW.trod enc Try.prog W 0 (fun _ => true) held fuel 45 cs = some x) (hz : ∀ n ∈ x.1.weights Try.prog 45, n ≤ reachBytes) :
    ∃ (ad : Option Addr) (cap : Nat) (l : List Pu), cs = [.slice ad l.length cap] ∧ l.length * 16 ≤ 140737488351232 ∧ PtsV W l ad := by
  rcases Go.Deep.open_slice Try.underlying45 h with ⟨rfl, _⟩ | ⟨a, len, cap, m, n, D, Pl, rfl, _, hl, hm, hmm, rfl, hc⟩
  · exact ⟨none, 0, [], rfl, by decide, .inl rfl⟩
  · simp only [if_true] at hmm
    subst hmm
    rw [cells52] at hc
    have hw := hz _ (by rw [DataW.weights, Try.underlying45]; exact List.mem_cons_self ..)
    rw [bytes52] at hw
    simp [reachBytes] at hw
    have each : ∀ i, i < len → ∃ y : Pu, (W.cells? 0 (a.add (i * 3)) 3 = some [.int .i64 y.n, .int .u8 (y.f.toNat : Int), .int .u8 (y.e.toNat : Int)]) ∧ I64 y.n := by
      intro i hi
      obtain ⟨cs', h1, h2⟩ := hc i (by omega)
      obtain ⟨p, rfl, hp⟩ := open_put h2
      exact ⟨p, h1, hp⟩
    obtain ⟨l, rfl, hP⟩ := list_of _ len each
    refine ⟨some a, _, l, rfl, by omega, ?_⟩
    by_cases h0 : l = []
    · exact .inl h0
    · right
      have hpos : 0 < l.length := List.length_pos_iff.2 h0
      have h1 := (hP 0 hpos).1
      rw [Nat.zero_mul, show a.add 0 = a by simp [Addr.add]] at h1
      obtain ⟨hs, hlt⟩ := cells_spot (by decide) h1
      obtain ⟨b, off, sp⟩ := a
      simp only at hs hlt
      subst hs
      refine ⟨b, off, rfl, hlt, fun i p hi => ?_⟩
      obtain ⟨hil, hpe⟩ := List.getElem?_eq_some_iff.1 hi
      have h2 := hP i hil
      rw [hpe] at h2
      have := cells_at (a := ⟨b, off, none⟩) rfl h2.1
      exact ⟨by simpa using this 0 _ rfl, by simpa using this 1 _ rfl, by simpa using this 2 _ rfl, h2.2⟩
end
end Go.Proofs.Ytbjpphoohoedcaa
