/- The statements' arguments, opened: plain data as it lies in memory. -/
import Derived.Test.YtkcjcidndckgbaaRows
import Derived.Test.YtkcjcidndckgbaaRp
import Derived.ProofKit
import Derived.SizedLaws
import Derived.OpenShut
import Derived.Lib.SmallJoins
namespace Go.Proofs.Ytkcjcidndckgbaa
open Go.ChangeShapes Go.WideShapes Go.ChangeAt Go.RowKit Go.Joins
set_option linter.unusedVariables false
set_option linter.unusedSimpArgs false

/-- Things, one behind the other, in a slice. -/
def Row {α : Type} (z : Nat) (Is : World → Array Value → α → Prop) (w : World) (v : Value) (xs : List α) : Prop :=
  ∃ ad cap, v = .slice ad xs.length cap ∧ xs.length ≤ cap ∧ (xs = [] ∨ ∃ b o, ad = some ⟨b, o, none⟩ ∧
    ∀ i x, xs[i]? = some x → ∃ cs, cs.size = z ∧ (∀ j u, cs[j]? = some u → w.cell? ⟨b, o + i * z + j, none⟩ = some u) ∧ Is w cs x)
/-- What could be read can be read still. -/
def Pres (w w' : World) : Prop := ∀ a v, w.cell? a = some v → w'.cell? a = some v
theorem Pres.refl (w : World) : Pres w w := fun _ _ h => h
theorem Pres.trans {a b c : World} (h : Pres a b) (k : Pres b c) : Pres a c := fun p v e => k p v (h p v e)
theorem pres_below {w w' : World} (h : Below w.heap.size w w') : Pres w w' := fun a v e => (World.cell?_of_block (h.block a.block (World.block_lt_of_cell? w a e))).trans e
def Okn (n : Int) : Prop := -9223372036854775808 ≤ n ∧ n ≤ 9223372036854775807
def Okt (s : ByteArray) : Prop := s.size ≤ 140737488351232
def Len {α : Type} (z : Nat) (xs : List α) : Prop := xs.length * z ≤ 140737488351232
theorem word64_of_wf {x : Int} (h : (Lit.int .u64 x).wf = true) : 0 ≤ x ∧ x < 18446744073709551616 := by
  simp [Lit.wf, IntKind.min, IntKind.max, IntKind.signed, IntKind.bits] at h
  exact ⟨by omega, by omega⟩
theorem okn_of_wf {x : Int} (h : (Lit.int .i64 x).wf = true) : Okn x := by
  simp [Lit.wf, IntKind.min, IntKind.max, IntKind.signed, IntKind.bits] at h
  exact ⟨by omega, by omega⟩
theorem list_of {α : Type} (P : Nat → α → Prop) : ∀ n : Nat, (∀ i, i < n → ∃ y, P i y) → ∃ l : List α, l.length = n ∧ ∀ i x, l[i]? = some x → P i x
  | 0, _ => ⟨[], rfl, fun i x h => by simp at h⟩
  | n + 1, h => by
    obtain ⟨l, hl, hP⟩ := list_of P n (fun i hi => h i (by omega))
    obtain ⟨y, hy⟩ := h n (by omega)
    refine ⟨l ++ [y], by simp [hl], fun i x hi => ?_⟩
    rw [List.getElem?_append] at hi
    split at hi
    · exact hP i x hi
    · rename_i hn
      have hin : i - l.length = 0 := by
        rcases Nat.eq_zero_or_pos (i - l.length) with e | e
        · exact e
        · rw [List.getElem?_eq_none (by simp; omega)] at hi; cases hi
      rw [hin] at hi
      have : x = y := by simpa using hi.symm
      rw [this, show i = n by omega]; exact hy
theorem weights_all {H : Type} {P : Program} {e : TypeId} : ∀ {ds : List (DataW H)} {d : DataW H}, d ∈ ds → ∀ n ∈ d.weights P e, n ∈ DataW.weightsAll P e ds
  | d' :: r, d, hd, n, hn => by
    rw [DataW.weightsAll]
    rcases List.mem_cons.1 hd with rfl | hd
    · exact List.mem_append_left _ hn
    · exact List.mem_append_right _ (weights_all hd n hn)
section
variable {H : Type} {enc : TypeId × Value → H} {W : World} {held : Bool}
/-- What a piece of data is read as, within reach. -/
def Reads (enc : TypeId × Value → H) (W : World) (held : Bool) (fuel : Nat) (t : TypeId) (cs : List Value) : Prop := ∃ y : DataW H × List MemPlace, DataW.trod enc Try.prog W 0 (fun _ => true) held fuel t cs = some y ∧ ∀ n ∈ y.1.weights Try.prog t, n ≤ reachBytes
theorem open_row {α : Type} {t e : TypeId} {z bt fuel : Nat} {Is : World → Array Value → α → Prop} {cs : List Value} (hu : Try.prog.underlying t = some (.slice e)) (hc : Try.prog.cellsOf e = z) (hz : 0 < z) (hb : Try.prog.bytesOf e = bt)
    (h : Reads enc W held fuel t cs) (each : ∀ m cs', m < fuel → Reads enc W held m e cs' → ∃ x : α, cs'.length = z ∧ Is W cs'.toArray x) : ∃ v xs, cs = [v] ∧ Row z Is W v xs ∧ Len bt xs := by
  obtain ⟨y, h, hw⟩ := h
  rcases DataW.trod_slice hu h with ⟨rfl, rfl⟩ | ⟨a, len, cap, elems, rest, n, rfl, rfl, rfl, _, hl, _, hlen, hel, _, _⟩
  · exact ⟨_, [], rfl, ⟨none, 0, rfl, Nat.le_refl _, .inl rfl⟩, by unfold Len; simp⟩
  · have hw0 := hw _ (by rw [DataW.weights, hu]; exact List.mem_cons_self ..)
    rw [hb] at hw0
    simp only [List.length_map, hlen, reachBytes] at hw0
    have hlb : len * bt ≤ 140737488351232 := Nat.le_trans (Nat.mul_le_mul_right bt (Nat.le_add_right len rest.length)) hw0
    rw [hc] at hel
    have hx : ∀ i, i < len → ∃ x : α, ∃ cs', W.cells? 0 (a.add (i * z)) z = some cs' ∧ cs'.length = z ∧ Is W cs'.toArray x := by
      intro i hi
      have h1 := hel i hi
      rw [List.getElem?_eq_getElem (by omega)] at h1
      obtain ⟨cs', h2, h3⟩ := Option.bind_eq_some_iff.1 h1
      obtain ⟨x, h4, h5⟩ := each n cs' (by omega) ⟨_, h3, fun k hk => hw k (by
        rw [DataW.weights, hu]
        exact List.mem_cons_of_mem _ (List.mem_append_left _ (weights_all (d := elems[i].1) (List.mem_map.2 ⟨elems[i], List.getElem_mem _, rfl⟩) _ hk)))⟩
      exact ⟨x, cs', h2, h4, h5⟩
    obtain ⟨xs, hxl, hP⟩ := list_of _ len hx
    refine ⟨_, xs, rfl, ⟨some a, cap, by rw [hxl], by omega, ?_⟩, by unfold Len; rw [hxl]; exact hlb⟩
    by_cases h0 : xs = []
    · exact .inl h0
    · right
      have hs : a.spot = none := by
        obtain ⟨x, hx0⟩ : ∃ x, xs[0]? = some x := ⟨_, List.getElem?_eq_getElem (List.length_pos_iff.2 h0)⟩
        obtain ⟨cs', h1, h2, _⟩ := hP 0 x hx0
        obtain ⟨_, _, h3⟩ := World.cells?_some h1
        have h4 := h3 0 hz
        obtain ⟨v, hv⟩ : ∃ v, cs'[0]? = some v := ⟨_, List.getElem?_eq_getElem (by omega)⟩
        rw [hv] at h4
        have := World.cell?_spot h4
        simpa [Addr.add] using this
      obtain ⟨b, o, sp⟩ := a
      simp only at hs
      subst hs
      refine ⟨b, o, rfl, fun i x hi => ?_⟩
      obtain ⟨cs', h1, h2, h3⟩ := hP i x hi
      refine ⟨cs'.toArray, by simpa using h2, fun j u hj => ?_, h3⟩
      have hj' : cs'[j]? = some u := by simpa using hj
      obtain ⟨_, _, h4⟩ := World.cells?_some h1
      have hjz : j < z := by rw [← h2]; exact (List.getElem?_eq_some_iff.1 hj').1
      have h5 := h4 j hjz
      rw [hj', add_plain, add_plain] at h5
      exact h5
theorem open_txt {fuel : Nat} {cs : List Value} (h : Reads enc W held fuel 9 cs) : ∃ s : ByteArray, cs = [.string s] ∧ Okt s := by
  obtain ⟨y, h, hw⟩ := h
  obtain ⟨s, rfl, rfl, _⟩ := DataW.trod_string Try.underlying9 h
  refine ⟨s, rfl, ?_⟩
  have := hw s.data.toList.length (by simp [DataW.weights])
  simpa [reachBytes, Okt] using this
theorem open_int {fuel : Nat} {cs : List Value} (h : Reads enc W held fuel 3 cs) : ∃ n : Int, cs = [.int .i64 n] ∧ Okn n := by
  obtain ⟨y, h, hw⟩ := h
  obtain ⟨n, rfl, rfl, w⟩ := DataW.trod_int Try.underlying3 h
  exact ⟨n, rfl, okn_of_wf w⟩
theorem open_bool {fuel : Nat} {cs : List Value} (h : Reads enc W held fuel 4 cs) : ∃ b : Bool, cs = [.bool b] := by
  obtain ⟨y, h, hw⟩ := h
  obtain ⟨n, rfl, rfl⟩ := DataW.trod_bool Try.underlying4 h
  exact ⟨n, rfl⟩
end
theorem cells3 : Try.prog.cellsOf 3 = 1 := by kernel_rfl
theorem cells4 : Try.prog.cellsOf 4 = 1 := by kernel_rfl
theorem cells9 : Try.prog.cellsOf 9 = 1 := by kernel_rfl
theorem bytes9 : Try.prog.bytesOf 9 = 16 := by kernel_rfl
theorem bytes3 : Try.prog.bytesOf 3 = 8 := by kernel_rfl
theorem knob : ownKnob Try.prog.godebug = none := by kernel_rfl
theorem laidOut : laidOutB Try.prog = true := by kernel_rfl
end Go.Proofs.Ytkcjcidndckgbaa
