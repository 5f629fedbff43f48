/- The statements' arguments, opened: plain data as it lies in memory. -/
import Derived.Test.YtgdpplipahhffaaRows
import Derived.Test.YtgdpplipahhffaaGs
import Derived.ProofKit
import Derived.SizedLaws
import Derived.OpenShut
import Derived.Lib.SmallJoins
namespace Go.Proofs.Ytgdpplipahhffaa
open Go.ChangeShapes Go.WideShapes Go.ChangeAt Go.RowKit Go.Joins
set_option linter.unusedVariables false
set_option linter.unusedSimpArgs false

/-- Things, one behind the other, in a slice. -/
def Row {α : Type} (z : Nat) (Is : World → Array Value → α → Prop) (w : World) (v : Value) (xs : List α) : Prop :=
  ∃ ad cap, v = .slice ad xs.length cap ∧ xs.length ≤ cap ∧ (xs = [] ∨ ∃ b o, ad = some ⟨b, o, none⟩ ∧
    ∀ i x, xs[i]? = some x → ∃ cs, cs.size = z ∧ (∀ j u, cs[j]? = some u → w.cell? ⟨b, o + i * z + j, none⟩ = some u) ∧ Is w cs x)
/-- What could be read can be read still. -/
def Pres (w w' : World) : Prop := ∀ a v, w.cell? a = some v → w'.cell? a = some v
theorem Pres.refl (w : World) : Pres w w := fun _ _ h => h
theorem Pres.trans {a b c : World} (h : Pres a b) (k : Pres b c) : Pres a c := fun p v e => k p v (h p v e)
theorem pres_below {w w' : World} (h : Below w.heap.size w w') : Pres w w' := fun a v e => (World.cell?_of_block (h.block a.block (World.block_lt_of_cell? w a e))).trans e
def Okn (n : Int) : Prop := -9223372036854775808 ≤ n ∧ n ≤ 9223372036854775807
def Okt (s : ByteArray) : Prop := s.size ≤ 140737488351232
def Len {α : Type} (z : Nat) (xs : List α) : Prop := xs.length * z ≤ 140737488351232
theorem word64_of_wf {x : Int} (h : (Lit.int .u64 x).wf = true) : 0 ≤ x ∧ x < 18446744073709551616 := by
  simp [Lit.wf, IntKind.min, IntKind.max, IntKind.signed, IntKind.bits] at h
  exact ⟨by omega, by omega⟩
theorem okn_of_wf {x : Int} (h : (Lit.int .i64 x).wf = true) : Okn x := by
  simp [Lit.wf, IntKind.min, IntKind.max, IntKind.signed, IntKind.bits] at h
  exact ⟨by omega, by omega⟩
theorem list_of {α : Type} (P : Nat → α → Prop) : ∀ n : Nat, (∀ i, i < n → ∃ y, P i y) → ∃ l : List α, l.length = n ∧ ∀ i x, l[i]? = some x → P i x
  | 0, _ => ⟨[], rfl, fun i x h => by simp at h⟩
  | n + 1, h => by
    obtain ⟨l, hl, hP⟩ := list_of P n (fun i hi => h i (by omega))
    obtain ⟨y, hy⟩ := h n (by omega)
    refine ⟨l ++ [y], by simp [hl], fun i x hi => ?_⟩
    rw [List.getElem?_append] at hi
    split at hi
    · exact hP i x hi
    · rename_i hn
      have hin : i - l.length = 0 := by
        rcases Nat.eq_zero_or_pos (i - l.length) with e | e
        · exact e
        · rw [List.getElem?_eq_none (by simp; omega)] at hi; cases hi
      rw [hin] at hi
      have : x = y := by simpa using hi.symm
      rw [this, show i = n by omega]; exact hy
theorem weights_all {H : Type} {P : Program} {e : TypeId} : ∀ {ds : List (DataW H)} {d : DataW H}, d ∈ ds → ∀ n ∈ d.weights P e, n ∈ DataW.weightsAll P e ds
  | d' :: r, d, hd, n, hn => by
    rw [DataW.weightsAll]
    rcases List.mem_cons.1 hd with rfl | hd
    · exact List.mem_append_left _ hn
    · exact List.mem_append_right _ (weights_all hd n hn)
section
variable {H : Type} {enc : TypeId × Value → H} {W : World} {held : Bool}
/-- What a piece of data is read as, within reach. -/
def Reads (enc : TypeId × Value → H) (W : World) (held : Bool) (fuel : Nat) (t : TypeId) (cs : List Value) : Prop := ∃ y : DataW H × List MemPlace, DataW.trod enc Try.prog W 0 (fun _ => true) held fuel t cs = some y ∧ ∀ n ∈ y.1.weights Try.prog t, n ≤ reachBytes
theorem open_row {α : Type} {t e : TypeId} {z bt fuel : Nat} {Is : World → Array Value → α → Prop} {cs : List Value} (hu : Try.prog.underlying t = some (.slice e)) (hc : Try.prog.cellsOf e = z) (hz : 0 < z) (hb : Try.prog.bytesOf e = bt)
    (h : Reads enc W held fuel t cs) (each : ∀ m cs', m < fuel → Reads enc W held m e cs' → ∃ x : α, cs'.length = z ∧ Is W cs'.toArray x) : ∃ v xs, cs = [v] ∧ Row z Is W v xs ∧ Len bt xs := by
  obtain ⟨y, h, hw⟩ := h
  rcases DataW.trod_slice hu h with ⟨rfl, rfl⟩ | ⟨a, len, cap, elems, rest, n, rfl, rfl, rfl, _, hl, _, hlen, hel, _, _⟩
  · exact ⟨_, [], rfl, ⟨none, 0, rfl, Nat.le_refl _, .inl rfl⟩, by unfold Len; simp⟩
  · have hw0 := hw _ (by rw [DataW.weights, hu]; exact List.mem_cons_self ..)
    rw [hb] at hw0
    simp only [List.length_map, hlen, reachBytes] at hw0
    have hlb : len * bt ≤ 140737488351232 := Nat.le_trans (Nat.mul_le_mul_right bt (Nat.le_add_right len rest.length)) hw0
    rw [hc] at hel
    have hx : ∀ i, i < len → ∃ x : α, ∃ cs', W.cells? 0 (a.add (i * z)) z = some cs' ∧ cs'.length = z ∧ Is W cs'.toArray x := by
      intro i hi
      have h1 := hel i hi
      rw [List.getElem?_eq_getElem (by omega)] at h1
      obtain ⟨cs', h2, h3⟩ := Option.bind_eq_some_iff.1 h1
      obtain ⟨x, h4, h5⟩ := each n cs' (by omega) ⟨_, h3, fun k hk => hw k (by
        rw [DataW.weights, hu]
        exact List.mem_cons_of_mem _ (List.mem_append_left _ (weights_all (d := elems[i].1) (List.mem_map.2 ⟨elems[i], List.getElem_mem _, rfl⟩) _ hk)))⟩
      exact ⟨x, cs', h2, h4, h5⟩
    obtain ⟨xs, hxl, hP⟩ := list_of _ len hx
    refine ⟨_, xs, rfl, ⟨some a, cap, by rw [hxl], by omega, ?_⟩, by unfold Len; rw [hxl]; exact hlb⟩
    by_cases h0 : xs = []
    · exact .inl h0
    · right
      have hs : a.spot = none := by
        obtain ⟨x, hx0⟩ : ∃ x, xs[0]? = some x := ⟨_, List.getElem?_eq_getElem (List.length_pos_iff.2 h0)⟩
        obtain ⟨cs', h1, h2, _⟩ := hP 0 x hx0
        obtain ⟨_, _, h3⟩ := World.cells?_some h1
        have h4 := h3 0 hz
        obtain ⟨v, hv⟩ : ∃ v, cs'[0]? = some v := ⟨_, List.getElem?_eq_getElem (by omega)⟩
        rw [hv] at h4
        have := World.cell?_spot h4
        simpa [Addr.add] using this
      obtain ⟨b, o, sp⟩ := a
      simp only at hs
      subst hs
      refine ⟨b, o, rfl, fun i x hi => ?_⟩
      obtain ⟨cs', h1, h2, h3⟩ := hP i x hi
      refine ⟨cs'.toArray, by simpa using h2, fun j u hj => ?_, h3⟩
      have hj' : cs'[j]? = some u := by simpa using hj
      obtain ⟨_, _, h4⟩ := World.cells?_some h1
      have hjz : j < z := by rw [← h2]; exact (List.getElem?_eq_some_iff.1 hj').1
      have h5 := h4 j hjz
      rw [hj', add_plain, add_plain] at h5
      exact h5
theorem open_txt {fuel : Nat} {cs : List Value} (h : Reads enc W held fuel 9 cs) : ∃ s : ByteArray, cs = [.string s] ∧ Okt s := by
  obtain ⟨y, h, hw⟩ := h
  obtain ⟨s, rfl, rfl, _⟩ := DataW.trod_string Try.underlying9 h
  refine ⟨s, rfl, ?_⟩
  have := hw s.data.toList.length (by simp [DataW.weights])
  simpa [reachBytes, Okt] using this
theorem open_int {fuel : Nat} {cs : List Value} (h : Reads enc W held fuel 3 cs) : ∃ n : Int, cs = [.int .i64 n] ∧ Okn n := by
  obtain ⟨y, h, hw⟩ := h
  obtain ⟨n, rfl, rfl, w⟩ := DataW.trod_int Try.underlying3 h
  exact ⟨n, rfl, okn_of_wf w⟩
theorem open_bool {fuel : Nat} {cs : List Value} (h : Reads enc W held fuel 4 cs) : ∃ b : Bool, cs = [.bool b] := by
  obtain ⟨y, h, hw⟩ := h
  obtain ⟨n, rfl, rfl⟩ := DataW.trod_bool Try.underlying4 h
  exact ⟨n, rfl⟩
end
theorem cells3 : Try.prog.cellsOf 3 = 1 := by kernel_rfl
theorem cells4 : Try.prog.cellsOf 4 = 1 := by kernel_rfl
theorem cells9 : Try.prog.cellsOf 9 = 1 := by kernel_rfl
theorem bytes9 : Try.prog.bytesOf 9 = 16 := by kernel_rfl
theorem bytes3 : Try.prog.bytesOf 3 = 8 := by kernel_rfl
theorem knob : ownKnob Try.prog.godebug = none := by kernel_rfl
theorem laidOut : laidOutB Try.prog = true := by kernel_rfl
theorem cells31 : Try.prog.cellsOf 31 = 1 := by kernel_rfl
theorem cells33 : Try.prog.cellsOf 33 = 2 := by kernel_rfl
theorem cells35 : Try.prog.cellsOf 35 = 5 := by kernel_rfl
theorem bytes35 : Try.prog.bytesOf 35 = 40 := by kernel_rfl
theorem list2 {α : Type} {l : List α} (h : l.length = 2) : ∃ a b, l = [a, b] := by
  match l, h with
  | [a, b], _ => exact ⟨a, b, rfl⟩
theorem list4 {α : Type} {l : List α} (h : l.length = 4) : ∃ a b c d, l = [a, b, c, d] := by
  match l, h with
  | [a, b, c, d], _ => exact ⟨a, b, c, d, rfl⟩
theorem list5 {α : Type} {l : List α} (h : l.length = 5) : ∃ a b c d e, l = [a, b, c, d, e] := by
  match l, h with
  | [a, b, c, d, e], _ => exact ⟨a, b, c, d, e, rfl⟩
/-- A call: its kind, a value, a length, what is kept. -/
structure OpD where
  kind : Int
  a : Nat
  n : Int
  v : Int
abbrev opC (o : OpD) : Array Value := #[.int .i64 o.kind, .int .u64 (hiOf o.a), .int .u64 (loOf o.a), .int .i64 o.n, .int .i64 o.v]
def OpOk (o : OpD) : Prop := Is128 o.a ∧ Okn o.kind ∧ Okn o.n ∧ Okn o.v
section
variable {H : Type} {enc : TypeId × Value → H} {W : World} {held : Bool}
theorem parts33 {fuel : Nat} {cs : List Value} (h : Reads enc W held fuel 33 cs) : ∃ c0 c1 m, m < fuel ∧ cs = [c0, c1] ∧ Reads enc W held m 31 [c0] ∧ Reads enc W held m 31 [c1] := by
  obtain ⟨y, h, hw⟩ := h
  obtain ⟨xs, m, rfl, rfl, hl, hlen, hf⟩ := DataW.trod_struct Try.underlying33 h
  obtain ⟨c0, c1, rfl⟩ := list2 (hl.trans cells33)
  obtain ⟨x0, x1, rfl⟩ := list2 hlen
  refine ⟨_, _, m, by omega, rfl, ?_, ?_⟩
  · exact ⟨x0, by have := hf 0 _ rfl; simpa [cells31] using this, fun n hn => hw n (by simp [DataW.weights, DataW.weightsEach, Try.underlying33, hn])⟩
  · exact ⟨x1, by have := hf 1 _ rfl; simpa [cells31] using this, fun n hn => hw n (by simp [DataW.weights, DataW.weightsEach, Try.underlying33, hn])⟩
theorem parts35 {fuel : Nat} {cs : List Value} (h : Reads enc W held fuel 35 cs) : ∃ c0 c1 c2 c3 c4 m, m < fuel ∧ cs = [c0, c1, c2, c3, c4] ∧ Reads enc W held m 3 [c0] ∧ Reads enc W held m 33 [c1, c2] ∧ Reads enc W held m 3 [c3] ∧ Reads enc W held m 3 [c4] := by
  obtain ⟨y, h, hw⟩ := h
  obtain ⟨xs, m, rfl, rfl, hl, hlen, hf⟩ := DataW.trod_struct Try.underlying35 h
  obtain ⟨c0, c1, c2, c3, c4, rfl⟩ := list5 (hl.trans cells35)
  obtain ⟨x0, x1, x2, x3, rfl⟩ := list4 hlen
  refine ⟨_, _, _, _, _, m, by omega, rfl, ?_, ?_, ?_, ?_⟩
  · exact ⟨x0, by have := hf 0 _ rfl; simpa [cells3] using this, fun n hn => hw n (by simp [DataW.weights, DataW.weightsEach, Try.underlying35, hn])⟩
  · exact ⟨x1, by have := hf 1 _ rfl; simpa [cells3, cells33] using this, fun n hn => hw n (by simp [DataW.weights, DataW.weightsEach, Try.underlying35, hn])⟩
  · exact ⟨x2, by have := hf 2 _ rfl; simpa [cells3, cells33] using this, fun n hn => hw n (by simp [DataW.weights, DataW.weightsEach, Try.underlying35, hn])⟩
  · exact ⟨x3, by have := hf 3 _ rfl; simpa [cells3, cells33] using this, fun n hn => hw n (by simp [DataW.weights, DataW.weightsEach, Try.underlying35, hn])⟩
theorem open_word {fuel : Nat} {cs : List Value} (h : Reads enc W held fuel 31 cs) : ∃ n : Int, cs = [.int .u64 n] ∧ 0 ≤ n ∧ n < 18446744073709551616 := by
  obtain ⟨y, h, hw⟩ := h
  obtain ⟨n, rfl, rfl, w⟩ := DataW.trod_int Try.underlying31 h
  exact ⟨n, rfl, word64_of_wf w⟩
theorem open_bits {fuel : Nat} {cs : List Value} (h : Reads enc W held fuel 33 cs) : ∃ v : Nat, cs = [.int .u64 (hiOf v), .int .u64 (loOf v)] ∧ Is128 v := by
  obtain ⟨c0, c1, m, _, rfl, g0, g1⟩ := parts33 h
  obtain ⟨x, e0, h0⟩ := open_word g0
  obtain ⟨y, e1, h1⟩ := open_word g1
  cases e0; cases e1
  obtain ⟨v, hv, rfl, rfl⟩ := bits_is h0.1 h0.2 h1.1 h1.2
  exact ⟨v, rfl, hv⟩
theorem open_op {fuel : Nat} {cs : List Value} (h : Reads enc W held fuel 35 cs) : ∃ o : OpD, cs = (opC o).toList ∧ OpOk o := by
  obtain ⟨c0, c1, c2, c3, c4, m, _, rfl, g0, g1, g2, g3⟩ := parts35 h
  obtain ⟨k, e0, h0⟩ := open_int g0
  obtain ⟨v, e1, h1⟩ := open_bits g1
  obtain ⟨n, e2, h2⟩ := open_int g2
  obtain ⟨u, e3, h3⟩ := open_int g3
  cases e0; cases e1; cases e2; cases e3
  exact ⟨⟨k, v, n, u⟩, rfl, h1, h0, h2, h3⟩
def OpRow (w : World) (v : Value) (xs : List OpD) : Prop := Row 5 (fun _ cs o => cs = opC o ∧ OpOk o) w v xs ∧ Len 40 xs
theorem open_ops {fuel : Nat} {cs : List Value} (h : Reads enc W held fuel 22 cs) : ∃ v xs, cs = [v] ∧ OpRow W v xs := by
  obtain ⟨v, xs, e, h1, h2⟩ := open_row (Is := fun _ cs o => cs = opC o ∧ OpOk o) Try.underlying22 cells35 (by decide) bytes35 h (fun _ _ _ g => by
    obtain ⟨o, rfl, ho⟩ := open_op g
    exact ⟨o, rfl, by simp, ho⟩)
  exact ⟨v, xs, e, h1, h2⟩
end
end Go.Proofs.Ytgdpplipahhffaa
