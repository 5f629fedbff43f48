/- More arguments opened: lists of fates, of frames; five arguments. -/
import Derived.Test.YtnpcnflfpmjgiaaDoorRo
import Derived.Test.YtnpcnflfpmjgiaaDoorWt
namespace Go.Proofs.YtnpcnflfpmjgiaaDoor
open Go.ChangeShapes Go.WideShapes Go.ChangeAt Go.RowKit Go.Joins
set_option linter.unusedVariables false

theorem list_of {α : Type} (P : Nat → α → Prop) : ∀ n : Nat, (∀ i, i < n → ∃ y, P i y) → ∃ l : List α, l.length = n ∧ ∀ i (h : i < l.length), P i l[i]
  | 0, _ => ⟨[], rfl, fun i h => by simp at h⟩
  | n + 1, h => by
    obtain ⟨l, hl, hP⟩ := list_of P n (fun i hi => h i (by omega))
    obtain ⟨y, hy⟩ := h n (by omega)
    refine ⟨l ++ [y], by simp [hl], fun i hi => ?_⟩
    by_cases e : i < l.length
    · rw [List.getElem_append_left e]; exact hP i e
    · have hin : i = n := by simp at hi; omega
      subst hin
      rw [List.getElem_append_right (by omega)]
      simp [hl]; exact hy
theorem cells_at {w : World} {a : Addr} {p n : Nat} {cs : List Value} (ha : a.spot = none) (h : w.cells? 0 (a.add p) n = some cs) : ∀ j v, cs[j]? = some v → w.cell? ⟨a.block, a.off + p + j, none⟩ = some v := by
  intro j v hj
  obtain ⟨_, h2, h3⟩ := World.cells?_some h
  have hjn : j < n := by rw [← h2]; exact (List.getElem?_eq_some_iff.1 hj).1
  have := h3 j hjn
  obtain ⟨b, off, sp⟩ := a
  simp only at ha
  subst ha
  rw [add_plain, add_plain] at this
  rw [this, hj]
theorem cells_spot {w : World} {a : Addr} {n : Nat} {cs : List Value} (hn : 0 < n) (h : w.cells? 0 a n = some cs) : a.spot = none ∧ a.block < w.heap.size := by
  refine ⟨?_, World.cells?_block h hn⟩
  obtain ⟨_, h2, h3⟩ := World.cells?_some h
  have h4 := h3 0 hn
  obtain ⟨v, hv⟩ : ∃ v, cs[0]? = some v := ⟨_, List.getElem?_eq_getElem (by omega)⟩
  rw [hv] at h4
  have := World.cell?_spot h4
  simpa [Addr.add] using this
theorem list2 {α : Type} {l : List α} (h : l.length = 2) : ∃ a b, l = [a, b] := by
  match l, h with
  | [a, b], _ => exact ⟨a, b, rfl⟩
theorem cells72 : Tryd.prog.cellsOf 72 = 2 := by kernel_rfl
theorem bytes72 : Tryd.prog.bytesOf 72 = 16 := by kernel_rfl
theorem bytes24 : Tryd.prog.bytesOf 24 = 40 := by kernel_rfl
section
variable {H : Type} {enc : TypeId × Value → H} {W : World} {base : Nat} {sp : Nat → Bool} {held : Bool} {fuel : Nat}
/-- A fate's cells. -/
theorem open_fate {cs : List Value} {y : DataW H × List MemPlace} (h : DataW.trod enc Tryd.prog W base sp held fuel 72 cs = some y) :
    ∃ p : Int × Int, cs = [.int .i64 p.1, .int .i64 p.2] ∧ I64 p.1 ∧ I64 p.2 := by
  obtain ⟨xs, m, _, rfl, hl, hlen, hf⟩ := DataW.trod_struct Tryd.underlying72 h
  obtain ⟨a, b, rfl⟩ := list2 (hl.trans cells72)
  obtain ⟨x0, x1, rfl⟩ := list2 hlen
  have g0 : DataW.trod enc Tryd.prog W base sp held m 3 [a] = some x0 := by have := hf 0 _ rfl; simpa [cells3] using this
  have g1 : DataW.trod enc Tryd.prog W base sp held m 3 [b] = some x1 := by have := hf 1 _ rfl; simpa [cells3] using this
  obtain ⟨n, e0, rfl, w0⟩ := DataW.trod_int Tryd.underlying3 g0
  obtain ⟨f, e1, rfl, w1⟩ := DataW.trod_int Tryd.underlying3 g1
  simp only [List.cons.injEq, and_true] at e0 e1
  subst e0 e1
  exact ⟨⟨n, f⟩, rfl, i64_of w0, i64_of w1⟩
/-- A list of fates. -/
theorem open_fates {cs : List Value} {x : DataW H × List MemPlace} (h : DataW.trod enc Tryd.prog W 0 (fun _ => true) held fuel 44 cs = some x) (hz : ∀ n ∈ x.1.weights Tryd.prog 44, n ≤ reachBytes) :
    ∃ (ad : Option Addr) (cap : Nat) (l : List (Int × Int)), cs = [.slice ad l.length cap] ∧ l.length * 16 ≤ 140737488351232 ∧ FtO W l ad := by
  rcases Go.Deep.open_slice Tryd.underlying44 h with ⟨rfl, _⟩ | ⟨a, len, cap, m, n, D, Pl, rfl, _, hl, hm, hmm, rfl, hc⟩
  · exact ⟨none, 0, [], rfl, by decide, .inl rfl⟩
  · simp only [if_true] at hmm
    subst hmm
    rw [cells72] at hc
    have hw := hz _ (by rw [DataW.weights, Tryd.underlying44]; exact List.mem_cons_self ..)
    rw [bytes72] at hw
    simp [reachBytes] at hw
    have each : ∀ i, i < len → ∃ y : Int × Int, (W.cells? 0 (a.add (i * 2)) 2 = some [.int .i64 y.1, .int .i64 y.2]) := by
      intro i hi
      obtain ⟨cs', h1, h2⟩ := hc i (by omega)
      obtain ⟨p, rfl, hp⟩ := open_fate h2
      exact ⟨p, h1⟩
    obtain ⟨l, rfl, hP⟩ := list_of _ len each
    refine ⟨some a, _, l, rfl, by omega, ?_⟩
    by_cases h0 : l = []
    · exact .inl h0
    · right
      have hpos : 0 < l.length := List.length_pos_iff.2 h0
      have h1 := hP 0 hpos
      rw [Nat.zero_mul, show a.add 0 = a by simp [Addr.add]] at h1
      obtain ⟨hs, hlt⟩ := cells_spot (by decide) h1
      obtain ⟨b, off, sp⟩ := a
      simp only at hs hlt
      subst hs
      refine ⟨b, off, rfl, hlt, fun i kd t hi => ?_⟩
      obtain ⟨hil, hpe⟩ := List.getElem?_eq_some_iff.1 hi
      have h2 := hP i hil
      rw [hpe] at h2
      have := cells_at (a := ⟨b, off, none⟩) rfl h2
      exact ⟨by simpa using this 0 _ rfl, by simpa using this 1 _ rfl⟩
/-- A list of frames. -/
theorem open_frames {cs : List Value} {x : DataW H × List MemPlace} (h : DataW.trod enc Tryd.prog W 0 (fun _ => true) held fuel 60 cs = some x) (hz : ∀ n ∈ x.1.weights Tryd.prog 60, n ≤ reachBytes) :
    ∃ (ad : Option Addr) (cap : Nat) (l : List Fr), cs = [.slice ad l.length cap] ∧ l.length * 40 ≤ 140737488351232 ∧ FrO W l ad ∧ ∀ f ∈ l, I64 f.kind ∧ I64 f.idx ∧ f.num < 18446744073709551616 := by
  rcases Go.Deep.open_slice Tryd.underlying60 h with ⟨rfl, _⟩ | ⟨a, len, cap, m, n, D, Pl, rfl, _, hl, hm, hmm, rfl, hc⟩
  · exact ⟨none, 0, [], rfl, by decide, .inl rfl, fun f hf => by simp at hf⟩
  · simp only [if_true] at hmm
    subst hmm
    rw [cells24] at hc
    have hw := hz _ (by rw [DataW.weights, Tryd.underlying60]; exact List.mem_cons_self ..)
    rw [bytes24] at hw
    simp [reachBytes] at hw
    have each : ∀ i, i < len → ∃ y : Fr, (W.cells? 0 (a.add (i * 4)) 4 = some [.int .i64 y.kind, .int .u64 y.num, .int .i64 y.idx, .string y.body] ∧ I64 y.kind ∧ I64 y.idx ∧ y.num < 18446744073709551616) := by
      intro i hi
      obtain ⟨cs', h1, h2⟩ := hc i (by omega)
      obtain ⟨p, rfl, hp⟩ := open_frame h2
      exact ⟨p, h1, hp.1, hp.2.1, hp.2.2.1⟩
    obtain ⟨l, rfl, hP⟩ := list_of _ len each
    refine ⟨some a, _, l, rfl, by omega, ?_, fun f hf => ?_⟩
    · by_cases h0 : l = []
      · exact .inl h0
      · right
        have hpos : 0 < l.length := List.length_pos_iff.2 h0
        have h1 := (hP 0 hpos).1
        rw [Nat.zero_mul, show a.add 0 = a by simp [Addr.add]] at h1
        obtain ⟨hs, hlt⟩ := cells_spot (by decide) h1
        obtain ⟨b, off, sp⟩ := a
        simp only at hs hlt
        subst hs
        refine ⟨b, off, rfl, hlt, fun i f hi => ?_⟩
        obtain ⟨hil, hpe⟩ := List.getElem?_eq_some_iff.1 hi
        have h2 := (hP i hil).1
        rw [hpe] at h2
        have := cells_at (a := ⟨b, off, none⟩) rfl h2
        exact ⟨by simpa using this 0 _ rfl, by simpa using this 1 _ rfl, by simpa using this 2 _ rfl, by simpa using this 3 _ rfl⟩
    · obtain ⟨i, hi, rfl⟩ := List.getElem_of_mem hf
      exact (hP i hi).2
end
section
variable {H : Type} {enc : TypeId × Value → H} {P : Program} {w : World} {base : Nat} {spare : Nat → Bool} {held : Bool}
theorem trodAll_five {t t' t'' t3 t4 : TypeId} {args : Array Value} {ds : List (DataW H)} {ps : List MemPlace} (h : DataW.TrodAll enc P w base spare held [t, t', t'', t3, t4] args.toList ds ps) :
    ∃ v v' v'' v3 v4 d d' d'' d3 d4 p p' p'' p3 p4, args = #[v, v', v'', v3, v4] ∧ ds = [d, d', d'', d3, d4] ∧ ps = p ++ p' ++ p'' ++ p3 ++ p4 ∧ DataW.Trod enc P w base spare held t v d p ∧ DataW.Trod enc P w base spare held t' v' d' p' ∧ DataW.Trod enc P w base spare held t'' v'' d'' p'' ∧ DataW.Trod enc P w base spare held t3 v3 d3 p3 ∧ DataW.Trod enc P w base spare held t4 v4 d4 p4 := by
  obtain ⟨v, vs, d, ds', p, q, hargs, rfl, rfl, hd, hrest⟩ := trodAll_cons h
  obtain ⟨v', vs', d', ds'', p', q', rfl, rfl, rfl, hd', hrest'⟩ := trodAll_cons hrest
  obtain ⟨v'', vs'', d'', ds''', p'', q'', rfl, rfl, rfl, hd'', hrest''⟩ := trodAll_cons hrest'
  obtain ⟨v3, vs3, d3, ds3, p3, q3, rfl, rfl, rfl, hd3, hrest3⟩ := trodAll_cons hrest''
  obtain ⟨v4, vs4, d4, ds4, p4, q4, rfl, rfl, rfl, hd4, hrest4⟩ := trodAll_cons hrest3
  obtain ⟨rfl, rfl, rfl⟩ := trodAll_nil hrest4
  exact ⟨v, v', v'', v3, v4, d, d', d'', d3, d4, p, p', p'', p3, p4, by cases args; simp_all, rfl, by simp, hd, hd', hd'', hd3, hd4⟩
theorem trodAll_mk5 {t t' t'' t3 t4 : TypeId} {v v' v'' v3 v4 : Value} {d d' d'' d3 d4 : DataW H} {p p' p'' p3 p4 : List MemPlace} (h : DataW.Trod enc P w base spare held t v d p) (h' : DataW.Trod enc P w base spare held t' v' d' p')
    (h'' : DataW.Trod enc P w base spare held t'' v'' d'' p'') (h3 : DataW.Trod enc P w base spare held t3 v3 d3 p3) (h4 : DataW.Trod enc P w base spare held t4 v4 d4 p4) : DataW.TrodAll enc P w base spare held [t, t', t'', t3, t4] [v, v', v'', v3, v4] [d, d', d'', d3, d4] (p ++ (p' ++ (p'' ++ (p3 ++ p4)))) := ⟨p, p' ++ (p'' ++ (p3 ++ p4)), h, trodAll_mk4 h' h'' h3 h4, rfl⟩
end
end Go.Proofs.YtnpcnflfpmjgiaaDoor
