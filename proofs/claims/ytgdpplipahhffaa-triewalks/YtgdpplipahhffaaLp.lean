/- Plain: what begins a number, as things are put. -/
import Derived.Test.YtgdpplipahhffaaGu
namespace Go.Proofs.Ytgdpplipahhffaa
open Go.RowKit
set_option linter.unusedVariables false
set_option linter.unusedSimpArgs false

section
variable {V : Type}
theorem filter_upd {p : List Bool} {v : V} {L : List (List Bool × V)} (hs : Srt L) (hn : look p L = none) (f : List Bool → Bool) :
    (upd p v L).filter (fun y => f y.1) = if f p = true then upd p v (L.filter fun y => f y.1) else L.filter fun y => f y.1 := by
  have hs2 : Srt (L.filter fun y => f y.1) := hs.filter _
  have hno := look_none.1 hn
  split
  · rename_i h
    refine srt_ext ((srt_upd hs).filter _) (srt_upd hs2) fun y => ?_
    rw [List.mem_filter, mem_upd hs, mem_upd hs2, List.mem_filter]
    constructor
    · rintro ⟨rfl | ⟨h1, h2⟩, h3⟩
      · exact .inl rfl
      · exact .inr ⟨⟨h1, h3⟩, h2⟩
    · rintro (rfl | ⟨⟨h1, h3⟩, h2⟩)
      · exact ⟨.inl rfl, h⟩
      · exact ⟨.inr ⟨h1, h2⟩, h3⟩
  · rename_i h
    refine srt_ext ((srt_upd hs).filter _) hs2 fun y => ?_
    rw [List.mem_filter, mem_upd hs, List.mem_filter]
    constructor
    · rintro ⟨rfl | ⟨h1, h2⟩, h3⟩
      · exact absurd h3 h
      · exact ⟨h1, h3⟩
    · rintro ⟨h1, h3⟩
      exact ⟨.inr ⟨h1, hno y h1⟩, h3⟩
theorem srt_last {L : List (List Bool × V)} (hs : Srt L) {y : List Bool × V} (hy : y ∈ L) (h : ∀ z ∈ L, z = y ∨ klt z.1 y.1 = true) : L.getLast? = some y := by
  cases hl : L.getLast? with
  | none => rw [List.getLast?_eq_none_iff] at hl; rw [hl] at hy; cases hy
  | some x =>
    have hx := List.mem_of_getLast? hl
    rcases h x hx with rfl | hk
    · rfl
    · exfalso
      have hne : L ≠ [] := List.ne_nil_of_mem hy
      have e := List.dropLast_concat_getLast hne
      rw [List.getLast?_eq_some_getLast hne] at hl
      have hl := Option.some.inj hl
      rw [hl] at e
      rw [← e] at hy hs
      rw [List.mem_append, List.mem_singleton] at hy
      rcases hy with hy | rfl
      · have := (List.pairwise_append.1 hs).2.2 y hy x (by simp)
        rw [klt_asymm this] at hk; cases hk
      · rw [klt_irrefl] at hk; cases hk
theorem last_srt {L : List (List Bool × V)} (hs : Srt L) {y : List Bool × V} (h : L.getLast? = some y) : ∀ z ∈ L, z = y ∨ klt z.1 y.1 = true := by
  intro z hz
  have hne : L ≠ [] := List.ne_nil_of_mem hz
  have e := List.dropLast_concat_getLast hne
  rw [List.getLast?_eq_some_getLast hne] at h
  rw [Option.some.inj h] at e
  rw [← e] at hz hs
  rw [List.mem_append, List.mem_singleton] at hz
  rcases hz with hz | rfl
  · exact .inr ((List.pairwise_append.1 hs).2.2 z hz y (by simp))
  · exact .inl rfl
theorem chain_lt {bs a b : List Bool} (ha : a <+: bs) (hb : b <+: bs) (h : a.length < b.length) : klt a b = true :=
  klt_pre (List.prefix_of_prefix_length_le ha hb (by omega)) (fun e => by rw [e] at h; omega)
theorem chain_of {bs a b : List Bool} (ha : a <+: bs) (hb : b <+: bs) (h : klt a b = true) : a.length < b.length := by
  rcases Nat.lt_trichotomy a.length b.length with h1 | h1 | h1
  · exact h1
  · have e := List.IsPrefix.eq_of_length (List.prefix_of_prefix_length_le ha hb (by omega)) h1
    rw [e, klt_irrefl] at h; cases h
  · have := chain_lt hb ha h1
    rw [klt_asymm this] at h; cases h
/-- A chain's longest, as one is put that was not there. -/
theorem chain_last {bs p : List Bool} {v : V} {L : List (List Bool × V)} (hs : Srt L) (hc : ∀ y ∈ L, y.1 <+: bs) (hp : p <+: bs) (hn : ∀ y ∈ L, y.1 ≠ p) :
    (upd p v L).getLast? = match L.getLast? with
      | none => some (p, v)
      | some y => if y.1.length < p.length then some (p, v) else some y := by
  cases hl : L.getLast? with
  | none =>
    rw [List.getLast?_eq_none_iff] at hl
    subst hl; rfl
  | some y =>
    have hy := List.mem_of_getLast? hl
    have hm := last_srt hs hl
    show _ = if y.1.length < p.length then some (p, v) else some y
    split
    · rename_i h
      refine srt_last (srt_upd hs) ((mem_upd hs _).2 (.inl rfl)) fun z hz => ?_
      rcases (mem_upd hs z).1 hz with rfl | ⟨h1, _⟩
      · exact .inl rfl
      · right
        rcases hm z h1 with rfl | h2
        · exact chain_lt (hc _ h1) hp h
        · exact klt_trans h2 (chain_lt (hc _ hy) hp h)
    · rename_i h
      have hne : y.1.length ≠ p.length := fun e => hn y hy (List.IsPrefix.eq_of_length (List.prefix_of_prefix_length_le (hc _ hy) hp (by omega)) e)
      refine srt_last (srt_upd hs) ((mem_upd hs _).2 (.inr ⟨hy, hn y hy⟩)) fun z hz => ?_
      rcases (mem_upd hs z).1 hz with rfl | ⟨h1, _⟩
      · exact .inr (chain_lt hp (hc _ hy) (by show p.length < _; omega))
      · exact hm z h1
/-- What is longest, and what is kept under it. -/
def bestOf : Option (List Bool × Int) → Int × Int
  | none => (-1, 0)
  | some y => (y.1.length, y.2)
theorem best_put {bs p : List Bool} {v : Int} {L : List (List Bool × Int)} (hs : Srt L) (hc : ∀ y ∈ L, y.1 <+: bs) (hp : p <+: bs) (hn : ∀ y ∈ L, y.1 ≠ p) :
    bestOf (upd p v L).getLast? = if (bestOf L.getLast?).1 < p.length then ((p.length : Int), v) else bestOf L.getLast? := by
  rw [chain_last hs hc hp hn]
  cases h : L.getLast? with
  | none => show ((p.length : Int), v) = _; rw [if_pos (by show (-1 : Int) < _; omega)]
  | some y =>
    show bestOf (if y.1.length < p.length then some (p, v) else some y) = if (y.1.length : Int) < p.length then _ else _
    by_cases h : y.1.length < p.length
    · rw [if_pos h, if_pos (by omega)]; rfl
    · rw [if_neg h, if_neg (by omega)]
theorem chain_up {bs : List Bool} {L : List (List Bool × V)} (hs : Srt L) (hc : ∀ y ∈ L, y.1 <+: bs) (i : Nat) {a b : List Bool × V} (ha : L[i]? = some a) (hb : L[i + 1]? = some b) : a.1.length < b.1.length := by
  have h1 := (List.getElem?_eq_some_iff.1 ha)
  have h2 := (List.getElem?_eq_some_iff.1 hb)
  obtain ⟨l1, e1⟩ := h1
  obtain ⟨l2, e2⟩ := h2
  have := List.pairwise_iff_getElem.1 hs i (i + 1) l1 l2 (by omega)
  rw [e1, e2] at this
  exact chain_of (hc _ (List.mem_of_getElem? ha)) (hc _ (List.mem_of_getElem? hb)) this
end
end Go.Proofs.Ytgdpplipahhffaa
