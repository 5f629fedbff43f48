/- Plain: what TrieOrders' loops keep. -/
import Derived.Test.YtgdpplipahhffaaAo
import Derived.Test.YtgdpplipahhffaaSq
namespace Go.Proofs.Ytgdpplipahhffaa
open Go.RowKit
set_option linter.unusedVariables false
set_option linter.unusedSimpArgs false

section
variable {V : Type} {W : Nat} {l others : List OpD} {X OT : V} {i c n : Nat} {o : OpD} {p : List Bool} {L Lt L2 L3 : List (List Bool × V)} {D : List (List Bool)}
/-- The operation's prefix. -/
def Val (W : Nat) (o : OpD) (p : List Bool) : Prop := p.length ≤ W ∧ o.a = valOf W p ∧ o.n = (p.length : Int)
theorem Val.inj {p q : List Bool} (h : Val W o p) (k : Val W o q) : p = q := val_inj h.1 k.1 (by have := h.2.2.symm.trans k.2.2; omega) (h.2.1.symm.trans k.2.1)
theorem val_no (h : isP W o.a o.n = false) (p : List Bool) : ¬ Val W o p := fun hv => by
  rw [hv.2.1, hv.2.2, isP_mk hv.1] at h; cases h
def PutB (W : Nat) (l : List OpD) (i : Nat) (p : List Bool) : Prop := ∃ j o, j < i ∧ l[j]? = some o ∧ Val W o p
theorem putB_succ (h : l[i]? = some o) (p : List Bool) : PutB W l (i + 1) p ↔ PutB W l i p ∨ Val W o p := by
  constructor
  · rintro ⟨j, o', hj, ho, hv⟩
    by_cases e : j = i
    · subst e
      rw [h] at ho; cases ho
      exact .inr hv
    · exact .inl ⟨j, o', by omega, ho, hv⟩
  · rintro (⟨j, o', hj, ho, hv⟩ | hv)
    · exact ⟨j, o', by omega, ho, hv⟩
    · exact ⟨i, o, by omega, h, hv⟩
theorem putB_zero (p : List Bool) : ¬ PutB W l 0 p := fun ⟨j, _, hj, _⟩ => by omega
def S1 (W : Nat) (l : List OpD) (X : V) (i : Nat) (L : List (List Bool × V)) : Prop := Srt L ∧ L.length ≤ i ∧ ∀ y, y ∈ L ↔ (y.2 = X ∧ PutB W l i y.1)
theorem s1_start : S1 W l X 0 [] := ⟨List.Pairwise.nil, Nat.le_refl _, fun y => ⟨fun h => (nomatch h), fun h => absurd h.2 (putB_zero _)⟩⟩
theorem s1_bad (h : S1 W l X i L) (ho : l[i]? = some o) (hb : ∀ p, ¬ Val W o p) : S1 W l X (i + 1) L :=
  ⟨h.1, by have := h.2.1; omega, fun y => by rw [h.2.2 y, putB_succ ho]; exact ⟨fun g => ⟨g.1, .inl g.2⟩, fun g => ⟨g.1, g.2.resolve_right (hb _)⟩⟩⟩
theorem s1_in (h : S1 W l X i L) (hl : look p L ≠ none) : PutB W l i p := by
  cases hp : look p L with
  | none => exact absurd hp hl
  | some v => exact ((h.2.2 _).1 (look_some hp)).2
theorem s1_out (h : S1 W l X i L) (hl : look p L = none) : ¬ PutB W l i p := fun hp => look_none.1 hl _ ((h.2.2 (p, X)).2 ⟨rfl, hp⟩) rfl
theorem s1_dup (h : S1 W l X i L) (ho : l[i]? = some o) (hv : Val W o p) (hl : look p L ≠ none) : S1 W l X (i + 1) L :=
  ⟨h.1, by have := h.2.1; omega, fun y => by
    rw [h.2.2 y, putB_succ ho]
    exact ⟨fun g => ⟨g.1, .inl g.2⟩, fun g => ⟨g.1, g.2.elim id fun g => by rw [g.inj hv]; exact s1_in h hl⟩⟩⟩
theorem s1_new (h : S1 W l X i L) (ho : l[i]? = some o) (hv : Val W o p) (hl : look p L = none) : S1 W l X (i + 1) (upd p X L) :=
  ⟨srt_upd h.1, by rw [len_upd h.1, hl]; have := h.2.1; simp; omega, fun y => by
    rw [mem_upd h.1, putB_succ ho, h.2.2 y]
    constructor
    · rintro (rfl | ⟨g, _⟩)
      · exact ⟨rfl, .inr hv⟩
      · exact ⟨g.1, .inl g.2⟩
    · rintro ⟨g1, g2 | g2⟩
      · by_cases e : y.1 = p
        · exact absurd (e ▸ g2) (s1_out h hl)
        · exact .inr ⟨⟨g1, g2⟩, e⟩
      · left
        have := g2.inj hv
        rw [← this, ← g1]⟩
def S2 (W : Nat) (others : List OpD) (OT : V) (Lt : List (List Bool × V)) (i : Nat) (L : List (List Bool × V)) (D : List (List Bool)) : Prop :=
  S1 W others OT i L ∧ D.Nodup ∧ D.length ≤ i ∧ (∀ p, p ∈ D ↔ (PutB W others i p ∧ look p Lt = none)) ∧ ∀ p ∈ D, p.length ≤ W
theorem s2_start : S2 W others OT Lt 0 [] [] := ⟨s1_start, List.nodup_nil, Nat.le_refl _, fun p => ⟨fun h => (nomatch h), fun h => absurd h.1 (putB_zero _)⟩, fun p h => (nomatch h)⟩
theorem s2_bad (h : S2 W others OT Lt i L D) (ho : others[i]? = some o) (hb : ∀ p, ¬ Val W o p) : S2 W others OT Lt (i + 1) L D :=
  ⟨s1_bad h.1 ho hb, h.2.1, by have := h.2.2.1; omega, fun q => by rw [h.2.2.2.1 q, putB_succ ho]; exact ⟨fun g => ⟨.inl g.1, g.2⟩, fun g => ⟨g.1.resolve_right (hb _), g.2⟩⟩, h.2.2.2.2⟩
theorem s2_dup (h : S2 W others OT Lt i L D) (ho : others[i]? = some o) (hv : Val W o p) (hl : look p L ≠ none) : S2 W others OT Lt (i + 1) L D :=
  ⟨s1_dup h.1 ho hv hl, h.2.1, by have := h.2.2.1; omega, fun q => by
    rw [h.2.2.2.1 q, putB_succ ho]
    exact ⟨fun g => ⟨.inl g.1, g.2⟩, fun g => ⟨g.1.elim id fun g => by rw [g.inj hv]; exact s1_in h.1 hl, g.2⟩⟩, h.2.2.2.2⟩
theorem s2_in (h : S2 W others OT Lt i L D) (ho : others[i]? = some o) (hv : Val W o p) (hl : look p L = none) (ht : look p Lt ≠ none) : S2 W others OT Lt (i + 1) (upd p OT L) D :=
  ⟨s1_new h.1 ho hv hl, h.2.1, by have := h.2.2.1; omega, fun q => by
    rw [h.2.2.2.1 q, putB_succ ho]
    exact ⟨fun g => ⟨.inl g.1, g.2⟩, fun g => ⟨g.1.elim id fun g1 => absurd g.2 (by rw [g1.inj hv]; exact ht), g.2⟩⟩, h.2.2.2.2⟩
theorem s2_out (h : S2 W others OT Lt i L D) (ho : others[i]? = some o) (hv : Val W o p) (hl : look p L = none) (ht : look p Lt = none) : S2 W others OT Lt (i + 1) (upd p OT L) (D ++ [p]) :=
  ⟨s1_new h.1 ho hv hl, by
    rw [List.nodup_append]
    refine ⟨h.2.1, by simp, fun a ha b hb e => ?_⟩
    rw [List.mem_singleton.1 hb] at e
    rw [e] at ha
    exact s1_out h.1 hl ((h.2.2.2.1 p).1 ha).1, by have := h.2.2.1; simp; omega, fun q => by
    rw [List.mem_append, h.2.2.2.1 q, putB_succ ho, List.mem_singleton]
    constructor
    · rintro (g | rfl)
      · exact ⟨.inl g.1, g.2⟩
      · exact ⟨.inr hv, ht⟩
    · rintro ⟨g1 | g1, g2⟩
      · exact .inl ⟨g1, g2⟩
      · exact .inr (g1.inj hv), fun q hq => by
    rcases List.mem_append.1 hq with hq | hq
    · exact h.2.2.2.2 q hq
    · rw [List.mem_singleton.1 hq]; exact hv.1⟩
def RestB (W : Nat) (l : List OpD) (n c : Nat) (p : List Bool) : Prop := ∃ j o, c ≤ j ∧ j < n ∧ l[j]? = some o ∧ Val W o p
theorem rest_succ (h : l[c]? = some o) (hc : c < n) (p : List Bool) : RestB W l n c p ↔ RestB W l n (c + 1) p ∨ Val W o p := by
  constructor
  · rintro ⟨j, o', hj, hn, ho, hv⟩
    by_cases e : j = c
    · subst e
      rw [h] at ho; cases ho
      exact .inr hv
    · exact .inl ⟨j, o', by omega, hn, ho, hv⟩
  · rintro (⟨j, o', hj, hn, ho, hv⟩ | hv)
    · exact ⟨j, o', by omega, hn, ho, hv⟩
    · exact ⟨c, o, Nat.le_refl _, hc, h, hv⟩
def S3 (W : Nat) (l : List OpD) (n : Nat) (X OT : V) (O : List Bool → Prop) (c : Nat) (L : List (List Bool × V)) : Prop :=
  Srt L ∧ L.length + c ≤ 1000 + n ∧ ∀ y, y ∈ L ↔ (y.2 = X ∧ RestB W l n c y.1) ∨ (y.2 = OT ∧ O y.1 ∧ ¬ RestB W l n c y.1)
theorem s3_start {no : Nat} (h : S2 W others OT Lt no L D) (hno : no ≤ 1000) : S3 W l n X OT (PutB W others no) n L :=
  ⟨h.1.1, by have := h.1.2.1; omega, fun y => by
    have hr : ¬ RestB W l n n y.1 := fun ⟨j, _, h1, h2, _⟩ => by omega
    rw [h.1.2.2 y]
    exact ⟨fun g => .inr ⟨g.1, g.2, hr⟩, fun g => g.elim (fun g => absurd g.2 hr) fun g => ⟨g.1, g.2.1⟩⟩⟩
theorem s3_bad {O : List Bool → Prop} (h : S3 W l n X OT O (c + 1) L) (ho : l[c]? = some o) (hc : c < n) (hb : ∀ p, ¬ Val W o p) : S3 W l n X OT O c L :=
  ⟨h.1, by have := h.2.1; omega, fun y => by
    have e : RestB W l n c y.1 ↔ RestB W l n (c + 1) y.1 := by rw [rest_succ ho hc]; exact ⟨fun g => g.resolve_right (hb _), .inl⟩
    rw [h.2.2 y, e]⟩
theorem s3_put {O : List Bool → Prop} (h : S3 W l n X OT O (c + 1) L) (ho : l[c]? = some o) (hc : c < n) (hv : Val W o p) : S3 W l n X OT O c (upd p X L) :=
  ⟨srt_upd h.1, by
    rw [len_upd h.1]
    have := h.2.1
    split <;> omega, fun y => by
    have e : RestB W l n c y.1 ↔ RestB W l n (c + 1) y.1 ∨ y.1 = p := by
      rw [rest_succ ho hc]
      exact ⟨fun g => g.imp id fun g => g.inj hv, fun g => g.imp id fun g => by rw [g]; exact hv⟩
    rw [mem_upd h.1, h.2.2 y, e]
    constructor
    · rintro (rfl | ⟨g | g, hne⟩)
      · exact .inl ⟨rfl, .inr rfl⟩
      · exact .inl ⟨g.1, .inl g.2⟩
      · exact .inr ⟨g.1, g.2.1, fun g' => g'.elim g.2.2 hne⟩
    · rintro (⟨g1, g2⟩ | ⟨g1, g2, g3⟩)
      · by_cases e2 : y.1 = p
        · left; rw [← e2, ← g1]
        · exact .inr ⟨.inl ⟨g1, g2.resolve_right e2⟩, e2⟩
      · exact .inr ⟨.inr ⟨g1, g2, fun g => g3 (.inl g)⟩, fun g => g3 (.inr g)⟩⟩
def S4 (L3 : List (List Bool × V)) (D : List (List Bool)) (i : Nat) (L : List (List Bool × V)) : Prop := L = L3.filter fun y => decide (y.1 ∉ D.take i)
theorem s4_start : S4 L3 D 0 L3 := by
  unfold S4
  rw [List.filter_eq_self.2]
  intro y _; simp
theorem s4_step (h : S4 L3 D i L) (hp : D[i]? = some p) : S4 L3 D (i + 1) (del p L) := by
  unfold S4 at *
  rw [h]
  unfold del
  rw [List.filter_filter]
  congr 1
  funext y
  rw [List.take_add_one, hp]
  by_cases e : y.1 = p <;> simp [e]
theorem s4_look (h : S4 L3 D i L) (hs : Srt L3) (hd : D.Nodup) (hp : D[i]? = some p) (hm : (p, OT) ∈ L3) : look p L = some OT := by
  unfold S4 at h
  have hsL : Srt L := by rw [h]; exact hs.filter _
  refine look_mem hsL ?_
  rw [h, List.mem_filter]
  refine ⟨hm, decide_eq_true fun hin => ?_⟩
  obtain ⟨j, hj, e⟩ := List.mem_iff_getElem?.1 hin |>.imp fun j h => (⟨(by
    have := (List.getElem?_eq_some_iff.1 h).1
    simp at this
    omega : j < i), by
      rw [List.getElem?_take] at h
      split at h
      · exact h
      · cases h⟩ : j < i ∧ D[j]? = some p)
  obtain ⟨h1a, h1b⟩ := List.getElem?_eq_some_iff.1 hp
  obtain ⟨h2a, h2b⟩ := List.getElem?_eq_some_iff.1 e
  exact (List.pairwise_iff_getElem.1 hd) j i h2a h1a hj (h2b.trans h1b.symm)
theorem s4_end {no : Nat} (h4 : S4 L3 D D.length L) (h3 : S3 W l n X OT (PutB W others no) 0 L3) (h2 : S2 W others OT Lt no L2 D) (h1 : S1 W l X n Lt) : L = Lt := by
  unfold S4 at h4
  rw [List.take_length] at h4
  refine srt_ext (by rw [h4]; exact h3.1.filter _) h1.1 fun y => ?_
  have e : RestB W l n 0 y.1 ↔ PutB W l n y.1 := ⟨fun ⟨j, o, _, a, b, c⟩ => ⟨j, o, a, b, c⟩, fun ⟨j, o, a, b, c⟩ => ⟨j, o, Nat.zero_le _, a, b, c⟩⟩
  rw [h4, List.mem_filter, h3.2.2 y, h1.2.2 y, e]
  have hD := h2.2.2.2.1 y.1
  have hlk : look y.1 Lt = none ↔ ¬ PutB W l n y.1 := ⟨s1_out h1, fun g => by
    cases hc : look y.1 Lt with
    | none => rfl
    | some v => exact absurd (s1_in h1 (by rw [hc]; simp)) g⟩
  constructor
  · rintro ⟨g | g, hn⟩
    · exact g
    · exact absurd (hD.2 ⟨g.2.1, hlk.2 g.2.2⟩) (of_decide_eq_true hn)
  · intro g
    refine ⟨.inl g, decide_eq_true fun hin => ?_⟩
    exact hlk.1 (hD.1 hin).2 g.2
theorem s3_has {no : Nat} (h3 : S3 W l n X OT (PutB W others no) 0 L3) (h2 : S2 W others OT Lt no L2 D) (h1 : S1 W l X n Lt) (hp : p ∈ D) : (p, OT) ∈ L3 := by
  obtain ⟨g1, g2⟩ := (h2.2.2.2.1 p).1 hp
  refine (h3.2.2 _).2 (.inr ⟨rfl, g1, fun ⟨j, o, _, a, b, c⟩ => s1_out h1 g2 ⟨j, o, a, b, c⟩⟩)
end
end Go.Proofs.Ytgdpplipahhffaa
