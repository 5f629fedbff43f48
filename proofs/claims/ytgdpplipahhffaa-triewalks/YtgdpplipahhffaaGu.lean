/- Plain: a node without its thing, or with a tree less. Plain: what a way down a tree meets, and what lies under a prefix. -/
import Derived.Test.YtgdpplipahhffaaTs
namespace Go.Proofs.Ytgdpplipahhffaa
open Go.RowKit
set_option linter.unusedVariables false
set_option linter.unusedSimpArgs false

/-- What stands in a node's place, if it is idle. -/
def idleR (th : Bool) (a0 a1 : Option Nat) (C : Nat) : Option Nat := if th || (a0.isSome && a1.isSome) then some C else if a0.isSome then a0 else a1
section
variable {V : Type} {nt vt : TypeId} {enc : V → Value} {W : Nat} {w : World} {n : Nat} {x : Nd V} {a0 a1 : Option Nat} {N0 N1 : List (Nd V)}
theorem Hang.some_ne {n a} {N : List (Nd V)} (h : Hang nt vt enc W w n a N) (ha : a.isSome = true) : N ≠ [] := fun e => by
  subst e
  rw [h.empty] at ha; cases ha
theorem Root.idle (h : Root nt vt enc W w n x a0 a1 N0 N1) : ∃ m M, Hang nt vt enc W w m (idleR x.th.isSome a0 a1 x.blk) M ∧ kept M = kept (x :: (N0 ++ N1)) := by
  unfold idleR
  cases hx : x.th with
  | some t => exact ⟨_, _, h.hang (fun e => by rw [hx] at e; cases e), rfl⟩
  | none =>
    have ho : ownK x = [] := by unfold ownK; rw [hx]
    cases e0 : a0 with
    | none =>
      subst e0
      have := h.h0.of_none
      subst this
      exact ⟨_, _, h.h1, by rw [kept_root, ho]; rfl⟩
    | some b =>
      subst e0
      cases e1 : a1 with
      | none =>
        subst e1
        have := h.h1.of_none
        subst this
        exact ⟨_, _, h.h0, by rw [kept_root, ho]; exact (List.append_nil _).symm⟩
      | some c =>
        subst e1
        exact ⟨_, _, h.hang (fun _ => ⟨h.h0.some_ne rfl, h.h1.some_ne rfl⟩), rfl⟩
theorem Root.less0 {w' : World} {C m : Nat} {b : Option Nat} {M : List (Nd V)} (h : Root nt vt enc W w n x a0 a1 N0 N1) (hb : Below w.heap.size w w') (hC : Blk w' C (nodeC W x b a1) nt) (hM : Hang nt vt enc W w' m b M) (hpre : ∀ y ∈ kept M, x.key ++ [false] <+: y.1) :
    Root nt vt enc W w' (max n m) ⟨C, x.key, x.th⟩ b a1 M N1 :=
  ⟨⟨hC, fun t v e => (h.node.thing t v e).below hb, h.node.len⟩, hM.ext hpre, h.pre1, hM.mono (Nat.le_max_right _ _), (h.h1.below hb).mono (Nat.le_max_left _ _)⟩
theorem Root.less1 {w' : World} {C m : Nat} {b : Option Nat} {M : List (Nd V)} (h : Root nt vt enc W w n x a0 a1 N0 N1) (hb : Below w.heap.size w w') (hC : Blk w' C (nodeC W x a0 b) nt) (hM : Hang nt vt enc W w' m b M) (hpre : ∀ y ∈ kept M, x.key ++ [true] <+: y.1) :
    Root nt vt enc W w' (max n m) ⟨C, x.key, x.th⟩ a0 b N0 M :=
  ⟨⟨hC, fun t v e => (h.node.thing t v e).below hb, h.node.len⟩, h.pre0, hM.ext hpre, (h.h0.below hb).mono (Nat.le_max_left _ _), hM.mono (Nat.le_max_right _ _)⟩
/-- What is taken out. -/
def DelN (nt vt : TypeId) (enc : V → Value) (W : Nat) (w w' : World) (p : List Bool) (L : List (List Bool × V)) (a : Option Nat) : Prop := (∃ n N, Hang nt vt enc W w' n a N ∧ kept N = del p L) ∧ Below w.heap.size w w'
theorem Root.delOwn {w' : World} {C : Nat} (h : Root nt vt enc W w n x a0 a1 N0 N1) (hb : Below w.heap.size w w') (hC : Blk w' C (nodeC W (⟨C, x.key, none⟩ : Nd V) a0 a1) nt) : DelN nt vt enc W w w' x.key (kept (x :: (N0 ++ N1))) (idleR false a0 a1 C) := by
  have hr : Root nt vt enc W w' n ⟨C, x.key, none⟩ a0 a1 N0 N1 := ⟨⟨hC, (fun t' v' e => by cases e), h.node.len⟩, h.pre0, h.pre1, h.h0.below hb, h.h1.below hb⟩
  obtain ⟨m, M, g1, g2⟩ := hr.idle
  exact ⟨⟨m, M, g1, by rw [g2, h.dwn, kept_root]; rfl⟩, hb⟩
theorem del_pre {c p : List Bool} {L : List (List Bool × V)} (h : ∀ y ∈ L, c <+: y.1) : ∀ y ∈ del p L, c <+: y.1 := fun y hy => h y ((mem_del y).1 hy).1
theorem Root.delSide0 {w' : World} {p : List Bool} {b : Option Nat} {C : Nat} (h : Root nt vt enc W w n x a0 a1 N0 N1) (hp : x.key ++ [false] <+: p) (hP : ∃ n N, Hang nt vt enc W w' n b N ∧ kept N = del p (kept N0)) (hb : Below w.heap.size w w') (hC : Blk w' C (nodeC W x b a1) nt) : DelN nt vt enc W w w' p (kept (x :: (N0 ++ N1))) (idleR x.th.isSome b a1 C) := by
  obtain ⟨m, M, h1, h2⟩ := hP
  have hpre : ∀ y ∈ kept M, x.key ++ [false] <+: y.1 := by rw [h2]; exact del_pre fun y hy => h.lt0 hy
  obtain ⟨k, K, g1, g2⟩ := (h.less0 hb hC h1 hpre).idle
  refine ⟨⟨k, K, g1, ?_⟩, hb⟩
  rw [g2, h.del0 hp, kept_root, h2]; rfl
theorem Root.delSide1 {w' : World} {p : List Bool} {b : Option Nat} {C : Nat} (h : Root nt vt enc W w n x a0 a1 N0 N1) (hp : x.key ++ [true] <+: p) (hP : ∃ n N, Hang nt vt enc W w' n b N ∧ kept N = del p (kept N1)) (hb : Below w.heap.size w w') (hC : Blk w' C (nodeC W x a0 b) nt) : DelN nt vt enc W w w' p (kept (x :: (N0 ++ N1))) (idleR x.th.isSome a0 b C) := by
  obtain ⟨m, M, h1, h2⟩ := hP
  have hpre : ∀ y ∈ kept M, x.key ++ [true] <+: y.1 := by rw [h2]; exact del_pre fun y hy => h.lt1 hy
  obtain ⟨k, K, g1, g2⟩ := (h.less1 hb hC h1 hpre).idle
  refine ⟨⟨k, K, g1, ?_⟩, hb⟩
  rw [g2, h.del1 hp, kept_root, h2]; rfl
theorem look_ne {p : List Bool} {L : List (List Bool × V)} (h : look p L ≠ none) : ∃ y ∈ L, y.1 = p := by
  cases e : look p L with
  | none => exact absurd e h
  | some v => exact ⟨_, look_some e, rfl⟩
theorem look_of {p : List Bool} {L : List (List Bool × V)} {y} (h : y ∈ L) (e : y.1 = p) : look p L ≠ none := fun h' => look_none.1 h' y h e
theorem Root.find_pre (h : Root nt vt enc W w n x a0 a1 N0 N1) {p : List Bool} (hl : look p (kept (x :: (N0 ++ N1))) ≠ none) : x.key <+: p ∧ (x.key ++ [false] <+: p → look p (kept N0) ≠ none) ∧ (x.key ++ [true] <+: p → look p (kept N1) ≠ none) := by
  obtain ⟨y, hy, rfl⟩ := look_ne hl
  rw [kept_root] at hy
  have no : ∀ {i j : Bool} {c q : List Bool}, c ++ [i] <+: q → c ++ [j] <+: q → i = j := fun h1 h2 => by
    have := (List.prefix_of_prefix_length_le h1 h2 (by simp)).eq_of_length (by simp)
    simpa using this
  have ow : ∀ {i : Bool} {c : List Bool}, ¬ c ++ [i] <+: c := fun h => by have := h.length_le; simp at this; omega
  rcases List.mem_append.1 hy with hy | hy
  · rw [own_key hy]
    exact ⟨List.prefix_refl _, fun e => absurd e ow, fun e => absurd e ow⟩
  · rcases List.mem_append.1 hy with hy | hy
    · exact ⟨(List.prefix_append _ _).trans (h.lt0 hy), fun _ => look_of hy rfl, fun e => by have := no e (h.lt0 hy); cases this⟩
    · exact ⟨(List.prefix_append _ _).trans (h.lt1 hy), fun e => by (have := no e (h.lt1 hy); cases this), fun _ => look_of hy rfl⟩
end
end Go.Proofs.Ytgdpplipahhffaa
namespace Go.Proofs.Ytgdpplipahhffaa
open Go.RowKit
set_option linter.unusedVariables false
set_option linter.unusedSimpArgs false

section
variable {V : Type} {nt vt : TypeId} {enc : V → Value} {W : Nat} {w : World} {n : Nat} {x : Nd V} {a0 a1 : Option Nat} {N0 N1 : List (Nd V)}
/-- The nodes whose prefixes begin p. -/
def wayN (p : List Bool) (N : List (Nd V)) : List (Nd V) := N.filter fun x => decide (x.key <+: p)
/-- The nodes whose prefixes p begins. -/
def undN (p : List Bool) (N : List (Nd V)) : List (Nd V) := N.filter fun x => decide (p <+: x.key)
theorem bit_of {c q : List Bool} {i : Bool} (h : c ++ [i] <+: q) : q[c.length]? = some i := by
  obtain ⟨s, rfl⟩ := h; simp
theorem way_off (h : Root nt vt enc W w n x a0 a1 N0 N1) {p : List Bool} (hx : ¬ x.key <+: p) : wayN p (x :: (N0 ++ N1)) = [] := by
  unfold wayN
  rw [List.filter_eq_nil_iff]
  intro y hy e
  have hk : x.key <+: y.key := by
    simp only [List.mem_cons, List.mem_append] at hy
    rcases hy with rfl | hy | hy
    · exact List.prefix_refl _
    · exact (List.prefix_append _ _).trans (h.pre0 y hy)
    · exact (List.prefix_append _ _).trans (h.pre1 y hy)
  exact hx (hk.trans (of_decide_eq_true e))
theorem way_on (h : Root nt vt enc W w n x a0 a1 N0 N1) {p : List Bool} (hx : x.key <+: p) : wayN p (x :: (N0 ++ N1)) = x :: wayN p (if p[x.key.length]?.getD false = true then N1 else N0) := by
  have none0 : p[x.key.length]? ≠ some false → wayN p N0 = [] := fun hn => by
    unfold wayN
    rw [List.filter_eq_nil_iff]
    intro y hy e
    exact hn (bit_of ((h.pre0 y hy).trans (of_decide_eq_true e)))
  have none1 : p[x.key.length]? ≠ some true → wayN p N1 = [] := fun hn => by
    unfold wayN
    rw [List.filter_eq_nil_iff]
    intro y hy e
    exact hn (bit_of ((h.pre1 y hy).trans (of_decide_eq_true e)))
  have e0 : wayN p (x :: (N0 ++ N1)) = x :: (wayN p N0 ++ wayN p N1) := by
    unfold wayN
    rw [List.filter_cons, if_pos (decide_eq_true hx), List.filter_append]
  rw [e0]
  cases hb : p[x.key.length]? with
  | none => rw [none0 (by rw [hb]; simp), none1 (by rw [hb]; simp)]; simp [none0 (by rw [hb]; simp)]
  | some i => cases i
              · rw [none1 (by rw [hb]; simp)]; simp
              · rw [none0 (by rw [hb]; simp)]; simp
theorem und_on (h : Root nt vt enc W w n x a0 a1 N0 N1) {p : List Bool} (hl : p.length ≤ x.key.length) : undN p (x :: (N0 ++ N1)) = if p <+: x.key then x :: (N0 ++ N1) else [] := by
  have hk : ∀ y ∈ x :: (N0 ++ N1), x.key <+: y.key := fun y hy => by
    simp only [List.mem_cons, List.mem_append] at hy
    rcases hy with rfl | hy | hy
    · exact List.prefix_refl _
    · exact (List.prefix_append _ _).trans (h.pre0 y hy)
    · exact (List.prefix_append _ _).trans (h.pre1 y hy)
  unfold undN
  split
  · rename_i hp
    rw [List.filter_eq_self]
    intro y hy
    exact decide_eq_true (hp.trans (hk y hy))
  · rename_i hp
    rw [List.filter_eq_nil_iff]
    intro y hy e
    exact hp (List.prefix_of_prefix_length_le (of_decide_eq_true e) (hk y hy) hl)
theorem und_off (h : Root nt vt enc W w n x a0 a1 N0 N1) {p : List Bool} (hl : x.key.length < p.length) : undN p (x :: (N0 ++ N1)) = undN p (if p[x.key.length]?.getD false = true then N1 else N0) := by
  obtain ⟨i, hi⟩ : ∃ i, p[x.key.length]? = some i := ⟨_, List.getElem?_eq_getElem hl⟩
  have same : ∀ {y : Nd V} {j : Bool}, x.key ++ [j] <+: y.key → p <+: y.key → j = i := fun h1 h2 => by
    have e1 := bit_of h1
    obtain ⟨s, hs⟩ := h2
    rw [← hs, List.getElem?_append_left hl, hi] at e1
    exact (Option.some.inj e1).symm
  have no0 : i ≠ false → undN p N0 = [] := fun hn => by
    unfold undN
    rw [List.filter_eq_nil_iff]
    intro y hy e
    exact hn (same (h.pre0 y hy) (of_decide_eq_true e)).symm
  have no1 : i ≠ true → undN p N1 = [] := fun hn => by
    unfold undN
    rw [List.filter_eq_nil_iff]
    intro y hy e
    exact hn (same (h.pre1 y hy) (of_decide_eq_true e)).symm
  have e0 : undN p (x :: (N0 ++ N1)) = undN p N0 ++ undN p N1 := by
    unfold undN
    rw [List.filter_cons, if_neg (by simp only [decide_eq_true_eq]; intro e; have := e.length_le; omega), List.filter_append]
  rw [e0, hi]
  cases i
  · rw [no1 (by simp)]; simp
  · rw [no0 (by simp)]; simp
theorem kept_filter (f : List Bool → Bool) : ∀ (N : List (Nd V)), kept (N.filter fun x => f x.key) = (kept N).filter fun y => f y.1
  | [] => rfl
  | x :: N => by
    have ih := kept_filter f N
    rw [List.filter_cons, kept, List.filter_append]
    have ho : (ownK x).filter (fun y => f y.1) = if f x.key = true then ownK x else [] := by
      unfold ownK
      cases x.th with
      | none => simp
      | some t => simp [List.filter_cons]
    split
    · rename_i h
      rw [kept, ih, ho, if_pos h]
    · rename_i h
      rw [ih, ho, if_neg h]; rfl
end
end Go.Proofs.Ytgdpplipahhffaa
