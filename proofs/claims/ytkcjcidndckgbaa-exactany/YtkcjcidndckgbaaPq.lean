/- Lists of texts with things, by rising texts: plain facts. -/
import Derived.Test.YtkcjcidndckgbaaPl
namespace Go.Proofs.Ytkcjcidndckgbaa
set_option linter.unusedVariables false
set_option linter.unusedSimpArgs false
variable {V : Type}

/-- The order of texts, by bytes. -/
def blt (a b : ByteArray) : Bool := Op.bytesLess a.toList b.toList
theorem bless_eq : ∀ (x y : List UInt8), Op.bytesLess x y = decide (x < y)
  | [], [] => by simp [Op.bytesLess]
  | _ :: _, [] => by simp [Op.bytesLess]
  | [], _ :: _ => by simp [Op.bytesLess]
  | a :: x, b :: y => by
    rw [Op.bytesLess, bless_eq x y]
    simp only [List.cons_lt_cons_iff]
    by_cases h1 : a < b <;> by_cases h2 : a = b <;> by_cases h3 : x < y <;> simp [h1, h2, h3]
theorem blt_iff (a b : ByteArray) : blt a b = true ↔ a.toList < b.toList := by
  unfold blt; rw [bless_eq]; exact decide_eq_true_iff
theorem toList_inj {a b : ByteArray} (h : a.toList = b.toList) : a = b := by
  have h2 : a.data.toList = b.data.toList := by rw [← ByteArray.toList_eq, ← ByteArray.toList_eq, h]
  have h3 : a.data = b.data := Array.toList_inj.1 h2
  cases a; cases b; cases h3; rfl
theorem blt_irrefl (a : ByteArray) : blt a a = false := by
  have : ¬ blt a a = true := fun h => List.lt_irrefl _ ((blt_iff a a).1 h)
  simpa using this
theorem blt_trans {a b c : ByteArray} (h : blt a b = true) (k : blt b c = true) : blt a c = true :=
  (blt_iff a c).2 (List.lt_trans ((blt_iff a b).1 h) ((blt_iff b c).1 k))
theorem blt_tri {a b : ByteArray} (h : blt a b = false) (k : blt b a = false) : a = b := by
  have h1 : ¬ a.toList < b.toList := fun q => by rw [(blt_iff a b).2 q] at h; cases h
  have h2 : ¬ b.toList < a.toList := fun q => by rw [(blt_iff b a).2 q] at k; cases k
  exact toList_inj (List.le_antisymm (List.not_lt.1 h2) (List.not_lt.1 h1))
theorem blt_asymm {a b : ByteArray} (h : blt a b = true) : blt b a = false := by
  cases q : blt b a with
  | false => rfl
  | true => have := blt_trans h q; rw [blt_irrefl] at this; cases this
theorem blt_ne {a b : ByteArray} (h : blt a b = true) : a ≠ b := fun e => by subst e; rw [blt_irrefl] at h; cases h
/-- By rising texts. -/
def Srt (l : List (ByteArray × V)) : Prop := l.Pairwise fun x y => blt x.1 y.1 = true
theorem Srt.eq : ∀ {l m : List (ByteArray × V)}, Srt l → Srt m → l.Perm m → l = m
  | [], m, _, _, p => (List.Perm.eq_nil p.symm).symm
  | x :: l, [], _, _, p => absurd p.length_eq (by simp)
  | x :: l, y :: m, hl, hm, p => by
    have hl' := List.pairwise_cons.1 hl
    have hm' := List.pairwise_cons.1 hm
    have e : x = y := by
      have h1 : x ∈ y :: m := p.mem_iff.1 (by simp)
      have h2 : y ∈ x :: l := p.mem_iff.2 (by simp)
      rcases List.mem_cons.1 h1 with h1 | h1
      · exact h1
      · rcases List.mem_cons.1 h2 with h2 | h2
        · exact h2.symm
        · have a := hm'.1 x h1; have b := hl'.1 y h2; rw [blt_asymm a] at b; cases b
    subst e
    exact congrArg _ (Srt.eq hl'.2 hm'.2 (List.perm_cons x |>.1 p))
/-- The place of a text. -/
def plc (l : List (ByteArray × V)) (k : ByteArray) : Nat := l.findIdx fun x => !blt x.1 k
theorem plc_le (l : List (ByteArray × V)) (k : ByteArray) : plc l k ≤ l.length := List.findIdx_le_length
theorem plc_cons (x) (l : List (ByteArray × V)) (k : ByteArray) : plc (x :: l) k = if blt x.1 k then plc l k + 1 else 0 := by
  unfold plc; rw [List.findIdx_cons]; cases blt x.1 k <;> rfl
theorem plc_low {l : List (ByteArray × V)} {k : ByteArray} {i : Nat} (h : i < plc l k) {x} (hx : l[i]? = some x) : blt x.1 k = true := by
  have hi := (List.getElem?_eq_some_iff.1 hx)
  have := List.not_of_lt_findIdx h
  obtain ⟨hl, e⟩ := hi
  rw [e] at this
  cases q : blt x.1 k with
  | true => rfl
  | false => rw [q] at this; simp at this
theorem plc_at {l : List (ByteArray × V)} {k : ByteArray} {x} (hx : l[plc l k]? = some x) : blt x.1 k = false := by
  obtain ⟨hl, e⟩ := List.getElem?_eq_some_iff.1 hx
  have := List.findIdx_getElem (xs := l) (p := fun y : ByteArray × V => !blt y.1 k) (w := hl)
  have e' : l[List.findIdx (fun x => !blt x.1 k) l] = x := e
  rw [e'] at this
  cases q : blt x.1 k with
  | false => rfl
  | true => rw [q] at this; simp at this
/-- Whether a text is there. -/
def ishere (l : List (ByteArray × V)) (k : ByteArray) : Option V := match l[plc l k]? with | some x => if x.1 = k then some x.2 else none | none => none
theorem here_some {l : List (ByteArray × V)} (h : Srt l) {k : ByteArray} {v : V} (hm : (k, v) ∈ l) : l[plc l k]? = some (k, v) := by
  induction l with
  | nil => cases hm
  | cons x l ih =>
    have h' := List.pairwise_cons.1 h
    rw [plc_cons]
    rcases List.mem_cons.1 hm with e | hm
    · subst e; simp [blt_irrefl]
    · have := h'.1 _ hm
      simp only [this, if_true]
      rw [List.getElem?_cons_succ]; exact ih h'.2 hm
theorem ishere_some {l : List (ByteArray × V)} (h : Srt l) {k : ByteArray} {v : V} : ishere l k = some v ↔ (k, v) ∈ l := by
  constructor
  · intro e
    unfold ishere at e
    split at e
    · next x hx =>
      split at e
      · next e2 => injection e with e; subst e2; subst e; exact List.mem_of_getElem? hx
      · cases e
    · cases e
  · intro hm
    unfold ishere; rw [here_some h hm]; simp
theorem ishere_none {l : List (ByteArray × V)} (h : Srt l) {k : ByteArray} : ishere l k = none ↔ ∀ x ∈ l, x.1 ≠ k := by
  constructor
  · intro e x hx q
    subst q
    rw [(ishere_some h (k := x.1) (v := x.2)).2 hx] at e; cases e
  · intro hn
    cases q : ishere l k with
    | none => rfl
    | some v => exact absurd rfl (hn _ ((ishere_some h).1 q))
/-- One more. -/
def ins (l : List (ByteArray × V)) (x : ByteArray × V) : List (ByteArray × V) := l.take (plc l x.1) ++ x :: l.drop (plc l x.1)
theorem ins_perm (l : List (ByteArray × V)) (x) : (ins l x).Perm (x :: l) := by
  unfold ins
  have := List.perm_middle (a := x) (l₁ := l.take (plc l x.1)) (l₂ := l.drop (plc l x.1))
  rwa [List.take_append_drop] at this
theorem ins_cons (y) (l : List (ByteArray × V)) (x) : ins (y :: l) x = if blt y.1 x.1 then y :: ins l x else x :: y :: l := by
  unfold ins; rw [plc_cons]; cases blt y.1 x.1 <;> simp
theorem ins_srt {l : List (ByteArray × V)} (h : Srt l) {x} (hn : ∀ y ∈ l, y.1 ≠ x.1) : Srt (ins l x) := by
  induction l with
  | nil => exact List.pairwise_singleton _ _
  | cons y l ih =>
    have h' := List.pairwise_cons.1 h
    rw [ins_cons]
    cases q : blt y.1 x.1 with
    | true =>
      refine List.pairwise_cons.2 ⟨fun z hz => ?_, ih h'.2 (fun z hz => hn z (by simp [hz]))⟩
      rcases List.mem_cons.1 ((ins_perm l x).mem_iff.1 hz) with e | hz
      · subst e; exact q
      · exact h'.1 z hz
    | false =>
      have hx : blt x.1 y.1 = true := by
        cases r : blt x.1 y.1 with
        | true => rfl
        | false => exact absurd (blt_tri q r) (hn y (by simp))
      refine List.pairwise_cons.2 ⟨fun z hz => ?_, h⟩
      rcases List.mem_cons.1 hz with e | hz
      · subst e; exact hx
      · exact blt_trans hx (h'.1 z hz)
/-- One less. -/
def del (l : List (ByteArray × V)) (k : ByteArray) : List (ByteArray × V) := l.take (plc l k) ++ l.drop (plc l k + 1)
theorem del_perm {l : List (ByteArray × V)} (h : Srt l) {k : ByteArray} {v : V} (hm : (k, v) ∈ l) : l.Perm ((k, v) :: del l k) := by
  have e := here_some h hm
  obtain ⟨hl, e⟩ := List.getElem?_eq_some_iff.1 e
  unfold del
  have q : l = l.take (plc l k) ++ (k, v) :: l.drop (plc l k + 1) := by
    rw [← e, ← List.drop_eq_getElem_cons hl, List.take_append_drop]
  exact (List.Perm.of_eq q).trans List.perm_middle
theorem del_srt {l : List (ByteArray × V)} (h : Srt l) (k : ByteArray) : Srt (del l k) := by
  unfold del
  refine List.Pairwise.sublist ?_ h
  have := List.Sublist.append (List.Sublist.refl (l.take (plc l k))) (List.drop_sublist_drop_left l (Nat.le_succ (plc l k)))
  rwa [List.take_append_drop] at this
/-- Another thing. -/
theorem set_srt {l : List (ByteArray × V)} (h : Srt l) {k : ByteArray} {v u : V} (hm : (k, v) ∈ l) : Srt (l.set (plc l k) (k, u)) := by
  have e := here_some h hm
  have m : (l.set (plc l k) (k, u)).map (·.1) = l.map (·.1) := by
    rw [List.map_set]
    apply List.ext_getElem?
    intro j
    rw [List.getElem?_set]
    split
    · next q =>
      subst q
      rw [List.getElem?_map, e]; simp
      exact (List.getElem?_eq_some_iff.1 e).1
    · rfl
  have : ((l.set (plc l k) (k, u)).map (·.1)).Pairwise fun a b => blt a b = true := by
    rw [m]; exact List.pairwise_map.2 h
  exact List.pairwise_map.1 this
theorem set_perm {l : List (ByteArray × V)} (h : Srt l) {k : ByteArray} {v : V} (u : V) (hm : (k, v) ∈ l) : (l.set (plc l k) (k, u)).Perm ((k, u) :: del l k) := by
  have e := here_some h hm
  obtain ⟨hl, e⟩ := List.getElem?_eq_some_iff.1 e
  rw [List.set_eq_take_append_cons_drop, if_pos hl]
  exact List.perm_middle
end Go.Proofs.Ytkcjcidndckgbaa
