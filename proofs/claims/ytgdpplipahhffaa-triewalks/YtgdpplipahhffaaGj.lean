/- A region that draws its order, in which calls answer what hangs on when they are made: each operation is told by itself, over a frame whose slots hold anything that the operations may have left. The same, for calls that are not fenced; what a slot holds. play: Under. -/
import Derived.Test.YtgdpplipahhffaaGt
import Derived.Test.YtgdpplipahhffaaGk
import Derived.Test.YtgdpplipahhffaaVd
namespace Go.Proofs.Ytgdpplipahhffaa
open Go.RowKit
set_option linter.unusedVariables false
set_option linter.unusedSimpArgs false

/-- The frame with what the operations left. -/
def putAll (a0 : Act) (u : Nat → Value) : Nat → List Oper → Act
  | _, [] => a0
  | k, o :: l => (putAll a0 u (k + 1) l).put o.dst (u k)
/-- Which operation leaves something in a slot. -/
def posD (d : Nat) : List Oper → Option Nat
  | [] => none
  | o :: l => if o.dst = some d then some 0 else (posD d l).map (· + 1)
theorem posD_some {d : Nat} : ∀ {l : List Oper} {j : Nat}, posD d l = some j → ∃ o, l[j]? = some o ∧ o.dst = some d
  | [], j, h => by cases h
  | o :: l, j, h => by
    unfold posD at h
    split at h
    · rename_i hd; cases h; exact ⟨o, rfl, hd⟩
    · cases hp : posD d l with
      | none => rw [hp] at h; cases h
      | some m =>
        rw [hp] at h
        simp only [Option.map_some, Option.some.injEq] at h
        subst h
        exact posD_some (l := l) hp
theorem posD_none {d : Nat} : ∀ {l : List Oper}, posD d l = none → ∀ (j : Nat) (o : Oper), l[j]? = some o → o.dst ≠ some d
  | [], _, j, o, ho => by simp at ho
  | o :: l, h, j, o', ho => by
    unfold posD at h
    split at h
    · cases h
    · rename_i hd
      cases j with
      | zero => simp at ho; subst ho; exact hd
      | succ j => exact posD_none (l := l) (by simpa using h) j o' (by simpa using ho)
theorem putAll_size (a0 : Act) (u : Nat → Value) : ∀ (l : List Oper) (k : Nat), (putAll a0 u k l).tmps.size = a0.tmps.size
  | [], _ => rfl
  | o :: l, k => by
    unfold putAll Act.put
    split <;> simp [putAll_size a0 u l (k + 1)]
theorem putAll_defers (a0 : Act) (u : Nat → Value) : ∀ (l : List Oper) (k : Nat), (putAll a0 u k l).defers = a0.defers
  | [], _ => rfl
  | o :: l, k => by
    unfold putAll Act.put
    split <;> simp [putAll_defers a0 u l (k + 1)]
theorem putAll_get (a0 : Act) (u : Nat → Value) (d : Nat) : ∀ (l : List Oper) (k : Nat), (putAll a0 u k l).tmps[d]? = match posD d l with | none => a0.tmps[d]? | some j => if d < a0.tmps.size then some (u (k + j)) else none
  | [], _ => rfl
  | o :: l, k => by
    have ih := putAll_get a0 u d l (k + 1)
    have hs := putAll_size a0 u l (k + 1)
    unfold putAll posD Act.put
    cases hd : o.dst with
    | none =>
      simp only [reduceCtorEq, if_false]
      rw [ih]
      cases posD d l with
      | none => rfl
      | some j => simp only [Option.map_some]; rw [show k + 1 + j = k + (j + 1) by omega]
    | some c =>
      simp only [Option.some.injEq]
      by_cases e : c = d
      · subst e
        rw [if_pos rfl, Array.getElem?_setIfInBounds, if_pos rfl, hs]
        simp only [Nat.add_zero]
      · rw [if_neg e, Array.getElem?_setIfInBounds, if_neg e, ih]
        cases posD d l with
        | none => rfl
        | some j => simp only [Option.map_some]; rw [show k + 1 + j = k + (j + 1) by omega]
def dstB (l : List Oper) : Bool := decide ((l.filterMap (·.dst)).Nodup)
theorem dst_one : ∀ {l : List Oper}, (l.filterMap (·.dst)).Nodup → ∀ {i j : Nat} {oi oj : Oper} {d : Nat}, l[i]? = some oi → l[j]? = some oj → oi.dst = some d → oj.dst = some d → i = j
  | [], _, i, j, oi, oj, d, h1, _, _, _ => by simp at h1
  | o :: l, hn, i, j, oi, oj, d, h1, h2, h3, h4 => by
    have mem : ∀ {m : Nat} {om : Oper}, l[m]? = some om → om.dst = some d → d ∈ l.filterMap (·.dst) := fun {m om} h h' => List.mem_filterMap.2 ⟨om, List.mem_of_getElem? h, h'⟩
    rw [List.filterMap_cons] at hn
    have hn' : (l.filterMap (·.dst)).Nodup ∧ (o.dst = some d → d ∉ l.filterMap (·.dst)) := by
      cases ho : o.dst with
      | none => rw [ho] at hn; exact ⟨hn, fun e => by cases e⟩
      | some c =>
        rw [ho] at hn
        obtain ⟨k1, k2⟩ := List.nodup_cons.1 hn
        exact ⟨k2, fun e => by cases e; exact k1⟩
    cases i with
    | zero =>
      simp at h1; subst h1
      cases j with
      | zero => rfl
      | succ j => exact absurd (mem (by simpa using h2) h4) (hn'.2 h3)
    | succ i =>
      cases j with
      | zero =>
        simp at h2; subst h2
        exact absurd (mem (by simpa using h1) h3) (hn'.2 h4)
      | succ j => exact congrArg (· + 1) (dst_one hn'.1 (by simpa using h1) (by simpa using h2) h3 h4)
def setU (u : Nat → Value) (i : Nat) (v : Value) : Nat → Value := fun j => if j = i then v else u j
theorem act_ext {a b : Act} (h1 : a.defers = b.defers) (h2 : ∀ d : Nat, a.tmps[d]? = b.tmps[d]?) : a = b := by
  obtain ⟨t1, d1⟩ := a
  obtain ⟨t2, d2⟩ := b
  have : t1 = t2 := Array.ext_getElem? h2
  cases this; cases h1; rfl
theorem putAll_put {a0 : Act} {u : Nat → Value} {l : List Oper} (hn : (l.filterMap (·.dst)).Nodup) {i : Nat} {o : Oper} (ho : l[i]? = some o) (v : Value) : (putAll a0 u 0 l).put o.dst v = putAll a0 (setU u i v) 0 l := by
  apply act_ext
  · rw [putAll_defers]
    unfold Act.put
    split <;> simp [putAll_defers]
  · intro d
    rw [putAll_get a0 (setU u i v) d l 0]
    have hg := putAll_get a0 u d l 0
    unfold Act.put
    cases hd : o.dst with
    | none =>
      simp only
      rw [hg]
      cases hp : posD d l with
      | none => rfl
      | some j =>
        obtain ⟨o', h1, h2⟩ := posD_some hp
        simp only [Nat.zero_add]
        have : j ≠ i := fun e => by subst e; rw [ho] at h1; cases h1; rw [hd] at h2; cases h2
        unfold setU; rw [if_neg this]
    | some c =>
      simp only
      rw [Array.getElem?_setIfInBounds, putAll_size, hg]
      by_cases e : c = d
      · subst e
        rw [if_pos rfl]
        cases hp : posD c l with
        | none => exact absurd hd (posD_none hp i o ho)
        | some j =>
          obtain ⟨o', h1, h2⟩ := posD_some hp
          have := dst_one hn h1 ho h2 hd
          simp only [Nat.zero_add]
          unfold setU; rw [if_pos this]
      · rw [if_neg e]
        cases hp : posD d l with
        | none => rfl
        | some j =>
          obtain ⟨o', h1, h2⟩ := posD_some hp
          simp only [Nat.zero_add]
          have : j ≠ i := fun e' => by subst e'; rw [ho] at h1; cases h1; rw [hd] at h2; cases h2; exact e rfl
          unfold setU; rw [if_neg this]
theorem putAll_self (a0 : Act) (l : List Oper) : ∃ u, putAll a0 u 0 l = a0 := by
  refine ⟨fun j => ((l[j]?).bind (·.dst)).elim undef (fun d => a0.tmps.getD d undef), act_ext (putAll_defers _ _ _ _) fun d => ?_⟩
  rw [putAll_get]
  cases hp : posD d l with
  | none => rfl
  | some j =>
    obtain ⟨o, h1, h2⟩ := posD_some hp
    simp only [Nat.zero_add, h1, Option.bind_some, h2, Option.elim]
    by_cases hd : d < a0.tmps.size
    · rw [if_pos hd]; simp [Array.getD, hd]
    · rw [if_neg hd]; simp [hd]
def depB (o : Oper) (j : Nat) : Bool := o.after.any fun e => Region.binds .any e && e.on == j
def aheadB : Nat → List Oper → Bool
  | _, [] => true
  | k, o :: l => o.guard.isNone && (o.after.all fun e => !Region.binds .any e || decide (e.on < k)) && aheadB (k + 1) l
theorem ahead_of : ∀ {l : List Oper} {k : Nat}, aheadB k l = true → ∀ {i : Nat} {o : Oper}, l[i]? = some o → o.guard = none ∧ ∀ e ∈ o.after, Region.binds .any e = true → e.on < k + i
  | [], k, _, i, o, h => by simp at h
  | o :: l, k, hb, i, o', h => by
    unfold aheadB at hb
    simp only [Bool.and_eq_true, Array.all_eq_true_iff_forall_mem, Bool.or_eq_true, Bool.not_eq_true', decide_eq_true_eq] at hb
    cases i with
    | zero =>
      simp at h; subst h
      refine ⟨by simpa using hb.1.1, fun e he hbe => ?_⟩
      rcases hb.1.2 e he with h | h
      · rw [hbe] at h; cases h
      · simpa using h
    | succ i =>
      have := ahead_of hb.2 (i := i) (o := o') (by simpa using h)
      exact ⟨this.1, fun e he hbe => by have := this.2 e he hbe; omega⟩
theorem opIn_plain {F : Fence} {n : Nat} {P : Program} {ops : Array Oper} {Q : Exit → Act → World → Prop} {i : Nat} {o : Oper} (ho : ops[i]? = some o) (hg : o.guard = none) {K : Act → World → Prop} {a : Act} {w : World} (h : o.wpIn F n P a w K Q) : wpOpIn F n P ops Q i K a w := by
  unfold wpOpIn
  rw [ho]
  simp only
  rw [if_pos (by unfold Region.wanted; rw [hg])]
  exact h
section
variable {n : Nat} {P : Program} {Q : Exit → Act → World → Prop} {a0 : Act} {w0 : World} {l : List Oper}
theorem any_free (hn : (l.filterMap (·.dst)).Nodup) (ha : aheadB 0 l = true) (V : Nat → Value → World → Prop) (hV : ∀ i v w w', V i v w → Below w.heap.size w w' → V i v w')
    (hop : ∀ i o, l[i]? = some o → ∀ u w, Below w0.heap.size w0 w → (∀ j, depB o j = true → V j (u j) w) → o.wpIn Fence.wide n P (putAll a0 u 0 l) w (fun a' w' => ∃ v, a' = (putAll a0 u 0 l).put o.dst v ∧ Below w.heap.size w w' ∧ V i v w') Q)
    (hend : ∀ u w, Below w0.heap.size w0 w → (∀ j, j < l.length → V j (u j) w) → Q .normal (putAll a0 u 0 l) w) :
    ∀ (fuel : Nat) (listed : Array Bool) (u : Nat → Value) (w : World), listed.size = l.length → (listed.toList.filter (fun b => !b)).length ≤ fuel → Below w0.heap.size w0 w → (∀ j, listed.getD j false = true → V j (u j) w) → wpAnyIn Fence.wide n P .any l.toArray Q fuel listed (putAll a0 u 0 l) w := by
  have fin : ∀ (listed : Array Bool) (u : Nat → Value) (w : World), listed.size = l.length → Below w0.heap.size w0 w → (∀ j, listed.getD j false = true → V j (u j) w) → Region.ready .any l.toArray listed = [] → Q .normal (putAll a0 u 0 l) w := by
    intro listed u w hs hb hv hr
    refine hend u w hb fun j hj => hv j ?_
    induction j using Nat.strongRecOn with
    | _ j ih =>
      cases hbj : listed.getD j false with
      | true => rfl
      | false =>
        exfalso
        have ho : l[j]? = some l[j] := List.getElem?_eq_getElem hj
        have hm : j ∈ Region.ready .any l.toArray listed := mem_ready.2 ⟨by rw [getD_of_lt (b := false) (by omega)]; exact hbj, _, by rw [List.getElem?_toArray]; exact ho, fun e he hbe => by
          have := (ahead_of ha ho).2 e he hbe
          exact ih e.on (by omega) (by omega)⟩
        rw [hr] at hm; cases hm
  intro fuel
  induction fuel with
  | zero =>
    intro listed u w hs hc hb hv
    have hr : Region.ready .any l.toArray listed = [] := by
      apply Classical.byContradiction
      intro hne
      obtain ⟨i, hi⟩ := List.exists_mem_of_ne_nil _ hne
      obtain ⟨h1, o, ho, h2⟩ := mem_ready.1 hi
      have hlt : i < listed.size := by rw [hs]; have := (Array.getElem?_eq_some_iff.1 ho).1; simpa using this
      have : false ∈ listed.toList.filter (fun b => !b) := List.mem_filter.2 ⟨by
        have e : listed[i] = false := by
          have : listed.getD i true = listed[i] := by simp [Array.getD, hlt]
          rw [← this]; exact h1
        rw [← e]
        exact Array.getElem_mem_toList hlt, rfl⟩
      have := List.length_pos_of_mem this
      omega
    exact ⟨hr, fin listed u w hs hb hv hr⟩
  | succ fuel ih =>
    intro listed u w hs hc hb hv
    refine ⟨fin listed u w hs hb hv, fun i hi => ?_⟩
    obtain ⟨h1, o, ho, h2⟩ := mem_ready.1 hi
    have ho' : l[i]? = some o := by simpa using ho
    have hlt : i < listed.size := by rw [hs]; exact (List.getElem?_eq_some_iff.1 ho').1
    have e1 : listed[i] = false := by
      have : listed.getD i true = listed[i] := by simp [Array.getD, hlt]
      rw [← this]; exact h1
    refine opIn_plain ho (ahead_of ha ho').1 (Oper.wpIn_mono ?_ (hop i o ho' u w hb fun j hj => hv j ?_))
    · rintro a' w' ⟨v, rfl, h3, h4⟩
      rw [putAll_put hn ho' v]
      refine ih _ _ _ (by simpa using hs) ?_ (bst hb h3) fun j hj => ?_
      · have hcnt : ∀ (xs : List Bool) (i : Nat) (hi : i < xs.length), xs[i] = false → ((xs.set i true).filter (fun b => !b)).length + 1 = (xs.filter (fun b => !b)).length := by
          intro xs
          induction xs with
          | nil => intro i hi; simp at hi
          | cons b xs ihx =>
            intro i hi he
            cases i with
            | zero => simp at he; subst he; simp
            | succ i =>
              have := ihx i (by simpa using hi) (by simpa using he)
              rw [List.set_cons_succ, List.filter_cons, List.filter_cons]
              split <;> (try simp only [List.length_cons]) <;> omega
        have := hcnt listed.toList i (by simpa using hlt) (by simpa using e1)
        rw [Array.toList_setIfInBounds]
        omega
      · unfold setU
        by_cases e : j = i
        · rw [if_pos e, e]; exact h4
        · rw [if_neg e]
          rw [getD_set_ne false (fun e' => e e'.symm)] at hj
          exact hV _ _ _ _ (hv j hj) h3
    · unfold depB at hj
      simp only [Array.any_eq_true', Bool.and_eq_true, beq_iff_eq] at hj
      obtain ⟨e, he, hbe, rfl⟩ := hj
      exact h2 e he hbe
/-- The law. -/
theorem region_free {id : Nat} (hm : P.follows .mixedOrders = true) (hn : dstB l = true) (ha : aheadB 0 l = true) (V : Nat → Value → World → Prop) (hV : ∀ i v w w', V i v w → Below w.heap.size w w' → V i v w')
    (hop : ∀ i o, l[i]? = some o → ∀ u w, Below w0.heap.size w0 w → (∀ j, depB o j = true → V j (u j) w) → o.wpIn Fence.wide n P (putAll a0 u 0 l) w (fun a' w' => ∃ v, a' = (putAll a0 u 0 l).put o.dst v ∧ Below w.heap.size w w' ∧ V i v w') Q)
    (hend : ∀ u w, Below w0.heap.size w0 w → (∀ j, j < l.length → V j (u j) w) → Q .normal (putAll a0 u 0 l) w) : (Code.region id l.toArray true).wpIn Fence.wide n P Q a0 w0 := by
  refine wpIn_region_any hm ?_
  obtain ⟨u, hu⟩ := putAll_self a0 l
  have := any_free (of_decide_eq_true hn) ha V hV hop hend l.toArray.size (Array.replicate l.toArray.size false) u { w0 with drawn := w0.drawn + 1 } (by simp) (by simp) ⟨rfl, rfl, rfl, Nat.le_refl _, fun _ _ => rfl⟩ (fun j hj => by
    exfalso
    simp [Array.getD] at hj)
  rw [hu] at this
  exact this
/-- The same within a round. -/
theorem region_freeR {id k : Nat} (hm : P.follows .mixedOrders = true) (hd : noDefer l = true) (hn : dstB l = true) (ha : aheadB 0 l = true) (V : Nat → Value → World → Prop) (hV : ∀ i v w w', V i v w → Below w.heap.size w w' → V i v w')
    (hop : ∀ i o, l[i]? = some o → ∀ u w, Below w0.heap.size w0 w → (∀ j, depB o j = true → V j (u j) w) → o.wpIn Fence.wide n P (putAll a0 u 0 l) w (fun a' w' => ∃ v, a' = (putAll a0 u 0 l).put o.dst v ∧ Below w.heap.size w w' ∧ V i v w') Q)
    (hend : ∀ u w, Below w0.heap.size w0 w → (∀ j, j < l.length → V j (u j) w) → Q .normal (putAll a0 u 0 l) w) : (Code.region id l.toArray true).wpIn (Fence.wide.inRound k) n P Q a0 w0 := by
  refine wpIn_region_any hm (any_round hd _ _ _ _ ?_)
  obtain ⟨u, hu⟩ := putAll_self a0 l
  have := any_free (of_decide_eq_true hn) ha V hV hop hend l.toArray.size (Array.replicate l.toArray.size false) u { w0 with drawn := w0.drawn + 1 } (by simp) (by simp) ⟨rfl, rfl, rfl, Nat.le_refl _, fun _ _ => rfl⟩ (fun j hj => by
    exfalso
    simp [Array.getD] at hj)
  rw [hu] at this
  exact this
end
end Go.Proofs.Ytgdpplipahhffaa
namespace Go.Proofs.Ytgdpplipahhffaa
open Go.RowKit
set_option linter.unusedVariables false
set_option linter.unusedSimpArgs false

theorem op_plain {P : Program} {ops : Array Oper} {Q : Exit → Act → World → Prop} {i : Nat} {o : Oper} (ho : ops[i]? = some o) (hg : o.guard = none) {K : Act → World → Prop} {a : Act} {w : World} (h : o.wp P a w K Q) : wpOp P ops Q i K a w := by
  unfold wpOp
  rw [ho]
  simp only
  rw [if_pos (by unfold Region.wanted; rw [hg])]
  exact .inl h
section
variable {P : Program} {Q : Exit → Act → World → Prop} {a0 : Act} {w0 : World} {l : List Oper}
theorem any_free0 (hn : (l.filterMap (·.dst)).Nodup) (ha : aheadB 0 l = true) (V : Nat → Value → World → Prop) (hV : ∀ i v w w', V i v w → Below w.heap.size w w' → V i v w')
    (hop : ∀ i o, l[i]? = some o → ∀ u w, Below w0.heap.size w0 w → (∀ j, depB o j = true → V j (u j) w) → o.wp P (putAll a0 u 0 l) w (fun a' w' => ∃ v, a' = (putAll a0 u 0 l).put o.dst v ∧ Below w.heap.size w w' ∧ V i v w') Q)
    (hend : ∀ u w, Below w0.heap.size w0 w → (∀ j, j < l.length → V j (u j) w) → Q .normal (putAll a0 u 0 l) w) :
    ∀ (fuel : Nat) (listed : Array Bool) (u : Nat → Value) (w : World), listed.size = l.length → (listed.toList.filter (fun b => !b)).length ≤ fuel → Below w0.heap.size w0 w → (∀ j, listed.getD j false = true → V j (u j) w) → wpAny P .any l.toArray Q fuel listed (putAll a0 u 0 l) w := by
  have fin : ∀ (listed : Array Bool) (u : Nat → Value) (w : World), listed.size = l.length → Below w0.heap.size w0 w → (∀ j, listed.getD j false = true → V j (u j) w) → Region.ready .any l.toArray listed = [] → Q .normal (putAll a0 u 0 l) w := by
    intro listed u w hs hb hv hr
    refine hend u w hb fun j hj => hv j ?_
    induction j using Nat.strongRecOn with
    | _ j ih =>
      cases hbj : listed.getD j false with
      | true => rfl
      | false =>
        exfalso
        have ho : l[j]? = some l[j] := List.getElem?_eq_getElem hj
        have hm : j ∈ Region.ready .any l.toArray listed := mem_ready.2 ⟨by rw [getD_of_lt (b := false) (by omega)]; exact hbj, _, by rw [List.getElem?_toArray]; exact ho, fun e he hbe => by
          have := (ahead_of ha ho).2 e he hbe
          exact ih e.on (by omega) (by omega)⟩
        rw [hr] at hm; cases hm
  intro fuel
  induction fuel with
  | zero =>
    intro listed u w hs hc hb hv
    have hr : Region.ready .any l.toArray listed = [] := by
      apply Classical.byContradiction
      intro hne
      obtain ⟨i, hi⟩ := List.exists_mem_of_ne_nil _ hne
      obtain ⟨h1, o, ho, h2⟩ := mem_ready.1 hi
      have hlt : i < listed.size := by rw [hs]; have := (Array.getElem?_eq_some_iff.1 ho).1; simpa using this
      have : false ∈ listed.toList.filter (fun b => !b) := List.mem_filter.2 ⟨by
        have e : listed[i] = false := by
          have : listed.getD i true = listed[i] := by simp [Array.getD, hlt]
          rw [← this]; exact h1
        rw [← e]
        exact Array.getElem_mem_toList hlt, rfl⟩
      have := List.length_pos_of_mem this
      omega
    exact ⟨hr, fin listed u w hs hb hv hr⟩
  | succ fuel ih =>
    intro listed u w hs hc hb hv
    refine ⟨fin listed u w hs hb hv, fun i hi => ?_⟩
    obtain ⟨h1, o, ho, h2⟩ := mem_ready.1 hi
    have ho' : l[i]? = some o := by simpa using ho
    have hlt : i < listed.size := by rw [hs]; exact (List.getElem?_eq_some_iff.1 ho').1
    have e1 : listed[i] = false := by
      have : listed.getD i true = listed[i] := by simp [Array.getD, hlt]
      rw [← this]; exact h1
    refine op_plain ho (ahead_of ha ho').1 (Oper.wp_mono ?_ (hop i o ho' u w hb fun j hj => hv j ?_))
    · rintro a' w' ⟨v, rfl, h3, h4⟩
      rw [putAll_put hn ho' v]
      refine ih _ _ _ (by simpa using hs) ?_ (bst hb h3) fun j hj => ?_
      · have hcnt : ∀ (xs : List Bool) (i : Nat) (hi : i < xs.length), xs[i] = false → ((xs.set i true).filter (fun b => !b)).length + 1 = (xs.filter (fun b => !b)).length := by
          intro xs
          induction xs with
          | nil => intro i hi; simp at hi
          | cons b xs ihx =>
            intro i hi he
            cases i with
            | zero => simp at he; subst he; simp
            | succ i =>
              have := ihx i (by simpa using hi) (by simpa using he)
              rw [List.set_cons_succ, List.filter_cons, List.filter_cons]
              split <;> (try simp only [List.length_cons]) <;> omega
        have := hcnt listed.toList i (by simpa using hlt) (by simpa using e1)
        rw [Array.toList_setIfInBounds]
        omega
      · unfold setU
        by_cases e : j = i
        · rw [if_pos e, e]; exact h4
        · rw [if_neg e]
          rw [getD_set_ne false (fun e' => e e'.symm)] at hj
          exact hV _ _ _ _ (hv j hj) h3
    · unfold depB at hj
      simp only [Array.any_eq_true', Bool.and_eq_true, beq_iff_eq] at hj
      obtain ⟨e, he, hbe, rfl⟩ := hj
      exact h2 e he hbe
/-- The law. -/
theorem region_free0 {id : Nat} (hm : P.follows .mixedOrders = true) (hn : dstB l = true) (ha : aheadB 0 l = true) (V : Nat → Value → World → Prop) (hV : ∀ i v w w', V i v w → Below w.heap.size w w' → V i v w')
    (hop : ∀ i o, l[i]? = some o → ∀ u w, Below w0.heap.size w0 w → (∀ j, depB o j = true → V j (u j) w) → o.wp P (putAll a0 u 0 l) w (fun a' w' => ∃ v, a' = (putAll a0 u 0 l).put o.dst v ∧ Below w.heap.size w w' ∧ V i v w') Q)
    (hend : ∀ u w, Below w0.heap.size w0 w → (∀ j, j < l.length → V j (u j) w) → Q .normal (putAll a0 u 0 l) w) : (Code.region id l.toArray true).wp P Q a0 w0 := by
  refine wp_region_any hm ?_
  obtain ⟨u, hu⟩ := putAll_self a0 l
  have := any_free0 (of_decide_eq_true hn) ha V hV hop hend l.toArray.size (Array.replicate l.toArray.size false) u { w0 with drawn := w0.drawn + 1 } (by simp) (by simp) ⟨rfl, rfl, rfl, Nat.le_refl _, fun _ _ => rfl⟩ (fun j hj => by
    exfalso
    simp [Array.getD] at hj)
  rw [hu] at this
  exact this
end
theorem eval_dst {a0 : Act} {u : Nat → Value} {l : List Oper} {s j : Nat} (h : posD s l = some j) (hs : decide (s < a0.tmps.size) = true) : (putAll a0 u 0 l).eval (.tmp s) = u j := by
  have := putAll_get a0 u s l 0
  rw [h] at this
  simp only [Nat.zero_add] at this
  rw [if_pos (of_decide_eq_true hs)] at this
  show (putAll a0 u 0 l).tmps.getD s undef = u j
  rw [Array.getD_eq_getD_getElem?, this]; rfl
theorem eval_base {a0 : Act} {u : Nat → Value} {l : List Oper} {s : Nat} (h : posD s l = none) : (putAll a0 u 0 l).eval (.tmp s) = a0.eval (.tmp s) := by
  have := putAll_get a0 u s l 0
  rw [h] at this
  show (putAll a0 u 0 l).tmps.getD s undef = a0.tmps.getD s undef
  rw [Array.getD_eq_getD_getElem?, this, Array.getD_eq_getD_getElem?]
/-- The law, the frame out of sight. -/
theorem region_free1 {P : Program} {Q : Exit → Act → World → Prop} {a0 : Act} {w0 : World} {l : List Oper} {id : Nat} (hm : P.follows .mixedOrders = true) (hn : dstB l = true) (ha : aheadB 0 l = true) (V : Nat → Value → World → Prop) (hV : ∀ i v w w', V i v w → Below w.heap.size w w' → V i v w')
    (hop : ∀ (A : Act) (u : Nat → Value) (w : World), Below w0.heap.size w0 w → (∀ s j, posD s l = some j → decide (s < a0.tmps.size) = true → A.eval (.tmp s) = u j) → (∀ s, posD s l = none → A.eval (.tmp s) = a0.eval (.tmp s)) → ∀ i o, l[i]? = some o → (∀ j, depB o j = true → V j (u j) w) → o.wp P A w (fun a' w' => ∃ v, a' = A.put o.dst v ∧ Below w.heap.size w w' ∧ V i v w') Q)
    (hend : ∀ (A : Act) (u : Nat → Value) (w : World), Below w0.heap.size w0 w → (∀ s j, posD s l = some j → decide (s < a0.tmps.size) = true → A.eval (.tmp s) = u j) → (∀ s, posD s l = none → A.eval (.tmp s) = a0.eval (.tmp s)) → A.defers = a0.defers → A.tmps.size = a0.tmps.size → (∀ j, j < l.length → V j (u j) w) → Q .normal A w) : (Code.region id l.toArray true).wp P Q a0 w0 :=
  region_free0 hm hn ha V hV (fun i o ho u w hb hv => hop _ u w hb (fun s j h1 h2 => eval_dst h1 h2) (fun s h => eval_base h) i o ho hv)
    (fun u w hb hv => hend _ u w hb (fun s j h1 h2 => eval_dst h1 h2) (fun s h => eval_base h) (putAll_defers _ _ _ _) (putAll_size _ _ _ _) hv)
theorem region_free1R {P : Program} {n k : Nat} {Q : Exit → Act → World → Prop} {a0 : Act} {w0 : World} {l : List Oper} {id : Nat} (hm : P.follows .mixedOrders = true) (hd : noDefer l = true) (hn : dstB l = true) (ha : aheadB 0 l = true) (V : Nat → Value → World → Prop) (hV : ∀ i v w w', V i v w → Below w.heap.size w w' → V i v w')
    (hop : ∀ (A : Act) (u : Nat → Value) (w : World), Below w0.heap.size w0 w → (∀ s j, posD s l = some j → decide (s < a0.tmps.size) = true → A.eval (.tmp s) = u j) → (∀ s, posD s l = none → A.eval (.tmp s) = a0.eval (.tmp s)) → ∀ i o, l[i]? = some o → (∀ j, depB o j = true → V j (u j) w) → o.wpIn Fence.wide n P A w (fun a' w' => ∃ v, a' = A.put o.dst v ∧ Below w.heap.size w w' ∧ V i v w') Q)
    (hend : ∀ (u : Nat → Value) (w : World), Below w0.heap.size w0 w → (∀ j, j < l.length → V j (u j) w) → Q .normal (putAll a0 u 0 l) w) : (Code.region id l.toArray true).wpIn (Fence.wide.inRound k) n P Q a0 w0 :=
  region_freeR hm hd hn ha V hV (fun i o ho u w hb hv => hop _ u w hb (fun s j h1 h2 => eval_dst h1 h2) (fun s h => eval_base h) i o ho hv) hend
theorem region_free1W {P : Program} {n : Nat} {Q : Exit → Act → World → Prop} {a0 : Act} {w0 : World} {l : List Oper} {id : Nat} (hm : P.follows .mixedOrders = true) (hn : dstB l = true) (ha : aheadB 0 l = true) (V : Nat → Value → World → Prop) (hV : ∀ i v w w', V i v w → Below w.heap.size w w' → V i v w')
    (hop : ∀ (A : Act) (u : Nat → Value) (w : World), Below w0.heap.size w0 w → (∀ s j, posD s l = some j → decide (s < a0.tmps.size) = true → A.eval (.tmp s) = u j) → (∀ s, posD s l = none → A.eval (.tmp s) = a0.eval (.tmp s)) → ∀ i o, l[i]? = some o → (∀ j, depB o j = true → V j (u j) w) → o.wpIn Fence.wide n P A w (fun a' w' => ∃ v, a' = A.put o.dst v ∧ Below w.heap.size w w' ∧ V i v w') Q)
    (hend : ∀ (u : Nat → Value) (w : World), Below w0.heap.size w0 w → (∀ j, j < l.length → V j (u j) w) → Q .normal (putAll a0 u 0 l) w) : (Code.region id l.toArray true).wpIn Fence.wide n P Q a0 w0 :=
  region_free hm hn ha V hV (fun i o ho u w hb hv => hop _ u w hb (fun s j h1 h2 => eval_dst h1 h2) (fun s h => eval_base h) i o ho hv) hend
end Go.Proofs.Ytgdpplipahhffaa
namespace Go.Proofs.Ytgdpplipahhffaa
open Go.RowKit
set_option linter.unusedVariables false
set_option linter.unusedSimpArgs false

section
variable {w0 w : World} {q r W most : Nat} {L : List (List Bool × Int)} {ro : Option Nat}
/-- What region 33 of play leaves, operation by operation. -/
def V33 (W q r bx : Nat) (a : Nat) (l : Int) (n : Nat) (K : List (List Bool × Int)) (B : Nat) : Nat → Value → World → Prop
  | 0, v, _ => v = .pointer (some ⟨q, 0, none⟩)
  | 1, v, _ => v = .agg #[.int .u64 (hiOf a), .int .u64 (loOf a), .int .i64 l]
  | 2, v, w => ∃ D, v = .func (.func 48) #[] #[.pointer (some ⟨D, 0, none⟩), .pointer (some ⟨D + 1, 0, none⟩)] ∧ ∀ V2, Below w.heap.size w V2 → Tells51 V2 W D (D + 1) K
  | 3, v, _ => v = .pointer (some ⟨r, 0, none⟩)
  | 4, v, _ => v = .pointer (some ⟨bx, 1, none⟩)
  | 5, v, _ => v = .agg #[.int .u64 (hiOf a), .int .u64 (loOf a)]
  | 6, v, _ => v = .pointer (some ⟨bx, 3, none⟩)
  | 7, v, _ => v = .int .i64 l
  | 8, v, w => ∃ ba bc, v = .slice ba n bc ∧ ∀ V2, Below w.heap.size w V2 → V2.ownsRow B 57 2 (.slice ba n bc) n (rowR K)
  | 9, v, _ => v = .pointer (some ⟨r, 0, none⟩)
  | 10, v, _ => v = .pointer (some ⟨r, 0, none⟩)
  | 11, v, _ => v = .pointer (some ⟨r, 0, none⟩)
  | 12, v, _ => v = .int .i64 W
  | 13, v, _ => v = .bool true
  | 14, v, _ => v = .bool true
  | _, _, _ => True
theorem V33_below {W q r bx a : Nat} {l : Int} {n : Nat} {K : List (List Bool × Int)} {B : Nat} (i : Nat) (v : Value) (w w' : World) (h : V33 W q r bx a l n K B i v w) (hb : Below w.heap.size w w') : V33 W q r bx a l n K B i v w' := by
  match i, h with
  | 0, h => exact h
  | 1, h => exact h
  | 2, h => obtain ⟨D, h1, h2⟩ := h; exact ⟨D, h1, fun V2 hV => h2 V2 (bst hb hV (Nat.le_refl _))⟩
  | 3, h => exact h
  | 4, h => exact h
  | 5, h => exact h
  | 6, h => exact h
  | 7, h => exact h
  | 8, h => obtain ⟨ba, bc, h1, h2⟩ := h; exact ⟨ba, bc, h1, fun V2 hV => h2 V2 (bst hb hV (Nat.le_refl _))⟩
  | 9, h => exact h
  | 10, h => exact h
  | 11, h => exact h
  | 12, h => exact h
  | 13, h => exact h
  | 14, h => exact h
  | _ + 15, h => exact h
set_option maxHeartbeats 8000000 in
set_option maxRecDepth 100000 in
theorem play_under (hD : Duo w0 w q r W most L ro) (h1 : 1 ≤ W) (hW : W ≤ 128) (k l u : Int) (a : Nat) (ha : Is128 a) (hk : k % 12 = 8) :
    Calls Try.prog 13 #[.pointer (some ⟨q, 0, none⟩), .pointer (some ⟨r, 0, none⟩), .agg #[.int .i64 k, .int .u64 (hiOf a), .int .u64 (loOf a), .int .i64 l, .int .i64 u]] w fun e w' => e = .returned (.bool true) ∧ ∃ L' ro', Hid (Duo w0 w' q r W most L' ro' ∧ Kept (Tch q r ro) w w' ∧ NewRow w ro ro') := by
  have hm := hD.own.room
  have HD : Hid (Duo w0 w q r W most L ro) := hD
  obtain ⟨⟨ba0, bc0, g1, g2, g3⟩, g4, g5, g6⟩ := id hD.ref
  have HX : Hid (Blk w r #[.int .i64 W, .int .i64 most, .slice ba0 L.length bc0] 40) := g2
  obtain ⟨K, k1, k2, k3, k4⟩ := under_both (most := most) (L := L) h1 hW a ha l
  obtain ⟨n, hn⟩ : ∃ n, K.length = n := ⟨_, rfl⟩
  have CU : Hid (∀ V, Below w.heap.size w V → Calls Try.prog 19 #[.pointer (some ⟨q, 0, none⟩), Pf a l] V fun e w' => ∃ D, e = .returned (.func (.func 48) #[] #[.pointer (some ⟨D, 0, none⟩), .pointer (some ⟨D + 1, 0, none⟩)]) ∧ Hid (Below V.heap.size V w' ∧ ∀ V2, Below w'.heap.size w' V2 → Tells51 V2 W D (D + 1) K)) := fun V hV => (under_any _ a l V).mono (by
    rintro e w' ⟨rfl, b1, b2, b3⟩
    exact ⟨_, rfl, b3, fun V2 h => k3 w0 V2 q _ _ (hD.own.below (bst (bst hV b3) h)) (b1.below h) (b2.below h)⟩)
  have CR : Hid (∀ V, Below w.heap.size w V → Calls Try.prog 21 #[.pointer (some ⟨r, 0, none⟩), B a, .int .i64 l] V fun e w' => ∃ ba bc, e = .returned (.slice ba n bc) ∧ Hid (Below V.heap.size V w' ∧ ∀ V2, Below w'.heap.size w' V2 → V2.ownsRow V.heap.size 57 2 (.slice ba n bc) n (rowR K))) := fun V hV => (k4 V _ r (hD.ref.below hV).at).mono (by
    rintro e w' ⟨ba, bc, rfl, H⟩
    rw [hn] at H ⊢
    exact ⟨ba, bc, rfl, H.out.2, fun V2 h => ownsRow_kept H.out.1 (Kept.of_below (S := fun _ => False) h) (fun _ _ => id)⟩)
  have C20 : Hid (∀ V2 D Bq ba bc, Tells51 V2 W D (D + 1) K → V2.ownsRow Bq 57 2 (.slice ba n bc) n (rowR K) → Calls Try.prog 20 #[.func (.func 48) #[] #[.pointer (some ⟨D, 0, none⟩), .pointer (some ⟨D + 1, 0, none⟩)], .slice ba n bc, .int .i64 W] V2 fun e w' => e = .returned (.bool true) ∧ Hid (Below V2.heap.size V2 w')) := fun V2 D Bq ba bc ht ho => by
    have := told_yes V2 hW K (fun y hy => hD.own.lens y (k1 y hy)) (Nat.le_trans k2 g5) Bq ba bc (by rw [hn]; exact ho) D (D + 1) ht
    rw [hn] at this
    exact this.mono fun e w' h => ⟨h.1, h.2⟩
  clear g1 g2 g3 g4 g5 g6 k1 k2 k3 k4 hn
  have HF : Hid (∀ w', Below w.heap.size w w' → Duo w0 w' q r W most L ro ∧ Kept (Tch q r ro) w w' ∧ NewRow w ro ro) := fun w' hb => ⟨HD.out.below hb, Kept.of_below hb, .inl rfl⟩
  generalize L.length = m at HX
  have HQ : Hid (q < w.heap.size ∧ r < w.heap.size) := ⟨hD.tch q (.inl rfl), hD.tch r (.inr (.inl rfl))⟩
  have HB := one_new w #[.int .i64 k, .int .u64 (hiOf a), .int .u64 (loOf a), .int .i64 l, .int .i64 u] 35
  have C12 : Hid (∀ V, Calls Try.prog 12 #[.int .i64 k] V fun e w' => e = .returned (.int .i64 8) ∧ w' = V) := fun V => by
    have := rest_any k V
    rw [hk] at this
    exact this
  clear hD hm hk
  go_enter Try.func13, Try.ntmps13
  go_upto_region 1 with fail
  generalize (w.alloc _) = w1 at HB ⊢
  have c0 := HB.1.cell 0 (v := .int .i64 k) rfl
  have c1 := HB.1.cell 1 (v := .int .u64 (hiOf a)) rfl
  have c2 := HB.1.cell 2 (v := .int .u64 (loOf a)) rfl
  have c3 := HB.1.cell 3 (v := .int .i64 l) rfl
  have HB2 := one_new w1 #[.int .u64 (hiOf a), .int .u64 (loOf a), .int .i64 l] 51
  go_upto_region 2 with fail
  have HA : Hid (Blk (w1.alloc (.cells #[.int .u64 (hiOf a), .int .u64 (loOf a), .int .i64 l] 51)) w.heap.size #[.int .i64 k, .int .u64 (hiOf a), .int .u64 (loOf a), .int .i64 l, .int .i64 u] 35 ∧ Blk (w1.alloc (.cells #[.int .u64 (hiOf a), .int .u64 (loOf a), .int .i64 l] 51)) w1.heap.size #[.int .u64 (hiOf a), .int .u64 (loOf a), .int .i64 l] 51 ∧ Below w.heap.size w (w1.alloc (.cells #[.int .u64 (hiOf a), .int .u64 (loOf a), .int .i64 l] 51)) ∧ w.heap.size < w1.heap.size) :=
    ⟨HB.1.below HB2.2.1, HB2.1, bst HB.2.1 HB2.2.1, HB.2.2⟩
  clear c0 c1 c2 c3 HB HB2
  generalize (w1.alloc _) = w2 at HA ⊢
  generalize w1.heap.size = A1 at HA ⊢
  have c0 := HA.out.1.cell 0 (v := .int .i64 k) rfl
  have c1 := HA.out.1.cell 1 (v := .int .u64 (hiOf a)) rfl
  have c2 := HA.out.1.cell 2 (v := .int .u64 (loOf a)) rfl
  have c3 := HA.out.1.cell 3 (v := .int .i64 l) rfl
  have c4 := HA.out.1.cell 4 (v := .int .i64 u) rfl
  have d0 := HA.out.2.1.cell 0 (v := .int .u64 (hiOf a)) rfl
  have d1 := HA.out.2.1.cell 1 (v := .int .u64 (loOf a)) rfl
  have d2 := HA.out.2.1.cell 2 (v := .int .i64 l) rfl
  go_wp2_with fail
  refine (C12.out _).mono ?_
  rintro e w3 ⟨rfl, rfl⟩
  clear C12
  have HC : Hid (∀ V, Below w3.heap.size w3 V → V.cell? ⟨w.heap.size, 1, none⟩ = some (.int .u64 (hiOf a)) ∧ V.cell? ⟨w.heap.size, 2, none⟩ = some (.int .u64 (loOf a)) ∧ V.cell? ⟨w.heap.size, 3, none⟩ = some (.int .i64 l) ∧ V.cell? ⟨A1, 0, none⟩ = some (.int .u64 (hiOf a)) ∧ V.cell? ⟨A1, 1, none⟩ = some (.int .u64 (loOf a)) ∧ V.cell? ⟨A1, 2, none⟩ = some (.int .i64 l) ∧ V.cell? ⟨r, 0, none⟩ = some (.int .i64 W)) := fun V hV =>
    ⟨(HA.out.1.below hV).cell 1 rfl, (HA.out.1.below hV).cell 2 rfl, (HA.out.1.below hV).cell 3 rfl, (HA.out.2.1.below hV).cell 0 rfl, (HA.out.2.1.below hV).cell 1 rfl, (HA.out.2.1.below hV).cell 2 rfl, ((HX.out.below HA.out.2.2.1).below hV).cell 0 rfl⟩
  go_upto_region 33 with fail
  refine region_free1 (by kernel_rfl) (by kernel_rfl) (by kernel_rfl) (V33 W q r w.heap.size a l n K w3.heap.size) V33_below ?hop ?hend
  case hop =>
    intro A U w4 hb hD hE
    obtain ⟨e1, e2, e3, f0, f1, f2, g0⟩ := HC.out w4 hb
    have E0 : A.eval (.tmp 0) = .pointer (some ⟨q, 0, none⟩) := hE 0 (by kernel_rfl)
    have E1 : A.eval (.tmp 1) = .pointer (some ⟨r, 0, none⟩) := hE 1 (by kernel_rfl)
    have E5 : A.eval (.tmp 5) = .pointer (some ⟨w.heap.size, 0, none⟩) := hE 5 (by kernel_rfl)
    have E7 : A.eval (.tmp 7) = .pointer (some ⟨A1, 0, none⟩) := hE 7 (by kernel_rfl)
    have D0 := hD 206 0 (by kernel_rfl) (by kernel_rfl)
    have D1 := hD 207 1 (by kernel_rfl) (by kernel_rfl)
    have D2 := hD 208 2 (by kernel_rfl) (by kernel_rfl)
    have D3 := hD 209 3 (by kernel_rfl) (by kernel_rfl)
    have D4 := hD 210 4 (by kernel_rfl) (by kernel_rfl)
    have D5 := hD 211 5 (by kernel_rfl) (by kernel_rfl)
    have D6 := hD 212 6 (by kernel_rfl) (by kernel_rfl)
    have D7 := hD 213 7 (by kernel_rfl) (by kernel_rfl)
    have D8 := hD 214 8 (by kernel_rfl) (by kernel_rfl)
    have D9 := hD 215 9 (by kernel_rfl) (by kernel_rfl)
    have D10 := hD 216 10 (by kernel_rfl) (by kernel_rfl)
    have D11 := hD 217 11 (by kernel_rfl) (by kernel_rfl)
    have D12 := hD 218 12 (by kernel_rfl) (by kernel_rfl)
    have D13 := hD 219 13 (by kernel_rfl) (by kernel_rfl)
    clear hD hE c0 c1 c2 c3 c4 d0 d1 d2
    intro i o ho hv
    match i, ho with
    | 0, ho =>
      obtain rfl := Option.some.inj ho
      simp only [Oper.wp, execOp, E0]
      go_simp
      exact ⟨_, rfl, Below.refl _ _, rfl⟩
    | 1, ho =>
      obtain rfl := Option.some.inj ho
      simp only [Oper.wp, execOp, E7]
      go_simp
      exact ⟨_, rfl, Below.refl _ _, rfl⟩
    | 2, ho =>
      obtain rfl := Option.some.inj ho
      have h0 : U 0 = .pointer (some ⟨q, 0, none⟩) := hv 0 (by kernel_rfl)
      rw [h0] at D0
      have h1 : U 1 = .agg #[.int .u64 (hiOf a), .int .u64 (loOf a), .int .i64 l] := hv 1 (by kernel_rfl)
      rw [h1] at D1
      have G0 : A.tmps[206]?.getD undef = _ := Array.getD_eq_getD_getElem?.symm.trans D0
      have G1 : A.tmps[207]?.getD undef = _ := Array.getD_eq_getD_getElem?.symm.trans D1
      simp only [Oper.wp, execOp]
      go_simp
      refine (CU.out w4 (bst HA.out.2.2.1 hb)).mono ?_
      rintro e w5 ⟨D, rfl, H⟩
      exact ⟨_, rfl, H.out.1, D, rfl, H.out.2⟩
    | 3, ho =>
      obtain rfl := Option.some.inj ho
      simp only [Oper.wp, execOp, E1]
      go_simp
      exact ⟨_, rfl, Below.refl _ _, rfl⟩
    | 4, ho =>
      obtain rfl := Option.some.inj ho
      simp only [Oper.wp, execOp, E5]
      go_simp
      exact ⟨_, rfl, Below.refl _ _, rfl⟩
    | 5, ho =>
      obtain rfl := Option.some.inj ho
      have h4 : U 4 = .pointer (some ⟨w.heap.size, 1, none⟩) := hv 4 (by kernel_rfl)
      rw [h4] at D4
      simp only [Oper.wp, execOp, D4]
      go_simp
      exact ⟨_, rfl, Below.refl _ _, rfl⟩
    | 6, ho =>
      obtain rfl := Option.some.inj ho
      simp only [Oper.wp, execOp, E5]
      go_simp
      exact ⟨_, rfl, Below.refl _ _, rfl⟩
    | 7, ho =>
      obtain rfl := Option.some.inj ho
      have h6 : U 6 = .pointer (some ⟨w.heap.size, 3, none⟩) := hv 6 (by kernel_rfl)
      rw [h6] at D6
      simp only [Oper.wp, execOp, D6]
      go_simp
      exact ⟨_, rfl, Below.refl _ _, rfl⟩
    | 8, ho =>
      obtain rfl := Option.some.inj ho
      have h3 : U 3 = .pointer (some ⟨r, 0, none⟩) := hv 3 (by kernel_rfl)
      rw [h3] at D3
      have h5 : U 5 = .agg #[.int .u64 (hiOf a), .int .u64 (loOf a)] := hv 5 (by kernel_rfl)
      rw [h5] at D5
      have h7 : U 7 = .int .i64 l := hv 7 (by kernel_rfl)
      rw [h7] at D7
      have G3 : A.tmps[209]?.getD undef = _ := Array.getD_eq_getD_getElem?.symm.trans D3
      have G5 : A.tmps[211]?.getD undef = _ := Array.getD_eq_getD_getElem?.symm.trans D5
      have G7 : A.tmps[213]?.getD undef = _ := Array.getD_eq_getD_getElem?.symm.trans D7
      simp only [Oper.wp, execOp]
      go_simp
      refine (CR.out w4 (bst HA.out.2.2.1 hb)).mono ?_
      rintro e w5 ⟨ba, bc, rfl, H⟩
      exact ⟨_, rfl, H.out.1, ba, bc, rfl, fun V2 h => own_mono (H.out.2 V2 h) hb.size⟩
    | 9, ho =>
      obtain rfl := Option.some.inj ho
      simp only [Oper.wp, execOp, E1]
      go_simp
      exact ⟨_, rfl, Below.refl _ _, rfl⟩
    | 10, ho =>
      obtain rfl := Option.some.inj ho
      have h9 : U 9 = .pointer (some ⟨r, 0, none⟩) := hv 9 (by kernel_rfl)
      rw [h9] at D9
      simp only [Oper.wp, execOp, D9]
      go_simp
      exact ⟨_, rfl, Below.refl _ _, rfl⟩
    | 11, ho =>
      obtain rfl := Option.some.inj ho
      have h10 : U 10 = .pointer (some ⟨r, 0, none⟩) := hv 10 (by kernel_rfl)
      rw [h10] at D10
      simp only [Oper.wp, execOp, D10]
      go_simp
      exact ⟨_, rfl, Below.refl _ _, rfl⟩
    | 12, ho =>
      obtain rfl := Option.some.inj ho
      have h11 : U 11 = .pointer (some ⟨r, 0, none⟩) := hv 11 (by kernel_rfl)
      rw [h11] at D11
      simp only [Oper.wp, execOp, D11]
      go_simp
      exact ⟨_, rfl, Below.refl _ _, rfl⟩
    | 13, ho =>
      obtain rfl := Option.some.inj ho
      have h2 : V33 W q r w.heap.size a l n K w3.heap.size 2 (U 2) w4 := hv 2 (by kernel_rfl)
      have h8 : V33 W q r w.heap.size a l n K w3.heap.size 8 (U 8) w4 := hv 8 (by kernel_rfl)
      have h12 : U 12 = .int .i64 W := hv 12 (by kernel_rfl)
      obtain ⟨D, k2, T2⟩ := h2
      obtain ⟨ba, bc, k8, T8⟩ := h8
      rw [k2] at D2
      rw [k8] at D8
      rw [h12] at D12
      have HT : Hid ((∀ V2, Below w4.heap.size w4 V2 → Tells51 V2 W D (D + 1) K) ∧ ∀ V2, Below w4.heap.size w4 V2 → V2.ownsRow w3.heap.size 57 2 (.slice ba n bc) n (rowR K)) := ⟨T2, T8⟩
      clear T2 T8
      have G2 : A.tmps[208]?.getD undef = _ := Array.getD_eq_getD_getElem?.symm.trans D2
      have G8 : A.tmps[214]?.getD undef = _ := Array.getD_eq_getD_getElem?.symm.trans D8
      have G12 : A.tmps[218]?.getD undef = _ := Array.getD_eq_getD_getElem?.symm.trans D12
      simp only [Oper.wp, execOp]
      go_simp
      refine (C20.out w4 D w3.heap.size ba bc (HT.out.1 w4 (Below.refl _ _)) (HT.out.2 w4 (Below.refl _ _))).mono ?_
      rintro e w5 ⟨rfl, H⟩
      exact ⟨_, rfl, H.out, rfl⟩
    | 14, ho =>
      obtain rfl := Option.some.inj ho
      have h13 : U 13 = .bool true := hv 13 (by kernel_rfl)
      rw [h13] at D13
      simp only [Oper.wp, execOp, D13]
      go_simp
      exact ⟨_, rfl, Below.refl _ _, rfl⟩
    | i + 15, ho => cases ho
  case hend =>
    intro A U w4 hb hD hE hdf hsz hv
    have h14 : U 14 = .bool true := hv 14 (by decide)
    have D14 : A.eval (.tmp 6) = U 14 := hD 6 14 (by kernel_rfl) (by kernel_rfl)
    rw [h14] at D14
    have HG : Hid _ := HF.out w4 (bst HA.out.2.2.1 hb)
    obtain ⟨T, df⟩ := A
    have hdf : df = [] := hdf
    subst hdf
    have D14 : T.getD 6 undef = .bool true := D14
    clear hD hE hv hsz
    go_wp2
    refine bodyPost_ret (by
      have G : T[6]?.getD undef = .bool true := Array.getD_eq_getD_getElem?.symm.trans D14
      simp [results, Try.results13, go_sem, G]; try rfl) rfl ?_
    exact ⟨rfl, L, ro, HG⟩
end
end Go.Proofs.Ytgdpplipahhffaa
