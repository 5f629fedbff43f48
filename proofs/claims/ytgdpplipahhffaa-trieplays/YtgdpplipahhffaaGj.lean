/- A region that draws its order, in which calls answer what hangs on when they are made: each operation is told by itself, over a frame whose slots hold anything that the operations may have left. The same, for calls that are not fenced; what a slot holds. -/
import Derived.Test.YtgdpplipahhffaaGt
namespace Go.Proofs.Ytgdpplipahhffaa
open Go.RowKit
set_option linter.unusedVariables false
set_option linter.unusedSimpArgs false

/-- The frame with what the operations left. -/
def putAll (a0 : Act) (u : Nat → Value) : Nat → List Oper → Act
  | _, [] => a0
  | k, o :: l => (putAll a0 u (k + 1) l).put o.dst (u k)
/-- Which operation leaves something in a slot. -/
def posD (d : Nat) : List Oper → Option Nat
  | [] => none
  | o :: l => if o.dst = some d then some 0 else (posD d l).map (· + 1)
theorem posD_some {d : Nat} : ∀ {l : List Oper} {j : Nat}, posD d l = some j → ∃ o, l[j]? = some o ∧ o.dst = some d
  | [], j, h => by cases h
  | o :: l, j, h => by
    unfold posD at h
    split at h
    · rename_i hd; cases h; exact ⟨o, rfl, hd⟩
    · cases hp : posD d l with
      | none => rw [hp] at h; cases h
      | some m =>
        rw [hp] at h
        simp only [Option.map_some, Option.some.injEq] at h
        subst h
        exact posD_some (l := l) hp
theorem posD_none {d : Nat} : ∀ {l : List Oper}, posD d l = none → ∀ (j : Nat) (o : Oper), l[j]? = some o → o.dst ≠ some d
  | [], _, j, o, ho => by simp at ho
  | o :: l, h, j, o', ho => by
    unfold posD at h
    split at h
    · cases h
    · rename_i hd
      cases j with
      | zero => simp at ho; subst ho; exact hd
      | succ j => exact posD_none (l := l) (by simpa using h) j o' (by simpa using ho)
theorem putAll_size (a0 : Act) (u : Nat → Value) : ∀ (l : List Oper) (k : Nat), (putAll a0 u k l).tmps.size = a0.tmps.size
  | [], _ => rfl
  | o :: l, k => by
    unfold putAll Act.put
    split <;> simp [putAll_size a0 u l (k + 1)]
theorem putAll_defers (a0 : Act) (u : Nat → Value) : ∀ (l : List Oper) (k : Nat), (putAll a0 u k l).defers = a0.defers
  | [], _ => rfl
  | o :: l, k => by
    unfold putAll Act.put
    split <;> simp [putAll_defers a0 u l (k + 1)]
theorem putAll_get (a0 : Act) (u : Nat → Value) (d : Nat) : ∀ (l : List Oper) (k : Nat), (putAll a0 u k l).tmps[d]? = match posD d l with | none => a0.tmps[d]? | some j => if d < a0.tmps.size then some (u (k + j)) else none
  | [], _ => rfl
  | o :: l, k => by
    have ih := putAll_get a0 u d l (k + 1)
    have hs := putAll_size a0 u l (k + 1)
    unfold putAll posD Act.put
    cases hd : o.dst with
    | none =>
      simp only [reduceCtorEq, if_false]
      rw [ih]
      cases posD d l with
      | none => rfl
      | some j => simp only [Option.map_some]; rw [show k + 1 + j = k + (j + 1) by omega]
    | some c =>
      simp only [Option.some.injEq]
      by_cases e : c = d
      · subst e
        rw [if_pos rfl, Array.getElem?_setIfInBounds, if_pos rfl, hs]
        simp only [Nat.add_zero]
      · rw [if_neg e, Array.getElem?_setIfInBounds, if_neg e, ih]
        cases posD d l with
        | none => rfl
        | some j => simp only [Option.map_some]; rw [show k + 1 + j = k + (j + 1) by omega]
def dstB (l : List Oper) : Bool := decide ((l.filterMap (·.dst)).Nodup)
theorem dst_one : ∀ {l : List Oper}, (l.filterMap (·.dst)).Nodup → ∀ {i j : Nat} {oi oj : Oper} {d : Nat}, l[i]? = some oi → l[j]? = some oj → oi.dst = some d → oj.dst = some d → i = j
  | [], _, i, j, oi, oj, d, h1, _, _, _ => by simp at h1
  | o :: l, hn, i, j, oi, oj, d, h1, h2, h3, h4 => by
    have mem : ∀ {m : Nat} {om : Oper}, l[m]? = some om → om.dst = some d → d ∈ l.filterMap (·.dst) := fun {m om} h h' => List.mem_filterMap.2 ⟨om, List.mem_of_getElem? h, h'⟩
    rw [List.filterMap_cons] at hn
    have hn' : (l.filterMap (·.dst)).Nodup ∧ (o.dst = some d → d ∉ l.filterMap (·.dst)) := by
      cases ho : o.dst with
      | none => rw [ho] at hn; exact ⟨hn, fun e => by cases e⟩
      | some c =>
        rw [ho] at hn
        obtain ⟨k1, k2⟩ := List.nodup_cons.1 hn
        exact ⟨k2, fun e => by cases e; exact k1⟩
    cases i with
    | zero =>
      simp at h1; subst h1
      cases j with
      | zero => rfl
      | succ j => exact absurd (mem (by simpa using h2) h4) (hn'.2 h3)
    | succ i =>
      cases j with
      | zero =>
        simp at h2; subst h2
        exact absurd (mem (by simpa using h1) h3) (hn'.2 h4)
      | succ j => exact congrArg (· + 1) (dst_one hn'.1 (by simpa using h1) (by simpa using h2) h3 h4)
def setU (u : Nat → Value) (i : Nat) (v : Value) : Nat → Value := fun j => if j = i then v else u j
theorem act_ext {a b : Act} (h1 : a.defers = b.defers) (h2 : ∀ d : Nat, a.tmps[d]? = b.tmps[d]?) : a = b := by
  obtain ⟨t1, d1⟩ := a
  obtain ⟨t2, d2⟩ := b
  have : t1 = t2 := Array.ext_getElem? h2
  cases this; cases h1; rfl
theorem putAll_put {a0 : Act} {u : Nat → Value} {l : List Oper} (hn : (l.filterMap (·.dst)).Nodup) {i : Nat} {o : Oper} (ho : l[i]? = some o) (v : Value) : (putAll a0 u 0 l).put o.dst v = putAll a0 (setU u i v) 0 l := by
  apply act_ext
  · rw [putAll_defers]
    unfold Act.put
    split <;> simp [putAll_defers]
  · intro d
    rw [putAll_get a0 (setU u i v) d l 0]
    have hg := putAll_get a0 u d l 0
    unfold Act.put
    cases hd : o.dst with
    | none =>
      simp only
      rw [hg]
      cases hp : posD d l with
      | none => rfl
      | some j =>
        obtain ⟨o', h1, h2⟩ := posD_some hp
        simp only [Nat.zero_add]
        have : j ≠ i := fun e => by subst e; rw [ho] at h1; cases h1; rw [hd] at h2; cases h2
        unfold setU; rw [if_neg this]
    | some c =>
      simp only
      rw [Array.getElem?_setIfInBounds, putAll_size, hg]
      by_cases e : c = d
      · subst e
        rw [if_pos rfl]
        cases hp : posD c l with
        | none => exact absurd hd (posD_none hp i o ho)
        | some j =>
          obtain ⟨o', h1, h2⟩ := posD_some hp
          have := dst_one hn h1 ho h2 hd
          simp only [Nat.zero_add]
          unfold setU; rw [if_pos this]
      · rw [if_neg e]
        cases hp : posD d l with
        | none => rfl
        | some j =>
          obtain ⟨o', h1, h2⟩ := posD_some hp
          simp only [Nat.zero_add]
          have : j ≠ i := fun e' => by subst e'; rw [ho] at h1; cases h1; rw [hd] at h2; cases h2; exact e rfl
          unfold setU; rw [if_neg this]
theorem putAll_self (a0 : Act) (l : List Oper) : ∃ u, putAll a0 u 0 l = a0 := by
  refine ⟨fun j => ((l[j]?).bind (·.dst)).elim undef (fun d => a0.tmps.getD d undef), act_ext (putAll_defers _ _ _ _) fun d => ?_⟩
  rw [putAll_get]
  cases hp : posD d l with
  | none => rfl
  | some j =>
    obtain ⟨o, h1, h2⟩ := posD_some hp
    simp only [Nat.zero_add, h1, Option.bind_some, h2, Option.elim]
    by_cases hd : d < a0.tmps.size
    · rw [if_pos hd]; simp [Array.getD, hd]
    · rw [if_neg hd]; simp [hd]
def depB (o : Oper) (j : Nat) : Bool := o.after.any fun e => Region.binds .any e && e.on == j
def aheadB : Nat → List Oper → Bool
  | _, [] => true
  | k, o :: l => o.guard.isNone && (o.after.all fun e => !Region.binds .any e || decide (e.on < k)) && aheadB (k + 1) l
theorem ahead_of : ∀ {l : List Oper} {k : Nat}, aheadB k l = true → ∀ {i : Nat} {o : Oper}, l[i]? = some o → o.guard = none ∧ ∀ e ∈ o.after, Region.binds .any e = true → e.on < k + i
  | [], k, _, i, o, h => by simp at h
  | o :: l, k, hb, i, o', h => by
    unfold aheadB at hb
    simp only [Bool.and_eq_true, Array.all_eq_true_iff_forall_mem, Bool.or_eq_true, Bool.not_eq_true', decide_eq_true_eq] at hb
    cases i with
    | zero =>
      simp at h; subst h
      refine ⟨by simpa using hb.1.1, fun e he hbe => ?_⟩
      rcases hb.1.2 e he with h | h
      · rw [hbe] at h; cases h
      · simpa using h
    | succ i =>
      have := ahead_of hb.2 (i := i) (o := o') (by simpa using h)
      exact ⟨this.1, fun e he hbe => by have := this.2 e he hbe; omega⟩
theorem opIn_plain {F : Fence} {n : Nat} {P : Program} {ops : Array Oper} {Q : Exit → Act → World → Prop} {i : Nat} {o : Oper} (ho : ops[i]? = some o) (hg : o.guard = none) {K : Act → World → Prop} {a : Act} {w : World} (h : o.wpIn F n P a w K Q) : wpOpIn F n P ops Q i K a w := by
  unfold wpOpIn
  rw [ho]
  simp only
  rw [if_pos (by unfold Region.wanted; rw [hg])]
  exact h
section
variable {n : Nat} {P : Program} {Q : Exit → Act → World → Prop} {a0 : Act} {w0 : World} {l : List Oper}
theorem any_free (hn : (l.filterMap (·.dst)).Nodup) (ha : aheadB 0 l = true) (V : Nat → Value → World → Prop) (hV : ∀ i v w w', V i v w → Below w.heap.size w w' → V i v w')
    (hop : ∀ i o, l[i]? = some o → ∀ u w, Below w0.heap.size w0 w → (∀ j, depB o j = true → V j (u j) w) → o.wpIn Fence.wide n P (putAll a0 u 0 l) w (fun a' w' => ∃ v, a' = (putAll a0 u 0 l).put o.dst v ∧ Below w.heap.size w w' ∧ V i v w') Q)
    (hend : ∀ u w, Below w0.heap.size w0 w → (∀ j, j < l.length → V j (u j) w) → Q .normal (putAll a0 u 0 l) w) :
    ∀ (fuel : Nat) (listed : Array Bool) (u : Nat → Value) (w : World), listed.size = l.length → (listed.toList.filter (fun b => !b)).length ≤ fuel → Below w0.heap.size w0 w → (∀ j, listed.getD j false = true → V j (u j) w) → wpAnyIn Fence.wide n P .any l.toArray Q fuel listed (putAll a0 u 0 l) w := by
  have fin : ∀ (listed : Array Bool) (u : Nat → Value) (w : World), listed.size = l.length → Below w0.heap.size w0 w → (∀ j, listed.getD j false = true → V j (u j) w) → Region.ready .any l.toArray listed = [] → Q .normal (putAll a0 u 0 l) w := by
    intro listed u w hs hb hv hr
    refine hend u w hb fun j hj => hv j ?_
    induction j using Nat.strongRecOn with
    | _ j ih =>
      cases hbj : listed.getD j false with
      | true => rfl
      | false =>
        exfalso
        have ho : l[j]? = some l[j] := List.getElem?_eq_getElem hj
        have hm : j ∈ Region.ready .any l.toArray listed := mem_ready.2 ⟨by rw [getD_of_lt (b := false) (by omega)]; exact hbj, _, by rw [List.getElem?_toArray]; exact ho, fun e he hbe => by
          have := (ahead_of ha ho).2 e he hbe
          exact ih e.on (by omega) (by omega)⟩
        rw [hr] at hm; cases hm
  intro fuel
  induction fuel with
  | zero =>
    intro listed u w hs hc hb hv
    have hr : Region.ready .any l.toArray listed = [] := by
      apply Classical.byContradiction
      intro hne
      obtain ⟨i, hi⟩ := List.exists_mem_of_ne_nil _ hne
      obtain ⟨h1, o, ho, h2⟩ := mem_ready.1 hi
      have hlt : i < listed.size := by rw [hs]; have := (Array.getElem?_eq_some_iff.1 ho).1; simpa using this
      have : false ∈ listed.toList.filter (fun b => !b) := List.mem_filter.2 ⟨by
        have e : listed[i] = false := by
          have : listed.getD i true = listed[i] := by simp [Array.getD, hlt]
          rw [← this]; exact h1
        rw [← e]
        exact Array.getElem_mem_toList hlt, rfl⟩
      have := List.length_pos_of_mem this
      omega
    exact ⟨hr, fin listed u w hs hb hv hr⟩
  | succ fuel ih =>
    intro listed u w hs hc hb hv
    refine ⟨fin listed u w hs hb hv, fun i hi => ?_⟩
    obtain ⟨h1, o, ho, h2⟩ := mem_ready.1 hi
    have ho' : l[i]? = some o := by simpa using ho
    have hlt : i < listed.size := by rw [hs]; exact (List.getElem?_eq_some_iff.1 ho').1
    have e1 : listed[i] = false := by
      have : listed.getD i true = listed[i] := by simp [Array.getD, hlt]
      rw [← this]; exact h1
    refine opIn_plain ho (ahead_of ha ho').1 (Oper.wpIn_mono ?_ (hop i o ho' u w hb fun j hj => hv j ?_))
    · rintro a' w' ⟨v, rfl, h3, h4⟩
      rw [putAll_put hn ho' v]
      refine ih _ _ _ (by simpa using hs) ?_ (bst hb h3) fun j hj => ?_
      · have hcnt : ∀ (xs : List Bool) (i : Nat) (hi : i < xs.length), xs[i] = false → ((xs.set i true).filter (fun b => !b)).length + 1 = (xs.filter (fun b => !b)).length := by
          intro xs
          induction xs with
          | nil => intro i hi; simp at hi
          | cons b xs ihx =>
            intro i hi he
            cases i with
            | zero => simp at he; subst he; simp
            | succ i =>
              have := ihx i (by simpa using hi) (by simpa using he)
              rw [List.set_cons_succ, List.filter_cons, List.filter_cons]
              split <;> (try simp only [List.length_cons]) <;> omega
        have := hcnt listed.toList i (by simpa using hlt) (by simpa using e1)
        rw [Array.toList_setIfInBounds]
        omega
      · unfold setU
        by_cases e : j = i
        · rw [if_pos e, e]; exact h4
        · rw [if_neg e]
          rw [getD_set_ne false (fun e' => e e'.symm)] at hj
          exact hV _ _ _ _ (hv j hj) h3
    · unfold depB at hj
      simp only [Array.any_eq_true', Bool.and_eq_true, beq_iff_eq] at hj
      obtain ⟨e, he, hbe, rfl⟩ := hj
      exact h2 e he hbe
/-- The law. -/
theorem region_free {id : Nat} (hm : P.follows .mixedOrders = true) (hn : dstB l = true) (ha : aheadB 0 l = true) (V : Nat → Value → World → Prop) (hV : ∀ i v w w', V i v w → Below w.heap.size w w' → V i v w')
    (hop : ∀ i o, l[i]? = some o → ∀ u w, Below w0.heap.size w0 w → (∀ j, depB o j = true → V j (u j) w) → o.wpIn Fence.wide n P (putAll a0 u 0 l) w (fun a' w' => ∃ v, a' = (putAll a0 u 0 l).put o.dst v ∧ Below w.heap.size w w' ∧ V i v w') Q)
    (hend : ∀ u w, Below w0.heap.size w0 w → (∀ j, j < l.length → V j (u j) w) → Q .normal (putAll a0 u 0 l) w) : (Code.region id l.toArray true).wpIn Fence.wide n P Q a0 w0 := by
  refine wpIn_region_any hm ?_
  obtain ⟨u, hu⟩ := putAll_self a0 l
  have := any_free (of_decide_eq_true hn) ha V hV hop hend l.toArray.size (Array.replicate l.toArray.size false) u { w0 with drawn := w0.drawn + 1 } (by simp) (by simp) ⟨rfl, rfl, rfl, Nat.le_refl _, fun _ _ => rfl⟩ (fun j hj => by
    exfalso
    simp [Array.getD] at hj)
  rw [hu] at this
  exact this
/-- The same within a round. -/
theorem region_freeR {id k : Nat} (hm : P.follows .mixedOrders = true) (hd : noDefer l = true) (hn : dstB l = true) (ha : aheadB 0 l = true) (V : Nat → Value → World → Prop) (hV : ∀ i v w w', V i v w → Below w.heap.size w w' → V i v w')
    (hop : ∀ i o, l[i]? = some o → ∀ u w, Below w0.heap.size w0 w → (∀ j, depB o j = true → V j (u j) w) → o.wpIn Fence.wide n P (putAll a0 u 0 l) w (fun a' w' => ∃ v, a' = (putAll a0 u 0 l).put o.dst v ∧ Below w.heap.size w w' ∧ V i v w') Q)
    (hend : ∀ u w, Below w0.heap.size w0 w → (∀ j, j < l.length → V j (u j) w) → Q .normal (putAll a0 u 0 l) w) : (Code.region id l.toArray true).wpIn (Fence.wide.inRound k) n P Q a0 w0 := by
  refine wpIn_region_any hm (any_round hd _ _ _ _ ?_)
  obtain ⟨u, hu⟩ := putAll_self a0 l
  have := any_free (of_decide_eq_true hn) ha V hV hop hend l.toArray.size (Array.replicate l.toArray.size false) u { w0 with drawn := w0.drawn + 1 } (by simp) (by simp) ⟨rfl, rfl, rfl, Nat.le_refl _, fun _ _ => rfl⟩ (fun j hj => by
    exfalso
    simp [Array.getD] at hj)
  rw [hu] at this
  exact this
end
end Go.Proofs.Ytgdpplipahhffaa
namespace Go.Proofs.Ytgdpplipahhffaa
open Go.RowKit
set_option linter.unusedVariables false
set_option linter.unusedSimpArgs false

theorem op_plain {P : Program} {ops : Array Oper} {Q : Exit → Act → World → Prop} {i : Nat} {o : Oper} (ho : ops[i]? = some o) (hg : o.guard = none) {K : Act → World → Prop} {a : Act} {w : World} (h : o.wp P a w K Q) : wpOp P ops Q i K a w := by
  unfold wpOp
  rw [ho]
  simp only
  rw [if_pos (by unfold Region.wanted; rw [hg])]
  exact .inl h
section
variable {P : Program} {Q : Exit → Act → World → Prop} {a0 : Act} {w0 : World} {l : List Oper}
theorem any_free0 (hn : (l.filterMap (·.dst)).Nodup) (ha : aheadB 0 l = true) (V : Nat → Value → World → Prop) (hV : ∀ i v w w', V i v w → Below w.heap.size w w' → V i v w')
    (hop : ∀ i o, l[i]? = some o → ∀ u w, Below w0.heap.size w0 w → (∀ j, depB o j = true → V j (u j) w) → o.wp P (putAll a0 u 0 l) w (fun a' w' => ∃ v, a' = (putAll a0 u 0 l).put o.dst v ∧ Below w.heap.size w w' ∧ V i v w') Q)
    (hend : ∀ u w, Below w0.heap.size w0 w → (∀ j, j < l.length → V j (u j) w) → Q .normal (putAll a0 u 0 l) w) :
    ∀ (fuel : Nat) (listed : Array Bool) (u : Nat → Value) (w : World), listed.size = l.length → (listed.toList.filter (fun b => !b)).length ≤ fuel → Below w0.heap.size w0 w → (∀ j, listed.getD j false = true → V j (u j) w) → wpAny P .any l.toArray Q fuel listed (putAll a0 u 0 l) w := by
  have fin : ∀ (listed : Array Bool) (u : Nat → Value) (w : World), listed.size = l.length → Below w0.heap.size w0 w → (∀ j, listed.getD j false = true → V j (u j) w) → Region.ready .any l.toArray listed = [] → Q .normal (putAll a0 u 0 l) w := by
    intro listed u w hs hb hv hr
    refine hend u w hb fun j hj => hv j ?_
    induction j using Nat.strongRecOn with
    | _ j ih =>
      cases hbj : listed.getD j false with
      | true => rfl
      | false =>
        exfalso
        have ho : l[j]? = some l[j] := List.getElem?_eq_getElem hj
        have hm : j ∈ Region.ready .any l.toArray listed := mem_ready.2 ⟨by rw [getD_of_lt (b := false) (by omega)]; exact hbj, _, by rw [List.getElem?_toArray]; exact ho, fun e he hbe => by
          have := (ahead_of ha ho).2 e he hbe
          exact ih e.on (by omega) (by omega)⟩
        rw [hr] at hm; cases hm
  intro fuel
  induction fuel with
  | zero =>
    intro listed u w hs hc hb hv
    have hr : Region.ready .any l.toArray listed = [] := by
      apply Classical.byContradiction
      intro hne
      obtain ⟨i, hi⟩ := List.exists_mem_of_ne_nil _ hne
      obtain ⟨h1, o, ho, h2⟩ := mem_ready.1 hi
      have hlt : i < listed.size := by rw [hs]; have := (Array.getElem?_eq_some_iff.1 ho).1; simpa using this
      have : false ∈ listed.toList.filter (fun b => !b) := List.mem_filter.2 ⟨by
        have e : listed[i] = false := by
          have : listed.getD i true = listed[i] := by simp [Array.getD, hlt]
          rw [← this]; exact h1
        rw [← e]
        exact Array.getElem_mem_toList hlt, rfl⟩
      have := List.length_pos_of_mem this
      omega
    exact ⟨hr, fin listed u w hs hb hv hr⟩
  | succ fuel ih =>
    intro listed u w hs hc hb hv
    refine ⟨fin listed u w hs hb hv, fun i hi => ?_⟩
    obtain ⟨h1, o, ho, h2⟩ := mem_ready.1 hi
    have ho' : l[i]? = some o := by simpa using ho
    have hlt : i < listed.size := by rw [hs]; exact (List.getElem?_eq_some_iff.1 ho').1
    have e1 : listed[i] = false := by
      have : listed.getD i true = listed[i] := by simp [Array.getD, hlt]
      rw [← this]; exact h1
    refine op_plain ho (ahead_of ha ho').1 (Oper.wp_mono ?_ (hop i o ho' u w hb fun j hj => hv j ?_))
    · rintro a' w' ⟨v, rfl, h3, h4⟩
      rw [putAll_put hn ho' v]
      refine ih _ _ _ (by simpa using hs) ?_ (bst hb h3) fun j hj => ?_
      · have hcnt : ∀ (xs : List Bool) (i : Nat) (hi : i < xs.length), xs[i] = false → ((xs.set i true).filter (fun b => !b)).length + 1 = (xs.filter (fun b => !b)).length := by
          intro xs
          induction xs with
          | nil => intro i hi; simp at hi
          | cons b xs ihx =>
            intro i hi he
            cases i with
            | zero => simp at he; subst he; simp
            | succ i =>
              have := ihx i (by simpa using hi) (by simpa using he)
              rw [List.set_cons_succ, List.filter_cons, List.filter_cons]
              split <;> (try simp only [List.length_cons]) <;> omega
        have := hcnt listed.toList i (by simpa using hlt) (by simpa using e1)
        rw [Array.toList_setIfInBounds]
        omega
      · unfold setU
        by_cases e : j = i
        · rw [if_pos e, e]; exact h4
        · rw [if_neg e]
          rw [getD_set_ne false (fun e' => e e'.symm)] at hj
          exact hV _ _ _ _ (hv j hj) h3
    · unfold depB at hj
      simp only [Array.any_eq_true', Bool.and_eq_true, beq_iff_eq] at hj
      obtain ⟨e, he, hbe, rfl⟩ := hj
      exact h2 e he hbe
/-- The law. -/
theorem region_free0 {id : Nat} (hm : P.follows .mixedOrders = true) (hn : dstB l = true) (ha : aheadB 0 l = true) (V : Nat → Value → World → Prop) (hV : ∀ i v w w', V i v w → Below w.heap.size w w' → V i v w')
    (hop : ∀ i o, l[i]? = some o → ∀ u w, Below w0.heap.size w0 w → (∀ j, depB o j = true → V j (u j) w) → o.wp P (putAll a0 u 0 l) w (fun a' w' => ∃ v, a' = (putAll a0 u 0 l).put o.dst v ∧ Below w.heap.size w w' ∧ V i v w') Q)
    (hend : ∀ u w, Below w0.heap.size w0 w → (∀ j, j < l.length → V j (u j) w) → Q .normal (putAll a0 u 0 l) w) : (Code.region id l.toArray true).wp P Q a0 w0 := by
  refine wp_region_any hm ?_
  obtain ⟨u, hu⟩ := putAll_self a0 l
  have := any_free0 (of_decide_eq_true hn) ha V hV hop hend l.toArray.size (Array.replicate l.toArray.size false) u { w0 with drawn := w0.drawn + 1 } (by simp) (by simp) ⟨rfl, rfl, rfl, Nat.le_refl _, fun _ _ => rfl⟩ (fun j hj => by
    exfalso
    simp [Array.getD] at hj)
  rw [hu] at this
  exact this
end
theorem eval_dst {a0 : Act} {u : Nat → Value} {l : List Oper} {s j : Nat} (h : posD s l = some j) (hs : decide (s < a0.tmps.size) = true) : (putAll a0 u 0 l).eval (.tmp s) = u j := by
  have := putAll_get a0 u s l 0
  rw [h] at this
  simp only [Nat.zero_add] at this
  rw [if_pos (of_decide_eq_true hs)] at this
  show (putAll a0 u 0 l).tmps.getD s undef = u j
  rw [Array.getD_eq_getD_getElem?, this]; rfl
theorem eval_base {a0 : Act} {u : Nat → Value} {l : List Oper} {s : Nat} (h : posD s l = none) : (putAll a0 u 0 l).eval (.tmp s) = a0.eval (.tmp s) := by
  have := putAll_get a0 u s l 0
  rw [h] at this
  show (putAll a0 u 0 l).tmps.getD s undef = a0.tmps.getD s undef
  rw [Array.getD_eq_getD_getElem?, this, Array.getD_eq_getD_getElem?]
/-- The law, the frame out of sight. -/
theorem region_free1 {P : Program} {Q : Exit → Act → World → Prop} {a0 : Act} {w0 : World} {l : List Oper} {id : Nat} (hm : P.follows .mixedOrders = true) (hn : dstB l = true) (ha : aheadB 0 l = true) (V : Nat → Value → World → Prop) (hV : ∀ i v w w', V i v w → Below w.heap.size w w' → V i v w')
    (hop : ∀ (A : Act) (u : Nat → Value) (w : World), Below w0.heap.size w0 w → (∀ s j, posD s l = some j → decide (s < a0.tmps.size) = true → A.eval (.tmp s) = u j) → (∀ s, posD s l = none → A.eval (.tmp s) = a0.eval (.tmp s)) → ∀ i o, l[i]? = some o → (∀ j, depB o j = true → V j (u j) w) → o.wp P A w (fun a' w' => ∃ v, a' = A.put o.dst v ∧ Below w.heap.size w w' ∧ V i v w') Q)
    (hend : ∀ (A : Act) (u : Nat → Value) (w : World), Below w0.heap.size w0 w → (∀ s j, posD s l = some j → decide (s < a0.tmps.size) = true → A.eval (.tmp s) = u j) → (∀ s, posD s l = none → A.eval (.tmp s) = a0.eval (.tmp s)) → A.defers = a0.defers → A.tmps.size = a0.tmps.size → (∀ j, j < l.length → V j (u j) w) → Q .normal A w) : (Code.region id l.toArray true).wp P Q a0 w0 :=
  region_free0 hm hn ha V hV (fun i o ho u w hb hv => hop _ u w hb (fun s j h1 h2 => eval_dst h1 h2) (fun s h => eval_base h) i o ho hv)
    (fun u w hb hv => hend _ u w hb (fun s j h1 h2 => eval_dst h1 h2) (fun s h => eval_base h) (putAll_defers _ _ _ _) (putAll_size _ _ _ _) hv)
theorem region_free1R {P : Program} {n k : Nat} {Q : Exit → Act → World → Prop} {a0 : Act} {w0 : World} {l : List Oper} {id : Nat} (hm : P.follows .mixedOrders = true) (hd : noDefer l = true) (hn : dstB l = true) (ha : aheadB 0 l = true) (V : Nat → Value → World → Prop) (hV : ∀ i v w w', V i v w → Below w.heap.size w w' → V i v w')
    (hop : ∀ (A : Act) (u : Nat → Value) (w : World), Below w0.heap.size w0 w → (∀ s j, posD s l = some j → decide (s < a0.tmps.size) = true → A.eval (.tmp s) = u j) → (∀ s, posD s l = none → A.eval (.tmp s) = a0.eval (.tmp s)) → ∀ i o, l[i]? = some o → (∀ j, depB o j = true → V j (u j) w) → o.wpIn Fence.wide n P A w (fun a' w' => ∃ v, a' = A.put o.dst v ∧ Below w.heap.size w w' ∧ V i v w') Q)
    (hend : ∀ (u : Nat → Value) (w : World), Below w0.heap.size w0 w → (∀ j, j < l.length → V j (u j) w) → Q .normal (putAll a0 u 0 l) w) : (Code.region id l.toArray true).wpIn (Fence.wide.inRound k) n P Q a0 w0 :=
  region_freeR hm hd hn ha V hV (fun i o ho u w hb hv => hop _ u w hb (fun s j h1 h2 => eval_dst h1 h2) (fun s h => eval_base h) i o ho hv) hend
theorem region_free1W {P : Program} {n : Nat} {Q : Exit → Act → World → Prop} {a0 : Act} {w0 : World} {l : List Oper} {id : Nat} (hm : P.follows .mixedOrders = true) (hn : dstB l = true) (ha : aheadB 0 l = true) (V : Nat → Value → World → Prop) (hV : ∀ i v w w', V i v w → Below w.heap.size w w' → V i v w')
    (hop : ∀ (A : Act) (u : Nat → Value) (w : World), Below w0.heap.size w0 w → (∀ s j, posD s l = some j → decide (s < a0.tmps.size) = true → A.eval (.tmp s) = u j) → (∀ s, posD s l = none → A.eval (.tmp s) = a0.eval (.tmp s)) → ∀ i o, l[i]? = some o → (∀ j, depB o j = true → V j (u j) w) → o.wpIn Fence.wide n P A w (fun a' w' => ∃ v, a' = A.put o.dst v ∧ Below w.heap.size w w' ∧ V i v w') Q)
    (hend : ∀ (u : Nat → Value) (w : World), Below w0.heap.size w0 w → (∀ j, j < l.length → V j (u j) w) → Q .normal (putAll a0 u 0 l) w) : (Code.region id l.toArray true).wpIn Fence.wide n P Q a0 w0 :=
  region_free hm hn ha V hV (fun i o ho u w hb hv => hop _ u w hb (fun s j h1 h2 => eval_dst h1 h2) (fun s h => eval_base h) i o ho hv) hend
end Go.Proofs.Ytgdpplipahhffaa
