/- A region that draws its order, and in which one operation waits for all those ahead of it: what is ahead only reads or grows the world, and goes by the text's order; the rest is walked as it comes. -/
import Derived.Test.YtgdpplipahhffaaGi
namespace Go.Proofs.Ytgdpplipahhffaa
open Go.RowKit
set_option linter.unusedVariables false
set_option linter.unusedSimpArgs false

/-- Operation i waits for operation j, and says so itself. -/
def waitsFor (md : Region.Mode) (ops : Array Oper) (i j : Nat) : Bool := ((ops[i]?).map fun o => o.after.any fun e => Region.binds md e && e.on == j).getD false
/-- Operation k waits for all ahead of it, all behind it wait for it or for one another; those ahead of it wait for what stands ahead of them alone, and so do their guards. -/
def gate (md : Region.Mode) (ops : Array Oper) (k : Nat) : Bool :=
  ((List.range k).all fun j => (List.range ops.size).any fun i => decide (j < i) && decide (i ≤ k) && waitsFor md ops i j) &&
  ((List.range ops.size).all fun i => decide (i ≤ k) || (List.range ops.size).any fun j => decide (k ≤ j) && waitsFor md ops i j) &&
  ((List.range k).all fun i => ((ops[i]?).map fun o => (o.after.all fun e => !Region.binds md e || decide (e.on < i)) && (match o.guard with | none => true | some (g, _) => decide (g < k))).getD false) &&
  decide (k < ops.size)

theorem waitsFor_iff {md : Region.Mode} {ops : Array Oper} {i j : Nat} (h : waitsFor md ops i j = true) : ∃ o, ops[i]? = some o ∧ ∃ e ∈ o.after, Region.binds md e = true ∧ e.on = j := by
  unfold waitsFor at h
  cases ho : ops[i]? with
  | none => rw [ho] at h; cases h
  | some o =>
    rw [ho] at h
    simp only [Option.map_some, Option.getD_some, Array.any_eq_true', Bool.and_eq_true, beq_iff_eq] at h
    obtain ⟨e, he, hb, hj⟩ := h
    exact ⟨o, rfl, e, he, hb, hj⟩
structure Gate (md : Region.Mode) (ops : Array Oper) (k : Nat) : Prop where
  up : ∀ j, j < k → ∃ i, j < i ∧ i ≤ k ∧ ∃ o, ops[i]? = some o ∧ ∃ e ∈ o.after, Region.binds md e = true ∧ e.on = j
  behind : ∀ i, k < i → i < ops.size → ∃ j, k ≤ j ∧ j < ops.size ∧ ∃ o, ops[i]? = some o ∧ ∃ e ∈ o.after, Region.binds md e = true ∧ e.on = j
  ahead : ∀ i o, i < k → ops[i]? = some o → (∀ e ∈ o.after, Region.binds md e = true → e.on < i) ∧ ∀ g b, o.guard = some (g, b) → g < k
  lt : k < ops.size
theorem gate_of {md : Region.Mode} {ops : Array Oper} {k : Nat} (h : gate md ops k = true) : Gate md ops k := by
  unfold gate at h
  simp only [Bool.and_eq_true, List.all_eq_true, List.any_eq_true, List.mem_range, decide_eq_true_eq, Bool.or_eq_true] at h
  obtain ⟨⟨⟨h1, h2⟩, h3⟩, h4⟩ := h
  refine ⟨fun j hj => ?_, fun i hi hs => ?_, fun i o hi ho => ?_, h4⟩
  · obtain ⟨i, _, ⟨h5, h6⟩, h7⟩ := h1 j hj
    exact ⟨i, h5, h6, waitsFor_iff h7⟩
  · rcases h2 i hs with h5 | ⟨j, hj, h5, h6⟩
    · omega
    · exact ⟨j, h5, hj, waitsFor_iff h6⟩
  · have h5 := h3 i hi
    rw [ho] at h5
    simp only [Option.map_some, Option.getD_some, Bool.and_eq_true, Array.all_eq_true_iff_forall_mem, Bool.or_eq_true, Bool.not_eq_true', decide_eq_true_eq] at h5
    refine ⟨fun e he hb => ?_, fun g b hg => ?_⟩
    · rcases h5.1 e he with h6 | h6
      · rw [hb] at h6; cases h6
      · exact h6
    · have h6 := h5.2
      rw [hg] at h6
      simpa using h6
/-- Nothing from k on has come up; what has come up had waited for what it waits for. -/
structure Ahead (md : Region.Mode) (ops : Array Oper) (k : Nat) (listed : Array Bool) : Prop where
  size : listed.size = ops.size
  rest : ∀ i, k ≤ i → i < ops.size → listed.getD i true = false
  closed : ∀ j o, j < k → listed.getD j false = true → ops[j]? = some o → ∀ e ∈ o.after, Region.binds md e = true → listed.getD e.on false = true
section
variable {md : Region.Mode} {ops : Array Oper} {k : Nat} {listed : Array Bool}
theorem getD_of_lt {listed : Array Bool} {i : Nat} {a b : Bool} (h : i < listed.size) : listed.getD i a = listed.getD i b := by
  simp [Array.getD, h]
theorem Ahead.all_of_ready (ha : Ahead md ops k listed) (hg : Gate md ops k) {i : Nat} (hi : i ∈ Region.ready md ops listed) : i < k ∨ ∀ j, j < k → listed.getD j false = true := by
  obtain ⟨h1, o, ho, h2⟩ := mem_ready.1 hi
  have hlt : i < ops.size := (Array.getElem?_eq_some_iff.1 ho).1
  by_cases hik : i < k
  · exact .inl hik
  right
  by_cases hk : i = k
  · subst hk
    intro j
    induction hd : i - j using Nat.strongRecOn generalizing j with
    | _ d ih =>
      intro hj
      obtain ⟨i', h3, h4, o', ho', e, he, hb, rfl⟩ := hg.up j hj
      by_cases hii : i' = i
      · subst hii
        rw [ho] at ho'; cases ho'
        exact h2 e he hb
      · have := ih (i - i') (by omega) i' rfl (by omega)
        exact ha.closed i' o' (by omega) this ho' e he hb
  · obtain ⟨j, h3, h4, o', ho', e, he, hb, rfl⟩ := hg.behind i (by omega) hlt
    rw [ho] at ho'; cases ho'
    have h5 := h2 e he hb
    have h6 := ha.rest e.on h3 h4
    rw [getD_of_lt (b := false) (by rw [ha.size]; exact h4), h5] at h6
    cases h6
end
section
variable {md : Region.Mode} {l : List Oper} {k : Nat} {listed : Array Bool}
theorem take_get {i : Nat} (hi : i < k) : (l.take k).toArray[i]? = l.toArray[i]? := by
  simp [List.getElem?_take, hi]
theorem Ahead.all_of_none (ha : Ahead md l.toArray k listed) (hg : Gate md l.toArray k) (h : Region.ready md (l.take k).toArray listed = []) : ∀ j, j < k → listed.getD j false = true := by
  intro j
  induction j using Nat.strongRecOn with
  | _ j ih =>
    intro hj
    cases hb : listed.getD j false with
    | true => rfl
    | false =>
      exfalso
      have hlt : j < l.toArray.size := Nat.lt_trans hj hg.lt
      have ho : l.toArray[j]? = some l.toArray[j] := Array.getElem?_eq_getElem hlt
      have hm : j ∈ Region.ready md (l.take k).toArray listed := mem_ready.2 ⟨by rw [getD_of_lt (b := false) (by rw [ha.size]; exact hlt)]; exact hb, _, (take_get hj).trans ho, fun e he hbe => by
        have := (hg.ahead j _ hj ho).1 e he hbe
        exact ih e.on this (by omega)⟩
      rw [h] at hm; cases hm
theorem ready_of_take {i : Nat} (hi : i < k) (h : i ∈ Region.ready md l.toArray listed) : i ∈ Region.ready md (l.take k).toArray listed := by
  obtain ⟨h1, o, ho, h2⟩ := mem_ready.1 h
  exact mem_ready.2 ⟨h1, o, (take_get hi).trans ho, h2⟩
theorem take_of_ready {i : Nat} (h : i ∈ Region.ready md (l.take k).toArray listed) : i < k ∧ i ∈ Region.ready md l.toArray listed := by
  obtain ⟨h1, o, ho, h2⟩ := mem_ready.1 h
  have hi : i < k := by
    have := (Array.getElem?_eq_some_iff.1 ho).1
    simp at this
    omega
  exact ⟨hi, mem_ready.2 ⟨h1, o, (take_get hi).symm.trans ho, h2⟩⟩
theorem Ahead.set (ha : Ahead md l.toArray k listed) {i : Nat} (hi : i < k) (h : i ∈ Region.ready md l.toArray listed) : Ahead md l.toArray k (listed.setIfInBounds i true) := by
  obtain ⟨h1, o, ho, h2⟩ := mem_ready.1 h
  have hs := ha.size
  have keep : ∀ j, listed.getD j false = true → (listed.setIfInBounds i true).getD j false = true := fun j hj => by
    by_cases e : i = j
    · subst e
      have : i < listed.size := by rw [hs]; exact (Array.getElem?_eq_some_iff.1 ho).1
      simp [Array.getD, this]
    · rw [getD_set_ne false e]; exact hj
  refine ⟨by simpa using hs, fun j hj hl => ?_, fun j o' hj hl ho' e he hb => ?_⟩
  · rw [getD_set_ne true (by omega)]; exact ha.rest j hj hl
  · by_cases e' : i = j
    · subst e'
      rw [ho] at ho'; cases ho'
      exact keep _ (h2 e he hb)
    · rw [getD_set_ne false e'] at hl
      exact keep _ (ha.closed j o' hj hl ho' e he hb)
variable {F : Fence} {n : Nat} {P : Program} {C : World → Prop} {Q' : Exit → Act → World → Prop}
theorem anyIn_more {ops : Array Oper} : ∀ (fuel : Nat) (listed : Array Bool) (a : Act) (w : World), wpAnyIn F n P md ops Q' fuel listed a w → wpAnyIn F n P md ops Q' (fuel + 1) listed a w
  | 0, listed, a, w, h => ⟨fun _ => h.2, fun i hi => by rw [h.1] at hi; cases hi⟩
  | fuel + 1, listed, a, w, h => ⟨h.1, fun i hi => by
    have h2 := h.2 i hi
    unfold wpOpIn at h2 ⊢
    split
    · rename_i ho; rw [ho] at h2; exact anyIn_more fuel _ _ _ h2
    · rename_i o ho
      rw [ho] at h2
      simp only at h2 ⊢
      split
      · rename_i hw
        rw [if_pos hw] at h2
        exact Oper.wpIn_mono (fun a w h => anyIn_more fuel _ a w h) h2
      · rename_i hw
        rw [if_neg hw] at h2
        exact ⟨h2.1, anyIn_more fuel _ _ _ h2.2⟩⟩
theorem anyIn_more' {ops : Array Oper} {fuel : Nat} {listed : Array Bool} {a : Act} {w : World} (h : wpAnyIn F n P md ops Q' fuel listed a w) : ∀ m, wpAnyIn F n P md ops Q' (m + fuel) listed a w
  | 0 => by rw [Nat.zero_add]; exact h
  | m + 1 => by rw [Nat.add_right_comm]; exact anyIn_more _ _ _ _ (anyIn_more' h m)
theorem opIn_take {i : Nat} {K : Act → World → Prop} {a : Act} {w : World} (hg : Gate md l.toArray k) (hi : i < k) (h : wpOpIn F n P (l.take k).toArray Q' i K a w) : wpOpIn F n P l.toArray Q' i K a w := by
  unfold wpOpIn at h ⊢
  rw [take_get hi] at h
  cases ho : l.toArray[i]? with
  | none => rw [ho] at h; exact h
  | some o =>
    rw [ho] at h
    simp only at h ⊢
    have hw : Region.wanted o (yielded l.toArray a.tmps) = Region.wanted o (yielded (l.take k).toArray a.tmps) := by
      unfold Region.wanted
      cases hgd : o.guard with
      | none => rfl
      | some gb =>
        obtain ⟨g, b⟩ := gb
        have hgk := (hg.ahead i o hi ho).2 g b hgd
        simp only
        have : yielded l.toArray a.tmps g = yielded (l.take k).toArray a.tmps g := by
          unfold yielded
          rw [take_get hgk]
        rw [this]
    rw [hw]; exact h
/-- What has come up when all ahead of k has. -/
def upTo (k r : Nat) : Array Bool := (List.replicate k true ++ List.replicate r false).toArray
theorem Ahead.eq_upTo (ha : Ahead md l.toArray k listed) (hg : Gate md l.toArray k) (h : ∀ j, j < k → listed.getD j false = true) : listed = upTo k (l.length - k) := by
  have hk : k < l.length := by simpa using hg.lt
  have hs : listed.size = l.length := by simpa using ha.size
  apply Array.ext
  · simp [upTo]; omega
  · intro i h1 h2
    have e1 : ∀ b, listed.getD i b = listed[i] := fun b => by simp [Array.getD, h1]
    by_cases hi : i < k
    · have := h i hi
      rw [e1] at this
      rw [this]
      simp [upTo, List.getElem_append, hi]
    · have := ha.rest i (by omega) (by simpa using (by omega : i < l.length))
      rw [e1] at this
      rw [this]
      simp [upTo, List.getElem_append, hi]
theorem any_gate (hro : F.round = none) (hg : Gate md l.toArray k) {R : Act → Prop} (hR : ∀ a w, C w → R a → wpAnyIn F n P md l.toArray Q' (l.length - k) (upTo k (l.length - k)) a w) : ∀ (fuel : Nat) (listed : Array Bool) (a : Act) (w : World), C w → Ahead md l.toArray k listed →
    wpAnyQIn F n P md (l.take k).toArray C R fuel listed a → wpAnyIn F n P md l.toArray Q' (fuel + (l.length - k)) listed a w
  | 0, listed, a, w, hw, ha, h => by
    rw [Nat.zero_add, ha.eq_upTo hg (ha.all_of_none hg h.1)]
    exact hR a w hw h.2
  | fuel + 1, listed, a, w, hw, ha, h => by
    by_cases hr : Region.ready md (l.take k).toArray listed = []
    · refine anyIn_more' ?_ _
      rw [ha.eq_upTo hg (ha.all_of_none hg hr)]
      exact hR a w hw (h.1 hr)
    · rw [Nat.add_right_comm]
      refine ⟨fun e => ?_, fun i hi => ?_⟩
      · obtain ⟨i, hi⟩ := List.exists_mem_of_ne_nil _ hr
        have := (take_of_ready hi).2
        rw [e] at this; cases this
      · have hik : i < k := by
          rcases ha.all_of_ready hg hi with h1 | h1
          · exact h1
          · exfalso
            obtain ⟨j, hj⟩ := List.exists_mem_of_ne_nil _ hr
            obtain ⟨hjk, hj2⟩ := take_of_ready hj
            have h3 := (mem_ready.1 hj2).1
            rw [getD_of_lt (b := false) (by rw [ha.size]; exact Nat.lt_trans hjk hg.lt), h1 j hjk] at h3
            cases h3
        have h4 := h.2 i (ready_of_take hik hi)
        exact opIn_take hg hik (wpOpIn_of_qOpIn hro hw (fun a' w' hw' h5 => any_gate hro hg hR fuel _ a' w' hw' (ha.set hik hi) h5) h4)
theorem ahead_start (hk : k < l.length) : Ahead md l.toArray k (Array.replicate l.length false) := by
  refine ⟨by simp, fun i _ hi => ?_, fun j o _ hj => ?_⟩
  · have : i < l.length := by simpa using hi
    simp [Array.getD, this]
  · by_cases h : j < l.length
    · simp [Array.getD, h] at hj
    · simp [Array.getD, h] at hj
end
/-- The region's law within a round: the text's order up to the gate, then what comes. -/
theorem gate_round {j n : Nat} {P : Program} {id : Nat} {Q : Exit → Act → World → Prop} {a : Act} {w : World} {l : List Oper} (k : Nat) (hm : P.follows .mixedOrders = true) (hd : noDefer l = true) (hg : gate .any l.toArray k = true)
    (hs : Region.noSelect (l.take k).toArray = true) (hB : Region.lexFrom .any (l.take k).toArray (l.take k).length 0 (Array.replicate l.length false) = true)
    (h : wpQuietIn Fence.wide n P (l.take k).toArray (fun w' => ∃ z : Grown w, w' = gw z) (fun a' => ∀ w', (∃ z : Grown w, w' = gw z) → wpAnyIn Fence.wide n P .any l.toArray Q (l.length - k) (upTo k (l.length - k)) a' w') (l.take k) a) :
    (Code.region id l.toArray true).wpIn (Fence.wide.inRound j) n P Q a w := by
  have hG := gate_of hg
  have hk : k < l.length := by simpa using hG.lt
  refine wpIn_region_any hm (any_round hd _ _ _ _ ?_)
  have h2 := wpAnyQIn_lex (F := Fence.wide) (n := n) (C := fun w' => ∃ z : Grown w, w' = gw z) (md := .any) hs (l.take k) 0 (Array.replicate l.length false) a (by simp) hB h
  have h3 := any_gate (F := Fence.wide) (n := n) (P := P) (Q' := Q) (C := fun w' => ∃ z : Grown w, w' = gw z) rfl hG (fun a w hw h => h w hw) _ _ _ _ (gw_drawn w) (ahead_start hk) h2
  have e : (l.take k).length + (l.length - k) = l.toArray.size := by simp; omega
  rw [e] at h3
  simpa using h3
end Go.Proofs.Ytgdpplipahhffaa
