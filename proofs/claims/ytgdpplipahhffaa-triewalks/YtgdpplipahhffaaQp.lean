/- A region that draws its order, whose operations leave the world alone, and whose last one, which waits for all the others, never comes back: one walk of the lexical order serves every order. -/
import Derived.Test.YtgdpplipahhffaaKe
import Derived.Deep.Quiet
import Derived.Deep.QuietTactic
namespace Go.Proofs.Ytgdpplipahhffaa
open Go.RowKit
set_option linter.unusedVariables false
set_option linter.unusedSimpArgs false

/-- A harmless operation in the last one's place. -/
def stand (o : Oper) : Oper := { o with op := .move (.const undef), dst := none, guard := none }
def swapLast : List Oper → List Oper
  | [] => []
  | [o] => [stand o]
  | o :: p :: l => o :: swapLast (p :: l)
def lastOp : List Oper → Option Oper
  | [] => none
  | [o] => some o
  | _ :: p :: l => lastOp (p :: l)
/-- Each operation but the last one is waited for by a later one; none waits for a later one; none hangs on the last one; the last one has no guard. -/
def lastB (l : List Oper) : Bool :=
  (List.range l.length).all fun i =>
    (match l[i]? with | some o => o.after.all (fun e => decide (e.on < i)) && (match o.guard with | some (j, _) => decide (j + 1 < l.length) && decide (i + 1 < l.length) | none => true) | none => true) &&
    (decide (i + 1 = l.length) || (List.range l.length).any fun j => decide (i < j) && (match l[j]? with | some o => o.after.any (fun e => Region.binds .any e && decide (e.on = i)) | none => false))
theorem swap_len : ∀ l : List Oper, (swapLast l).length = l.length
  | [] => rfl
  | [_] => rfl
  | _ :: p :: l => by rw [swapLast, List.length_cons, swap_len (p :: l)]; rfl
theorem swap_get : ∀ (l : List Oper) (i : Nat), i + 1 ≠ l.length → (swapLast l)[i]? = l[i]?
  | [], _, _ => rfl
  | [_], 0, h => absurd rfl h
  | [_], i + 1, _ => rfl
  | _ :: p :: l, 0, _ => rfl
  | _ :: p :: l, i + 1, h => by rw [swapLast, List.getElem?_cons_succ, List.getElem?_cons_succ]; exact swap_get (p :: l) i (fun e => h (by rw [List.length_cons, ← e]))
theorem swap_last : ∀ (l : List Oper) (o : Oper), lastOp l = some o → (swapLast l)[l.length - 1]? = some (stand o) ∧ l[l.length - 1]? = some o ∧ 0 < l.length
  | [], _, h => by cases h
  | [p], o, h => by cases h; exact ⟨rfl, rfl, by simp⟩
  | q :: p :: l, o, h => by
    obtain ⟨h1, h2, h3⟩ := swap_last (p :: l) o h
    refine ⟨?_, ?_, by simp⟩
    · rw [swapLast, show (q :: p :: l).length - 1 = ((p :: l).length - 1) + 1 by simp, List.getElem?_cons_succ]; exact h1
    · rw [show (q :: p :: l).length - 1 = ((p :: l).length - 1) + 1 by simp, List.getElem?_cons_succ]; exact h2
section
variable {P : Program} {C : World → Prop} {Q : Exit → Act → World → Prop} {l : List Oper} {oL : Oper}
/-- What is listed has all that it waits for listed. -/
def Closed (l : List Oper) (listed : Array Bool) : Prop := listed.size = l.length ∧ ∀ j o, l[j]? = some o → listed.getD j true = true → ∀ e ∈ o.after, Region.binds .any e = true → listed.getD e.on false = true
theorem lastB_spec (h : lastB l = true) {i : Nat} {o : Oper} (hi : l[i]? = some o) : (∀ e ∈ o.after, e.on < i) ∧ (∀ j b, o.guard = some (j, b) → j + 1 < l.length ∧ i + 1 < l.length) ∧ (i + 1 < l.length → ∃ j p e, i < j ∧ l[j]? = some p ∧ e ∈ p.after ∧ Region.binds .any e = true ∧ e.on = i) := by
  have hlt := (List.getElem?_eq_some_iff.1 hi).1
  have h1 := List.all_eq_true.1 h i (List.mem_range.2 hlt)
  rw [Bool.and_eq_true, hi] at h1
  simp only at h1
  obtain ⟨h2, h3⟩ := h1
  rw [Bool.and_eq_true] at h2
  refine ⟨fun e he => ?_, fun j b hg => ?_, fun hn => ?_⟩
  · simpa using Array.all_eq_true_iff_forall_mem.1 h2.1 e he
  · have h4 := h2.2
    rw [hg] at h4
    simpa using h4
  · rw [Bool.or_eq_true] at h3
    rcases h3 with h3 | h3
    · simp at h3; omega
    · obtain ⟨j, hj, h4⟩ := List.any_eq_true.1 h3
      rw [Bool.and_eq_true] at h4
      cases hp : l[j]? with
      | none => rw [hp] at h4; simp at h4
      | some p =>
        rw [hp] at h4
        obtain ⟨e, he, h5⟩ := Array.any_eq_true'.1 h4.2
        simp only [Bool.and_eq_true, decide_eq_true_eq] at h5
        exact ⟨j, p, e, by simpa using h4.1, hp, he, h5.1, h5.2⟩
theorem ready_swap {o : Oper} (ho : lastOp l = some o) (listed : Array Bool) (i : Nat) : i ∈ Region.ready .any (swapLast l).toArray listed ↔ i ∈ Region.ready .any l.toArray listed := by
  rw [mem_ready, mem_ready]
  obtain ⟨h1, h2, h3⟩ := swap_last l o ho
  by_cases hi : i + 1 = l.length
  · have e : i = l.length - 1 := by omega
    rw [e]
    simp only [List.getElem?_toArray, h1, h2, Option.some.injEq, exists_eq_left']
    exact Iff.rfl
  · simp only [List.getElem?_toArray, swap_get l i hi]
theorem ready_nil {o : Oper} (ho : lastOp l = some o) (listed : Array Bool) : Region.ready .any (swapLast l).toArray listed = [] ↔ Region.ready .any l.toArray listed = [] := by
  rw [List.eq_nil_iff_forall_not_mem, List.eq_nil_iff_forall_not_mem]
  exact ⟨fun h i hi => h i ((ready_swap ho listed i).2 hi), fun h i hi => h i ((ready_swap ho listed i).1 hi)⟩
/-- While the last one is not listed, something may come up. -/
theorem ready_some {o : Oper} (hB : lastB l = true) (ho : lastOp l = some o) {listed : Array Bool} (hs : listed.size = l.length) (hL : listed.getD (l.length - 1) true = false) : Region.ready .any l.toArray listed ≠ [] := by
  obtain ⟨_, h2, h3⟩ := swap_last l o ho
  have hex : ∃ i, i < l.length ∧ listed.getD i true = false := ⟨l.length - 1, by omega, hL⟩
  have : ∀ k, (∃ i, i < k ∧ i < l.length ∧ listed.getD i true = false) → ∃ i, i < l.length ∧ listed.getD i true = false ∧ ∀ j, j < i → listed.getD j false = true := by
    intro k
    induction k with
    | zero => rintro ⟨i, hi, _⟩; omega
    | succ k ih =>
      rintro ⟨i, hi, hil, hf⟩
      by_cases hk : ∃ i, i < k ∧ i < l.length ∧ listed.getD i true = false
      · exact ih hk
      · have e : i = k := by
          rcases Nat.lt_or_ge i k with h | h
          · exact absurd ⟨i, h, hil, hf⟩ hk
          · omega
        subst e
        refine ⟨i, hil, hf, fun j hj => ?_⟩
        have hjl : j < listed.size := by omega
        cases hv : listed.getD j true with
        | false => exact absurd ⟨j, hj, by omega, hv⟩ hk
        | true => simpa [hjl] using hv
  obtain ⟨i, hil, hf, hall⟩ := this l.length ⟨l.length - 1, by omega, by omega, hL⟩
  obtain ⟨p, hp⟩ : ∃ p, l[i]? = some p := ⟨l[i], List.getElem?_eq_getElem hil⟩
  intro hn
  have : i ∈ Region.ready .any l.toArray listed := mem_ready.2 ⟨hf, p, by simpa using hp, fun e he _ => hall e.on ((lastB_spec hB hp).1 e he)⟩
  rw [hn] at this
  cases this
/-- Where the last one may come up, all the others are listed. -/
theorem all_listed {o : Oper} (hB : lastB l = true) (ho : lastOp l = some o) {listed : Array Bool} (hc : Closed l listed) (hr : l.length - 1 ∈ Region.ready .any l.toArray listed) : ∀ (d i : Nat), i + d + 1 = l.length → 0 < d → listed.getD i false = true := by
  intro d
  induction d using Nat.strongRecOn with
  | _ d ih =>
    intro i hi hd
    have hil : i < l.length := by omega
    obtain ⟨p, hp⟩ : ∃ p, l[i]? = some p := ⟨l[i], List.getElem?_eq_getElem hil⟩
    obtain ⟨j, q, e, hij, hq, he, hb, rfl⟩ := (lastB_spec hB hp).2.2 (by omega)
    have hjl := (List.getElem?_eq_some_iff.1 hq).1
    by_cases hj : j + 1 = l.length
    · have ej : j = l.length - 1 := by omega
      obtain ⟨_, q', hq', hall⟩ := mem_ready.1 hr
      rw [← ej] at hq'
      have : q' = q := Option.some.inj (hq'.symm.trans (by simpa using hq))
      subst this
      exact hall e he hb
    · have h1 := ih (l.length - 1 - j) (by omega) j (by omega) (by omega)
      refine hc.2 j q hq ?_ e he hb
      have : j < listed.size := by rw [hc.1]; exact hjl
      simpa [this] using h1
theorem closed_step {listed : Array Bool} (hc : Closed l listed) {i : Nat} (hr : i ∈ Region.ready .any l.toArray listed) : Closed l (listed.setIfInBounds i true) := by
  refine ⟨by simpa using hc.1, fun j o hj hl e he hb => getD_set_true ?_⟩
  by_cases hji : j = i
  · subst hji
    obtain ⟨_, o', ho', hall⟩ := mem_ready.1 hr
    have : o' = o := Option.some.inj (ho'.symm.trans (by simpa using hj))
    subst this
    exact hall e he hb
  · rw [getD_set_ne true (Ne.symm hji)] at hl
    exact hc.2 j o hj hl e he hb
theorem wanted_swap {o : Oper} (hB : lastB l = true) {i : Nat} {p : Oper} (hp : l[i]? = some p) (tmps : Array Value) : Region.wanted p (yielded (swapLast l).toArray tmps) = Region.wanted p (yielded l.toArray tmps) := by
  unfold Region.wanted
  cases hg : p.guard with
  | none => rfl
  | some x =>
    obtain ⟨j, b⟩ := x
    have hj := ((lastB_spec hB hp).2.1 j b hg).1
    simp only [yielded, List.getElem?_toArray, swap_get l j (by omega)]
theorem swap_any (hB : lastB l = true) (ho : lastOp l = some oL) (hQ : Act → Prop) (hq : ∀ a, hQ a → ∀ w, C w → oL.wp P a w (Q .normal) Q) : ∀ (fuel : Nat) (listed : Array Bool) (a : Act) (w : World), C w → Closed l listed → listed.getD (l.length - 1) true = false →
    wpAnyQ P .any (swapLast l).toArray C hQ fuel listed a → wpAny P .any l.toArray Q fuel listed a w
  | 0, listed, a, w, hw, hc, hL, H => absurd ((ready_nil ho listed).1 H.1) (ready_some hB ho hc.1 hL)
  | fuel + 1, listed, a, w, hw, hc, hL, H => by
    obtain ⟨h1, h2, h3⟩ := swap_last l oL ho
    refine ⟨fun h => absurd h (ready_some hB ho hc.1 hL), fun i hi => ?_⟩
    have H2 := H.2 i ((ready_swap ho listed i).2 hi)
    by_cases hiL : i = l.length - 1
    · subst hiL
      have hg : oL.guard = none := by
        cases hg : oL.guard with
        | none => rfl
        | some x =>
          obtain ⟨j, b⟩ := x
          have := ((lastB_spec hB h2).2.1 j b hg).2
          omega
      unfold wpOp
      simp only [List.getElem?_toArray, h2]
      have hwt : Region.wanted oL (yielded l.toArray a.tmps) = true := by unfold Region.wanted; rw [hg]
      rw [if_pos hwt]
      refine .inl ?_
      unfold qOp at H2
      simp only [List.getElem?_toArray, h1] at H2
      rw [if_pos (by unfold Region.wanted stand; rfl)] at H2
      obtain ⟨v, _, H3⟩ := H2
      have hput : a.put (stand oL).dst v = a := by unfold stand; rfl
      rw [hput] at H3
      have hnil : Region.ready .any (swapLast l).toArray (listed.setIfInBounds (l.length - 1) true) = [] := by
        rw [List.eq_nil_iff_forall_not_mem]
        intro j hj
        obtain ⟨h4, p, hp, _⟩ := mem_ready.1 hj
        have hjl : j < l.length := by
          have := (Array.getElem?_eq_some_iff.1 hp).1
          simpa [swap_len] using this
        by_cases e : j = l.length - 1
        · subst e
          have : l.length - 1 < listed.size := by rw [hc.1]; omega
          simp [this] at h4
        · rw [getD_set_ne true (fun e' => e e'.symm)] at h4
          have h5 := all_listed hB ho hc hi (l.length - 1 - j) j (by omega) (by omega)
          have : j < listed.size := by rw [hc.1]; exact hjl
          simp [this] at h4 h5
          rw [h4] at h5; cases h5
      have hQa : hQ a := by
        cases fuel with
        | zero => exact H3.2
        | succ f => exact H3.1 hnil
      have hnil' := (ready_nil ho _).1 hnil
      refine Oper.wp_mono (fun a' w' h => ?_) (hq a hQa w hw)
      cases fuel with
      | zero => exact ⟨hnil', h⟩
      | succ f => exact ⟨fun _ => h, fun i hi => by rw [hnil'] at hi; cases hi⟩
    · obtain ⟨_, p, hp, _⟩ := mem_ready.1 hi
      have hp' : l[i]? = some p := by simpa using hp
      have hil := (List.getElem?_eq_some_iff.1 hp').1
      have H4 : qOp P l.toArray C i (wpAnyQ P .any (swapLast l).toArray C hQ fuel (listed.setIfInBounds i true)) a := by
        unfold qOp at H2 ⊢
        simp only [List.getElem?_toArray, swap_get l i (by omega), hp'] at H2 ⊢
        rw [wanted_swap (o := oL) hB hp'] at H2
        exact H2
      refine wpOp_of_qOp hw (fun a' w' hw' h => swap_any hB ho hQ hq fuel _ a' w' hw' (closed_step hc hi) ?_ h) H4
      rw [getD_set_ne true hiL]; exact hL
/-- The region. -/
theorem region_last {id : Nat} {a : Act} {w : World} (hm : P.follows .mixedOrders = true) (hB : lastB l = true) (hX : Region.lexB .any (swapLast l).toArray = true) (ho : lastOp l = some oL) (hC : C { w with drawn := w.drawn + 1 })
    (h : wpQuiet P (swapLast l).toArray C (fun a' => ∀ w', C w' → oL.wp P a' w' (Q .normal) Q) (swapLast l) a) : (Code.region id l.toArray true).wp P Q a w := by
  simp only [Region.lexB, Bool.and_eq_true] at hX
  obtain ⟨_, _, h3⟩ := swap_last l oL ho
  refine wp_region_any hm ?_
  have h1 := wpAnyQ_lex (C := C) (md := .any) hX.1 (swapLast l) 0 (Array.replicate (swapLast l).toArray.size false) a (by simp) (by simpa using hX.2) h
  rw [swap_len] at h1
  simp only [List.size_toArray, swap_len] at h1 ⊢
  have hL : (Array.replicate l.length false).getD (l.length - 1) true = false := by
    have h4 : l.length - 1 < l.length := by omega
    simp [h4]
  have hCl : Closed l (Array.replicate l.length false) := ⟨by simp, fun j o hj hl => by
    have := (List.getElem?_eq_some_iff.1 hj).1
    simp [this] at hl⟩
  exact swap_any hB ho _ (fun a h => h) l.length _ a _ hC hCl hL h1
theorem region_last_lit {id : Nat} {a : Act} {w : World} (hm : P.follows .mixedOrders = true) (hB : lastB l = true) (hX : Region.lexB .any (swapLast l).toArray = true) (ho : lastOp l = some oL)
    (h : wpQuiet P (swapLast l).toArray (fun w' => ∃ n, w' = w.drewN n) (fun a' => ∀ w', (∃ n, w' = w.drewN n) → oL.wp P a' w' (Q .normal) Q) (swapLast l) a) : (Code.region id l.toArray true).wp P Q a w :=
  region_last (C := fun w' => ∃ n, w' = w.drewN n) hm hB hX ho ⟨1, rfl⟩ h
theorem wpQuiet_mono {ops : Array Oper} {Q1 Q2 : Act → Prop} (hq : ∀ a, Q1 a → Q2 a) : ∀ (l : List Oper) (a : Act), wpQuiet P ops C Q1 l a → wpQuiet P ops C Q2 l a
  | [], a, h => hq a h
  | o :: rest, a, h => by
    unfold wpQuiet at h ⊢
    split
    · rename_i hw; rw [if_pos hw] at h; exact Oper.quiet_mono (fun a h => wpQuiet_mono hq rest a h) h
    · rename_i hw; rw [if_neg hw] at h; exact wpQuiet_mono hq rest _ h
theorem region_ends {id : Nat} {a : Act} {w : World} (hm : P.follows .mixedOrders = true) (hB : lastB l = true) (hX : Region.lexB .any (swapLast l).toArray = true) (ho : lastOp l = some oL) (hC : C { w with drawn := w.drawn + 1 })
    (h : wpQuiet P (swapLast l).toArray C (fun a' => ∀ w', C w' → ∀ K, oL.wp P a' w' K Q) (swapLast l) a) : (Code.region id l.toArray true).wp P Q a w :=
  region_last hm hB hX ho hC (wpQuiet_mono (fun a h w' hw' => h w' hw' _) _ _ h)
/-- The same, at the world after some draws. -/
theorem region_ends_lit {id : Nat} {a : Act} {w : World} (hm : P.follows .mixedOrders = true) (hB : lastB l = true) (hX : Region.lexB .any (swapLast l).toArray = true) (ho : lastOp l = some oL)
    (h : wpQuiet P (swapLast l).toArray (fun w' => ∃ n, w' = w.drewN n) (fun a' => ∀ w', (∃ n, w' = w.drewN n) → ∀ K, oL.wp P a' w' K Q) (swapLast l) a) : (Code.region id l.toArray true).wp P Q a w :=
  region_ends (C := fun w' => ∃ n, w' = w.drewN n) hm hB hX ho ⟨1, rfl⟩ h
end
/-- A world that has grown out of another one. -/
def Grown (W : World) : Type := { w' : World // Below W.heap.size W w' }
def gw {W : World} (z : Grown W) : World := z.1
instance (W : World) : Nonempty (Grown W) := ⟨⟨W, Below.refl _ _⟩⟩
theorem gw_below {W : World} (z : Grown W) : Below W.heap.size W (gw z) := z.2
theorem gw_cell {W : World} {a : Addr} {v : Value} (h : W.cell? a = some v) (z : Grown W) : (gw z).cell? a = some v := (World.cell?_of_block ((gw_below z).block a.block (World.block_lt_of_cell? W a h))).trans h
theorem gw_next {W : World} (z : Grown W) {w' : World} (h : Below (gw z).heap.size (gw z) w') : ∃ z' : Grown W, w' = gw z' := ⟨⟨w', (gw_below z).trans (h.mono (gw_below z).size)⟩, rfl⟩
theorem gw_drawn (W : World) : ∃ z : Grown W, ({ W with drawn := W.drawn + 1 } : World) = gw z := ⟨⟨{ W with drawn := W.drawn + 1 }, ⟨rfl, rfl, rfl, Nat.le_refl _, fun _ _ => rfl⟩⟩, rfl⟩
/-- A call that comes back with a value, having grown the world alone. -/
theorem calls_gw {P : Program} {W : World} {f : FuncId} {args : Array Value} {z : Grown W} {v : Value} (h : Calls P f args (gw z) fun e w' => e = .returned v ∧ Below (gw z).heap.size (gw z) w') : Calls P f args (gw z) fun e w'' => e = .returned v ∧ ∃ z' : Grown W, w'' = gw z' :=
  h.mono fun _ _ ⟨he, hb⟩ => ⟨he, gw_next z hb⟩
theorem calls_gw_same {P : Program} {W : World} {f : FuncId} {args : Array Value} {z : Grown W} {v : Value} (h : Calls P f args (gw z) fun e w' => e = .returned v ∧ w' = gw z) : Calls P f args (gw z) fun e w'' => e = .returned v ∧ ∃ z' : Grown W, w'' = gw z' :=
  h.mono fun _ _ ⟨he, hb⟩ => ⟨he, z, hb⟩
/-- A region that draws its order, whose operations read, or grow the world: one walk. -/
theorem region_grows {P : Program} {Q : Exit → Act → World → Prop} {l : List Oper} {id : Nat} {a : Act} {w : World} (hm : P.follows .mixedOrders = true) (hB : Region.lexB .any l.toArray = true)
    (h : wpQuiet P l.toArray (fun w' => ∃ z : Grown w, w' = gw z) (fun a' => ∀ w', (∃ z : Grown w, w' = gw z) → Q .normal a' w') l a) : (Code.region id l.toArray true).wp P Q a w :=
  wp_region_quiet (C := fun w' => ∃ z : Grown w, w' = gw z) hm hB (gw_drawn w) (by simpa using h)
/-- And one whose last operation writes. -/
theorem region_last_gw {P : Program} {Q : Exit → Act → World → Prop} {l : List Oper} {oL : Oper} {id : Nat} {a : Act} {w : World} (hm : P.follows .mixedOrders = true) (hB : lastB l = true) (hX : Region.lexB .any (swapLast l).toArray = true) (ho : lastOp l = some oL)
    (h : wpQuiet P (swapLast l).toArray (fun w' => ∃ z : Grown w, w' = gw z) (fun a' => ∀ w', (∃ z : Grown w, w' = gw z) → oL.wp P a' w' (Q .normal) Q) (swapLast l) a) : (Code.region id l.toArray true).wp P Q a w :=
  region_last (C := fun w' => ∃ z : Grown w, w' = gw z) hm hB hX ho (gw_drawn w) h
/-- And one whose last operation never comes back. -/
theorem region_ends_gw {P : Program} {Q : Exit → Act → World → Prop} {l : List Oper} {oL : Oper} {id : Nat} {a : Act} {w : World} (hm : P.follows .mixedOrders = true) (hB : lastB l = true) (hX : Region.lexB .any (swapLast l).toArray = true) (ho : lastOp l = some oL)
    (h : wpQuiet P (swapLast l).toArray (fun w' => ∃ z : Grown w, w' = gw z) (fun a' => ∀ w', (∃ z : Grown w, w' = gw z) → ∀ K, oL.wp P a' w' K Q) (swapLast l) a) : (Code.region id l.toArray true).wp P Q a w :=
  region_ends (C := fun w' => ∃ z : Grown w, w' = gw z) hm hB hX ho (gw_drawn w) h
end Go.Proofs.Ytgdpplipahhffaa
