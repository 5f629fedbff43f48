/- Texts and their numbers: what is written is read, and what is read is written so. Plain facts. -/
import Derived.Test.YtlgfpjaomiomjaaGreatDoorTxt
namespace Go.Proofs.YtlgfpjaomiomjaaGreatDoor
set_option linter.unusedVariables false

theorem num_snoc (base : Nat) (c : UInt8) : ∀ (l : List UInt8) (a : Nat), num base (l ++ [c]) a = (num base l a).bind fun v => (worth base c).map fun d => v * base + d := by
  intro l; induction l with
  | nil => intro a; cases h : worth base c <;> simp [num, h]
  | cons x xs ih =>
    intro a
    cases h : worth base x with
    | none => rw [List.cons_append, num_none h, num_none h]; rfl
    | some d => rw [List.cons_append, num_some h, num_some h]; exact ih _
theorem num_rdig {base : Nat} (hb : 2 ≤ base) (hb1 : base ≤ 16) : ∀ (f n : Nat), 1 ≤ f → n < base ^ f → num base (rdig base f n).reverse 0 = some n := by
  intro f; induction f with
  | zero => intro n h; omega
  | succ f ih =>
    intro n _ hn
    have hm := Nat.mod_lt n (show base > 0 by omega)
    by_cases h0 : n / base = 0
    · rw [rdig_stop h0, List.reverse_singleton, num_some (worth_sgn hb1 hm)]
      have := Nat.div_add_mod n base
      rw [h0, Nat.mul_zero, Nat.zero_add] at this
      rw [this]; simp [num]
    · have hq := div_lt_pow (by omega) hn
      have hf : 1 ≤ f := by
        rcases Nat.eq_zero_or_pos f with h | h
        · rw [h, Nat.pow_zero] at hq; exact absurd (Nat.lt_one_iff.1 hq) h0
        · exact h
      rw [rdig_more h0, List.reverse_cons, num_snoc, ih _ hf hq, worth_sgn hb1 hm]
      have := Nat.div_add_mod n base
      rw [Nat.mul_comm] at this
      simp [this]
theorem rdig_head {base : Nat} (hb : 2 ≤ base) : ∀ (f n : Nat), n < base ^ f → n ≠ 0 → ∃ d, 0 < d ∧ d < base ∧ (rdig base f n).reverse.head? = some (sgn d) := by
  intro f; induction f with
  | zero => intro n h h0; simp at h; omega
  | succ f ih =>
    intro n hn hne
    by_cases h0 : n / base = 0
    · have hlt : n < base := by
        rcases Nat.lt_or_ge n base with h | h
        · exact h
        · have := Nat.div_pos h (by omega); omega
      refine ⟨n, by omega, hlt, ?_⟩
      rw [rdig_stop h0, Nat.mod_eq_of_lt hlt]; rfl
    · obtain ⟨d, d0, d1, hd⟩ := ih (n / base) (div_lt_pow (by omega) hn) h0
      refine ⟨d, d0, d1, ?_⟩
      rw [rdig_more h0, List.reverse_cons, List.head?_append, hd]; rfl
theorem rdig_ne (base f n : Nat) : rdig base (f + 1) n ≠ [] := by
  by_cases h : n / base = 0
  · rw [rdig_stop h]; simp
  · rw [rdig_more h]; simp
theorem rdig_mem {base : Nat} (hb : 0 < base) : ∀ (f n : Nat) (c : UInt8), c ∈ rdig base f n → ∃ d, d < base ∧ c = sgn d := by
  intro f; induction f with
  | zero => intro n c h; simp [rdig] at h
  | succ f ih =>
    intro n c h
    by_cases h0 : n / base = 0
    · rw [rdig_stop h0] at h; simp at h; exact ⟨_, Nat.mod_lt n hb, h⟩
    · rw [rdig_more h0] at h
      rcases List.mem_cons.1 h with h | h
      · exact ⟨_, Nat.mod_lt n hb, h⟩
      · exact ih _ _ h
theorem digs_mem {base n : Nat} (hb : 0 < base) {c : UInt8} (h : c ∈ digs base n) : ∃ d, d < base ∧ c = sgn d := rdig_mem hb 128 n c (by simpa [digs] using h)
theorem digs_ne (base n : Nat) : digs base n ≠ [] := by unfold digs; simp [rdig_ne base 127 n]
theorem sgn_48 : ∀ d, d < 16 → sgn d = 48 → d = 0 := by decide
theorem sgn_not : ∀ d, d < 16 → sgn d ≠ 46 ∧ sgn d ≠ 58 ∧ sgn d ≠ 120 := by decide
theorem sgn_98 : ∀ d, d < 10 → sgn d ≠ 98 := by decide

theorem pow_bound {base : Nat} (hb : 2 ≤ base) : (340282366920938463463374607431768211456 : Nat) ≤ base ^ 128 := by
  have h : (2 : Nat) ^ 128 ≤ base ^ 128 := Nat.pow_le_pow_left hb 128
  have e : (2 : Nat) ^ 128 = 340282366920938463463374607431768211456 := by decide
  omega
/-- What is written is read. -/
theorem fd_digs {base n : Nat} (hb : 2 ≤ base) (hb1 : base ≤ 16) (hn : n < 340282366920938463463374607431768211456) : fdN base (digs base n) = (n, 0) := by
  have hp : n < base ^ 128 := Nat.lt_of_lt_of_le hn (pow_bound hb)
  have h1 : num base (digs base n) 0 = some n := num_rdig hb hb1 128 n (by decide) hp
  have h2 : ¬ (digs base n = [] ∨ (1 < (digs base n).length ∧ (digs base n).head? = some 48)) := by
    rintro (h | ⟨h, h'⟩)
    · exact digs_ne base n h
    · by_cases h0 : n = 0
      · subst h0
        have : digs base 0 = [sgn 0] := by unfold digs; rw [rdig_stop (by simp)]; simp
        rw [this] at h; simp at h
      · obtain ⟨d, d0, d1, hd⟩ := rdig_head hb 128 n hp h0
        unfold digs at h'
        rw [hd] at h'; injection h' with h'
        have := sgn_48 d (by omega) h'
        omega
  unfold fdN; rw [if_neg h2, h1]
  show (if _ then _ else _) = _
  rw [if_pos hn]
/-- What is read is written so. -/
theorem num_back {base : Nat} (hb : 2 ≤ base) (hb1 : base ≤ 16) : ∀ (k : Nat) (l : List UInt8) (f v : Nat), l.length = k → l ≠ [] → ¬ (1 < l.length ∧ l.head? = some 48) → num base l 0 = some v → 1 ≤ f → v < base ^ f → rdig base f v = l.reverse := by
  intro k; induction k with
  | zero => intro l f v hl hne; exact absurd (List.eq_nil_of_length_eq_zero hl) hne
  | succ k ih =>
    intro l f v hl hne hz hv hf1 hf
    obtain ⟨m, c, rfl⟩ : ∃ m c, l = m ++ [c] := ⟨l.dropLast, l.getLast hne, (List.dropLast_concat_getLast hne).symm⟩
    rw [num_snoc] at hv
    cases hu : num base m 0 with
    | none => rw [hu] at hv; cases hv
    | some u =>
      rw [hu] at hv
      cases hw : worth base c with
      | none => rw [hw] at hv; cases hv
      | some d =>
        rw [hw] at hv
        have hv' : u * base + d = v := by simpa using hv
        obtain ⟨hd, hc⟩ := worth_some hw
        have e1 : v / base = u := by rw [← hv', Nat.mul_comm, Nat.mul_add_div (by omega), Nat.div_eq_of_lt hd]; rfl
        have e2 : v % base = d := by rw [← hv', Nat.mul_comm, Nat.mul_add_mod, Nat.mod_eq_of_lt hd]
        rw [List.reverse_append, List.reverse_singleton]
        by_cases hm : m = []
        · subst hm
          have hu0 : u = 0 := by simp [num] at hu; omega
          obtain ⟨f', rfl⟩ : ∃ f', f = f' + 1 := ⟨f - 1, by omega⟩
          rw [rdig_stop (by rw [e1, hu0]), e2, hc]; rfl
        · have hz' : m.head? ≠ some 48 := by
            intro h; apply hz; refine ⟨?_, ?_⟩
            · have : m.length ≠ 0 := fun h => hm (List.eq_nil_of_length_eq_zero h)
              simp; omega
            · rw [List.head?_append, h]; rfl
          have hu1 : u ≠ 0 := by
            obtain ⟨x, xs, rfl⟩ := List.exists_cons_of_ne_nil hm
            cases hx : worth base x with
            | none => rw [num_none hx] at hu; cases hu
            | some q =>
              rw [num_some hx] at hu
              have := num_le (by omega) _ _ _ hu
              have hq := (worth_some hx).2
              intro h0; subst h0
              have hq0 : q = 0 := by omega
              subst hq0
              apply hz'; rw [← hq]; rfl
          obtain ⟨f', rfl⟩ : ∃ f', f = f' + 1 := ⟨f - 1, by omega⟩
          have hlt := div_lt_pow (by omega) hf
          have hf2 : 1 ≤ f' := by
            rcases Nat.eq_zero_or_pos f' with h | h
            · rw [h, Nat.pow_zero, e1] at hlt; omega
            · exact h
          rw [rdig_more (by rw [e1]; exact hu1), e1, e2, hc]
          rw [ih m f' u (by simp at hl; exact hl) hm (fun h => hz' h.2) hu hf2 (by rw [← e1]; exact hlt)]
          rfl
theorem fd_back {base : Nat} (hb : 2 ≤ base) (hb1 : base ≤ 16) {l : List UInt8} {v : Nat} (h : fdN base l = (v, 0)) : digs base v = l := by
  unfold fdN at h
  split at h
  · injection h with _ h; cases h
  · next hc =>
    have h1 : l ≠ [] := fun e => hc (Or.inl e)
    have h2 : ¬ (1 < l.length ∧ l.head? = some 48) := fun e => hc (Or.inr e)
    cases hn : num base l 0 with
    | none => rw [hn] at h; injection h with _ h; cases h
    | some u =>
      rw [hn] at h
      change (if u < 340282366920938463463374607431768211456 then (u, (0 : Int)) else (0, 11)) = (v, 0) at h
      split at h
      · next hu =>
        injection h with h _
        subst h
        unfold digs
        rw [num_back hb hb1 l.length l 128 u rfl h1 h2 hn (by decide) (Nat.lt_of_lt_of_le hu (pow_bound hb)), List.reverse_reverse]
      · injection h with _ h; cases h
end Go.Proofs.YtlgfpjaomiomjaaGreatDoor
