/- Slots of texts in another order: the same slots all together. Plain facts. -/
import Derived.Test.YtabipemlemppjaaDoorSa
namespace Go.Proofs.YtabipemlemppjaaDoor
set_option linter.unusedVariables false

/-- One more number is taken. -/
def insT (N : Nat) (T : List Nat) (s : Nat) : List Nat := T ++ [slt N T s]
theorem slt_ff {N : Nat} {T : List Nat} {s : Nat} (hs : s < N) (hT : T.length < N) : ∃ d, FF N T s d ∧ slt N T s = (s + d) % N := by
  obtain ⟨d, _, h⟩ := FF.some (N := N) (T := T) s hT
  exact ⟨d, h, (slt_is hs hT h).symm⟩
theorem slt_not {N : Nat} {T : List Nat} {s : Nat} (hs : s < N) (hT : T.length < N) : slt N T s ∉ T := by
  obtain ⟨d, h, e⟩ := slt_ff hs hT; rw [e]; exact h.1
/-- The same members, and as many. -/
def EqT (T U : List Nat) : Prop := (∀ x, x ∈ T ↔ x ∈ U) ∧ T.length = U.length
theorem slt_congr {N : Nat} {T U : List Nat} {s : Nat} (h : EqT T U) (hs : s < N) (hT : T.length < N) : slt N T s = slt N U s := by
  obtain ⟨d, hf, e⟩ := slt_ff hs hT
  rw [e]
  exact slt_is hs (by rw [← h.2]; exact hT) ⟨fun hm => hf.1 ((h.1 _).2 hm), fun j hj => (h.1 _).1 (hf.2 j hj)⟩
theorem ins_congr {N : Nat} {T U : List Nat} {s : Nat} (h : EqT T U) (hs : s < N) (hT : T.length < N) : EqT (insT N T s) (insT N U s) := by
  unfold insT
  rw [slt_congr h hs hT]
  exact ⟨fun x => by simp [h.1 x], by simp [h.2]⟩
theorem ins_swap {N : Nat} {T : List Nat} {a b : Nat} (ha : a < N) (hb : b < N) (hT : T.length + 2 ≤ N) : EqT (insT N (insT N T a) b) (insT N (insT N T b) a) := by
  obtain ⟨da, fa, ea⟩ := slt_ff ha (show T.length < N by omega)
  obtain ⟨db, fb, eb⟩ := slt_ff hb (show T.length < N by omega)
  unfold insT
  by_cases hxy : slt N T a = slt N T b
  · rw [← hxy]
    generalize hz : slt N T a = z at *
    have hl : (T ++ [z]).length < N := by simp; omega
    have hz1 : (z + 1) % N < N := Nat.mod_lt _ (by omega)
    obtain ⟨d', f', e'⟩ := slt_ff hz1 hl
    have go : ∀ c dc, c < N → FF N T c dc → (c + dc) % N = z → slt N (T ++ [z]) c = ((z + 1) % N + d') % N := fun c dc hc fc ec => by
      have hsh : ∀ j, (c + (dc + 1 + j)) % N = ((z + 1) % N + j) % N := fun j => by
        rw [Nat.mod_add_mod, ← ec, show c + (dc + 1 + j) = (c + dc) + (1 + j) by omega, show (c + dc) % N + 1 + j = (c + dc) % N + (1 + j) by omega, Nat.mod_add_mod]
      have : FF N (T ++ [z]) c (dc + 1 + d') := by
        refine ⟨by rw [hsh]; exact f'.1, fun e he => ?_⟩
        rcases Nat.lt_trichotomy e dc with h | h | h
        · exact List.mem_append_left _ (fc.2 e h)
        · subst h; rw [ec]; simp
        · obtain ⟨j, rfl⟩ : ∃ j, e = dc + 1 + j := ⟨e - dc - 1, by omega⟩
          rw [hsh]; exact f'.2 j (by omega)
      rw [← slt_is hc hl this, hsh]
    rw [go a da ha fa ea.symm, go b db hb fb (by rw [← eb]; exact hxy.symm)]
    exact ⟨fun x => Iff.rfl, rfl⟩
  · have h1 : slt N (T ++ [slt N T a]) b = slt N T b := by
      rw [eb]
      refine (slt_is hb (by simp; omega) ⟨fun hm => ?_, fun e he => List.mem_append_left _ (fb.2 e he)⟩).symm
      rcases List.mem_append.1 hm with hm | hm
      · exact fb.1 hm
      · simp at hm; exact hxy (by rw [eb, hm])
    have h2 : slt N (T ++ [slt N T b]) a = slt N T a := by
      rw [ea]
      refine (slt_is ha (by simp; omega) ⟨fun hm => ?_, fun e he => List.mem_append_left _ (fa.2 e he)⟩).symm
      rcases List.mem_append.1 hm with hm | hm
      · exact fa.1 hm
      · simp at hm; exact hxy (by rw [ea, hm])
    rw [h1, h2]
    refine ⟨fun x => ?_, by simp⟩
    simp only [List.mem_append, List.mem_singleton]
    constructor
    · rintro ((h | h) | h)
      · exact .inl (.inl h)
      · exact .inr h
      · exact .inl (.inr h)
    · rintro ((h | h) | h)
      · exact .inl (.inl h)
      · exact .inr h
      · exact .inl (.inr h)
theorem fold_len (N : Nat) : ∀ (hs : List Nat) (T : List Nat), (hs.foldl (insT N) T).length = T.length + hs.length := by
  intro hs; induction hs with
  | nil => intro T; rfl
  | cons a hs ih => intro T; rw [List.foldl_cons, ih]; simp [insT]; omega
theorem fold_congr {N : Nat} : ∀ (hs : List Nat) (T U : List Nat), EqT T U → (∀ s ∈ hs, s < N) → T.length + hs.length ≤ N → EqT (hs.foldl (insT N) T) (hs.foldl (insT N) U) := by
  intro hs; induction hs with
  | nil => intro T U h _ _; exact h
  | cons a hs ih =>
    intro T U h hl hn
    rw [List.length_cons] at hn
    exact ih _ _ (ins_congr h (hl a (by simp)) (by omega)) (fun s hs' => hl s (by simp [hs'])) (by simp [insT]; omega)
theorem fold_perm {N : Nat} {hs ks : List Nat} (hp : hs.Perm ks) : ∀ T : List Nat, (∀ s ∈ hs, s < N) → T.length + hs.length ≤ N → EqT (hs.foldl (insT N) T) (ks.foldl (insT N) T) := by
  induction hp with
  | nil => intro T _ _; exact ⟨fun _ => Iff.rfl, rfl⟩
  | cons a _ ih =>
    intro T hl hn
    rw [List.length_cons] at hn
    exact ih _ (fun s hs' => hl s (by simp [hs'])) (by simp [insT]; omega)
  | swap a b l =>
    intro T hl hn
    simp only [List.length_cons] at hn
    rw [List.foldl_cons, List.foldl_cons, List.foldl_cons, List.foldl_cons]
    exact fold_congr l _ _ (ins_swap (hl b (by simp)) (hl a (by simp)) (by omega)) (fun s hs' => hl s (by simp [hs'])) (by simp [insT]; omega)
  | trans h1 h2 ih1 ih2 =>
    intro T hl hn
    have e1 := ih1 T hl hn
    have e2 := ih2 T (fun s hs' => hl s (h1.mem_iff.2 hs')) (by rw [← h1.length_eq]; exact hn)
    exact ⟨fun x => (e1.1 x).trans (e2.1 x), e1.2.trans e2.2⟩
theorem fold_nodup {N : Nat} : ∀ (hs T : List Nat), T.Nodup → (∀ s ∈ hs, s < N) → T.length + hs.length ≤ N → (hs.foldl (insT N) T).Nodup := by
  intro hs; induction hs with
  | nil => intro T h _ _; exact h
  | cons a hs ih =>
    intro T h hl hn
    rw [List.length_cons] at hn
    refine ih _ ?_ (fun s hs' => hl s (by simp [hs'])) (by simp [insT]; omega)
    unfold insT
    have := slt_not (hl a (by simp)) (show T.length < N by omega)
    rw [List.nodup_append]
    exact ⟨h, by simp, fun x hx y hy => by simp at hy; subst hy; exact fun e => this (e ▸ hx)⟩
/-- What Slots answers, by any numbers of the texts. -/
def slG (g : List UInt8 → Nat) (N : Nat) : List (List UInt8) → List (List UInt8 × Nat) → List Nat → Option (List Nat)
  | [], _, out => some out
  | t :: ts, H, out => match lk H t with
    | some s => slG g N ts H (out ++ [s])
    | none => if H.length = N then none else slG g N ts (H ++ [(t, slt N (H.map (·.2)) (g t % N))]) (out ++ [slt N (H.map (·.2)) (g t % N)])
theorem slF_slG (seed N : Nat) : ∀ (l : List (List UInt8)) (H : List (List UInt8 × Nat)) (out : List Nat), slF seed N l H out = slG (spreadN seed) N l H out := by
  intro l; induction l with
  | nil => intro H out; rfl
  | cons t l ih =>
    intro H out
    rw [slF, slG]
    cases lk H t with
    | some s => exact ih _ _
    | none => simp only [ih]
section
variable {g : List UInt8 → Nat}
theorem slG_old {N : Nat} {t : List UInt8} {ts : List (List UInt8)} {H : List (List UInt8 × Nat)} {out : List Nat} {s : Nat} (h : lk H t = some s) : slG g N (t :: ts) H out = slG g N ts H (out ++ [s]) := by rw [slG, h]
theorem slG_full {N : Nat} {t : List UInt8} {ts : List (List UInt8)} {H : List (List UInt8 × Nat)} {out : List Nat} (h : lk H t = none) (hN : H.length = N) : slG g N (t :: ts) H out = none := by rw [slG, h]; exact if_pos hN
theorem slG_new {N : Nat} {t : List UInt8} {ts : List (List UInt8)} {H : List (List UInt8 × Nat)} {out : List Nat} (h : lk H t = none) (hN : H.length ≠ N) : slG g N (t :: ts) H out = slG g N ts (H ++ [(t, slt N (H.map (·.2)) (g t % N))]) (out ++ [slt N (H.map (·.2)) (g t % N)]) := by rw [slG, h]; exact if_neg hN
end
/-- A text more. -/
def insH (g : List UInt8 → Nat) (N : Nat) (H : List (List UInt8 × Nat)) (t : List UInt8) : List (List UInt8 × Nat) := match lk H t with
  | some _ => H
  | none => H ++ [(t, slt N (H.map (·.2)) (g t % N))]
theorem insH_old {g : List UInt8 → Nat} {N : Nat} {H : List (List UInt8 × Nat)} {t : List UInt8} {s : Nat} (h : lk H t = some s) : insH g N H t = H := by unfold insH; rw [h]
theorem insH_new {g : List UInt8 → Nat} {N : Nat} {H : List (List UInt8 × Nat)} {t : List UInt8} (h : lk H t = none) : insH g N H t = H ++ [(t, slt N (H.map (·.2)) (g t % N))] := by unfold insH; rw [h]
theorem fold_keeps {g : List UInt8 → Nat} {N : Nat} : ∀ (l : List (List UInt8)) (H : List (List UInt8 × Nat)), H.length ≤ (l.foldl (insH g N) H).length ∧ ∀ t s, lk H t = some s → lk (l.foldl (insH g N) H) t = some s := by
  intro l; induction l with
  | nil => intro H; exact ⟨Nat.le_refl _, fun _ _ h => h⟩
  | cons x l ih =>
    intro H
    rw [List.foldl_cons]
    cases hx : lk H x with
    | some s => rw [insH_old hx]; exact ih H
    | none =>
      rw [insH_new hx]
      obtain ⟨h1, h2⟩ := ih (H ++ [(x, slt N (H.map (·.2)) (g x % N))])
      refine ⟨by simp at h1; omega, fun t s h => h2 t s ?_⟩
      rw [lk_snoc H _ _ hx, if_neg (fun e => by subst e; rw [hx] at h; cases h)]; exact h
theorem slG_fold {g : List UInt8 → Nat} {N : Nat} : ∀ (l : List (List UInt8)) (H : List (List UInt8 × Nat)) (out : List Nat), H.length ≤ N →
    slG g N l H out = if (l.foldl (insH g N) H).length ≤ N then some (out ++ l.map fun t => (lk (l.foldl (insH g N) H) t).getD 0) else none := by
  intro l; induction l with
  | nil => intro H out h; rw [slG]; simp [h]
  | cons x l ih =>
    intro H out h
    cases hx : lk H x with
    | some s =>
      rw [slG_old hx, ih H _ h, List.foldl_cons, insH_old hx]
      have := (fold_keeps (g := g) (N := N) l H).2 x s hx
      simp [this]
    | none =>
      rw [List.foldl_cons, insH_new hx]
      by_cases hN : H.length = N
      · rw [slG_full hx hN, if_neg]
        have := (fold_keeps (g := g) (N := N) l (H ++ [(x, slt N (H.map (·.2)) (g x % N))])).1
        simp at this ⊢
        omega
      · rw [slG_new hx hN, ih _ _ (by simp; omega)]
        have := (fold_keeps (g := g) (N := N) l (H ++ [(x, slt N (H.map (·.2)) (g x % N))])).2 x _ (by rw [lk_snoc H _ _ hx, if_pos rfl])
        simp [this]
theorem lk_keys {H : List (List UInt8 × Nat)} (t : List UInt8) : (lk H t = none ↔ t ∉ H.map (·.1)) := by
  induction H with
  | nil => simp [lk]
  | cons p H ih =>
    obtain ⟨a, b⟩ := p
    rw [lk]
    by_cases h : t = a
    · rw [if_pos h]; simp [h]
    · rw [if_neg h, ih]; simp [h]
/-- The texts, each once; their slots are those of their numbers, one behind the other. -/
structure Reach (g : List UInt8 → Nat) (N : Nat) (l : List (List UInt8)) (H : List (List UInt8 × Nat)) : Prop where
  nodup : (H.map (·.1)).Nodup
  mem : ∀ t, t ∈ H.map (·.1) ↔ t ∈ l
  slots : H.map (·.2) = ((H.map (·.1)).map fun t => g t % N).foldl (insT N) []
theorem reach (g : List UInt8 → Nat) (N : Nat) : ∀ (l : List (List UInt8)), Reach g N l (l.foldl (insH g N) []) := by
  have key : ∀ (l done : List (List UInt8)) (H : List (List UInt8 × Nat)), Reach g N done H → Reach g N (done ++ l) (l.foldl (insH g N) H) := by
    intro l; induction l with
    | nil => intro done H h; simpa using h
    | cons x l ih =>
      intro done H h
      rw [List.foldl_cons, show done ++ x :: l = (done ++ [x]) ++ l by simp]
      refine ih _ _ ?_
      cases hx : lk H x with
      | some s =>
        rw [insH_old hx]
        have hm : x ∈ H.map (·.1) := by
          by_cases hc : x ∈ H.map (·.1)
          · exact hc
          · rw [(lk_keys x).2 hc] at hx; cases hx
        refine ⟨h.nodup, fun t => ?_, h.slots⟩
        rw [h.mem, List.mem_append]
        constructor
        · exact .inl
        · rintro (ht | ht)
          · exact ht
          · simp at ht; subst ht; exact (h.mem _).1 hm
      | none =>
        rw [insH_new hx]
        have hm := (lk_keys x).1 hx
        refine ⟨?_, fun t => ?_, ?_⟩
        · rw [List.map_append, List.nodup_append]
          exact ⟨h.nodup, by simp, fun a ha b hb => by simp at hb; subst hb; exact fun e => hm (e ▸ ha)⟩
        · rw [List.map_append, List.mem_append, h.mem, List.mem_append]; simp
        · rw [List.map_append, List.map_append, List.map_append, List.foldl_append, ← h.slots]
          rfl
  intro l
  have := key l [] [] ⟨by simp, by simp, rfl⟩
  simpa using this
theorem nodup_perm : ∀ (l k : List (List UInt8)), l.Nodup → k.Nodup → (∀ t, t ∈ l ↔ t ∈ k) → l.Perm k := by
  intro l; induction l with
  | nil =>
    intro k _ _ h
    cases k with
    | nil => exact .nil
    | cons a k => exact absurd ((h a).2 (by simp)) (by simp)
  | cons a l ih =>
    intro k hl hk h
    have ha : a ∈ k := (h a).1 (by simp)
    rw [List.nodup_cons] at hl
    have hp := List.perm_cons_erase ha
    refine (List.Perm.cons a (ih (k.erase a) hl.2 (hk.erase a) (fun t => ?_))).trans hp.symm
    rw [hk.mem_erase_iff]
    constructor
    · intro ht; exact ⟨fun e => hl.1 (e ▸ ht), (h t).1 (by simp [ht])⟩
    · rintro ⟨h1, h2⟩
      rcases List.mem_cons.1 ((h t).2 h2) with e | e
      · exact absurd e h1
      · exact e
theorem lk_some {H : List (List UInt8 × Nat)} {t : List UInt8} (h : t ∈ H.map (·.1)) : ∃ s, lk H t = some s ∧ (t, s) ∈ H := by
  induction H with
  | nil => simp at h
  | cons p H ih =>
    obtain ⟨a, b⟩ := p
    rw [lk]
    by_cases e : t = a
    · subst e; rw [if_pos rfl]; exact ⟨b, rfl, by simp⟩
    · rw [if_neg e]
      obtain ⟨s, h1, h2⟩ := ih (by simpa [e] using h)
      exact ⟨s, h1, by simp [h2]⟩
theorem snd_inj : ∀ {H : List (List UInt8 × Nat)}, (H.map (·.2)).Nodup → ∀ {t u : List UInt8} {s : Nat}, (t, s) ∈ H → (u, s) ∈ H → t = u := by
  intro H; induction H with
  | nil => intro _ t u s h; simp at h
  | cons p H ih =>
    intro hn t u s h1 h2
    rw [List.map_cons, List.nodup_cons] at hn
    rcases List.mem_cons.1 h1 with e1 | e1 <;> rcases List.mem_cons.1 h2 with e2 | e2
    · have := e1.trans e2.symm; injection this
    · subst e1; exact absurd (List.mem_map.2 ⟨_, e2, rfl⟩) hn.1
    · subst e2; exact absurd (List.mem_map.2 ⟨_, e1, rfl⟩) hn.1
    · exact ih hn.2 e1 e2
theorem fst_inj : ∀ {H : List (List UInt8 × Nat)}, (H.map (·.1)).Nodup → ∀ {u : List UInt8} {s t : Nat}, (u, s) ∈ H → (u, t) ∈ H → s = t := by
  intro H; induction H with
  | nil => intro _ u s t h; simp at h
  | cons p H ih =>
    intro hn u s t h1 h2
    rw [List.map_cons, List.nodup_cons] at hn
    rcases List.mem_cons.1 h1 with e1 | e1 <;> rcases List.mem_cons.1 h2 with e2 | e2
    · have := e1.trans e2.symm; injection this
    · subst e1; exact absurd (List.mem_map.2 ⟨_, e2, rfl⟩) hn.1
    · subst e2; exact absurd (List.mem_map.2 ⟨_, e1, rfl⟩) hn.1
    · exact ih hn.2 e1 e2
/-- What SumsSlotted asks of the slots. -/
theorem slottedG {g : List UInt8 → Nat} {N : Nat} (hN : 0 < N) (l : List (List UInt8)) :
    (slG g N l [] [] = none ∧ slG g N l.reverse [] [] = none ∧ N < l.length) ∨
    ∃ a b, slG g N l [] [] = some a ∧ slG g N l.reverse [] [] = some b ∧ (∀ (i k : Nat) (x y : Nat) (t u : List UInt8), a[i]? = some x → a[k]? = some y → l[i]? = some t → l[k]? = some u → (x = y ↔ t = u)) ∧ ∀ x ∈ a, x ∈ b := by
  have r1 := reach g N l
  have r2 := reach g N l.reverse
  rw [slG_fold l [] [] (by simp), slG_fold l.reverse [] [] (by simp)]
  generalize l.foldl (insH g N) [] = H1 at *
  generalize l.reverse.foldl (insH g N) [] = H2 at *
  have hp : (H1.map (·.1)).Perm (H2.map (·.1)) := nodup_perm _ _ r1.nodup r2.nodup (fun t => by rw [r1.mem, r2.mem, List.mem_reverse])
  have hlen : H1.length = H2.length := by simpa using hp.length_eq
  by_cases hle : H1.length ≤ N
  · right
    rw [if_pos hle, if_pos (by rw [← hlen]; exact hle)]
    refine ⟨_, _, rfl, rfl, ?_, ?_⟩
    · intro i k x y t u hx hy ht hu
      rw [List.nil_append, List.getElem?_map, ht] at hx
      rw [List.nil_append, List.getElem?_map, hu] at hy
      simp only [Option.map_some, Option.some.injEq] at hx hy
      obtain ⟨s1, q1, m1⟩ := lk_some ((r1.mem t).2 (List.mem_of_getElem? ht))
      obtain ⟨s2, q2, m2⟩ := lk_some ((r1.mem u).2 (List.mem_of_getElem? hu))
      rw [q1] at hx
      rw [q2] at hy
      simp only [Option.getD_some] at hx hy
      subst hx hy
      constructor
      · intro e
        subst e
        refine snd_inj ?_ m1 m2
        rw [r1.slots]
        refine fold_nodup _ _ (by simp) (fun s hs => ?_) (by simp; omega)
        obtain ⟨v, _, rfl⟩ := List.mem_map.1 hs
        exact Nat.mod_lt _ hN
      · rintro rfl
        rw [q1] at q2
        exact Option.some.inj q2
    · intro x hx
      rw [List.nil_append] at hx ⊢
      obtain ⟨t, ht, rfl⟩ := List.mem_map.1 hx
      obtain ⟨s, q, m⟩ := lk_some ((r1.mem t).2 ht)
      rw [q, Option.getD_some]
      have h1 : s ∈ H1.map (·.2) := List.mem_map.2 ⟨_, m, rfl⟩
      have h2 : s ∈ H2.map (·.2) := by
        rw [r1.slots] at h1
        rw [r2.slots]
        refine ((fold_perm (N := N) (hp.map fun t => g t % N) [] (fun s hs => ?_) (by simp; omega)).1 s).1 h1
        obtain ⟨v, _, rfl⟩ := List.mem_map.1 hs
        exact Nat.mod_lt _ hN
      obtain ⟨⟨u, s'⟩, hm, e⟩ := List.mem_map.1 h2
      obtain rfl : s' = s := e
      obtain ⟨s2, q2, m2⟩ := lk_some (List.mem_map.2 ⟨_, hm, rfl⟩)
      refine List.mem_map.2 ⟨u, (r2.mem u).1 (List.mem_map.2 ⟨_, hm, rfl⟩), ?_⟩
      dsimp only at q2
      rw [q2, Option.getD_some]
      exact fst_inj r2.nodup m2 hm
  · left
    rw [if_neg hle, if_neg (by rw [← hlen]; exact hle)]
    refine ⟨rfl, rfl, ?_⟩
    have h1 : ∀ (l k : List (List UInt8)), k.Nodup → (∀ t ∈ k, t ∈ l) → k.length ≤ l.length := by
      intro l; induction l with
      | nil => intro k _ h; cases k with
        | nil => simp
        | cons a k => exact absurd (h a (by simp)) (by simp)
      | cons a l ih =>
        intro k hk h
        have := ih (k.erase a) (hk.erase a) (fun t ht => by
          rw [hk.mem_erase_iff] at ht
          rcases List.mem_cons.1 (h t ht.2) with e | e
          · exact absurd e ht.1
          · exact e)
        by_cases hm : a ∈ k
        · rw [List.length_erase_of_mem hm] at this; simp; omega
        · rw [List.erase_of_not_mem hm] at this; simp; omega
    have := h1 l (H1.map (·.1)) r1.nodup (fun t ht => (r1.mem t).1 ht)
    rw [List.length_map] at this
    omega
theorem slotted {seed N : Nat} (hN : 0 < N) (l : List (List UInt8)) :
    (slF seed N l [] [] = none ∧ slF seed N l.reverse [] [] = none ∧ N < l.length) ∨
    ∃ a b, slF seed N l [] [] = some a ∧ slF seed N l.reverse [] [] = some b ∧ (∀ (i k : Nat) (x y : Nat) (t u : List UInt8), a[i]? = some x → a[k]? = some y → l[i]? = some t → l[k]? = some u → (x = y ↔ t = u)) ∧ ∀ x ∈ a, x ∈ b := by
  rw [slF_slG, slF_slG]
  exact slottedG hN l
end Go.Proofs.YtabipemlemppjaaDoor
