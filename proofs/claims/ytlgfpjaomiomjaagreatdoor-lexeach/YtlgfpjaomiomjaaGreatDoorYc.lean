/- The document's words: plain lists. -/
import Derived.Test.YtlgfpjaomiomjaaGreatDoorYb
import Derived.Test.YtlgfpjaomiomjaaGreatDoorUa
namespace Go.Proofs.YtlgfpjaomiomjaaGreatDoor
open Go.RowKit
set_option linter.unusedVariables false
set_option linter.unusedSimpArgs false

def sgF (c : UInt8) (b : Bool) : Option (List UInt8) := signL.find? fun t => match t with
  | [x] => x == c
  | [x, y] => x == c && b
  | _ => false
def sgN (c : UInt8) (b : Bool) : Nat := if b = true ∧ (c = 61 ∨ c = 33 ∨ c = 60) then 2 else if oneS (cI c) = true then 1 else 0
theorem sg_all : ∀ (n : Fin 256) (b : Bool), sgF (UInt8.ofNat n.val) b = if sgN (UInt8.ofNat n.val) b = 0 then none else some (if sgN (UInt8.ofNat n.val) b = 2 then [UInt8.ofNat n.val, 61] else [UInt8.ofNat n.val]) := by decide +kernel
theorem sg_any (c : UInt8) (b : Bool) : sgF c b = if sgN c b = 0 then none else some (if sgN c b = 2 then [c, 61] else [c]) := by
  have := sg_all ⟨c.toNat, c.toNat_lt⟩ b
  simpa using this
theorem find_congr2 {α : Type} (p q : α → Bool) : ∀ (l : List α), (∀ x ∈ l, p x = q x) → l.find? p = l.find? q
  | [], _ => rfl
  | a :: l, h => by
    rw [List.find?_cons, List.find?_cons, h a (by simp), find_congr2 p q l (fun x hx => h x (by simp [hx]))]
theorem sign_shape : ∀ t ∈ signL, (∃ x, t = [x]) ∨ ∃ x, t = [x, 61] := by
  intro t ht
  simp only [signL, List.mem_cons, List.not_mem_nil, or_false] at ht
  rcases ht with h | h | h | h | h | h | h | h | h | h | h | h | h | h | h | h | h | h
  all_goals subst h
  all_goals first | exact .inl ⟨_, rfl⟩ | exact .inr ⟨_, rfl⟩
theorem rsign_of (c : UInt8) (cs : List UInt8) : signOf (c :: cs) = if rsignN (c :: cs) = 0 then none else some ((c :: cs).take (rsignN (c :: cs))) := by
  obtain ⟨b, hb⟩ : ∃ b : Bool, b = (cs.head? == some 61) := ⟨_, rfl⟩
  have h1 : signOf (c :: cs) = sgF c b := by
    unfold signOf sgF
    refine find_congr2 _ _ _ fun t ht => ?_
    rcases sign_shape t ht with ⟨x, rfl⟩ | ⟨x, rfl⟩
    · simp [Lib.hasPrefix, List.isPrefixOf]
    · cases cs with
      | nil => rw [hb]; simp [Lib.hasPrefix, List.isPrefixOf]
      | cons d ds =>
        rw [hb]
        simp only [Lib.hasPrefix, List.isPrefixOf, List.head?_cons, Bool.and_true]
        congr 1
        by_cases hd : d = 61
        · subst hd; rfl
        · have : ((61 : UInt8) == d) = false := by simpa using fun e => hd e.symm
          rw [this]; symm; simpa using hd
  have h2 : rsignN (c :: cs) = sgN c b := by
    unfold rsignN sgN
    cases cs with
    | nil => rw [hb]; simp
    | cons d ds =>
      rw [hb]
      simp only [List.take_succ_cons, List.take_zero, List.cons.injEq, and_true, List.headD_cons, List.head?_cons, beq_iff_eq, Option.some.injEq]
      by_cases hd : d = 61
      · simp only [hd, and_true, true_and]
        by_cases hq : c = 61 ∨ c = 33 ∨ c = 60
        · rw [if_pos hq, if_pos hq]
        · rw [if_neg hq, if_neg hq]; rfl
      · simp only [hd, and_false, false_and, or_self, if_false]; rfl
  rw [h1, sg_any, h2]
  by_cases h0 : sgN c b = 0
  · rw [if_pos h0, if_pos h0]
  · rw [if_neg h0, if_neg h0]
    by_cases h3 : sgN c b = 2
    · rw [if_pos h3, h3]
      unfold sgN at h3
      split at h3
      · rename_i hx
        have h4 := hx.1
        rw [hb] at h4
        cases cs with
        | nil => simp at h4
        | cons d ds => simp at h4; subst h4; rfl
      · split at h3 <;> omega
    · rw [if_neg h3]
      have h4 : sgN c b = 1 := by
        unfold sgN at *
        split at h0 <;> rename_i hx
        · rw [if_pos hx] at h3; exact absurd rfl h3
        · rw [if_neg hx] at *
          split at h0 <;> rename_i hy
          · rw [if_pos hy]
          · exact absurd rfl h0
      rw [h4]; rfl

def M128 : Nat := 340282366920938463463374607431768211456
def growV (base : Nat) : List UInt8 → Nat → Option Nat
  | [], a => some a
  | c :: cs, a => if base ≤ saysN c then none else if M128 ≤ a * base + saysN c then none else growV base cs (a * base + saysN c)
def valR (l : List UInt8) : Option Nat :=
  if 1 < l.length ∧ l.head? = some 48 then
    (if l[1]? = some 120 then (if l.drop 2 = [] then none else growV 16 (l.drop 2) 0) else if l[1]? = some 98 then (if l.drop 2 = [] then none else growV 2 (l.drop 2) 0) else none)
  else if l = [] then none else growV 10 l 0
theorem worth_all16 : ∀ n : Fin 256, worth 16 (Lib.lowerB (UInt8.ofNat n.val)) = if saysN (UInt8.ofNat n.val) < 16 then some (saysN (UInt8.ofNat n.val)) else none := by decide +kernel
theorem worth_all2 : ∀ n : Fin 256, worth 2 (Lib.lowerB (UInt8.ofNat n.val)) = if saysN (UInt8.ofNat n.val) < 2 then some (saysN (UInt8.ofNat n.val)) else none := by decide +kernel
theorem worth_all10 : ∀ n : Fin 256, worth 10 (UInt8.ofNat n.val) = if saysN (UInt8.ofNat n.val) < 10 then some (saysN (UInt8.ofNat n.val)) else none := by decide +kernel
theorem low_all48 : ∀ n : Fin 256, Lib.lowerB (UInt8.ofNat n.val) = 48 → UInt8.ofNat n.val = 48 := by decide +kernel
theorem low48 (c : UInt8) (h : Lib.lowerB c = 48) : c = 48 := by
  have := low_all48 ⟨c.toNat, c.toNat_lt⟩
  simp at this; exact this h
theorem worth16 (c : UInt8) : worth 16 (Lib.lowerB c) = if saysN c < 16 then some (saysN c) else none := by
  have := worth_all16 ⟨c.toNat, c.toNat_lt⟩
  simpa using this
theorem worth2 (c : UInt8) : worth 2 (Lib.lowerB c) = if saysN c < 2 then some (saysN c) else none := by
  have := worth_all2 ⟨c.toNat, c.toNat_lt⟩
  simpa using this
theorem worth10 (c : UInt8) : worth 10 (id c) = if saysN c < 10 then some (saysN c) else none := by
  have := worth_all10 ⟨c.toNat, c.toNat_lt⟩
  simpa using this
def below128 (o : Option Nat) : Option Nat := match o with
  | none => none
  | some v => if v < M128 then some v else none
theorem below_yes {v : Nat} (h : v < 340282366920938463463374607431768211456) : below128 (some v) = some v := if_pos h
theorem below_no {v : Nat} (h : ¬ v < 340282366920938463463374607431768211456) : below128 (some v) = none := if_neg h
theorem grow_num {base : Nat} (hb : 1 ≤ base) (f : UInt8 → UInt8) (hf : ∀ c, worth base (f c) = if saysN c < base then some (saysN c) else none) :
    ∀ (cs : List UInt8) (a : Nat), a < M128 → growV base cs a = below128 (num base (cs.map f) a)
  | [], a, h => by simp [growV, num, below128, h]
  | c :: cs, a, h => by
    rw [growV, List.map_cons]
    by_cases hc : base ≤ saysN c
    · rw [if_pos hc, num_none (by rw [hf, if_neg (by omega)])]; rfl
    · rw [if_neg hc, num_some (d := saysN c) (by rw [hf, if_pos (by omega)])]
      by_cases hm : M128 ≤ a * base + saysN c
      · rw [if_pos hm]
        cases hn : num base (cs.map f) (a * base + saysN c) with
        | none => rfl
        | some v =>
          have := num_le hb _ _ _ hn
          simp only [below128]
          rw [if_neg (by omega)]
      · rw [if_neg hm]
        exact grow_num hb f hf cs _ (by omega)
theorem zeros_of : ∀ d : List UInt8, d ≠ [] → ∃ k X, d = List.replicate k 48 ++ X ∧ X ≠ [] ∧ (1 < X.length → X.head? ≠ some 48)
  | [], h => absurd rfl h
  | [c], _ => ⟨0, [c], rfl, by simp, by simp⟩
  | c :: e :: es, _ => by
    by_cases hc : c = 48
    · obtain ⟨k, X, h1, h2, h3⟩ := zeros_of (e :: es) (by simp)
      exact ⟨k + 1, X, by rw [h1, hc, List.replicate_succ]; rfl, h2, h3⟩
    · exact ⟨0, c :: e :: es, rfl, by simp, fun _ h => hc (by simpa using h)⟩
theorem num_zeros {base : Nat} (f : UInt8 → UInt8) (hf : worth base (f 48) = some 0) : ∀ (k : Nat) (X : List UInt8), num base ((List.replicate k 48 ++ X).map f) 0 = num base (X.map f) 0
  | 0, X => rfl
  | k + 1, X => by
    rw [List.replicate_succ, List.cons_append, List.map_cons, num_some hf, Nat.zero_mul, Nat.zero_add]
    exact num_zeros f hf k X
theorem fd_cut {base : Nat} (hb : 1 ≤ base) (hf : ∀ c, worth base (Lib.lowerB c) = if saysN c < base then some (saysN c) else none) (d : List UInt8) (hd : d ≠ []) :
    ((fdN base (cutL d)).2 = 0 → growV base d 0 = some (fdN base (cutL d)).1) ∧ ((fdN base (cutL d)).2 ≠ 0 → growV base d 0 = none) := by
  obtain ⟨k, X, h1, h2, h3⟩ := zeros_of d hd
  have hg := grow_num hb Lib.lowerB hf d 0 (by decide)
  rw [h1, num_zeros Lib.lowerB (by rw [hf]; simp [saysN]; omega), ← h1] at hg
  rw [h1, cut_zeros k X h2 h3, ← h1]
  unfold fdN
  have hne : ¬ (Lib.toLowerA X = [] ∨ (1 < (Lib.toLowerA X).length ∧ (Lib.toLowerA X).head? = some 48)) := by
    unfold Lib.toLowerA
    rintro (h | ⟨h, h'⟩)
    · exact h2 (List.map_eq_nil_iff.1 h)
    · rw [List.length_map] at h
      rw [List.head?_map] at h'
      cases hx : X.head? with
      | none => rw [hx] at h'; cases h'
      | some c =>
        rw [hx] at h'
        simp only [Option.map_some, Option.some.injEq] at h'
        exact h3 h (by rw [hx, low48 c h'])
  rw [if_neg hne]
  have e : Lib.toLowerA X = X.map Lib.lowerB := rfl
  rw [e]
  cases hn : num base (X.map Lib.lowerB) 0 with
  | none => rw [hn] at hg; exact ⟨by simp, fun _ => hg⟩
  | some v =>
    rw [hn] at hg
    by_cases hv : v < 340282366920938463463374607431768211456
    · rw [below_yes hv] at hg; simp only [hv, if_true]; exact ⟨fun _ => hg, by simp⟩
    · rw [below_no hv] at hg; simp only [hv, if_false]; exact ⟨by simp, fun _ => hg⟩
def valW (l : List UInt8) : Wd := match valR l with
  | some v => ⟨3, l, v, 0⟩
  | none => ⟨0, [], 0, 61⟩
theorem numW_of {l : List UInt8} (h1 : (fnN (plainL l)).2 = 0 → valR l = some (fnN (plainL l)).1) (h2 : (fnN (plainL l)).2 ≠ 0 → valR l = none) : numW l = valW l := by
  unfold valW
  by_cases h : (fnN (plainL l)).2 = 0
  · rw [h1 h, numW_ok (n := (fnN (plainL l)).1) (by rw [← h])]
  · rw [h2 h, numW_bad h]
theorem num_val (l : List UInt8) (hl : l ≠ []) : numW l = valW l := by
  refine numW_of ?_ ?_
  all_goals
    unfold valR
    by_cases h0 : 1 < l.length ∧ l.head? = some 48
    · rw [if_pos h0]
      obtain ⟨c, d, ds, rfl⟩ : ∃ c d ds, l = c :: d :: ds := by
        match l, h0 with
        | [], h => simp at h
        | [c], h => simp at h
        | c :: d :: ds, _ => exact ⟨c, d, ds, rfl⟩
      have hc : c = 48 := by simpa using h0.2
      subst hc
      rw [show (48 :: d :: ds)[1]? = some d from rfl, show (48 :: d :: ds).drop 2 = ds from rfl]
      by_cases h1 : d = 120
      · subst h1
        rw [if_pos rfl]
        by_cases h2 : ds = []
        · subst h2
          rw [if_pos rfl]
          first | (intro h; exact absurd h (by decide +kernel)) | (intro _; rfl)
        · rw [if_neg h2, show (48 : UInt8) :: 120 :: ds = [48, 120] ++ ds from rfl, plain_hex ds h2, fn_hex]
          first | exact (fd_cut (by decide) worth16 ds h2).1 | exact (fd_cut (by decide) worth16 ds h2).2
      · rw [if_neg (by simpa using h1)]
        by_cases h3 : d = 98
        · subst h3
          rw [if_pos rfl]
          by_cases h2 : ds = []
          · subst h2
            rw [if_pos rfl]
            first | (intro h; exact absurd h (by decide +kernel)) | (intro _; rfl)
          · rw [if_neg h2, show (48 : UInt8) :: 98 :: ds = [48, 98] ++ ds from rfl, plain_bin ds h2, fn_bin]
            first | exact (fd_cut (by decide) worth2 ds h2).1 | exact (fd_cut (by decide) worth2 ds h2).2
        · rw [if_neg (by simpa using h3)]
          have q1 : Lib.hasPrefix (48 :: d :: ds) [48, 120] = false := by
            unfold Lib.hasPrefix; simp [List.isPrefixOf]; exact fun e => h1 e.symm
          have q2 : Lib.hasPrefix (48 :: d :: ds) [48, 98] = false := by
            unfold Lib.hasPrefix; simp [List.isPrefixOf]; exact fun e => h3 e.symm
          rw [plain_same q1 q2, fn_ten q1 q2]
          first | (intro h; exact absurd h (fd_zero (by simp) rfl)) | (intro _; rfl)
    · rw [if_neg h0, if_neg hl]
      have q : ∀ x, Lib.hasPrefix l [48, x] = false := fun x => by
        unfold Lib.hasPrefix
        rw [Bool.eq_false_iff]
        intro h
        have := List.isPrefixOf_iff_prefix.1 h
        obtain ⟨t, ht⟩ := this
        rw [← ht] at h0
        exact h0 ⟨by simp, rfl⟩
      rw [plain_same (q 120) (q 98), fn_ten (q 120) (q 98)]
      unfold fdN
      rw [if_neg (fun h => h.elim hl h0)]
      have hg := grow_num (by decide : 1 ≤ 10) id worth10 l 0 (by decide)
      rw [List.map_id] at hg
      cases hn : num 10 l 0 with
      | none => rw [hn] at hg; first | (simp; done) | exact fun _ => hg
      | some v =>
        rw [hn] at hg
        by_cases hv : v < 340282366920938463463374607431768211456
        · rw [below_yes hv] at hg; simp only [hv, if_true]; first | exact fun _ => hg | (simp; done)
        · rw [below_no hv] at hg; simp only [hv, if_false]; first | exact fun _ => hg | (simp; done)
end Go.Proofs.YtlgfpjaomiomjaaGreatDoor
