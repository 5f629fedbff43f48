/- Numbers as words: plain lists. -/
import Derived.Test.YtlgfpjaomiomjaaGreatDoorDd
import Derived.Test.YtlgfpjaomiomjaaGreatDoorJb
namespace Go.Proofs.YtlgfpjaomiomjaaGreatDoor
open Go.RowKit
set_option linter.unusedVariables false
set_option linter.unusedSimpArgs false

theorem num_bad {base : Nat} {c : UInt8} (h : worth base c = none) : ∀ (l : List UInt8) (a : Nat), c ∈ l → num base l a = none
  | [], a, hm => by simp at hm
  | x :: xs, a, hm => by
    cases hx : worth base x with
    | none => exact num_none hx
    | some d =>
      rw [num_some hx]
      rcases List.mem_cons.1 hm with rfl | hm
      · rw [h] at hx; cases hx
      · exact num_bad h xs _ hm
theorem fd_bad {base : Nat} {c : UInt8} {l : List UInt8} (h : worth base c = none) (hm : c ∈ l) : (fdN base l).2 ≠ 0 := by
  unfold fdN
  split
  · simp
  · rw [num_bad h l 0 hm]; simp
theorem fd_zero {base : Nat} {l : List UInt8} (h : 1 < l.length) (hh : l.head? = some 48) : (fdN base l).2 ≠ 0 := by
  unfold fdN
  rw [if_pos (.inr ⟨h, hh⟩)]; simp
theorem not_prefix {c : UInt8} {t l : List UInt8} (h1 : c ∈ t) (h2 : c ∉ l) : Lib.hasPrefix l t = false := by
  unfold Lib.hasPrefix
  rw [Bool.eq_false_iff]
  intro h
  exact h2 ((List.isPrefixOf_iff_prefix.1 h).subset h1)
theorem plain_same {l : List UInt8} (h1 : Lib.hasPrefix l [48, 120] = false) (h2 : Lib.hasPrefix l [48, 98] = false) : plainL l = l := by
  unfold plainL hasB
  rw [h1, h2]; simp
theorem pre_take {l t : List UInt8} (h : Lib.hasPrefix l t = false) : l.take t.length ≠ t := fun e => by
  unfold Lib.hasPrefix at h
  rw [Bool.eq_false_iff] at h
  exact h (List.isPrefixOf_iff_prefix.2 (List.prefix_iff_eq_take.2 e.symm))
theorem fn_ten {l : List UInt8} (h1 : Lib.hasPrefix l [48, 120] = false) (h2 : Lib.hasPrefix l [48, 98] = false) : fnN l = fdN 10 l := by
  unfold fnN
  rw [if_neg (show ¬ l.take 2 = [48, 120] from pre_take h1), if_neg (show ¬ l.take 2 = [48, 98] from pre_take h2)]
theorem prN_ok {l : List UInt8} {n : Nat} (h : fnN l = (n, 0)) : prN l = (n, 0) := by unfold prN; rw [h]; rfl
theorem prN_bad {l : List UInt8} (h : (fnN l).2 ≠ 0) : (prN l).2 ≠ 0 := by unfold prN; rw [if_neg h]; exact h
theorem numW_ok {l : List UInt8} {n : Nat} (h : fnN (plainL l) = (n, 0)) : numW l = ⟨3, l, n, 0⟩ := by unfold numW; rw [prN_ok h]; rfl
theorem numW_bad {l : List UInt8} (h : (fnN (plainL l)).2 ≠ 0) : numW l = ⟨0, [], 0, 61⟩ := by unfold numW; rw [if_neg (prN_bad h)]
theorem sgn_ten : ∀ d, d < 10 → sgn d ≠ 120 ∧ sgn d ≠ 98 := by decide
theorem digs_no {base n : Nat} (hb : 0 < base) (c : UInt8) (h : ∀ d, d < base → sgn d ≠ c) : c ∉ digs base n := fun hm => by
  obtain ⟨d, hd, e⟩ := digs_mem hb hm
  exact h d hd e.symm
theorem num_ten {n : Nat} (hn : Is128 n) : numW (digs 10 n) = ⟨3, digs 10 n, n, 0⟩ := by
  have h1 : Lib.hasPrefix (digs 10 n) [48, 120] = false := not_prefix (c := 120) (by simp) (digs_no (by decide) _ (fun d hd => (sgn_ten d hd).1))
  have h2 : Lib.hasPrefix (digs 10 n) [48, 98] = false := not_prefix (c := 98) (by simp) (digs_no (by decide) _ (fun d hd => (sgn_ten d hd).2))
  exact numW_ok (by rw [plain_same h1 h2, fn_ten h1 h2]; exact fd_digs (by decide) (by decide) hn)
/-- Noughts ahead, capitals: they are taken out. -/
theorem cut_zeros (k : Nat) (X : List UInt8) (hX : X ≠ []) (hh : 1 < X.length → X.head? ≠ some 48) : cutL (List.replicate k 48 ++ X) = Lib.toLowerA X := by
  obtain ⟨m, c, rfl⟩ : ∃ m c, X = m ++ [c] := ⟨X.dropLast, X.getLast hX, (List.dropLast_concat_getLast hX).symm⟩
  unfold cutL
  have hl : (List.replicate k 48 ++ (m ++ [c])).length - 1 = (List.replicate k 48 ++ m).length := by simp only [List.length_append, List.length_replicate, List.length_cons, List.length_nil]; omega
  rw [hl, ← List.append_assoc, List.take_append_of_le_length (by simp), List.take_length, List.drop_append_of_le_length (by simp), List.drop_length, List.nil_append]
  congr 2
  unfold Lib.trimLeftB
  rw [List.dropWhile_append]
  have hz : ∀ k, (List.replicate k (48 : UInt8)).dropWhile (fun x => x == 48) = [] := by
    intro k
    induction k with
    | zero => rfl
    | succ k ih => rw [List.replicate_succ, List.dropWhile_cons]; simp
  rw [hz k]
  simp only [List.isEmpty_nil, if_true]
  cases m with
  | nil => rfl
  | cons a rs =>
    have ha : a ≠ 48 := fun e => hh (by simp) (by rw [e]; rfl)
    rw [List.dropWhile_cons]
    simp [ha]
theorem has_pre (b X : List UInt8) (hX : X ≠ []) : hasB (b ++ X) b = true := by
  unfold hasB Lib.hasPrefix
  rw [show b.isPrefixOf (b ++ X) = true from List.isPrefixOf_iff_prefix.2 (List.prefix_append _ _)]
  simp [hX]
theorem plain_hex (X : List UInt8) (hX : X ≠ []) : plainL ([48, 120] ++ X) = [48, 120] ++ cutL X := by
  unfold plainL
  rw [if_pos (has_pre [48, 120] X hX)]; rfl
theorem plain_bin (X : List UInt8) (hX : X ≠ []) : plainL ([48, 98] ++ X) = [48, 98] ++ cutL X := by
  unfold plainL
  rw [if_neg (by unfold hasB Lib.hasPrefix; simp), if_pos (has_pre [48, 98] X hX)]; rfl
theorem fn_hex (D : List UInt8) : fnN ([48, 120] ++ D) = fdN 16 D := by unfold fnN; rw [if_pos (by rfl)]; rfl
theorem fn_bin (D : List UInt8) : fnN ([48, 98] ++ D) = fdN 2 D := by unfold fnN; rw [if_neg (by simp), if_pos (by rfl)]; rfl
def upB (c : UInt8) : UInt8 := if 97 ≤ c then c - 32 else c
theorem sgn_up : ∀ d, d < 16 → Lib.lowerB (upB (sgn d)) = sgn d ∧ Lib.lowerB (sgn d) = sgn d ∧ (upB (sgn d) = 48 → sgn d = 48) ∧ ptI (cI (sgn d)) = true ∧ ptI (cI (upB (sgn d))) = true := by decide
theorem digs_first {base n : Nat} (hb : 2 ≤ base) (hb1 : base ≤ 16) (hn : Is128 n) : 1 < (digs base n).length → (digs base n).head? ≠ some 48 := fun h h' => by
  by_cases h0 : n = 0
  · subst h0
    have : digs base 0 = [sgn 0] := by unfold digs; rw [rdig_stop (by simp)]; simp
    rw [this] at h; simp at h
  · obtain ⟨d, d0, d1, hd⟩ := rdig_head hb 128 n (Nat.lt_of_lt_of_le hn (pow_bound hb)) h0
    unfold digs at h'
    rw [hd] at h'; injection h' with h'
    have := sgn_48 d (by omega) h'
    omega
theorem lower_digs {base n : Nat} (hb : 0 < base) (hb1 : base ≤ 16) : Lib.toLowerA (digs base n) = digs base n := by
  unfold Lib.toLowerA
  have : ∀ c ∈ digs base n, Lib.lowerB c = c := fun c hc => by
    obtain ⟨d, hd, rfl⟩ := digs_mem hb hc
    exact (sgn_up d (by omega)).2.1
  rw [List.map_congr_left this, List.map_id']
theorem lower_up {base n : Nat} (hb : 0 < base) (hb1 : base ≤ 16) : Lib.toLowerA ((digs base n).map upB) = digs base n := by
  unfold Lib.toLowerA
  rw [List.map_map]
  have : ∀ c ∈ digs base n, (Lib.lowerB ∘ upB) c = c := fun c hc => by
    obtain ⟨d, hd, rfl⟩ := digs_mem hb hc
    exact (sgn_up d (by omega)).1
  rw [List.map_congr_left this, List.map_id']
theorem num_hex {n : Nat} (hn : Is128 n) : numW ([48, 120] ++ digs 16 n) = ⟨3, [48, 120] ++ digs 16 n, n, 0⟩ := by
  refine numW_ok ?_
  rw [plain_hex _ (digs_ne 16 n)]
  have := cut_zeros 0 (digs 16 n) (digs_ne 16 n) (digs_first (by decide) (by decide) hn)
  simp only [List.replicate_zero, List.nil_append] at this
  rw [this, lower_digs (by decide) (by decide), fn_hex]
  exact fd_digs (by decide) (by decide) hn
theorem num_bin {n : Nat} (hn : Is128 n) : numW ([48, 98] ++ digs 2 n) = ⟨3, [48, 98] ++ digs 2 n, n, 0⟩ := by
  refine numW_ok ?_
  rw [plain_bin _ (digs_ne 2 n)]
  have := cut_zeros 0 (digs 2 n) (digs_ne 2 n) (digs_first (by decide) (by decide) hn)
  simp only [List.replicate_zero, List.nil_append] at this
  rw [this, lower_digs (by decide) (by decide), fn_bin]
  exact fd_digs (by decide) (by decide) hn
theorem num_big {n : Nat} (hn : Is128 n) : numW ([48, 120] ++ ([48, 48] ++ (digs 16 n).map upB)) = ⟨3, [48, 120] ++ ([48, 48] ++ (digs 16 n).map upB), n, 0⟩ := by
  refine numW_ok ?_
  rw [plain_hex _ (by simp)]
  have hne : (digs 16 n).map upB ≠ [] := by simp [digs_ne 16 n]
  have := cut_zeros 2 ((digs 16 n).map upB) hne (fun h h' => by
    rw [List.length_map] at h
    rw [List.head?_map] at h'
    cases hd : (digs 16 n).head? with
    | none => rw [hd] at h'; cases h'
    | some c =>
      rw [hd] at h'
      simp only [Option.map_some, Option.some.injEq] at h'
      have hm : c ∈ digs 16 n := List.mem_of_mem_head? hd
      obtain ⟨d, hd2, rfl⟩ := digs_mem (by decide) hm
      exact digs_first (by decide) (by decide) hn h (by rw [hd, (sgn_up d hd2).2.2.1 h']))
  rw [show List.replicate 2 (48 : UInt8) = [48, 48] from rfl] at this
  rw [this, lower_up (by decide) (by decide), fn_hex]
  exact fd_digs (by decide) (by decide) hn
end Go.Proofs.YtlgfpjaomiomjaaGreatDoor
