/- The reference's undone, of, far. -/
import Derived.Test.YtabipemlemppjaaDoorJd
import Derived.Test.YtabipemlemppjaaDoorSl
namespace Go.Proofs.YtabipemlemppjaaDoor
open Go.RowKit
set_option linter.unusedVariables false
set_option linter.unusedSimpArgs false

set_option maxHeartbeats 1000000 in
theorem undone_any (r : Nat) (hr : r < 4294967296) (w : World) : Calls Tryd.prog 44 #[.int .u32 r] w fun e w' => e = .returned (.int .u32 ((undoN r : Nat) : Int)) ∧ w' = w := by
  by_cases h : 2147483648 ≤ r
  · have h' : (2147483648 : Int) ≤ r := by omega
    have hx := undo_hi r hr h
    have hl := low31 r hr h
    have E : Hid (undoN r = 2 * (r ^^^ 3988292384) + 1) := by show _ = _; unfold undoN; rw [if_pos h]
    generalize r ^^^ 3988292384 = x at *
    have hl' : (x : Int) < 2147483648 := by omega
    go_enter Tryd.func44, Tryd.ntmps44
    go_wp2
    go_ret
    exact ⟨by rw [E.out]; congr 2, rfl⟩
  · have h' : ¬ (2147483648 : Int) ≤ r := by omega
    have E : Hid (undoN r = 2 * r) := by show _ = _; unfold undoN; rw [if_neg h]
    go_enter Tryd.func44, Tryd.ntmps44
    go_wp2
    go_ret
    exact ⟨by rw [E.out]; congr 2, rfl⟩
def cellsF (g : Nat → Nat) (k : Nat) : List Value := (List.range k).map fun j => Value.int .u32 ((g (2 ^ j) : Nat) : Int)
theorem cellsF_snoc (g : Nat → Nat) (k : Nat) : cellsF g (k + 1) = cellsF g k ++ [Value.int .u32 ((g (2 ^ k) : Nat) : Int)] := by
  unfold cellsF; rw [List.range_succ, List.map_append]; rfl
def RowG (w : World) (b : Nat) (g : Nat → Nat) : Prop := ∀ i, i < 32 → w.cell? ⟨b, i, none⟩ = some (.int .u32 ((g (2 ^ i) : Nat) : Int))
theorem RowG.below {w w' : World} {b B : Nat} {g : Nat → Nat} (h : RowG w b g) (hb : Below B w w') (hB : b < B) : RowG w' b g := fun i hi => by
  rw [hb.cell (p := ⟨b, i, none⟩) hB]; exact h i hi
theorem row_of {w : World} {base : Nat} {v : Value} {g : Nat → Nat} (h : w.ownsRow base 23 1 v 32 (cellsF g 32)) : ∃ b cap, v = .slice (some ⟨b, 0, none⟩) 32 cap ∧ b < w.heap.size ∧ RowG w b g := by
  obtain ⟨_, h2⟩ := h
  rcases h2 with ⟨_, h0⟩ | ⟨b, cap, cur, rfl, hb, hg, hcap, _, hsz, ht⟩
  · omega
  · refine ⟨b, cap, rfl, (Array.getElem?_eq_some_iff.1 hg).1, fun i hi => ?_⟩
    rw [cell_of_row w b i _ _ _ hg]
    have h3 : (cur.toList.take (32 * 1))[i]? = (cellsF g 32)[i]? := by rw [ht]
    rw [List.getElem?_take, if_pos (by omega)] at h3
    rw [show cur[i]? = cur.toList[i]? by simp, h3]
    simp [cellsF, List.getElem?_range hi]
set_option maxHeartbeats 1000000 in
set_option maxRecDepth 100000 in
theorem rof_any (f : Nat → Nat) (hf : Lin f) (r : Nat) (hr : r < 4294967296) (b cap : Nat) (w : World) (R : RowG w b f) : Calls Tryd.prog 45 #[.slice (some ⟨b, 0, none⟩) 32 cap, .int .u32 r] w fun e w' => e = .returned (.int .u32 ((f r : Nat) : Int)) ∧ w' = w := by
  have HR : Hid (RowG w b f) := R
  clear R
  go_enter Tryd.func45, Tryd.ntmps45
  go_wp2_with fail
  go_loop [1, 5, 6] (fun rv ov iv => ∃ i : Nat, i ≤ 32 ∧ iv = .int .i64 i ∧ rv = .int .u32 ((r / 2 ^ i : Nat) : Int) ∧ ov = .int .u32 ((f (r % 2 ^ i) : Nat) : Int)) (fun _ _ iv => 32 - (intOf iv).toNat)
  case atStart => exact ⟨0, by omega, rfl, by simp, by rw [Nat.pow_zero, Nat.mod_one, hf.zero]; rfl⟩
  case round =>
    obtain ⟨i, hi, rfl, rfl, rfl⟩ := hrel
    by_cases hlt : i < 32
    · have hlt' : (i : Int) < 32 := by omega
      have hn := lin_next hf r i hlt
      have hq : r / 2 ^ (i + 1) = r / 2 ^ i / 2 := by rw [Nat.pow_succ, Nat.div_div_eq_div_mul]
      have hc := HR.out i hlt
      have p1 : 2 ^ i ≤ 2 ^ 31 := Nat.pow_le_pow_right (by decide) (by omega)
      have p0 := Nat.pow_pos (n := i) (show 0 < 2 by decide)
      have p2 : r % 2 ^ i < 4294967296 := Nat.lt_of_lt_of_le (Nat.mod_lt _ p0) (Nat.le_trans p1 (by decide))
      have l1 := hf.lt _ p2
      have l2 := hf.lt (2 ^ i) (Nat.lt_of_le_of_lt p1 (by decide))
      have l3 : r / 2 ^ i < 4294967296 := Nat.lt_of_le_of_lt (Nat.div_le_self _ _) hr
      have ex := u32_xor_nat (f (r % 2 ^ i)) (f (2 ^ i)) l1 l2
      have HN : Hid _ := hn
      have HQ : Hid _ := hq
      clear hn hq p1 p0 p2
      generalize hA : f (r % 2 ^ i) = A at *
      generalize hE : f (2 ^ i) = E at *
      generalize hD : r / 2 ^ i = D at *
      clear hA hE hD
      by_cases h1 : D % 2 = 1
      · have hb : ((D : Int) % 2 == 1) = true := by simp; omega
        have H1 : Hid (D % 2 = 1) := h1
        clear h1
        go_wp2_with fail
        refine ⟨⟨i + 1, by omega, by go_num, ?_, ?_⟩, by simp only [intOf]; omega⟩
        · rw [HQ.out]; congr 1
        · rw [HN.out, if_pos H1.out]
      · have hb : ((D : Int) % 2 == 1) = false := by simp; omega
        go_wp2_with fail
        refine ⟨⟨i + 1, by omega, by go_num, ?_, ?_⟩, by simp only [intOf]; omega⟩
        · rw [HQ.out]; congr 1
        · rw [HN.out, if_neg h1, Nat.xor_zero]
    · obtain rfl : i = 32 := by omega
      have e : r % 2 ^ 32 = r := Nat.mod_eq_of_lt hr
      rw [e]
      clear e
      go_wp2_with fail
      go_ret
      exact ⟨rfl, rfl⟩
end Go.Proofs.YtabipemlemppjaaDoor
