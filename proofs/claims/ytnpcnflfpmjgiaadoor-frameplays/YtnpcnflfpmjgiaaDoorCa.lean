/- Package disk's inner calls: written, its closure, kept, step, refusal: what each answers and leaves. -/
import Derived.Test.YtnpcnflfpmjgiaaDoorDk
namespace Go.Proofs.YtnpcnflfpmjgiaaDoor
open Go.RowKit
set_option linter.unusedVariables false
set_option linter.unusedSimpArgs false

theorem mk_func : ∀ (fn : Fn) (first cap : Array Value) (w : World), (Instr.makeFunc fn first cap).run Tryd.prog w = .ok (.func fn first cap) w := fun _ _ _ _ => rfl
theorem written_any (n : Int) (s : ByteArray) (w : World) : Calls Tryd.prog 84 #[.int .i64 n, .string s] w fun e w' => e = .returned (clo (w.heap.size + 1, w.heap.size)) ∧ w' = (w.alloc (.cells #[.int .i64 n] 3)).alloc (.cells #[.string s] 9) := by
  have hmf := mk_func
  go_enter Tryd.func84, Tryd.ntmps84
  go_wp2
  go_ret
  exact ⟨rfl, rfl⟩
/-- Of no bytes: the number alone. -/
theorem none71 {w : World} (v : Value) (x : Nat × Nat) (n : Nat) (h : w.cell? ⟨x.2, 0, none⟩ = some (.int .i64 n)) : Calls Tryd.prog 94 #[v, .int .i64 0, .pointer (some ⟨x.1, 0, none⟩), .pointer (some ⟨x.2, 0, none⟩)] w fun e w' => e = .returned (.int .i64 n) ∧ w' = w := by
  go_enter Tryd.func94, Tryd.ntmps94
  go_wp2
  go_ret
  exact ⟨rfl, rfl⟩
set_option maxHeartbeats 1000000 in
set_option maxRecDepth 100000 in
/-- Of some bytes: they are laid down. -/
theorem some71 {w : World} (g l cg : Nat) (x : Nat × Nat) (n k : Nat) (s o : ByteArray) (h1 : w.cell? ⟨x.1, 0, none⟩ = some (.string s)) (h2 : w.cell? ⟨x.2, 0, none⟩ = some (.int .i64 n)) (hn : n < l) (hl : l ≤ 4096)
    (hc : w.cell? ⟨g, n, none⟩ = some (.string o)) (hf : w.frozen? ⟨g, n, none⟩ = false) (hs : s.size = 512) (ho : o.size = 512) (hk : 0 < k) (hk5 : k ≤ 512) (hxg : x.2 ≠ g) :
    Calls Tryd.prog 94 #[.slice (some ⟨g, 0, none⟩) l cg, .int .i64 k, .pointer (some ⟨x.1, 0, none⟩), .pointer (some ⟨x.2, 0, none⟩)] w fun e w' => e = .returned (.int .i64 n) ∧ w' = (w.setCell ⟨g, n, none⟩ (.string (tear s o k))).drew := by
  have hk' : (0 : Int) < (k : Int) := by omega
  have hk6 : (k : Int) ≤ 512 := by omega
  have hn' : (n : Int) < (l : Int) := by omega
  go_enter Tryd.func94, Tryd.ntmps94
  go_wp2
  go_region
  go_wp2
  go_ret
  exact ⟨rfl, rfl⟩
/-- How many bytes a fate keeps. -/
def keptK (kd t : Int) : Nat := if kd = 1 then 512 else if kd = 2 then min (max t 0) 512 |>.toNat else 0
theorem keptK_le (kd t : Int) : keptK kd t ≤ 512 := by 
  unfold keptK; split
  · omega
  · split <;> omega
theorem kept_any (kd t : Int) (w : World) : Calls Tryd.prog 66 #[.agg #[.int .i64 kd, .int .i64 t]] w fun e w' => e = .returned (.int .i64 (keptK kd t)) ∧ Below w.heap.size w w' := by
  have hb : Below w.heap.size w (w.alloc (.cells #[.int .i64 kd, .int .i64 t] 72)) := (Below.refl _ _).alloc (Nat.le_refl _) _
  have H : Hid (∀ q : Int, (keptK kd t : Int) = q → Ending.returned (.int .i64 q) = Ending.returned (.int .i64 (keptK kd t))) := fun q h => by rw [h]
  by_cases h1 : kd = 1
  · have e1 : (kd == 1) = true := by simpa using h1
    have HK : Hid ((keptK kd t : Int) = 512) := by show _ = _; unfold keptK; rw [if_pos h1]; rfl
    generalize keptK kd t = K at *
    clear h1
    go_enter Tryd.func66, Tryd.ntmps66
    go_wp2
    go_ret
    exact ⟨H.out _ HK.out, hb⟩
  · have e1 : (kd == 1) = false := by simpa using h1
    by_cases h2 : kd = 2
    · have e2 : (kd == 2) = true := by simpa using h2
      have HK : Hid ((keptK kd t : Int) = min (max t 0) 512) := by show _ = _; unfold keptK; rw [if_neg h1, if_pos h2]; omega
      generalize keptK kd t = K at *
      clear h1 h2
      go_enter Tryd.func66, Tryd.ntmps66
      go_wp2
      all_goals go_ret
      all_goals refine ⟨H.out _ ?_, hb⟩
      all_goals rw [HK.out]
      all_goals omega
    · have e2 : (kd == 2) = false := by simpa using h2
      have HK : Hid ((keptK kd t : Int) = 0) := by show _ = _; unfold keptK; rw [if_neg h1, if_neg h2]; rfl
      generalize keptK kd t = K at *
      clear h1 h2
      go_enter Tryd.func66, Tryd.ntmps66
      go_wp2
      go_ret
      exact ⟨H.out _ HK.out, hb⟩
theorem full58 (i : Int) (w : World) : Calls Tryd.prog 64 #[.int .i64 i] w fun e w' => e = .returned (.int .i64 512) ∧ w' = w := by
  go_enter Tryd.func64, Tryd.ntmps64
  go_wp2
  go_ret
  exact ⟨rfl, rfl⟩
/-- Fates in memory. -/
def Fts (w : World) (fb off : Nat) (fs : List (Int × Int)) : Prop := ∀ (i : Nat) (kd t : Int), fs[i]? = some (kd, t) → w.cell? ⟨fb, off + i * 2, none⟩ = some (.int .i64 kd) ∧ w.cell? ⟨fb, off + i * 2 + 1, none⟩ = some (.int .i64 t)
/-- How many bytes of the i-th write are kept. -/
def fateK (fs : List (Int × Int)) (i : Nat) : Nat := match fs[i]? with
  | some (kd, t) => keptK kd t
  | none => 0
theorem fateK_le (fs : List (Int × Int)) (i : Nat) : fateK fs i ≤ 512 := by unfold fateK; split; exact keptK_le _ _; omega
theorem none54 {w : World} (i n c : Nat) (a : Option Addr) (bx : Nat) (hb : w.cell? ⟨bx, 0, none⟩ = some (.slice a n c)) (hi : n ≤ i) : Calls Tryd.prog 65 #[.int .i64 i, .pointer (some ⟨bx, 0, none⟩)] w fun e w' => e = .returned (.int .i64 0) ∧ w' = w := by
  have hi' : (n : Int) ≤ (i : Int) := by omega
  go_enter Tryd.func65, Tryd.ntmps65
  go_wp2
  go_ret
  exact ⟨rfl, rfl⟩
set_option maxRecDepth 100000 in
theorem some54 {w : World} (i n c : Nat) (fb off : Nat) (bx : Nat) (kd t : Int) (hb : w.cell? ⟨bx, 0, none⟩ = some (.slice (some ⟨fb, off, none⟩) n c)) (hi : i < n)
    (h1 : w.cell? ⟨fb, off + i * 2, none⟩ = some (.int .i64 kd)) (h2 : w.cell? ⟨fb, off + i * 2 + 1, none⟩ = some (.int .i64 t)) :
    Calls Tryd.prog 65 #[.int .i64 i, .pointer (some ⟨bx, 0, none⟩)] w fun e w' => e = .returned (.int .i64 (keptK kd t)) ∧ Below w.heap.size w w' := by
  have hi' : (i : Int) < (n : Int) := by omega
  go_enter Tryd.func65, Tryd.ntmps65
  go_wp2_with fail
  refine (kept_any _ _ _).mono ?_
  rintro e w1 ⟨rfl, hb1⟩
  go_wp2
  go_ret
  exact ⟨rfl, hb1⟩
end Go.Proofs.YtnpcnflfpmjgiaaDoor
