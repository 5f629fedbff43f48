/- The statements' helpers: pick, right; frames held against one another. -/
import Derived.Test.YtnpcnflfpmjgiaaDoorAw
import Derived.Test.YtnpcnflfpmjgiaaDoorCm
namespace Go.Proofs.YtnpcnflfpmjgiaaDoor
open Go.RowKit
set_option linter.unusedVariables false
set_option linter.unusedSimpArgs false

theorem pk_any (c n : Int) (hc : I64 c) (hn : 0 < n) (hb : n ≤ 9223372036854775807) (w : World) : Calls Tryd.prog 17 #[.int .i64 c, .int .i64 n] w fun e w' => e = .returned (.int .i64 (pickI c n)) ∧ w' = w := by
  by_cases h : c < 0
  · obtain ⟨e1, e2, e3⟩ := neg_wraps hc h
    have HP : Hid (pickI c n = -(c + 1) % n) := by show _ = _; unfold pickI; rw [if_pos h]
    have r2 := rem_wrap e3 hn hb
    have r1 := rem_eq (-(c + 1)) n e3
    generalize pickI c n = P at *
    have hn0 : ¬ n = 0 := by omega
    clear hc
    go_enter Tryd.func17, Tryd.ntmps17
    go_wp2
    go_ret
    exact ⟨by rw [HP.out]; rfl, rfl⟩
  · have HP : Hid (pickI c n = c % n) := by show _ = _; unfold pickI; rw [if_neg h]
    have r2 := rem_wrap (show 0 ≤ c by omega) hn hb
    have r1 := rem_eq c n (by omega)
    have h' : 0 ≤ c := by omega
    generalize pickI c n = P at *
    have hn0 : ¬ n = 0 := by omega
    clear hc
    go_enter Tryd.func17, Tryd.ntmps17
    go_wp2
    go_ret
    exact ⟨by rw [HP.out]; rfl, rfl⟩
/-- Whether two frames are one. -/
def sameF (f g : Fr) : Bool := (f.kind == g.kind) && ((f.num : Int) == (g.num : Int)) && (f.idx == g.idx) && (f.body.toList == g.body.toList)
theorem sameF_self (f : Fr) : sameF f f = true := by unfold sameF; simp
theorem run_eqF (a c d e : Int) (b f : ByteArray) (n m : Nat) (w : World) : (binOp .eql 24 (.agg #[.int .i64 a, .int .u64 (n : Int), .int .i64 c, .string b]) (.agg #[.int .i64 d, .int .u64 (m : Int), .int .i64 e, .string f])).run Tryd.prog w = .ok (.bool ((a == d) && ((n : Int) == (m : Int)) && (c == e) && (b.toList == f.toList))) w := by
  have hS : Tryd.prog.underlying 24 = some (.struct (Tryd.prog.fieldsOf 24)) := by kernel_rfl
  have hp : Tryd.prog.stoodInHeld 24 = false := by kernel_rfl
  have u := Tryd.underlying3
  have u2 := Tryd.underlying22
  have u3 := Tryd.underlying9
  have h : (Op.equalIn 10000 24 (.agg #[.int .i64 a, .int .u64 (n : Int), .int .i64 c, .string b]) (.agg #[.int .i64 d, .int .u64 (m : Int), .int .i64 e, .string f])).run Tryd.prog w = .ok (a == d && (n : Int) == (m : Int) && c == e && b.toList == f.toList) w := by
    rw [show (10000 : Nat) = 9999 + 1 from rfl, run_equalIn_struct w 9999 24 _ _ hS hp]
    simp only [Program.fieldsOf, Tryd.underlying24]
    go_simp
    by_cases h1 : a = d <;> by_cases h2 : (n : Int) = (m : Int) <;> by_cases h3 : c = e <;> by_cases h4 : b.toList = f.toList <;> simp [h1, h2, h3, h4]
  simp only [binOp]
  simp [Op.equal, Op.maxDepth, h]
/-- A right frame out of raw parts. -/
def rightF (f : Fr) : Fr := ⟨1 + pickI f.kind 255, f.num, pickI f.idx 2147483647, if 491 < f.body.size then f.body.extract 0 491 else f.body⟩
theorem rightF_wrong (f : Fr) : wrong (rightF f) = 0 := by
  obtain ⟨h1, h2⟩ := pickI_range f.kind 255 (by decide)
  obtain ⟨h3, h4⟩ := pickI_range f.idx 2147483647 (by decide)
  unfold wrong rightF
  rw [if_neg (by simp only; omega), if_neg]
  simp only
  split
  · rw [ByteArray.size_extract]; omega
  · omega
set_option maxHeartbeats 2000000 in
set_option maxRecDepth 100000 in
theorem right_any (f : Fr) (h1 : I64 f.kind) (h2 : I64 f.idx) (w : World) : Calls Tryd.prog 29 #[frV f] w fun e w' => e = .returned (frV (rightF f)) ∧ Below w.heap.size w w' := by
  obtain ⟨k, n, i, b⟩ := f
  have CK : Hid (∀ w : World, Calls Tryd.prog 17 #[.int .i64 k, .int .i64 255] w fun e w' => e = .returned (.int .i64 (pickI k 255)) ∧ w' = w) := pk_any k 255 h1 (by decide) (by decide)
  have CI : Hid (∀ w : World, Calls Tryd.prog 17 #[.int .i64 i, .int .i64 2147483647] w fun e w' => e = .returned (.int .i64 (pickI i 2147483647)) ∧ w' = w) := pk_any i 2147483647 h2 (by decide) (by decide)
  obtain ⟨r1, r2⟩ := pickI_range k 255 (by decide)
  have HF : Hid (frV (rightF ⟨k, n, i, b⟩) = .agg #[.int .i64 (1 + pickI k 255), .int .u64 n, .int .i64 (pickI i 2147483647), .string (if 491 < b.size then b.extract 0 491 else b)]) := by show _ = _; rfl
  generalize frV (rightF ⟨k, n, i, b⟩) = FV at *
  generalize pickI k 255 = kk at *
  generalize pickI i 2147483647 = ii at *
  clear h1 h2
  have W1 : IntKind.i64.wrap (1 + kk) = 1 + kk := by rw [IntKind.wrap_i64]; omega
  unfold frV
  simp only
  obtain ⟨W, hW⟩ : ∃ W, W = (w.alloc (.cells #[.int .i64 k, .int .u64 n, .int .i64 i, .string b] 24)).alloc (.cells #[.int .i64 0, .int .u64 0, .int .i64 0, .string ⟨#[]⟩] 24) := ⟨_, rfl⟩
  have c0 : W.cell? ⟨w.heap.size, 0, none⟩ = some (.int .i64 k) := by rw [hW]; simp
  have c1 : W.cell? ⟨w.heap.size, 1, none⟩ = some (.int .u64 n) := by rw [hW]; simp
  have c2 : W.cell? ⟨w.heap.size, 2, none⟩ = some (.int .i64 i) := by rw [hW]; simp
  have c3 : W.cell? ⟨w.heap.size, 3, none⟩ = some (.string b) := by rw [hW]; simp
  by_cases hb : 491 < b.size
  · have hb' : (491 : Int) < (b.size : Int) := by omega
    have hb2 : (491 : Int) ≤ (b.size : Int) := by omega
    rw [if_pos hb] at HF
    go_enter Tryd.func29, Tryd.ntmps29
    go_wp2_with fail
    rw [← hW]
    go_region_held3 (fun w' => w'.cell? ⟨w.heap.size, 0, none⟩ = some (.int .i64 k) ∧ w'.cell? ⟨w.heap.size, 1, none⟩ = some (.int .u64 n) ∧ w'.cell? ⟨w.heap.size, 2, none⟩ = some (.int .i64 i) ∧ w'.cell? ⟨w.heap.size, 3, none⟩ = some (.string b))
      (first | go_keep | exact ⟨c0, c1, c2, c3⟩)
      (first
        | (go_at_call_of 17 k; refine (CK.out _).mono ?_; rintro e w1 ⟨rfl, rfl⟩)
        | (go_at_call_of 17 i; refine (CI.out _).mono ?_; rintro e w2 ⟨rfl, rfl⟩))
    all_goals
      go_wp2
      refine bodyPost_ret (v := FV) ?_ rfl ⟨rfl, ?_⟩
      · rw [HF.out]; simp [results, Tryd.results29, go_sem]
      · exact ((((Below.refl _ _).alloc (Nat.le_refl _) _).alloc (by simp) _).alloc (by simp; omega) _).drew
  · have hb' : ¬ (491 : Int) < (b.size : Int) := by omega
    rw [if_neg hb] at HF
    go_enter Tryd.func29, Tryd.ntmps29
    go_wp2_with fail
    rw [← hW]
    go_region_held3 (fun w' => w'.cell? ⟨w.heap.size, 0, none⟩ = some (.int .i64 k) ∧ w'.cell? ⟨w.heap.size, 1, none⟩ = some (.int .u64 n) ∧ w'.cell? ⟨w.heap.size, 2, none⟩ = some (.int .i64 i) ∧ w'.cell? ⟨w.heap.size, 3, none⟩ = some (.string b))
      (first | go_keep | exact ⟨c0, c1, c2, c3⟩)
      (first
        | (go_at_call_of 17 k; refine (CK.out _).mono ?_; rintro e w1 ⟨rfl, rfl⟩)
        | (go_at_call_of 17 i; refine (CI.out _).mono ?_; rintro e w2 ⟨rfl, rfl⟩))
    all_goals
      go_wp2
      refine bodyPost_ret (v := FV) ?_ rfl ⟨rfl, ?_⟩
      · rw [HF.out]; simp [results, Tryd.results29, go_sem]
      · exact ((((Below.refl _ _).alloc (Nat.le_refl _) _).alloc (by simp) _).alloc (by simp; omega) _).drew
end Go.Proofs.YtnpcnflfpmjgiaaDoor
