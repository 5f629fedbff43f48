/- Package pack: nil writers and nil readers. -/
import Derived.Test.YtdpddlaedffmdaaQd
namespace Go.Proofs.Ytdpddlaedffmdaa
open Go.RowKit
set_option linter.unusedVariables false
set_option linter.unusedSimpArgs false

theorem nraw (s : ByteArray) (w : World) : Calls Try.prog 30 #[.pointer none, .string s] w fun e w' => e = .returned (.tuple #[]) ∧ w' = w := by
  have C : Hid (∀ w : World, Calls Try.prog 61 #[.pointer none, .string s, .int .i64 0] w fun e w' => e = .returned (.tuple #[]) ∧ w' = w) := put_nil s 0
  go_enter Try.func30, Try.ntmps30
  go_wp2_with fail
  refine (C.out _).mono ?_
  rintro e w1 ⟨rfl, rfl⟩
  go_wp2
  first | go_end0 | refine bodyPost_ret (results_none rfl _ _ _) rfl ?_
  all_goals exact ⟨rfl, rfl⟩
theorem nuint (n : Nat) (hn : n < 18446744073709551616) (w : World) : Calls Try.prog 26 #[.pointer none, .int .u64 n] w fun e w' => e = .returned (.tuple #[]) ∧ Below w.heap.size w w' := by
  have C0 : Hid (∀ w : World, Calls Try.prog 62 #[.int .u64 n] w fun e w' => e = .returned (.string ⟨(vb n).toArray⟩) ∧ Below w.heap.size w w') := bytesOf_any n hn
  clear hn
  generalize vb n = q at *
  go_enter Try.func26, Try.ntmps26
  go_wp2_with fail
  refine (C0.out _).mono ?_
  rintro e w1 ⟨rfl, hb1⟩
  go_wp2_with fail
  refine (put_nil _ _ _).mono ?_
  rintro e w2 ⟨rfl, rfl⟩
  go_wp2
  first | go_end0 | refine bodyPost_ret (results_none rfl _ _ _) rfl ?_
  all_goals exact ⟨rfl, hb1⟩
theorem nfixed (n : Nat) (k : Int) (w : World) : Calls Try.prog 27 #[.pointer none, .int .u64 n, .int .i64 k] w fun e w' => e = .returned (.tuple #[]) ∧ Below w.heap.size w w' := by
  have C0 : Hid (∀ w : World, Calls Try.prog 63 #[.int .u64 n, .int .i64 k] w fun e w' => e = .returned (.tuple #[.string (fxR n k).1, .int .i64 (fxR n k).2]) ∧ Below w.heap.size w w') := fixed_all n k
  generalize fxR n k = q at *
  go_enter Try.func27, Try.ntmps27
  go_wp2_with fail
  refine (C0.out _).mono ?_
  rintro e w1 ⟨rfl, hb1⟩
  go_wp2_with fail
  refine (put_nil _ _ _).mono ?_
  rintro e w2 ⟨rfl, rfl⟩
  go_wp2
  first | go_end0 | refine bodyPost_ret (results_none rfl _ _ _) rfl ?_
  all_goals exact ⟨rfl, hb1⟩
theorem nbits (n : Nat) (hn : Is128 n) (k : Int) (w : World) : Calls Try.prog 29 #[.pointer none, B n, .int .i64 k] w fun e w' => e = .returned (.tuple #[]) ∧ Below w.heap.size w w' := by
  have C0 : Hid (∀ w : World, Calls Try.prog 64 #[B n, .int .i64 k] w fun e w' => e = .returned (.tuple #[.string (byR n k).1, .int .i64 (byR n k).2]) ∧ Below w.heap.size w w') := bytes_all n hn k
  generalize byR n k = q at *
  go_enter Try.func29, Try.ntmps29
  go_wp2_with fail
  refine (C0.out _).mono ?_
  rintro e w1 ⟨rfl, hb1⟩
  have hb2 : Below w.heap.size w w1 := bstep ((Below.refl _ _).alloc (Nat.le_refl _) _) hb1
  go_wp2_with fail
  refine (put_nil _ _ _).mono ?_
  rintro e w2 ⟨rfl, rfl⟩
  go_wp2
  first | go_end0 | refine bodyPost_ret (results_none rfl _ _ _) rfl ?_
  all_goals exact ⟨rfl, hb2⟩
theorem ntext (s : ByteArray) (hs : s.size ≤ 140737488351232) (w : World) : Calls Try.prog 28 #[.pointer none, .string s] w fun e w' => e = .returned (.tuple #[]) ∧ Below w.heap.size w w' := by
  have C0 : Hid (∀ w : World, Calls Try.prog 26 #[.pointer none, .int .u64 s.size] w fun e w' => e = .returned (.tuple #[]) ∧ Below w.heap.size w w') := nuint s.size (by omega)
  have hW : IntKind.u64.wrap (s.size : Int) = (s.size : Int) := by rw [IntKind.wrap_u64]; omega
  have HS : Hid (s.size ≤ 140737488351232) := hs
  clear hs
  go_enter Try.func28, Try.ntmps28
  go_wp2_with fail
  refine (C0.out _).mono ?_
  rintro e w1 ⟨rfl, hb1⟩
  go_wp2_with fail
  refine (nraw _ _).mono ?_
  rintro e w2 ⟨rfl, rfl⟩
  go_wp2
  first | go_end0 | refine bodyPost_ret (results_none rfl _ _ _) rfl ?_
  all_goals exact ⟨rfl, hb1⟩
theorem nout (w : World) : Calls Try.prog 15 #[.pointer none] w fun e w' => e = .returned (.tuple #[.string ⟨#[]⟩, .int .i64 1]) ∧ w' = w := by
  go_enter Try.func15, Try.ntmps15
  go_wp2
  go_ret2
  exact ⟨rfl, rfl⟩
theorem nlen (w : World) : Calls Try.prog 16 #[.pointer none] w fun e w' => e = .returned (.int .i64 0) ∧ w' = w := by
  go_enter Try.func16, Try.ntmps16
  go_wp2
  go_ret
  exact ⟨rfl, rfl⟩
theorem nat_ (w : World) : Calls Try.prog 19 #[.pointer none] w fun e w' => e = .returned (.int .i64 0) ∧ w' = w := by
  go_enter Try.func19, Try.ntmps19
  go_wp2
  go_ret
  exact ⟨rfl, rfl⟩
theorem nfault (w : World) : Calls Try.prog 18 #[.pointer none] w fun e w' => e = .returned (.tuple #[.int .i64 1, .int .i64 0]) ∧ w' = w := by
  go_enter Try.func18, Try.ntmps18
  go_wp2
  go_ret2
  exact ⟨rfl, rfl⟩
theorem nend (w : World) : Calls Try.prog 20 #[.pointer none] w fun e w' => e = .returned (.int .i64 1) ∧ w' = w := by
  go_enter Try.func20, Try.ntmps20
  go_wp2
  go_ret
  exact ⟨rfl, rfl⟩

set_option maxRecDepth 100000 in
theorem nread48 (g : Value) (w : World) : Calls Try.prog 48 #[.pointer none, g] w fun e w' => e = .returned (.int .u64 0) ∧ Below w.heap.size w w' := by
  have hmf := mk_func
  go_enter_defers Try.func48, Try.ntmps48
  go_wp2
  simp [bodyPostD, Leaves, settle, results, Try.results48, go_sem]
  exact (Below.refl _ _).alloc (Nat.le_refl _) _

set_option maxRecDepth 100000 in
theorem nread53 (g : Value) (w : World) : Calls Try.prog 53 #[.pointer none, g] w fun e w' => e = .returned (.string ⟨#[]⟩) ∧ Below w.heap.size w w' := by
  have hmf := mk_func
  go_enter_defers Try.func53, Try.ntmps53
  go_wp2
  simp [bodyPostD, Leaves, settle, results, Try.results53, go_sem]
  exact (Below.refl _ _).alloc (Nat.le_refl _) _

set_option maxRecDepth 100000 in
theorem nread56 (g : Value) (w : World) : Calls Try.prog 56 #[.pointer none, g] w fun e w' => e = .returned (B 0) ∧ Below w.heap.size w w' := by
  have hmf := mk_func
  go_enter_defers Try.func56, Try.ntmps56
  go_wp2
  simp [bodyPostD, Leaves, settle, results, Try.results56, go_sem]
  exact ⟨⟨rfl, rfl⟩, ((Below.refl _ _).alloc (Nat.le_refl _) _).alloc (by simp) _⟩

theorem nr21 (m : Int) (w : World) : Calls Try.prog 21 #[.pointer none, .int .u64 m] w fun e w' => e = .returned (.int .u64 0) ∧ Below w.heap.size w w' := by
  have hmf := mk_func
  go_enter Try.func21, Try.ntmps21
  go_wp2_with fail
  refine (nread48 _ _).mono ?_
  rintro e w1 ⟨rfl, hb1⟩
  have hb2 : Below w.heap.size w w1 := bstep ((Below.refl _ _).alloc (Nat.le_refl _) _) hb1
  go_wp2
  go_ret
  exact ⟨rfl, hb2⟩

theorem nr22 (m : Int) (w : World) : Calls Try.prog 22 #[.pointer none, .int .i64 m] w fun e w' => e = .returned (.int .u64 0) ∧ Below w.heap.size w w' := by
  have hmf := mk_func
  go_enter Try.func22, Try.ntmps22
  go_wp2_with fail
  refine (nread48 _ _).mono ?_
  rintro e w1 ⟨rfl, hb1⟩
  have hb2 : Below w.heap.size w w1 := bstep ((Below.refl _ _).alloc (Nat.le_refl _) _) hb1
  go_wp2
  go_ret
  exact ⟨rfl, hb2⟩

theorem nr23 (m : Int) (w : World) : Calls Try.prog 23 #[.pointer none, .int .i64 m] w fun e w' => e = .returned (.string ⟨#[]⟩) ∧ Below w.heap.size w w' := by
  have hmf := mk_func
  go_enter Try.func23, Try.ntmps23
  go_wp2_with fail
  refine (nread53 _ _).mono ?_
  rintro e w1 ⟨rfl, hb1⟩
  have hb2 : Below w.heap.size w w1 := bstep ((Below.refl _ _).alloc (Nat.le_refl _) _) hb1
  go_wp2
  go_ret
  exact ⟨rfl, hb2⟩

theorem nr25 (m : Int) (w : World) : Calls Try.prog 25 #[.pointer none, .int .i64 m] w fun e w' => e = .returned (.string ⟨#[]⟩) ∧ Below w.heap.size w w' := by
  have hmf := mk_func
  go_enter Try.func25, Try.ntmps25
  go_wp2_with fail
  refine (nread53 _ _).mono ?_
  rintro e w1 ⟨rfl, hb1⟩
  have hb2 : Below w.heap.size w w1 := bstep ((Below.refl _ _).alloc (Nat.le_refl _) _) hb1
  go_wp2
  go_ret
  exact ⟨rfl, hb2⟩

theorem nr24 (m : Int) (w : World) : Calls Try.prog 24 #[.pointer none, .int .i64 m] w fun e w' => e = .returned (B 0) ∧ Below w.heap.size w w' := by
  have hmf := mk_func
  go_enter Try.func24, Try.ntmps24
  go_wp2_with fail
  refine (nread56 _ _).mono ?_
  rintro e w1 ⟨rfl, hb1⟩
  have hb2 : Below w.heap.size w w1 := bstep (((Below.refl _ _).alloc (Nat.le_refl _) _).alloc (by simp) _) hb1
  have c0 := hb1.cell (p := ⟨w.heap.size + 1, 0, none⟩) (by simp)
  have c1 := hb1.cell (p := ⟨w.heap.size + 1, 1, none⟩) (by simp)
  have f0 := hb1.frozen (p := ⟨w.heap.size + 1, 0, none⟩) (by simp)
  have f1 := hb1.frozen (p := ⟨w.heap.size + 1, 1, none⟩) (by simp)
  simp at c0 c1 f0 f1
  go_wp2
  refine bodyPost_ret (v := B 0) ?_ rfl ⟨rfl, (hb2.setCell (by simp) _).setCell (by simp) _⟩
  simp [results, Try.results24, go_sem, c0, c1, f0, f1]
end Go.Proofs.Ytdpddlaedffmdaa
