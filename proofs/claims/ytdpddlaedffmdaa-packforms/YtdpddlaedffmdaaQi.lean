/- Package pack's readers behind an error, and each call that reads in all cases: its answer, the place and the error behind it. -/
import Derived.Test.YtdpddlaedffmdaaQh
namespace Go.Proofs.Ytdpddlaedffmdaa
open Go.RowKit
set_option linter.unusedVariables false
set_option linter.unusedSimpArgs false


set_option maxRecDepth 100000 in
theorem dread48 {w : World} {b : Nat} {s : ByteArray} {a : Nat} {f : Int} (h : Rd w b s a f) (hf : f ≠ 0) (q : Value) : Calls Try.prog 48 #[.pointer (some ⟨b, 0, none⟩), q] w fun e w' => e = .returned (.int .u64 0) ∧ Below w.heap.size w w' := by
  have hmf := mk_func
  have hb0 : Below w.heap.size w (w.alloc (.cells #[.pointer (some ⟨b, 0, none⟩)] 39)) := (Below.refl _ _).alloc (Nat.le_refl _) _
  obtain ⟨⟨h0, h1, h2, h3⟩, h4, h5, h6⟩ := h.below hb0
  go_enter_defers Try.func48, Try.ntmps48
  go_wp2
  simp [bodyPostD, Leaves, settle, results, Try.results48, go_sem]
  exact hb0

set_option maxRecDepth 100000 in
theorem dread53 {w : World} {b : Nat} {s : ByteArray} {a : Nat} {f : Int} (h : Rd w b s a f) (hf : f ≠ 0) (q : Value) : Calls Try.prog 53 #[.pointer (some ⟨b, 0, none⟩), q] w fun e w' => e = .returned (.string ⟨#[]⟩) ∧ Below w.heap.size w w' := by
  have hmf := mk_func
  have hb0 : Below w.heap.size w (w.alloc (.cells #[.pointer (some ⟨b, 0, none⟩)] 39)) := (Below.refl _ _).alloc (Nat.le_refl _) _
  obtain ⟨⟨h0, h1, h2, h3⟩, h4, h5, h6⟩ := h.below hb0
  go_enter_defers Try.func53, Try.ntmps53
  go_wp2
  simp [bodyPostD, Leaves, settle, results, Try.results53, go_sem]
  exact hb0

set_option maxRecDepth 100000 in
theorem dread56 {w : World} {b : Nat} {s : ByteArray} {a : Nat} {f : Int} (h : Rd w b s a f) (hf : f ≠ 0) (q : Value) : Calls Try.prog 56 #[.pointer (some ⟨b, 0, none⟩), q] w fun e w' => e = .returned (B 0) ∧ Below w.heap.size w w' := by
  have hmf := mk_func
  have hb0 : Below w.heap.size w ((w.alloc (.cells #[.pointer (some ⟨b, 0, none⟩)] 39)).alloc (.cells #[.int .u64 0, .int .u64 0] 34)) := ((Below.refl _ _).alloc (Nat.le_refl _) _).alloc (by simp) _
  obtain ⟨⟨h0, h1, h2, h3⟩, h4, h5, h6⟩ := h.below hb0
  go_enter_defers Try.func56, Try.ntmps56
  go_wp2
  simp [bodyPostD, Leaves, settle, results, Try.results56, go_sem]
  exact ⟨⟨rfl, rfl⟩, hb0⟩

theorem dr21 {w : World} {b : Nat} {s : ByteArray} {a : Nat} {f : Int} (h : Rd w b s a f) (hf : f ≠ 0) (m : Int) : Calls Try.prog 21 #[.pointer (some ⟨b, 0, none⟩), .int .u64 m] w fun e w' => e = .returned (.int .u64 0) ∧ Below w.heap.size w w' := by
  have hmf := mk_func
  have hb0 : Below w.heap.size w (w.alloc (.cells #[.int .u64 m] 32)) := (Below.refl _ _).alloc (Nat.le_refl _) _
  have C : Hid (∀ q : Value, Calls Try.prog 48 #[.pointer (some ⟨b, 0, none⟩), q] (w.alloc (.cells #[.int .u64 m] 32)) fun e w' => e = .returned (.int .u64 0) ∧ Below (w.alloc (.cells #[.int .u64 m] 32)).heap.size (w.alloc (.cells #[.int .u64 m] 32)) w') := dread48 (h.below hb0) hf
  clear h
  go_enter Try.func21, Try.ntmps21
  go_wp2_with fail
  refine (C.out _).mono ?_
  rintro e w1 ⟨rfl, hb1⟩
  have hb2 : Below w.heap.size w w1 := bstep hb0 hb1
  go_wp2
  go_ret
  exact ⟨rfl, hb2⟩

theorem dr22 {w : World} {b : Nat} {s : ByteArray} {a : Nat} {f : Int} (h : Rd w b s a f) (hf : f ≠ 0) (m : Int) : Calls Try.prog 22 #[.pointer (some ⟨b, 0, none⟩), .int .i64 m] w fun e w' => e = .returned (.int .u64 0) ∧ Below w.heap.size w w' := by
  have hmf := mk_func
  have hb0 : Below w.heap.size w (w.alloc (.cells #[.int .i64 m] 3)) := (Below.refl _ _).alloc (Nat.le_refl _) _
  have C : Hid (∀ q : Value, Calls Try.prog 48 #[.pointer (some ⟨b, 0, none⟩), q] (w.alloc (.cells #[.int .i64 m] 3)) fun e w' => e = .returned (.int .u64 0) ∧ Below (w.alloc (.cells #[.int .i64 m] 3)).heap.size (w.alloc (.cells #[.int .i64 m] 3)) w') := dread48 (h.below hb0) hf
  clear h
  go_enter Try.func22, Try.ntmps22
  go_wp2_with fail
  refine (C.out _).mono ?_
  rintro e w1 ⟨rfl, hb1⟩
  have hb2 : Below w.heap.size w w1 := bstep hb0 hb1
  go_wp2
  go_ret
  exact ⟨rfl, hb2⟩

theorem dr23 {w : World} {b : Nat} {s : ByteArray} {a : Nat} {f : Int} (h : Rd w b s a f) (hf : f ≠ 0) (m : Int) : Calls Try.prog 23 #[.pointer (some ⟨b, 0, none⟩), .int .i64 m] w fun e w' => e = .returned (.string ⟨#[]⟩) ∧ Below w.heap.size w w' := by
  have hmf := mk_func
  have hb0 : Below w.heap.size w (w.alloc (.cells #[.int .i64 m] 3)) := (Below.refl _ _).alloc (Nat.le_refl _) _
  have C : Hid (∀ q : Value, Calls Try.prog 53 #[.pointer (some ⟨b, 0, none⟩), q] (w.alloc (.cells #[.int .i64 m] 3)) fun e w' => e = .returned (.string ⟨#[]⟩) ∧ Below (w.alloc (.cells #[.int .i64 m] 3)).heap.size (w.alloc (.cells #[.int .i64 m] 3)) w') := dread53 (h.below hb0) hf
  clear h
  go_enter Try.func23, Try.ntmps23
  go_wp2_with fail
  refine (C.out _).mono ?_
  rintro e w1 ⟨rfl, hb1⟩
  have hb2 : Below w.heap.size w w1 := bstep hb0 hb1
  go_wp2
  go_ret
  exact ⟨rfl, hb2⟩

theorem dr25 {w : World} {b : Nat} {s : ByteArray} {a : Nat} {f : Int} (h : Rd w b s a f) (hf : f ≠ 0) (m : Int) : Calls Try.prog 25 #[.pointer (some ⟨b, 0, none⟩), .int .i64 m] w fun e w' => e = .returned (.string ⟨#[]⟩) ∧ Below w.heap.size w w' := by
  have hmf := mk_func
  have hb0 : Below w.heap.size w (w.alloc (.cells #[.int .i64 m] 3)) := (Below.refl _ _).alloc (Nat.le_refl _) _
  have C : Hid (∀ q : Value, Calls Try.prog 53 #[.pointer (some ⟨b, 0, none⟩), q] (w.alloc (.cells #[.int .i64 m] 3)) fun e w' => e = .returned (.string ⟨#[]⟩) ∧ Below (w.alloc (.cells #[.int .i64 m] 3)).heap.size (w.alloc (.cells #[.int .i64 m] 3)) w') := dread53 (h.below hb0) hf
  clear h
  go_enter Try.func25, Try.ntmps25
  go_wp2_with fail
  refine (C.out _).mono ?_
  rintro e w1 ⟨rfl, hb1⟩
  have hb2 : Below w.heap.size w w1 := bstep hb0 hb1
  go_wp2
  go_ret
  exact ⟨rfl, hb2⟩

theorem dr24 {w : World} {b : Nat} {s : ByteArray} {a : Nat} {f : Int} (h : Rd w b s a f) (hf : f ≠ 0) (m : Int) : Calls Try.prog 24 #[.pointer (some ⟨b, 0, none⟩), .int .i64 m] w fun e w' => e = .returned (B 0) ∧ Below w.heap.size w w' := by
  have hmf := mk_func
  have hb0 : Below w.heap.size w ((w.alloc (.cells #[.int .i64 m] 3)).alloc (.cells #[.int .u64 0, .int .u64 0] 34)) := ((Below.refl _ _).alloc (Nat.le_refl _) _).alloc (by simp) _
  have C : Hid (∀ q : Value, Calls Try.prog 56 #[.pointer (some ⟨b, 0, none⟩), q] ((w.alloc (.cells #[.int .i64 m] 3)).alloc (.cells #[.int .u64 0, .int .u64 0] 34)) fun e w' => e = .returned (B 0) ∧ Below ((w.alloc (.cells #[.int .i64 m] 3)).alloc (.cells #[.int .u64 0, .int .u64 0] 34)).heap.size ((w.alloc (.cells #[.int .i64 m] 3)).alloc (.cells #[.int .u64 0, .int .u64 0] 34)) w') := dread56 (h.below hb0) hf
  clear h
  go_enter Try.func24, Try.ntmps24
  go_wp2_with fail
  refine (C.out _).mono ?_
  rintro e w1 ⟨rfl, hb1⟩
  have hb2 : Below w.heap.size w w1 := bstep hb0 hb1
  have c0 := hb1.cell (p := ⟨w.heap.size + 1, 0, none⟩) (by simp)
  have c1 := hb1.cell (p := ⟨w.heap.size + 1, 1, none⟩) (by simp)
  have f0 := hb1.frozen (p := ⟨w.heap.size + 1, 0, none⟩) (by simp)
  have f1 := hb1.frozen (p := ⟨w.heap.size + 1, 1, none⟩) (by simp)
  simp at c0 c1 f0 f1
  go_wp2
  refine bodyPost_ret (v := B 0) ?_ rfl ⟨rfl, (hb2.setCell (by simp) _).setCell (by simp) _⟩
  simp [results, Try.results24, go_sem, c0, c1, f0, f1]
/-- What each call that reads answers, the place and the error behind it. -/
def uintS (s : ByteArray) (a : Nat) (f : Int) (m : Nat) : Nat × Nat × Int := if f = 0 then ((numR (s.data.toList.drop a) m).1, a + (numR (s.data.toList.drop a) m).2.1, (numR (s.data.toList.drop a) m).2.2) else (0, a, f)
def fixS (s : ByteArray) (a : Nat) (f : Int) (k : Int) : Nat × Nat × Int := if f = 0 then fixQ s a k else (0, a, f)
def textS (s : ByteArray) (a : Nat) (f : Int) (k : Int) : ByteArray × Nat × Int := if f = 0 then textQ s a k else (⟨#[]⟩, a, f)
def rawS (s : ByteArray) (a : Nat) (f : Int) (k : Int) : ByteArray × Nat × Int := if f = 0 then rawR s a k else (⟨#[]⟩, a, f)
def bitsS (s : ByteArray) (a : Nat) (f : Int) (k : Int) : Nat × Nat × Int := if f = 0 then bitsQ s a k else (0, a, f)

theorem a21 {w : World} {b : Nat} {s : ByteArray} {a : Nat} {f : Int} (h : Rd w b s a f) (hs : s.size ≤ 140737488351232) (m : Nat) : Calls Try.prog 21 #[.pointer (some ⟨b, 0, none⟩), .int .u64 m] w fun e w' => e = .returned (.int .u64 (uintS s a f m).1) ∧ Rd w' b s (uintS s a f m).2.1 (uintS s a f m).2.2 ∧ Kept (fun k => k = b) w w' := by
  by_cases hf : f = 0
  · subst hf
    unfold uintS
    rw [if_pos rfl]
    exact ruint_any h hs m
  · unfold uintS
    rw [if_neg hf]
    refine (dr21 h hf m).mono ?_
    rintro e w' ⟨rfl, hb⟩
    exact ⟨rfl, h.below hb, Kept.of_below hb⟩

theorem a22 {w : World} {b : Nat} {s : ByteArray} {a : Nat} {f : Int} (h : Rd w b s a f) (hs : s.size ≤ 140737488351232) (m : Int) : Calls Try.prog 22 #[.pointer (some ⟨b, 0, none⟩), .int .i64 m] w fun e w' => e = .returned (.int .u64 (fixS s a f m).1) ∧ Rd w' b s (fixS s a f m).2.1 (fixS s a f m).2.2 ∧ Kept (fun k => k = b) w w' := by
  by_cases hf : f = 0
  · subst hf
    unfold fixS
    rw [if_pos rfl]
    exact rfixed_any h hs m
  · unfold fixS
    rw [if_neg hf]
    refine (dr22 h hf m).mono ?_
    rintro e w' ⟨rfl, hb⟩
    exact ⟨rfl, h.below hb, Kept.of_below hb⟩

theorem a23 {w : World} {b : Nat} {s : ByteArray} {a : Nat} {f : Int} (h : Rd w b s a f) (hs : s.size ≤ 140737488351232) (m : Int) (hm : m ≤ 9223372036854775807) : Calls Try.prog 23 #[.pointer (some ⟨b, 0, none⟩), .int .i64 m] w fun e w' => e = .returned (.string (textS s a f m).1) ∧ Rd w' b s (textS s a f m).2.1 (textS s a f m).2.2 ∧ Kept (fun k => k = b) w w' := by
  by_cases hf : f = 0
  · subst hf
    unfold textS
    rw [if_pos rfl]
    exact rtext_any h hs m hm
  · unfold textS
    rw [if_neg hf]
    refine (dr23 h hf m).mono ?_
    rintro e w' ⟨rfl, hb⟩
    exact ⟨rfl, h.below hb, Kept.of_below hb⟩

theorem a24 {w : World} {b : Nat} {s : ByteArray} {a : Nat} {f : Int} (h : Rd w b s a f) (hs : s.size ≤ 140737488351232) (m : Int) : Calls Try.prog 24 #[.pointer (some ⟨b, 0, none⟩), .int .i64 m] w fun e w' => e = .returned (B (bitsS s a f m).1) ∧ Rd w' b s (bitsS s a f m).2.1 (bitsS s a f m).2.2 ∧ Kept (fun k => k = b) w w' := by
  by_cases hf : f = 0
  · subst hf
    unfold bitsS
    rw [if_pos rfl]
    exact rbits_any h hs m
  · unfold bitsS
    rw [if_neg hf]
    refine (dr24 h hf m).mono ?_
    rintro e w' ⟨rfl, hb⟩
    exact ⟨rfl, h.below hb, Kept.of_below hb⟩

theorem a25 {w : World} {b : Nat} {s : ByteArray} {a : Nat} {f : Int} (h : Rd w b s a f) (hs : s.size ≤ 140737488351232) (m : Int) : Calls Try.prog 25 #[.pointer (some ⟨b, 0, none⟩), .int .i64 m] w fun e w' => e = .returned (.string (rawS s a f m).1) ∧ Rd w' b s (rawS s a f m).2.1 (rawS s a f m).2.2 ∧ Kept (fun k => k = b) w w' := by
  by_cases hf : f = 0
  · subst hf
    unfold rawS
    rw [if_pos rfl]
    exact rraw_any h hs m
  · unfold rawS
    rw [if_neg hf]
    refine (dr25 h hf m).mono ?_
    rintro e w' ⟨rfl, hb⟩
    exact ⟨rfl, h.below hb, Kept.of_below hb⟩
end Go.Proofs.Ytdpddlaedffmdaa
