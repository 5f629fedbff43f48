/- One item put on a writer: it answers true, and the item's bytes lie behind those that were there. -/
import Derived.Test.YtdpddlaedffmdaaFb
import Derived.Test.YtdpddlaedffmdaaWx
namespace Go.Proofs.Ytdpddlaedffmdaa
open Go.RowKit
set_option linter.unusedVariables false
set_option linter.unusedSimpArgs false

theorem putR_ok (l : List UInt8) (s : ByteArray) : putR l 0 s 0 = (l ++ s.data.toList, 0) := by simp [putR]
theorem lo_val (i : It) : (Value.agg #[.int .u64 0, .int .u64 (loOf i.x)]) = _root_.Go.Proofs.Ytdpddlaedffmdaa.B i.lo := by
  have h := lo_lt i
  show _ = Value.agg #[.int .u64 (hiOf i.lo), .int .u64 (loOf i.lo)]
  have e1 : hiOf i.lo = 0 := by unfold hiOf; rw [Nat.div_eq_of_lt h]; rfl
  have e2 : loOf i.lo = loOf i.x := by unfold loOf It.lo; rw [Nat.mod_mod]
  rw [e1, e2]
theorem lo_is (i : It) : Is128 i.lo := by have := lo_lt i; unfold Is128; omega

set_option maxHeartbeats 4000000 in
set_option maxRecDepth 100000 in
theorem put0 {B b : Nat} {v : Value} {l : List UInt8} {w : World} (h : Wr B w b v l 0) (hB : B ≤ w.heap.size) (i : It) (hi : i.ok) (hl : l.length + i.s.size + 26 ≤ 140737488355328) (k1 : ¬ i.kd = 1) (k2 : ¬ i.kd = 2) (k3 : ¬ i.kd = 3) (k4 : ¬ i.kd = 4) (k5 : ¬ i.kd = 5) : Calls Try.prog 14 #[.pointer (some ⟨b, 0, none⟩), i.val] w fun e w' => e = .returned (.bool true) ∧ Left B b v w (l ++ i.enc) 0 w' := by
  have hb0 : Below w.heap.size w (w.alloc i.cells) := (Below.refl _ _).alloc (Nat.le_refl _) _
  have hP := h.below hb0
  have hB0 : B ≤ (w.alloc i.cells).heap.size := Nat.le_trans hB hb0.size
  have HI : Hid (ItAt (w.alloc i.cells) w.heap.size 0 i) := ItAt.new w i
  have hbn : ¬ own b v w.heap.size := fun e => by have := h.own_lt _ e; omega
  have HC : Hid (Calls Try.prog 16 #[.pointer (some ⟨b, 0, none⟩)] (w.alloc i.cells) fun e w' => e = .returned (.int .i64 l.length) ∧ w' = w.alloc i.cells) := len_any hP
  have q1 : (i.kd == 1) = false := by simpa using k1
  have q2 : (i.kd == 2) = false := by simpa using k2
  have q3 : (i.kd == 3) = false := by simpa using k3
  have q4 : (i.kd == 4) = false := by simpa using k4
  have q5 : (i.kd == 5) = false := by simpa using k5
  rw [show i.enc = [] by unfold It.enc; rw [if_neg k1, if_neg k2, if_neg k3, if_neg k5, if_neg k4], List.append_nil]
  have HL : Hid (Left B b v w l 0 (w.alloc i.cells)) := ⟨v, hP, Kept.of_below hb0, .inl rfl⟩
  clear h hP k1 k2 k3 k4 k5 hi hl hB0 hb0
  unfold It.val
  unfold It.cells at *
  obtain ⟨c0, c1, c2, c3, c4, c5, c6⟩ := id HI.out
  simp only [Nat.zero_add] at c1 c2 c3 c4 c5 c6
  go_enter Try.func14, Try.ntmps14
  go_wp2_with fail
  generalize w.alloc (.cells #[.bool i.o, .int .i64 i.kd, .int .u64 i.n, .int .i64 i.k, .string i.s, .int .u64 (hiOf i.x), .int .u64 (loOf i.x)] 36) = W1 at *
  refine HC.out.mono ?_
  rintro e w2 ⟨rfl, rfl⟩
  go_wp2
  go_ret
  exact ⟨rfl, HL.out⟩

set_option maxHeartbeats 4000000 in
set_option maxRecDepth 100000 in
theorem put1 {B b : Nat} {v : Value} {l : List UInt8} {w : World} (h : Wr B w b v l 0) (hB : B ≤ w.heap.size) (i : It) (hi : i.ok) (hl : l.length + i.s.size + 26 ≤ 140737488355328) (hk : i.kd = 1) : Calls Try.prog 14 #[.pointer (some ⟨b, 0, none⟩), i.val] w fun e w' => e = .returned (.bool true) ∧ Left B b v w (l ++ i.enc) 0 w' := by
  have hb0 : Below w.heap.size w (w.alloc i.cells) := (Below.refl _ _).alloc (Nat.le_refl _) _
  have hP := h.below hb0
  have hB0 : B ≤ (w.alloc i.cells).heap.size := Nat.le_trans hB hb0.size
  have HI : Hid (ItAt (w.alloc i.cells) w.heap.size 0 i) := ItAt.new w i
  have hbn : ¬ own b v w.heap.size := fun e => by have := h.own_lt _ e; omega
  have HC : Hid (Calls Try.prog 16 #[.pointer (some ⟨b, 0, none⟩)] (w.alloc i.cells) fun e w' => e = .returned (.int .i64 l.length) ∧ w' = w.alloc i.cells) := len_any hP
  have he : i.enc = (⟨(vb i.n).toArray⟩ : ByteArray).data.toList := by unfold It.enc; rw [if_pos hk]
  have CA : Hid (Calls Try.prog 26 #[.pointer (some ⟨b, 0, none⟩), .int .u64 i.n] (w.alloc i.cells) fun e w' => e = .returned (.tuple #[]) ∧ Left B b v (w.alloc i.cells) (l ++ i.enc) 0 w') := by
    rw [he]; have := uint_any hP i.n hi.1 (by omega) hB0; rw [putR_ok] at this; exact this
  have HIL : Hid (∀ w1, Left B b v (w.alloc i.cells) (l ++ i.enc) 0 w1 → ItAt w1 w.heap.size 0 i) := fun w1 ⟨_, _, K, _⟩ => HI.out.kept K hbn
  have HLA : Hid (∀ w1, Left B b v (w.alloc i.cells) (l ++ i.enc) 0 w1 → Left B b v w (l ++ i.enc) 0 w1) := fun w1 h1 => h1.after hb0
  have hk1 : (i.kd == 1) = true := by simpa using hk
  have hne : ∀ j : Int, j ≠ 1 → (i.kd == j) = false := fun j hj => by rw [hk]; simpa using fun e => hj e.symm
  have hk_2 := hne 2 (by decide)
  have hk_3 := hne 3 (by decide)
  have hk_4 := hne 4 (by decide)
  have hk_5 := hne 5 (by decide)
  clear hne hk
  clear h hP hi hb0 hB0 hl
  generalize l ++ i.enc = L2 at *
  unfold It.val
  unfold It.cells at *
  obtain ⟨c0, c1, c2, c3, c4, c5, c6⟩ := id HI.out
  simp only [Nat.zero_add] at c1 c2 c3 c4 c5 c6
  go_enter Try.func14, Try.ntmps14
  go_wp2_with fail
  generalize w.alloc (.cells #[.bool i.o, .int .i64 i.kd, .int .u64 i.n, .int .i64 i.k, .string i.s, .int .u64 (hiOf i.x), .int .u64 (loOf i.x)] 36) = W1 at *
  refine HC.out.mono ?_
  rintro e w2 ⟨rfl, rfl⟩
  go_wp2_with fail
  refine CA.out.mono ?_
  rintro e w3 ⟨rfl, hL3⟩
  obtain ⟨d0, d1, d2, d3, d4, d5, d6⟩ := HIL.out _ hL3
  simp only [Nat.zero_add] at d1 d2 d3 d4 d5 d6
  have HL3 : Hid (Left B b v w L2 0 w3) := HLA.out _ hL3
  obtain ⟨v2, P2, K2, N2⟩ := hL3
  have CL : Hid (∀ n, Calls Try.prog 16 #[.pointer (some ⟨b, 0, none⟩)] (w3.drewN n) fun e w' => e = .returned (.int .i64 L2.length) ∧ w' = w3.drewN n) := fun n => len_any (w := w3.drewN n) P2
  have HLn : Hid (∀ n, Left B b v w L2 0 (w3.drewN n)) := fun n => by
    obtain ⟨v9, P9, K9, N9⟩ := HL3.out
    exact ⟨v9, P9, K9.drewN n, N9⟩
  clear CA HIL HLA c0 c1 c2 c3 c4 c5 c6 P2 K2 N2 HI hbn HC
  go_wp2
  go_ret
  exact ⟨rfl, HL3.out⟩

set_option maxHeartbeats 4000000 in
set_option maxRecDepth 100000 in
theorem put3 {B b : Nat} {v : Value} {l : List UInt8} {w : World} (h : Wr B w b v l 0) (hB : B ≤ w.heap.size) (i : It) (hi : i.ok) (hl : l.length + i.s.size + 26 ≤ 140737488355328) (hk : i.kd = 3) : Calls Try.prog 14 #[.pointer (some ⟨b, 0, none⟩), i.val] w fun e w' => e = .returned (.bool true) ∧ Left B b v w (l ++ i.enc) 0 w' := by
  have hb0 : Below w.heap.size w (w.alloc i.cells) := (Below.refl _ _).alloc (Nat.le_refl _) _
  have hP := h.below hb0
  have hB0 : B ≤ (w.alloc i.cells).heap.size := Nat.le_trans hB hb0.size
  have HI : Hid (ItAt (w.alloc i.cells) w.heap.size 0 i) := ItAt.new w i
  have hbn : ¬ own b v w.heap.size := fun e => by have := h.own_lt _ e; omega
  have HC : Hid (Calls Try.prog 16 #[.pointer (some ⟨b, 0, none⟩)] (w.alloc i.cells) fun e w' => e = .returned (.int .i64 l.length) ∧ w' = w.alloc i.cells) := len_any hP
  have he : i.enc = vb i.s.size ++ i.s.data.toList := by unfold It.enc; rw [if_neg (by rw [hk]; decide), if_neg (by rw [hk]; decide), if_pos hk]
  have CA : Hid (Calls Try.prog 28 #[.pointer (some ⟨b, 0, none⟩), .string i.s] (w.alloc i.cells) fun e w' => e = .returned (.tuple #[]) ∧ Left B b v (w.alloc i.cells) (l ++ i.enc) 0 w') := by
    rw [he]; have := text_any hP i.s (by omega) hB0; simp [textR] at this; exact this
  have HIL : Hid (∀ w1, Left B b v (w.alloc i.cells) (l ++ i.enc) 0 w1 → ItAt w1 w.heap.size 0 i) := fun w1 ⟨_, _, K, _⟩ => HI.out.kept K hbn
  have HLA : Hid (∀ w1, Left B b v (w.alloc i.cells) (l ++ i.enc) 0 w1 → Left B b v w (l ++ i.enc) 0 w1) := fun w1 h1 => h1.after hb0
  have hlen : (l.length : Int) + (i.s.size : Int) < ((l ++ i.enc).length : Int) := by
    rw [he]; have := vb_pos i.s.size; have := size_list i.s; simp only [List.length_append]; omega
  have hwr : IntKind.i64.wrap ((l.length : Int) + (i.s.size : Int)) = (l.length : Int) + (i.s.size : Int) := by rw [IntKind.wrap_i64]; omega
  have hk1 : (i.kd == 3) = true := by simpa using hk
  have hne : ∀ j : Int, j ≠ 3 → (i.kd == j) = false := fun j hj => by rw [hk]; simpa using fun e => hj e.symm
  have hk_1 := hne 1 (by decide)
  have hk_2 := hne 2 (by decide)
  have hk_4 := hne 4 (by decide)
  have hk_5 := hne 5 (by decide)
  clear hne hk
  clear h hP hi hb0 hB0 hl
  generalize l ++ i.enc = L2 at *
  unfold It.val
  unfold It.cells at *
  obtain ⟨c0, c1, c2, c3, c4, c5, c6⟩ := id HI.out
  simp only [Nat.zero_add] at c1 c2 c3 c4 c5 c6
  go_enter Try.func14, Try.ntmps14
  go_wp2_with fail
  generalize w.alloc (.cells #[.bool i.o, .int .i64 i.kd, .int .u64 i.n, .int .i64 i.k, .string i.s, .int .u64 (hiOf i.x), .int .u64 (loOf i.x)] 36) = W1 at *
  refine HC.out.mono ?_
  rintro e w2 ⟨rfl, rfl⟩
  go_wp2_with fail
  refine CA.out.mono ?_
  rintro e w3 ⟨rfl, hL3⟩
  obtain ⟨d0, d1, d2, d3, d4, d5, d6⟩ := HIL.out _ hL3
  simp only [Nat.zero_add] at d1 d2 d3 d4 d5 d6
  have HL3 : Hid (Left B b v w L2 0 w3) := HLA.out _ hL3
  obtain ⟨v2, P2, K2, N2⟩ := hL3
  have CL : Hid (∀ n, Calls Try.prog 16 #[.pointer (some ⟨b, 0, none⟩)] (w3.drewN n) fun e w' => e = .returned (.int .i64 L2.length) ∧ w' = w3.drewN n) := fun n => len_any (w := w3.drewN n) P2
  have HLn : Hid (∀ n, Left B b v w L2 0 (w3.drewN n)) := fun n => by
    obtain ⟨v9, P9, K9, N9⟩ := HL3.out
    exact ⟨v9, P9, K9.drewN n, N9⟩
  clear CA HIL HLA c0 c1 c2 c3 c4 c5 c6 P2 K2 N2 HI hbn HC
  go_wp2
  go_quiet ((go_at_call 16; refine Calls.quiet_of_same (CL.out _)))
  go_wp2
  go_ret
  exact ⟨by simp [hlen], HLn.out _⟩

set_option maxHeartbeats 4000000 in
set_option maxRecDepth 100000 in
theorem put5 {B b : Nat} {v : Value} {l : List UInt8} {w : World} (h : Wr B w b v l 0) (hB : B ≤ w.heap.size) (i : It) (hi : i.ok) (hl : l.length + i.s.size + 26 ≤ 140737488355328) (hk : i.kd = 5) : Calls Try.prog 14 #[.pointer (some ⟨b, 0, none⟩), i.val] w fun e w' => e = .returned (.bool true) ∧ Left B b v w (l ++ i.enc) 0 w' := by
  have hb0 : Below w.heap.size w (w.alloc i.cells) := (Below.refl _ _).alloc (Nat.le_refl _) _
  have hP := h.below hb0
  have hB0 : B ≤ (w.alloc i.cells).heap.size := Nat.le_trans hB hb0.size
  have HI : Hid (ItAt (w.alloc i.cells) w.heap.size 0 i) := ItAt.new w i
  have hbn : ¬ own b v w.heap.size := fun e => by have := h.own_lt _ e; omega
  have HC : Hid (Calls Try.prog 16 #[.pointer (some ⟨b, 0, none⟩)] (w.alloc i.cells) fun e w' => e = .returned (.int .i64 l.length) ∧ w' = w.alloc i.cells) := len_any hP
  have he : i.enc = i.s.data.toList := by unfold It.enc; rw [if_neg (by rw [hk]; decide), if_neg (by rw [hk]; decide), if_neg (by rw [hk]; decide), if_pos hk]
  have CA : Hid (Calls Try.prog 30 #[.pointer (some ⟨b, 0, none⟩), .string i.s] (w.alloc i.cells) fun e w' => e = .returned (.tuple #[]) ∧ Left B b v (w.alloc i.cells) (l ++ i.enc) 0 w') := by
    rw [he]; have := raw_any hP i.s (by omega) hB0; rw [putR_ok] at this; exact this
  have HIL : Hid (∀ w1, Left B b v (w.alloc i.cells) (l ++ i.enc) 0 w1 → ItAt w1 w.heap.size 0 i) := fun w1 ⟨_, _, K, _⟩ => HI.out.kept K hbn
  have HLA : Hid (∀ w1, Left B b v (w.alloc i.cells) (l ++ i.enc) 0 w1 → Left B b v w (l ++ i.enc) 0 w1) := fun w1 h1 => h1.after hb0
  have hlen : ((l ++ i.enc).length : Int) = (l.length : Int) + (i.s.size : Int) := by
    rw [he]; have := size_list i.s; simp only [List.length_append]; omega
  have hwr : IntKind.i64.wrap ((l.length : Int) + (i.s.size : Int)) = (l.length : Int) + (i.s.size : Int) := by rw [IntKind.wrap_i64]; omega
  have hk1 : (i.kd == 5) = true := by simpa using hk
  have hne : ∀ j : Int, j ≠ 5 → (i.kd == j) = false := fun j hj => by rw [hk]; simpa using fun e => hj e.symm
  have hk_1 := hne 1 (by decide)
  have hk_2 := hne 2 (by decide)
  have hk_3 := hne 3 (by decide)
  have hk_4 := hne 4 (by decide)
  clear hne hk
  clear h hP hi hb0 hB0 hl
  generalize l ++ i.enc = L2 at *
  unfold It.val
  unfold It.cells at *
  obtain ⟨c0, c1, c2, c3, c4, c5, c6⟩ := id HI.out
  simp only [Nat.zero_add] at c1 c2 c3 c4 c5 c6
  go_enter Try.func14, Try.ntmps14
  go_wp2_with fail
  generalize w.alloc (.cells #[.bool i.o, .int .i64 i.kd, .int .u64 i.n, .int .i64 i.k, .string i.s, .int .u64 (hiOf i.x), .int .u64 (loOf i.x)] 36) = W1 at *
  refine HC.out.mono ?_
  rintro e w2 ⟨rfl, rfl⟩
  go_wp2_with fail
  refine CA.out.mono ?_
  rintro e w3 ⟨rfl, hL3⟩
  obtain ⟨d0, d1, d2, d3, d4, d5, d6⟩ := HIL.out _ hL3
  simp only [Nat.zero_add] at d1 d2 d3 d4 d5 d6
  have HL3 : Hid (Left B b v w L2 0 w3) := HLA.out _ hL3
  obtain ⟨v2, P2, K2, N2⟩ := hL3
  have CL : Hid (∀ n, Calls Try.prog 16 #[.pointer (some ⟨b, 0, none⟩)] (w3.drewN n) fun e w' => e = .returned (.int .i64 L2.length) ∧ w' = w3.drewN n) := fun n => len_any (w := w3.drewN n) P2
  have HLn : Hid (∀ n, Left B b v w L2 0 (w3.drewN n)) := fun n => by
    obtain ⟨v9, P9, K9, N9⟩ := HL3.out
    exact ⟨v9, P9, K9.drewN n, N9⟩
  clear CA HIL HLA c0 c1 c2 c3 c4 c5 c6 P2 K2 N2 HI hbn HC
  go_wp2
  go_quiet ((go_at_call 16; refine Calls.quiet_of_same (CL.out _)))
  go_wp2
  go_ret
  exact ⟨by simp [hlen], HLn.out _⟩

set_option maxHeartbeats 4000000 in
set_option maxRecDepth 100000 in
theorem put4 {B b : Nat} {v : Value} {l : List UInt8} {w : World} (h : Wr B w b v l 0) (hB : B ≤ w.heap.size) (i : It) (hi : i.ok) (hl : l.length + i.s.size + 26 ≤ 140737488355328) (hk : i.kd = 4) : Calls Try.prog 14 #[.pointer (some ⟨b, 0, none⟩), i.val] w fun e w' => e = .returned (.bool true) ∧ Left B b v w (l ++ i.enc) 0 w' := by
  have hb0 : Below w.heap.size w (w.alloc i.cells) := (Below.refl _ _).alloc (Nat.le_refl _) _
  have hP := h.below hb0
  have hB0 : B ≤ (w.alloc i.cells).heap.size := Nat.le_trans hB hb0.size
  have HI : Hid (ItAt (w.alloc i.cells) w.heap.size 0 i) := ItAt.new w i
  have hbn : ¬ own b v w.heap.size := fun e => by have := h.own_lt _ e; omega
  have HC : Hid (Calls Try.prog 16 #[.pointer (some ⟨b, 0, none⟩)] (w.alloc i.cells) fun e w' => e = .returned (.int .i64 l.length) ∧ w' = w.alloc i.cells) := len_any hP
  have he : i.enc = be 8 i.lo := by unfold It.enc; rw [if_neg (by rw [hk]; decide), if_neg (by rw [hk]; decide), if_neg (by rw [hk]; decide), if_neg (by rw [hk]; decide), if_pos hk]
  have CA : Hid (Calls Try.prog 29 #[.pointer (some ⟨b, 0, none⟩), .agg #[.int .u64 0, .int .u64 (loOf i.x)], .int .i64 64] (w.alloc i.cells) fun e w' => e = .returned (.tuple #[]) ∧ Left B b v (w.alloc i.cells) (l ++ i.enc) 0 w') := by
    rw [he, show (Value.agg #[.int .u64 0, .int .u64 (loOf i.x)]) = _root_.Go.Proofs.Ytdpddlaedffmdaa.B i.lo from lo_val i]; have := wbits_any hP i.lo (lo_is i) 64 (by omega) hB0; rw [byR_be _ (lo_lt i), putR_ok] at this; exact this
  have HIL : Hid (∀ w1, Left B b v (w.alloc i.cells) (l ++ i.enc) 0 w1 → ItAt w1 w.heap.size 0 i) := fun w1 ⟨_, _, K, _⟩ => HI.out.kept K hbn
  have HLA : Hid (∀ w1, Left B b v (w.alloc i.cells) (l ++ i.enc) 0 w1 → Left B b v w (l ++ i.enc) 0 w1) := fun w1 h1 => h1.after hb0
  have hlen : ((l ++ i.enc).length : Int) = (l.length : Int) + 8 := by
    rw [he]; simp only [List.length_append, be_length]; omega
  have hwr : IntKind.i64.wrap ((l.length : Int) + 8) = (l.length : Int) + 8 := by rw [IntKind.wrap_i64]; omega
  have hk1 : (i.kd == 4) = true := by simpa using hk
  have hne : ∀ j : Int, j ≠ 4 → (i.kd == j) = false := fun j hj => by rw [hk]; simpa using fun e => hj e.symm
  have hk_1 := hne 1 (by decide)
  have hk_2 := hne 2 (by decide)
  have hk_3 := hne 3 (by decide)
  have hk_5 := hne 5 (by decide)
  clear hne hk
  clear h hP hi hb0 hB0 hl
  generalize l ++ i.enc = L2 at *
  unfold It.val
  unfold It.cells at *
  obtain ⟨c0, c1, c2, c3, c4, c5, c6⟩ := id HI.out
  simp only [Nat.zero_add] at c1 c2 c3 c4 c5 c6
  go_enter Try.func14, Try.ntmps14
  go_wp2_with fail
  generalize w.alloc (.cells #[.bool i.o, .int .i64 i.kd, .int .u64 i.n, .int .i64 i.k, .string i.s, .int .u64 (hiOf i.x), .int .u64 (loOf i.x)] 36) = W1 at *
  refine HC.out.mono ?_
  rintro e w2 ⟨rfl, rfl⟩
  go_wp2_with fail
  refine CA.out.mono ?_
  rintro e w3 ⟨rfl, hL3⟩
  obtain ⟨d0, d1, d2, d3, d4, d5, d6⟩ := HIL.out _ hL3
  simp only [Nat.zero_add] at d1 d2 d3 d4 d5 d6
  have HL3 : Hid (Left B b v w L2 0 w3) := HLA.out _ hL3
  obtain ⟨v2, P2, K2, N2⟩ := hL3
  have CL : Hid (∀ n, Calls Try.prog 16 #[.pointer (some ⟨b, 0, none⟩)] (w3.drewN n) fun e w' => e = .returned (.int .i64 L2.length) ∧ w' = w3.drewN n) := fun n => len_any (w := w3.drewN n) P2
  have HLn : Hid (∀ n, Left B b v w L2 0 (w3.drewN n)) := fun n => by
    obtain ⟨v9, P9, K9, N9⟩ := HL3.out
    exact ⟨v9, P9, K9.drewN n, N9⟩
  clear CA HIL HLA c0 c1 c2 c3 c4 c5 c6 P2 K2 N2 HI hbn HC
  have CL0 := CL.out 0
  go_wp2_with fail
  refine CL0.mono ?_
  rintro e w4 ⟨rfl, rfl⟩
  have HL0 := HLn.out 0
  go_wp2
  go_ret
  exact ⟨by simp [hlen], HL0⟩
end Go.Proofs.Ytdpddlaedffmdaa
