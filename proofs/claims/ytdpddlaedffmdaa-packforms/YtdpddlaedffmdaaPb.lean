/- One item put on a writer: it answers true, and the item's bytes lie behind those that were there. -/
import Derived.Test.YtdpddlaedffmdaaPa
namespace Go.Proofs.Ytdpddlaedffmdaa
open Go.RowKit
set_option linter.unusedVariables false
set_option linter.unusedSimpArgs false

theorem shr_fit {i : It} (h : i.fit = true) : (i.n : Int) / 2 ^ (8 * i.k).toNat = 0 := by
  obtain ⟨h1, h2⟩ := fit_parts h
  have hb := isFx_bounds h1
  rw [show (8 * i.k).toNat = 8 * i.k.toNat by omega]
  exact (shr_zero _ _).2 h2

set_option maxHeartbeats 4000000 in
set_option maxRecDepth 100000 in
theorem put2a {B b : Nat} {v : Value} {l : List UInt8} {w : World} (h : Wr B w b v l 0) (hB : B ≤ w.heap.size) (i : It) (hi : i.ok) (hl : l.length + i.s.size + 26 ≤ 140737488355328) (hk : i.kd = 2) (hf : i.fit = true) (h8 : i.k < 8) : Calls Try.prog 14 #[.pointer (some ⟨b, 0, none⟩), i.val] w fun e w' => e = .returned (.bool true) ∧ Left B b v w (l ++ i.enc) 0 w' := by
  have hb0 : Below w.heap.size w (w.alloc i.cells) := (Below.refl _ _).alloc (Nat.le_refl _) _
  have hP := h.below hb0
  have hB0 : B ≤ (w.alloc i.cells).heap.size := Nat.le_trans hB hb0.size
  have HI : Hid (ItAt (w.alloc i.cells) w.heap.size 0 i) := ItAt.new w i
  have hbn : ¬ own b v w.heap.size := fun e => by have := h.own_lt _ e; omega
  have HC : Hid (Calls Try.prog 16 #[.pointer (some ⟨b, 0, none⟩)] (w.alloc i.cells) fun e w' => e = .returned (.int .i64 l.length) ∧ w' = w.alloc i.cells) := len_any hP
  obtain ⟨hf1, hf2⟩ := fit_parts hf
  have hbd := isFx_bounds hf1
  have hfx : fxR i.n i.k = (⟨(be i.k.toNat i.n).toArray⟩, 0) := by unfold fxR; rw [if_pos hf1, if_pos hf2]
  have he : i.enc = be i.k.toNat i.n := by unfold It.enc; rw [if_neg (by rw [hk]; decide), if_pos hk, if_pos hf]
  have CA : Hid (Calls Try.prog 27 #[.pointer (some ⟨b, 0, none⟩), .int .u64 i.n, .int .i64 i.k] (w.alloc i.cells) fun e w' => e = .returned (.tuple #[]) ∧ Left B b v (w.alloc i.cells) (l ++ i.enc) 0 w') := by
    rw [he]; have := wfixed_any hP i.n i.k (by omega) hB0; rw [hfx, putR_ok] at this; exact this
  have HIL : Hid (∀ w1, Left B b v (w.alloc i.cells) (l ++ i.enc) 0 w1 → ItAt w1 w.heap.size 0 i) := fun w1 ⟨_, _, K, _⟩ => HI.out.kept K hbn
  have HLA : Hid (∀ w1, Left B b v (w.alloc i.cells) (l ++ i.enc) 0 w1 → Left B b v w (l ++ i.enc) 0 w1) := fun w1 h1 => h1.after hb0
  have hlen : ((l ++ i.enc).length : Int) = (l.length : Int) + i.k := by
    rw [he]; simp only [List.length_append, be_length]; omega
  have hwr : IntKind.i64.wrap ((l.length : Int) + i.k) = (l.length : Int) + i.k := by rw [IntKind.wrap_i64]; omega
  have hsh : (i.n : Int) / 2 ^ min (8 * i.k).toNat 64 = 0 := by rw [Nat.min_eq_left (by omega)]; exact shr_fit hf
  have n1 : decide (i.k < 1) = false := by simp; omega
  have n2 : decide (8 < i.k) = false := by simp; omega
  have n3 : decide (i.k < 8) = true := by simp; omega
  have hw8 : IntKind.i64.wrap (8 * i.k) = 8 * i.k := by rw [IntKind.wrap_i64]; omega
  have hw9 : IntKind.u64.wrap (8 * i.k) = 8 * i.k := by rw [IntKind.wrap_u64]; omega
  have hn8 : ¬ 8 * i.k < 0 := by omega
  clear hfx he hf hf1 hf2 hbd h8
  have hk1 : (i.kd == 2) = true := by simpa using hk
  have hne : ∀ j : Int, j ≠ 2 → (i.kd == j) = false := fun j hj => by rw [hk]; simpa using fun e => hj e.symm
  have hk_1 := hne 1 (by decide)
  have hk_3 := hne 3 (by decide)
  have hk_4 := hne 4 (by decide)
  have hk_5 := hne 5 (by decide)
  clear hne hk
  clear h hP hi hb0 hB0 hl
  generalize l ++ i.enc = L2 at *
  unfold It.val
  unfold It.cells at *
  obtain ⟨c0, c1, c2, c3, c4, c5, c6⟩ := id HI.out
  simp only [Nat.zero_add] at c1 c2 c3 c4 c5 c6
  go_enter Try.func14, Try.ntmps14
  go_wp2_with fail
  generalize w.alloc (.cells #[.bool i.o, .int .i64 i.kd, .int .u64 i.n, .int .i64 i.k, .string i.s, .int .u64 (hiOf i.x), .int .u64 (loOf i.x)] 36) = W1 at *
  refine HC.out.mono ?_
  rintro e w2 ⟨rfl, rfl⟩
  go_wp2_with fail
  refine CA.out.mono ?_
  rintro e w3 ⟨rfl, hL3⟩
  obtain ⟨d0, d1, d2, d3, d4, d5, d6⟩ := HIL.out _ hL3
  simp only [Nat.zero_add] at d1 d2 d3 d4 d5 d6
  have HL3 : Hid (Left B b v w L2 0 w3) := HLA.out _ hL3
  obtain ⟨v2, P2, K2, N2⟩ := hL3
  have CL : Hid (∀ n, Calls Try.prog 16 #[.pointer (some ⟨b, 0, none⟩)] (w3.drewN n) fun e w' => e = .returned (.int .i64 L2.length) ∧ w' = w3.drewN n) := fun n => len_any (w := w3.drewN n) P2
  have HLn : Hid (∀ n, Left B b v w L2 0 (w3.drewN n)) := fun n => by
    obtain ⟨v9, P9, K9, N9⟩ := HL3.out
    exact ⟨v9, P9, K9.drewN n, N9⟩
  clear CA HIL HLA c0 c1 c2 c3 c4 c5 c6 P2 K2 N2 HI hbn HC
  go_wp2
  go_quiet ((go_at_call 16; refine Calls.quiet_of_same (CL.out _)))
  go_wp2
  go_ret
  exact ⟨by simp [hlen], HLn.out _⟩

set_option maxHeartbeats 4000000 in
set_option maxRecDepth 100000 in
theorem put2b {B b : Nat} {v : Value} {l : List UInt8} {w : World} (h : Wr B w b v l 0) (hB : B ≤ w.heap.size) (i : It) (hi : i.ok) (hl : l.length + i.s.size + 26 ≤ 140737488355328) (hk : i.kd = 2) (hf : i.fit = true) (h8 : ¬ i.k < 8) : Calls Try.prog 14 #[.pointer (some ⟨b, 0, none⟩), i.val] w fun e w' => e = .returned (.bool true) ∧ Left B b v w (l ++ i.enc) 0 w' := by
  have hb0 : Below w.heap.size w (w.alloc i.cells) := (Below.refl _ _).alloc (Nat.le_refl _) _
  have hP := h.below hb0
  have hB0 : B ≤ (w.alloc i.cells).heap.size := Nat.le_trans hB hb0.size
  have HI : Hid (ItAt (w.alloc i.cells) w.heap.size 0 i) := ItAt.new w i
  have hbn : ¬ own b v w.heap.size := fun e => by have := h.own_lt _ e; omega
  have HC : Hid (Calls Try.prog 16 #[.pointer (some ⟨b, 0, none⟩)] (w.alloc i.cells) fun e w' => e = .returned (.int .i64 l.length) ∧ w' = w.alloc i.cells) := len_any hP
  obtain ⟨hf1, hf2⟩ := fit_parts hf
  have hbd := isFx_bounds hf1
  have hfx : fxR i.n i.k = (⟨(be i.k.toNat i.n).toArray⟩, 0) := by unfold fxR; rw [if_pos hf1, if_pos hf2]
  have he : i.enc = be i.k.toNat i.n := by unfold It.enc; rw [if_neg (by rw [hk]; decide), if_pos hk, if_pos hf]
  have CA : Hid (Calls Try.prog 27 #[.pointer (some ⟨b, 0, none⟩), .int .u64 i.n, .int .i64 i.k] (w.alloc i.cells) fun e w' => e = .returned (.tuple #[]) ∧ Left B b v (w.alloc i.cells) (l ++ i.enc) 0 w') := by
    rw [he]; have := wfixed_any hP i.n i.k (by omega) hB0; rw [hfx, putR_ok] at this; exact this
  have HIL : Hid (∀ w1, Left B b v (w.alloc i.cells) (l ++ i.enc) 0 w1 → ItAt w1 w.heap.size 0 i) := fun w1 ⟨_, _, K, _⟩ => HI.out.kept K hbn
  have HLA : Hid (∀ w1, Left B b v (w.alloc i.cells) (l ++ i.enc) 0 w1 → Left B b v w (l ++ i.enc) 0 w1) := fun w1 h1 => h1.after hb0
  have hlen : ((l ++ i.enc).length : Int) = (l.length : Int) + i.k := by
    rw [he]; simp only [List.length_append, be_length]; omega
  have hwr : IntKind.i64.wrap ((l.length : Int) + i.k) = (l.length : Int) + i.k := by rw [IntKind.wrap_i64]; omega
  have hsh : (i.n : Int) / 2 ^ min (8 * i.k).toNat 64 = 0 := by rw [Nat.min_eq_left (by omega)]; exact shr_fit hf
  have n1 : decide (i.k < 1) = false := by simp; omega
  have n2 : decide (8 < i.k) = false := by simp; omega
  have n3 : decide (i.k < 8) = false := by simp; omega
  have hw8 : IntKind.i64.wrap (8 * i.k) = 8 * i.k := by rw [IntKind.wrap_i64]; omega
  have hw9 : IntKind.u64.wrap (8 * i.k) = 8 * i.k := by rw [IntKind.wrap_u64]; omega
  have hn8 : ¬ 8 * i.k < 0 := by omega
  clear hfx he hf hf1 hf2 hbd h8
  have hk1 : (i.kd == 2) = true := by simpa using hk
  have hne : ∀ j : Int, j ≠ 2 → (i.kd == j) = false := fun j hj => by rw [hk]; simpa using fun e => hj e.symm
  have hk_1 := hne 1 (by decide)
  have hk_3 := hne 3 (by decide)
  have hk_4 := hne 4 (by decide)
  have hk_5 := hne 5 (by decide)
  clear hne hk
  clear h hP hi hb0 hB0 hl
  generalize l ++ i.enc = L2 at *
  unfold It.val
  unfold It.cells at *
  obtain ⟨c0, c1, c2, c3, c4, c5, c6⟩ := id HI.out
  simp only [Nat.zero_add] at c1 c2 c3 c4 c5 c6
  go_enter Try.func14, Try.ntmps14
  go_wp2_with fail
  generalize w.alloc (.cells #[.bool i.o, .int .i64 i.kd, .int .u64 i.n, .int .i64 i.k, .string i.s, .int .u64 (hiOf i.x), .int .u64 (loOf i.x)] 36) = W1 at *
  refine HC.out.mono ?_
  rintro e w2 ⟨rfl, rfl⟩
  go_wp2_with fail
  refine CA.out.mono ?_
  rintro e w3 ⟨rfl, hL3⟩
  obtain ⟨d0, d1, d2, d3, d4, d5, d6⟩ := HIL.out _ hL3
  simp only [Nat.zero_add] at d1 d2 d3 d4 d5 d6
  have HL3 : Hid (Left B b v w L2 0 w3) := HLA.out _ hL3
  obtain ⟨v2, P2, K2, N2⟩ := hL3
  have CL : Hid (∀ n, Calls Try.prog 16 #[.pointer (some ⟨b, 0, none⟩)] (w3.drewN n) fun e w' => e = .returned (.int .i64 L2.length) ∧ w' = w3.drewN n) := fun n => len_any (w := w3.drewN n) P2
  have HLn : Hid (∀ n, Left B b v w L2 0 (w3.drewN n)) := fun n => by
    obtain ⟨v9, P9, K9, N9⟩ := HL3.out
    exact ⟨v9, P9, K9.drewN n, N9⟩
  clear CA HIL HLA c0 c1 c2 c3 c4 c5 c6 P2 K2 N2 HI hbn HC
  go_wp2
  go_quiet ((go_at_call 16; refine Calls.quiet_of_same (CL.out _)))
  go_wp2
  go_ret
  exact ⟨by simp [hlen], HLn.out _⟩

set_option maxHeartbeats 4000000 in
set_option maxRecDepth 100000 in
theorem put2c {B b : Nat} {v : Value} {l : List UInt8} {w : World} (h : Wr B w b v l 0) (hB : B ≤ w.heap.size) (i : It) (hi : i.ok) (hl : l.length + i.s.size + 26 ≤ 140737488355328) (hk : i.kd = 2) (hf : ¬ i.fit = true) (h8 : i.k < 1) : Calls Try.prog 14 #[.pointer (some ⟨b, 0, none⟩), i.val] w fun e w' => e = .returned (.bool true) ∧ Left B b v w (l ++ i.enc) 0 w' := by
  have hb0 : Below w.heap.size w (w.alloc i.cells) := (Below.refl _ _).alloc (Nat.le_refl _) _
  have hP := h.below hb0
  have hB0 : B ≤ (w.alloc i.cells).heap.size := Nat.le_trans hB hb0.size
  have HI : Hid (ItAt (w.alloc i.cells) w.heap.size 0 i) := ItAt.new w i
  have hbn : ¬ own b v w.heap.size := fun e => by have := h.own_lt _ e; omega
  have HC : Hid (Calls Try.prog 16 #[.pointer (some ⟨b, 0, none⟩)] (w.alloc i.cells) fun e w' => e = .returned (.int .i64 l.length) ∧ w' = w.alloc i.cells) := len_any hP
  rw [show i.enc = [] by unfold It.enc; rw [if_neg (by rw [hk]; decide), if_pos hk, if_neg hf], List.append_nil]
  have HL : Hid (Left B b v w l 0 (w.alloc i.cells)) := ⟨v, hP, Kept.of_below hb0, .inl rfl⟩
  have n1 : decide (i.k < 1) = true := by simp; omega
  clear h8
  have hk1 : (i.kd == 2) = true := by simpa using hk
  have hne : ∀ j : Int, j ≠ 2 → (i.kd == j) = false := fun j hj => by rw [hk]; simpa using fun e => hj e.symm
  have hk_1 := hne 1 (by decide)
  have hk_3 := hne 3 (by decide)
  have hk_4 := hne 4 (by decide)
  have hk_5 := hne 5 (by decide)
  clear hne hk
  clear h hP hi hl hB0 hb0 hf
  unfold It.val
  unfold It.cells at *
  obtain ⟨c0, c1, c2, c3, c4, c5, c6⟩ := id HI.out
  simp only [Nat.zero_add] at c1 c2 c3 c4 c5 c6
  go_enter Try.func14, Try.ntmps14
  go_wp2_with fail
  generalize w.alloc (.cells #[.bool i.o, .int .i64 i.kd, .int .u64 i.n, .int .i64 i.k, .string i.s, .int .u64 (hiOf i.x), .int .u64 (loOf i.x)] 36) = W1 at *
  refine HC.out.mono ?_
  rintro e w2 ⟨rfl, rfl⟩
  go_wp2
  go_ret
  exact ⟨rfl, HL.out⟩

set_option maxHeartbeats 4000000 in
set_option maxRecDepth 100000 in
theorem put2d {B b : Nat} {v : Value} {l : List UInt8} {w : World} (h : Wr B w b v l 0) (hB : B ≤ w.heap.size) (i : It) (hi : i.ok) (hl : l.length + i.s.size + 26 ≤ 140737488355328) (hk : i.kd = 2) (hf : ¬ i.fit = true) (h8 : 8 < i.k) : Calls Try.prog 14 #[.pointer (some ⟨b, 0, none⟩), i.val] w fun e w' => e = .returned (.bool true) ∧ Left B b v w (l ++ i.enc) 0 w' := by
  have hb0 : Below w.heap.size w (w.alloc i.cells) := (Below.refl _ _).alloc (Nat.le_refl _) _
  have hP := h.below hb0
  have hB0 : B ≤ (w.alloc i.cells).heap.size := Nat.le_trans hB hb0.size
  have HI : Hid (ItAt (w.alloc i.cells) w.heap.size 0 i) := ItAt.new w i
  have hbn : ¬ own b v w.heap.size := fun e => by have := h.own_lt _ e; omega
  have HC : Hid (Calls Try.prog 16 #[.pointer (some ⟨b, 0, none⟩)] (w.alloc i.cells) fun e w' => e = .returned (.int .i64 l.length) ∧ w' = w.alloc i.cells) := len_any hP
  rw [show i.enc = [] by unfold It.enc; rw [if_neg (by rw [hk]; decide), if_pos hk, if_neg hf], List.append_nil]
  have HL : Hid (Left B b v w l 0 (w.alloc i.cells)) := ⟨v, hP, Kept.of_below hb0, .inl rfl⟩
  have n1 : decide (i.k < 1) = false := by simp; omega
  have n2 : decide (8 < i.k) = true := by simp; omega
  clear h8
  have hk1 : (i.kd == 2) = true := by simpa using hk
  have hne : ∀ j : Int, j ≠ 2 → (i.kd == j) = false := fun j hj => by rw [hk]; simpa using fun e => hj e.symm
  have hk_1 := hne 1 (by decide)
  have hk_3 := hne 3 (by decide)
  have hk_4 := hne 4 (by decide)
  have hk_5 := hne 5 (by decide)
  clear hne hk
  clear h hP hi hl hB0 hb0 hf
  unfold It.val
  unfold It.cells at *
  obtain ⟨c0, c1, c2, c3, c4, c5, c6⟩ := id HI.out
  simp only [Nat.zero_add] at c1 c2 c3 c4 c5 c6
  go_enter Try.func14, Try.ntmps14
  go_wp2_with fail
  generalize w.alloc (.cells #[.bool i.o, .int .i64 i.kd, .int .u64 i.n, .int .i64 i.k, .string i.s, .int .u64 (hiOf i.x), .int .u64 (loOf i.x)] 36) = W1 at *
  refine HC.out.mono ?_
  rintro e w2 ⟨rfl, rfl⟩
  go_wp2
  go_ret
  exact ⟨rfl, HL.out⟩

set_option maxHeartbeats 4000000 in
set_option maxRecDepth 100000 in
theorem put2e {B b : Nat} {v : Value} {l : List UInt8} {w : World} (h : Wr B w b v l 0) (hB : B ≤ w.heap.size) (i : It) (hi : i.ok) (hl : l.length + i.s.size + 26 ≤ 140737488355328) (hk : i.kd = 2) (hf : ¬ i.fit = true) (h1 : 1 ≤ i.k) (h8 : i.k < 8) (hs : ¬ (i.n : Int) / 2 ^ (8 * i.k).toNat = 0) : Calls Try.prog 14 #[.pointer (some ⟨b, 0, none⟩), i.val] w fun e w' => e = .returned (.bool true) ∧ Left B b v w (l ++ i.enc) 0 w' := by
  have hb0 : Below w.heap.size w (w.alloc i.cells) := (Below.refl _ _).alloc (Nat.le_refl _) _
  have hP := h.below hb0
  have hB0 : B ≤ (w.alloc i.cells).heap.size := Nat.le_trans hB hb0.size
  have HI : Hid (ItAt (w.alloc i.cells) w.heap.size 0 i) := ItAt.new w i
  have hbn : ¬ own b v w.heap.size := fun e => by have := h.own_lt _ e; omega
  have HC : Hid (Calls Try.prog 16 #[.pointer (some ⟨b, 0, none⟩)] (w.alloc i.cells) fun e w' => e = .returned (.int .i64 l.length) ∧ w' = w.alloc i.cells) := len_any hP
  rw [show i.enc = [] by unfold It.enc; rw [if_neg (by rw [hk]; decide), if_pos hk, if_neg hf], List.append_nil]
  have HL : Hid (Left B b v w l 0 (w.alloc i.cells)) := ⟨v, hP, Kept.of_below hb0, .inl rfl⟩
  have n1 : decide (i.k < 1) = false := by simp; omega
  have n2 : decide (8 < i.k) = false := by simp; omega
  have n3 : decide (i.k < 8) = true := by simp; omega
  have hw8 : IntKind.i64.wrap (8 * i.k) = 8 * i.k := by rw [IntKind.wrap_i64]; omega
  have hw9 : IntKind.u64.wrap (8 * i.k) = 8 * i.k := by rw [IntKind.wrap_u64]; omega
  have hn8 : ¬ 8 * i.k < 0 := by omega
  have hp : 0 < (i.n : Int) / 2 ^ (8 * i.k).toNat := by have := Int.ediv_nonneg (a := (i.n : Int)) (b := 2 ^ (8 * i.k).toNat) (by omega) (Int.le_of_lt (Int.pow_pos (by decide))); omega
  rw [← Nat.min_eq_left (show (8 * i.k).toNat ≤ 64 by omega)] at hp
  clear h1 h8 hs
  have hk1 : (i.kd == 2) = true := by simpa using hk
  have hne : ∀ j : Int, j ≠ 2 → (i.kd == j) = false := fun j hj => by rw [hk]; simpa using fun e => hj e.symm
  have hk_1 := hne 1 (by decide)
  have hk_3 := hne 3 (by decide)
  have hk_4 := hne 4 (by decide)
  have hk_5 := hne 5 (by decide)
  clear hne hk
  clear h hP hi hl hB0 hb0 hf
  unfold It.val
  unfold It.cells at *
  obtain ⟨c0, c1, c2, c3, c4, c5, c6⟩ := id HI.out
  simp only [Nat.zero_add] at c1 c2 c3 c4 c5 c6
  go_enter Try.func14, Try.ntmps14
  go_wp2_with fail
  generalize w.alloc (.cells #[.bool i.o, .int .i64 i.kd, .int .u64 i.n, .int .i64 i.k, .string i.s, .int .u64 (hiOf i.x), .int .u64 (loOf i.x)] 36) = W1 at *
  refine HC.out.mono ?_
  rintro e w2 ⟨rfl, rfl⟩
  go_wp2
  go_ret
  exact ⟨rfl, HL.out⟩
theorem not_fit {i : It} (hi : i.ok) (hf : ¬ i.fit = true) : i.k < 1 ∨ 8 < i.k ∨ (1 ≤ i.k ∧ i.k < 8 ∧ ¬ (i.n : Int) / 2 ^ (8 * i.k).toNat = 0) := by
  by_cases h1 : i.k < 1
  · exact .inl h1
  by_cases h2 : 8 < i.k
  · exact .inr (.inl h2)
  have h3 : isFx i.k = true := by unfold isFx; simp; omega
  have h4 : ¬ i.n < 256 ^ i.k.toNat := fun h => hf (by unfold It.fit; simp [h3, h])
  refine .inr (.inr ⟨by omega, ?_, fun h => h4 ?_⟩)
  · by_cases h5 : i.k < 8
    · exact h5
    · exfalso
      have : i.k.toNat = 8 := by omega
      rw [this] at h4
      exact h4 (by have := hi.1; simpa using this)
  · rw [show (8 * i.k).toNat = 8 * i.k.toNat by omega] at h
    exact (shr_zero _ _).1 h
theorem put_any {B b : Nat} {v : Value} {l : List UInt8} {w : World} (h : Wr B w b v l 0) (hB : B ≤ w.heap.size) (i : It) (hi : i.ok) (hl : l.length + i.s.size + 26 ≤ 140737488355328) : Calls Try.prog 14 #[.pointer (some ⟨b, 0, none⟩), i.val] w fun e w' => e = .returned (.bool true) ∧ Left B b v w (l ++ i.enc) 0 w' := by
  by_cases k1 : i.kd = 1
  · exact put1 h hB i hi hl k1
  by_cases k2 : i.kd = 2
  · by_cases hf : i.fit = true
    · by_cases h8 : i.k < 8
      · exact put2a h hB i hi hl k2 hf h8
      · exact put2b h hB i hi hl k2 hf h8
    · rcases not_fit hi hf with q | q | ⟨q1, q2, q3⟩
      · exact put2c h hB i hi hl k2 hf q
      · exact put2d h hB i hi hl k2 hf q
      · exact put2e h hB i hi hl k2 hf q1 q2 q3
  by_cases k3 : i.kd = 3
  · exact put3 h hB i hi hl k3
  by_cases k4 : i.kd = 4
  · exact put4 h hB i hi hl k4
  by_cases k5 : i.kd = 5
  · exact put5 h hB i hi hl k5
  exact put0 h hB i hi hl k1 k2 k3 k4 k5
end Go.Proofs.Ytdpddlaedffmdaa
