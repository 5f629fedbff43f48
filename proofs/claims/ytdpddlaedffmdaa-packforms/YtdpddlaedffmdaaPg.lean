/- One item read from a reader: what it answers, and what it makes of the reader. -/
import Derived.Test.YtdpddlaedffmdaaPb
import Derived.Deep.RegionHeld3
namespace Go.Proofs.Ytdpddlaedffmdaa
open Go.RowKit
set_option linter.unusedVariables false
set_option linter.unusedSimpArgs false

theorem lo_parts {V : Nat} {i : It} (h : V = i.lo) : hiOf V = 0 ∧ loOf V = loOf i.x := by
  subst h
  have h := lo_lt i
  exact ⟨by unfold hiOf; rw [Nat.div_eq_of_lt h]; rfl, by unfold loOf It.lo; rw [Nat.mod_mod]⟩

set_option maxHeartbeats 4000000 in
set_option maxRecDepth 100000 in
theorem got0 {w : World} {b : Nat} {s : ByteArray} {a : Nat} {f : Int} (h : Rd w b s a f) (hs : s.size ≤ 140737488351232) (i : It) (hi : i.ok) (k1 : ¬ i.kd = 1) (k2 : ¬ i.kd = 2) (k3 : ¬ i.kd = 3) (k4 : ¬ i.kd = 4) (k5 : ¬ i.kd = 5) : Calls Try.prog 17 #[.pointer (some ⟨b, 0, none⟩), i.val] w fun e w' => ∃ r : Bool, e = .returned (.bool r) ∧ ((gotS i s a f).1 → r = true) ∧ Rd w' b s (gotS i s a f).2.1 (gotS i s a f).2.2 ∧ Kept (fun k => k = b) w w' := by
  have hb0 : Below w.heap.size w (w.alloc i.cells) := (Below.refl _ _).alloc (Nat.le_refl _) _
  have hP := h.below hb0
  have hbl := h.lt
  have HI : Hid (ItAt (w.alloc i.cells) w.heap.size 0 i) := ItAt.new w i
  have HK0 : Hid (Kept (fun k => k = b) w (w.alloc i.cells)) := Kept.of_below hb0
  rw [show gotS i s a f = (True, a, f) by unfold gotS; rw [if_neg k1, if_neg k2, if_neg k3, if_neg k5, if_neg k4]]
  have HR0 : Hid (Rd (w.alloc i.cells) b s a f) := hP
  have q1 : (i.kd == 1) = false := by simpa using k1
  have q2 : (i.kd == 2) = false := by simpa using k2
  have q3 : (i.kd == 3) = false := by simpa using k3
  have q4 : (i.kd == 4) = false := by simpa using k4
  have q5 : (i.kd == 5) = false := by simpa using k5
  clear k1 k2 k3 k4 k5
  clear h hP hi hs hb0 hbl
  unfold It.val
  unfold It.cells at *
  obtain ⟨c0, c1, c2, c3, c4, c5, c6⟩ := id HI.out
  simp only [Nat.zero_add] at c1 c2 c3 c4 c5 c6
  go_enter Try.func17, Try.ntmps17
  go_wp2
  try generalize w.alloc (.cells #[.bool i.o, .int .i64 i.kd, .int .u64 i.n, .int .i64 i.k, .string i.s, .int .u64 (hiOf i.x), .int .u64 (loOf i.x)] 36) = W1 at *
  go_ret
  exact ⟨true, rfl, fun _ => rfl, HR0.out, HK0.out⟩

set_option maxHeartbeats 4000000 in
set_option maxRecDepth 100000 in
theorem got2c {w : World} {b : Nat} {s : ByteArray} {a : Nat} {f : Int} (h : Rd w b s a f) (hs : s.size ≤ 140737488351232) (i : It) (hi : i.ok) (hk : i.kd = 2) (hf : ¬ i.fit = true) (h8 : i.k < 1) : Calls Try.prog 17 #[.pointer (some ⟨b, 0, none⟩), i.val] w fun e w' => ∃ r : Bool, e = .returned (.bool r) ∧ ((gotS i s a f).1 → r = true) ∧ Rd w' b s (gotS i s a f).2.1 (gotS i s a f).2.2 ∧ Kept (fun k => k = b) w w' := by
  have hb0 : Below w.heap.size w (w.alloc i.cells) := (Below.refl _ _).alloc (Nat.le_refl _) _
  have hP := h.below hb0
  have hbl := h.lt
  have HI : Hid (ItAt (w.alloc i.cells) w.heap.size 0 i) := ItAt.new w i
  have HK0 : Hid (Kept (fun k => k = b) w (w.alloc i.cells)) := Kept.of_below hb0
  rw [show gotS i s a f = (True, a, f) by unfold gotS; rw [if_neg (by rw [hk]; decide), if_pos hk, if_neg hf]]
  have HR0 : Hid (Rd (w.alloc i.cells) b s a f) := hP
  have n1 : decide (i.k < 1) = true := by simp; omega
  clear h8 hf
  have hk1 : (i.kd == 2) = true := by simpa using hk
  have hne : ∀ j : Int, j ≠ 2 → (i.kd == j) = false := fun j hj => by rw [hk]; simpa using fun e => hj e.symm
  have hk_1 := hne 1 (by decide)
  have hk_3 := hne 3 (by decide)
  have hk_4 := hne 4 (by decide)
  have hk_5 := hne 5 (by decide)
  clear hne hk
  clear h hP hi hs hb0 hbl
  unfold It.val
  unfold It.cells at *
  obtain ⟨c0, c1, c2, c3, c4, c5, c6⟩ := id HI.out
  simp only [Nat.zero_add] at c1 c2 c3 c4 c5 c6
  go_enter Try.func17, Try.ntmps17
  go_wp2
  try generalize w.alloc (.cells #[.bool i.o, .int .i64 i.kd, .int .u64 i.n, .int .i64 i.k, .string i.s, .int .u64 (hiOf i.x), .int .u64 (loOf i.x)] 36) = W1 at *
  go_ret
  exact ⟨true, rfl, fun _ => rfl, HR0.out, HK0.out⟩

set_option maxHeartbeats 4000000 in
set_option maxRecDepth 100000 in
theorem got2d {w : World} {b : Nat} {s : ByteArray} {a : Nat} {f : Int} (h : Rd w b s a f) (hs : s.size ≤ 140737488351232) (i : It) (hi : i.ok) (hk : i.kd = 2) (hf : ¬ i.fit = true) (h8 : 8 < i.k) : Calls Try.prog 17 #[.pointer (some ⟨b, 0, none⟩), i.val] w fun e w' => ∃ r : Bool, e = .returned (.bool r) ∧ ((gotS i s a f).1 → r = true) ∧ Rd w' b s (gotS i s a f).2.1 (gotS i s a f).2.2 ∧ Kept (fun k => k = b) w w' := by
  have hb0 : Below w.heap.size w (w.alloc i.cells) := (Below.refl _ _).alloc (Nat.le_refl _) _
  have hP := h.below hb0
  have hbl := h.lt
  have HI : Hid (ItAt (w.alloc i.cells) w.heap.size 0 i) := ItAt.new w i
  have HK0 : Hid (Kept (fun k => k = b) w (w.alloc i.cells)) := Kept.of_below hb0
  rw [show gotS i s a f = (True, a, f) by unfold gotS; rw [if_neg (by rw [hk]; decide), if_pos hk, if_neg hf]]
  have HR0 : Hid (Rd (w.alloc i.cells) b s a f) := hP
  have n1 : decide (i.k < 1) = false := by simp; omega
  have n2 : decide (8 < i.k) = true := by simp; omega
  clear h8 hf
  have hk1 : (i.kd == 2) = true := by simpa using hk
  have hne : ∀ j : Int, j ≠ 2 → (i.kd == j) = false := fun j hj => by rw [hk]; simpa using fun e => hj e.symm
  have hk_1 := hne 1 (by decide)
  have hk_3 := hne 3 (by decide)
  have hk_4 := hne 4 (by decide)
  have hk_5 := hne 5 (by decide)
  clear hne hk
  clear h hP hi hs hb0 hbl
  unfold It.val
  unfold It.cells at *
  obtain ⟨c0, c1, c2, c3, c4, c5, c6⟩ := id HI.out
  simp only [Nat.zero_add] at c1 c2 c3 c4 c5 c6
  go_enter Try.func17, Try.ntmps17
  go_wp2
  try generalize w.alloc (.cells #[.bool i.o, .int .i64 i.kd, .int .u64 i.n, .int .i64 i.k, .string i.s, .int .u64 (hiOf i.x), .int .u64 (loOf i.x)] 36) = W1 at *
  go_ret
  exact ⟨true, rfl, fun _ => rfl, HR0.out, HK0.out⟩

set_option maxHeartbeats 4000000 in
set_option maxRecDepth 100000 in
theorem got2e {w : World} {b : Nat} {s : ByteArray} {a : Nat} {f : Int} (h : Rd w b s a f) (hs : s.size ≤ 140737488351232) (i : It) (hi : i.ok) (hk : i.kd = 2) (hf : ¬ i.fit = true) (h1 : 1 ≤ i.k) (h8 : i.k < 8) (hs' : ¬ (i.n : Int) / 2 ^ (8 * i.k).toNat = 0) : Calls Try.prog 17 #[.pointer (some ⟨b, 0, none⟩), i.val] w fun e w' => ∃ r : Bool, e = .returned (.bool r) ∧ ((gotS i s a f).1 → r = true) ∧ Rd w' b s (gotS i s a f).2.1 (gotS i s a f).2.2 ∧ Kept (fun k => k = b) w w' := by
  have hb0 : Below w.heap.size w (w.alloc i.cells) := (Below.refl _ _).alloc (Nat.le_refl _) _
  have hP := h.below hb0
  have hbl := h.lt
  have HI : Hid (ItAt (w.alloc i.cells) w.heap.size 0 i) := ItAt.new w i
  have HK0 : Hid (Kept (fun k => k = b) w (w.alloc i.cells)) := Kept.of_below hb0
  rw [show gotS i s a f = (True, a, f) by unfold gotS; rw [if_neg (by rw [hk]; decide), if_pos hk, if_neg hf]]
  have HR0 : Hid (Rd (w.alloc i.cells) b s a f) := hP
  have n1 : decide (i.k < 1) = false := by simp; omega
  have n2 : decide (8 < i.k) = false := by simp; omega
  have n3 : decide (i.k < 8) = true := by simp; omega
  have hw8 : IntKind.i64.wrap (8 * i.k) = 8 * i.k := by rw [IntKind.wrap_i64]; omega
  have hw9 : IntKind.u64.wrap (8 * i.k) = 8 * i.k := by rw [IntKind.wrap_u64]; omega
  have hn8 : ¬ 8 * i.k < 0 := by omega
  have hp : 0 < (i.n : Int) / 2 ^ (8 * i.k).toNat := by have := Int.ediv_nonneg (a := (i.n : Int)) (b := 2 ^ (8 * i.k).toNat) (by omega) (Int.le_of_lt (Int.pow_pos (by decide))); omega
  rw [← Nat.min_eq_left (show (8 * i.k).toNat ≤ 64 by omega)] at hp
  clear h1 h8 hs' hf
  have hk1 : (i.kd == 2) = true := by simpa using hk
  have hne : ∀ j : Int, j ≠ 2 → (i.kd == j) = false := fun j hj => by rw [hk]; simpa using fun e => hj e.symm
  have hk_1 := hne 1 (by decide)
  have hk_3 := hne 3 (by decide)
  have hk_4 := hne 4 (by decide)
  have hk_5 := hne 5 (by decide)
  clear hne hk
  clear h hP hi hs hb0 hbl
  unfold It.val
  unfold It.cells at *
  obtain ⟨c0, c1, c2, c3, c4, c5, c6⟩ := id HI.out
  simp only [Nat.zero_add] at c1 c2 c3 c4 c5 c6
  go_enter Try.func17, Try.ntmps17
  go_wp2
  try generalize w.alloc (.cells #[.bool i.o, .int .i64 i.kd, .int .u64 i.n, .int .i64 i.k, .string i.s, .int .u64 (hiOf i.x), .int .u64 (loOf i.x)] 36) = W1 at *
  go_ret
  exact ⟨true, rfl, fun _ => rfl, HR0.out, HK0.out⟩

set_option maxHeartbeats 4000000 in
set_option maxRecDepth 100000 in
theorem got1 {w : World} {b : Nat} {s : ByteArray} {a : Nat} {f : Int} (h : Rd w b s a f) (hs : s.size ≤ 140737488351232) (i : It) (hi : i.ok) (hk : i.kd = 1) : Calls Try.prog 17 #[.pointer (some ⟨b, 0, none⟩), i.val] w fun e w' => ∃ r : Bool, e = .returned (.bool r) ∧ ((gotS i s a f).1 → r = true) ∧ Rd w' b s (gotS i s a f).2.1 (gotS i s a f).2.2 ∧ Kept (fun k => k = b) w w' := by
  have hb0 : Below w.heap.size w (w.alloc i.cells) := (Below.refl _ _).alloc (Nat.le_refl _) _
  have hP := h.below hb0
  have hbl := h.lt
  have HI : Hid (ItAt (w.alloc i.cells) w.heap.size 0 i) := ItAt.new w i
  have HK0 : Hid (Kept (fun k => k = b) w (w.alloc i.cells)) := Kept.of_below hb0
  rw [show gotS i s a f = ((uintS s a f i.n).1 = i.n, (uintS s a f i.n).2) by unfold gotS; rw [if_pos hk]]
  have CA : Hid (∀ w1 : World, Rd w1 b s a f → Calls Try.prog 21 #[.pointer (some ⟨b, 0, none⟩), .int .u64 i.n] w1 fun e w' => e = .returned (.int .u64 (uintS s a f i.n).1) ∧ Rd w' b s (uintS s a f i.n).2.1 (uintS s a f i.n).2.2 ∧ Kept (fun k => k = b) w1 w') := fun w1 h1 => a21 h1 hs i.n
  have HR0 : Hid (Rd (w.alloc i.cells) b s a f) := hP
  have hwb : ¬ w.heap.size = b := by omega
  have hk1 : (i.kd == 1) = true := by simpa using hk
  have hne : ∀ j : Int, j ≠ 1 → (i.kd == j) = false := fun j hj => by rw [hk]; simpa using fun e => hj e.symm
  have hk_2 := hne 2 (by decide)
  have hk_3 := hne 3 (by decide)
  have hk_4 := hne 4 (by decide)
  have hk_5 := hne 5 (by decide)
  clear hne hk
  clear h hP hi hb0 hbl hs
  generalize (uintS s a f i.n).1 = V at *
  generalize (uintS s a f i.n).2 = AG at *
  obtain ⟨A, G⟩ := AG
  simp only at CA
  unfold It.val
  unfold It.cells at *
  obtain ⟨c0, c1, c2, c3, c4, c5, c6⟩ := id HI.out
  simp only [Nat.zero_add] at c1 c2 c3 c4 c5 c6
  go_enter Try.func17, Try.ntmps17
  go_wp2_with fail
  generalize w.alloc (.cells #[.bool i.o, .int .i64 i.kd, .int .u64 i.n, .int .i64 i.k, .string i.s, .int .u64 (hiOf i.x), .int .u64 (loOf i.x)] 36) = W1 at *
  have C : Hid (Calls Try.prog 21 #[.pointer (some ⟨b, 0, none⟩), .int .u64 i.n] W1.drew fun e w' => e = .returned (.int .u64 V) ∧ Hid (Rd w' b s A G) ∧ Hid (Kept (fun k => k = b) w w') ∧ w'.cell? ⟨w.heap.size, 2, none⟩ = some (.int .u64 i.n) ∧ True) := by
    refine (CA.out W1.drew HR0.out).mono ?_
    rintro e w' ⟨rfl, hF, hk⟩
    have hk' : Kept (fun k => k = b) W1 w' := ⟨hk.os, hk.tape, hk.output, hk.size, hk.block⟩
    exact ⟨rfl, hF, HK0.out.trans hk', hk'.cell c2 hwb, trivial⟩
  clear CA HR0 HK0 HI hwb
  go_region_held3 (fun w' => w'.cell? ⟨w.heap.size, 2, none⟩ = some (.int .u64 i.n) ∧ True)
    (first | go_keep | exact hkp)
    (first | (go_at_call 21; refine C.out.mono ?_; rintro e w3 ⟨rfl, HR, HK, hkp⟩))
  go_wp2
  go_ret
  exact ⟨_, rfl, fun h => by subst h; simp, HR.out, HK.out⟩

set_option maxHeartbeats 4000000 in
set_option maxRecDepth 100000 in
theorem got2a {w : World} {b : Nat} {s : ByteArray} {a : Nat} {f : Int} (h : Rd w b s a f) (hs : s.size ≤ 140737488351232) (i : It) (hi : i.ok) (hk : i.kd = 2) (hf : i.fit = true) (h8 : i.k < 8) : Calls Try.prog 17 #[.pointer (some ⟨b, 0, none⟩), i.val] w fun e w' => ∃ r : Bool, e = .returned (.bool r) ∧ ((gotS i s a f).1 → r = true) ∧ Rd w' b s (gotS i s a f).2.1 (gotS i s a f).2.2 ∧ Kept (fun k => k = b) w w' := by
  have hb0 : Below w.heap.size w (w.alloc i.cells) := (Below.refl _ _).alloc (Nat.le_refl _) _
  have hP := h.below hb0
  have hbl := h.lt
  have HI : Hid (ItAt (w.alloc i.cells) w.heap.size 0 i) := ItAt.new w i
  have HK0 : Hid (Kept (fun k => k = b) w (w.alloc i.cells)) := Kept.of_below hb0
  rw [show gotS i s a f = ((fixS s a f i.k).1 = i.n, (fixS s a f i.k).2) by unfold gotS; rw [if_neg (by rw [hk]; decide), if_pos hk, if_pos hf]]
  have CA : Hid (∀ w1 : World, Rd w1 b s a f → Calls Try.prog 22 #[.pointer (some ⟨b, 0, none⟩), .int .i64 i.k] w1 fun e w' => e = .returned (.int .u64 (fixS s a f i.k).1) ∧ Rd w' b s (fixS s a f i.k).2.1 (fixS s a f i.k).2.2 ∧ Kept (fun k => k = b) w1 w') := fun w1 h1 => a22 h1 hs i.k
  have HR0 : Hid (Rd (w.alloc i.cells) b s a f) := hP
  have hwb : ¬ w.heap.size = b := by omega
  have hbd := isFx_bounds (fit_parts hf).1
  have hsh : (i.n : Int) / 2 ^ min (8 * i.k).toNat 64 = 0 := by rw [Nat.min_eq_left (by omega)]; exact shr_fit hf
  have n1 : decide (i.k < 1) = false := by simp; omega
  have n2 : decide (8 < i.k) = false := by simp; omega
  have n3 : decide (i.k < 8) = true := by simp; omega
  have hw8 : IntKind.i64.wrap (8 * i.k) = 8 * i.k := by rw [IntKind.wrap_i64]; omega
  have hw9 : IntKind.u64.wrap (8 * i.k) = 8 * i.k := by rw [IntKind.wrap_u64]; omega
  have hn8 : ¬ 8 * i.k < 0 := by omega
  clear hf hbd h8
  have hk1 : (i.kd == 2) = true := by simpa using hk
  have hne : ∀ j : Int, j ≠ 2 → (i.kd == j) = false := fun j hj => by rw [hk]; simpa using fun e => hj e.symm
  have hk_1 := hne 1 (by decide)
  have hk_3 := hne 3 (by decide)
  have hk_4 := hne 4 (by decide)
  have hk_5 := hne 5 (by decide)
  clear hne hk
  clear h hP hi hb0 hbl hs
  generalize (fixS s a f i.k).1 = V at *
  generalize (fixS s a f i.k).2 = AG at *
  obtain ⟨A, G⟩ := AG
  simp only at CA
  unfold It.val
  unfold It.cells at *
  obtain ⟨c0, c1, c2, c3, c4, c5, c6⟩ := id HI.out
  simp only [Nat.zero_add] at c1 c2 c3 c4 c5 c6
  go_enter Try.func17, Try.ntmps17
  go_wp2_with fail
  generalize w.alloc (.cells #[.bool i.o, .int .i64 i.kd, .int .u64 i.n, .int .i64 i.k, .string i.s, .int .u64 (hiOf i.x), .int .u64 (loOf i.x)] 36) = W1 at *
  have C : Hid (Calls Try.prog 22 #[.pointer (some ⟨b, 0, none⟩), .int .i64 i.k] W1.drew fun e w' => e = .returned (.int .u64 V) ∧ Hid (Rd w' b s A G) ∧ Hid (Kept (fun k => k = b) w w') ∧ w'.cell? ⟨w.heap.size, 2, none⟩ = some (.int .u64 i.n) ∧ w'.cell? ⟨w.heap.size, 3, none⟩ = some (.int .i64 i.k)) := by
    refine (CA.out W1.drew HR0.out).mono ?_
    rintro e w' ⟨rfl, hF, hk⟩
    have hk' : Kept (fun k => k = b) W1 w' := ⟨hk.os, hk.tape, hk.output, hk.size, hk.block⟩
    exact ⟨rfl, hF, HK0.out.trans hk', hk'.cell c2 hwb, hk'.cell c3 hwb⟩
  clear CA HR0 HK0 HI hwb
  go_region_held3 (fun w' => w'.cell? ⟨w.heap.size, 2, none⟩ = some (.int .u64 i.n) ∧ w'.cell? ⟨w.heap.size, 3, none⟩ = some (.int .i64 i.k))
    (first | go_keep | exact hkp)
    (first | (go_at_call 22; refine C.out.mono ?_; rintro e w3 ⟨rfl, HR, HK, hkp⟩))
  go_wp2
  go_ret
  exact ⟨_, rfl, fun h => by subst h; simp, HR.out, HK.out⟩

set_option maxHeartbeats 4000000 in
set_option maxRecDepth 100000 in
theorem got2b {w : World} {b : Nat} {s : ByteArray} {a : Nat} {f : Int} (h : Rd w b s a f) (hs : s.size ≤ 140737488351232) (i : It) (hi : i.ok) (hk : i.kd = 2) (hf : i.fit = true) (h8 : ¬ i.k < 8) : Calls Try.prog 17 #[.pointer (some ⟨b, 0, none⟩), i.val] w fun e w' => ∃ r : Bool, e = .returned (.bool r) ∧ ((gotS i s a f).1 → r = true) ∧ Rd w' b s (gotS i s a f).2.1 (gotS i s a f).2.2 ∧ Kept (fun k => k = b) w w' := by
  have hb0 : Below w.heap.size w (w.alloc i.cells) := (Below.refl _ _).alloc (Nat.le_refl _) _
  have hP := h.below hb0
  have hbl := h.lt
  have HI : Hid (ItAt (w.alloc i.cells) w.heap.size 0 i) := ItAt.new w i
  have HK0 : Hid (Kept (fun k => k = b) w (w.alloc i.cells)) := Kept.of_below hb0
  rw [show gotS i s a f = ((fixS s a f i.k).1 = i.n, (fixS s a f i.k).2) by unfold gotS; rw [if_neg (by rw [hk]; decide), if_pos hk, if_pos hf]]
  have CA : Hid (∀ w1 : World, Rd w1 b s a f → Calls Try.prog 22 #[.pointer (some ⟨b, 0, none⟩), .int .i64 i.k] w1 fun e w' => e = .returned (.int .u64 (fixS s a f i.k).1) ∧ Rd w' b s (fixS s a f i.k).2.1 (fixS s a f i.k).2.2 ∧ Kept (fun k => k = b) w1 w') := fun w1 h1 => a22 h1 hs i.k
  have HR0 : Hid (Rd (w.alloc i.cells) b s a f) := hP
  have hwb : ¬ w.heap.size = b := by omega
  have hbd := isFx_bounds (fit_parts hf).1
  have hsh : (i.n : Int) / 2 ^ min (8 * i.k).toNat 64 = 0 := by rw [Nat.min_eq_left (by omega)]; exact shr_fit hf
  have n1 : decide (i.k < 1) = false := by simp; omega
  have n2 : decide (8 < i.k) = false := by simp; omega
  have n3 : decide (i.k < 8) = false := by simp; omega
  have hw8 : IntKind.i64.wrap (8 * i.k) = 8 * i.k := by rw [IntKind.wrap_i64]; omega
  have hw9 : IntKind.u64.wrap (8 * i.k) = 8 * i.k := by rw [IntKind.wrap_u64]; omega
  have hn8 : ¬ 8 * i.k < 0 := by omega
  clear hf hbd h8
  have hk1 : (i.kd == 2) = true := by simpa using hk
  have hne : ∀ j : Int, j ≠ 2 → (i.kd == j) = false := fun j hj => by rw [hk]; simpa using fun e => hj e.symm
  have hk_1 := hne 1 (by decide)
  have hk_3 := hne 3 (by decide)
  have hk_4 := hne 4 (by decide)
  have hk_5 := hne 5 (by decide)
  clear hne hk
  clear h hP hi hb0 hbl hs
  generalize (fixS s a f i.k).1 = V at *
  generalize (fixS s a f i.k).2 = AG at *
  obtain ⟨A, G⟩ := AG
  simp only at CA
  unfold It.val
  unfold It.cells at *
  obtain ⟨c0, c1, c2, c3, c4, c5, c6⟩ := id HI.out
  simp only [Nat.zero_add] at c1 c2 c3 c4 c5 c6
  go_enter Try.func17, Try.ntmps17
  go_wp2_with fail
  generalize w.alloc (.cells #[.bool i.o, .int .i64 i.kd, .int .u64 i.n, .int .i64 i.k, .string i.s, .int .u64 (hiOf i.x), .int .u64 (loOf i.x)] 36) = W1 at *
  have C : Hid (Calls Try.prog 22 #[.pointer (some ⟨b, 0, none⟩), .int .i64 i.k] W1.drew fun e w' => e = .returned (.int .u64 V) ∧ Hid (Rd w' b s A G) ∧ Hid (Kept (fun k => k = b) w w') ∧ w'.cell? ⟨w.heap.size, 2, none⟩ = some (.int .u64 i.n) ∧ w'.cell? ⟨w.heap.size, 3, none⟩ = some (.int .i64 i.k)) := by
    refine (CA.out W1.drew HR0.out).mono ?_
    rintro e w' ⟨rfl, hF, hk⟩
    have hk' : Kept (fun k => k = b) W1 w' := ⟨hk.os, hk.tape, hk.output, hk.size, hk.block⟩
    exact ⟨rfl, hF, HK0.out.trans hk', hk'.cell c2 hwb, hk'.cell c3 hwb⟩
  clear CA HR0 HK0 HI hwb
  go_region_held3 (fun w' => w'.cell? ⟨w.heap.size, 2, none⟩ = some (.int .u64 i.n) ∧ w'.cell? ⟨w.heap.size, 3, none⟩ = some (.int .i64 i.k))
    (first | go_keep | exact hkp)
    (first | (go_at_call 22; refine C.out.mono ?_; rintro e w3 ⟨rfl, HR, HK, hkp⟩))
  go_wp2
  go_ret
  exact ⟨_, rfl, fun h => by subst h; simp, HR.out, HK.out⟩

set_option maxHeartbeats 4000000 in
set_option maxRecDepth 100000 in
theorem got3 {w : World} {b : Nat} {s : ByteArray} {a : Nat} {f : Int} (h : Rd w b s a f) (hs : s.size ≤ 140737488351232) (i : It) (hi : i.ok) (hk : i.kd = 3) : Calls Try.prog 17 #[.pointer (some ⟨b, 0, none⟩), i.val] w fun e w' => ∃ r : Bool, e = .returned (.bool r) ∧ ((gotS i s a f).1 → r = true) ∧ Rd w' b s (gotS i s a f).2.1 (gotS i s a f).2.2 ∧ Kept (fun k => k = b) w w' := by
  have hb0 : Below w.heap.size w (w.alloc i.cells) := (Below.refl _ _).alloc (Nat.le_refl _) _
  have hP := h.below hb0
  have hbl := h.lt
  have HI : Hid (ItAt (w.alloc i.cells) w.heap.size 0 i) := ItAt.new w i
  have HK0 : Hid (Kept (fun k => k = b) w (w.alloc i.cells)) := Kept.of_below hb0
  rw [show gotS i s a f = ((textS s a f (i.s.size : Int)).1 = i.s, (textS s a f (i.s.size : Int)).2) by unfold gotS; rw [if_neg (by rw [hk]; decide), if_neg (by rw [hk]; decide), if_pos hk]]
  have CA : Hid (∀ w1 : World, Rd w1 b s a f → Calls Try.prog 23 #[.pointer (some ⟨b, 0, none⟩), .int .i64 (i.s.size : Int)] w1 fun e w' => e = .returned (.string (textS s a f (i.s.size : Int)).1) ∧ Rd w' b s (textS s a f (i.s.size : Int)).2.1 (textS s a f (i.s.size : Int)).2.2 ∧ Kept (fun k => k = b) w1 w') := fun w1 h1 => a23 h1 hs (i.s.size : Int) (by have := hi.2.2.1; omega)
  have HR0 : Hid (Rd (w.alloc i.cells) b s a f) := hP
  have hwb : ¬ w.heap.size = b := by omega
  have hk1 : (i.kd == 3) = true := by simpa using hk
  have hne : ∀ j : Int, j ≠ 3 → (i.kd == j) = false := fun j hj => by rw [hk]; simpa using fun e => hj e.symm
  have hk_1 := hne 1 (by decide)
  have hk_2 := hne 2 (by decide)
  have hk_4 := hne 4 (by decide)
  have hk_5 := hne 5 (by decide)
  clear hne hk
  clear h hP hi hb0 hbl hs
  generalize (textS s a f (i.s.size : Int)).1 = V at *
  generalize (textS s a f (i.s.size : Int)).2 = AG at *
  obtain ⟨A, G⟩ := AG
  simp only at CA
  unfold It.val
  unfold It.cells at *
  obtain ⟨c0, c1, c2, c3, c4, c5, c6⟩ := id HI.out
  simp only [Nat.zero_add] at c1 c2 c3 c4 c5 c6
  go_enter Try.func17, Try.ntmps17
  go_wp2_with fail
  generalize w.alloc (.cells #[.bool i.o, .int .i64 i.kd, .int .u64 i.n, .int .i64 i.k, .string i.s, .int .u64 (hiOf i.x), .int .u64 (loOf i.x)] 36) = W1 at *
  have C : Hid (Calls Try.prog 23 #[.pointer (some ⟨b, 0, none⟩), .int .i64 (i.s.size : Int)] W1.drew fun e w' => e = .returned (.string V) ∧ Hid (Rd w' b s A G) ∧ Hid (Kept (fun k => k = b) w w') ∧ w'.cell? ⟨w.heap.size, 4, none⟩ = some (.string i.s) ∧ True) := by
    refine (CA.out W1.drew HR0.out).mono ?_
    rintro e w' ⟨rfl, hF, hk⟩
    have hk' : Kept (fun k => k = b) W1 w' := ⟨hk.os, hk.tape, hk.output, hk.size, hk.block⟩
    exact ⟨rfl, hF, HK0.out.trans hk', hk'.cell c4 hwb, trivial⟩
  clear CA HR0 HK0 HI hwb
  go_region_held3 (fun w' => w'.cell? ⟨w.heap.size, 4, none⟩ = some (.string i.s) ∧ True)
    (first | go_keep | exact hkp)
    (first | (go_at_call 23; refine C.out.mono ?_; rintro e w3 ⟨rfl, HR, HK, hkp⟩))
  go_wp2
  go_ret
  exact ⟨_, rfl, fun h => by subst h; simp, HR.out, HK.out⟩

set_option maxHeartbeats 4000000 in
set_option maxRecDepth 100000 in
theorem got5 {w : World} {b : Nat} {s : ByteArray} {a : Nat} {f : Int} (h : Rd w b s a f) (hs : s.size ≤ 140737488351232) (i : It) (hi : i.ok) (hk : i.kd = 5) : Calls Try.prog 17 #[.pointer (some ⟨b, 0, none⟩), i.val] w fun e w' => ∃ r : Bool, e = .returned (.bool r) ∧ ((gotS i s a f).1 → r = true) ∧ Rd w' b s (gotS i s a f).2.1 (gotS i s a f).2.2 ∧ Kept (fun k => k = b) w w' := by
  have hb0 : Below w.heap.size w (w.alloc i.cells) := (Below.refl _ _).alloc (Nat.le_refl _) _
  have hP := h.below hb0
  have hbl := h.lt
  have HI : Hid (ItAt (w.alloc i.cells) w.heap.size 0 i) := ItAt.new w i
  have HK0 : Hid (Kept (fun k => k = b) w (w.alloc i.cells)) := Kept.of_below hb0
  rw [show gotS i s a f = ((rawS s a f (i.s.size : Int)).1 = i.s, (rawS s a f (i.s.size : Int)).2) by unfold gotS; rw [if_neg (by rw [hk]; decide), if_neg (by rw [hk]; decide), if_neg (by rw [hk]; decide), if_pos hk]]
  have CA : Hid (∀ w1 : World, Rd w1 b s a f → Calls Try.prog 25 #[.pointer (some ⟨b, 0, none⟩), .int .i64 (i.s.size : Int)] w1 fun e w' => e = .returned (.string (rawS s a f (i.s.size : Int)).1) ∧ Rd w' b s (rawS s a f (i.s.size : Int)).2.1 (rawS s a f (i.s.size : Int)).2.2 ∧ Kept (fun k => k = b) w1 w') := fun w1 h1 => a25 h1 hs (i.s.size : Int)
  have HR0 : Hid (Rd (w.alloc i.cells) b s a f) := hP
  have hwb : ¬ w.heap.size = b := by omega
  have hk1 : (i.kd == 5) = true := by simpa using hk
  have hne : ∀ j : Int, j ≠ 5 → (i.kd == j) = false := fun j hj => by rw [hk]; simpa using fun e => hj e.symm
  have hk_1 := hne 1 (by decide)
  have hk_2 := hne 2 (by decide)
  have hk_3 := hne 3 (by decide)
  have hk_4 := hne 4 (by decide)
  clear hne hk
  clear h hP hi hb0 hbl hs
  generalize (rawS s a f (i.s.size : Int)).1 = V at *
  generalize (rawS s a f (i.s.size : Int)).2 = AG at *
  obtain ⟨A, G⟩ := AG
  simp only at CA
  unfold It.val
  unfold It.cells at *
  obtain ⟨c0, c1, c2, c3, c4, c5, c6⟩ := id HI.out
  simp only [Nat.zero_add] at c1 c2 c3 c4 c5 c6
  go_enter Try.func17, Try.ntmps17
  go_wp2_with fail
  generalize w.alloc (.cells #[.bool i.o, .int .i64 i.kd, .int .u64 i.n, .int .i64 i.k, .string i.s, .int .u64 (hiOf i.x), .int .u64 (loOf i.x)] 36) = W1 at *
  have C : Hid (Calls Try.prog 25 #[.pointer (some ⟨b, 0, none⟩), .int .i64 (i.s.size : Int)] W1.drew fun e w' => e = .returned (.string V) ∧ Hid (Rd w' b s A G) ∧ Hid (Kept (fun k => k = b) w w') ∧ w'.cell? ⟨w.heap.size, 4, none⟩ = some (.string i.s) ∧ True) := by
    refine (CA.out W1.drew HR0.out).mono ?_
    rintro e w' ⟨rfl, hF, hk⟩
    have hk' : Kept (fun k => k = b) W1 w' := ⟨hk.os, hk.tape, hk.output, hk.size, hk.block⟩
    exact ⟨rfl, hF, HK0.out.trans hk', hk'.cell c4 hwb, trivial⟩
  clear CA HR0 HK0 HI hwb
  go_region_held3 (fun w' => w'.cell? ⟨w.heap.size, 4, none⟩ = some (.string i.s) ∧ True)
    (first | go_keep | exact hkp)
    (first | (go_at_call 25; refine C.out.mono ?_; rintro e w3 ⟨rfl, HR, HK, hkp⟩))
  go_wp2
  go_ret
  exact ⟨_, rfl, fun h => by subst h; simp, HR.out, HK.out⟩

set_option maxHeartbeats 4000000 in
set_option maxRecDepth 100000 in
theorem got4 {w : World} {b : Nat} {s : ByteArray} {a : Nat} {f : Int} (h : Rd w b s a f) (hs : s.size ≤ 140737488351232) (i : It) (hi : i.ok) (hk : i.kd = 4) : Calls Try.prog 17 #[.pointer (some ⟨b, 0, none⟩), i.val] w fun e w' => ∃ r : Bool, e = .returned (.bool r) ∧ ((gotS i s a f).1 → r = true) ∧ Rd w' b s (gotS i s a f).2.1 (gotS i s a f).2.2 ∧ Kept (fun k => k = b) w w' := by
  have hb0 : Below w.heap.size w (w.alloc i.cells) := (Below.refl _ _).alloc (Nat.le_refl _) _
  have hP := h.below hb0
  have hbl := h.lt
  have HI : Hid (ItAt (w.alloc i.cells) w.heap.size 0 i) := ItAt.new w i
  have HK0 : Hid (Kept (fun k => k = b) w (w.alloc i.cells)) := Kept.of_below hb0
  rw [show gotS i s a f = ((bitsS s a f 64).1 = i.lo, (bitsS s a f 64).2) by unfold gotS; rw [if_neg (by rw [hk]; decide), if_neg (by rw [hk]; decide), if_neg (by rw [hk]; decide), if_neg (by rw [hk]; decide), if_pos hk]]
  have CA : Hid (∀ w1 : World, Rd w1 b s a f → Calls Try.prog 24 #[.pointer (some ⟨b, 0, none⟩), .int .i64 64] w1 fun e w' => e = .returned (.agg #[.int .u64 (hiOf (bitsS s a f 64).1), .int .u64 (loOf (bitsS s a f 64).1)]) ∧ Rd w' b s (bitsS s a f 64).2.1 (bitsS s a f 64).2.2 ∧ Kept (fun k => k = b) w1 w') := fun w1 h1 => a24 h1 hs 64
  have HR0 : Hid (Rd (w.alloc i.cells) b s a f) := hP
  have hwb : ¬ w.heap.size = b := by omega
  have hk1 : (i.kd == 4) = true := by simpa using hk
  have hne : ∀ j : Int, j ≠ 4 → (i.kd == j) = false := fun j hj => by rw [hk]; simpa using fun e => hj e.symm
  have hk_1 := hne 1 (by decide)
  have hk_2 := hne 2 (by decide)
  have hk_3 := hne 3 (by decide)
  have hk_5 := hne 5 (by decide)
  clear hne hk
  clear h hP hi hb0 hbl hs
  generalize (bitsS s a f 64).1 = V at *
  generalize (bitsS s a f 64).2 = AG at *
  obtain ⟨A, G⟩ := AG
  simp only at CA
  have H3 : (hiOf V = 0 ∧ loOf V = loOf i.x) ∨ (hiOf V = 0 ∧ ¬ loOf V = loOf i.x) ∨ ¬ hiOf V = 0 := by
    by_cases e1 : hiOf V = 0
    · by_cases e2 : loOf V = loOf i.x
      · exact .inl ⟨e1, e2⟩
      · exact .inr (.inl ⟨e1, e2⟩)
    · exact .inr (.inr e1)
  have HN : Hid (V = i.lo → hiOf V = 0 ∧ loOf V = loOf i.x) := lo_parts
  generalize hiOf V = p at *
  generalize loOf V = q at *
  rcases H3 with ⟨rfl, rfl⟩ | ⟨rfl, hq⟩ | hp
  · unfold It.val
    unfold It.cells at *
    obtain ⟨c0, c1, c2, c3, c4, c5, c6⟩ := id HI.out
    simp only [Nat.zero_add] at c1 c2 c3 c4 c5 c6
    go_enter Try.func17, Try.ntmps17
    go_wp2_with fail
    generalize w.alloc (.cells #[.bool i.o, .int .i64 i.kd, .int .u64 i.n, .int .i64 i.k, .string i.s, .int .u64 (hiOf i.x), .int .u64 (loOf i.x)] 36) = W1 at *
    have C : Hid (Calls Try.prog 24 #[.pointer (some ⟨b, 0, none⟩), .int .i64 64] W1.drew fun e w' => e = .returned (.agg #[.int .u64 0, .int .u64 (loOf i.x)]) ∧ Hid (Rd w' b s A G) ∧ Hid (Kept (fun k => k = b) w w') ∧ w'.cell? ⟨w.heap.size, 6, none⟩ = some (.int .u64 (loOf i.x)) ∧ True) := by
      refine (CA.out W1.drew HR0.out).mono ?_
      rintro e w' ⟨rfl, hF, hk⟩
      have hk' : Kept (fun k => k = b) W1 w' := ⟨hk.os, hk.tape, hk.output, hk.size, hk.block⟩
      exact ⟨rfl, hF, HK0.out.trans hk', hk'.cell c6 hwb, trivial⟩
    clear CA HR0 HK0 HI hwb
    go_region_held3 (fun w' => w'.cell? ⟨w.heap.size, 6, none⟩ = some (.int .u64 (loOf i.x)) ∧ True)
      (first | go_keep | exact hkp)
      (first | (go_at_call 24; refine C.out.mono ?_; rintro e w3 ⟨rfl, HR, HK, hkp⟩))
    go_wp2
    go_ret
    exact ⟨_, rfl, fun h => rfl, HR.out, HK.out⟩
  · have hq' : (q == loOf i.x) = false := by simpa using hq
    unfold It.val
    unfold It.cells at *
    obtain ⟨c0, c1, c2, c3, c4, c5, c6⟩ := id HI.out
    simp only [Nat.zero_add] at c1 c2 c3 c4 c5 c6
    go_enter Try.func17, Try.ntmps17
    go_wp2_with fail
    generalize w.alloc (.cells #[.bool i.o, .int .i64 i.kd, .int .u64 i.n, .int .i64 i.k, .string i.s, .int .u64 (hiOf i.x), .int .u64 (loOf i.x)] 36) = W1 at *
    have C : Hid (Calls Try.prog 24 #[.pointer (some ⟨b, 0, none⟩), .int .i64 64] W1.drew fun e w' => e = .returned (.agg #[.int .u64 0, .int .u64 q]) ∧ Hid (Rd w' b s A G) ∧ Hid (Kept (fun k => k = b) w w') ∧ w'.cell? ⟨w.heap.size, 6, none⟩ = some (.int .u64 (loOf i.x)) ∧ True) := by
      refine (CA.out W1.drew HR0.out).mono ?_
      rintro e w' ⟨rfl, hF, hk⟩
      have hk' : Kept (fun k => k = b) W1 w' := ⟨hk.os, hk.tape, hk.output, hk.size, hk.block⟩
      exact ⟨rfl, hF, HK0.out.trans hk', hk'.cell c6 hwb, trivial⟩
    clear CA HR0 HK0 HI hwb
    go_region_held3 (fun w' => w'.cell? ⟨w.heap.size, 6, none⟩ = some (.int .u64 (loOf i.x)) ∧ True)
      (first | go_keep | exact hkp)
      (first | (go_at_call 24; refine C.out.mono ?_; rintro e w3 ⟨rfl, HR, HK, hkp⟩))
    go_wp2
    go_ret
    exact ⟨_, rfl, fun h => absurd (HN.out h).2 hq, HR.out, HK.out⟩
  · have hp' : (p == 0) = false := by simpa using hp
    unfold It.val
    unfold It.cells at *
    obtain ⟨c0, c1, c2, c3, c4, c5, c6⟩ := id HI.out
    simp only [Nat.zero_add] at c1 c2 c3 c4 c5 c6
    go_enter Try.func17, Try.ntmps17
    go_wp2_with fail
    generalize w.alloc (.cells #[.bool i.o, .int .i64 i.kd, .int .u64 i.n, .int .i64 i.k, .string i.s, .int .u64 (hiOf i.x), .int .u64 (loOf i.x)] 36) = W1 at *
    have C : Hid (Calls Try.prog 24 #[.pointer (some ⟨b, 0, none⟩), .int .i64 64] W1.drew fun e w' => e = .returned (.agg #[.int .u64 p, .int .u64 q]) ∧ Hid (Rd w' b s A G) ∧ Hid (Kept (fun k => k = b) w w') ∧ w'.cell? ⟨w.heap.size, 6, none⟩ = some (.int .u64 (loOf i.x)) ∧ True) := by
      refine (CA.out W1.drew HR0.out).mono ?_
      rintro e w' ⟨rfl, hF, hk⟩
      have hk' : Kept (fun k => k = b) W1 w' := ⟨hk.os, hk.tape, hk.output, hk.size, hk.block⟩
      exact ⟨rfl, hF, HK0.out.trans hk', hk'.cell c6 hwb, trivial⟩
    clear CA HR0 HK0 HI hwb
    go_region_held3 (fun w' => w'.cell? ⟨w.heap.size, 6, none⟩ = some (.int .u64 (loOf i.x)) ∧ True)
      (first | go_keep | exact hkp)
      (first | (go_at_call 24; refine C.out.mono ?_; rintro e w3 ⟨rfl, HR, HK, hkp⟩))
    go_wp2
    go_ret
    exact ⟨_, rfl, fun h => absurd (HN.out h).1 hp, HR.out, HK.out⟩
theorem got_any {w : World} {b : Nat} {s : ByteArray} {a : Nat} {f : Int} (h : Rd w b s a f) (hs : s.size ≤ 140737488351232) (i : It) (hi : i.ok) : Calls Try.prog 17 #[.pointer (some ⟨b, 0, none⟩), i.val] w fun e w' => ∃ r : Bool, e = .returned (.bool r) ∧ ((gotS i s a f).1 → r = true) ∧ Rd w' b s (gotS i s a f).2.1 (gotS i s a f).2.2 ∧ Kept (fun k => k = b) w w' := by
  by_cases k1 : i.kd = 1
  · exact got1 h hs i hi k1
  by_cases k2 : i.kd = 2
  · by_cases hf : i.fit = true
    · by_cases h8 : i.k < 8
      · exact got2a h hs i hi k2 hf h8
      · exact got2b h hs i hi k2 hf h8
    · rcases not_fit hi hf with q | q | ⟨q1, q2, q3⟩
      · exact got2c h hs i hi k2 hf q
      · exact got2d h hs i hi k2 hf q
      · exact got2e h hs i hi k2 hf q1 q2 q3
  by_cases k3 : i.kd = 3
  · exact got3 h hs i hi k3
  by_cases k4 : i.kd = 4
  · exact got4 h hs i hi k4
  by_cases k5 : i.kd = 5
  · exact got5 h hs i hi k5
  exact got0 h hs i hi k1 k2 k3 k4 k5
end Go.Proofs.Ytdpddlaedffmdaa
