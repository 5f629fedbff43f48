/- One thing that is read, on a reader and on the document's reader, side by side: the same answer, the same place, the same error; it answers true. -/
import Derived.Test.YtdpddlaedffmdaaRt2
namespace Go.Proofs.Ytdpddlaedffmdaa
open Go.RowKit
set_option linter.unusedVariables false
set_option linter.unusedSimpArgs false

/-- A reader and the document's, at the same place with the same error, apart in memory. -/
def Both (w : World) (b c : Nat) (s : ByteArray) (a : Nat) (f : Int) : Prop := Rd w b s a f ∧ RF w c s a f ∧ ¬ b = c
def two (b c : Nat) : Nat → Prop := fun k => k = b ∨ k = c
theorem Both.kept {S : Nat → Prop} {w w' : World} {b c : Nat} {s : ByteArray} {a : Nat} {f : Int} (h : Both w b c s a f) (hk : Kept S w w') (hb : ¬ S b) (hc : ¬ S c) : Both w' b c s a f := ⟨h.1.kept hk hb, h.2.1.kept hk hc, h.2.2⟩
theorem Both.below {w w' : World} {b c : Nat} {s : ByteArray} {a : Nat} {f : Int} (h : Both w b c s a f) (hb : Below w.heap.size w w') : Both w' b c s a f := ⟨h.1.below hb, h.2.1.below hb, h.2.2⟩
/-- What a step leaves. -/
def BLeft (b c : Nat) (s : ByteArray) (w w' : World) : Prop := ∃ a f, Both w' b c s a f ∧ Kept (two b c) w w'
theorem two_left {b c : Nat} {w w1 : World} (h : Kept (fun k => k = b) w w1) : Kept (two b c) w w1 := h.mono (fun k _ h => .inl h)
theorem two_right {b c : Nat} {w w1 : World} (h : Kept (fun k => k = c) w w1) : Kept (two b c) w w1 := h.mono (fun k _ h => .inr h)
/-- One thing that is read. -/
structure Wa where
  o : Bool
  kd : Int
  n : Nat
  k : Int
def Wa.val (i : Wa) : Value := .agg #[.bool i.o, .int .i64 i.kd, .int .u64 i.n, .int .i64 i.k]
def Wa.cells (i : Wa) : Obj := .cells #[.bool i.o, .int .i64 i.kd, .int .u64 i.n, .int .i64 i.k] 45
def WaAt (w : World) (b p : Nat) (i : Wa) : Prop :=
  w.cell? ⟨b, p, none⟩ = some (.bool i.o) ∧ w.cell? ⟨b, p + 1, none⟩ = some (.int .i64 i.kd) ∧ w.cell? ⟨b, p + 2, none⟩ = some (.int .u64 i.n) ∧ w.cell? ⟨b, p + 3, none⟩ = some (.int .i64 i.k)
def Wa.ok (i : Wa) : Prop := -9223372036854775808 ≤ i.kd ∧ i.kd ≤ 9223372036854775807 ∧ -9223372036854775808 ≤ i.k ∧ i.k ≤ 9223372036854775807
theorem WaAt.new (w : World) (i : Wa) : WaAt (w.alloc i.cells) w.heap.size 0 i := by
  unfold Wa.cells; refine ⟨?_, ?_, ?_, ?_⟩ <;> simp
theorem WaAt.kept {S : Nat → Prop} {w w' : World} {b p : Nat} {i : Wa} (h : WaAt w b p i) (hk : Kept S w w') (hb : ¬ S b) : WaAt w' b p i := by
  obtain ⟨h0, h1, h2, h3⟩ := h
  exact ⟨hk.cell h0 hb, hk.cell h1 hb, hk.cell h2 hb, hk.cell h3 hb⟩
theorem fault_both {w : World} {b c : Nat} {s : ByteArray} {a : Nat} {f : Int} (h : Both w b c s a f) : Calls Try.prog 18 #[.pointer (some ⟨b, 0, none⟩)] w fun e w' => e = .returned (.tuple #[.int .i64 f, .int .i64 (faultAt a f)]) ∧ Both w' b c s a f ∧ Kept (two b c) w w' :=
  (fault_any h.1).mono (by rintro e w' ⟨rfl, n, rfl⟩; exact ⟨rfl, h, (Kept.refl _ _).drewN _⟩)
theorem end_both {w : World} {b c : Nat} {s : ByteArray} {a : Nat} {f : Int} (h : Both w b c s a f) (hs : s.size ≤ 140737488351232) : Calls Try.prog 20 #[.pointer (some ⟨b, 0, none⟩)] w fun e w' => e = .returned (.int .i64 (endR s a f)) ∧ Both w' b c s a f ∧ Kept (two b c) w w' :=
  (end_any h.1 hs).mono (by rintro e w' ⟨rfl, n, rfl⟩; exact ⟨rfl, h, (Kept.refl _ _).drewN _⟩)

set_option maxHeartbeats 4000000 in
set_option maxRecDepth 100000 in
theorem reads0 {w : World} {b c : Nat} {s : ByteArray} {a : Nat} {f : Int} (h : Both w b c s a f) (hs : s.size ≤ 140737488351232) (i : Wa) (hi : i.ok) (k1 : ¬ i.kd = 1) (k2 : ¬ i.kd = 2) (k3 : ¬ i.kd = 3) (k4 : ¬ i.kd = 4) (k5 : ¬ i.kd = 5) : Calls Try.prog 13 #[.pointer (some ⟨b, 0, none⟩), .pointer (some ⟨c, 0, none⟩), i.val] w fun e w' => e = .returned (.bool true) ∧ BLeft b c s w w' := by
  have hb0 : Below w.heap.size w (w.alloc i.cells) := (Below.refl _ _).alloc (Nat.le_refl _) _
  have hP := h.below hb0
  have HI : Hid (WaAt (w.alloc i.cells) w.heap.size 0 i) := WaAt.new w i
  have hbl : b < w.heap.size := h.1.lt
  have hcl : c < w.heap.size := h.2.1.lt
  have hbc := h.2.2
  have hK0 : Kept (two b c) w (w.alloc i.cells) := Kept.of_below hb0
  have q1 : (i.kd == 1) = false := by simpa using k1
  have q2 : (i.kd == 2) = false := by simpa using k2
  have q3 : (i.kd == 3) = false := by simpa using k3
  have q4 : (i.kd == 4) = false := by simpa using k4
  have q5 : (i.kd == 5) = false := by simpa using k5
  have HB3 : Hid (Both (w.alloc i.cells) b c s a f) := hP
  have HK3 : Hid (Kept (two b c) w (w.alloc i.cells)) := hK0
  obtain ⟨c0, c1, c2, c3⟩ := id HI.out
  simp only [Nat.zero_add] at c1 c2 c3
  unfold Wa.val
  unfold Wa.cells at *
  clear h hP hi hbl hcl hb0 hK0 HI
  generalize hA : a = A at *
  generalize hG : f = G at *
  clear hA hG
  go_enter Try.func13, Try.ntmps13
  go_wp2_with fail
  generalize (w.alloc (.cells #[.bool i.o, .int .i64 i.kd, .int .u64 i.n, .int .i64 i.k] 45)) = w3 at *
  have CF : Hid (Calls Try.prog 18 #[.pointer (some ⟨b, 0, none⟩)] w3 fun e w' => e = .returned (.tuple #[.int .i64 G, .int .i64 (faultAt A G)]) ∧ Both w' b c s A G ∧ Kept (two b c) w3 w') := fault_both HB3.out
  have CE : Hid (∀ w, Both w b c s A G → Calls Try.prog 20 #[.pointer (some ⟨b, 0, none⟩)] w fun e w' => e = .returned (.int .i64 (endR s A G)) ∧ Both w' b c s A G ∧ Kept (two b c) w w') := fun w h => end_both h hs
  refine CF.out.mono ?_
  rintro e w4 ⟨rfl, hB4, hK4⟩
  go_wp2_with fail
  refine (CE.out _ hB4).mono ?_
  rintro e w5 ⟨rfl, hB5, hK5⟩
  have HK5 : Hid (Kept (two b c) w w5) := HK3.out.trans (hK4.trans hK5)
  have HB5 : Hid (Both w5 b c s A G) := hB5
  obtain ⟨p0, p1, p2, p3, p4, p5, p6, p7⟩ := id hB5.2.1
  clear CF CE hB4 hK4 hK5 hB5 HK3 HB3
  have C19 : Hid (∀ n, Calls Try.prog 19 #[.pointer (some ⟨b, 0, none⟩)] (w5.drewN n) fun e w' => e = .returned (.int .i64 A) ∧ w' = w5.drewN n) := fun n => at_any (w := w5.drewN n) HB5.out.1
  have C46 : Hid (∀ n, Calls Try.prog 46 #[.pointer (some ⟨c, 0, none⟩)] (w5.drewN n) fun e w' => e = .returned (.int .i64 (endR s A G)) ∧ ∃ m, w' = (w5.drewN n).drewN m) := fun n => rend_any (w := w5.drewN n) HB5.out.2.1
  have HE : Hid (∀ n, BLeft b c s w (w5.drewN n)) := fun n => ⟨A, G, HB5.out, HK5.out.drewN n⟩
  generalize endR s A G = en at *
  generalize faultAt A G = fa at *
  clear HB5 HK5 hs
  go_wp2
  go_quiet (first | (go_at_call 19; refine Calls.quiet_of_same (C19.out _)) | (go_at_call 46; refine Calls.quiet_of (C46.out _)))
  go_wp2
  go_ret
  exact ⟨by simp, HE.out _⟩

set_option maxHeartbeats 4000000 in
set_option maxRecDepth 100000 in
theorem reads1 {w : World} {b c : Nat} {s : ByteArray} {a : Nat} {f : Int} (h : Both w b c s a f) (hs : s.size ≤ 140737488351232) (i : Wa) (hi : i.ok) (hk : i.kd = 1) : Calls Try.prog 13 #[.pointer (some ⟨b, 0, none⟩), .pointer (some ⟨c, 0, none⟩), i.val] w fun e w' => e = .returned (.bool true) ∧ BLeft b c s w w' := by
  have hb0 : Below w.heap.size w (w.alloc i.cells) := (Below.refl _ _).alloc (Nat.le_refl _) _
  have hP := h.below hb0
  have HI : Hid (WaAt (w.alloc i.cells) w.heap.size 0 i) := WaAt.new w i
  have hbl : b < w.heap.size := h.1.lt
  have hcl : c < w.heap.size := h.2.1.lt
  have hbc := h.2.2
  have hK0 : Kept (two b c) w (w.alloc i.cells) := Kept.of_below hb0
  have CA : Hid (Calls Try.prog 21 #[.pointer (some ⟨b, 0, none⟩), .int .u64 i.n] (w.alloc i.cells) fun e w' => e = .returned (.int .u64 (uintS s a f i.n).1) ∧ Rd w' b s (uintS s a f i.n).2.1 (uintS s a f i.n).2.2 ∧ Kept (fun k => k = b) (w.alloc i.cells) w') := a21 hP.1 hs i.n
  have CX : Hid (∀ w1 : World, RF w1 c s a f → Calls Try.prog 41 #[.pointer (some ⟨c, 0, none⟩), .int .u64 i.n] w1 fun e w' => e = .returned (.int .u64 (uintS s a f i.n).1) ∧ RF w' c s (uintS s a f i.n).2.1 (uintS s a f i.n).2.2 ∧ Kept (fun k => k = c) w1 w') := fun w1 h1 => x41 h1 hs i.n
  have HF : Hid (∀ w1 : World, Kept (fun k => k = b) (w.alloc i.cells) w1 → RF w1 c s a f) := fun w1 h1 => hP.2.1.kept h1 (fun e => hbc e.symm)
  have HIL : Hid (∀ w1 : World, Kept (fun k => k = b) (w.alloc i.cells) w1 → WaAt w1 w.heap.size 0 i) := fun w1 h1 => HI.out.kept h1 (by show ¬ w.heap.size = b; omega)
  have HK1 : Hid (Kept (two b c) w (w.alloc i.cells)) := hK0
  have hk1 : (i.kd == 1) = true := by simpa using hk
  have hne : ∀ j : Int, j ≠ 1 → (i.kd == j) = false := fun j hj => by rw [hk]; simpa using fun e => hj e.symm
  have hk_2 := hne 2 (by decide)
  have hk_3 := hne 3 (by decide)
  have hk_4 := hne 4 (by decide)
  have hk_5 := hne 5 (by decide)
  obtain ⟨c0, c1, c2, c3⟩ := id HI.out
  simp only [Nat.zero_add] at c1 c2 c3
  unfold Wa.val
  unfold Wa.cells at *
  clear h hP hne hk hi hb0 hK0 HI
  generalize (uintS s a f i.n).1 = V at *
  generalize (uintS s a f i.n).2.1 = A at *
  generalize (uintS s a f i.n).2.2 = G at *
  go_enter Try.func13, Try.ntmps13
  go_wp2_with fail
  generalize (w.alloc (.cells #[.bool i.o, .int .i64 i.kd, .int .u64 i.n, .int .i64 i.k] 45)) = W1 at *
  refine CA.out.mono ?_
  rintro e w2 ⟨rfl, hR2, hk2⟩
  obtain ⟨d0, d1, d2, d3⟩ := HIL.out _ hk2
  simp only [Nat.zero_add] at d1 d2 d3
  have HF2 : Hid (RF w2 c s a f) := HF.out _ hk2
  have HR2 : Hid (Rd w2 b s A G) := hR2
  have HK2 : Hid (Kept (two b c) w w2) := HK1.out.trans (two_left hk2)
  clear c0 c1 c2 c3 hk2 hR2 HF HIL HK1 CA
  go_wp2_with fail
  refine (CX.out _ HF2.out).mono ?_
  rintro e w3 ⟨rfl, hF3, hk3⟩
  have HB3 : Hid (Both w3 b c s A G) := ⟨HR2.out.kept hk3 hbc, hF3, hbc⟩
  have HK3 : Hid (Kept (two b c) w w3) := HK2.out.trans (two_right hk3)
  clear CX HR2 HK2 HF2 hF3 hk3 d0 d1 d2 d3 hbl hcl
  -- the end: where both stand
  have CF : Hid (Calls Try.prog 18 #[.pointer (some ⟨b, 0, none⟩)] w3 fun e w' => e = .returned (.tuple #[.int .i64 G, .int .i64 (faultAt A G)]) ∧ Both w' b c s A G ∧ Kept (two b c) w3 w') := fault_both HB3.out
  have CE : Hid (∀ w, Both w b c s A G → Calls Try.prog 20 #[.pointer (some ⟨b, 0, none⟩)] w fun e w' => e = .returned (.int .i64 (endR s A G)) ∧ Both w' b c s A G ∧ Kept (two b c) w w') := fun w h => end_both h hs
  go_wp2_with fail
  refine CF.out.mono ?_
  rintro e w4 ⟨rfl, hB4, hK4⟩
  go_wp2_with fail
  refine (CE.out _ hB4).mono ?_
  rintro e w5 ⟨rfl, hB5, hK5⟩
  have HK5 : Hid (Kept (two b c) w w5) := HK3.out.trans (hK4.trans hK5)
  have HB5 : Hid (Both w5 b c s A G) := hB5
  obtain ⟨p0, p1, p2, p3, p4, p5, p6, p7⟩ := id hB5.2.1
  clear CF CE hB4 hK4 hK5 hB5 HK3 HB3
  have C19 : Hid (∀ n, Calls Try.prog 19 #[.pointer (some ⟨b, 0, none⟩)] (w5.drewN n) fun e w' => e = .returned (.int .i64 A) ∧ w' = w5.drewN n) := fun n => at_any (w := w5.drewN n) HB5.out.1
  have C46 : Hid (∀ n, Calls Try.prog 46 #[.pointer (some ⟨c, 0, none⟩)] (w5.drewN n) fun e w' => e = .returned (.int .i64 (endR s A G)) ∧ ∃ m, w' = (w5.drewN n).drewN m) := fun n => rend_any (w := w5.drewN n) HB5.out.2.1
  have HE : Hid (∀ n, BLeft b c s w (w5.drewN n)) := fun n => ⟨A, G, HB5.out, HK5.out.drewN n⟩
  generalize endR s A G = en at *
  generalize faultAt A G = fa at *
  clear HB5 HK5 hs
  go_wp2
  go_quiet (first | (go_at_call 19; refine Calls.quiet_of_same (C19.out _)) | (go_at_call 46; refine Calls.quiet_of (C46.out _)))
  go_wp2
  go_ret
  exact ⟨by simp, HE.out _⟩

set_option maxHeartbeats 4000000 in
set_option maxRecDepth 100000 in
theorem reads2 {w : World} {b c : Nat} {s : ByteArray} {a : Nat} {f : Int} (h : Both w b c s a f) (hs : s.size ≤ 140737488351232) (i : Wa) (hi : i.ok) (hk : i.kd = 2) : Calls Try.prog 13 #[.pointer (some ⟨b, 0, none⟩), .pointer (some ⟨c, 0, none⟩), i.val] w fun e w' => e = .returned (.bool true) ∧ BLeft b c s w w' := by
  have hb0 : Below w.heap.size w (w.alloc i.cells) := (Below.refl _ _).alloc (Nat.le_refl _) _
  have hP := h.below hb0
  have HI : Hid (WaAt (w.alloc i.cells) w.heap.size 0 i) := WaAt.new w i
  have hbl : b < w.heap.size := h.1.lt
  have hcl : c < w.heap.size := h.2.1.lt
  have hbc := h.2.2
  have hK0 : Kept (two b c) w (w.alloc i.cells) := Kept.of_below hb0
  have CA : Hid (Calls Try.prog 22 #[.pointer (some ⟨b, 0, none⟩), .int .i64 i.k] (w.alloc i.cells) fun e w' => e = .returned (.int .u64 (fixS s a f i.k).1) ∧ Rd w' b s (fixS s a f i.k).2.1 (fixS s a f i.k).2.2 ∧ Kept (fun k => k = b) (w.alloc i.cells) w') := a22 hP.1 hs i.k
  have CX : Hid (∀ w1 : World, RF w1 c s a f → Calls Try.prog 42 #[.pointer (some ⟨c, 0, none⟩), .int .i64 i.k] w1 fun e w' => e = .returned (.int .u64 (fixS s a f i.k).1) ∧ RF w' c s (fixS s a f i.k).2.1 (fixS s a f i.k).2.2 ∧ Kept (fun k => k = c) w1 w') := fun w1 h1 => x42 h1 hs i.k
  have HF : Hid (∀ w1 : World, Kept (fun k => k = b) (w.alloc i.cells) w1 → RF w1 c s a f) := fun w1 h1 => hP.2.1.kept h1 (fun e => hbc e.symm)
  have HIL : Hid (∀ w1 : World, Kept (fun k => k = b) (w.alloc i.cells) w1 → WaAt w1 w.heap.size 0 i) := fun w1 h1 => HI.out.kept h1 (by show ¬ w.heap.size = b; omega)
  have HK1 : Hid (Kept (two b c) w (w.alloc i.cells)) := hK0
  have hk1 : (i.kd == 2) = true := by simpa using hk
  have hne : ∀ j : Int, j ≠ 2 → (i.kd == j) = false := fun j hj => by rw [hk]; simpa using fun e => hj e.symm
  have hk_1 := hne 1 (by decide)
  have hk_3 := hne 3 (by decide)
  have hk_4 := hne 4 (by decide)
  have hk_5 := hne 5 (by decide)
  obtain ⟨c0, c1, c2, c3⟩ := id HI.out
  simp only [Nat.zero_add] at c1 c2 c3
  unfold Wa.val
  unfold Wa.cells at *
  clear h hP hne hk hi hb0 hK0 HI
  generalize (fixS s a f i.k).1 = V at *
  generalize (fixS s a f i.k).2.1 = A at *
  generalize (fixS s a f i.k).2.2 = G at *
  go_enter Try.func13, Try.ntmps13
  go_wp2_with fail
  generalize (w.alloc (.cells #[.bool i.o, .int .i64 i.kd, .int .u64 i.n, .int .i64 i.k] 45)) = W1 at *
  refine CA.out.mono ?_
  rintro e w2 ⟨rfl, hR2, hk2⟩
  obtain ⟨d0, d1, d2, d3⟩ := HIL.out _ hk2
  simp only [Nat.zero_add] at d1 d2 d3
  have HF2 : Hid (RF w2 c s a f) := HF.out _ hk2
  have HR2 : Hid (Rd w2 b s A G) := hR2
  have HK2 : Hid (Kept (two b c) w w2) := HK1.out.trans (two_left hk2)
  clear c0 c1 c2 c3 hk2 hR2 HF HIL HK1 CA
  go_wp2_with fail
  refine (CX.out _ HF2.out).mono ?_
  rintro e w3 ⟨rfl, hF3, hk3⟩
  have HB3 : Hid (Both w3 b c s A G) := ⟨HR2.out.kept hk3 hbc, hF3, hbc⟩
  have HK3 : Hid (Kept (two b c) w w3) := HK2.out.trans (two_right hk3)
  clear CX HR2 HK2 HF2 hF3 hk3 d0 d1 d2 d3 hbl hcl
  -- the end: where both stand
  have CF : Hid (Calls Try.prog 18 #[.pointer (some ⟨b, 0, none⟩)] w3 fun e w' => e = .returned (.tuple #[.int .i64 G, .int .i64 (faultAt A G)]) ∧ Both w' b c s A G ∧ Kept (two b c) w3 w') := fault_both HB3.out
  have CE : Hid (∀ w, Both w b c s A G → Calls Try.prog 20 #[.pointer (some ⟨b, 0, none⟩)] w fun e w' => e = .returned (.int .i64 (endR s A G)) ∧ Both w' b c s A G ∧ Kept (two b c) w w') := fun w h => end_both h hs
  go_wp2_with fail
  refine CF.out.mono ?_
  rintro e w4 ⟨rfl, hB4, hK4⟩
  go_wp2_with fail
  refine (CE.out _ hB4).mono ?_
  rintro e w5 ⟨rfl, hB5, hK5⟩
  have HK5 : Hid (Kept (two b c) w w5) := HK3.out.trans (hK4.trans hK5)
  have HB5 : Hid (Both w5 b c s A G) := hB5
  obtain ⟨p0, p1, p2, p3, p4, p5, p6, p7⟩ := id hB5.2.1
  clear CF CE hB4 hK4 hK5 hB5 HK3 HB3
  have C19 : Hid (∀ n, Calls Try.prog 19 #[.pointer (some ⟨b, 0, none⟩)] (w5.drewN n) fun e w' => e = .returned (.int .i64 A) ∧ w' = w5.drewN n) := fun n => at_any (w := w5.drewN n) HB5.out.1
  have C46 : Hid (∀ n, Calls Try.prog 46 #[.pointer (some ⟨c, 0, none⟩)] (w5.drewN n) fun e w' => e = .returned (.int .i64 (endR s A G)) ∧ ∃ m, w' = (w5.drewN n).drewN m) := fun n => rend_any (w := w5.drewN n) HB5.out.2.1
  have HE : Hid (∀ n, BLeft b c s w (w5.drewN n)) := fun n => ⟨A, G, HB5.out, HK5.out.drewN n⟩
  generalize endR s A G = en at *
  generalize faultAt A G = fa at *
  clear HB5 HK5 hs
  go_wp2
  go_quiet (first | (go_at_call 19; refine Calls.quiet_of_same (C19.out _)) | (go_at_call 46; refine Calls.quiet_of (C46.out _)))
  go_wp2
  go_ret
  exact ⟨by simp, HE.out _⟩

set_option maxHeartbeats 4000000 in
set_option maxRecDepth 100000 in
theorem reads3 {w : World} {b c : Nat} {s : ByteArray} {a : Nat} {f : Int} (h : Both w b c s a f) (hs : s.size ≤ 140737488351232) (i : Wa) (hi : i.ok) (hk : i.kd = 3) : Calls Try.prog 13 #[.pointer (some ⟨b, 0, none⟩), .pointer (some ⟨c, 0, none⟩), i.val] w fun e w' => e = .returned (.bool true) ∧ BLeft b c s w w' := by
  have hb0 : Below w.heap.size w (w.alloc i.cells) := (Below.refl _ _).alloc (Nat.le_refl _) _
  have hP := h.below hb0
  have HI : Hid (WaAt (w.alloc i.cells) w.heap.size 0 i) := WaAt.new w i
  have hbl : b < w.heap.size := h.1.lt
  have hcl : c < w.heap.size := h.2.1.lt
  have hbc := h.2.2
  have hK0 : Kept (two b c) w (w.alloc i.cells) := Kept.of_below hb0
  have CA : Hid (Calls Try.prog 23 #[.pointer (some ⟨b, 0, none⟩), .int .i64 i.k] (w.alloc i.cells) fun e w' => e = .returned (.string (textS s a f i.k).1) ∧ Rd w' b s (textS s a f i.k).2.1 (textS s a f i.k).2.2 ∧ Kept (fun k => k = b) (w.alloc i.cells) w') := a23 hP.1 hs i.k hi.2.2.2
  have CX : Hid (∀ w1 : World, RF w1 c s a f → Calls Try.prog 43 #[.pointer (some ⟨c, 0, none⟩), .int .i64 i.k] w1 fun e w' => e = .returned (.string (textS s a f i.k).1) ∧ RF w' c s (textS s a f i.k).2.1 (textS s a f i.k).2.2 ∧ Kept (fun k => k = c) w1 w') := fun w1 h1 => x43 h1 hs i.k hi.2.2.2
  have HF : Hid (∀ w1 : World, Kept (fun k => k = b) (w.alloc i.cells) w1 → RF w1 c s a f) := fun w1 h1 => hP.2.1.kept h1 (fun e => hbc e.symm)
  have HIL : Hid (∀ w1 : World, Kept (fun k => k = b) (w.alloc i.cells) w1 → WaAt w1 w.heap.size 0 i) := fun w1 h1 => HI.out.kept h1 (by show ¬ w.heap.size = b; omega)
  have HK1 : Hid (Kept (two b c) w (w.alloc i.cells)) := hK0
  have hk1 : (i.kd == 3) = true := by simpa using hk
  have hne : ∀ j : Int, j ≠ 3 → (i.kd == j) = false := fun j hj => by rw [hk]; simpa using fun e => hj e.symm
  have hk_1 := hne 1 (by decide)
  have hk_2 := hne 2 (by decide)
  have hk_4 := hne 4 (by decide)
  have hk_5 := hne 5 (by decide)
  obtain ⟨c0, c1, c2, c3⟩ := id HI.out
  simp only [Nat.zero_add] at c1 c2 c3
  unfold Wa.val
  unfold Wa.cells at *
  clear h hP hne hk hi hb0 hK0 HI
  generalize (textS s a f i.k).1 = V at *
  generalize (textS s a f i.k).2.1 = A at *
  generalize (textS s a f i.k).2.2 = G at *
  go_enter Try.func13, Try.ntmps13
  go_wp2_with fail
  generalize (w.alloc (.cells #[.bool i.o, .int .i64 i.kd, .int .u64 i.n, .int .i64 i.k] 45)) = W1 at *
  refine CA.out.mono ?_
  rintro e w2 ⟨rfl, hR2, hk2⟩
  obtain ⟨d0, d1, d2, d3⟩ := HIL.out _ hk2
  simp only [Nat.zero_add] at d1 d2 d3
  have HF2 : Hid (RF w2 c s a f) := HF.out _ hk2
  have HR2 : Hid (Rd w2 b s A G) := hR2
  have HK2 : Hid (Kept (two b c) w w2) := HK1.out.trans (two_left hk2)
  clear c0 c1 c2 c3 hk2 hR2 HF HIL HK1 CA
  go_wp2_with fail
  refine (CX.out _ HF2.out).mono ?_
  rintro e w3 ⟨rfl, hF3, hk3⟩
  have HB3 : Hid (Both w3 b c s A G) := ⟨HR2.out.kept hk3 hbc, hF3, hbc⟩
  have HK3 : Hid (Kept (two b c) w w3) := HK2.out.trans (two_right hk3)
  clear CX HR2 HK2 HF2 hF3 hk3 d0 d1 d2 d3 hbl hcl
  -- the end: where both stand
  have CF : Hid (Calls Try.prog 18 #[.pointer (some ⟨b, 0, none⟩)] w3 fun e w' => e = .returned (.tuple #[.int .i64 G, .int .i64 (faultAt A G)]) ∧ Both w' b c s A G ∧ Kept (two b c) w3 w') := fault_both HB3.out
  have CE : Hid (∀ w, Both w b c s A G → Calls Try.prog 20 #[.pointer (some ⟨b, 0, none⟩)] w fun e w' => e = .returned (.int .i64 (endR s A G)) ∧ Both w' b c s A G ∧ Kept (two b c) w w') := fun w h => end_both h hs
  go_wp2_with fail
  refine CF.out.mono ?_
  rintro e w4 ⟨rfl, hB4, hK4⟩
  go_wp2_with fail
  refine (CE.out _ hB4).mono ?_
  rintro e w5 ⟨rfl, hB5, hK5⟩
  have HK5 : Hid (Kept (two b c) w w5) := HK3.out.trans (hK4.trans hK5)
  have HB5 : Hid (Both w5 b c s A G) := hB5
  obtain ⟨p0, p1, p2, p3, p4, p5, p6, p7⟩ := id hB5.2.1
  clear CF CE hB4 hK4 hK5 hB5 HK3 HB3
  have C19 : Hid (∀ n, Calls Try.prog 19 #[.pointer (some ⟨b, 0, none⟩)] (w5.drewN n) fun e w' => e = .returned (.int .i64 A) ∧ w' = w5.drewN n) := fun n => at_any (w := w5.drewN n) HB5.out.1
  have C46 : Hid (∀ n, Calls Try.prog 46 #[.pointer (some ⟨c, 0, none⟩)] (w5.drewN n) fun e w' => e = .returned (.int .i64 (endR s A G)) ∧ ∃ m, w' = (w5.drewN n).drewN m) := fun n => rend_any (w := w5.drewN n) HB5.out.2.1
  have HE : Hid (∀ n, BLeft b c s w (w5.drewN n)) := fun n => ⟨A, G, HB5.out, HK5.out.drewN n⟩
  generalize endR s A G = en at *
  generalize faultAt A G = fa at *
  clear HB5 HK5 hs
  go_wp2
  go_quiet (first | (go_at_call 19; refine Calls.quiet_of_same (C19.out _)) | (go_at_call 46; refine Calls.quiet_of (C46.out _)))
  go_wp2
  go_ret
  exact ⟨by simp, HE.out _⟩

set_option maxHeartbeats 4000000 in
set_option maxRecDepth 100000 in
theorem reads5 {w : World} {b c : Nat} {s : ByteArray} {a : Nat} {f : Int} (h : Both w b c s a f) (hs : s.size ≤ 140737488351232) (i : Wa) (hi : i.ok) (hk : i.kd = 5) : Calls Try.prog 13 #[.pointer (some ⟨b, 0, none⟩), .pointer (some ⟨c, 0, none⟩), i.val] w fun e w' => e = .returned (.bool true) ∧ BLeft b c s w w' := by
  have hb0 : Below w.heap.size w (w.alloc i.cells) := (Below.refl _ _).alloc (Nat.le_refl _) _
  have hP := h.below hb0
  have HI : Hid (WaAt (w.alloc i.cells) w.heap.size 0 i) := WaAt.new w i
  have hbl : b < w.heap.size := h.1.lt
  have hcl : c < w.heap.size := h.2.1.lt
  have hbc := h.2.2
  have hK0 : Kept (two b c) w (w.alloc i.cells) := Kept.of_below hb0
  have CA : Hid (Calls Try.prog 25 #[.pointer (some ⟨b, 0, none⟩), .int .i64 i.k] (w.alloc i.cells) fun e w' => e = .returned (.string (rawS s a f i.k).1) ∧ Rd w' b s (rawS s a f i.k).2.1 (rawS s a f i.k).2.2 ∧ Kept (fun k => k = b) (w.alloc i.cells) w') := a25 hP.1 hs i.k
  have CX : Hid (∀ w1 : World, RF w1 c s a f → Calls Try.prog 45 #[.pointer (some ⟨c, 0, none⟩), .int .i64 i.k] w1 fun e w' => e = .returned (.string (rawS s a f i.k).1) ∧ RF w' c s (rawS s a f i.k).2.1 (rawS s a f i.k).2.2 ∧ Kept (fun k => k = c) w1 w') := fun w1 h1 => x45 h1 hs i.k
  have HF : Hid (∀ w1 : World, Kept (fun k => k = b) (w.alloc i.cells) w1 → RF w1 c s a f) := fun w1 h1 => hP.2.1.kept h1 (fun e => hbc e.symm)
  have HIL : Hid (∀ w1 : World, Kept (fun k => k = b) (w.alloc i.cells) w1 → WaAt w1 w.heap.size 0 i) := fun w1 h1 => HI.out.kept h1 (by show ¬ w.heap.size = b; omega)
  have HK1 : Hid (Kept (two b c) w (w.alloc i.cells)) := hK0
  have hk1 : (i.kd == 5) = true := by simpa using hk
  have hne : ∀ j : Int, j ≠ 5 → (i.kd == j) = false := fun j hj => by rw [hk]; simpa using fun e => hj e.symm
  have hk_1 := hne 1 (by decide)
  have hk_2 := hne 2 (by decide)
  have hk_3 := hne 3 (by decide)
  have hk_4 := hne 4 (by decide)
  obtain ⟨c0, c1, c2, c3⟩ := id HI.out
  simp only [Nat.zero_add] at c1 c2 c3
  unfold Wa.val
  unfold Wa.cells at *
  clear h hP hne hk hi hb0 hK0 HI
  generalize (rawS s a f i.k).1 = V at *
  generalize (rawS s a f i.k).2.1 = A at *
  generalize (rawS s a f i.k).2.2 = G at *
  go_enter Try.func13, Try.ntmps13
  go_wp2_with fail
  generalize (w.alloc (.cells #[.bool i.o, .int .i64 i.kd, .int .u64 i.n, .int .i64 i.k] 45)) = W1 at *
  refine CA.out.mono ?_
  rintro e w2 ⟨rfl, hR2, hk2⟩
  obtain ⟨d0, d1, d2, d3⟩ := HIL.out _ hk2
  simp only [Nat.zero_add] at d1 d2 d3
  have HF2 : Hid (RF w2 c s a f) := HF.out _ hk2
  have HR2 : Hid (Rd w2 b s A G) := hR2
  have HK2 : Hid (Kept (two b c) w w2) := HK1.out.trans (two_left hk2)
  clear c0 c1 c2 c3 hk2 hR2 HF HIL HK1 CA
  go_wp2_with fail
  refine (CX.out _ HF2.out).mono ?_
  rintro e w3 ⟨rfl, hF3, hk3⟩
  have HB3 : Hid (Both w3 b c s A G) := ⟨HR2.out.kept hk3 hbc, hF3, hbc⟩
  have HK3 : Hid (Kept (two b c) w w3) := HK2.out.trans (two_right hk3)
  clear CX HR2 HK2 HF2 hF3 hk3 d0 d1 d2 d3 hbl hcl
  -- the end: where both stand
  have CF : Hid (Calls Try.prog 18 #[.pointer (some ⟨b, 0, none⟩)] w3 fun e w' => e = .returned (.tuple #[.int .i64 G, .int .i64 (faultAt A G)]) ∧ Both w' b c s A G ∧ Kept (two b c) w3 w') := fault_both HB3.out
  have CE : Hid (∀ w, Both w b c s A G → Calls Try.prog 20 #[.pointer (some ⟨b, 0, none⟩)] w fun e w' => e = .returned (.int .i64 (endR s A G)) ∧ Both w' b c s A G ∧ Kept (two b c) w w') := fun w h => end_both h hs
  go_wp2_with fail
  refine CF.out.mono ?_
  rintro e w4 ⟨rfl, hB4, hK4⟩
  go_wp2_with fail
  refine (CE.out _ hB4).mono ?_
  rintro e w5 ⟨rfl, hB5, hK5⟩
  have HK5 : Hid (Kept (two b c) w w5) := HK3.out.trans (hK4.trans hK5)
  have HB5 : Hid (Both w5 b c s A G) := hB5
  obtain ⟨p0, p1, p2, p3, p4, p5, p6, p7⟩ := id hB5.2.1
  clear CF CE hB4 hK4 hK5 hB5 HK3 HB3
  have C19 : Hid (∀ n, Calls Try.prog 19 #[.pointer (some ⟨b, 0, none⟩)] (w5.drewN n) fun e w' => e = .returned (.int .i64 A) ∧ w' = w5.drewN n) := fun n => at_any (w := w5.drewN n) HB5.out.1
  have C46 : Hid (∀ n, Calls Try.prog 46 #[.pointer (some ⟨c, 0, none⟩)] (w5.drewN n) fun e w' => e = .returned (.int .i64 (endR s A G)) ∧ ∃ m, w' = (w5.drewN n).drewN m) := fun n => rend_any (w := w5.drewN n) HB5.out.2.1
  have HE : Hid (∀ n, BLeft b c s w (w5.drewN n)) := fun n => ⟨A, G, HB5.out, HK5.out.drewN n⟩
  generalize endR s A G = en at *
  generalize faultAt A G = fa at *
  clear HB5 HK5 hs
  go_wp2
  go_quiet (first | (go_at_call 19; refine Calls.quiet_of_same (C19.out _)) | (go_at_call 46; refine Calls.quiet_of (C46.out _)))
  go_wp2
  go_ret
  exact ⟨by simp, HE.out _⟩
end Go.Proofs.Ytdpddlaedffmdaa
