/- One item on a writer and on the document's writer, side by side: the same bytes, the same error; it answers true. -/
import Derived.Test.YtdpddlaedffmdaaRw
namespace Go.Proofs.Ytdpddlaedffmdaa
open Go.RowKit
set_option linter.unusedVariables false
set_option linter.unusedSimpArgs false

/-- The blocks of two writers. -/
def pset (b c : Nat) (v u : Value) : Nat → Prop := fun k => own b v k ∨ own c u k
/-- A writer and the document's, with the same bytes and the same error, apart in memory. -/
def Pair (B : Nat) (w : World) (b c : Nat) (v u : Value) (l : List UInt8) (g : Int) : Prop :=
  Wr B w b v l g ∧ Wr B w c u l g ∧ ∀ k, own b v k → ¬ own c u k
theorem Pair.below {B : Nat} {w w' : World} {b c : Nat} {v u : Value} {l : List UInt8} {g : Int} (h : Pair B w b c v u l g) (hb : Below w.heap.size w w') : Pair B w' b c v u l g := ⟨h.1.below hb, h.2.1.below hb, h.2.2⟩
theorem Pair.lt {B : Nat} {w : World} {b c : Nat} {v u : Value} {l : List UInt8} {g : Int} (h : Pair B w b c v u l g) : ∀ k, pset b c v u k → B ≤ k ∧ k < w.heap.size := by
  rintro k (hk | hk)
  · exact ⟨h.1.own_ge k hk, h.1.own_lt k hk⟩
  · exact ⟨h.2.1.own_ge k hk, h.2.1.own_lt k hk⟩
theorem Pair.kept {S : Nat → Prop} {B : Nat} {w w' : World} {b c : Nat} {v u : Value} {l : List UInt8} {g : Int} (h : Pair B w b c v u l g) (hk : Kept S w w') (hs : ∀ k, pset b c v u k → ¬ S k) : Pair B w' b c v u l g :=
  ⟨h.1.kept hk (hs b (.inl (.inl rfl))) (fun k hk' => hs k (.inl (.inr hk'))), h.2.1.kept hk (hs c (.inr (.inl rfl))) (fun k hk' => hs k (.inr (.inr hk'))), h.2.2⟩
theorem Pair.mid {B : Nat} {w w1 : World} {b c : Nat} {v u : Value} {l l2 : List UInt8} {g g2 : Int} (h : Pair B w b c v u l g) (h1 : Left B b v w l2 g2 w1) : Wr B w1 c u l g := by
  obtain ⟨v1, W1, K1, P1⟩ := h1
  exact h.2.1.kept K1 (fun e => h.2.2 c e (.inl rfl)) (fun k hk e => h.2.2 k e (.inr hk))
/-- What a step on both leaves. -/
def PLeft (B b c : Nat) (v u : Value) (w : World) (l : List UInt8) (g : Int) (w' : World) : Prop :=
  ∃ v2 u2, Pair B w' b c v2 u2 l g ∧ Kept (pset b c v u) w w' ∧ ∀ k, pset b c v2 u2 k → pset b c v u k ∨ w.heap.size ≤ k
theorem own_new {b : Nat} {v v' : Value} {w : World} (h : v'.ownBlock = v.ownBlock ∨ ∃ g, v'.ownBlock = some g ∧ w.heap.size ≤ g) : ∀ k, own b v' k → own b v k ∨ w.heap.size ≤ k := by
  rintro k (e | e)
  · exact .inl (.inl e)
  · rcases h with q | ⟨g, q, hg⟩
    · exact .inl (.inr (q ▸ e))
    · rw [q] at e; injection e with e; exact .inr (e ▸ hg)
theorem Pair.two {B : Nat} {w w1 w2 : World} {b c : Nat} {v u : Value} {l l2 : List UInt8} {g g2 : Int} (h : Pair B w b c v u l g) (h1 : Left B b v w l2 g2 w1) (h2 : Left B c u w1 l2 g2 w2) : PLeft B b c v u w l2 g2 w2 := by
  obtain ⟨v1, W1, K1, P1⟩ := h1
  obtain ⟨u2, W2, K2, P2⟩ := h2
  have n1 := own_new (b := b) P1
  have n2 : ∀ k, own c u2 k → own c u k ∨ w.heap.size ≤ k := fun k hk => by
    rcases own_new (b := c) P2 k hk with q | q
    · exact .inl q
    · exact .inr (Nat.le_trans K1.size q)
  have hd : ∀ k, own b v1 k → ¬ own c u k := fun k hk hc => by
    rcases n1 k hk with q | q
    · exact h.2.2 k q hc
    · have := h.2.1.own_lt k hc; omega
  have A2 : Wr B w2 b v1 l2 g2 := W1.kept K2 (hd b (.inl rfl)) (fun k hk => hd k (.inr hk))
  refine ⟨v1, u2, ⟨A2, W2, fun k hk hc => ?_⟩, ?_, ?_⟩
  · rcases own_new (b := c) P2 k hc with q | q
    · exact hd k hk q
    · have := W1.own_lt k hk; omega
  · exact ⟨K2.os.trans K1.os, K2.tape.trans K1.tape, K2.output.trans K1.output, Nat.le_trans K1.size K2.size, fun k hk hs => (K2.block k (Nat.lt_of_lt_of_le hk K1.size) (fun e => hs (.inr e))).trans (K1.block k hk (fun e => hs (.inl e)))⟩
  · rintro k (hk | hk)
    · rcases n1 k hk with q | q
      · exact .inl (.inl q)
      · exact .inr q
    · rcases n2 k hk with q | q
      · exact .inl (.inr q)
      · exact .inr q
theorem PLeft.after {B b c : Nat} {v u : Value} {w w1 w' : World} {l : List UInt8} {g : Int} (h : PLeft B b c v u w1 l g w') (hb : Below w.heap.size w w1) : PLeft B b c v u w l g w' := by
  obtain ⟨v2, u2, h1, h2, h3⟩ := h
  exact ⟨v2, u2, h1, (Kept.of_below hb).trans h2, fun k hk => (h3 k hk).imp id (Nat.le_trans hb.size)⟩
theorem PLeft.then {B b c : Nat} {v u : Value} {w w1 w' : World} {l : List UInt8} {g : Int} (h : PLeft B b c v u w l g w1) (hb : Below w1.heap.size w1 w') : PLeft B b c v u w l g w' := by
  obtain ⟨v2, u2, h1, h2, h3⟩ := h
  exact ⟨v2, u2, h1.below hb, h2.trans (Kept.of_below hb), h3⟩
theorem PLeft.refl {B b c : Nat} {v u : Value} {w : World} {l : List UInt8} {g : Int} (h : Pair B w b c v u l g) : PLeft B b c v u w l g w := ⟨v, u, h, Kept.refl _ _, fun k hk => .inl hk⟩
/-- What an item makes of a writer. -/
def stepR (i : It) (l : List UInt8) (g : Int) : List UInt8 × Int :=
  if i.kd = 1 then putR l g ⟨(vb i.n).toArray⟩ 0 else if i.kd = 2 then putR l g (fxR i.n i.k).1 (fxR i.n i.k).2 else if i.kd = 3 then textR l g i.s else if i.kd = 4 then putR l g (byR i.x i.k).1 (byR i.x i.k).2 else if i.kd = 5 then putR l g i.s 0 else (l, g)
theorem putR_len (l : List UInt8) (g : Int) (s : ByteArray) (f : Int) : (putR l g s f).1.length ≤ l.length + s.size := by
  unfold putR; split
  · simp
  · split
    · simp
    · simp
theorem stepR_len (i : It) (hi : i.ok) (l : List UInt8) (g : Int) : (stepR i l g).1.length ≤ l.length + i.s.size + 16 := by
  unfold stepR
  split
  · have := putR_len l g ⟨(vb i.n).toArray⟩ 0; have h2 := vb_ten i.n hi.1; rw [arr_size] at this; omega
  · split
    · have := putR_len l g (fxR i.n i.k).1 (fxR i.n i.k).2; have h2 := fxR_size i.n i.k; omega
    · split
      · unfold textR; split
        · simp; omega
        · have h2 := vb_ten i.s.size (by have := hi.2.2.1; omega); simp; omega
      · split
        · have := putR_len l g (byR i.x i.k).1 (byR i.x i.k).2; have h2 := byR_size i.x i.k; omega
        · split
          · have := putR_len l g i.s 0; omega
          · simp; omega
/-- An item as an argument. -/
def It.val (i : It) : Value := .agg #[.bool i.o, .int .i64 i.kd, .int .u64 i.n, .int .i64 i.k, .string i.s, .int .u64 (hiOf i.x), .int .u64 (loOf i.x)]
def It.cells (i : It) : Obj := .cells #[.bool i.o, .int .i64 i.kd, .int .u64 i.n, .int .i64 i.k, .string i.s, .int .u64 (hiOf i.x), .int .u64 (loOf i.x)] 36
theorem ItAt.new (w : World) (i : It) : ItAt (w.alloc i.cells) w.heap.size 0 i := by
  unfold It.cells; refine ⟨?_, ?_, ?_, ?_, ?_, ?_, ?_⟩ <;> simp
/-- The end of writes: the same length. -/
theorem len_slice {B : Nat} {w : World} {b : Nat} {v : Value} {l : List UInt8} {g : Int} (h : Wr B w b v l g) : ∃ ba bc, w.cell? ⟨b, 0, none⟩ = some (.slice ba l.length bc) := by
  obtain ⟨h0, h1, h2, h3, h4, h5, h6⟩ := h
  rcases h5.2 with ⟨rfl, h⟩ | ⟨g, cap, cur, rfl, _⟩
  · exact ⟨none, 0, by rw [h1, h]⟩
  · exact ⟨_, _, h1⟩

set_option maxHeartbeats 1000000 in
set_option maxRecDepth 100000 in
theorem writes1 {B b c : Nat} {v u : Value} {l : List UInt8} {g : Int} {w : World} (h : Pair B w b c v u l g) (hB : B ≤ w.heap.size) (i : It) (hi : i.ok) (hl : l.length + i.s.size + 26 ≤ 140737488355328) (hk : i.kd = 1) :
    Calls Try.prog 11 #[.pointer (some ⟨b, 0, none⟩), .pointer (some ⟨c, 0, none⟩), i.val] w fun e w' => e = .returned (.bool true) ∧ PLeft B b c v u w (stepR i l g).1 (stepR i l g).2 w' := by
  have hb0 : Below w.heap.size w (w.alloc i.cells) := (Below.refl _ _).alloc (Nat.le_refl _) _
  have hP := h.below hb0
  have hB0 : B ≤ (w.alloc i.cells).heap.size := Nat.le_trans hB hb0.size
  have HI : Hid (ItAt (w.alloc i.cells) w.heap.size 0 i) := ItAt.new w i
  have hst : stepR i l g = putR l g ⟨(vb i.n).toArray⟩ 0 := by unfold stepR; rw [hk]; simp
  have hbn : ¬ pset b c v u w.heap.size := fun e => by have := (h.lt _ e).2; omega
  have CA : Hid (Calls Try.prog 26 #[.pointer (some ⟨b, 0, none⟩), .int .u64 i.n] (w.alloc i.cells) fun e w' => e = .returned (.tuple #[]) ∧ Left B b v (w.alloc i.cells) (stepR i l g).1 (stepR i l g).2 w') := by rw [hst]; exact uint_any hP.1 i.n hi.1 (by omega) hB0
  have CX : Hid (∀ w1 : World, Left B b v (w.alloc i.cells) (stepR i l g).1 (stepR i l g).2 w1 → Calls Try.prog 35 #[.pointer (some ⟨c, 0, none⟩), .int .u64 i.n] w1 fun e w' => e = .returned (.tuple #[]) ∧ Left B c u w1 (stepR i l g).1 (stepR i l g).2 w') := by
    show ∀ w1 : World, _
    intro w1 h1
    have hc := hP.mid h1
    have hB1 : B ≤ w1.heap.size := by obtain ⟨_, _, K, _⟩ := h1; exact Nat.le_trans hB0 K.size
    rw [hst]; exact rwuint hc i.n hi.1 (by omega) hB1
  have hk1 : (i.kd == 1) = true := by simpa using hk
  have hne : ∀ j : Int, j ≠ 1 → (i.kd == j) = false := fun j hj => by rw [hk]; simpa using fun e => hj e.symm
  have hk_2 := hne 2 (by decide)
  have hk_3 := hne 3 (by decide)
  have hk_4 := hne 4 (by decide)
  have hk_5 := hne 5 (by decide)
  have hk_6 := hne 6 (by decide)
  have HT : Hid (∀ w1 w2, Left B b v (w.alloc i.cells) (stepR i l g).1 (stepR i l g).2 w1 → Left B c u w1 (stepR i l g).1 (stepR i l g).2 w2 → PLeft B b c v u (w.alloc i.cells) (stepR i l g).1 (stepR i l g).2 w2) := fun w1 w2 => hP.two
  have HIL : Hid (∀ w1, Left B b v (w.alloc i.cells) (stepR i l g).1 (stepR i l g).2 w1 → ItAt w1 w.heap.size 0 i) := fun w1 ⟨_, _, K, _⟩ => HI.out.kept K (fun e => hbn (.inl e))
  unfold It.val
  unfold It.cells at *
  clear h hP hne hst hk hi hl
  generalize (stepR i l g).1 = L2 at *
  generalize (stepR i l g).2 = G2 at *
  obtain ⟨c0, c1, c2, c3, c4, c5, c6⟩ := id HI.out
  simp only [Nat.zero_add] at c1 c2 c3 c4 c5 c6
  go_enter Try.func11, Try.ntmps11
  go_wp2_with fail
  generalize w.alloc (.cells #[.bool i.o, .int .i64 i.kd, .int .u64 i.n, .int .i64 i.k, .string i.s, .int .u64 (hiOf i.x), .int .u64 (loOf i.x)] 36) = W1 at *
  refine CA.out.mono ?_
  rintro e w2 ⟨rfl, hL2⟩
  obtain ⟨d0, d1, d2, d3, d4, d5, d6⟩ := HIL.out _ hL2
  simp only [Nat.zero_add] at d1 d2 d3 d4 d5 d6
  clear c0 c1 c2 c3 c4 c5 c6
  go_wp2_with fail
  refine (CX.out _ hL2).mono ?_
  rintro e w3 ⟨rfl, hL3⟩
  have hP2 := HT.out _ _ hL2 hL3
  clear hL2 hL3 CX CA HT HIL HI d0 d1 d2 d3 d4 d5 d6
  obtain ⟨v2, u2, P2, K2, N2⟩ := id hP2
  have CL : Hid (∀ n, Calls Try.prog 16 #[.pointer (some ⟨b, 0, none⟩)] (w3.drewN n) fun e w' => e = .returned (.int .i64 L2.length) ∧ w' = w3.drewN n) := fun n => len_any (w := w3.drewN n) P2.1
  obtain ⟨ba, bc, hs⟩ := len_slice P2.2.1
  have hP3 : ∀ n, PLeft B b c v u w L2 G2 (w3.drewN n) := fun n => (hP2.then (below_drewN (Below.refl _ _) n)).after hb0
  clear hP2 P2 K2 N2
  go_wp2
  go_quiet ((go_at_call 16; refine Calls.quiet_of_same (CL.out _)))
  go_wp2
  go_ret
  exact ⟨by simp, hP3 _⟩

set_option maxHeartbeats 1000000 in
set_option maxRecDepth 100000 in
theorem writes2 {B b c : Nat} {v u : Value} {l : List UInt8} {g : Int} {w : World} (h : Pair B w b c v u l g) (hB : B ≤ w.heap.size) (i : It) (hi : i.ok) (hl : l.length + i.s.size + 26 ≤ 140737488355328) (hk : i.kd = 2) :
    Calls Try.prog 11 #[.pointer (some ⟨b, 0, none⟩), .pointer (some ⟨c, 0, none⟩), i.val] w fun e w' => e = .returned (.bool true) ∧ PLeft B b c v u w (stepR i l g).1 (stepR i l g).2 w' := by
  have hb0 : Below w.heap.size w (w.alloc i.cells) := (Below.refl _ _).alloc (Nat.le_refl _) _
  have hP := h.below hb0
  have hB0 : B ≤ (w.alloc i.cells).heap.size := Nat.le_trans hB hb0.size
  have HI : Hid (ItAt (w.alloc i.cells) w.heap.size 0 i) := ItAt.new w i
  have hst : stepR i l g = putR l g (fxR i.n i.k).1 (fxR i.n i.k).2 := by unfold stepR; rw [hk]; simp
  have hbn : ¬ pset b c v u w.heap.size := fun e => by have := (h.lt _ e).2; omega
  have CA : Hid (Calls Try.prog 27 #[.pointer (some ⟨b, 0, none⟩), .int .u64 i.n, .int .i64 i.k] (w.alloc i.cells) fun e w' => e = .returned (.tuple #[]) ∧ Left B b v (w.alloc i.cells) (stepR i l g).1 (stepR i l g).2 w') := by rw [hst]; exact wfixed_any hP.1 i.n i.k (by omega) hB0
  have CX : Hid (∀ w1 : World, Left B b v (w.alloc i.cells) (stepR i l g).1 (stepR i l g).2 w1 → Calls Try.prog 36 #[.pointer (some ⟨c, 0, none⟩), .int .u64 i.n, .int .i64 i.k] w1 fun e w' => e = .returned (.tuple #[]) ∧ Left B c u w1 (stepR i l g).1 (stepR i l g).2 w') := by
    show ∀ w1 : World, _
    intro w1 h1
    have hc := hP.mid h1
    have hB1 : B ≤ w1.heap.size := by obtain ⟨_, _, K, _⟩ := h1; exact Nat.le_trans hB0 K.size
    rw [hst]; exact rwfixed hc i.n hi.1 i.k (by omega) hB1
  have hk1 : (i.kd == 2) = true := by simpa using hk
  have hne : ∀ j : Int, j ≠ 2 → (i.kd == j) = false := fun j hj => by rw [hk]; simpa using fun e => hj e.symm
  have hk_1 := hne 1 (by decide)
  have hk_3 := hne 3 (by decide)
  have hk_4 := hne 4 (by decide)
  have hk_5 := hne 5 (by decide)
  have hk_6 := hne 6 (by decide)
  have HT : Hid (∀ w1 w2, Left B b v (w.alloc i.cells) (stepR i l g).1 (stepR i l g).2 w1 → Left B c u w1 (stepR i l g).1 (stepR i l g).2 w2 → PLeft B b c v u (w.alloc i.cells) (stepR i l g).1 (stepR i l g).2 w2) := fun w1 w2 => hP.two
  have HIL : Hid (∀ w1, Left B b v (w.alloc i.cells) (stepR i l g).1 (stepR i l g).2 w1 → ItAt w1 w.heap.size 0 i) := fun w1 ⟨_, _, K, _⟩ => HI.out.kept K (fun e => hbn (.inl e))
  unfold It.val
  unfold It.cells at *
  clear h hP hne hst hk hi hl
  generalize (stepR i l g).1 = L2 at *
  generalize (stepR i l g).2 = G2 at *
  obtain ⟨c0, c1, c2, c3, c4, c5, c6⟩ := id HI.out
  simp only [Nat.zero_add] at c1 c2 c3 c4 c5 c6
  go_enter Try.func11, Try.ntmps11
  go_wp2_with fail
  generalize w.alloc (.cells #[.bool i.o, .int .i64 i.kd, .int .u64 i.n, .int .i64 i.k, .string i.s, .int .u64 (hiOf i.x), .int .u64 (loOf i.x)] 36) = W1 at *
  refine CA.out.mono ?_
  rintro e w2 ⟨rfl, hL2⟩
  obtain ⟨d0, d1, d2, d3, d4, d5, d6⟩ := HIL.out _ hL2
  simp only [Nat.zero_add] at d1 d2 d3 d4 d5 d6
  clear c0 c1 c2 c3 c4 c5 c6
  go_wp2_with fail
  refine (CX.out _ hL2).mono ?_
  rintro e w3 ⟨rfl, hL3⟩
  have hP2 := HT.out _ _ hL2 hL3
  clear hL2 hL3 CX CA HT HIL HI d0 d1 d2 d3 d4 d5 d6
  obtain ⟨v2, u2, P2, K2, N2⟩ := id hP2
  have CL : Hid (∀ n, Calls Try.prog 16 #[.pointer (some ⟨b, 0, none⟩)] (w3.drewN n) fun e w' => e = .returned (.int .i64 L2.length) ∧ w' = w3.drewN n) := fun n => len_any (w := w3.drewN n) P2.1
  obtain ⟨ba, bc, hs⟩ := len_slice P2.2.1
  have hP3 : ∀ n, PLeft B b c v u w L2 G2 (w3.drewN n) := fun n => (hP2.then (below_drewN (Below.refl _ _) n)).after hb0
  clear hP2 P2 K2 N2
  go_wp2
  go_quiet ((go_at_call 16; refine Calls.quiet_of_same (CL.out _)))
  go_wp2
  go_ret
  exact ⟨by simp, hP3 _⟩

set_option maxHeartbeats 1000000 in
set_option maxRecDepth 100000 in
theorem writes3 {B b c : Nat} {v u : Value} {l : List UInt8} {g : Int} {w : World} (h : Pair B w b c v u l g) (hB : B ≤ w.heap.size) (i : It) (hi : i.ok) (hl : l.length + i.s.size + 26 ≤ 140737488355328) (hk : i.kd = 3) :
    Calls Try.prog 11 #[.pointer (some ⟨b, 0, none⟩), .pointer (some ⟨c, 0, none⟩), i.val] w fun e w' => e = .returned (.bool true) ∧ PLeft B b c v u w (stepR i l g).1 (stepR i l g).2 w' := by
  have hb0 : Below w.heap.size w (w.alloc i.cells) := (Below.refl _ _).alloc (Nat.le_refl _) _
  have hP := h.below hb0
  have hB0 : B ≤ (w.alloc i.cells).heap.size := Nat.le_trans hB hb0.size
  have HI : Hid (ItAt (w.alloc i.cells) w.heap.size 0 i) := ItAt.new w i
  have hst : stepR i l g = textR l g i.s := by unfold stepR; rw [hk]; simp
  have hbn : ¬ pset b c v u w.heap.size := fun e => by have := (h.lt _ e).2; omega
  have CA : Hid (Calls Try.prog 28 #[.pointer (some ⟨b, 0, none⟩), .string i.s] (w.alloc i.cells) fun e w' => e = .returned (.tuple #[]) ∧ Left B b v (w.alloc i.cells) (stepR i l g).1 (stepR i l g).2 w') := by rw [hst]; exact text_any hP.1 i.s (by omega) hB0
  have CX : Hid (∀ w1 : World, Left B b v (w.alloc i.cells) (stepR i l g).1 (stepR i l g).2 w1 → Calls Try.prog 37 #[.pointer (some ⟨c, 0, none⟩), .string i.s] w1 fun e w' => e = .returned (.tuple #[]) ∧ Left B c u w1 (stepR i l g).1 (stepR i l g).2 w') := by
    show ∀ w1 : World, _
    intro w1 h1
    have hc := hP.mid h1
    have hB1 : B ≤ w1.heap.size := by obtain ⟨_, _, K, _⟩ := h1; exact Nat.le_trans hB0 K.size
    rw [hst]; exact rwtext hc i.s (by omega) hB1
  have hk1 : (i.kd == 3) = true := by simpa using hk
  have hne : ∀ j : Int, j ≠ 3 → (i.kd == j) = false := fun j hj => by rw [hk]; simpa using fun e => hj e.symm
  have hk_1 := hne 1 (by decide)
  have hk_2 := hne 2 (by decide)
  have hk_4 := hne 4 (by decide)
  have hk_5 := hne 5 (by decide)
  have hk_6 := hne 6 (by decide)
  have HT : Hid (∀ w1 w2, Left B b v (w.alloc i.cells) (stepR i l g).1 (stepR i l g).2 w1 → Left B c u w1 (stepR i l g).1 (stepR i l g).2 w2 → PLeft B b c v u (w.alloc i.cells) (stepR i l g).1 (stepR i l g).2 w2) := fun w1 w2 => hP.two
  have HIL : Hid (∀ w1, Left B b v (w.alloc i.cells) (stepR i l g).1 (stepR i l g).2 w1 → ItAt w1 w.heap.size 0 i) := fun w1 ⟨_, _, K, _⟩ => HI.out.kept K (fun e => hbn (.inl e))
  unfold It.val
  unfold It.cells at *
  clear h hP hne hst hk hi hl
  generalize (stepR i l g).1 = L2 at *
  generalize (stepR i l g).2 = G2 at *
  obtain ⟨c0, c1, c2, c3, c4, c5, c6⟩ := id HI.out
  simp only [Nat.zero_add] at c1 c2 c3 c4 c5 c6
  go_enter Try.func11, Try.ntmps11
  go_wp2_with fail
  generalize w.alloc (.cells #[.bool i.o, .int .i64 i.kd, .int .u64 i.n, .int .i64 i.k, .string i.s, .int .u64 (hiOf i.x), .int .u64 (loOf i.x)] 36) = W1 at *
  refine CA.out.mono ?_
  rintro e w2 ⟨rfl, hL2⟩
  obtain ⟨d0, d1, d2, d3, d4, d5, d6⟩ := HIL.out _ hL2
  simp only [Nat.zero_add] at d1 d2 d3 d4 d5 d6
  clear c0 c1 c2 c3 c4 c5 c6
  go_wp2_with fail
  refine (CX.out _ hL2).mono ?_
  rintro e w3 ⟨rfl, hL3⟩
  have hP2 := HT.out _ _ hL2 hL3
  clear hL2 hL3 CX CA HT HIL HI d0 d1 d2 d3 d4 d5 d6
  obtain ⟨v2, u2, P2, K2, N2⟩ := id hP2
  have CL : Hid (∀ n, Calls Try.prog 16 #[.pointer (some ⟨b, 0, none⟩)] (w3.drewN n) fun e w' => e = .returned (.int .i64 L2.length) ∧ w' = w3.drewN n) := fun n => len_any (w := w3.drewN n) P2.1
  obtain ⟨ba, bc, hs⟩ := len_slice P2.2.1
  have hP3 : ∀ n, PLeft B b c v u w L2 G2 (w3.drewN n) := fun n => (hP2.then (below_drewN (Below.refl _ _) n)).after hb0
  clear hP2 P2 K2 N2
  go_wp2
  go_quiet ((go_at_call 16; refine Calls.quiet_of_same (CL.out _)))
  go_wp2
  go_ret
  exact ⟨by simp, hP3 _⟩

set_option maxHeartbeats 1000000 in
set_option maxRecDepth 100000 in
theorem writes4 {B b c : Nat} {v u : Value} {l : List UInt8} {g : Int} {w : World} (h : Pair B w b c v u l g) (hB : B ≤ w.heap.size) (i : It) (hi : i.ok) (hl : l.length + i.s.size + 26 ≤ 140737488355328) (hk : i.kd = 4) :
    Calls Try.prog 11 #[.pointer (some ⟨b, 0, none⟩), .pointer (some ⟨c, 0, none⟩), i.val] w fun e w' => e = .returned (.bool true) ∧ PLeft B b c v u w (stepR i l g).1 (stepR i l g).2 w' := by
  have hb0 : Below w.heap.size w (w.alloc i.cells) := (Below.refl _ _).alloc (Nat.le_refl _) _
  have hP := h.below hb0
  have hB0 : B ≤ (w.alloc i.cells).heap.size := Nat.le_trans hB hb0.size
  have HI : Hid (ItAt (w.alloc i.cells) w.heap.size 0 i) := ItAt.new w i
  have hst : stepR i l g = putR l g (byR i.x i.k).1 (byR i.x i.k).2 := by unfold stepR; rw [hk]; simp
  have hbn : ¬ pset b c v u w.heap.size := fun e => by have := (h.lt _ e).2; omega
  have CA : Hid (Calls Try.prog 29 #[.pointer (some ⟨b, 0, none⟩), .agg #[.int .u64 (hiOf i.x), .int .u64 (loOf i.x)], .int .i64 i.k] (w.alloc i.cells) fun e w' => e = .returned (.tuple #[]) ∧ Left B b v (w.alloc i.cells) (stepR i l g).1 (stepR i l g).2 w') := by rw [hst]; exact wbits_any hP.1 i.x hi.2.1 i.k (by omega) hB0
  have CX : Hid (∀ w1 : World, Left B b v (w.alloc i.cells) (stepR i l g).1 (stepR i l g).2 w1 → Calls Try.prog 38 #[.pointer (some ⟨c, 0, none⟩), .agg #[.int .u64 (hiOf i.x), .int .u64 (loOf i.x)], .int .i64 i.k] w1 fun e w' => e = .returned (.tuple #[]) ∧ Left B c u w1 (stepR i l g).1 (stepR i l g).2 w') := by
    show ∀ w1 : World, _
    intro w1 h1
    have hc := hP.mid h1
    have hB1 : B ≤ w1.heap.size := by obtain ⟨_, _, K, _⟩ := h1; exact Nat.le_trans hB0 K.size
    rw [hst]; exact rwbits hc i.x hi.2.1 i.k (by omega) hB1
  have hk1 : (i.kd == 4) = true := by simpa using hk
  have hne : ∀ j : Int, j ≠ 4 → (i.kd == j) = false := fun j hj => by rw [hk]; simpa using fun e => hj e.symm
  have hk_1 := hne 1 (by decide)
  have hk_2 := hne 2 (by decide)
  have hk_3 := hne 3 (by decide)
  have hk_5 := hne 5 (by decide)
  have hk_6 := hne 6 (by decide)
  have HT : Hid (∀ w1 w2, Left B b v (w.alloc i.cells) (stepR i l g).1 (stepR i l g).2 w1 → Left B c u w1 (stepR i l g).1 (stepR i l g).2 w2 → PLeft B b c v u (w.alloc i.cells) (stepR i l g).1 (stepR i l g).2 w2) := fun w1 w2 => hP.two
  have HIL : Hid (∀ w1, Left B b v (w.alloc i.cells) (stepR i l g).1 (stepR i l g).2 w1 → ItAt w1 w.heap.size 0 i) := fun w1 ⟨_, _, K, _⟩ => HI.out.kept K (fun e => hbn (.inl e))
  unfold It.val
  unfold It.cells at *
  clear h hP hne hst hk hi hl
  generalize (stepR i l g).1 = L2 at *
  generalize (stepR i l g).2 = G2 at *
  obtain ⟨c0, c1, c2, c3, c4, c5, c6⟩ := id HI.out
  simp only [Nat.zero_add] at c1 c2 c3 c4 c5 c6
  go_enter Try.func11, Try.ntmps11
  go_wp2_with fail
  generalize w.alloc (.cells #[.bool i.o, .int .i64 i.kd, .int .u64 i.n, .int .i64 i.k, .string i.s, .int .u64 (hiOf i.x), .int .u64 (loOf i.x)] 36) = W1 at *
  refine CA.out.mono ?_
  rintro e w2 ⟨rfl, hL2⟩
  obtain ⟨d0, d1, d2, d3, d4, d5, d6⟩ := HIL.out _ hL2
  simp only [Nat.zero_add] at d1 d2 d3 d4 d5 d6
  clear c0 c1 c2 c3 c4 c5 c6
  go_wp2_with fail
  refine (CX.out _ hL2).mono ?_
  rintro e w3 ⟨rfl, hL3⟩
  have hP2 := HT.out _ _ hL2 hL3
  clear hL2 hL3 CX CA HT HIL HI d0 d1 d2 d3 d4 d5 d6
  obtain ⟨v2, u2, P2, K2, N2⟩ := id hP2
  have CL : Hid (∀ n, Calls Try.prog 16 #[.pointer (some ⟨b, 0, none⟩)] (w3.drewN n) fun e w' => e = .returned (.int .i64 L2.length) ∧ w' = w3.drewN n) := fun n => len_any (w := w3.drewN n) P2.1
  obtain ⟨ba, bc, hs⟩ := len_slice P2.2.1
  have hP3 : ∀ n, PLeft B b c v u w L2 G2 (w3.drewN n) := fun n => (hP2.then (below_drewN (Below.refl _ _) n)).after hb0
  clear hP2 P2 K2 N2
  go_wp2
  go_quiet ((go_at_call 16; refine Calls.quiet_of_same (CL.out _)))
  go_wp2
  go_ret
  exact ⟨by simp, hP3 _⟩

set_option maxHeartbeats 1000000 in
set_option maxRecDepth 100000 in
theorem writes5 {B b c : Nat} {v u : Value} {l : List UInt8} {g : Int} {w : World} (h : Pair B w b c v u l g) (hB : B ≤ w.heap.size) (i : It) (hi : i.ok) (hl : l.length + i.s.size + 26 ≤ 140737488355328) (hk : i.kd = 5) :
    Calls Try.prog 11 #[.pointer (some ⟨b, 0, none⟩), .pointer (some ⟨c, 0, none⟩), i.val] w fun e w' => e = .returned (.bool true) ∧ PLeft B b c v u w (stepR i l g).1 (stepR i l g).2 w' := by
  have hb0 : Below w.heap.size w (w.alloc i.cells) := (Below.refl _ _).alloc (Nat.le_refl _) _
  have hP := h.below hb0
  have hB0 : B ≤ (w.alloc i.cells).heap.size := Nat.le_trans hB hb0.size
  have HI : Hid (ItAt (w.alloc i.cells) w.heap.size 0 i) := ItAt.new w i
  have hst : stepR i l g = putR l g i.s 0 := by unfold stepR; rw [hk]; simp
  have hbn : ¬ pset b c v u w.heap.size := fun e => by have := (h.lt _ e).2; omega
  have CA : Hid (Calls Try.prog 30 #[.pointer (some ⟨b, 0, none⟩), .string i.s] (w.alloc i.cells) fun e w' => e = .returned (.tuple #[]) ∧ Left B b v (w.alloc i.cells) (stepR i l g).1 (stepR i l g).2 w') := by rw [hst]; exact raw_any hP.1 i.s (by omega) hB0
  have CX : Hid (∀ w1 : World, Left B b v (w.alloc i.cells) (stepR i l g).1 (stepR i l g).2 w1 → Calls Try.prog 39 #[.pointer (some ⟨c, 0, none⟩), .string i.s] w1 fun e w' => e = .returned (.tuple #[]) ∧ Left B c u w1 (stepR i l g).1 (stepR i l g).2 w') := by
    show ∀ w1 : World, _
    intro w1 h1
    have hc := hP.mid h1
    have hB1 : B ≤ w1.heap.size := by obtain ⟨_, _, K, _⟩ := h1; exact Nat.le_trans hB0 K.size
    rw [hst]; exact rwraw hc i.s (by omega) hB1
  have hk1 : (i.kd == 5) = true := by simpa using hk
  have hne : ∀ j : Int, j ≠ 5 → (i.kd == j) = false := fun j hj => by rw [hk]; simpa using fun e => hj e.symm
  have hk_1 := hne 1 (by decide)
  have hk_2 := hne 2 (by decide)
  have hk_3 := hne 3 (by decide)
  have hk_4 := hne 4 (by decide)
  have hk_6 := hne 6 (by decide)
  have HT : Hid (∀ w1 w2, Left B b v (w.alloc i.cells) (stepR i l g).1 (stepR i l g).2 w1 → Left B c u w1 (stepR i l g).1 (stepR i l g).2 w2 → PLeft B b c v u (w.alloc i.cells) (stepR i l g).1 (stepR i l g).2 w2) := fun w1 w2 => hP.two
  have HIL : Hid (∀ w1, Left B b v (w.alloc i.cells) (stepR i l g).1 (stepR i l g).2 w1 → ItAt w1 w.heap.size 0 i) := fun w1 ⟨_, _, K, _⟩ => HI.out.kept K (fun e => hbn (.inl e))
  unfold It.val
  unfold It.cells at *
  clear h hP hne hst hk hi hl
  generalize (stepR i l g).1 = L2 at *
  generalize (stepR i l g).2 = G2 at *
  obtain ⟨c0, c1, c2, c3, c4, c5, c6⟩ := id HI.out
  simp only [Nat.zero_add] at c1 c2 c3 c4 c5 c6
  go_enter Try.func11, Try.ntmps11
  go_wp2_with fail
  generalize w.alloc (.cells #[.bool i.o, .int .i64 i.kd, .int .u64 i.n, .int .i64 i.k, .string i.s, .int .u64 (hiOf i.x), .int .u64 (loOf i.x)] 36) = W1 at *
  refine CA.out.mono ?_
  rintro e w2 ⟨rfl, hL2⟩
  obtain ⟨d0, d1, d2, d3, d4, d5, d6⟩ := HIL.out _ hL2
  simp only [Nat.zero_add] at d1 d2 d3 d4 d5 d6
  clear c0 c1 c2 c3 c4 c5 c6
  go_wp2_with fail
  refine (CX.out _ hL2).mono ?_
  rintro e w3 ⟨rfl, hL3⟩
  have hP2 := HT.out _ _ hL2 hL3
  clear hL2 hL3 CX CA HT HIL HI d0 d1 d2 d3 d4 d5 d6
  obtain ⟨v2, u2, P2, K2, N2⟩ := id hP2
  have CL : Hid (∀ n, Calls Try.prog 16 #[.pointer (some ⟨b, 0, none⟩)] (w3.drewN n) fun e w' => e = .returned (.int .i64 L2.length) ∧ w' = w3.drewN n) := fun n => len_any (w := w3.drewN n) P2.1
  obtain ⟨ba, bc, hs⟩ := len_slice P2.2.1
  have hP3 : ∀ n, PLeft B b c v u w L2 G2 (w3.drewN n) := fun n => (hP2.then (below_drewN (Below.refl _ _) n)).after hb0
  clear hP2 P2 K2 N2
  go_wp2
  go_quiet ((go_at_call 16; refine Calls.quiet_of_same (CL.out _)))
  go_wp2
  go_ret
  exact ⟨by simp, hP3 _⟩

set_option maxHeartbeats 1000000 in
set_option maxRecDepth 100000 in
theorem writes6 {B b c : Nat} {v u : Value} {l : List UInt8} {g : Int} {w : World} (h : Pair B w b c v u l g) (i : It) (hk : i.kd = 6) :
    Calls Try.prog 11 #[.pointer (some ⟨b, 0, none⟩), .pointer (some ⟨c, 0, none⟩), i.val] w fun e w' => e = .returned (.bool true) ∧ PLeft B b c v u w l g w' := by
  have hb0 : Below w.heap.size w (w.alloc i.cells) := (Below.refl _ _).alloc (Nat.le_refl _) _
  have hP := h.below hb0
  have HI : Hid (ItAt (w.alloc i.cells) w.heap.size 0 i) := ItAt.new w i
  have CA : Hid (Calls Try.prog 15 #[.pointer (some ⟨b, 0, none⟩)] (w.alloc i.cells) fun e w' => e = .returned (.tuple #[.string (outR l g), .int .i64 g]) ∧ ∃ n, w' = (w.alloc i.cells).drewN n) := out_any hP.1
  have CX : Hid (∀ n, Calls Try.prog 40 #[.pointer (some ⟨c, 0, none⟩)] ((w.alloc i.cells).drewN n) fun e w' => e = .returned (.tuple #[.string (outR l g), .int .i64 g]) ∧ ∃ m, w' = ((w.alloc i.cells).drewN n).drewN m) := fun n => rwout (w := (w.alloc i.cells).drewN n) hP.2.1
  have hk1 : (i.kd == 6) = true := by simpa using hk
  have hne : ∀ j : Int, j ≠ 6 → (i.kd == j) = false := fun j hj => by rw [hk]; simpa using fun e => hj e.symm
  have hk_1 := hne 1 (by decide)
  have hk_2 := hne 2 (by decide)
  have hk_3 := hne 3 (by decide)
  have hk_4 := hne 4 (by decide)
  have hk_5 := hne 5 (by decide)
  have hP3 : ∀ n, PLeft B b c v u w l g ((w.alloc i.cells).drewN n) := fun n => ((PLeft.refl hP).then (below_drewN (Below.refl _ _) n)).after hb0
  unfold It.val
  unfold It.cells at *
  clear h hP hne hk
  generalize outR l g = S at *
  obtain ⟨c0, c1, c2, c3, c4, c5, c6⟩ := id HI.out
  simp only [Nat.zero_add] at c1 c2 c3 c4 c5 c6
  go_enter Try.func11, Try.ntmps11
  go_wp2_with fail
  generalize w.alloc (.cells #[.bool i.o, .int .i64 i.kd, .int .u64 i.n, .int .i64 i.k, .string i.s, .int .u64 (hiOf i.x), .int .u64 (loOf i.x)] 36) = W1 at *
  refine CA.out.mono ?_
  rintro e w2 ⟨rfl, n1, rfl⟩
  go_wp2_with fail
  refine (CX.out _).mono ?_
  rintro e w3 ⟨rfl, n2, rfl⟩
  go_wp2
  go_ret
  exact ⟨by simp, hP3 _⟩
set_option maxHeartbeats 1000000 in
set_option maxRecDepth 100000 in
theorem writes0 {B b c : Nat} {v u : Value} {l : List UInt8} {g : Int} {w : World} (h : Pair B w b c v u l g) (i : It) (hk : ∀ j : Int, 1 ≤ j → j ≤ 6 → i.kd ≠ j) :
    Calls Try.prog 11 #[.pointer (some ⟨b, 0, none⟩), .pointer (some ⟨c, 0, none⟩), i.val] w fun e w' => e = .returned (.bool true) ∧ PLeft B b c v u w l g w' := by
  have hb0 : Below w.heap.size w (w.alloc i.cells) := (Below.refl _ _).alloc (Nat.le_refl _) _
  have hP := h.below hb0
  have HI : Hid (ItAt (w.alloc i.cells) w.heap.size 0 i) := ItAt.new w i
  have hne : ∀ j : Int, 1 ≤ j → j ≤ 6 → (i.kd == j) = false := fun j h1 h2 => by simpa using hk j h1 h2
  have hk_1 := hne 1 (by decide) (by decide)
  have hk_2 := hne 2 (by decide) (by decide)
  have hk_3 := hne 3 (by decide) (by decide)
  have hk_4 := hne 4 (by decide) (by decide)
  have hk_5 := hne 5 (by decide) (by decide)
  have hk_6 := hne 6 (by decide) (by decide)
  have hP3 : ∀ n, PLeft B b c v u w l g ((w.alloc i.cells).drewN n) := fun n => ((PLeft.refl hP).then (below_drewN (Below.refl _ _) n)).after hb0
  have CL : Hid (∀ n, Calls Try.prog 16 #[.pointer (some ⟨b, 0, none⟩)] ((w.alloc i.cells).drewN n) fun e w' => e = .returned (.int .i64 l.length) ∧ w' = (w.alloc i.cells).drewN n) := fun n => len_any (w := (w.alloc i.cells).drewN n) hP.1
  obtain ⟨ba, bc, hs⟩ := len_slice hP.2.1
  unfold It.val
  unfold It.cells at *
  clear h hP hne hk
  obtain ⟨c0, c1, c2, c3, c4, c5, c6⟩ := id HI.out
  simp only [Nat.zero_add] at c1 c2 c3 c4 c5 c6
  go_enter Try.func11, Try.ntmps11
  go_wp2
  generalize w.alloc (.cells #[.bool i.o, .int .i64 i.kd, .int .u64 i.n, .int .i64 i.k, .string i.s, .int .u64 (hiOf i.x), .int .u64 (loOf i.x)] 36) = W1 at *
  go_quiet ((go_at_call 16; refine Calls.quiet_of_same (CL.out _)))
  go_wp2
  go_ret
  exact ⟨by simp, hP3 _⟩
/-- Any item. -/
theorem writes_any {B b c : Nat} {v u : Value} {l : List UInt8} {g : Int} {w : World} (h : Pair B w b c v u l g) (hB : B ≤ w.heap.size) (i : It) (hi : i.ok) (hl : l.length + i.s.size + 26 ≤ 140737488355328) :
    Calls Try.prog 11 #[.pointer (some ⟨b, 0, none⟩), .pointer (some ⟨c, 0, none⟩), i.val] w fun e w' => e = .returned (.bool true) ∧ PLeft B b c v u w (stepR i l g).1 (stepR i l g).2 w' := by
  by_cases h1 : i.kd = 1
  · exact writes1 h hB i hi hl h1
  by_cases h2 : i.kd = 2
  · exact writes2 h hB i hi hl h2
  by_cases h3 : i.kd = 3
  · exact writes3 h hB i hi hl h3
  by_cases h4 : i.kd = 4
  · exact writes4 h hB i hi hl h4
  by_cases h5 : i.kd = 5
  · exact writes5 h hB i hi hl h5
  have hs : stepR i l g = (l, g) := by unfold stepR; simp [h1, h2, h3, h4, h5]
  rw [hs]
  by_cases h6 : i.kd = 6
  · exact writes6 h i h6
  · exact writes0 h i (fun j a b e => by omega)
end Go.Proofs.Ytdpddlaedffmdaa
