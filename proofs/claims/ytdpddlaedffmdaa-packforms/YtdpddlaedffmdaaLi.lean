/- Lists of items in memory, the scale, and 'light': how heavy a script is at most where it answers true. -/
import Derived.Test.YtdpddlaedffmdaaQh
namespace Go.Proofs.Ytdpddlaedffmdaa
open Go.RowKit
set_option linter.unusedVariables false
set_option linter.unusedSimpArgs false

/-- An item. -/
structure It where
  o : Bool
  kd : Int
  n : Nat
  k : Int
  s : ByteArray
  x : Nat
/-- An item's cells from a place on. -/
def ItAt (w : World) (b p : Nat) (i : It) : Prop :=
  w.cell? ⟨b, p, none⟩ = some (.bool i.o) ∧ w.cell? ⟨b, p + 1, none⟩ = some (.int .i64 i.kd) ∧ w.cell? ⟨b, p + 2, none⟩ = some (.int .u64 i.n) ∧ w.cell? ⟨b, p + 3, none⟩ = some (.int .i64 i.k) ∧
  w.cell? ⟨b, p + 4, none⟩ = some (.string i.s) ∧ w.cell? ⟨b, p + 5, none⟩ = some (.int .u64 (hiOf i.x)) ∧ w.cell? ⟨b, p + 6, none⟩ = some (.int .u64 (loOf i.x))
def It.ok (i : It) : Prop := i.n < 18446744073709551616 ∧ Is128 i.x ∧ i.s.size ≤ 140737488351232 ∧ -9223372036854775808 ≤ i.kd ∧ i.kd ≤ 9223372036854775807 ∧ -9223372036854775808 ≤ i.k ∧ i.k ≤ 9223372036854775807
def Items (w : World) (b off : Nat) (l : List It) : Prop := ∀ i (h : i < l.length), ItAt w b (off + i * 7) l[i] ∧ (l[i]).ok
theorem ItAt.kept {S : Nat → Prop} {w w' : World} {b p : Nat} {i : It} (h : ItAt w b p i) (hk : Kept S w w') (hb : ¬ S b) : ItAt w' b p i := by
  obtain ⟨h0, h1, h2, h3, h4, h5, h6⟩ := h
  exact ⟨hk.cell h0 hb, hk.cell h1 hb, hk.cell h2 hb, hk.cell h3 hb, hk.cell h4 hb, hk.cell h5 hb, hk.cell h6 hb⟩
theorem Items.below {B : Nat} {w w' : World} {b off : Nat} {l : List It} (h : Items w b off l) (hb : Below B w w') (hB : b < B) : Items w' b off l := fun i hi => by
  obtain ⟨⟨h0, h1, h2, h3, h4, h5, h6⟩, ho⟩ := h i hi
  exact ⟨⟨(hb.cell hB).trans h0, (hb.cell hB).trans h1, (hb.cell hB).trans h2, (hb.cell hB).trans h3, (hb.cell hB).trans h4, (hb.cell hB).trans h5, (hb.cell hB).trans h6⟩, ho⟩
/-- The scale in memory. -/
def Sca (w : World) (g : Nat) (lf : Int) : Prop := w.cell? ⟨g, 0, none⟩ = some (.int .i64 lf) ∧ w.frozen? ⟨g, 0, none⟩ = false
theorem weigh_any (w : World) : Calls Try.prog 31 #[] w fun e w' => e = .returned (.pointer (some ⟨w.heap.size, 0, none⟩)) ∧ w' = w.alloc (.cells #[.int .i64 1048576] 89) := by
  go_enter Try.func31, Try.ntmps31
  go_wp2
  go_ret
  exact ⟨rfl, rfl⟩
/-- What is left behind a Take. -/
def tkN (lf n : Int) : Int := if 0 ≤ lf then lf - n else lf
theorem stake_any {w : World} {g : Nat} {lf : Int} (h : Sca w g lf) (n : Int) (hn : 0 ≤ n) (h1 : n ≤ 9000000000000000000) (h2 : lf ≤ 1048576) (h3 : -9000000000000000000 ≤ lf) : Calls Try.prog 33 #[.pointer (some ⟨g, 0, none⟩), .int .i64 n] w fun e w' => e = .returned (.bool (decide (0 ≤ tkN lf n))) ∧ Sca w' g (tkN lf n) ∧ Kept (fun k => k = g) w w' := by
  obtain ⟨c, z⟩ := h
  by_cases hl : 0 ≤ lf
  · rw [show tkN lf n = lf - n by unfold tkN; rw [if_pos hl]]
    have W : IntKind.i64.wrap (lf - n) = lf - n := by rw [IntKind.wrap_i64]; omega
    have hs : Sca (w.setCell ⟨g, 0, none⟩ (.int .i64 (lf - n))) g (lf - n) := ⟨World.cell?_setCell_same _ _ _ c, by simpa using z⟩
    have hk : Kept (fun k => k = g) w (w.setCell ⟨g, 0, none⟩ (.int .i64 (lf - n))) := Kept.set (S := fun k => k = g) (Kept.refl _ _) rfl _
    go_enter Try.func33, Try.ntmps33
    go_wp2
    go_ret
    exact ⟨by show Ending.returned (.bool (decide (n ≤ lf))) = _; rw [show decide (n ≤ lf) = decide (0 ≤ lf - n) from decide_eq_decide.2 (by omega)], hs, hk⟩
  · rw [show tkN lf n = lf by unfold tkN; rw [if_neg hl]]
    have hd : decide (0 ≤ lf) = false := by simp; omega
    go_enter Try.func33, Try.ntmps33
    go_wp2
    go_ret
    exact ⟨by simp [hd], ⟨c, z⟩, Kept.refl _ _⟩
theorem stext_any {w : World} {g : Nat} {lf : Int} (h : Sca w g lf) (s : ByteArray) (hs : s.size ≤ 140737488351232) (h2 : lf ≤ 1048576) (h3 : -9000000000000000000 ≤ lf) : Calls Try.prog 32 #[.pointer (some ⟨g, 0, none⟩), .string s] w fun e w' => e = .returned (.bool (decide (0 ≤ tkN lf ((1 + s.size / 16 : Nat) : Int)))) ∧ Sca w' g (tkN lf ((1 + s.size / 16 : Nat) : Int)) ∧ Kept (fun k => k = g) w w' := by
  have C : Hid (Calls Try.prog 33 #[.pointer (some ⟨g, 0, none⟩), .int .i64 (1 + (s.size : Int) / 16)] w fun e w' => e = .returned (.bool (decide (0 ≤ tkN lf ((1 + s.size / 16 : Nat) : Int)))) ∧ Sca w' g (tkN lf ((1 + s.size / 16 : Nat) : Int)) ∧ Kept (fun k => k = g) w w') := by
    have := stake_any h ((1 + s.size / 16 : Nat) : Int) (by omega) (by omega) h2 h3
    rw [show (((1 + s.size / 16 : Nat) : Int)) = 1 + (s.size : Int) / 16 by omega] at this ⊢
    exact this
  generalize tkN lf ((1 + s.size / 16 : Nat) : Int) = q at *
  clear h h2 h3
  go_enter Try.func32, Try.ntmps32
  go_wp2_with fail
  refine C.out.mono ?_
  rintro e w1 ⟨rfl, hS, hk⟩
  go_wp2
  go_ret
  exact ⟨rfl, hS, hk⟩
theorem fine_any {w : World} {g : Nat} {lf : Int} (h : Sca w g lf) : Calls Try.prog 34 #[.pointer (some ⟨g, 0, none⟩)] w fun e w' => e = .returned (.bool (decide (0 ≤ lf))) ∧ w' = w := by
  obtain ⟨c, z⟩ := h
  go_enter Try.func34, Try.ntmps34
  go_wp2
  go_ret
  exact ⟨by simp, rfl⟩
/-- How heavy items are. -/
def wt (l : List It) : Nat := (l.map fun i => 1 + i.s.size / 16).sum
theorem wt_snoc (l : List It) (i : It) : wt (l ++ [i]) = wt l + (1 + i.s.size / 16) := by unfold wt; rw [List.map_append, List.sum_append]; simp only [List.map_cons, List.map_nil, List.sum_cons, List.sum_nil, Nat.add_zero]
set_option maxHeartbeats 1000000 in
set_option maxRecDepth 100000 in
theorem light_any (b off cap : Nat) (l : List It) (hl : l.length ≤ 140737488351232) (w : World) (hI : Items w b off l) (hb : b < w.heap.size) :
    Calls Try.prog 9 #[.slice (some ⟨b, off, none⟩) l.length cap] w fun e w' => (∃ g, e = .returned (.bool g) ∧ (g = true → wt l ≤ 1048576)) ∧ Below w.heap.size w w' := by
  go_enter Try.func9, Try.ntmps9
  go_wp2_with fail
  refine (weigh_any _).mono ?_
  rintro e w1 ⟨rfl, rfl⟩
  have hS0 : Sca (w.alloc (.cells #[.int .i64 1048576] 89)) w.heap.size 1048576 := ⟨by simp, by simp⟩
  have hB0 : Below w.heap.size w (w.alloc (.cells #[.int .i64 1048576] 89)) := (Below.refl _ _).alloc (Nat.le_refl _) _
  generalize w.alloc (.cells #[.int .i64 1048576] 89) = W1 at *
  go_wp2_with fail
  go_loopw [4, 5] (fun x y wr => ∃ (i A : Nat) (lf : Int), x = .int .i64 A ∧ y = .int .i64 i ∧ i ≤ l.length ∧ Sca wr w.heap.size lf ∧ lf ≤ 1048576 - (wt (l.take i) : Int) ∧ -9000000000000000000 ≤ lf ∧ A ≤ 51 * wt (l.take i) ∧ wt (l.take i) ≤ 1048576 ∧ Below w.heap.size w wr) (fun _ y _ => (l.length - intOf y).toNat)
  case atStart => exact ⟨0, 0, 1048576, rfl, rfl, by omega, hS0, by simp [wt], by decide, by simp [wt], by simp [wt], hB0⟩
  case round =>
    obtain ⟨i, A, lf, rfl, rfl, hi, hS, hlf, hlf2, hA, hwt, hB⟩ := hrel
    by_cases hlt : i < l.length
    · obtain ⟨⟨h0, h1, h2, h3, h4, h5, h6⟩, ho⟩ := (hI.below hB hb) i hlt
      have hss := ho.2.2.1
      have hwi : lf ≤ 1048576 := by omega
      have C1 : Hid (Calls Try.prog 32 #[.pointer (some ⟨w.heap.size, 0, none⟩), .string l[i].s] wr fun e w' => e = .returned (.bool (decide (0 ≤ tkN lf ((1 + l[i].s.size / 16 : Nat) : Int)))) ∧ Sca w' w.heap.size (tkN lf ((1 + l[i].s.size / 16 : Nat) : Int)) ∧ Kept (fun k => k = w.heap.size) wr w') := stext_any hS _ hss hwi hlf2
      have hw1 : wt (l.take (i + 1)) = wt (l.take i) + (1 + l[i].s.size / 16) := by
        rw [List.take_succ_eq_append_getElem hlt]; exact wt_snoc _ _
      have hq : tkN lf ((1 + l[i].s.size / 16 : Nat) : Int) = if 0 ≤ lf then lf - ((1 + l[i].s.size / 16 : Nat) : Int) else lf := rfl
      obtain ⟨q, hqd⟩ : ∃ q, tkN lf ((1 + l[i].s.size / 16 : Nat) : Int) = q := ⟨_, rfl⟩
      rw [hqd] at C1 hq
      have HB : Hid (Below w.heap.size w wr) := hB
      by_cases hq0 : 0 ≤ q
      · have hl0 : 0 ≤ lf := by
          by_cases h : 0 ≤ lf
          · exact h
          · rw [if_neg h] at hq; omega
        rw [if_pos hl0] at hq
        have hw2 : wt (l.take (i + 1)) ≤ 1048576 := by omega
        have hA2 : A + 20 + l[i].s.size ≤ 51 * wt (l.take (i + 1)) := by omega
        have hq1 : q ≤ 1048576 - (wt (l.take (i + 1)) : Int) := by omega
        have hqd0 : decide (0 ≤ q) = true := by simpa using hq0
        generalize hVE : wt (l.take (i + 1)) = V at *
        have HVE : Hid (wt (l.take (i + 1)) = V) := hVE
        clear hVE
        have HI : Hid (ItAt wr b (off + i * 7) l[i]) := ⟨h0, h1, h2, h3, h4, h5, h6⟩
        generalize l[i] = I at *
        have HA : Hid (A + 20 + I.s.size ≤ 51 * V) := hA2
        have HQ : Hid (q ≤ 1048576 - (V : Int)) := hq1
        have HV : Hid (V ≤ 1048576) := hw2
        have hA3 : A ≤ 53477376 := by omega
        have hb' : ¬ b = w.heap.size := by omega
        clear hq hqd hlf hlf2 hA hwt hw1 hwi hq1 hA2 hw2 hl0 ho
        go_wp2_with fail
        refine C1.out.mono ?_
        rintro e w2 ⟨rfl, hS2, hk2⟩
        obtain ⟨g0, g1, g2, g3, g4, g5, g6⟩ := HI.out.kept hk2 hb'
        have HB2 : Hid (Below w.heap.size w w2) := HB.out.trans (hk2.below HB.out.size (fun k hk => by omega))
        clear h0 h1 h2 h3 h4 h5 h6 hk2 C1 HI hB hS
        by_cases hk6 : I.kd = 6
        · have C2 : Hid (Calls Try.prog 33 #[.pointer (some ⟨w.heap.size, 0, none⟩), .int .i64 (((A : Int) + 20 + (I.s.size : Int)) / 16)] w2 fun e w' => e = .returned (.bool (decide (0 ≤ tkN q (((A : Int) + 20 + (I.s.size : Int)) / 16)))) ∧ Sca w' w.heap.size (tkN q (((A : Int) + 20 + (I.s.size : Int)) / 16)) ∧ Kept (fun k => k = w.heap.size) w2 w') := stake_any hS2 _ (by omega) (by omega) (by have := HQ.out; omega) (by omega)
          have hk6' : (I.kd == 6) = true := by simpa using hk6
          have HT : Hid (tkN q (((A : Int) + 20 + (I.s.size : Int)) / 16) ≤ q ∧ -9000000000000000000 ≤ tkN q (((A : Int) + 20 + (I.s.size : Int)) / 16)) := by
            show _ ∧ _
            unfold tkN; rw [if_pos hq0]; omega
          generalize tkN q (((A : Int) + 20 + (I.s.size : Int)) / 16) = r at *
          go_wp2_with fail
          refine C2.out.mono ?_
          rintro e w3 ⟨rfl, hS3, hk3⟩
          have hB3 := HB2.out.trans (hk3.below HB2.out.size (fun k hk => by omega))
          go_wp2
          exact ⟨⟨i + 1, A + 20 + I.s.size, r, congrArg (Value.int .i64) (by omega), rfl, by omega, hS3, by rw [HVE.out]; have := HQ.out; have := HT.out; omega, HT.out.2, by rw [HVE.out]; exact HA.out, by rw [HVE.out]; exact HV.out, hB3⟩, by simp only [intOf]; omega⟩
        · have hk6' : (I.kd == 6) = false := by simpa using hk6
          go_wp2
          exact ⟨⟨i + 1, A + 20 + I.s.size, q, congrArg (Value.int .i64) (by omega), rfl, by omega, hS2, by rw [HVE.out]; exact HQ.out, by omega, by rw [HVE.out]; exact HA.out, by rw [HVE.out]; exact HV.out, HB2.out⟩, by simp only [intOf]; omega⟩
      · have hqd0 : decide (0 ≤ q) = false := by simpa using hq0
        have hb' : ¬ b = w.heap.size := by omega
        go_wp2_with fail
        refine C1.out.mono ?_
        rintro e w2 ⟨rfl, hS2, hk2⟩
        have hB2 := HB.out.trans (hk2.below HB.out.size (fun k hk => by omega))
        clear h0 h1 h2 h3 h4 h5 h6 C1 hk2 hq hqd
        go_wp2_with fail
        refine (fine_any hS2).mono ?_
        rintro e w3 ⟨rfl, rfl⟩
        go_wp2
        go_ret
        exact ⟨⟨false, rfl, fun h => by cases h⟩, hB2⟩
    · obtain rfl : i = l.length := by omega
      rw [List.take_of_length_le (Nat.le_refl _)] at hlf hA hwt
      have HB : Hid (Below w.heap.size w wr) := hB
      have HF : Hid (decide (0 ≤ lf) = true → wt l ≤ 1048576) := by
        show _ → _
        intro _; exact hwt
      clear hlf hA hwt hB
      go_wp2_with fail
      refine (fine_any hS).mono ?_
      rintro e w3 ⟨rfl, rfl⟩
      go_wp2
      go_ret
      exact ⟨⟨decide (0 ≤ lf), rfl, HF.out⟩, HB.out⟩
theorem light_nil (ad : Option Addr) (c : Nat) (w : World) : Calls Try.prog 9 #[.slice ad 0 c] w fun e w' => e = .returned (.bool true) ∧ Below w.heap.size w w' := by
  go_enter Try.func9, Try.ntmps9
  go_wp2_with fail
  refine (weigh_any _).mono ?_
  rintro e w1 ⟨rfl, rfl⟩
  have hS0 : Sca (w.alloc (.cells #[.int .i64 1048576] 89)) w.heap.size 1048576 := ⟨by simp, by simp⟩
  have hB0 : Below w.heap.size w (w.alloc (.cells #[.int .i64 1048576] 89)) := (Below.refl _ _).alloc (Nat.le_refl _) _
  generalize w.alloc (.cells #[.int .i64 1048576] 89) = W1 at *
  go_wp2_with fail
  go_loopw [4, 5] (fun x y wr => x = .int .i64 0 ∧ y = .int .i64 0 ∧ wr = W1) (fun _ _ _ => 0)
  case atStart => exact ⟨rfl, rfl, rfl⟩
  case round =>
    obtain ⟨rfl, rfl, rfl⟩ := hrel
    go_wp2_with fail
    refine (fine_any hS0).mono ?_
    rintro e w3 ⟨rfl, rfl⟩
    go_wp2
    go_ret
    exact ⟨rfl, hB0⟩
end Go.Proofs.Ytdpddlaedffmdaa
