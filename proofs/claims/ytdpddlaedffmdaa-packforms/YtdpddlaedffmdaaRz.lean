/- The walk of PackReads: whatever the texts and the script: true; older memory is as it was. -/
import Derived.Test.YtdpddlaedffmdaaRy
namespace Go.Proofs.Ytdpddlaedffmdaa
open Go.RowKit
set_option linter.unusedVariables false
set_option linter.unusedSimpArgs false

theorem reads_any {w : World} {b c : Nat} {s : ByteArray} {a : Nat} {f : Int} (h : Both w b c s a f) (hs : s.size ≤ 140737488351232) (i : Wa) (hi : i.ok) : Calls Try.prog 13 #[.pointer (some ⟨b, 0, none⟩), .pointer (some ⟨c, 0, none⟩), .agg #[.bool i.o, .int .i64 i.kd, .int .u64 i.n, .int .i64 i.k]] w fun e w' => e = .returned (.bool true) ∧ BLeft b c s w w' := by
  by_cases k1 : i.kd = 1
  · exact reads1 h hs i hi k1
  by_cases k2 : i.kd = 2
  · exact reads2 h hs i hi k2
  by_cases k3 : i.kd = 3
  · exact reads3 h hs i hi k3
  by_cases k4 : i.kd = 4
  · exact reads4 h hs i hi k4
  by_cases k5 : i.kd = 5
  · exact reads5 h hs i hi k5
  exact reads0 h hs i hi k1 k2 k3 k4 k5
def Wants (w : World) (b off : Nat) (l : List Wa) : Prop := ∀ i (h : i < l.length), WaAt w b (off + i * 4) l[i] ∧ (l[i]).ok
theorem Wants.below {B : Nat} {w w' : World} {b off : Nat} {l : List Wa} (h : Wants w b off l) (hb : Below B w w') (hB : b < B) : Wants w' b off l := fun i hi => by
  obtain ⟨⟨h0, h1, h2, h3⟩, ho⟩ := h i hi
  exact ⟨⟨(hb.cell hB).trans h0, (hb.cell hB).trans h1, (hb.cell hB).trans h2, (hb.cell hB).trans h3⟩, ho⟩
/-- Two readers and the document's two. -/
def Four (B : Nat) (w : World) (n : Nat) (s1 s2 : ByteArray) (p1 : Nat) (f1 : Int) (p2 : Nat) (f2 : Int) : Prop :=
  B ≤ n ∧ Both w n (n + 1 + 1) s1 p1 f1 ∧ Both w (n + 1) (n + 1 + 1 + 1) s2 p2 f2
theorem Four.one {B : Nat} {w w' : World} {n : Nat} {s1 s2 : ByteArray} {p1 p2 : Nat} {f1 f2 : Int} (h : Four B w n s1 s2 p1 f1 p2 f2) (hB : B ≤ w.heap.size) (hl : BLeft n (n + 1 + 1) s1 w w') : (∃ p f, Four B w' n s1 s2 p f p2 f2) ∧ Below B w w' := by
  obtain ⟨p, f, P, K⟩ := hl
  obtain ⟨h0, h1, h2⟩ := h
  refine ⟨⟨p, f, h0, P, h2.kept K ?_ ?_⟩, K.below hB ?_⟩
  · rintro (e | e) <;> omega
  · rintro (e | e) <;> omega
  · rintro k (e | e) <;> omega
theorem Four.two {B : Nat} {w w' : World} {n : Nat} {s1 s2 : ByteArray} {p1 p2 : Nat} {f1 f2 : Int} (h : Four B w n s1 s2 p1 f1 p2 f2) (hB : B ≤ w.heap.size) (hl : BLeft (n + 1) (n + 1 + 1 + 1) s2 w w') : (∃ p f, Four B w' n s1 s2 p1 f1 p f) ∧ Below B w w' := by
  obtain ⟨p, f, P, K⟩ := hl
  obtain ⟨h0, h1, h2⟩ := h
  refine ⟨⟨p, f, h0, h1.kept K ?_ ?_, P⟩, K.below hB ?_⟩
  · rintro (e | e) <;> omega
  · rintro (e | e) <;> omega
  · rintro k (e | e) <;> omega
theorem Four.new {B : Nat} {w1 : World} (hB : B ≤ w1.heap.size) (s1 s2 : ByteArray) : Four B ((((w1.alloc (.cells #[.string s1, .int .i64 0, .int .i64 0] 75)).alloc (.cells #[.string s2, .int .i64 0, .int .i64 0] 75)).alloc (.cells #[.string s1, .int .i64 0, .int .i64 0, .int .i64 0] 43)).alloc (.cells #[.string s2, .int .i64 0, .int .i64 0, .int .i64 0] 43)) w1.heap.size s1 s2 0 0 0 0 := by
  have al : ∀ (w : World) (o : Obj), Below w.heap.size w (w.alloc o) := fun w o => (Below.refl _ _).alloc (Nat.le_refl _) _
  have hz : ∀ (w : World) (o : Obj), (w.alloc o).heap.size = w.heap.size + 1 := fun w o => by simp
  have W1 := Rd.new s1 w1 75
  have W2 := Rd.new s2 (w1.alloc (.cells #[.string s1, .int .i64 0, .int .i64 0] 75)) 75
  have W3 := RF.new s1 ((w1.alloc (.cells #[.string s1, .int .i64 0, .int .i64 0] 75)).alloc (.cells #[.string s2, .int .i64 0, .int .i64 0] 75)) 43
  have W4 := RF.new s2 (((w1.alloc (.cells #[.string s1, .int .i64 0, .int .i64 0] 75)).alloc (.cells #[.string s2, .int .i64 0, .int .i64 0] 75)).alloc (.cells #[.string s1, .int .i64 0, .int .i64 0, .int .i64 0] 43)) 43
  rw [hz] at W2
  rw [hz, hz] at W3
  rw [hz, hz, hz] at W4
  exact ⟨hB, ⟨((W1.below (al _ _)).below (al _ _)).below (al _ _), W3.below (al _ _), by omega⟩, ⟨(W2.below (al _ _)).below (al _ _), W4, by omega⟩⟩
theorem zero_ok : Wa.ok ⟨false, 0, 0, 0⟩ := by unfold Wa.ok; decide
theorem zero_reads {w : World} {b c : Nat} {s : ByteArray} {a : Nat} {f : Int} (h : Both w b c s a f) (hs : s.size ≤ 140737488351232) : Calls Try.prog 13 #[.pointer (some ⟨b, 0, none⟩), .pointer (some ⟨c, 0, none⟩), .agg #[.bool false, .int .i64 0, .int .u64 0, .int .i64 0]] w fun e w' => e = .returned (.bool true) ∧ BLeft b c s w w' := reads_any h hs ⟨false, 0, 0, 0⟩ zero_ok
set_option maxHeartbeats 4000000 in
set_option maxRecDepth 100000 in
/-- The walk, at some wants. -/
theorem packReads_some (s1 s2 : ByteArray) (hs1 : s1.size ≤ 140737488351232) (hs2 : s2.size ≤ 140737488351232) (b0 off cap : Nat) (l : List Wa) (hl : l.length ≤ 140737488351232) (w : World) (hI : Wants w b0 off l) (hb : b0 < w.heap.size) : Calls Try.prog 4 #[.string s1, .string s2, .slice (some ⟨b0, off, none⟩) l.length cap] w fun e w' => e = .returned (.bool true) ∧ Below w.heap.size w w' := by
  go_enter Try.func4, Try.ntmps4
  go_wp2_with fail
  refine (awake_any _).mono ?_
  rintro e w1 ⟨rfl, hB1⟩
  have HB1 : Hid (Below w.heap.size w w1) := hB1
  clear hB1
  go_wp2_with fail
  refine (open_any s1 _).mono ?_
  rintro e w2 ⟨rfl, rfl⟩
  go_wp2_with fail
  refine (open_any s2 _).mono ?_
  rintro e w3 ⟨rfl, rfl⟩
  have HT : Hid (Four w.heap.size ((((w1.alloc (.cells #[.string s1, .int .i64 0, .int .i64 0] 75)).alloc (.cells #[.string s2, .int .i64 0, .int .i64 0] 75)).alloc (.cells #[.string s1, .int .i64 0, .int .i64 0, .int .i64 0] 43)).alloc (.cells #[.string s2, .int .i64 0, .int .i64 0, .int .i64 0] 43)) w1.heap.size s1 s2 0 0 0 0) := Four.new HB1.out.size s1 s2
  have HB4 : Hid (Below w.heap.size w ((((w1.alloc (.cells #[.string s1, .int .i64 0, .int .i64 0] 75)).alloc (.cells #[.string s2, .int .i64 0, .int .i64 0] 75)).alloc (.cells #[.string s1, .int .i64 0, .int .i64 0, .int .i64 0] 43)).alloc (.cells #[.string s2, .int .i64 0, .int .i64 0, .int .i64 0] 43))) := by
    have hz := HB1.out.size
    exact (((HB1.out.alloc hz _).alloc (by simp; omega) _).alloc (by simp; omega) _).alloc (by simp; omega) _
  go_wp2_with fail
  generalize ((((w1.alloc (.cells #[.string s1, .int .i64 0, .int .i64 0] 75)).alloc (.cells #[.string s2, .int .i64 0, .int .i64 0] 75)).alloc (.cells #[.string s1, .int .i64 0, .int .i64 0, .int .i64 0] 43)).alloc (.cells #[.string s2, .int .i64 0, .int .i64 0, .int .i64 0] 43)) = W4 at *
  clear HB1
  go_loopw [12, 13] (fun y z wr => ∃ i : Nat, y = .int .i64 i ∧ i ≤ l.length ∧ ∃ (p1 : Nat) (f1 : Int) (p2 : Nat) (f2 : Int), Four w.heap.size wr w1.heap.size s1 s2 p1 f1 p2 f2 ∧ Below w.heap.size w wr) (fun y _ _ => (l.length - intOf y).toNat)
  case atStart => exact ⟨0, rfl, by omega, _, _, _, _, HT.out, HB4.out⟩
  case round =>
    obtain ⟨i, rfl, hi, p1, f1, p2, f2, hT, hB⟩ := hrel
    clear HT HB4
    by_cases hlt : i < l.length
    · obtain ⟨hit, hok⟩ := (hI.below hB hb) i hlt
      have CA : Hid (Calls Try.prog 13 #[.pointer (some ⟨w1.heap.size, 0, none⟩), .pointer (some ⟨w1.heap.size + 1 + 1, 0, none⟩), .agg #[.bool l[i].o, .int .i64 l[i].kd, .int .u64 l[i].n, .int .i64 l[i].k]] wr fun e w' => e = .returned (.bool true) ∧ BLeft w1.heap.size (w1.heap.size + 1 + 1) s1 wr w') := reads_any hT.2.1 hs1 l[i] hok
      have CB : Hid (Calls Try.prog 13 #[.pointer (some ⟨w1.heap.size + 1, 0, none⟩), .pointer (some ⟨w1.heap.size + 1 + 1 + 1, 0, none⟩), .agg #[.bool l[i].o, .int .i64 l[i].kd, .int .u64 l[i].n, .int .i64 l[i].k]] wr fun e w' => e = .returned (.bool true) ∧ BLeft (w1.heap.size + 1) (w1.heap.size + 1 + 1 + 1) s2 wr w') := reads_any hT.2.2 hs2 l[i] hok
      obtain ⟨c0, c1, c2, c3⟩ := hit
      have HTT : Hid (Four w.heap.size wr w1.heap.size s1 s2 p1 f1 p2 f2) := hT
      have HBB : Hid (Below w.heap.size w wr) := hB
      clear hT hB
      generalize hI0 : l[i] = I at *
      clear hI0 hok
      cases ho : I.o
      · rw [ho] at CA c0
        go_wp2_with fail
        refine CA.out.mono ?_
        rintro e w5 ⟨rfl, hL⟩
        obtain ⟨⟨p3, f3, T3⟩, B3⟩ := HTT.out.one HBB.out.size hL
        have hB5 := HBB.out.trans B3
        go_wp2
        exact ⟨⟨i + 1, rfl, by omega, _, _, _, _, T3, hB5⟩, by simp only [intOf]; omega⟩
      · rw [ho] at CB c0
        go_wp2_with fail
        refine CB.out.mono ?_
        rintro e w5 ⟨rfl, hL⟩
        obtain ⟨⟨p3, f3, T3⟩, B3⟩ := HTT.out.two HBB.out.size hL
        have hB5 := HBB.out.trans B3
        go_wp2
        exact ⟨⟨i + 1, rfl, by omega, _, _, _, _, T3, hB5⟩, by simp only [intOf]; omega⟩
    · obtain rfl : i = l.length := by omega
      have HTT : Hid (Four w.heap.size wr w1.heap.size s1 s2 p1 f1 p2 f2) := hT
      have HBB : Hid (Below w.heap.size w wr) := hB
      clear hT hB
      go_wp2_with fail
      refine (zero_reads HTT.out.2.1 hs1).mono ?_
      rintro e w5 ⟨rfl, hL⟩
      obtain ⟨⟨p3, f3, T3⟩, B3⟩ := HTT.out.one HBB.out.size hL
      have HT3 : Hid (Four w.heap.size w5 w1.heap.size s1 s2 p3 f3 p2 f2) := T3
      have HB5 : Hid (Below w.heap.size w w5) := HBB.out.trans B3
      clear T3 B3 hL HBB HTT
      go_wp2_with fail
      refine (zero_reads HT3.out.2.2 hs2).mono ?_
      rintro e w6 ⟨rfl, hL⟩
      obtain ⟨-, B6⟩ := HT3.out.two HB5.out.size hL
      have hB6 := HB5.out.trans B6
      clear hL HB5 HT3
      go_wp2
      go_ret
      exact ⟨rfl, hB6⟩
set_option maxHeartbeats 4000000 in
set_option maxRecDepth 100000 in
/-- The walk, at no want. -/
theorem packReads_empty (s1 s2 : ByteArray) (hs1 : s1.size ≤ 140737488351232) (hs2 : s2.size ≤ 140737488351232) (ad : Option Addr) (cap : Nat) (w : World) : Calls Try.prog 4 #[.string s1, .string s2, .slice ad 0 cap] w fun e w' => e = .returned (.bool true) ∧ Below w.heap.size w w' := by
  go_enter Try.func4, Try.ntmps4
  go_wp2_with fail
  refine (awake_any _).mono ?_
  rintro e w1 ⟨rfl, hB1⟩
  have HB1 : Hid (Below w.heap.size w w1) := hB1
  clear hB1
  go_wp2_with fail
  refine (open_any s1 _).mono ?_
  rintro e w2 ⟨rfl, rfl⟩
  go_wp2_with fail
  refine (open_any s2 _).mono ?_
  rintro e w3 ⟨rfl, rfl⟩
  have HT : Hid (Four w.heap.size ((((w1.alloc (.cells #[.string s1, .int .i64 0, .int .i64 0] 75)).alloc (.cells #[.string s2, .int .i64 0, .int .i64 0] 75)).alloc (.cells #[.string s1, .int .i64 0, .int .i64 0, .int .i64 0] 43)).alloc (.cells #[.string s2, .int .i64 0, .int .i64 0, .int .i64 0] 43)) w1.heap.size s1 s2 0 0 0 0) := Four.new HB1.out.size s1 s2
  have HB4 : Hid (Below w.heap.size w ((((w1.alloc (.cells #[.string s1, .int .i64 0, .int .i64 0] 75)).alloc (.cells #[.string s2, .int .i64 0, .int .i64 0] 75)).alloc (.cells #[.string s1, .int .i64 0, .int .i64 0, .int .i64 0] 43)).alloc (.cells #[.string s2, .int .i64 0, .int .i64 0, .int .i64 0] 43))) := by
    have hz := HB1.out.size
    exact (((HB1.out.alloc hz _).alloc (by simp; omega) _).alloc (by simp; omega) _).alloc (by simp; omega) _
  go_wp2_with fail
  generalize ((((w1.alloc (.cells #[.string s1, .int .i64 0, .int .i64 0] 75)).alloc (.cells #[.string s2, .int .i64 0, .int .i64 0] 75)).alloc (.cells #[.string s1, .int .i64 0, .int .i64 0, .int .i64 0] 43)).alloc (.cells #[.string s2, .int .i64 0, .int .i64 0, .int .i64 0] 43)) = W4 at *
  clear HB1
  go_loopw [12] (fun y wr => y = .int .i64 0 ∧ ∃ (p1 : Nat) (f1 : Int) (p2 : Nat) (f2 : Int), Four w.heap.size wr w1.heap.size s1 s2 p1 f1 p2 f2 ∧ Below w.heap.size w wr) (fun _ _ => 0)
  case atStart => exact ⟨rfl, _, _, _, _, HT.out, HB4.out⟩
  case round =>
    obtain ⟨rfl, p1, f1, p2, f2, hT, hB⟩ := hrel
    have HTT : Hid (Four w.heap.size wr w1.heap.size s1 s2 p1 f1 p2 f2) := hT
    have HBB : Hid (Below w.heap.size w wr) := hB
    clear hT hB
    go_wp2_with fail
    refine (zero_reads HTT.out.2.1 hs1).mono ?_
    rintro e w5 ⟨rfl, hL⟩
    obtain ⟨⟨p3, f3, T3⟩, B3⟩ := HTT.out.one HBB.out.size hL
    have HT3 : Hid (Four w.heap.size w5 w1.heap.size s1 s2 p3 f3 p2 f2) := T3
    have HB5 : Hid (Below w.heap.size w w5) := HBB.out.trans B3
    clear T3 B3 hL HBB HTT
    go_wp2_with fail
    refine (zero_reads HT3.out.2.2 hs2).mono ?_
    rintro e w6 ⟨rfl, hL⟩
    obtain ⟨-, B6⟩ := HT3.out.two HB5.out.size hL
    have hB6 := HB5.out.trans B6
    clear hL HB5 HT3
    go_wp2
    go_ret
    exact ⟨rfl, hB6⟩
end Go.Proofs.Ytdpddlaedffmdaa
