/- The walk of PackWrites: whatever the script: true; older memory is as it was. -/
import Derived.Test.YtdpddlaedffmdaaWx
namespace Go.Proofs.Ytdpddlaedffmdaa
open Go.RowKit
set_option linter.unusedVariables false
set_option linter.unusedSimpArgs false

theorem own_nil (b : Nat) : ∀ k, own b (.slice none 0 0) k ↔ k = b := fun k => by simp [own, Value.ownBlock]
theorem Pair.new {B : Nat} {w : World} {b c : Nat} (hb : Wr B w b (.slice none 0 0) [] 0) (hc : Wr B w c (.slice none 0 0) [] 0) (hn : b ≠ c) : Pair B w b c (.slice none 0 0) (.slice none 0 0) [] 0 :=
  ⟨hb, hc, fun k h1 h2 => hn (((own_nil b k).1 h1).symm.trans ((own_nil c k).1 h2))⟩
/-- Two pairs, apart. -/
def Twos (B : Nat) (w : World) (a x b y : Nat) (v1 u1 v2 u2 : Value) (l1 : List UInt8) (g1 : Int) (l2 : List UInt8) (g2 : Int) : Prop :=
  Pair B w a x v1 u1 l1 g1 ∧ Pair B w b y v2 u2 l2 g2 ∧ ∀ k, pset a x v1 u1 k → ¬ pset b y v2 u2 k
theorem Twos.swap {B : Nat} {w : World} {a x b y : Nat} {v1 u1 v2 u2 : Value} {l1 l2 : List UInt8} {g1 g2 : Int} (h : Twos B w a x b y v1 u1 v2 u2 l1 g1 l2 g2) : Twos B w b y a x v2 u2 v1 u1 l2 g2 l1 g1 := ⟨h.2.1, h.1, fun k h1 h2 => h.2.2 k h2 h1⟩
theorem Twos.step {B : Nat} {w w' : World} {a x b y : Nat} {v1 u1 v2 u2 : Value} {l1 l2 l3 : List UInt8} {g1 g2 g3 : Int} (h : Twos B w a x b y v1 u1 v2 u2 l1 g1 l2 g2) (hB : B ≤ w.heap.size) (hl : PLeft B a x v1 u1 w l3 g3 w') :
    (∃ v3 u3, Twos B w' a x b y v3 u3 v2 u2 l3 g3 l2 g2) ∧ Below B w w' := by
  obtain ⟨v3, u3, P, K, N⟩ := hl
  refine ⟨⟨v3, u3, P, h.2.1.kept K (fun k hk e => h.2.2 k e hk), fun k h1 h2 => ?_⟩, K.below hB (fun k hk => (h.1.lt k hk).1)⟩
  rcases N k h1 with q | q
  · exact h.2.2 k q h2
  · have := (h.2.1.lt k h2).2; omega
/-- Four new writers. -/
theorem Twos.new {B : Nat} {w : World} (hB : B ≤ w.heap.size) :
    Twos B ((((w.alloc (.cells #[.slice none 0 0, .int .i64 0] 71)).alloc (.cells #[.slice none 0 0, .int .i64 0] 71)).alloc (.cells #[.slice none 0 0, .int .i64 0] 31)).alloc (.cells #[.slice none 0 0, .int .i64 0] 31)) w.heap.size (w.heap.size + 1 + 1) (w.heap.size + 1) (w.heap.size + 1 + 1 + 1) (.slice none 0 0) (.slice none 0 0) (.slice none 0 0) (.slice none 0 0) [] 0 [] 0 := by
  have al : ∀ (w : World) (o : Obj), Below w.heap.size w (w.alloc o) := fun w o => (Below.refl _ _).alloc (Nat.le_refl _) _
  have hz : ∀ (w : World) (o : Obj), (w.alloc o).heap.size = w.heap.size + 1 := fun w o => by simp
  have W1 := Wr.new (B := B) (w := w) hB 71
  have W2 := Wr.new (B := B) (w := w.alloc (.cells #[.slice none 0 0, .int .i64 0] 71)) (by rw [hz]; omega) 71
  have W3 := Wr.new (B := B) (w := (w.alloc (.cells #[.slice none 0 0, .int .i64 0] 71)).alloc (.cells #[.slice none 0 0, .int .i64 0] 71)) (by rw [hz, hz]; omega) 31
  have W4 := Wr.new (B := B) (w := ((w.alloc (.cells #[.slice none 0 0, .int .i64 0] 71)).alloc (.cells #[.slice none 0 0, .int .i64 0] 71)).alloc (.cells #[.slice none 0 0, .int .i64 0] 31)) (by rw [hz, hz, hz]; omega) 31
  rw [hz] at W2
  rw [hz, hz] at W3
  rw [hz, hz, hz] at W4
  refine ⟨Pair.new (((W1.below (al _ _)).below (al _ _)).below (al _ _)) (W3.below (al _ _)) (by omega), Pair.new ((W2.below (al _ _)).below (al _ _)) W4 (by omega), fun k h1 h2 => ?_⟩
  unfold pset at h1 h2
  rw [own_nil, own_nil] at h1 h2
  omega
theorem out_item : It.val ⟨false, 6, 0, 0, ⟨#[]⟩, 0⟩ = .agg #[.bool false, .int .i64 6, .int .u64 0, .int .i64 0, .string ⟨#[]⟩, .int .u64 0, .int .u64 0] := rfl
theorem out_writes {B b c : Nat} {v u : Value} {l : List UInt8} {g : Int} {w : World} (h : Pair B w b c v u l g) :
    Calls Try.prog 11 #[.pointer (some ⟨b, 0, none⟩), .pointer (some ⟨c, 0, none⟩), .agg #[.bool false, .int .i64 6, .int .u64 0, .int .i64 0, .string ⟨#[]⟩, .int .u64 0, .int .u64 0]] w fun e w' => e = .returned (.bool true) ∧ PLeft B b c v u w l g w' := writes6 h ⟨false, 6, 0, 0, ⟨#[]⟩, 0⟩ rfl
theorem wt_app (a b : List It) : wt (a ++ b) = wt a + wt b := by unfold wt; rw [List.map_append, List.sum_append]
theorem wt_take (l : List It) (i : Nat) : wt (l.take i) ≤ wt l := by
  have h : wt l = wt (l.take i) + wt (l.drop i) := by
    rw [← wt_app, List.take_append_drop]
  omega
set_option maxHeartbeats 4000000 in
set_option maxRecDepth 100000 in
/-- The walk, at some items. -/
theorem packWrites_some (b0 off cap : Nat) (l : List It) (hl : l.length ≤ 140737488351232) (w : World) (hI : Items w b0 off l) (hb : b0 < w.heap.size) : Calls Try.prog 3 #[.slice (some ⟨b0, off, none⟩) l.length cap] w fun e w' => e = .returned (.bool true) ∧ Below w.heap.size w w' := by
  go_enter Try.func3, Try.ntmps3
  go_wp2_with fail
  refine (awake_any _).mono ?_
  rintro e w1 ⟨rfl, hB1⟩
  have HB1 : Hid (Below w.heap.size w w1) := hB1
  clear hB1
  go_wp2_with fail
  have hI1 : Items w1 b0 off l := hI.below HB1.out hb
  refine (light_any b0 off cap l hl _ hI1 (Nat.lt_of_lt_of_le hb HB1.out.size)).mono ?_
  rintro e w2 ⟨⟨lg, rfl, hlg⟩, hb2⟩
  have HB2 : Hid (Below w.heap.size w w2) := bstep HB1.out hb2
  have HG : Hid (lg = true → wt l ≤ 1048576) := hlg
  clear hb2 HB1 hI1 hlg
  cases lg
  · go_wp2
    go_ret
    exact ⟨rfl, HB2.out⟩
  have HW : Hid (wt l ≤ 1048576) := HG.out rfl
  clear HG
  go_wp2_with fail
  refine (new_any _).mono ?_
  rintro e w3 ⟨rfl, rfl⟩
  go_wp2_with fail
  refine (new_any _).mono ?_
  rintro e w4 ⟨rfl, rfl⟩
  have HT : Hid (Twos w.heap.size ((((w2.alloc (.cells #[.slice none 0 0, .int .i64 0] 71)).alloc (.cells #[.slice none 0 0, .int .i64 0] 71)).alloc (.cells #[.slice none 0 0, .int .i64 0] 31)).alloc (.cells #[.slice none 0 0, .int .i64 0] 31)) w2.heap.size (w2.heap.size + 1 + 1) (w2.heap.size + 1) (w2.heap.size + 1 + 1 + 1) (.slice none 0 0) (.slice none 0 0) (.slice none 0 0) (.slice none 0 0) [] 0 [] 0) := Twos.new HB2.out.size
  have HB4 : Hid (Below w.heap.size w ((((w2.alloc (.cells #[.slice none 0 0, .int .i64 0] 71)).alloc (.cells #[.slice none 0 0, .int .i64 0] 71)).alloc (.cells #[.slice none 0 0, .int .i64 0] 31)).alloc (.cells #[.slice none 0 0, .int .i64 0] 31))) := by
    have hz := HB2.out.size
    exact (((HB2.out.alloc hz _).alloc (by simp; omega) _).alloc (by simp; omega) _).alloc (by simp; omega) _
  go_wp2_with fail
  generalize (((w2.alloc (.cells #[.slice none 0 0, .int .i64 0] 71)).alloc (.cells #[.slice none 0 0, .int .i64 0] 71)).alloc (.cells #[.slice none 0 0, .int .i64 0] 31)).alloc (.cells #[.slice none 0 0, .int .i64 0] 31) = W4 at *
  clear HB2
  go_loopw [8, 9] (fun y z wr => ∃ i : Nat, y = .int .i64 i ∧ i ≤ l.length ∧ ∃ (v1 u1 v2 u2 : Value) (l1 : List UInt8) (g1 : Int) (l2 : List UInt8) (g2 : Int), l1.length + l2.length ≤ 31 * wt (l.take i) ∧ Twos w.heap.size wr w2.heap.size (w2.heap.size + 1 + 1) (w2.heap.size + 1) (w2.heap.size + 1 + 1 + 1) v1 u1 v2 u2 l1 g1 l2 g2 ∧ Below w.heap.size w wr) (fun y _ _ => (l.length - intOf y).toNat)
  case atStart => exact ⟨0, rfl, by omega, _, _, _, _, _, _, _, _, by simp, HT.out, HB4.out⟩
  case round =>
    obtain ⟨i, rfl, hi, v1, u1, v2, u2, l1, g1, l2, g2, hln, hT, hB⟩ := hrel
    have HLN : Hid (l1.length + l2.length ≤ 31 * wt (l.take i)) := hln
    clear hln HT HB4
    by_cases hlt : i < l.length
    · obtain ⟨hit, hok⟩ := (hI.below hB hb) i hlt
      have hw1 : wt (l.take (i + 1)) = wt (l.take i) + (1 + l[i].s.size / 16) := by
        rw [List.take_succ_eq_append_getElem hlt]; exact wt_snoc _ _
      have hwl : wt (l.take (i + 1)) ≤ 1048576 := Nat.le_trans (wt_take l (i + 1)) HW.out
      have HTL : Hid (∀ lq : List UInt8, lq.length + l2.length ≤ l1.length + l2.length + l[i].s.size + 16 → lq.length + l2.length ≤ 31 * wt (l.take (i + 1))) := fun lq hq => by have := HLN.out; omega
      have HTL2 : Hid (∀ lq : List UInt8, l1.length + lq.length ≤ l1.length + l2.length + l[i].s.size + 16 → l1.length + lq.length ≤ 31 * wt (l.take (i + 1))) := fun lq hq => by have := HLN.out; omega
      have hs1 : l1.length + l[i].s.size + 26 ≤ 140737488355328 := by have := HLN.out; omega
      have hs2 : l2.length + l[i].s.size + 26 ≤ 140737488355328 := by have := HLN.out; omega
      have CA : Hid (Calls Try.prog 11 #[.pointer (some ⟨w2.heap.size, 0, none⟩), .pointer (some ⟨w2.heap.size + 1 + 1, 0, none⟩), .agg #[.bool l[i].o, .int .i64 l[i].kd, .int .u64 l[i].n, .int .i64 l[i].k, .string l[i].s, .int .u64 (hiOf l[i].x), .int .u64 (loOf l[i].x)]] wr fun e w' => e = .returned (.bool true) ∧ PLeft w.heap.size w2.heap.size (w2.heap.size + 1 + 1) v1 u1 wr (stepR l[i] l1 g1).1 (stepR l[i] l1 g1).2 w') := writes_any hT.1 hB.size l[i] hok hs1
      have CB : Hid (Calls Try.prog 11 #[.pointer (some ⟨w2.heap.size + 1, 0, none⟩), .pointer (some ⟨w2.heap.size + 1 + 1 + 1, 0, none⟩), .agg #[.bool l[i].o, .int .i64 l[i].kd, .int .u64 l[i].n, .int .i64 l[i].k, .string l[i].s, .int .u64 (hiOf l[i].x), .int .u64 (loOf l[i].x)]] wr fun e w' => e = .returned (.bool true) ∧ PLeft w.heap.size (w2.heap.size + 1) (w2.heap.size + 1 + 1 + 1) v2 u2 wr (stepR l[i] l2 g2).1 (stepR l[i] l2 g2).2 w') := writes_any hT.2.1 hB.size l[i] hok hs2
      have hA := stepR_len l[i] hok l1 g1
      have hBl := stepR_len l[i] hok l2 g2
      obtain ⟨c0, c1, c2, c3, c4, c5, c6⟩ := hit
      have HTT : Hid (Twos w.heap.size wr w2.heap.size (w2.heap.size + 1 + 1) (w2.heap.size + 1) (w2.heap.size + 1 + 1 + 1) v1 u1 v2 u2 l1 g1 l2 g2) := hT
      have HBB : Hid (Below w.heap.size w wr) := hB
      clear hT hB hw1 hwl hs1 hs2 HLN
      generalize hI0 : l[i] = I at *
      clear hI0 hok
      cases ho : I.o
      · rw [ho] at CA c0
        go_wp2_with fail
        refine CA.out.mono ?_
        rintro e w5 ⟨rfl, hL⟩
        obtain ⟨⟨v3, u3, T3⟩, B3⟩ := HTT.out.step HBB.out.size hL
        have hB5 := HBB.out.trans B3
        go_wp2
        exact ⟨⟨i + 1, rfl, by omega, _, _, _, _, _, _, _, _, HTL.out _ (by omega), T3, hB5⟩, by simp only [intOf]; omega⟩
      · rw [ho] at CB c0
        go_wp2_with fail
        refine CB.out.mono ?_
        rintro e w5 ⟨rfl, hL⟩
        obtain ⟨⟨v3, u3, T3⟩, B3⟩ := HTT.out.swap.step HBB.out.size hL
        have hB5 := HBB.out.trans B3
        have T4 := T3.swap
        go_wp2
        exact ⟨⟨i + 1, rfl, by omega, _, _, _, _, _, _, _, _, HTL2.out _ (by omega), T4, hB5⟩, by simp only [intOf]; omega⟩
    · obtain rfl : i = l.length := by omega
      have HTT : Hid (Twos w.heap.size wr w2.heap.size (w2.heap.size + 1 + 1) (w2.heap.size + 1) (w2.heap.size + 1 + 1 + 1) v1 u1 v2 u2 l1 g1 l2 g2) := hT
      have HBB : Hid (Below w.heap.size w wr) := hB
      clear hT hB
      go_wp2_with fail
      refine (out_writes HTT.out.1).mono ?_
      rintro e w5 ⟨rfl, hL⟩
      obtain ⟨⟨v3, u3, T3⟩, B3⟩ := HTT.out.step HBB.out.size hL
      have HT3 : Hid (Twos w.heap.size w5 w2.heap.size (w2.heap.size + 1 + 1) (w2.heap.size + 1) (w2.heap.size + 1 + 1 + 1) v3 u3 v2 u2 l1 g1 l2 g2) := T3
      have HB5 : Hid (Below w.heap.size w w5) := HBB.out.trans B3
      clear T3 B3 hL HBB HTT
      go_wp2_with fail
      refine (out_writes HT3.out.2.1).mono ?_
      rintro e w6 ⟨rfl, hL⟩
      obtain ⟨-, B6⟩ := HT3.out.swap.step HB5.out.size hL
      have hB6 := HB5.out.trans B6
      clear hL HB5 HT3
      go_wp2
      go_ret
      exact ⟨rfl, hB6⟩
set_option maxHeartbeats 4000000 in
set_option maxRecDepth 100000 in
/-- The walk, at no item. -/
theorem packWrites_empty (ad : Option Addr) (cap : Nat) (w : World) : Calls Try.prog 3 #[.slice ad 0 cap] w fun e w' => e = .returned (.bool true) ∧ Below w.heap.size w w' := by
  go_enter Try.func3, Try.ntmps3
  go_wp2_with fail
  refine (awake_any _).mono ?_
  rintro e w1 ⟨rfl, hB1⟩
  have HB1 : Hid (Below w.heap.size w w1) := hB1
  clear hB1
  go_wp2_with fail
  refine (light_nil ad cap _).mono ?_
  rintro e w2 ⟨rfl, hb2⟩
  have HB2 : Hid (Below w.heap.size w w2) := bstep HB1.out hb2
  clear hb2 HB1
  go_wp2_with fail
  refine (new_any _).mono ?_
  rintro e w3 ⟨rfl, rfl⟩
  go_wp2_with fail
  refine (new_any _).mono ?_
  rintro e w4 ⟨rfl, rfl⟩
  have HT : Hid (Twos w.heap.size ((((w2.alloc (.cells #[.slice none 0 0, .int .i64 0] 71)).alloc (.cells #[.slice none 0 0, .int .i64 0] 71)).alloc (.cells #[.slice none 0 0, .int .i64 0] 31)).alloc (.cells #[.slice none 0 0, .int .i64 0] 31)) w2.heap.size (w2.heap.size + 1 + 1) (w2.heap.size + 1) (w2.heap.size + 1 + 1 + 1) (.slice none 0 0) (.slice none 0 0) (.slice none 0 0) (.slice none 0 0) [] 0 [] 0) := Twos.new HB2.out.size
  have HB4 : Hid (Below w.heap.size w ((((w2.alloc (.cells #[.slice none 0 0, .int .i64 0] 71)).alloc (.cells #[.slice none 0 0, .int .i64 0] 71)).alloc (.cells #[.slice none 0 0, .int .i64 0] 31)).alloc (.cells #[.slice none 0 0, .int .i64 0] 31))) := by
    have hz := HB2.out.size
    exact (((HB2.out.alloc hz _).alloc (by simp; omega) _).alloc (by simp; omega) _).alloc (by simp; omega) _
  go_wp2_with fail
  generalize (((w2.alloc (.cells #[.slice none 0 0, .int .i64 0] 71)).alloc (.cells #[.slice none 0 0, .int .i64 0] 71)).alloc (.cells #[.slice none 0 0, .int .i64 0] 31)).alloc (.cells #[.slice none 0 0, .int .i64 0] 31) = W4 at *
  clear HB2
  go_loopw [8] (fun y wr => y = .int .i64 0 ∧ ∃ (v1 u1 v2 u2 : Value) (l1 : List UInt8) (g1 : Int) (l2 : List UInt8) (g2 : Int), Twos w.heap.size wr w2.heap.size (w2.heap.size + 1 + 1) (w2.heap.size + 1) (w2.heap.size + 1 + 1 + 1) v1 u1 v2 u2 l1 g1 l2 g2 ∧ Below w.heap.size w wr) (fun _ _ => 0)
  case atStart => exact ⟨rfl, _, _, _, _, _, _, _, _, HT.out, HB4.out⟩
  case round =>
    obtain ⟨rfl, v1, u1, v2, u2, l1, g1, l2, g2, hT, hB⟩ := hrel
    have HTT : Hid (Twos w.heap.size wr w2.heap.size (w2.heap.size + 1 + 1) (w2.heap.size + 1) (w2.heap.size + 1 + 1 + 1) v1 u1 v2 u2 l1 g1 l2 g2) := hT
    have HBB : Hid (Below w.heap.size w wr) := hB
    clear hT hB
    go_wp2_with fail
    refine (out_writes HTT.out.1).mono ?_
    rintro e w5 ⟨rfl, hL⟩
    obtain ⟨⟨v3, u3, T3⟩, B3⟩ := HTT.out.step HBB.out.size hL
    have HT3 : Hid (Twos w.heap.size w5 w2.heap.size (w2.heap.size + 1 + 1) (w2.heap.size + 1) (w2.heap.size + 1 + 1 + 1) v3 u3 v2 u2 l1 g1 l2 g2) := T3
    have HB5 : Hid (Below w.heap.size w w5) := HBB.out.trans B3
    clear T3 B3 hL HBB HTT
    go_wp2_with fail
    refine (out_writes HT3.out.2.1).mono ?_
    rintro e w6 ⟨rfl, hL⟩
    obtain ⟨-, B6⟩ := HT3.out.swap.step HB5.out.size hL
    have hB6 := HB5.out.trans B6
    clear hL HB5 HT3
    go_wp2
    go_ret
    exact ⟨rfl, hB6⟩
end Go.Proofs.Ytdpddlaedffmdaa
