/- The walk of PackForms: whatever the bytes and the script: true; older memory is as it was. -/
import Derived.Test.YtdpddlaedffmdaaGa
namespace Go.Proofs.Ytdpddlaedffmdaa
open Go.RowKit
set_option linter.unusedVariables false
set_option linter.unusedSimpArgs false

theorem Fo.new {B : Nat} {w1 : World} (hB : B ≤ w1.heap.size) (s : ByteArray) : Fo B ((w1.alloc (.cells #[.slice none 0 0, .int .i64 0] 71)).alloc (.cells #[.string s, .int .i64 0, .int .i64 0] 75)) w1.heap.size (w1.heap.size + 1) s 0 0 (upto s 0) := by
  have al : ∀ (w : World) (o : Obj), Below w.heap.size w (w.alloc o) := fun w o => (Below.refl _ _).alloc (Nat.le_refl _) _
  have W1 := Wr.new (B := B) (w := w1) hB 71
  have W2 := Rd.new s (w1.alloc (.cells #[.slice none 0 0, .int .i64 0] 71)) 75
  rw [show (w1.alloc (.cells #[.slice none 0 0, .int .i64 0] 71)).heap.size = w1.heap.size + 1 by simp] at W2
  refine ⟨.slice none 0 0, ?_, W2, ?_, by omega⟩
  · rw [show upto s 0 = [] by unfold upto; simp]; exact W1.below (al _ _)
  · rw [own_nil]; omega
theorem Fg.cells {B : Nat} {w : World} {bw rb g : Nat} {s : ByteArray} {a : Nat} {f : Int} {L : List UInt8} {x : Nat} (h : Fg B w bw rb g s a f L x) : w.cell? ⟨g, 0, none⟩ = some (.int .u64 (hiOf x)) ∧ w.cell? ⟨g, 1, none⟩ = some (.int .u64 (loOf x)) ∧ w.frozen? ⟨g, 0, none⟩ = false ∧ w.frozen? ⟨g, 1, none⟩ = false := by
  obtain ⟨v, h1, h2, h3, h4, h5, h6, h7, h8, h9, h10, h11⟩ := h
  exact ⟨h8, h9, h10, h11⟩
theorem endR_err (s : ByteArray) (a : Nat) {f : Int} (h : ¬ f = 0) : endR s a f = f := by unfold endR; rw [if_neg (fun q => h q.1)]
theorem faultAt_err (a : Nat) {f : Int} (h : ¬ f = 0) : faultAt a f = (a : Int) := by unfold faultAt; rw [if_neg h]
theorem WaAt.below {B : Nat} {w w' : World} {b p : Nat} {i : Wa} (h : WaAt w b p i) (hb : Below B w w') (hB : b < B) : WaAt w' b p i := by
  obtain ⟨h0, h1, h2, h3⟩ := h
  exact ⟨(hb.cell hB).trans h0, (hb.cell hB).trans h1, (hb.cell hB).trans h2, (hb.cell hB).trans h3⟩
set_option maxHeartbeats 4000000 in
set_option maxRecDepth 100000 in
theorem packForms_empty (s : ByteArray) (hsz : s.size ≤ 140737488351232) (ad : Option Addr) (cap : Nat) (w : World) : Calls Try.prog 6 #[.string s, .slice ad 0 cap] w fun e w' => e = .returned (.bool true) ∧ Below w.heap.size w w' := by
  go_enter Try.func6, Try.ntmps6
  go_wp2_with fail
  refine (awake_any _).mono ?_
  rintro e w1 ⟨rfl, hB1⟩
  have HB1 : Hid (Below w.heap.size w w1) := hB1
  clear hB1
  go_wp2_with fail
  refine (new_any _).mono ?_
  rintro e w2 ⟨rfl, rfl⟩
  go_wp2_with fail
  refine (open_any s _).mono ?_
  rintro e w3 ⟨rfl, rfl⟩
  have HF0 : Hid (Fo w.heap.size ((w1.alloc (.cells #[.slice none 0 0, .int .i64 0] 71)).alloc (.cells #[.string s, .int .i64 0, .int .i64 0] 75)) w1.heap.size (w1.heap.size + 1) s 0 0 (upto s 0)) := Fo.new HB1.out.size s
  have HB4 : Hid (Below w.heap.size w ((w1.alloc (.cells #[.slice none 0 0, .int .i64 0] 71)).alloc (.cells #[.string s, .int .i64 0, .int .i64 0] 75))) := (HB1.out.alloc HB1.out.size _).alloc (by have := HB1.out.size; simp; omega) _
  go_wp2_with fail
  generalize ((w1.alloc (.cells #[.slice none 0 0, .int .i64 0] 71)).alloc (.cells #[.string s, .int .i64 0, .int .i64 0] 75)) = W4 at *
  clear HB1
  generalize w1.heap.size = bw at *
  go_loopw [8] (fun y wr => y = .int .i64 0 ∧ ∃ a, Fo w.heap.size wr bw (bw + 1) s a 0 (upto s a) ∧ Below w.heap.size w wr) (fun _ _ => 0)
  case atStart => exact ⟨rfl, 0, HF0.out, HB4.out⟩
  case round =>
    obtain ⟨rfl, a, hF, hB⟩ := hrel
    clear HF0 HB4
    have HBB : Hid (Below w.heap.size w wr) := hB
    have HFF : Hid (Fo w.heap.size wr bw (bw + 1) s a 0 (upto s a)) := hF
    have hle : a ≤ s.size := hF.le
    clear hF hB
    go_wp2_with fail
    have CO : Hid (Calls Try.prog 15 #[.pointer (some ⟨bw, 0, none⟩)] wr fun e w' => e = .returned (.tuple #[.string (s.extract 0 a), .int .i64 0]) ∧ Fo w.heap.size w' bw (bw + 1) s a 0 (upto s a) ∧ Below w.heap.size wr w') := by
      have := HFF.out.out; rw [upto_arr] at this; exact this
    refine CO.out.mono ?_
    rintro e w5 ⟨rfl, hF5, hB5⟩
    have HF5 : Hid (Fo w.heap.size w5 bw (bw + 1) s a 0 (upto s a)) := hF5
    have HB5 : Hid (Below w.heap.size w w5) := HBB.out.trans hB5
    clear hF5 hB5 CO HBB HFF
    go_wp2_with fail
    refine HF5.out.at.mono ?_
    rintro e w6 ⟨rfl, rfl⟩
    go_wp2_with fail
    refine (HF5.out.end hsz).mono ?_
    rintro e w7 ⟨rfl, hF7, hB7⟩
    have HF7 : Hid (Fo w.heap.size w7 bw (bw + 1) s a 0 (upto s a)) := hF7
    have HB7 : Hid (Below w.heap.size w w7) := HB5.out.trans hB7
    clear hF7 hB7 HB5 HF5
    by_cases hae : a = s.size
    · rw [show endR s a 0 = 0 by unfold endR; rw [if_neg (by omega)]]
      have hae' : ((a : Int) == (s.size : Int)) = true := by simp; omega
      go_wp2_with fail
      refine HF7.out.at.mono ?_
      rintro e w8 ⟨rfl, rfl⟩
      go_wp2
      go_ret
      exact ⟨by simp [hae], HB7.out⟩
    · rw [show endR s a 0 = 31 by unfold endR; rw [if_pos ⟨rfl, by omega⟩]]
      have hae' : ((a : Int) == (s.size : Int)) = false := by simp; omega
      go_wp2_with fail
      refine HF7.out.at.mono ?_
      rintro e w8 ⟨rfl, rfl⟩
      go_wp2
      go_ret
      exact ⟨by simp, HB7.out⟩
end Go.Proofs.Ytdpddlaedffmdaa
