/- A writer behind a reader: each call of PackForms, with what it leaves. -/
import Derived.Test.YtdpddlaedffmdaaFc
import Derived.Test.YtdpddlaedffmdaaRz
import Derived.Test.YtdpddlaedffmdaaBw
namespace Go.Proofs.Ytdpddlaedffmdaa
open Go.RowKit
set_option linter.unusedVariables false
set_option linter.unusedSimpArgs false

/-- The bytes up to a place. -/
def upto (s : ByteArray) (a : Nat) : List UInt8 := s.data.toList.take a
theorem upto_arr (s : ByteArray) (a : Nat) : (⟨(upto s a).toArray⟩ : ByteArray) = s.extract 0 a := by
  apply ByteArray.ext; apply Array.ext'
  have := ext_list s 0 a
  rw [Nat.zero_add, List.drop_zero] at this
  rw [this]; rfl
theorem upto_len (s : ByteArray) (a : Nat) (h : a ≤ s.size) : (upto s a).length = a := by
  unfold upto; rw [List.length_take, size_list]; omega
def Fo (B : Nat) (w : World) (bw rb : Nat) (s : ByteArray) (a : Nat) (f : Int) (L : List UInt8) : Prop :=
  ∃ v, Wr B w bw v L 0 ∧ Rd w rb s a f ∧ ¬ own bw v rb ∧ B ≤ rb
def Fg (B : Nat) (w : World) (bw rb g : Nat) (s : ByteArray) (a : Nat) (f : Int) (L : List UInt8) (x : Nat) : Prop :=
  ∃ v, Wr B w bw v L 0 ∧ Rd w rb s a f ∧ ¬ own bw v rb ∧ B ≤ rb ∧ ¬ own bw v g ∧ ¬ g = rb ∧ B ≤ g ∧ w.cell? ⟨g, 0, none⟩ = some (.int .u64 (hiOf x)) ∧ w.cell? ⟨g, 1, none⟩ = some (.int .u64 (loOf x)) ∧ w.frozen? ⟨g, 0, none⟩ = false ∧ w.frozen? ⟨g, 1, none⟩ = false
section
variable {B : Nat} {w : World} {bw rb g : Nat} {s : ByteArray} {a : Nat} {f : Int} {L : List UInt8} {x : Nat}
theorem Fo.size (h : Fo B w bw rb s a f L) : B ≤ w.heap.size := by obtain ⟨v, h1, h2, h3, h4⟩ := h; have := h2.lt; omega
theorem Fo.le (h : Fo B w bw rb s a f L) : a ≤ s.size := by obtain ⟨v, h1, h2, h3, h4⟩ := h; exact h2.1.2.2.2
theorem Fg.le (h : Fg B w bw rb g s a f L x) : a ≤ s.size := by obtain ⟨v, h1, h2, h3, h4⟩ := h; exact h2.1.2.2.2
theorem Fg.size (h : Fg B w bw rb g s a f L x) : B ≤ w.heap.size := by obtain ⟨v, h1, h2, h3, h4, _⟩ := h; have := h2.lt; omega
theorem Fo.read {w' : World} {a' : Nat} {f' : Int} (h : Fo B w bw rb s a f L) (hk : Kept (fun k => k = rb) w w') (hr : Rd w' rb s a' f') : Fo B w' bw rb s a' f' L ∧ Below B w w' := by
  have hB := h.size
  obtain ⟨v, h1, h2, h3, h4⟩ := h
  exact ⟨⟨v, h1.kept hk (fun e => h3 (.inl (by have e : bw = rb := e; exact e.symm))) (fun k hk' e => h3 (by have e : k = rb := e; exact e ▸ .inr hk')), hr, h3, h4⟩, Rd.step hB h4 hk⟩
theorem Fg.read {w' : World} {a' : Nat} {f' : Int} (h : Fg B w bw rb g s a f L x) (hk : Kept (fun k => k = rb) w w') (hr : Rd w' rb s a' f') : Fg B w' bw rb g s a' f' L x ∧ Below B w w' := by
  have hB := h.size
  obtain ⟨v, h1, h2, h3, h4, h5, h6, h7, h8, h9, h10, h11⟩ := h
  have hlt : g < w.heap.size := World.block_lt_of_cell? w ⟨g, 0, none⟩ h8
  exact ⟨⟨v, h1.kept hk (fun e => h3 (.inl (by have e : bw = rb := e; exact e.symm))) (fun k hk' e => h3 (by have e : k = rb := e; exact e ▸ .inr hk')), hr, h3, h4, h5, h6, h7, hk.cell h8 h6, hk.cell h9 h6, (hk.frozen (p := ⟨g, 0, none⟩) hlt h6).trans h10, (hk.frozen (p := ⟨g, 1, none⟩) hlt h6).trans h11⟩, Rd.step hB h4 hk⟩
theorem Fo.wrote {w' : World} {v : Value} {L' : List UInt8} (h1 : Wr B w bw v L 0) (h2 : Rd w rb s a f) (h3 : ¬ own bw v rb) (h4 : B ≤ rb) (hl : Left B bw v w L' 0 w') : Fo B w' bw rb s a f L' ∧ Below B w w' := by
  have hlt := h2.lt
  have hb := hl.below h1 (by omega)
  obtain ⟨v', q1, q2, q3⟩ := hl
  refine ⟨⟨v', q1, h2.kept q2 h3, fun e => ?_, h4⟩, hb⟩
  rcases own_new (b := bw) q3 rb e with q | q
  · exact h3 q
  · omega
theorem Fo.alloc (h : Fo B w bw rb s a f L) : Fg B (w.alloc (.cells #[.int .u64 0, .int .u64 0] 34)) bw rb w.heap.size s a f L 0 ∧ Below B w (w.alloc (.cells #[.int .u64 0, .int .u64 0] 34)) := by
  have hB := h.size
  obtain ⟨v, h1, h2, h3, h4⟩ := h
  have hb0 : Below w.heap.size w (w.alloc (.cells #[.int .u64 0, .int .u64 0] 34)) := (Below.refl _ _).alloc (Nat.le_refl _) _
  have hlt := h2.lt
  refine ⟨⟨v, h1.below hb0, h2.below hb0, h3, h4, fun e => by have := h1.own_lt _ e; omega, by omega, hB, by simp [hiOf], by simp [loOf], by simp, by simp⟩, (Below.refl _ _).alloc hB _⟩
theorem Fg.set (h : Fg B w bw rb g s a f L x) (y : Nat) : Fg B ((w.setCell ⟨g, 0, none⟩ (.int .u64 (hiOf y))).setCell ⟨g, 1, none⟩ (.int .u64 (loOf y))) bw rb g s a f L y ∧ Below B w ((w.setCell ⟨g, 0, none⟩ (.int .u64 (hiOf y))).setCell ⟨g, 1, none⟩ (.int .u64 (loOf y))) := by
  obtain ⟨v, h1, h2, h3, h4, h5, h6, h7, h8, h9, h10, h11⟩ := h
  have hk : Kept (fun k => k = g) w ((w.setCell ⟨g, 0, none⟩ (.int .u64 (hiOf y))).setCell ⟨g, 1, none⟩ (.int .u64 (loOf y))) := Kept.set2 (S := fun k => k = g) (Kept.refl _ _) rfl _ _
  exact ⟨⟨v, h1.kept hk (fun e => h5 (.inl (by have e : bw = g := e; exact e.symm))) (fun k hk' e => h5 (by have e : k = g := e; exact e ▸ .inr hk')), h2.kept hk (fun e => h6 (by have e : rb = g := e; exact e.symm)), h3, h4, h5, h6, h7, (two_set h8 h9).1, (two_set h8 h9).2, by simpa using h10, by simpa using h11⟩, ((Below.refl _ _).setCell h7 _).setCell h7 _⟩
theorem Fg.out (h : Fg B w bw rb g s a f L x) : Calls Try.prog 15 #[.pointer (some ⟨bw, 0, none⟩)] w fun e w' => e = .returned (.tuple #[.string ⟨L.toArray⟩, .int .i64 0]) ∧ Fg B w' bw rb g s a f L x ∧ Below B w w' := by
  obtain ⟨v, h1, hr⟩ := id h
  refine (out_any h1).mono ?_
  rintro e w' ⟨rfl, n, rfl⟩
  exact ⟨rfl, h, ⟨rfl, rfl, rfl, Nat.le_refl _, fun _ _ => rfl⟩⟩
theorem Fo.out (h : Fo B w bw rb s a f L) : Calls Try.prog 15 #[.pointer (some ⟨bw, 0, none⟩)] w fun e w' => e = .returned (.tuple #[.string ⟨L.toArray⟩, .int .i64 0]) ∧ Fo B w' bw rb s a f L ∧ Below B w w' := by
  obtain ⟨v, h1, hr⟩ := id h
  refine (out_any h1).mono ?_
  rintro e w' ⟨rfl, n, rfl⟩
  exact ⟨rfl, h, ⟨rfl, rfl, rfl, Nat.le_refl _, fun _ _ => rfl⟩⟩
theorem Fg.fault (h : Fg B w bw rb g s a f L x) : Calls Try.prog 18 #[.pointer (some ⟨rb, 0, none⟩)] w fun e w' => e = .returned (.tuple #[.int .i64 f, .int .i64 (faultAt a f)]) ∧ Fg B w' bw rb g s a f L x ∧ Below B w w' := by
  obtain ⟨v, h1, h2, hr⟩ := id h
  refine (fault_any h2).mono ?_
  rintro e w' ⟨rfl, n, rfl⟩
  exact ⟨rfl, h, ⟨rfl, rfl, rfl, Nat.le_refl _, fun _ _ => rfl⟩⟩
theorem Fg.at (h : Fg B w bw rb g s a f L x) : Calls Try.prog 19 #[.pointer (some ⟨rb, 0, none⟩)] w fun e w' => e = .returned (.int .i64 a) ∧ w' = w := by
  obtain ⟨v, h1, h2, hr⟩ := id h
  exact at_any h2
theorem Fo.at (h : Fo B w bw rb s a f L) : Calls Try.prog 19 #[.pointer (some ⟨rb, 0, none⟩)] w fun e w' => e = .returned (.int .i64 a) ∧ w' = w := by
  obtain ⟨v, h1, h2, hr⟩ := id h
  exact at_any h2
theorem Fo.len (h : Fo B w bw rb s a f L) : Calls Try.prog 16 #[.pointer (some ⟨bw, 0, none⟩)] w fun e w' => e = .returned (.int .i64 L.length) ∧ w' = w := by
  obtain ⟨v, h1, h2, hr⟩ := id h
  exact len_any h1
theorem Fg.end (h : Fg B w bw rb g s a f L x) (hs : s.size ≤ 140737488351232) : Calls Try.prog 20 #[.pointer (some ⟨rb, 0, none⟩)] w fun e w' => e = .returned (.int .i64 (endR s a f)) ∧ Below B w w' := by
  obtain ⟨v, h1, h2, hr⟩ := id h
  refine (end_any h2 hs).mono ?_
  rintro e w' ⟨rfl, n, rfl⟩
  exact ⟨rfl, ⟨rfl, rfl, rfl, Nat.le_refl _, fun _ _ => rfl⟩⟩
theorem Fo.end (h : Fo B w bw rb s a f L) (hs : s.size ≤ 140737488351232) : Calls Try.prog 20 #[.pointer (some ⟨rb, 0, none⟩)] w fun e w' => e = .returned (.int .i64 (endR s a f)) ∧ Fo B w' bw rb s a f L ∧ Below B w w' := by
  obtain ⟨v, h1, h2, hr⟩ := id h
  refine (end_any h2 hs).mono ?_
  rintro e w' ⟨rfl, n, rfl⟩
  exact ⟨rfl, h, ⟨rfl, rfl, rfl, Nat.le_refl _, fun _ _ => rfl⟩⟩
theorem Fg.fo (h : Fg B w bw rb g s a f L x) : Fo B w bw rb s a f L := by
  obtain ⟨v, h1, h2, h3, h4, _⟩ := h; exact ⟨v, h1, h2, h3, h4⟩
theorem Fg.r1 (h : Fg B w bw rb g s a 0 L x) (hs : s.size ≤ 140737488351232) (m : Nat) : Calls Try.prog 21 #[.pointer (some ⟨rb, 0, none⟩), .int .u64 m] w fun e w' => e = .returned (.int .u64 (uintS s a 0 m).1) ∧ Fg B w' bw rb g s (uintS s a 0 m).2.1 (uintS s a 0 m).2.2 L x ∧ Below B w w' := by
  obtain ⟨v, h1, h2, hr⟩ := id h
  refine (a21 h2 hs m).mono ?_
  rintro e w' ⟨rfl, q1, q2⟩
  exact ⟨rfl, h.read q2 q1⟩
theorem Fg.r2 (h : Fg B w bw rb g s a 0 L x) (hs : s.size ≤ 140737488351232) (m : Int) : Calls Try.prog 22 #[.pointer (some ⟨rb, 0, none⟩), .int .i64 m] w fun e w' => e = .returned (.int .u64 (fixS s a 0 m).1) ∧ Fg B w' bw rb g s (fixS s a 0 m).2.1 (fixS s a 0 m).2.2 L x ∧ Below B w w' := by
  obtain ⟨v, h1, h2, hr⟩ := id h
  refine (a22 h2 hs m).mono ?_
  rintro e w' ⟨rfl, q1, q2⟩
  exact ⟨rfl, h.read q2 q1⟩
theorem Fg.r3 (h : Fg B w bw rb g s a 0 L x) (hs : s.size ≤ 140737488351232) (m : Int) (hm : m ≤ 9223372036854775807) : Calls Try.prog 23 #[.pointer (some ⟨rb, 0, none⟩), .int .i64 m] w fun e w' => e = .returned (.string (textS s a 0 m).1) ∧ Fg B w' bw rb g s (textS s a 0 m).2.1 (textS s a 0 m).2.2 L x ∧ Below B w w' := by
  obtain ⟨v, h1, h2, hr⟩ := id h
  refine (a23 h2 hs m hm).mono ?_
  rintro e w' ⟨rfl, q1, q2⟩
  exact ⟨rfl, h.read q2 q1⟩
theorem Fg.r4 (h : Fg B w bw rb g s a 0 L x) (hs : s.size ≤ 140737488351232) (m : Int) : Calls Try.prog 24 #[.pointer (some ⟨rb, 0, none⟩), .int .i64 m] w fun e w' => e = .returned (_root_.Go.Proofs.Ytdpddlaedffmdaa.B (bitsS s a 0 m).1) ∧ Fg B w' bw rb g s (bitsS s a 0 m).2.1 (bitsS s a 0 m).2.2 L x ∧ Below B w w' := by
  obtain ⟨v, h1, h2, hr⟩ := id h
  refine (a24 h2 hs m).mono ?_
  rintro e w' ⟨rfl, q1, q2⟩
  exact ⟨rfl, h.read q2 q1⟩
theorem Fg.r5 (h : Fg B w bw rb g s a 0 L x) (hs : s.size ≤ 140737488351232) (m : Int) : Calls Try.prog 25 #[.pointer (some ⟨rb, 0, none⟩), .int .i64 m] w fun e w' => e = .returned (.string (rawS s a 0 m).1) ∧ Fg B w' bw rb g s (rawS s a 0 m).2.1 (rawS s a 0 m).2.2 L x ∧ Below B w w' := by
  obtain ⟨v, h1, h2, hr⟩ := id h
  refine (a25 h2 hs m).mono ?_
  rintro e w' ⟨rfl, q1, q2⟩
  exact ⟨rfl, h.read q2 q1⟩
theorem Fo.w1 (h : Fo B w bw rb s a 0 L) (n : Nat) (hn : n < 18446744073709551616) (hl : L.length ≤ 140737488351232) : Calls Try.prog 26 #[.pointer (some ⟨bw, 0, none⟩), .int .u64 n] w fun e w' => e = .returned (.tuple #[]) ∧ Fo B w' bw rb s a 0 (L ++ vb n) ∧ Below B w w' := by
  have hB := h.size
  obtain ⟨v, h1, h2, h3, h4⟩ := h
  refine (uint_any h1 n hn (by omega) hB).mono ?_
  rintro e w' ⟨rfl, hL⟩
  rw [putR_ok] at hL
  exact ⟨rfl, Fo.wrote h1 h2 h3 h4 hL⟩
theorem Fo.w2 (h : Fo B w bw rb s a 0 L) (n : Nat) (k : Int) (q : ByteArray) (hq : fxR n k = (q, 0)) (hl : L.length ≤ 140737488351232) : Calls Try.prog 27 #[.pointer (some ⟨bw, 0, none⟩), .int .u64 n, .int .i64 k] w fun e w' => e = .returned (.tuple #[]) ∧ Fo B w' bw rb s a 0 (L ++ q.data.toList) ∧ Below B w w' := by
  have hB := h.size
  obtain ⟨v, h1, h2, h3, h4⟩ := h
  refine (wfixed_any h1 n k (by omega) hB).mono ?_
  rintro e w' ⟨rfl, hL⟩
  rw [hq, putR_ok] at hL
  exact ⟨rfl, Fo.wrote h1 h2 h3 h4 hL⟩
theorem Fo.w3 (h : Fo B w bw rb s a 0 L) (t : ByteArray) (hl : L.length + t.size ≤ 140737488351232) : Calls Try.prog 28 #[.pointer (some ⟨bw, 0, none⟩), .string t] w fun e w' => e = .returned (.tuple #[]) ∧ Fo B w' bw rb s a 0 (L ++ (vb t.size ++ t.data.toList)) ∧ Below B w w' := by
  have hB := h.size
  obtain ⟨v, h1, h2, h3, h4⟩ := h
  refine (text_any h1 t (by omega) hB).mono ?_
  rintro e w' ⟨rfl, hL⟩
  have hL : Left B bw v w (L ++ (vb t.size ++ t.data.toList)) 0 w' := by simpa [textR] using hL
  exact ⟨rfl, Fo.wrote h1 h2 h3 h4 hL⟩
theorem Fo.w4 (h : Fo B w bw rb s a 0 L) (n : Nat) (hn : Is128 n) (k : Int) (q : ByteArray) (hq : byR n k = (q, 0)) (hl : L.length ≤ 140737488351232) : Calls Try.prog 29 #[.pointer (some ⟨bw, 0, none⟩), .agg #[.int .u64 (hiOf n), .int .u64 (loOf n)], .int .i64 k] w fun e w' => e = .returned (.tuple #[]) ∧ Fo B w' bw rb s a 0 (L ++ q.data.toList) ∧ Below B w w' := by
  have hB := h.size
  obtain ⟨v, h1, h2, h3, h4⟩ := h
  refine (wbits_any h1 n hn k (by omega) hB).mono ?_
  rintro e w' ⟨rfl, hL⟩
  rw [hq, putR_ok] at hL
  exact ⟨rfl, Fo.wrote h1 h2 h3 h4 hL⟩
theorem Fo.w5 (h : Fo B w bw rb s a 0 L) (t : ByteArray) (hl : L.length + t.size ≤ 140737488351232) : Calls Try.prog 30 #[.pointer (some ⟨bw, 0, none⟩), .string t] w fun e w' => e = .returned (.tuple #[]) ∧ Fo B w' bw rb s a 0 (L ++ t.data.toList) ∧ Below B w w' := by
  have hB := h.size
  obtain ⟨v, h1, h2, h3, h4⟩ := h
  refine (raw_any h1 t (by omega) hB).mono ?_
  rintro e w' ⟨rfl, hL⟩
  rw [putR_ok] at hL
  exact ⟨rfl, Fo.wrote h1 h2 h3 h4 hL⟩
end
end Go.Proofs.Ytdpddlaedffmdaa
