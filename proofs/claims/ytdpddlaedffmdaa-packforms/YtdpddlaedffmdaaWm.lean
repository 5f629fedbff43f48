/- Package pack's writers: the calls that write, New, Len and Out: what each leaves and answers; on a nil writer too. -/
import Derived.Test.YtdpddlaedffmdaaPu
namespace Go.Proofs.Ytdpddlaedffmdaa
open Go.RowKit
set_option linter.unusedVariables false
set_option linter.unusedSimpArgs false

theorem Left.after {B b : Nat} {v : Value} {w w1 w' : World} {l : List UInt8} {f : Int} (h : Left B b v w1 l f w') (hb : Below w.heap.size w w1) : Left B b v w l f w' := by
  obtain ⟨v', h1, h2, h3⟩ := h
  refine ⟨v', h1, (Kept.of_below hb).trans h2, ?_⟩
  rcases h3 with e | ⟨g, e, hg⟩
  · exact .inl e
  · exact .inr ⟨g, e, Nat.le_trans hb.size hg⟩
theorem Left.step {B b : Nat} {v v1 : Value} {w w1 w' : World} {l : List UInt8} {f : Int} (k1 : Kept (own b v) w w1) (p1 : v1.ownBlock = v.ownBlock ∨ ∃ g, v1.ownBlock = some g ∧ w.heap.size ≤ g) (h : Left B b v1 w1 l f w') : Left B b v w l f w' := by
  obtain ⟨v', h1, h2, h3⟩ := h
  refine ⟨v', h1, ?_, ?_⟩
  · refine ⟨h2.os.trans k1.os, h2.tape.trans k1.tape, h2.output.trans k1.output, Nat.le_trans k1.size h2.size, fun k hk hs => ?_⟩
    refine (h2.block k (Nat.lt_of_lt_of_le hk k1.size) ?_).trans (k1.block k hk hs)
    rintro (e | e)
    · exact hs (.inl e)
    · rcases p1 with q | ⟨g, q, hg⟩
      · exact hs (.inr (q ▸ e))
      · rw [q] at e; injection e with e; omega
  · rcases h3 with e | ⟨g, e, hg⟩
    · rcases p1 with q | ⟨g, q, hg⟩
      · exact .inl (e.trans q)
      · exact .inr ⟨g, e.trans q, hg⟩
    · exact .inr ⟨g, e, Nat.le_trans k1.size hg⟩
theorem Left.below {B b : Nat} {v : Value} {w w' : World} {l l' : List UInt8} {f f' : Int} (h : Left B b v w l f w') (hW : Wr B w b v l' f') (hB : B ≤ w.heap.size) : Below B w w' := by
  obtain ⟨v', h1, h2, h3⟩ := h
  exact h2.below hB hW.own_ge

theorem arr_size (l : List UInt8) : (⟨l.toArray⟩ : ByteArray).size = l.length := by show l.toArray.size = _; simp
theorem fxR_size (n : Nat) (k : Int) : (fxR n k).1.size ≤ 8 := by
  unfold fxR
  split
  · rename_i h; have := isFx_bounds h
    split
    · rw [arr_size, be_length]; omega
    · decide
  · decide
theorem byR_size (n : Nat) (wd : Int) : (byR n wd).1.size ≤ 16 := by
  unfold byR
  split
  · rename_i h; have := isW_bounds h
    split
    · rw [arr_size, be_length]; omega
    · decide
  · decide

section
variable {B b : Nat} {v : Value} {l : List UInt8} {g : Int} {w : World}
theorem raw_any (h : Wr B w b v l g) (s : ByteArray) (hs : l.length + s.size ≤ 140737488355328) (hB : B ≤ w.heap.size) :
    Calls Try.prog 30 #[.pointer (some ⟨b, 0, none⟩), .string s] w fun e w' => e = .returned (.tuple #[]) ∧ Left B b v w (putR l g s 0).1 (putR l g s 0).2 w' := by
  have C : Hid (Calls Try.prog 61 #[.pointer (some ⟨b, 0, none⟩), .string s, .int .i64 0] w fun e w' => e = .returned (.tuple #[]) ∧ Left B b v w (putR l g s 0).1 (putR l g s 0).2 w') := put_all h s 0 hs hB
  clear h
  go_enter Try.func30, Try.ntmps30
  go_wp2_with fail
  refine C.out.mono ?_
  rintro e w1 ⟨rfl, hL⟩
  go_wp2
  first | go_end0 | refine bodyPost_ret (results_none rfl _ _ _) rfl ?_
  all_goals exact ⟨rfl, hL⟩
theorem uint_any (h : Wr B w b v l g) (n : Nat) (hn : n < 18446744073709551616) (hs : l.length + 10 ≤ 140737488355328) (hB : B ≤ w.heap.size) :
    Calls Try.prog 26 #[.pointer (some ⟨b, 0, none⟩), .int .u64 n] w fun e w' => e = .returned (.tuple #[]) ∧ Left B b v w (putR l g ⟨(vb n).toArray⟩ 0).1 (putR l g ⟨(vb n).toArray⟩ 0).2 w' := by
  have C0 : Hid (∀ w : World, Calls Try.prog 62 #[.int .u64 n] w fun e w' => e = .returned (.string ⟨(vb n).toArray⟩) ∧ Below w.heap.size w w') := bytesOf_any n hn
  have hl := vb_ten n hn
  have C : Hid (∀ w1 : World, Below w.heap.size w w1 → Calls Try.prog 61 #[.pointer (some ⟨b, 0, none⟩), .string ⟨(vb n).toArray⟩, .int .i64 0] w1 fun e w' => e = .returned (.tuple #[]) ∧ Left B b v w (putR l g ⟨(vb n).toArray⟩ 0).1 (putR l g ⟨(vb n).toArray⟩ 0).2 w') := by
    show ∀ w1 : World, _
    intro w1 hb
    refine (put_all (h.below hb) _ 0 (by rw [arr_size]; omega) (Nat.le_trans hB hb.size)).mono ?_
    rintro e w' ⟨rfl, hL⟩
    exact ⟨rfl, hL.after hb⟩
  generalize vb n = q at *
  clear h hn
  go_enter Try.func26, Try.ntmps26
  go_wp2_with fail
  refine (C0.out _).mono ?_
  rintro e w1 ⟨rfl, hb1⟩
  go_wp2_with fail
  refine (C.out _ hb1).mono ?_
  rintro e w2 ⟨rfl, hL⟩
  go_wp2
  first | go_end0 | refine bodyPost_ret (results_none rfl _ _ _) rfl ?_
  all_goals exact ⟨rfl, hL⟩
theorem wfixed_any (h : Wr B w b v l g) (n : Nat) (k : Int) (hs : l.length + 8 ≤ 140737488355328) (hB : B ≤ w.heap.size) :
    Calls Try.prog 27 #[.pointer (some ⟨b, 0, none⟩), .int .u64 n, .int .i64 k] w fun e w' => e = .returned (.tuple #[]) ∧ Left B b v w (putR l g (fxR n k).1 (fxR n k).2).1 (putR l g (fxR n k).1 (fxR n k).2).2 w' := by
  have C0 : Hid (∀ w : World, Calls Try.prog 63 #[.int .u64 n, .int .i64 k] w fun e w' => e = .returned (.tuple #[.string (fxR n k).1, .int .i64 (fxR n k).2]) ∧ Below w.heap.size w w') := fixed_all n k
  have hl := fxR_size n k
  have C : Hid (∀ w1 : World, Below w.heap.size w w1 → Calls Try.prog 61 #[.pointer (some ⟨b, 0, none⟩), .string (fxR n k).1, .int .i64 (fxR n k).2] w1 fun e w' => e = .returned (.tuple #[]) ∧ Left B b v w (putR l g (fxR n k).1 (fxR n k).2).1 (putR l g (fxR n k).1 (fxR n k).2).2 w') := by
    show ∀ w1 : World, _
    intro w1 hb
    refine (put_all (h.below hb) _ _ (by omega) (Nat.le_trans hB hb.size)).mono ?_
    rintro e w' ⟨rfl, hL⟩
    exact ⟨rfl, hL.after hb⟩
  generalize fxR n k = q at *
  clear h
  go_enter Try.func27, Try.ntmps27
  go_wp2_with fail
  refine (C0.out _).mono ?_
  rintro e w1 ⟨rfl, hb1⟩
  go_wp2_with fail
  refine (C.out _ hb1).mono ?_
  rintro e w2 ⟨rfl, hL⟩
  go_wp2
  first | go_end0 | refine bodyPost_ret (results_none rfl _ _ _) rfl ?_
  all_goals exact ⟨rfl, hL⟩
theorem wbits_any (h : Wr B w b v l g) (n : Nat) (hn : Is128 n) (k : Int) (hs : l.length + 16 ≤ 140737488355328) (hB : B ≤ w.heap.size) :
    Calls Try.prog 29 #[.pointer (some ⟨b, 0, none⟩), _root_.Go.Proofs.Ytdpddlaedffmdaa.B n, .int .i64 k] w fun e w' => e = .returned (.tuple #[]) ∧ Left B b v w (putR l g (byR n k).1 (byR n k).2).1 (putR l g (byR n k).1 (byR n k).2).2 w' := by
  have C0 : Hid (∀ w : World, Calls Try.prog 64 #[_root_.Go.Proofs.Ytdpddlaedffmdaa.B n, .int .i64 k] w fun e w' => e = .returned (.tuple #[.string (byR n k).1, .int .i64 (byR n k).2]) ∧ Below w.heap.size w w') := bytes_all n hn k
  have hl := byR_size n k
  have C : Hid (∀ w1 : World, Below w.heap.size w w1 → Calls Try.prog 61 #[.pointer (some ⟨b, 0, none⟩), .string (byR n k).1, .int .i64 (byR n k).2] w1 fun e w' => e = .returned (.tuple #[]) ∧ Left B b v w (putR l g (byR n k).1 (byR n k).2).1 (putR l g (byR n k).1 (byR n k).2).2 w') := by
    show ∀ w1 : World, _
    intro w1 hb
    refine (put_all (h.below hb) _ _ (by omega) (Nat.le_trans hB hb.size)).mono ?_
    rintro e w' ⟨rfl, hL⟩
    exact ⟨rfl, hL.after hb⟩
  generalize byR n k = q at *
  clear h
  go_enter Try.func29, Try.ntmps29
  go_wp2_with fail
  refine (C0.out _).mono ?_
  rintro e w1 ⟨rfl, hb1⟩
  have hb2 : Below w.heap.size w w1 := bstep ((Below.refl _ _).alloc (Nat.le_refl _) _) hb1
  go_wp2_with fail
  refine (C.out _ hb2).mono ?_
  rintro e w2 ⟨rfl, hL⟩
  go_wp2
  first | go_end0 | refine bodyPost_ret (results_none rfl _ _ _) rfl ?_
  all_goals exact ⟨rfl, hL⟩
/-- What Text leaves. -/
def textR (l : List UInt8) (g : Int) (s : ByteArray) : List UInt8 × Int := if g ≠ 0 then (l, g) else (l ++ (vb s.size ++ s.data.toList), 0)
theorem textR_put (l : List UInt8) (g : Int) (s : ByteArray) : putR (putR l g ⟨(vb s.size).toArray⟩ 0).1 (putR l g ⟨(vb s.size).toArray⟩ 0).2 s 0 = textR l g s := by
  by_cases h : g = 0
  · subst h; simp [putR, textR]
  · simp [putR, textR, h]
theorem text_any (h : Wr B w b v l g) (s : ByteArray) (hs : l.length + s.size + 10 ≤ 140737488355328) (hB : B ≤ w.heap.size) :
    Calls Try.prog 28 #[.pointer (some ⟨b, 0, none⟩), .string s] w fun e w' => e = .returned (.tuple #[]) ∧ Left B b v w (textR l g s).1 (textR l g s).2 w' := by
  have hn : s.size < 18446744073709551616 := by omega
  have hl := vb_ten s.size hn
  have C0 : Hid (Calls Try.prog 26 #[.pointer (some ⟨b, 0, none⟩), .int .u64 s.size] w fun e w' => e = .returned (.tuple #[]) ∧ Left B b v w (putR l g ⟨(vb s.size).toArray⟩ 0).1 (putR l g ⟨(vb s.size).toArray⟩ 0).2 w') := uint_any h s.size hn (by omega) hB
  have hW : IntKind.u64.wrap (s.size : Int) = (s.size : Int) := by rw [IntKind.wrap_u64]; omega
  have hpl : (putR l g ⟨(vb s.size).toArray⟩ 0).1.length ≤ l.length + 10 := by
    unfold putR; split
    · simp
    · simp; exact hl
  have C : Hid (∀ w1 : World, Left B b v w (putR l g ⟨(vb s.size).toArray⟩ 0).1 (putR l g ⟨(vb s.size).toArray⟩ 0).2 w1 → Calls Try.prog 30 #[.pointer (some ⟨b, 0, none⟩), .string s] w1 fun e w' => e = .returned (.tuple #[]) ∧ Left B b v w (textR l g s).1 (textR l g s).2 w') := by
    show ∀ w1 : World, _
    rintro w1 ⟨v1, W1, K1, P1⟩
    have := raw_any W1 s (by omega) (Nat.le_trans hB K1.size)
    rw [textR_put] at this
    refine this.mono ?_
    rintro e w' ⟨rfl, hL⟩
    exact ⟨rfl, Left.step K1 P1 hL⟩
  have HS : Hid (l.length + s.size + 10 ≤ 140737488355328) := hs
  clear h hl hpl hn hs
  generalize putR l g ⟨(vb s.size).toArray⟩ 0 = q at *
  generalize textR l g s = r at *
  go_enter Try.func28, Try.ntmps28
  go_wp2_with fail
  refine C0.out.mono ?_
  rintro e w1 ⟨rfl, hL1⟩
  go_wp2_with fail
  refine (C.out _ hL1).mono ?_
  rintro e w2 ⟨rfl, hL⟩
  go_wp2
  first | go_end0 | refine bodyPost_ret (results_none rfl _ _ _) rfl ?_
  all_goals exact ⟨rfl, hL⟩
theorem len_any (h : Wr B w b v l g) : Calls Try.prog 16 #[.pointer (some ⟨b, 0, none⟩)] w fun e w' => e = .returned (.int .i64 l.length) ∧ w' = w := by
  obtain ⟨h0, h1, h2, h3, h4, h5, h6⟩ := h
  obtain ⟨ba, bc, rfl⟩ : ∃ ba bc, v = .slice ba l.length bc := by
    rcases h5.2 with ⟨rfl, h⟩ | ⟨g, cap, cur, rfl, _⟩
    · exact ⟨none, 0, by rw [h]⟩
    · exact ⟨_, _, rfl⟩
  clear h5
  go_enter Try.func16, Try.ntmps16
  go_wp2
  go_ret
  exact ⟨rfl, rfl⟩
theorem conv_nil (w : World) : (convert 28 9 (.slice none 0 0)).run Try.prog w = .ok (.string ⟨#[]⟩) w := by kernel_rfl
theorem conv_wr {n : Nat} (h : w.ownsRow B 5 1 v l.length (cells8 l)) : (convert 28 9 v).run Try.prog w = .ok (.string ⟨l.toArray⟩) w := by
  rcases Nat.eq_zero_or_pos l.length with h0 | hp
  · have hl : l = [] := List.eq_nil_of_length_eq_zero h0
    subst hl
    rcases h.2 with ⟨rfl, _⟩ | ⟨g, kc, cur, rfl, _⟩
    · exact conv_nil w
    · exact run_convert_bytes_back (P := Try.prog) w 28 9 5 ⟨g, 0, none⟩ kc [] Try.underlying28 Try.underlying5 Try.underlying9 (fun j hj => by simp at hj)
  · exact conv_own h rfl hp
/-- What Out answers. -/
def outR (l : List UInt8) (g : Int) : ByteArray := if g = 0 then ⟨l.toArray⟩ else ⟨#[]⟩
set_option maxRecDepth 100000 in
theorem out_any (h : Wr B w b v l g) : Calls Try.prog 15 #[.pointer (some ⟨b, 0, none⟩)] w fun e w' => e = .returned (.tuple #[.string (outR l g), .int .i64 g]) ∧ ∃ n, w' = w.drewN n := by
  obtain ⟨h0, h1, h2, h3, h4, h5, h6⟩ := h
  have hc := conv_wr (n := 0) h5
  obtain ⟨ba, bn, bc, rfl⟩ : ∃ ba bn bc, v = .slice ba bn bc := by
    rcases h5.2 with ⟨rfl, h⟩ | ⟨g, cap, cur, rfl, _⟩
    · exact ⟨_, _, _, rfl⟩
    · exact ⟨_, _, _, rfl⟩
  clear h5
  by_cases hg : g = 0
  · subst hg
    rw [show outR l 0 = ⟨l.toArray⟩ from rfl]
    go_enter Try.func15, Try.ntmps15
    go_wp2
    go_ret2
    exact ⟨rfl, 0, rfl⟩
  · rw [show outR l g = ⟨#[]⟩ by unfold outR; rw [if_neg hg]]
    go_enter Try.func15, Try.ntmps15
    go_wp2
    go_quiet (fail)
    go_wp2
    go_ret2
    exact ⟨rfl, _, rfl⟩
end
theorem new_any (w : World) : Calls Try.prog 10 #[] w fun e w' => e = .returned (.pointer (some ⟨w.heap.size, 0, none⟩)) ∧ w' = w.alloc (.cells #[.slice none 0 0, .int .i64 0] 71) := by
  go_enter Try.func10, Try.ntmps10
  go_wp2
  go_ret
  exact ⟨rfl, rfl⟩
theorem Wr.new {B : Nat} {w : World} (hB : B ≤ w.heap.size) (t : TypeId) : Wr B (w.alloc (.cells #[.slice none 0 0, .int .i64 0] t)) w.heap.size (.slice none 0 0) [] 0 :=
  ⟨hB, by simp, by simp, by simp, by simp, World.ownsRow_nil _ _ _ _, by simp [Value.ownBlock]⟩
end Go.Proofs.Ytdpddlaedffmdaa
