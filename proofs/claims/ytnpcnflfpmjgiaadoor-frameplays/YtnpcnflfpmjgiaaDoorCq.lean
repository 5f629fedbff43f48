/- The walk of DiskApart: true; older memory is as it was. -/
import Derived.Test.YtnpcnflfpmjgiaaDoorCn
import Derived.Test.YtnpcnflfpmjgiaaDoorCk
namespace Go.Proofs.YtnpcnflfpmjgiaaDoor
open Go.RowKit
set_option linter.unusedVariables false
set_option linter.unusedSimpArgs false

theorem writeD_wait (S : DS) (n : Int) (s : ByteArray) : (writeD S n s).wait.length ≤ S.wait.length + 1 := by
  unfold writeD
  split
  · omega
  · split
    · omega
    · split
      · show S.wait.length ≤ _; omega
      · simp
theorem flushD_wait (S : DS) : (flushD S).wait.length ≤ S.wait.length := by
  unfold flushD
  split
  · exact Nat.le_refl _
  · simp
theorem cutD_wait (S : DS) (k : Int) : (cutD S k).wait.length = S.wait.length := by unfold cutD; split <;> rfl
section
variable {B : Nat} {w0 w : World} {b : Nat} {f0 : Nat → Prop} {S : DS}
theorem Left.below {w' : World} (h : Left B b f0 w0 S w) (hb : Below w.heap.size w w') : Left B b f0 w0 S w' := h.then hb
theorem Left.size (h : Left B b f0 w0 S w) : w0.heap.size ≤ w.heap.size := by obtain ⟨_, _, k, _⟩ := h; exact k.size
theorem l_write (h : Left B b f0 w0 S w) (hB : B ≤ w0.heap.size) (n : Int) (s : ByteArray) (hs : s.size ≤ 140737488355328) (hf : S.wait.length < 17592186044416) : Calls Tryd.prog 61 #[.pointer (some ⟨b, 0, none⟩), .int .i64 n, .string s] w fun e w' => e = .returned (.int .i64 (writeE S n s)) ∧ Left B b f0 w0 (writeD S n s) w' := by
  have hz := h.size
  obtain ⟨fp, d, hk, hn⟩ := h
  refine (write_any d n s hs hf (by omega)).mono ?_
  rintro e w' ⟨rfl, hL⟩
  exact ⟨rfl, Left.trans hk hn hL⟩
theorem l_flush (h : Left B b f0 w0 S w) : Calls Tryd.prog 33 #[.pointer (some ⟨b, 0, none⟩)] w fun e w' => e = .returned (.int .i64 (flushE S)) ∧ Left B b f0 w0 (flushD S) w' := by
  obtain ⟨fp, d, hk, hn⟩ := h
  refine (flush_any d).mono ?_
  rintro e w' ⟨rfl, hL⟩
  exact ⟨rfl, Left.trans hk hn hL⟩
theorem l_read (h : Left B b f0 w0 S w) (n : Int) : Calls Tryd.prog 60 #[.pointer (some ⟨b, 0, none⟩), .int .i64 n] w fun e w' => e = .returned (.tuple #[.string (readS S n), .int .i64 (refuseD S n)]) ∧ Left B b f0 w0 (readD S n) w' := by
  obtain ⟨fp, d, hk, hn⟩ := h
  refine (read_any d n).mono ?_
  rintro e w' ⟨rfl, hL⟩
  exact ⟨rfl, Left.trans hk hn hL⟩
theorem l_cut (h : Left B b f0 w0 S w) (k : Int) (hk : k ≤ 9223372036854775807) : Calls Tryd.prog 52 #[.pointer (some ⟨b, 0, none⟩), .int .i64 k] w fun e w' => e = .returned (.tuple #[]) ∧ Left B b f0 w0 (cutD S k) w' := by
  obtain ⟨fp, d, hkk, hn⟩ := h
  obtain ⟨g, h, cg, ch, pv, bx, rfl, d⟩ := d
  refine (cut_any d k hk).mono ?_
  rintro e w' ⟨rfl, hd, hk, _⟩
  have hsh : (cutD S k).shown = S.shown := by unfold cutD; split <;> rfl
  exact ⟨rfl, Left.trans hkk hn ⟨_, ⟨g, h, cg, ch, pv, bx, rfl, by rw [hsh]; exact hd⟩, hk.mono (fun i _ e => .inl e), fun i e => .inl e⟩⟩
theorem l_crash (h : Left B b f0 w0 S w) (fs : List (Int × Int)) (a : Option Addr) (c : Nat) (hf : FtsV w fs a) (hfp : ∀ fb off, a = some ⟨fb, off, none⟩ → ¬ f0 fb ∧ fb < w0.heap.size) : Calls Tryd.prog 34 #[.pointer (some ⟨b, 0, none⟩), .slice a fs.length c] w fun e w' => e = .returned (.tuple #[]) ∧ Left B b f0 w0 (crashD S fs) w' := by
  obtain ⟨fp, d, hk, hn⟩ := h
  refine (crash_any d fs a c hf (fun fb off e q => ?_)).mono ?_
  · obtain ⟨h1, h2⟩ := hfp fb off e
    rcases hn fb q with q | q
    · exact h1 q
    · omega
  · rintro e w' ⟨rfl, hL⟩
    exact ⟨rfl, Left.trans hk hn hL⟩
/-- A crash with fates in new memory. -/
theorem l_crash_new (h : Left B b f0 w0 S w) (fs : List (Int × Int)) (cs : Array Value) (c : Nat) (hcs : ∀ (i : Nat) (kd t : Int), fs[i]? = some (kd, t) → cs[i * 2]? = some (.int .i64 kd) ∧ cs[i * 2 + 1]? = some (.int .i64 t)) : Calls Tryd.prog 34 #[.pointer (some ⟨b, 0, none⟩), .slice (some ⟨w.heap.size, 0, none⟩) fs.length c] (w.alloc (.cells cs 72)) fun e w' => e = .returned (.tuple #[]) ∧ Left B b f0 w0 (crashD S fs) w' := by
  have hb : Below w.heap.size w (w.alloc (.cells cs 72)) := (Below.refl _ _).alloc (Nat.le_refl _) _
  obtain ⟨fp, d, hk, hn⟩ := h
  have hnn := Blk.new w cs 72
  have hx : ¬ fp w.heap.size := fun e => by have := (d.fp _ e).2; omega
  refine (crash_any (d.below hb) fs (some ⟨w.heap.size, 0, none⟩) c (.inr ⟨_, 0, rfl, fun i kd t hi => ?_⟩) (fun fb off e => ?_)).mono ?_
  · obtain ⟨e1, e2⟩ := hcs i kd t hi
    rw [Nat.zero_add]
    exact ⟨hnn.cell _ e1, hnn.cell _ e2⟩
  · injection e with e; injection e with e; subst e; exact hx
  · rintro e w' ⟨rfl, hL⟩
    exact ⟨rfl, Left.trans (hk.trans (Kept.of_below hb)) hn hL⟩
theorem l_crash_none (h : Left B b f0 w0 S w) (c : Nat) : Calls Tryd.prog 34 #[.pointer (some ⟨b, 0, none⟩), .slice none 0 c] w fun e w' => e = .returned (.tuple #[]) ∧ Left B b f0 w0 (crashD S []) w' :=
  l_crash h [] none c (.inl rfl) (fun fb off e => by cases e)
theorem l_off (h : Left B b f0 w0 S w) : Calls Tryd.prog 23 #[.pointer (some ⟨b, 0, none⟩)] w fun e w' => e = .returned (.bool S.off) ∧ w' = w := by
  obtain ⟨fp, ⟨g, h, cg, ch, pv, bx, rfl, d⟩, _⟩ := h
  exact off_any d
theorem l_stats (h : Left B b f0 w0 S w) : Calls Tryd.prog 21 #[.pointer (some ⟨b, 0, none⟩)] w fun e w' => e = .returned (.agg #[.int .i64 S.rd, .int .i64 S.wr, .int .i64 S.fl]) ∧ Below w.heap.size w w' := by
  obtain ⟨fp, ⟨g, h, cg, ch, pv, bx, rfl, d⟩, _⟩ := h
  exact stats_any d
theorem l_image (h : Left B b f0 w0 S w) : Calls Tryd.prog 27 #[.pointer (some ⟨b, 0, none⟩)] w fun e w' => e = .returned (.string (catB S.safe)) ∧ Below w.heap.size w w' := by
  obtain ⟨fp, ⟨g, h, cg, ch, pv, bx, rfl, d⟩, _⟩ := h
  exact image_any d
theorem l_pending (h : Left B b f0 w0 S w) (hfew : S.wait.length ≤ 17592186044416) : Calls Tryd.prog 25 #[.pointer (some ⟨b, 0, none⟩)] w fun e w' => e = .returned (.slice (some ⟨w.heap.size, 0, none⟩) S.wait.length S.wait.length) ∧ w'.ownsRow w.heap.size 3 1 (.slice (some ⟨w.heap.size, 0, none⟩) S.wait.length S.wait.length) S.wait.length (nums (S.wait.map (·.1)) S.wait.length) ∧ Below w.heap.size w w' := by
  obtain ⟨fp, ⟨g, h, cg, ch, pv, bx, rfl, d⟩, _⟩ := h
  exact pending_any d hfew
theorem Left.keeps (h : Left B b f0 w0 S w) : Kept f0 w0 w := by obtain ⟨_, _, k, _⟩ := h; exact k
end
end Go.Proofs.YtnpcnflfpmjgiaaDoor
