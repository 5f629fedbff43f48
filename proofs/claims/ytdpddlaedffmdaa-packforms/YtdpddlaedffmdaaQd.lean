/- Package pack's read, round the closures of the calls that read: the answer and the place behind it, or the error, kept. -/
import Derived.Test.YtdpddlaedffmdaaQc
namespace Go.Proofs.Ytdpddlaedffmdaa
open Go.RowKit
set_option linter.unusedVariables false
set_option linter.unusedSimpArgs false

theorem mk_func : ∀ (fn : Fn) (first cap : Array Value) (w : World), (Instr.makeFunc fn first cap).run Try.prog w = .ok (.func fn first cap) w := fun _ _ _ _ => rfl

theorem Rd.place {w : World} {b : Nat} {s : ByteArray} {a : Nat} {f : Int} (h : Rd w b s a f) (a' : Nat) (ha : a' ≤ s.size) : Rd ((w.setCell ⟨b, 0, none⟩ (.string s)).setCell ⟨b, 1, none⟩ (.int .i64 (a' : Int))) b s a' f := by
  obtain ⟨⟨h0, h1, h2, h3⟩, h4, h5, h6⟩ := h
  have g0 : (w.setCell ⟨b, 0, none⟩ (.string s)).cell? ⟨b, 0, none⟩ = some (.string s) := World.cell?_setCell_same _ _ _ h0
  have g1 : (w.setCell ⟨b, 0, none⟩ (.string s)).cell? ⟨b, 1, none⟩ = some (.int .i64 a) := by rw [World.cell?_setCell_other _ _ _ _ (by intro x; injection x with _ x _; cases x)]; exact h1
  have g2 : (w.setCell ⟨b, 0, none⟩ (.string s)).cell? ⟨b, 2, none⟩ = some (.int .i64 f) := by rw [World.cell?_setCell_other _ _ _ _ (by intro x; injection x with _ x _; cases x)]; exact h4
  refine ⟨⟨?_, ?_, by simpa using h2, ha⟩, ?_, by simpa using h5, by simpa using h6⟩
  · rw [World.cell?_setCell_other _ _ _ _ (by intro x; injection x with _ x _; cases x)]; exact g0
  · rw [World.cell?_setCell_same _ _ _ g1]
  · rw [World.cell?_setCell_other _ _ _ _ (by intro x; injection x with _ x _; cases x)]; exact g2
theorem Rd.fail {w : World} {b : Nat} {s : ByteArray} {a : Nat} {g : Int} (h : Rd w b s a g) (f : Int) : Rd (w.setCell ⟨b, 2, none⟩ (.int .i64 f)).drew b s a f := by
  obtain ⟨⟨h0, h1, h2, h3⟩, h4, h5, h6⟩ := h
  have hr : Rd (w.setCell ⟨b, 2, none⟩ (.int .i64 f)) b s a f := by
    refine ⟨⟨?_, ?_, by simpa using h2, h3⟩, ?_, by simpa using h5, by simpa using h6⟩
    · rw [World.cell?_setCell_other _ _ _ _ (by intro x; injection x with _ x _; cases x)]; exact h0
    · rw [World.cell?_setCell_other _ _ _ _ (by intro x; injection x with _ x _; cases x)]; exact h1
    · rw [World.cell?_setCell_same _ _ _ h4]
  exact hr

set_option maxHeartbeats 1000000 in
set_option maxRecDepth 100000 in
theorem read49 {w : World} {b : Nat} {s : ByteArray} {a : Nat} (h : Rd w b s a 0) (cap x : Value) (a' : Nat) (f : Int) (hx : f ≠ 0 → x = .int .u64 0 ∧ a' = a)
    (hC : ∀ w1 : World, Below w.heap.size w w1 → Pl w1 (w.heap.size + 1) s a → Calls Try.prog 49 #[.pointer (some ⟨w.heap.size + 1, 0, none⟩), cap] w1 fun e w' => Outc (w.heap.size + 1) s w1 x a' f e w') :
    Calls Try.prog 48 #[.pointer (some ⟨b, 0, none⟩), .func (.func 49) #[] #[cap]] w fun e w' => e = .returned x ∧ Rd w' b s a' f ∧ Kept (fun k => k = b) w w' := by
  have hmf := mk_func
  have hlt := h.lt
  have hRd := h
  have HC : Hid (∀ w1 : World, Below w.heap.size w w1 → Pl w1 (w.heap.size + 1) s a → Calls Try.prog 49 #[.pointer (some ⟨w.heap.size + 1, 0, none⟩), cap] w1 fun e w' => Outc (w.heap.size + 1) s w1 x a' f e w') := hC
  obtain ⟨⟨h0, h1, h2, h3⟩, h4, h5, h6⟩ := h
  have hB2 : Below w.heap.size w ((w.alloc (.cells #[.pointer (some ⟨b, 0, none⟩)] 39)).alloc (.cells #[.string s, .int .i64 (a : Int)] 73)) := ((Below.refl _ _).alloc (Nat.le_refl _) _).alloc (by simp) _
  have hP2 : Pl ((w.alloc (.cells #[.pointer (some ⟨b, 0, none⟩)] 39)).alloc (.cells #[.string s, .int .i64 (a : Int)] 73)) (w.heap.size + 1) s a := ⟨by simp, by simp, by simp, h3⟩
  have c0 : ((w.alloc (.cells #[.pointer (some ⟨b, 0, none⟩)] 39)).alloc (.cells #[.string s, .int .i64 (a : Int)] 73)).cell? ⟨w.heap.size, 0, none⟩ = some (.pointer (some ⟨b, 0, none⟩)) := by simp
  have hRd2 := hRd.below hB2
  clear hC hRd
  go_enter_defers Try.func48, Try.ntmps48
  go_wp2_with fail
  generalize (w.alloc (.cells #[.pointer (some ⟨b, 0, none⟩)] 39)).alloc (.cells #[.string s, .int .i64 (a : Int)] 73) = W2 at *
  clear h0 h1 h2 h3 h4 h5 h6
  refine (HC.out _ hB2 hP2).mono ?_
  rintro e w3 ⟨hk, (⟨rfl, rfl, hp⟩ | ⟨hf, rfl⟩)⟩
  · have d0 := hk.cell c0 (by simp)
    have hR3 := hRd2.kept hk (by show ¬ b = w.heap.size + 1; omega)
    have hk3 : Kept (fun k => k = b) w w3 := ((Kept.of_below hB2).trans (S := fun k => k = b ∨ k = w.heap.size + 1) (hk.mono (fun k _ h => .inr h))).mono (fun k hk h => by rcases h with h | h; exact h; omega)
    obtain ⟨⟨h0, h1, h2, h3⟩, h4, h5, h6⟩ := id hR3
    obtain ⟨p0, p1, p2, p3⟩ := hp
    clear hk hRd2 c0 hB2 hP2 HC
    go_wp2
    refine leaves_cons (f := 74) (args := #[.pointer (some ⟨w.heap.size, 0, none⟩)]) (by simp) (by simp [go_sem]) ?_
    refine (idle74 ⟨w.heap.size, 0, none⟩ _).mono ?_
    rintro e u' w'' ⟨rfl, rfl, rfl⟩
    simp [Leaves, settle, results, Try.results48, go_sem]
    exact ⟨hR3.place a' p3, Kept.set (S := fun k => k = b) (Kept.set (S := fun k => k = b) hk3 rfl _) rfl _⟩
  · obtain ⟨rfl, rfl⟩ := hx hf
    have d0 := hk.cell c0 (by simp)
    have hR3 := hRd2.kept hk (by show ¬ b = w.heap.size + 1; omega)
    have hk3 : Kept (fun k => k = b) w w3 := ((Kept.of_below hB2).trans (S := fun k => k = b ∨ k = w.heap.size + 1) (hk.mono (fun k _ h => .inr h))).mono (fun k hk h => by rcases h with h | h; exact h; omega)
    obtain ⟨⟨h0, h1, h2, h3⟩, h4, h5, h6⟩ := id hR3
    clear hk hRd2 c0 hB2 hP2 HC
    go_wp2
    refine leaves_cons (f := 74) (args := #[.pointer (some ⟨w.heap.size, 0, none⟩)]) (by simp) (by simp [go_sem]) ?_
    refine (catch74 ⟨w.heap.size, 0, none⟩ b 0 f _ d0 h4 h6).mono ?_
    rintro e u' w'' ⟨rfl, rfl, rfl⟩
    simp [Leaves, settle, results, Try.results48, go_sem]
    exact ⟨hR3.fail f, (Kept.set (S := fun k => k = b) hk3 rfl _).drewN 1⟩
end Go.Proofs.Ytdpddlaedffmdaa
