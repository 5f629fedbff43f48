/- Package exact: Put. -/
import Derived.Test.YtkcjcidndckgbaaMq
import Derived.BigRegion
namespace Go.Proofs.Ytkcjcidndckgbaa
open Go.RowKit
set_option linter.unusedVariables false
set_option linter.unusedSimpArgs false

theorem roomI_any (b cap c : Nat) (r : List (Pl Int)) (w : World) (hr : RowOf 89 4 encI w b r) (hR : Rw spr r) (h8 : r.length ≤ 16384) (h4 : 8 ≤ r.length) (hc : c ≤ r.length) (hc2 : c ≤ 4096) :
    Calls Try.prog 58 #[.slice (some ⟨b, 0, none⟩) r.length cap, .int .i64 c] w fun e w' => ∃ b' cap' r', e = .returned (.slice (some ⟨b', 0, none⟩) r'.length cap') ∧ RowOf 89 4 encI w' b' r' ∧ Rw spr r' ∧ (8 ≤ r'.length ∧ r'.length ≤ 16384 ∧ 2 * c ≤ r'.length) ∧ (cont r').Perm (cont r) ∧ Below w.heap.size w w' ∧ (b' = b ∨ w.heap.size ≤ b') := by
  by_cases h : 2 * c ≤ r.length
  · refine (roomI_same _ _ cap _ h h8 w).mono ?_
    rintro e w' ⟨rfl, rfl⟩
    exact ⟨b, cap, r, rfl, hr, hR, ⟨h4, h8, h⟩, List.Perm.refl _, Below.refl _ _, .inl rfl⟩
  · refine (roomI_wide b cap c r w hr hR (by omega) (by omega) hc2).mono ?_
    rintro e w' ⟨b', cap', r', rfl, h1, h2, h3, h5, h6, h7⟩
    exact ⟨b', cap', r', rfl, h1, h2, by omega, h5, h6, .inr h7⟩
set_option maxHeartbeats 1000000 in
theorem putI_dup (q b most cap : Nat) (r : List (Pl Int)) (k : ByteArray) (u v : Int) (hk : k.size ≤ 9223372036854775807) (w : World) (h : MapAt w q b most r cap) (hm : (k, u) ∈ cont r) :
    Calls Try.prog 27 #[.pointer (some ⟨q, 0, none⟩), .string k, .int .i64 v] w fun e w' => e = .returned (.int .i64 121) ∧ Below w.heap.size w w' := by
  have C : Hid (Calls Try.prog 57 #[.pointer (some ⟨q, 0, none⟩), .string k] w fun e w' => e = .returned (.tuple #[.int .i64 ((fnd r k).1 : Nat), .bool (fnd r k).2]) ∧ Below w.heap.size w w') := mfindI_any q b most cap r k hk w h
  rw [((h.found k).some h.rw hm).1] at C
  clear h hm hk
  generalize (fnd r k).1 = a at *
  go_enter Try.func27, Try.ntmps27
  go_wp2_with fail
  refine C.out.mono ?_
  rintro e w1 ⟨rfl, hb⟩
  have HB : Hid (Below w.heap.size w w1) := hb
  clear hb C
  go_wp2
  go_ret
  exact ⟨rfl, HB.out⟩
set_option maxHeartbeats 1000000 in
theorem putI_full (q b most cap : Nat) (r : List (Pl Int)) (k : ByteArray) (v : Int) (hk : k.size ≤ 9223372036854775807) (w : World) (h : MapAt w q b most r cap) (hn : ∀ x ∈ cont r, x.1 ≠ k) (hf : (cont r).length = most) :
    Calls Try.prog 27 #[.pointer (some ⟨q, 0, none⟩), .string k, .int .i64 v] w fun e w' => e = .returned (.int .i64 120) ∧ Below w.heap.size w w' := by
  have C : Hid (Calls Try.prog 57 #[.pointer (some ⟨q, 0, none⟩), .string k] w fun e w' => e = .returned (.tuple #[.int .i64 ((fnd r k).1 : Nat), .bool (fnd r k).2]) ∧ Below w.heap.size w w') := mfindI_any q b most cap r k hk w h
  rw [((h.found k).nope hn).1] at C
  have HC : Hid (∀ w1, Below w.heap.size w w1 → w1.cell? ⟨q, 0, none⟩ = some (.int .i64 most) ∧ w1.cell? ⟨q, 1, none⟩ = some (.int .i64 most)) := fun w1 h1 => by
    have := (h.below h1).hd
    rw [hf] at this
    exact ⟨this.cell 0 rfl, this.cell 1 rfl⟩
  clear h hn hk hf
  generalize (fnd r k).1 = a at *
  go_enter Try.func27, Try.ntmps27
  go_wp2_with fail
  refine C.out.mono ?_
  rintro e w1 ⟨rfl, hb⟩
  have HB : Hid (Below w.heap.size w w1) := hb
  obtain ⟨c0, c1⟩ := HC.out w1 hb
  have hD : Hid (∀ n, Below w.heap.size w (w1.drewN n)) := fun n => ⟨hb.os, hb.tape, hb.output, hb.size, hb.block⟩
  clear hb C HC HB
  go_wp2_with fail
  go_quiet (fail)
  go_wp2
  go_ret
  exact ⟨rfl, hD.out _⟩
end Go.Proofs.Ytkcjcidndckgbaa
