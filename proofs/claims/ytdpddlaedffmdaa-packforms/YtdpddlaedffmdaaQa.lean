/- Package pack's readers, the inner calls: need, left, next, and the deferred one that catches what a reading gives up with. -/
import Derived.Test.YtdpddlaedffmdaaWm
import Derived.Defers
import Derived.Recover
import Derived.WalkLawsBesides
import Derived.BigQuiet
import Derived.Deep.QuietTactic
namespace Go.Proofs.Ytdpddlaedffmdaa
open Go.RowKit
set_option linter.unusedVariables false
set_option linter.unusedSimpArgs false

/-- What a reading gives up with. -/
def pe (f : Int) : PanicEntry := { v := .iface 29 (.int .i64 f), recovered := false }
theorem need_yes (f : Int) (w : World) : Calls Try.prog 76 #[.bool true, .int .i64 f] w fun e w' => e = .returned (.tuple #[]) ∧ w' = w := by
  go_enter Try.func76, Try.ntmps76
  go_wp2
  first | go_end0 | refine bodyPost_ret (results_none rfl _ _ _) rfl ?_
  all_goals exact ⟨rfl, rfl⟩
theorem need_no (f : Int) (w : World) : Calls Try.prog 76 #[.bool false, .int .i64 f] w fun e w' => e = .panicked [pe f] ∧ w' = w := by
  go_enter Try.func76, Try.ntmps76
  go_wp2
  exact ⟨rfl, rfl, rfl⟩
/-- A place in a text, in memory. -/
def Pl (w : World) (b : Nat) (s : ByteArray) (a : Nat) : Prop :=
  w.cell? ⟨b, 0, none⟩ = some (.string s) ∧ w.cell? ⟨b, 1, none⟩ = some (.int .i64 a) ∧ w.frozen? ⟨b, 1, none⟩ = false ∧ a ≤ s.size
theorem Pl.lt {w : World} {b : Nat} {s : ByteArray} {a : Nat} (h : Pl w b s a) : b < w.heap.size := World.block_lt_of_cell? w ⟨b, 0, none⟩ h.1
theorem Pl.kept {S : Nat → Prop} {w w' : World} {b : Nat} {s : ByteArray} {a : Nat} (h : Pl w b s a) (hk : Kept S w w') (hb : ¬ S b) : Pl w' b s a :=
  ⟨hk.cell h.1 hb, hk.cell h.2.1 hb, (hk.frozen (p := ⟨b, 1, none⟩) h.lt hb).trans h.2.2.1, h.2.2.2⟩
theorem Pl.drew {w : World} {b : Nat} {s : ByteArray} {a : Nat} (h : Pl w b s a) (n : Nat) : Pl (w.drewN n) b s a := h
theorem left_any {w : World} {b : Nat} {s : ByteArray} {a : Nat} (h : Pl w b s a) (hs : s.size ≤ 140737488351232) : Calls Try.prog 47 #[.pointer (some ⟨b, 0, none⟩)] w fun e w' => e = .returned (.int .i64 ((s.size : Int) - (a : Int))) ∧ ∃ n, w' = w.drewN n := by
  obtain ⟨h0, h1, h2, h3⟩ := h
  go_enter Try.func47, Try.ntmps47
  go_wp2
  go_quiet (fail)
  go_wp2
  go_ret
  exact ⟨rfl, _, rfl⟩
set_option maxRecDepth 100000 in
theorem next_no {w : World} {b : Nat} {s : ByteArray} {a : Nat} (h : Pl w b s a) (hs : s.size ≤ 140737488351232) (n : Int) (hn : (s.size : Int) - (a : Int) < n) : Calls Try.prog 75 #[.pointer (some ⟨b, 0, none⟩), .int .i64 n] w fun e w' => e = .panicked [pe 3] ∧ ∃ n, w' = w.drewN n := by
  have C := left_any h hs
  have HC : Hid (Calls Try.prog 47 #[.pointer (some ⟨b, 0, none⟩)] w fun e w' => e = .returned (.int .i64 ((s.size : Int) - (a : Int))) ∧ ∃ n, w' = w.drewN n) := C
  have hn' : ¬ n ≤ (s.size : Int) - (a : Int) := by omega
  clear C h hn
  generalize (s.size : Int) - (a : Int) = d at *
  have hdc : decide (n ≤ d) = false := by simp; omega
  clear hn'
  go_enter Try.func75, Try.ntmps75
  go_wp2_with fail
  refine HC.out.mono ?_
  rintro e w1 ⟨rfl, m, rfl⟩
  go_wp2_with fail
  refine (need_no 3 _).mono ?_
  rintro e w2 ⟨rfl, rfl⟩
  go_wp2
  exact ⟨rfl, rfl, _, rfl⟩
set_option maxHeartbeats 1000000 in
set_option maxRecDepth 100000 in
theorem next_yes {w : World} {b : Nat} {s : ByteArray} {a : Nat} (h : Pl w b s a) (hs : s.size ≤ 140737488351232) (n : Nat) (hn : a + n ≤ s.size) : Calls Try.prog 75 #[.pointer (some ⟨b, 0, none⟩), .int .i64 n] w fun e w' => e = .returned (.string (s.extract a (a + n))) ∧ ∃ m, w' = (w.drewN m).setCell ⟨b, 1, none⟩ (.int .i64 ((a : Int) + (n : Int))) := by
  have HC : Hid (Calls Try.prog 47 #[.pointer (some ⟨b, 0, none⟩)] w fun e w' => e = .returned (.int .i64 ((s.size : Int) - (a : Int))) ∧ ∃ n, w' = w.drewN n) := left_any h hs
  have hn' : (n : Int) ≤ (s.size : Int) - (a : Int) := by omega
  have hn1 : (a : Int) + (n : Int) ≤ (s.size : Int) := by omega
  obtain ⟨h0, h1, h2, h3⟩ := h
  have h3' : (a : Int) ≤ (s.size : Int) := by omega
  have W : IntKind.i64.wrap ((a : Int) + (n : Int)) = (a : Int) + (n : Int) := by rw [IntKind.wrap_i64]; omega
  have hz : (a : Int) ≤ (a : Int) + (n : Int) := by omega
  generalize hd : (s.size : Int) - (a : Int) = d at *
  clear hd
  go_enter Try.func75, Try.ntmps75
  go_wp2_with fail
  refine HC.out.mono ?_
  rintro e w1 ⟨rfl, m, rfl⟩
  go_wp2_with fail
  refine (need_yes 3 _).mono ?_
  rintro e w2 ⟨rfl, rfl⟩
  go_wp2
  go_quiet (fail)
  go_wp2
  go_ret
  exact ⟨rfl, _, rfl⟩
/-- The deferred one, where the call returns: it does nothing. -/
theorem idle74 (p : Addr) (w : World) : CallsD Try.prog 74 #[.pointer (some p)] .returning w fun e u' w' => e = .returned (.tuple #[]) ∧ u' = .returning ∧ w' = w := by
  refine callsD_of_wpS Try.func74 rfl fun c₀ cs hu => ?_
  apply wpS_seq
  apply wpS_region
  simp [wpOpsS, go_sem, recoverD, hu, Try.ntmps74, Exit.thenS]
  rw [show (#[Value.pointer (some p)] ++ ((Array.replicate 9 undef).setIfInBounds 1 Value.nilIface).setIfInBounds 0 Value.nilIface) = #[Value.pointer (some p), Value.nilIface, Value.nilIface, undef, undef, undef, undef, undef, undef, undef] from rfl]
  refine wpS_of_wp ?_
  go_wp2
  cases c₀
  simp_all [bodyPostS, results, Try.results74, Exit.thenS]
theorem assert29 (f : Int) (w : World) : (Instr.typeAssert (.iface 29 (.int .i64 f)) 20 29 false).run Try.prog w = .ok (.int .i64 f) w := by kernel_rfl
theorem catch74 (p : Addr) (b : Nat) (g f : Int) (w : World) (hp : w.cell? p = some (.pointer (some ⟨b, 0, none⟩))) (hc : w.cell? ⟨b, 2, none⟩ = some (.int .i64 g)) (hz : w.frozen? ⟨b, 2, none⟩ = false) :
    CallsD Try.prog 74 #[.pointer (some p)] (.panicking [pe f]) w fun e u' w' => e = .returned (.tuple #[]) ∧ u' = .panicking [{ v := .iface 29 (.int .i64 f), recovered := true }] ∧ w' = (w.setCell ⟨b, 2, none⟩ (.int .i64 f)).drew := by
  refine callsD_of_wpS Try.func74 rfl fun c₀ cs hu => ?_
  unfold pe at hu
  apply wpS_seq
  apply wpS_region
  simp [wpOpsS, go_sem, recoverD, hu, Try.ntmps74, Exit.thenS]
  rw [show (#[Value.pointer (some p)] ++ ((Array.replicate 9 undef).setIfInBounds 1 (Value.iface 29 (Value.int IntKind.i64 f))).setIfInBounds 0 (Value.iface 29 (Value.int IntKind.i64 f))) = #[Value.pointer (some p), Value.iface 29 (Value.int IntKind.i64 f), Value.iface 29 (Value.int IntKind.i64 f), undef, undef, undef, undef, undef, undef, undef] from rfl]
  refine wpS_of_wp ?_
  have hta := assert29 f
  go_wp2
  go_region
  change bodyPostS _ _ _ _ _ _ _ _ _
  simp [bodyPostS, results, Try.results74, Exit.thenS]
end Go.Proofs.Ytdpddlaedffmdaa
