/- Package pack's readers: Open, At, Fault, End, and Uint: what each answers and leaves. -/
import Derived.Test.YtdpddlaedffmdaaQb
namespace Go.Proofs.Ytdpddlaedffmdaa
open Go.RowKit
set_option linter.unusedVariables false
set_option linter.unusedSimpArgs false

/-- A reader in memory: its bytes, its place, its error. -/
def Rd (w : World) (b : Nat) (s : ByteArray) (a : Nat) (f : Int) : Prop :=
  Pl w b s a ∧ w.cell? ⟨b, 2, none⟩ = some (.int .i64 f) ∧ w.frozen? ⟨b, 0, none⟩ = false ∧ w.frozen? ⟨b, 2, none⟩ = false
theorem Rd.lt {w : World} {b : Nat} {s : ByteArray} {a : Nat} {f : Int} (h : Rd w b s a f) : b < w.heap.size := h.1.lt
theorem Rd.kept {S : Nat → Prop} {w w' : World} {b : Nat} {s : ByteArray} {a : Nat} {f : Int} (h : Rd w b s a f) (hk : Kept S w w') (hb : ¬ S b) : Rd w' b s a f :=
  ⟨h.1.kept hk hb, hk.cell h.2.1 hb, (hk.frozen (p := ⟨b, 0, none⟩) h.lt hb).trans h.2.2.1, (hk.frozen (p := ⟨b, 2, none⟩) h.lt hb).trans h.2.2.2⟩
theorem Rd.below {w w' : World} {b : Nat} {s : ByteArray} {a : Nat} {f : Int} (h : Rd w b s a f) (hb : Below w.heap.size w w') : Rd w' b s a f := h.kept (S := fun _ => False) (Kept.of_below hb) id
theorem open_any (s : ByteArray) (w : World) : Calls Try.prog 12 #[.string s] w fun e w' => e = .returned (.pointer (some ⟨w.heap.size, 0, none⟩)) ∧ w' = w.alloc (.cells #[.string s, .int .i64 0, .int .i64 0] 75) := by
  go_enter Try.func12, Try.ntmps12
  go_wp2
  go_ret
  exact ⟨rfl, rfl⟩
theorem Rd.new (s : ByteArray) (w : World) (t : TypeId) : Rd (w.alloc (.cells #[.string s, .int .i64 0, .int .i64 0] t)) w.heap.size s 0 0 :=
  ⟨⟨by simp, by simp, by simp, by omega⟩, by simp, by simp, by simp⟩
theorem at_any {w : World} {b : Nat} {s : ByteArray} {a : Nat} {f : Int} (h : Rd w b s a f) : Calls Try.prog 19 #[.pointer (some ⟨b, 0, none⟩)] w fun e w' => e = .returned (.int .i64 a) ∧ w' = w := by
  obtain ⟨⟨h0, h1, h2, h3⟩, h4, h5, h6⟩ := h
  go_enter Try.func19, Try.ntmps19
  go_wp2
  go_ret
  exact ⟨rfl, rfl⟩
/-- The place that Fault tells. -/
def faultAt (a : Nat) (f : Int) : Int := if f = 0 then 0 else (a : Int)
theorem fault_any {w : World} {b : Nat} {s : ByteArray} {a : Nat} {f : Int} (h : Rd w b s a f) : Calls Try.prog 18 #[.pointer (some ⟨b, 0, none⟩)] w fun e w' => e = .returned (.tuple #[.int .i64 f, .int .i64 (faultAt a f)]) ∧ ∃ n, w' = w.drewN n := by
  obtain ⟨⟨h0, h1, h2, h3⟩, h4, h5, h6⟩ := h
  by_cases hf : f = 0
  · subst hf
    rw [show faultAt a 0 = 0 from rfl]
    go_enter Try.func18, Try.ntmps18
    go_wp2
    go_ret2
    exact ⟨rfl, 0, rfl⟩
  · rw [show faultAt a f = (a : Int) by unfold faultAt; rw [if_neg hf]]
    go_enter Try.func18, Try.ntmps18
    go_wp2
    go_quiet (fail)
    go_wp2
    go_ret2
    exact ⟨rfl, _, rfl⟩
/-- What End answers. -/
def endR (s : ByteArray) (a : Nat) (f : Int) : Int := if f = 0 ∧ a < s.size then 31 else f
set_option maxRecDepth 100000 in
theorem end_any {w : World} {b : Nat} {s : ByteArray} {a : Nat} {f : Int} (h : Rd w b s a f) (hs : s.size ≤ 140737488351232) : Calls Try.prog 20 #[.pointer (some ⟨b, 0, none⟩)] w fun e w' => e = .returned (.int .i64 (endR s a f)) ∧ ∃ n, w' = w.drewN n := by
  have C : Hid (Calls Try.prog 47 #[.pointer (some ⟨b, 0, none⟩)] w fun e w' => e = .returned (.int .i64 ((s.size : Int) - (a : Int))) ∧ ∃ n, w' = w.drewN n) := left_any h.1 hs
  obtain ⟨⟨h0, h1, h2, h3⟩, h4, h5, h6⟩ := h
  by_cases hf : f = 0
  · subst hf
    by_cases ha : a < s.size
    · have ha' : (0 : Int) < (s.size : Int) - (a : Int) := by omega
      rw [show endR s a 0 = 31 by unfold endR; rw [if_pos ⟨rfl, ha⟩]]
      go_enter Try.func20, Try.ntmps20
      go_wp2_with fail
      refine C.out.mono ?_
      rintro e w1 ⟨rfl, m, rfl⟩
      generalize (s.size : Int) - (a : Int) = d at *
      go_wp2
      go_ret
      exact ⟨rfl, _, rfl⟩
    · have ha' : ¬ (0 : Int) < (s.size : Int) - (a : Int) := by omega
      rw [show endR s a 0 = 0 by unfold endR; rw [if_neg (fun h => ha h.2)]]
      go_enter Try.func20, Try.ntmps20
      go_wp2_with fail
      refine C.out.mono ?_
      rintro e w1 ⟨rfl, m, rfl⟩
      generalize (s.size : Int) - (a : Int) = d at *
      have ha2 : d ≤ 0 := by omega
      go_wp2
      go_ret
      exact ⟨rfl, _, rfl⟩
  · rw [show endR s a f = f by unfold endR; rw [if_neg (fun h => hf h.1)]]
    go_enter Try.func20, Try.ntmps20
    go_wp2
    go_ret
    exact ⟨rfl, 0, rfl⟩
/-- The closure of Uint. -/
theorem close49 {w : World} {b : Nat} {s : ByteArray} {a : Nat} (h : Pl w b s a) (hs : s.size ≤ 140737488351232) (most mb : Nat) (hm : w.cell? ⟨mb, 0, none⟩ = some (.int .u64 most)) : Calls Try.prog 49 #[.pointer (some ⟨b, 0, none⟩), .pointer (some ⟨mb, 0, none⟩)] w fun e w' =>
    Outc b s w (.int .u64 (numR (s.data.toList.drop a) most).1) (a + (numR (s.data.toList.drop a) most).2.1) (numR (s.data.toList.drop a) most).2.2 e w' := by
  have C : Hid (Calls Try.prog 50 #[.pointer (some ⟨b, 0, none⟩), .int .u64 most] w fun e w' => Outc b s w (.int .u64 (numR (s.data.toList.drop a) most).1) (a + (numR (s.data.toList.drop a) most).2.1) (numR (s.data.toList.drop a) most).2.2 e w') := number_any h hs most
  clear h
  generalize numR (s.data.toList.drop a) most = R at *
  go_enter Try.func49, Try.ntmps49
  go_wp2_with fail
  refine C.out.mono ?_
  rintro e w1 ⟨hk, (⟨hf, rfl, hp⟩ | ⟨hf, rfl⟩)⟩
  · go_wp2
    go_ret
    exact ⟨hk, .inl ⟨hf, rfl, hp⟩⟩
  · go_wp2
    exact ⟨rfl, hk, .inr ⟨hf, rfl⟩⟩
end Go.Proofs.Ytdpddlaedffmdaa
