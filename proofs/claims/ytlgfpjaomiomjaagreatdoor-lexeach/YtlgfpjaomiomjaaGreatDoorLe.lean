/- Package lex: span with the question of a word; gap. -/
import Derived.Test.YtlgfpjaomiomjaaGreatDoorLd
namespace Go.Proofs.YtlgfpjaomiomjaaGreatDoor
open Go.RowKit
set_option linter.unusedVariables false
set_option linter.unusedSimpArgs false

def WordAt (s : ByteArray) (w : World) (wr : World) : Prop :=
  ∃ p : Nat, p ≤ s.size ∧ Aside (p + wlen (s.data.toList.drop p) = wlen s.data.toList) ∧ wr.heap[w.heap.size]? = some (.stringIter s p) ∧ Below w.heap.size w wr

set_option maxHeartbeats 1000000 in
theorem span_word (s : ByteArray) (hs : s.size ≤ maxLen) (w : World) :
    Calls Tryz.prog 30 #[.string s, .func (.func 35) #[] #[]] w fun e w' => e = .returned (.int .i64 (wlen s.data.toList)) ∧ Below w.heap.size w w' := by
  unfold maxLen at hs
  go_enter Tryz.func30, Tryz.ntmps30
  go_wp2
  go_loopw [] (fun wr => WordAt s w wr) (fun wr => s.size - wr.iterPos w.heap.size)
  case atStart =>
    refine ⟨0, by omega, by show _ = _; simp, World.iter_heap w s 0, ?_⟩
    exact (Below.refl _ _).alloc (Nat.le_refl _) (.stringIter s 0)
  case round =>
    obtain ⟨p, hp, A, hit, hK⟩ := hrel
    have HP : Hid _ := iterPos_of hit
    by_cases hlt : p < s.size
    · have hnx : ∀ ty, (Instr.next (.pointer (some ⟨w.heap.size, 0, none⟩)) true ty).run Tryz.prog wr = _ := fun ty => Lib.run_next_any_at wr w.heap.size s p ty hit hlt
      obtain ⟨p', hp'⟩ : ∃ p', p' = p + (Utf8.decode s p).2 := ⟨_, rfl⟩
      obtain ⟨r, hr⟩ : ∃ r, r = (Utf8.decode s p).1 := ⟨_, rfl⟩
      rw [← hr] at hnx
      rw [← hp'] at hnx
      have hit2 := Lib.iterAt_heap wr w.heap.size s p p' hit
      have HK2 : Hid (Below w.heap.size w (wr.iterAt w.heap.size s p')) := Lib.below_iterAt hK (k := w.heap.size) (Nat.le_refl _) s p'
      obtain ⟨W1, hW1⟩ : ∃ W1, W1 = wr.iterAt w.heap.size s p' := ⟨_, rfl⟩
      rw [← hW1] at hnx hit2 HK2
      have HI2 : Hid _ := hit2
      have HS : Hid ((ptI (r : Int) = true → p < p' ∧ p' ≤ s.size ∧ p' + wlen (s.data.toList.drop p') = wlen s.data.toList) ∧ (ptI (r : Int) = false → p = wlen s.data.toList)) := by
        show _ ∧ _
        have hA := A.out
        rw [byteAt s hlt] at hA
        by_cases ha : (s[p]).toNat < 128
        · have hd := decode_ascii s p hlt ha
          have e1 : r = (s[p]).toNat := by rw [hr, hd]
          have e2 : p' = p + 1 := by rw [hp', hd]
          subst e1; subst e2
          refine ⟨fun h => ⟨by omega, by omega, ?_⟩, fun h => ?_⟩
          · rw [wlen_go h] at hA; rw [← hA]; omega
          · rw [wlen_stop h] at hA; rw [← hA]; omega
        · have ha' : 128 ≤ (s[p]).toNat := by omega
          obtain ⟨q1, q2⟩ := decode_high s p hlt ha'
          rw [← hr] at q1
          have hr128 : (128 : Int) ≤ (r : Int) := by omega
          have hc128 : (128 : Int) ≤ cI s[p] := by unfold cI; omega
          rw [pt_high hr128]
          refine ⟨fun h => (by cases h), fun h => ?_⟩
          rw [wlen_stop (pt_high hc128)] at hA; rw [← hA]; omega
      clear hit hit2 hW1 hK A hp' hr
      go_wp2_with fail
      refine (pt_any r _).mono ?_
      rintro e w2 ⟨rfl, rfl⟩
      cases hg : ptI (r : Int)
      · have E : Hid (p = wlen s.data.toList) := HS.out.2 hg
        go_wp2
        go_ret
        exact ⟨by rw [← E.out]; rfl, HK2.out⟩
      · obtain ⟨x1, x2, x3⟩ := HS.out.1 hg
        have HX3 : Hid _ := x3
        clear x3 HS
        go_wp2
        go_roundw
        case rel => exact ⟨p', x2, HX3.out, HI2.out, HK2.out⟩
        case measure => rw [iterPos_of HI2.out, HP.out]; omega
    · have e : p = s.size := by omega
      subst e
      have hnx : ∀ ty, (Instr.next (.pointer (some ⟨w.heap.size, 0, none⟩)) true ty).run Tryz.prog wr = _ := fun ty => Lib.run_next_end_at wr w.heap.size s s.size ty hit (by omega)
      have E : Hid (s.size = wlen s.data.toList) := by
        show _ = _
        rw [← A.out, List.drop_eq_nil_of_le (by simp)]; simp [wlen]
      have HK : Hid _ := hK
      clear hit hK A
      go_wp2
      go_ret
      exact ⟨by rw [← E.out]; rfl, HK.out⟩
theorem gap_any (s : ByteArray) (hs : s.size ≤ maxLen) (w : World) : Calls Tryz.prog 19 #[.string s] w fun e w' => e = .returned (.int .i64 (gapL false s.data.toList)) ∧ Below w.heap.size w w' := by
  have hmf : ∀ (fn : Fn) (first cap : Array Value) (w : World), (Instr.makeFunc fn first cap).run Tryz.prog w = .ok (.func fn first cap) w := fun _ _ _ _ => rfl
  have C : Hid (Calls Tryz.prog 30 #[.string s, .func (.func 31) #[] #[.pointer (some ⟨w.heap.size, 0, none⟩)]] (w.alloc (.cells #[.bool false] 4)) fun e w' => e = .returned (.int .i64 (gapL false s.data.toList)) ∧ Kept (fun k => k = w.heap.size) (w.alloc (.cells #[.bool false] 4)) w') := span_gap s hs w.heap.size _ (Blk.new _ _ _)
  generalize gapL false s.data.toList = g at *
  go_enter Tryz.func19, Tryz.ntmps19
  go_wp2_with fail
  refine C.out.mono ?_
  rintro e w1 ⟨rfl, hk⟩
  go_wp2
  go_ret
  exact ⟨rfl, ((Below.refl _ _).alloc (Nat.le_refl _) _).trans (hk.below (by simp) (fun k e => by omega))⟩
end Go.Proofs.YtlgfpjaomiomjaaGreatDoor
