/- Package lex: span with the question of a gap, of a word; gap. -/
import Derived.Test.YtlgfpjaomiomjaaGreatDoorLb
namespace Go.Proofs.YtlgfpjaomiomjaaGreatDoor
open Go.RowKit
set_option linter.unusedVariables false
set_option linter.unusedSimpArgs false

theorem Blk.iterAt {w : World} {b : Nat} {cs : Array Value} {t : TypeId} (h : Blk w b cs t) {k : Nat} (hk : b < k) (s : ByteArray) (p : Nat) : Blk (w.iterAt k s p) b cs t := by
  have hb := Lib.below_iterAt (Below.refl k w) (k := k) (Nat.le_refl _) s p
  exact (hb.block b hk).trans h
theorem Kept.iterAt {S : Nat → Prop} {a w : World} (h : Kept S a w) {k : Nat} (hk : a.heap.size ≤ k) (s : ByteArray) (p : Nat) : Kept S a (w.iterAt k s p) := by
  have hb := Lib.below_iterAt (Below.refl k w) (k := k) (Nat.le_refl _) s p
  exact ⟨hb.os.trans h.os, hb.tape.trans h.tape, hb.output.trans h.output, Nat.le_trans h.size hb.size, fun i hi hs => (hb.block i (by omega)).trans (h.block i hi hs)⟩

def GapAt (s : ByteArray) (w : World) (b : Nat) (wr : World) : Prop :=
  ∃ (p : Nat) (m : Bool), p ≤ s.size ∧ Aside (p + gapL m (s.data.toList.drop p) = gapL false s.data.toList) ∧ wr.heap[w.heap.size]? = some (.stringIter s p) ∧ Blk wr b #[.bool m] 4 ∧ Kept (fun k => k = b) w wr

set_option maxHeartbeats 1000000 in
theorem span_gap (s : ByteArray) (hs : s.size ≤ maxLen) (b : Nat) (w : World) (hb : Blk w b #[.bool false] 4) :
    Calls Tryz.prog 30 #[.string s, .func (.func 31) #[] #[.pointer (some ⟨b, 0, none⟩)]] w fun e w' => e = .returned (.int .i64 (gapL false s.data.toList)) ∧ Kept (fun k => k = b) w w' := by
  unfold maxLen at hs
  have hlt0 : b < w.heap.size := hb.lt
  have HB : Hid (Blk w b #[.bool false] 4) := hb
  clear hb
  go_enter Tryz.func30, Tryz.ntmps30
  go_wp2
  go_loopw [] (fun wr => GapAt s w b wr) (fun wr => s.size - wr.iterPos w.heap.size)
  case atStart =>
    refine ⟨0, false, by omega, by show _ = _; simp, ?_, ?_, ?_⟩
    · exact World.iter_heap w s 0
    · exact HB.out.below ((Below.refl _ _).alloc (Nat.le_refl _) (.stringIter s 0))
    · exact (Kept.refl _ _).alloc (.stringIter s 0)
  case round =>
    obtain ⟨p, m, hp, A, hit, hB, hK⟩ := hrel
    have HP : Hid _ := iterPos_of hit
    by_cases hlt : p < s.size
    · have hnx : ∀ ty, (Instr.next (.pointer (some ⟨w.heap.size, 0, none⟩)) true ty).run Tryz.prog wr = _ := fun ty => Lib.run_next_any_at wr w.heap.size s p ty hit hlt
      obtain ⟨p', hp'⟩ : ∃ p', p' = p + (Utf8.decode s p).2 := ⟨_, rfl⟩
      obtain ⟨r, hr⟩ : ∃ r, r = (Utf8.decode s p).1 := ⟨_, rfl⟩
      rw [← hr] at hnx
      rw [← hp'] at hnx
      have hit2 := Lib.iterAt_heap wr w.heap.size s p p' hit
      have HB2 : Hid (Blk (wr.iterAt w.heap.size s p') b #[.bool m] 4) := hB.iterAt hlt0 s p'
      have HK2 : Hid (Kept (fun k => k = b) w (wr.iterAt w.heap.size s p')) := hK.iterAt (Nat.le_refl _) s p'
      obtain ⟨W1, hW1⟩ : ∃ W1, W1 = wr.iterAt w.heap.size s p' := ⟨_, rfl⟩
      rw [← hW1] at hnx hit2 HB2 HK2
      have HI2 : Hid _ := hit2
      have HS : Hid ((goI m (r : Int) = true → p < p' ∧ p' ≤ s.size ∧ p' + gapL (remI m r) (s.data.toList.drop p') = gapL false s.data.toList) ∧ (goI m (r : Int) = false → p = gapL false s.data.toList)) := by
        show _ ∧ _
        have hA := A.out
        rw [byteAt s hlt] at hA
        by_cases ha : (s[p]).toNat < 128
        · have hd := decode_ascii s p hlt ha
          have e1 : r = (s[p]).toNat := by rw [hr, hd]
          have e2 : p' = p + 1 := by rw [hp', hd]
          subst e1; subst e2
          refine ⟨fun h => ⟨by omega, by omega, ?_⟩, fun h => ?_⟩
          · rw [gap_go h] at hA; rw [← hA]; unfold cI; omega
          · rw [gap_stop h] at hA; rw [← hA]; omega
        · have ha' : 128 ≤ (s[p]).toNat := by omega
          obtain ⟨q1, q2⟩ := decode_high s p hlt ha'
          obtain ⟨q3, q4⟩ := decode_run s p hlt ha'
          rw [← hr] at q1
          have hr128 : (128 : Int) ≤ (r : Int) := by omega
          have hc128 : (128 : Int) ≤ cI s[p] := by unfold cI; omega
          rw [go_high hr128, rem_high hr128]
          refine ⟨fun h => ⟨by omega, by omega, ?_⟩, fun h => ?_⟩
          · subst h
            rw [← byteAt s hlt, gap_highs _ _ q4 (by simp; omega), List.drop_drop] at hA
            rw [hp', ← hA]; omega
          · subst h
            rw [gap_stop (go_high hc128)] at hA; rw [← hA]; omega
      clear hit hit2 hW1 hB hK A hp' hr
      go_wp2_with fail
      refine (gap1_any r m b _ HB2.out).mono ?_
      rintro e w2 ⟨rfl, hB3, hK3⟩
      cases hg : goI m (r : Int)
      · have E : Hid (p = gapL false s.data.toList) := HS.out.2 hg
        go_wp2
        go_ret
        exact ⟨by rw [← E.out]; rfl, HK2.out.trans (hK3.mono (fun k _ h => h))⟩
      · obtain ⟨x1, x2, x3⟩ := HS.out.1 hg
        have HX3 : Hid _ := x3
        have hz : w.heap.size < W1.heap.size := (Array.getElem?_eq_some_iff.1 HI2.out).1
        have hit3 : w2.heap[w.heap.size]? = some (.stringIter s p') := by rw [hK3.block _ hz (by omega)]; exact HI2.out
        have HI3 : Hid _ := hit3
        have HB3 : Hid _ := hB3
        have HK3 : Hid _ := HK2.out.trans hK3
        clear x3 hit3 hB3 hK3 HI2 HB2 HK2 HS hz
        go_wp2
        go_roundw
        case rel => exact ⟨p', _, x2, HX3.out, HI3.out, HB3.out, HK3.out⟩
        case measure => rw [iterPos_of HI3.out, HP.out]; omega
    · have e : p = s.size := by omega
      subst e
      have hnx : ∀ ty, (Instr.next (.pointer (some ⟨w.heap.size, 0, none⟩)) true ty).run Tryz.prog wr = _ := fun ty => Lib.run_next_end_at wr w.heap.size s s.size ty hit (by omega)
      have E : Hid (s.size = gapL false s.data.toList) := by
        show _ = _
        rw [← A.out, List.drop_eq_nil_of_le (by simp)]; simp [gapL]
      have HK : Hid _ := hK
      clear hit hB hK A
      go_wp2
      go_ret
      exact ⟨by rw [← E.out]; rfl, HK.out⟩
end Go.Proofs.YtlgfpjaomiomjaaGreatDoor
