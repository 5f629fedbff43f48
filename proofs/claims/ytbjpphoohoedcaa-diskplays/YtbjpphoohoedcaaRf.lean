/- The document's disks: New refused, Load. -/
import Derived.Test.YtbjpphoohoedcaaRe
import Derived.Test.YtbjpphoohoedcaaCm
namespace Go.Proofs.Ytbjpphoohoedcaa
open Go.RowKit
set_option linter.unusedVariables false
set_option linter.unusedSimpArgs false

theorem rnew_no (n : Int) (hn : ¬ (1 ≤ n ∧ n ≤ 4096)) (w : World) : Calls Try.prog 13 #[.int .i64 n] w fun e w' => e = .returned (.tuple #[.pointer none, .int .i64 1]) ∧ w' = w := by
  by_cases h1 : n < 1
  · go_enter Try.func13, Try.ntmps13
    go_wp2
    go_ret2
    exact ⟨rfl, rfl⟩
  · have h2 : 4096 < n := by omega
    go_enter Try.func13, Try.ntmps13
    go_wp2
    go_ret2
    exact ⟨rfl, rfl⟩
theorem rload_no (s : ByteArray) (hs : s.size ≤ 140737488355328) (hn : ¬ (s.size % 512 = 0 ∧ 1 ≤ s.size / 512 ∧ s.size / 512 ≤ 4096)) (w : World) : Calls Try.prog 15 #[.string s] w fun e w' => e = .returned (.tuple #[.pointer none, .int .i64 1]) ∧ w' = w := by
  by_cases h3 : (s.size : Int) % 512 = 0
  · have h4 : ((s.size : Int) % 512 != 0) = false := by simpa using h3
    by_cases h5 : s.size = 0
    · have h6 : ((s.size : Int) == 0) = true := by simpa using h5
      clear hn h3
      go_enter Try.func15, Try.ntmps15
      go_wp2
      go_ret2
      exact ⟨rfl, rfl⟩
    · have h6 : ((s.size : Int) == 0) = false := by simpa using h5
      have h7 : (2097152 : Int) < (s.size : Int) := by
        by_cases h : (2097152 : Int) < (s.size : Int)
        · exact h
        · exact absurd ⟨by omega, by omega, by omega⟩ hn
      clear hn h3 h5
      go_enter Try.func15, Try.ntmps15
      go_wp2
      go_ret2
      exact ⟨rfl, rfl⟩
  · have h4 : ((s.size : Int) % 512 != 0) = true := by simpa using h3
    clear hn h3
    go_enter Try.func15, Try.ntmps15
    go_wp2
    go_ret2
    exact ⟨rfl, rfl⟩
set_option maxHeartbeats 1000000 in
set_option maxRecDepth 100000 in
theorem rload_ok (s : ByteArray) (n : Nat) (hs : s.size = n * 512) (h1 : 1 ≤ n) (h2 : n ≤ 4096) (B : Nat) (w : World) (hB : B ≤ w.heap.size) : Calls Try.prog 15 #[.string s] w fun e w' => RMade B w (freshD (secs s n)) e w' := by
  obtain ⟨i0, hi, hz0, hz1, hz3⟩ := info_parts info9
  have hm : ((s.size : Int) % 512 != 0) = false := by rw [show (s.size : Int) % 512 = 0 by omega]; rfl
  have hm0 : ((s.size : Int) == 0) = false := beq_eq_false_iff_ne.2 (by omega)
  have hm2 : (s.size : Int) ≤ 2097152 := by omega
  have HS : Hid (s.size = n * 512) := hs
  have R0 : Hid (Rn w (w.alloc (.cells #[.slice none 0 0, .slice none 0 0, .bool false, .int .i64 0, .int .i64 0, .int .i64 0, .int .i64 0] 75)) (.slice none 0 0) (secs s 0)) := ⟨Blk.new _ _ _, World.ownsRow_nil _ _ _ _, fun j e => by simp [Value.ownBlock] at e, (Below.refl _ _).alloc (Nat.le_refl _) _⟩
  have HEND : Hid (∀ (wa : World) (sv : Value), Rn w wa sv (secs s n) → RMade B w (freshD (secs s n)) (.returned (.tuple #[pt w.heap.size, .int .i64 0])) wa) := fun wa sv h => h.done B hB (by rw [secs_length]; exact h1) (by rw [secs_length]; exact h2) (secs_size HS.out)
  generalize freshD (secs s n) = SF at *
  clear hB hs
  go_enter Try.func15, Try.ntmps15
  go_wp2_with fail
  go_loopw [5] (fun t wa => ∃ (k I : Nat) (sv : Value), k ≤ n ∧ I = k * 512 ∧ t = .int .i64 I ∧ Rn w wa sv (secs s k)) (fun t _ => n * 512 - (intOf t).toNat)
  case atStart => exact ⟨0, 0, _, Nat.zero_le _, rfl, rfl, R0.out⟩
  case round =>
    obtain ⟨k, I, sv, hk, hI, rfl, hR⟩ := hrel
    clear R0
    by_cases hlt : k < n
    · have hk' : (I : Int) < (s.size : Int) := by have := HS.out; omega
      have hk2 : (I : Int) + 512 ≤ (s.size : Int) := by have := HS.out; omega
      have hk3 : (I : Int) ≤ (I : Int) + 512 := by omega
      have hk4 : ((I : Int) + 512).toNat = I + 512 := by omega
      have hIb : (I : Int) ≤ 2097152 := by omega
      have hW : IntKind.i64.wrap ((I : Int) + 512) = (I : Int) + 512 := (IntWalk.i64_left _).trans (wrap_small (by omega) (by omega))
      have c0 := hR.blk.cell 0 (v := sv) rfl
      have f0 := hR.blk.frozen 0
      have hlt0 := hR.blk.lt
      have HR : Hid (Rn w wr sv (secs s k)) := hR
      have HQ : Hid (s.extract I (I + 512) = sec s k) := by show _ = _; unfold sec; rw [hI, Nat.succ_mul]
      have HN : Hid (∀ u ∈ [Value.string (s.extract I (I + 512))], u.oneCell' = true) := fun u hu => by rw [List.mem_singleton.1 hu]; rfl
      have HRX : Hid ((wr.alloc (.cells #[.string (s.extract I (I + 512))] 9)).drew.ownsRow w.heap.size 9 1 sv k (strs (secs s k))) := by
        have := HR.out.row
        rw [secs_length] at this
        exact (this.alloc _).drew
      have HNX : Hid (∀ (j : Nat) (u : Value), [Value.string (s.extract I (I + 512))][j]? = some u → (wr.alloc (.cells #[.string (s.extract I (I + 512))] 9)).drew.cell? ((⟨wr.heap.size, 0, none⟩ : Addr).add j) = some u) := World.news_of_block (w := (wr.alloc (.cells #[.string (s.extract I (I + 512))] 9)).drew) (Blk.new wr #[.string (s.extract I (I + 512))] 9)
      have HSZ : Hid (k + 1 ≤ maxLen ∧ (k + 1) * 16 ≤ 140737488355328 ∧ w.heap.size ≤ (wr.alloc (.cells #[.string (s.extract I (I + 512))] 9)).drew.heap.size) := ⟨by unfold maxLen; omega, by omega, by show w.heap.size ≤ (wr.alloc (.cells #[.string (s.extract I (I + 512))] 9)).heap.size; rw [World.size_alloc]; omega⟩
      have HA : Hid (Rn w (wr.alloc (.cells #[.string (s.extract I (I + 512))] 9)).drew sv (secs s k)) := HR.out.below ((Below.refl _ _).alloc (Nat.le_refl _) _).drew
      have KE : Hid (∀ w6 : World, (wr.alloc (.cells #[.string (s.extract I (I + 512))] 9)).drew.grownBy w6 sv.ownBlock → w6.cell? ⟨w.heap.size, 0, none⟩ = some sv ∧ w.heap.size < w6.heap.size ∧ w6.frozen? ⟨w.heap.size, 0, none⟩ = false) := by
        show ∀ w6 : World, _
        intro w6 hg
        have hA := HA.out
        have hk6 : Kept (fun k => sv.ownBlock = some k) _ w6 := (Kept.refl _ _).grown hg (fun k e => e)
        have hB := hA.blk.kept hk6 (fun e => hA.sep _ e rfl)
        exact ⟨hB.cell 0 rfl, hB.lt, hB.frozen 0⟩
      have HE : Hid (∀ (w6 : World) (g cap : Nat), (wr.alloc (.cells #[.string (s.extract I (I + 512))] 9)).drew.grownBy w6 sv.ownBlock → w6.ownsRow w.heap.size 9 1 (.slice (some ⟨g, 0, none⟩) (k + 1) cap) (k + 1) (strs (secs s k) ++ [.string (s.extract I (I + 512))]) → (sv.ownBlock = some g ∨ g = (wr.alloc (.cells #[.string (s.extract I (I + 512))] 9)).drew.heap.size) → Rn w (w6.setCell ⟨w.heap.size, 0, none⟩ (.slice (some ⟨g, 0, none⟩) (k + 1) cap)) (.slice (some ⟨g, 0, none⟩) (k + 1) cap) (secs s (k + 1))) := by
        show ∀ (w6 : World) (g cap : Nat), _
        intro w6 g cap hg hown hwh
        have := HA.out.push (s.extract I (I + 512)) g cap (by simpa [secs_length] using hown) hg hwh
        rw [secs_succ, ← HQ.out]
        simpa [secs_length] using this
      have HI : Hid (I = k * 512) := hI
      clear hR HR hI
      go_wp2_with fail
      go_region_law (refine step_append_lies _ (by rfl) (.tmp 32) (.tmp 38) 72 (by rfl) w.heap.size 9 i0 (.string ⟨#[]⟩) 1 16 Try.underlying72 hi hz0 hz1 hz3 rfl (by decide) sv k (strs (secs s k)) (by rfl) (by exact HRX.out) ⟨wr.heap.size, 0, none⟩ 1 1 [.string (s.extract I (I + 512))] (by rfl) rfl (by exact HNX.out) HN.out (by decide) HSZ.out.1 HSZ.out.2.1 (by exact HSZ.out.2.2) _ (by rfl) ?_; intro g1 cap1 w6 hown hgr hwh hlt6; obtain ⟨ke1, ke2, ke3⟩ := KE.out w6 hgr; have hend : Hid _ := HE.out w6 g1 cap1 hgr hown hwh; clear hown hgr hwh)
      all_goals
        go_wp2
        go_roundw
        case rel => exact ⟨k + 1, I + 512, _, by omega, (by have := HI.out; omega), by go_num, hend.out⟩
        case measure => have := HI.out; have := HS.out; simp [intOf]; omega
    · have hk' : ¬ (I : Int) < (s.size : Int) := by have := HS.out; omega
      have hke : k = n := by omega
      subst hke
      have hE : Hid (RMade B w SF (.returned (.tuple #[pt w.heap.size, .int .i64 0])) wr) := HEND.out wr sv hR
      unfold pt at hE
      clear hR HEND
      go_wp2
      go_ret2
      exact hE.out
end Go.Proofs.Ytbjpphoohoedcaa
