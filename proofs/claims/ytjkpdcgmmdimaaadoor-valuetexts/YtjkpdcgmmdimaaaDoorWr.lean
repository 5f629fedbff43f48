/- slices.Reverse over bytes: the cells of the slice hold the list turned round; all else is as it was. -/
import Derived.Test.YtjkpdcgmmdimaaaDoorProg
import Derived.WalkKit
import Derived.Deep.LoopGhost
import Derived.Lib.Walk
import Derived.Sort.WalkB12
import Derived.Lib.SlicesMore
import Derived.Lib.OwnBridge
import Derived.Laws.IdiomStrings
namespace Go.Proofs.YtjkpdcgmmdimaaaDoor
open Go.RowKit Go.Lib Go.Sort
set_option linter.unusedVariables false

abbrev encU : UInt8 → Value := fun b => Value.int .u8 (b.toNat : Int)
set_option maxHeartbeats 1600000 in
set_option maxRecDepth 1000000 in
theorem reverse_arr (blk off cap : Nat) (d : Array UInt8) (w : World) (hH : Holds encU w blk off d) (hsz : d.size ≤ 9223372036854775807) :
    Calls Tryd.prog 71 #[.slice (some ⟨blk, off, none⟩) d.size cap] w fun e w' => e = .returned (.tuple #[]) ∧ ∃ n, w' = putRow encU (Sort.ahead w n) blk off d.reverse := by
  go_enter Tryd.func71, Tryd.ntmps71
  go_wp2
  go_loopg [2, 3] d.size (fun k s2 s3 wr => ∃ (i jn : Nat) (jz : Int) (dk : Array UInt8) (n : Nat), s2 = .int .i64 i ∧ s3 = .int .i64 jz ∧ ((i : Int) < jz → jz = jn ∧ jn < d.size) ∧ (¬ (i : Int) < jz → ¬ i < jn) ∧ jn - i ≤ k ∧
    dk.size = d.size ∧ wr = putRow encU (Sort.ahead w n) blk off dk ∧ reverseLoop i jn dk = reverseLoop 0 (d.size - 1) d)
  case atStart => exact ⟨0, d.size - 1, (d.size : Int) - 1, d, 0, rfl, rfl, fun h => ⟨by omega, by omega⟩, fun h => by omega, by omega, rfl, (putRow_self encU w blk off d hH).symm, rfl⟩
  case round =>
    obtain ⟨i, jn, jz, dk, n, rfl, rfl, h1, h2, hk, hds, hwr, heq⟩ := hrel
    by_cases hlt : (i : Int) < jz
    · obtain ⟨rfl, hjn⟩ := h1 hlt
      have hij : i < jn := by omega
      have hHk : Holds encU wr blk off dk := by rw [hwr]; exact holds_putRow encU _ blk off d dk (holds_ahead encU w n blk off d hH) hds
      obtain ⟨ci, fi⟩ := hHk i (by omega)
      obtain ⟨cj, fj⟩ := hHk jn (by omega)
      have A : Aside (wr = putRow encU (Sort.ahead w n) blk off dk) := hwr
      clear hwr hHk hH h1 h2
      go_wp2_with fail
      go_region
      go_wp2
      go_roundg (jn - 1 - (i + 1))
      case measure => omega
      case rel =>
        rw [reverseLoop, if_pos hij] at heq
        exact ⟨i + 1, jn - 1, (jn : Int) - 1, swp dk i jn, n + 1, by simp, rfl, fun h => ⟨by omega, by omega⟩, fun h => by omega, Nat.le_refl _, by rw [size_swp]; exact hds,
          swap_world encU (by omega) (by omega) A.out (by first | rfl | simp [encU, getElem!_pos, show jn < dk.size by omega]) (by first | rfl | simp [encU, getElem!_pos, show i < dk.size by omega]), heq⟩
    · have hnot := h2 hlt
      go_wp2
      go_end0
      refine ⟨rfl, n, ?_⟩
      rw [reverseLoop, if_neg hnot] at heq
      rw [← Lib.reverseLoop_reverse, ← heq]

/-- slices.Reverse of bytes that the call itself made: made a string behind it, they are the list turned round. -/
theorem reverse_owned {w : World} {base : Nat} {v : Value} {l : List UInt8} (h : w.ownsRow base 5 1 v l.length (l.map encU)) (hne : l ≠ []) (hb : base ≤ w.heap.size) (hl : l.length ≤ 9223372036854775807) :
    Calls Tryd.prog 71 #[v] w fun e w' => e = .returned (.tuple #[]) ∧ (∀ w2 : World, w2.heap = w'.heap → (convert 57 9 v).run Tryd.prog w2 = .ok (.string ⟨l.reverse.toArray⟩) w2) ∧ Below base w w' := by
  have hv : v ≠ .slice none 0 0 := by
    rintro rfl
    rcases h.2 with ⟨_, h2⟩ | ⟨g, cap, cur, h2, _⟩
    · exact hne (List.length_eq_zero_iff.1 h2)
    · cases h2
  obtain ⟨g, cap, rfl, hbg, hlt, hn, hm, _, hH⟩ := Lib.holds_of_ownsRow h hv
  have hc := reverse_arr g 0 cap l.toArray w hH (by simpa using hl)
  simp only [List.size_toArray] at hc
  refine hc.mono ?_
  rintro e w' ⟨rfl, n, rfl⟩
  refine ⟨rfl, ?_, Lib.below_putRow (Below.refl _ _) hbg⟩
  intro w2 hw2
  have hcell := Sort.cell?_putRow encU (Sort.ahead w n) g 0 l.toArray l.toArray.reverse (Sort.holds_ahead encU w n g 0 _ hH) (by simp)
  have := run_convert_bytes_back (P := Tryd.prog) w2 57 9 5 ⟨g, 0, none⟩ cap l.reverse Tryd.underlying57 Tryd.underlying5 Tryd.underlying9 (fun j hj => by
    have hj' : j < l.length := by simpa using hj
    have e1 := hcell j (by simpa using hj')
    rw [show (⟨g, 0, none⟩ : Addr).add j = ⟨g, 0 + j, none⟩ by unfold Addr.add; split <;> simp_all]
    have e2 : w2.cell? ⟨g, 0 + j, none⟩ = (Sort.putRow encU (Sort.ahead w n) g 0 l.toArray.reverse).cell? ⟨g, 0 + j, none⟩ := World.cell?_of_block (by rw [hw2])
    rw [e2, e1]
    simp [encU, getElem!_pos, hj'])
  rwa [List.length_reverse] at this
end Go.Proofs.YtjkpdcgmmdimaaaDoor
