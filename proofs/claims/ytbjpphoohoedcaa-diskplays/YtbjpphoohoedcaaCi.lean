/- The statements' helpers: full, pick, and the head of all statements, awake. -/
import Derived.Test.YtbjpphoohoedcaaCh
import Derived.Laws.IdiomStrings
namespace Go.Proofs.Ytbjpphoohoedcaa
open Go.RowKit
set_option linter.unusedVariables false
set_option linter.unusedSimpArgs false

theorem info5 : (Try.prog.info? 5).map (fun i => (i.zero, i.size, i.bytes)) = some (some (.int .u8 0), 1, 1) := by kernel_rfl
/-- A sector of one byte, with others at its ends. -/
def fullL (b e : UInt8) : List UInt8 := ((List.replicate 512 b).set 0 e).set 511 e
def fullB (b e : UInt8) : ByteArray := ⟨(fullL b e).toArray⟩
theorem fullL_length (b e : UInt8) : (fullL b e).length = 512 := by unfold fullL; rw [List.length_set, List.length_set, List.length_replicate]
theorem fullB_size (b e : UInt8) : (fullB b e).size = 512 := by simp [fullB, ByteArray.size, fullL_length]
def by8 (b : UInt8) : Value := .int .u8 (b.toNat : Int)
def fill (b : UInt8) (k : Nat) : List Value := List.replicate k (by8 b) ++ List.replicate (512 - k) (.int .u8 0)
theorem fill_set (b : UInt8) (k : Nat) (hk : k < 512) : (fill b k).set k (by8 b) = fill b (k + 1) := by
  unfold fill
  rw [List.set_append_right _ _ (by simp)]
  have : 512 - k = (512 - (k + 1)) + 1 := by omega
  rw [this, List.replicate_succ]
  simp [List.replicate_succ', List.append_assoc]
theorem fill_full (b : UInt8) : fill b 512 = List.replicate 512 (by8 b) := by unfold fill; rw [Nat.sub_self, List.replicate_zero, List.append_nil]
set_option maxHeartbeats 1000000 in
set_option maxRecDepth 100000 in
theorem full_any (b e : UInt8) (w : World) : Calls Try.prog 27 #[.int .u8 (b.toNat : Int), .int .u8 (e.toNat : Int)] w fun r w' => r = .returned (.string (fullB b e)) ∧ Below w.heap.size w w' := by
  obtain ⟨i0, hi, hz0, hz1, hz2⟩ := info_parts info5
  go_enter Try.func27, Try.ntmps27
  go_wp2_with (at_make; refine wpList_make_full _ rfl _ _ 50 rfl w.heap.size 5 i0 (.int .u8 0) 1 Try.underlying50 hi hz0 hz1 _ _ _ _ 512 rfl rfl rfl rfl ?c1 ?c2 ?c3 ?_)
  case c1 => rw [hz2]; omega
  case c2 => unfold maxLen; omega
  case c3 => omega
  intro w2 hown hgrow
  have hr0 : w2.ownsRow w.heap.size 5 1 (.slice (some ⟨w.heap.size, 0, none⟩) 512 512) 512 (fill b 0) := by
    have e : (madeCells #[Value.int .u8 0] 512).toList = fill b 0 := by rw [toList_madeCells_one]; unfold fill; rw [List.replicate_zero, List.nil_append]
    rw [← e]; exact hown
  have HR : Hid (w2.ownsRow w.heap.size 5 1 (.slice (some ⟨w.heap.size, 0, none⟩) 512 512) 512 (fill b 0)) := hr0
  have HB : Hid (Below w.heap.size w w2) := (Below.refl _ _).grown hgrow (Nat.le_refl _) (fun _ h => by cases h)
  clear hown hgrow hr0
  go_wp2_with fail
  go_loopw [6] (fun c wr => ∃ k : Nat, k ≤ 512 ∧ c = .int .i64 k ∧ wr.ownsRow w.heap.size 5 1 (.slice (some ⟨w.heap.size, 0, none⟩) 512 512) 512 (fill b k) ∧ Below w.heap.size w wr) (fun c _ => 512 - (intOf c).toNat)
  case atStart => exact ⟨0, by omega, rfl, HR.out, HB.out⟩
  case round =>
    obtain ⟨k, hk, rfl, hR, hBk⟩ := hrel
    by_cases hlt : k < 512
    · have hk' : (k : Int) < 512 := by omega
      have hend : Hid ((wr.setCell ⟨w.heap.size, k, none⟩ (.int .u8 (b.toNat : Int))).ownsRow w.heap.size 5 1 (.slice (some ⟨w.heap.size, 0, none⟩) 512 512) 512 (fill b (k + 1)) ∧ Below w.heap.size w (wr.setCell ⟨w.heap.size, k, none⟩ (.int .u8 (b.toNat : Int)))) := by
        have := (hR.stored k (by8 b)).1
        rw [fill_set b k hlt] at this
        exact ⟨this, hBk.setCell (Nat.le_refl _) _⟩
      have hl : k < (fill b k).length := by have := hR.1; omega
      obtain ⟨v, hc⟩ : ∃ v, wr.cell? ⟨w.heap.size, k, none⟩ = some v := ⟨_, (hR.cellAt k (by omega)).trans (List.getElem?_eq_getElem hl)⟩
      have hf := hR.frozenAt k
      clear hR hBk HR HB hl
      go_wp2_with fail
      exact ⟨⟨k + 1, by omega, by go_num, hend.out⟩, by simp [intOf]; omega⟩
    · have hk' : ¬ (k : Int) < 512 := by omega
      have hke : k = 512 := by omega
      subst hke
      rw [fill_full] at hR
      have r1 := hR.stored 0 (by8 e)
      have r2 := r1.1.stored 511 (by8 e)
      have f0 := hR.frozenAt 0
      have f1 := hR.frozenAt 511
      have c0 : wr.cell? ⟨w.heap.size, 0, none⟩ = some (by8 b) := (hR.cellAt 0 (by omega)).trans (by rw [List.getElem?_replicate]; rfl)
      have c1 : wr.cell? ⟨w.heap.size, 511, none⟩ = some (by8 b) := (hR.cellAt 511 (by omega)).trans (by rw [List.getElem?_replicate]; rfl)
      have hB2 : Hid (Below w.heap.size w ((wr.setCell ⟨w.heap.size, 0, none⟩ (.int .u8 (e.toNat : Int))).setCell ⟨w.heap.size, 511, none⟩ (.int .u8 (e.toNat : Int)))) := (hBk.setCell (Nat.le_refl _) _).setCell (Nat.le_refl _) _
      have hcv : (convert 50 9 (.slice (some ⟨w.heap.size, 0, none⟩) 512 512)).run Try.prog ((wr.setCell ⟨w.heap.size, 0, none⟩ (.int .u8 (e.toNat : Int))).setCell ⟨w.heap.size, 511, none⟩ (.int .u8 (e.toNat : Int))) = .ok (.string (fullB b e)) ((wr.setCell ⟨w.heap.size, 0, none⟩ (.int .u8 (e.toNat : Int))).setCell ⟨w.heap.size, 511, none⟩ (.int .u8 (e.toNat : Int))) := by
        have := run_convert_bytes_back (P := Try.prog) ((wr.setCell ⟨w.heap.size, 0, none⟩ (by8 e)).setCell ⟨w.heap.size, 511, none⟩ (by8 e)) 50 9 5 ⟨w.heap.size, 0, none⟩ 512 (fullL b e) Try.underlying50 Try.underlying5 Try.underlying9 (fun t ht => by
          rw [fullL_length] at ht
          rw [show (⟨w.heap.size, 0, none⟩ : Addr).add t = ⟨w.heap.size, t, none⟩ by unfold Addr.add; split <;> simp_all]
          rw [r2.1.cellAt t (by omega)]
          simp only [fullL, List.getElem?_set, List.getElem_set, List.length_set, List.length_replicate, List.getElem_replicate, List.getElem?_replicate]
          split
          · simp [by8]
          · split
            · simp [by8]
            · simp [by8, ht])
        rw [fullL_length] at this
        exact this
      unfold by8 at c0 c1
      clear r1 r2 hR hBk HR HB
      go_wp2_with fail
      go_ret
      exact ⟨rfl, hB2.out⟩
end Go.Proofs.Ytbjpphoohoedcaa
