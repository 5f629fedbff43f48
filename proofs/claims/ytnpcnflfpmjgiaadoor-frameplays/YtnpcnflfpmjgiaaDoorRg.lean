/- The document's disks: Image. -/
import Derived.Test.YtnpcnflfpmjgiaaDoorRf
import Derived.Lib.AppendStr
namespace Go.Proofs.YtnpcnflfpmjgiaaDoor
open Go.RowKit
set_option linter.unusedVariables false
set_option linter.unusedSimpArgs false

theorem conv_cat {w : World} {B g cap : Nat} {l : List UInt8} (h : w.ownsRow B 5 1 (.slice (some ⟨g, 0, none⟩) l.length cap) l.length (Lib.byteCells l)) : (convert 58 9 (.slice (some ⟨g, 0, none⟩) l.length cap)).run Tryd.prog w = .ok (.string ⟨l.toArray⟩) w :=
  run_convert_bytes_back (P := Tryd.prog) w 58 9 5 ⟨g, 0, none⟩ cap l Tryd.underlying58 Tryd.underlying5 Tryd.underlying9 (fun t ht => by
    rw [addr_add, h.cellAt t (by omega)]
    simp [Lib.byteCells, ht])
set_option maxHeartbeats 1000000 in
set_option maxRecDepth 100000 in
theorem rimage_any {B : Nat} {w : World} {b g cg : Nat} {pv : Value} {S : DS} (d : Rv B w b g cg pv S) : Calls Tryd.prog 28 #[.pointer (some ⟨b, 0, none⟩)] w fun e w' => e = .returned (.string (catB S.safe)) ∧ Below w.heap.size w w' := by
  obtain ⟨i5, hi5, hz50, hz51, hz53⟩ := info_parts info5
  have hlt := d.blk.lt
  have HD : Hid (Rv B w b g cg pv S) := d
  have HM : Hid (S.safe.length ≤ 4096) := d.ok.most
  have hm1 : (S.safe.length : Int) ≤ 4096 := by have := d.ok.most; omega
  have R0 : Hid (w.ownsRow w.heap.size 5 1 (.slice none 0 0) (catL (S.safe.take 0)).length (Lib.byteCells (catL (S.safe.take 0)))) := World.ownsRow_nil _ _ _ _
  clear d
  go_enter Tryd.func28, Tryd.ntmps28
  go_wp2_with fail
  go_loopw [3, 4] (fun s t wa => ∃ k : Nat, k ≤ S.safe.length ∧ t = .int .i64 k ∧ wa.ownsRow w.heap.size 5 1 s (catL (S.safe.take k)).length (Lib.byteCells (catL (S.safe.take k))) ∧ Below w.heap.size w wa) (fun _ t _ => S.safe.length - (intOf t).toNat)
  case atStart => exact ⟨0, Nat.zero_le _, rfl, R0.out, Below.refl _ _⟩
  case round =>
    obtain ⟨k, hk, rfl, hR, hBk⟩ := hrel
    clear R0
    have hD := HD.out.below hBk
    have c0 := hD.blk.cell 0 (v := .slice (some ⟨g, 0, none⟩) S.safe.length cg) rfl
    by_cases hlt2 : k < S.safe.length
    · have hk' : (k : Int) < (S.safe.length : Int) := by omega
      have hc := rsafe_at hD hlt2
      have hs := size_getD hD.ok.size hlt2
      have htk : S.safe.take (k + 1) = S.safe.take k ++ [S.safe.getD k ByteArray.empty] := by
        rw [List.take_add_one, List.getD_eq_getElem?_getD, List.getElem?_eq_getElem hlt2]; rfl
      have hln : (catL (S.safe.take k)).length = k * 512 := by
        rw [catL_length (fun s hs => hD.ok.size s (List.mem_of_mem_take hs))]; simp; omega
      have HR : Hid (wr.ownsRow w.heap.size 5 1 u3 (catL (S.safe.take k)).length (Lib.byteCells (catL (S.safe.take k)))) := hR
      have HZ : Hid ((catL (S.safe.take k)).length + (S.safe.getD k ByteArray.empty).size ≤ maxLen ∧ (catL (S.safe.take k)).length + (S.safe.getD k ByteArray.empty).size ≤ 140737488355328 ∧ w.heap.size ≤ wr.heap.size) := ⟨by rw [hln, hs]; unfold maxLen; omega, by rw [hln, hs]; omega, hBk.size⟩
      have HE : Hid (∀ (v' : Value) (w' : World), w'.ownsRow w.heap.size 5 1 v' ((catL (S.safe.take k)).length + (S.safe.getD k ByteArray.empty).size) (Lib.byteCells (catL (S.safe.take k)) ++ Lib.strCells (S.safe.getD k ByteArray.empty)) → wr.grownBy w' u3.ownBlock → w'.ownsRow w.heap.size 5 1 v' (catL (S.safe.take (k + 1))).length (Lib.byteCells (catL (S.safe.take (k + 1)))) ∧ Below w.heap.size w w') := by
        show ∀ (v' : Value) (w' : World), _
        intro v' w' ho hg
        refine ⟨?_, hBk.grown hg hBk.size (fun k e => (HR.out.lt k e).1)⟩
        rw [htk, catL_snoc, List.length_append, show (S.safe.getD k ByteArray.empty).data.toList.length = (S.safe.getD k ByteArray.empty).size by simp, show Lib.byteCells (catL (S.safe.take k) ++ (S.safe.getD k ByteArray.empty).data.toList) = Lib.byteCells (catL (S.safe.take k)) ++ Lib.byteCells (S.safe.getD k ByteArray.empty).data.toList by simp [Lib.byteCells], ← Lib.strCells_eq]
        exact ho
      generalize S.safe.getD k ByteArray.empty = q at *
      clear hR hD htk hln hs
      go_wp2_with (at_builtin; refine Lib.wpList_append_own_string _ rfl _ _ 58 9 rfl w.heap.size 5 i5 Tryd.underlying58 Tryd.underlying9 hi5 hz50 hz51 hz53 u3 _ _ rfl HR.out q rfl HZ.out.1 HZ.out.2.1 HZ.out.2.2 ?_)
      intro v' w' ho hg _
      have hend : Hid _ := HE.out v' w' ho hg
      clear HE HR ho hg
      go_wp2
      go_roundw
      case rel => exact ⟨k + 1, by omega, by go_num, hend.out⟩
      case measure => simp [intOf]; omega
    · have hk' : ¬ (k : Int) < (S.safe.length : Int) := by omega
      have h1 := hD.ok.one
      have hsz : (catL S.safe).length = S.safe.length * 512 := catL_length hD.ok.size
      rw [List.take_of_length_le (by omega)] at hR
      obtain ⟨g2, cap2, rfl, _, _⟩ := hR.form (by omega)
      have hcv := conv_cat hR
      have HB : Hid (Below w.heap.size w wr) := hBk
      clear hR hD hBk hsz
      go_wp2
      go_ret
      exact ⟨rfl, HB.out⟩
end Go.Proofs.YtnpcnflfpmjgiaaDoor
