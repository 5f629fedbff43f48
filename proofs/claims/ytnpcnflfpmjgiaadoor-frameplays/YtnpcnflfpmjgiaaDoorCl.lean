/- Package disk: Image and Pending of a disk in memory. -/
import Derived.Test.YtnpcnflfpmjgiaaDoorCj
namespace Go.Proofs.YtnpcnflfpmjgiaaDoor
open Go.RowKit
set_option linter.unusedVariables false
set_option linter.unusedSimpArgs false

/-- All bytes of some sectors. -/
def catL (l : List ByteArray) : List UInt8 := l.flatMap (fun s => s.data.toList)
def catB (l : List ByteArray) : ByteArray := ⟨(catL l).toArray⟩
theorem catL_snoc (l : List ByteArray) (s : ByteArray) : catL (l ++ [s]) = catL l ++ s.data.toList := by simp [catL]
theorem catL_length {l : List ByteArray} (h : ∀ s ∈ l, s.size = 512) : (catL l).length = l.length * 512 := by
  induction l with
  | nil => rfl
  | cons a l ih =>
    rw [show catL (a :: l) = a.data.toList ++ catL l by simp [catL], List.length_append, ih (fun s hs => h s (by simp [hs]))]
    have := h a (by simp)
    rw [show a.data.toList.length = a.size by simp, this]; simp; omega
set_option maxHeartbeats 1000000 in
set_option maxRecDepth 100000 in
theorem image_any {B : Nat} {w : World} {b g h cg ch : Nat} {pv : Value} {bx : List (Nat × Nat)} {S : DS} {shown : List ByteArray} (d : Dv B w b g h cg ch pv bx S shown) : Calls Tryd.prog 27 #[.pointer (some ⟨b, 0, none⟩)] w fun e w' => e = .returned (.string (catB S.safe)) ∧ Below w.heap.size w w' := by
  have hb1 : Below w.heap.size w (w.alloc (.cells #[.pointer none, .slice none 0 0] 97)) := (Below.refl _ _).alloc (Nat.le_refl _) _
  have CG : Hid (Calls Tryd.prog 55 #[.pointer (some ⟨w.heap.size, 0, none⟩), .int .i64 ((S.safe.length * 512 : Nat) : Int)] (w.alloc (.cells #[.pointer none, .slice none 0 0] 97)) fun e w' => e = .returned (.tuple #[]) ∧ (Lib.BuilderAt 97 5 w.heap.size w.heap.size (.pointer (some ⟨w.heap.size, 0, none⟩)) [] w' ∧ Below w.heap.size (w.alloc (.cells #[.pointer none, .slice none 0 0] 97)) w')) :=
    Tryd.Builder_Grow_fresh w.heap.size w.heap.size (S.safe.length * 512) _ (Nat.le_refl _) (heap_alloc_new w _) hb1.size (by have := d.ok.most; omega)
  have hmul : (S.safe.length : Int) * 512 = ((S.safe.length * 512 : Nat) : Int) := by omega
  have hlt := d.blk.lt
  have c0 := d.blk.cell 0 (v := .slice (some ⟨g, 0, none⟩) S.safe.length cg) rfl
  have hml := d.ok.most
  have HD : Hid (Dv B w b g h cg ch pv bx S shown) := d
  have HM : Hid (S.safe.length ≤ 4096) := hml
  have hm1 : (S.safe.length : Int) ≤ 4096 := by omega
  have hn1 : ((S.safe.length * 512 : Nat) : Int) ≤ 2097152 := by omega
  clear d
  generalize hN : S.safe.length * 512 = N at *
  clear hN
  go_enter Tryd.func27, Tryd.ntmps27
  go_wp2_with fail
  generalize w.alloc (.cells #[.pointer none, .slice none 0 0] 97) = w1 at *
  refine CG.out.mono ?_
  rintro e w2 ⟨rfl, hB2, hb2⟩
  have hb02 : Below w.heap.size w w2 := hb1.trans hb2
  have c02 := (hb02.cell (p := ⟨b, 0, none⟩) hlt).trans c0
  have HB2 : Hid (Lib.BuilderAt 97 5 w.heap.size w.heap.size (.pointer (some ⟨w.heap.size, 0, none⟩)) (Lib.byteCells (catL (S.safe.take 0))) w2) := hB2
  clear CG hB2 hb1 hb2 c0 hmul hn1
  go_wp2
  go_loopw [20] (fun t w3 => ∃ k : Nat, k ≤ S.safe.length ∧ t = .int .i64 k ∧ Lib.BuilderAt 97 5 w.heap.size w.heap.size (.pointer (some ⟨w.heap.size, 0, none⟩)) (Lib.byteCells (catL (S.safe.take k))) w3 ∧ Below w.heap.size w w3) (fun t _ => S.safe.length - (intOf t).toNat)
  case atStart => exact ⟨0, Nat.zero_le _, rfl, HB2.out, hb02⟩
  case round =>
    obtain ⟨k, hk, rfl, hR, hBk⟩ := hrel
    by_cases hlt2 : k < S.safe.length
    · have hk' : (k : Int) < (S.safe.length : Int) := by omega
      have hD := HD.out.below hBk
      have hc := safe_at hD hlt2
      have hs := size_getD hD.ok.size hlt2
      have htk : S.safe.take (k + 1) = S.safe.take k ++ [S.safe.getD k ByteArray.empty] := by
        rw [List.take_add_one, List.getD_eq_getElem?_getD, List.getElem?_eq_getElem hlt2]; rfl
      have hln : (Lib.byteCells (catL (S.safe.take k))).length = k * 512 := by
        rw [Lib.byteCells_length, catL_length (fun s hs => hD.ok.size s (List.mem_of_mem_take hs))]; simp; omega
      have CW : Hid (Calls Tryd.prog 56 #[.pointer (some ⟨w.heap.size, 0, none⟩), .string (S.safe.getD k ByteArray.empty)] wr fun e w' => e = .returned (.tuple #[.int .i64 ((S.safe.getD k ByteArray.empty).size : Int), .nilIface]) ∧ (Lib.BuilderAt 97 5 w.heap.size w.heap.size (.pointer (some ⟨w.heap.size, 0, none⟩)) (Lib.byteCells (catL (S.safe.take (k + 1)))) w' ∧ Below w.heap.size wr w')) := by
        have := Tryd.Builder_WriteString w.heap.size w.heap.size (Lib.byteCells (catL (S.safe.take k))) (S.safe.getD k ByteArray.empty) wr (.inr hR) (by rw [hln, hs]; omega) hBk.size
        rw [htk, catL_snoc]
        rw [Lib.strCells_eq] at this
        rw [show Lib.byteCells (catL (S.safe.take k) ++ (S.safe.getD k ByteArray.empty).data.toList) = Lib.byteCells (catL (S.safe.take k)) ++ Lib.byteCells (S.safe.getD k ByteArray.empty).data.toList by simp [Lib.byteCells]]
        exact this
      generalize S.safe.getD k ByteArray.empty = q at *
      clear hR hD htk hln hs
      go_wp2_with fail
      refine CW.out.mono ?_
      rintro e w4 ⟨rfl, hR4, hb4⟩
      have hend : Hid (Lib.BuilderAt 97 5 w.heap.size w.heap.size (.pointer (some ⟨w.heap.size, 0, none⟩)) (Lib.byteCells (catL (S.safe.take (k + 1)))) w4 ∧ Below w.heap.size w w4) := ⟨hR4, hBk.trans hb4⟩
      clear CW hR4 hb4 hBk
      go_wp2
      exact ⟨⟨k + 1, by omega, by go_num, hend.out⟩, by simp [intOf]; omega⟩
    · have hk' : ¬ (k : Int) < (S.safe.length : Int) := by omega
      have CS : Hid (Calls Tryd.prog 57 #[.pointer (some ⟨w.heap.size, 0, none⟩)] wr fun e w' => e = .returned (.string (catB S.safe)) ∧ Below w.heap.size wr w') := by
        have := Tryd.Builder_String_any w.heap.size w.heap.size (catL (S.safe.take k)) wr (.inr hR) hBk.size
        rw [List.take_of_length_le (by omega)] at this
        exact this
      clear hR
      go_wp2_with fail
      refine CS.out.mono ?_
      rintro e w4 ⟨rfl, hb4⟩
      go_wp2
      go_ret
      exact ⟨rfl, hBk.trans hb4⟩
theorem info3 : (Tryd.prog.info? 3).map (fun i => (i.zero, i.size, i.bytes)) = some (some (.int .i64 0), 1, 8) := by kernel_rfl
/-- Numbers in memory, half filled. -/
def nums (l : List Nat) (n : Nat) : List Value := l.map (fun x : Nat => .int .i64 (x : Int)) ++ List.replicate (n - l.length) (.int .i64 0)
theorem nums_set (l : List Nat) (n x : Nat) (h : l.length < n) : (nums l n).set l.length (.int .i64 (x : Int)) = nums (l ++ [x]) n := by
  unfold nums
  rw [List.set_append_right _ _ (by simp)]
  have : n - l.length = (n - (l.length + 1)) + 1 := by omega
  simp [this, List.replicate_succ]
set_option maxHeartbeats 1000000 in
set_option maxRecDepth 100000 in
theorem pending_any {B : Nat} {w : World} {b g h cg ch : Nat} {pv : Value} {bx : List (Nat × Nat)} {S : DS} {shown : List ByteArray} (d : Dv B w b g h cg ch pv bx S shown) (hfew : S.wait.length ≤ 17592186044416) : Calls Tryd.prog 25 #[.pointer (some ⟨b, 0, none⟩)] w fun e w' => e = .returned (.slice (some ⟨w.heap.size, 0, none⟩) S.wait.length S.wait.length) ∧ w'.ownsRow w.heap.size 3 1 (.slice (some ⟨w.heap.size, 0, none⟩) S.wait.length S.wait.length) S.wait.length (nums (S.wait.map (·.1)) S.wait.length) ∧ Below w.heap.size w w' := by
  obtain ⟨i0, hi, hz0, hz1, hz3⟩ := info_parts info3
  obtain ⟨pa, pc, rfl⟩ := ownsRow_slice d.rowP
  have c2 := d.blk.cell 2 (v := .slice pa S.wait.length pc) rfl
  have hlt := d.blk.lt
  have HD : Hid (Dv B w b g h cg ch (.slice pa S.wait.length pc) bx S shown) := d
  clear d
  go_enter Tryd.func25, Tryd.ntmps25
  go_wp2_with (at_make; refine wpList_make_full _ rfl _ _ 51 rfl w.heap.size 3 i0 (.int .i64 0) 1 Tryd.underlying51 hi hz0 hz1 _ _ _ _ S.wait.length rfl rfl rfl rfl ?c1 ?c2 ?c3 ?_)
  case c1 => rw [hz3]; omega
  case c2 => unfold maxLen; omega
  case c3 => omega
  intro w2 hown hgrow
  have hB2 : Below w.heap.size w w2 := (Below.refl _ _).grown hgrow (Nat.le_refl _) (fun _ h => by cases h)
  have HR : Hid (w2.ownsRow w.heap.size 3 1 (.slice (some ⟨w.heap.size, 0, none⟩) S.wait.length S.wait.length) S.wait.length (nums ((S.wait.take 0).map (·.1)) S.wait.length)) := by
    show World.ownsRow _ _ _ _ _ _ _
    have e : (madeCells #[Value.int .i64 0] S.wait.length).toList = nums ((S.wait.take 0).map (·.1)) S.wait.length := by rw [toList_madeCells_one]; simp [nums]
    rw [← e]; exact hown
  have HB : Hid (Below w.heap.size w w2) := hB2
  have c22 := (hB2.cell (p := ⟨b, 2, none⟩) hlt).trans c2
  clear hown hgrow c2 hB2
  go_wp2_with fail
  go_loopw [19] (fun t w3 => ∃ k : Nat, k ≤ S.wait.length ∧ t = .int .i64 k ∧ w3.ownsRow w.heap.size 3 1 (.slice (some ⟨w.heap.size, 0, none⟩) S.wait.length S.wait.length) S.wait.length (nums ((S.wait.take k).map (·.1)) S.wait.length) ∧ Below w.heap.size w w3) (fun t _ => S.wait.length - (intOf t).toNat)
  case atStart => exact ⟨0, Nat.zero_le _, rfl, HR.out, HB.out⟩
  case round =>
    obtain ⟨k, hk, rfl, hR, hBk⟩ := hrel
    by_cases hlt2 : k < S.wait.length
    · have hk' : (k : Int) < (S.wait.length : Int) := by omega
      have hD := HD.out.below hBk
      have hp : S.wait[k]? = some (S.wait[k]) := List.getElem?_eq_getElem hlt2
      have hxl : k < bx.length := by rw [hD.blen]; exact hlt2
      have hx : bx[k]? = some (bx[k]) := List.getElem?_eq_getElem hxl
      generalize S.wait[k] = p at *
      generalize bx[k] = x at *
      obtain ⟨pg, rfl⟩ : ∃ pg, pa = some ⟨pg, 0, none⟩ := by
        rcases hD.rowP.2 with ⟨_, h0⟩ | ⟨pg, cap, cur, e, _⟩
        · exact absurd h0 (by omega)
        · injection e with e; exact ⟨pg, e⟩
      have hc : wr.cell? ⟨pg, k, none⟩ = some (clo x) := by
        rw [hD.rowP.cellAt k (by omega)]; simp [hx]
      unfold clo at hc
      have C71 : Hid (Calls Tryd.prog 94 #[.slice none 0 0, .int .i64 0, .pointer (some ⟨x.1, 0, none⟩), .pointer (some ⟨x.2, 0, none⟩)] wr fun e w' => e = .returned (.int .i64 p.1) ∧ w' = wr) := none71 (.slice none 0 0) x p.1 ((hD.box k x p hx hp).2.cell 0 rfl)
      have htk : (S.wait.take (k + 1)).map (·.1) = (S.wait.take k).map (·.1) ++ [p.1] := by
        rw [List.take_add_one, hp]; simp
      have hln : ((S.wait.take k).map (·.1)).length = k := by simp; omega
      have hend : Hid ((wr.setCell ⟨w.heap.size, k, none⟩ (.int .i64 (p.1 : Int))).ownsRow w.heap.size 3 1 (.slice (some ⟨w.heap.size, 0, none⟩) S.wait.length S.wait.length) S.wait.length (nums ((S.wait.take (k + 1)).map (·.1)) S.wait.length) ∧ Below w.heap.size w (wr.setCell ⟨w.heap.size, k, none⟩ (.int .i64 (p.1 : Int)))) := by
        refine ⟨?_, hBk.setCell (Nat.le_refl _) _⟩
        have := (hR.stored k (.int .i64 (p.1 : Int))).1
        have e := nums_set ((S.wait.take k).map (·.1)) S.wait.length p.1 (by omega)
        rw [hln] at e
        rw [e, ← htk] at this
        exact this
      have hl : k < (nums ((S.wait.take k).map (·.1)) S.wait.length).length := by have := hR.1; omega
      obtain ⟨v, hcv⟩ : ∃ v, wr.cell? ⟨w.heap.size, k, none⟩ = some v := ⟨_, (hR.cellAt k (by omega)).trans (List.getElem?_eq_getElem hl)⟩
      have hf := hR.frozenAt k
      clear hR hD hBk hl htk hln hx hp HD HR HB hxl
      go_wp2_with fail
      refine C71.out.mono ?_
      rintro e w4 ⟨rfl, hw⟩
      rw [hw]
      clear hw C71
      go_wp2
      exact ⟨⟨k + 1, by omega, by go_num, hend.out⟩, by simp [intOf]; omega⟩
    · have hk' : ¬ (k : Int) < (S.wait.length : Int) := by omega
      rw [List.take_of_length_le (by omega)] at hR
      have HR2 : Hid (wr.ownsRow w.heap.size 3 1 (.slice (some ⟨w.heap.size, 0, none⟩) S.wait.length S.wait.length) S.wait.length (nums (S.wait.map (·.1)) S.wait.length)) := hR
      clear hR
      go_wp2
      go_ret
      exact ⟨rfl, HR2.out, hBk⟩
end Go.Proofs.YtnpcnflfpmjgiaaDoor
