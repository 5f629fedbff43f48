/- The walk of LexJoins. -/
import Derived.Test.YtlgfpjaomiomjaaDoorJb
namespace Go.Proofs.YtlgfpjaomiomjaaDoor
open Go.RowKit
set_option linter.unusedVariables false
set_option linter.unusedSimpArgs false

set_option maxHeartbeats 8000000 in
set_option maxRecDepth 100000 in
theorem joins_walk (a b : ByteArray) (ha : a.size ≤ 140737488351232) (hb : b.size ≤ 140737488351232) (w : World) (hT : Tabs w) : Calls Tryd.prog 5 #[.string a, .string b] w fun e w' => e = .returned (.bool true) ∧ Below w.heap.size w w' := by
  have la : a.data.toList.length = a.size := by simp
  have lbb : b.data.toList.length = b.size := by simp
  have HT : Hid (∀ w1, Below w.heap.size w w1 → Tabs w1) := fun w1 h => hT.below h
  have CL : Hid (Calls Tryd.prog 7 #[] w fun e w' => e = .returned (.bool true) ∧ Below w.heap.size w w') := live_any w hT
  have CA : Hid (∀ w1, Below w.heap.size w w1 → Calls Tryd.prog 10 #[.string a] w1 fun e w' => ∃ ad cap, e = .returned (.tuple #[.slice ad (tokR a.data.toList).1.length cap, .agg (fltA (tokR a.data.toList).2)]) ∧ Tok6 w' ad (tokR a.data.toList).1 ∧ Below w1.heap.size w1 w') := fun w1 h => tok_six a (by unfold maxLen; omega) w1 (hT.below h)
  have CB : Hid (∀ w1, Below w.heap.size w w1 → Calls Tryd.prog 10 #[.string b] w1 fun e w' => ∃ ad cap, e = .returned (.tuple #[.slice ad (tokR b.data.toList).1.length cap, .agg (fltA (tokR b.data.toList).2)]) ∧ Tok6 w' ad (tokR b.data.toList).1 ∧ Below w1.heap.size w1 w') := fun w1 h => tok_six b (by unfold maxLen; omega) w1 (hT.below h)
  have HJ : Hid ((tokR a.data.toList).2.1 = 0 → (tokR b.data.toList).2.1 = 0 → a.size + b.size + 1 ≤ 65536 → tokR ((a ++ ⟨#[10]⟩ ++ b).data.toList) = ((tokR a.data.toList).1 ++ (tokR b.data.toList).1.map (shiftT (a.data.toList.count 10 + 1)), (0, 0, 0))) := fun h1 h2 h3 => by
    have := tok_join h1 h2 (by omega)
    rw [← this]
    congr 1
    simp [ByteArray.data_append]
  have nA := tok_count a.data.toList
  have nB := tok_count b.data.toList
  have HLA : Hid (∀ t ∈ (tokR b.data.toList).1, t.line ≤ 65537) := tok_lines b.data.toList
  obtain ⟨TA, hTA⟩ : ∃ TA, TA = tokR a.data.toList := ⟨_, rfl⟩
  obtain ⟨TB, hTB⟩ : ∃ TB, TB = tokR b.data.toList := ⟨_, rfl⟩
  rw [← hTA] at CA HJ nA
  rw [← hTB] at CB HJ nB HLA
  clear hT hTA hTB
  go_enter Tryd.func5, Tryd.ntmps5
  go_wp2_with fail
  refine CL.out.mono ?_
  rintro e w1 ⟨rfl, hb1⟩
  go_wp2_with fail
  refine (CA.out _ hb1).mono ?_
  rintro e w2 ⟨adA, capA, rfl, hA2, hb2'⟩
  have hb2 : Below w.heap.size w (w2.alloc (.cells (fltA TA.2) 29)) := (bst hb1 hb2').alloc (by have := hb1.size; have := hb2'.size; omega) _
  have HA2 : Hid (Tok6 (w2.alloc (.cells (fltA TA.2) 29)) adA TA.1) := hA2.below ((Below.refl _ _).alloc (Nat.le_refl _) _)
  have HF2 : Hid (Blk (w2.alloc (.cells (fltA TA.2) 29)) w2.heap.size (fltA TA.2) 29) := Blk.new _ _ _
  clear hb1 hb2' hA2 CL CA
  go_wp2_with fail
  refine (CB.out _ hb2).mono ?_
  rintro e w3 ⟨adB, capB, rfl, hA3, hb3'⟩
  have hb3 : Below w.heap.size w (w3.alloc (.cells (fltA TB.2) 29)) := (bst hb2 hb3').alloc (by have := hb2.size; have := hb3'.size; omega) _
  have HA3 : Hid (Tok6 (w3.alloc (.cells (fltA TB.2) 29)) adA TA.1) := (HA2.out.below hb3').below ((Below.refl _ _).alloc (Nat.le_refl _) _)
  have HB3 : Hid (Tok6 (w3.alloc (.cells (fltA TB.2) 29)) adB TB.1) := hA3.below ((Below.refl _ _).alloc (Nat.le_refl _) _)
  have f0 : w3.cell? ⟨w2.heap.size, 0, none⟩ = some (.int .i64 (TA.2.1 : Int)) := (HF2.out.below hb3').cell 0 rfl
  have z3 : w2.heap.size < w3.heap.size := World.block_lt_of_cell? _ _ f0
  have HB : Hid (Below w.heap.size w (w3.alloc (.cells (fltA TB.2) 29))) := hb3
  clear hb2 hb3' hA3 CB HA2 HF2 hb3
  by_cases h1 : TA.2.1 = 0
  rotate_left
  · have q1 : ((TA.2.1 : Int) != 0) = true := by simp [h1]
    clear h1
    go_wp2
    go_ret
    exact ⟨rfl, HB.out⟩
  have q1 : ((TA.2.1 : Int) != 0) = false := by simp [h1]
  by_cases h2 : TB.2.1 = 0
  rotate_left
  · have q2 : ((TB.2.1 : Int) != 0) = true := by simp [h2]
    clear h1 h2
    go_wp2
    go_ret
    exact ⟨rfl, HB.out⟩
  have q2 : ((TB.2.1 : Int) != 0) = false := by simp [h2]
  by_cases h3 : a.size + b.size + 1 ≤ 65536
  rotate_left
  · have q3 : (65536 : Int) < (a.size : Int) + (b.size : Int) + 1 := by omega
    clear h1 h2 h3
    go_wp2
    go_ret
    exact ⟨rfl, HB.out⟩
  have q3 : decide ((65536 : Int) < (a.size : Int) + (b.size : Int) + 1) = false := by simp; omega
  have CC : Hid (Calls Tryd.prog 10 #[.string (a ++ ⟨#[10]⟩ ++ b)] (w3.alloc (.cells (fltA TB.2) 29)) fun e w' => ∃ ad cap, e = .returned (.tuple #[.slice ad (TA.1.length + TB.1.length) cap, .agg (fltA (0, 0, 0))]) ∧ Tok6 w' ad (TA.1 ++ TB.1.map (shiftT (a.data.toList.count 10 + 1))) ∧ Below (w3.alloc (.cells (fltA TB.2) 29)).heap.size (w3.alloc (.cells (fltA TB.2) 29)) w') := by
    have := tok_six (a ++ ⟨#[10]⟩ ++ b) (by unfold maxLen; rw [ByteArray.size_append, ByteArray.size_append, show (⟨#[10]⟩ : ByteArray).size = 1 from rfl]; omega) _ (HT.out _ HB.out)
    rw [HJ.out h1 h2 h3] at this
    simp only [List.length_append, List.length_map] at this
    exact this
  clear h1 h2 HJ
  have ha2 : a.size ≤ 65536 := by omega
  have hb2 : b.size ≤ 65536 := by omega
  go_wp2_with fail
  refine CC.out.mono ?_
  rintro e w4 ⟨adN, capN, rfl, hN, hb4⟩
  obtain ⟨W, hW⟩ : ∃ W, W = w4.alloc (.cells (fltA (0, 0, 0)) 29) := ⟨_, rfl⟩
  have hbW : Below (w3.alloc (.cells (fltA TB.2) 29)).heap.size (w3.alloc (.cells (fltA TB.2) 29)) W := by rw [hW]; exact hb4.alloc hb4.size _
  have HA4 : Hid (Tok6 W adA TA.1) := HA3.out.below hbW
  have HB4 : Hid (Tok6 W adB TB.1) := HB3.out.below hbW
  have HN4 : Hid (Tok6 W adN (TA.1 ++ TB.1.map (shiftT (a.data.toList.count 10 + 1)))) := by rw [hW]; exact hN.below ((Below.refl _ _).alloc (Nat.le_refl _) _)
  have HBW : Hid (Below w.heap.size w W) := bst HB.out hbW
  have HFW : Hid (Blk W w4.heap.size (fltA (0, 0, 0)) 29) := by rw [hW]; exact Blk.new _ _ _
  have HCL : Hid (a.data.toList.count 10 ≤ 65536) := by
    have := List.count_le_length (a := 10) (l := a.data.toList)
    exact Nat.le_trans this (by omega)
  obtain ⟨cn, hcn⟩ : ∃ cn, cn = a.data.toList.count 10 := ⟨_, rfl⟩
  have HC : Hid (cn = a.data.toList.count 10) := hcn
  rw [← hcn] at HN4 HCL
  have hcl : cn ≤ 65536 := HCL.out
  clear CC hbW hb4 hN HA3 HB3 HB f0 z3 hcn HCL
  have u0 := HFW.out.cell 0 (v := .int .i64 0) rfl
  go_wp2_with fail
  rw [show (w4.alloc (Obj.cells #[Value.int IntKind.i64 0, .int .i64 0, .int .i64 0] 29)) = W from hW.symm]
  clear hW
  go_loopw [12, 13] (fun l i wr => ∃ k : Nat, k ≤ a.size ∧ i = .int .i64 k ∧ l = .int .i64 (1 + ((a.data.toList.take k).count 10 : Nat) : Int) ∧ wr = W) (fun _ i _ => a.size - (intOf i).toNat)
  case atStart => exact ⟨0, by omega, rfl, rfl, rfl⟩
  case round =>
    obtain ⟨k, hk, rfl, rfl, hwr⟩ := hrel
    obtain rfl := Eq.symm hwr
    have hcb : (a.data.toList.take k).count 10 ≤ k := Nat.le_trans List.count_le_length (List.length_take_le _ _)
    by_cases hlt : k < a.size
    · have hs := count_snoc a k hlt
      have HS : Hid ((a.data.toList.take (k + 1)).count 10 = (a.data.toList.take k).count 10 + (if a[k] = 10 then 1 else 0)) := hs
      clear hs
      generalize (a.data.toList.take k).count 10 = n at *
      by_cases he : a[k] = 10
      · have q : ((a[k].toNat : Int) == 10) = true := by rw [he]; rfl
        have E : Hid ((a.data.toList.take (k + 1)).count 10 = n + 1) := by show _ = _; rw [HS.out, if_pos he]
        clear he
        go_wp2
        exact ⟨⟨k + 1, by omega, by go_num, by rw [E.out]; go_num, trivial⟩, by simp only [intOf]; omega⟩
      · have q : ((a[k].toNat : Int) == 10) = false := by
          simp only [beq_eq_false_iff_ne]; intro e; exact he (UInt8.toNat_inj.1 (by show _ = 10; omega))
        have E : Hid ((a.data.toList.take (k + 1)).count 10 = n) := by show _ = _; rw [HS.out, if_neg he]; rfl
        clear he
        go_wp2
        exact ⟨⟨k + 1, by omega, by go_num, by rw [E.out], trivial⟩, by simp only [intOf]; omega⟩
    · have e : k = a.size := by omega
      subst e
      have hce : (a.data.toList.take a.size).count 10 = cn := by rw [HC.out, List.take_of_length_le (by omega)]
      rw [hce]
      clear hce hcb
      go_wp2_with fail
      go_loopw [14] (fun i wq => ∃ k : Nat, k ≤ TA.1.length + TB.1.length ∧ i = .int .i64 k ∧ Below W.heap.size W wq) (fun i _ => TA.1.length + TB.1.length - (intOf i).toNat)
      case atStart => exact ⟨0, by omega, rfl, Below.refl _ _⟩
      case round =>
        obtain ⟨k, hk, rfl, hB⟩ := hrel
        have HBk : Hid (Below W.heap.size W wr) := hB
        clear hB
        by_cases hlt : k < TA.1.length
        · obtain ⟨t, ht⟩ : ∃ t, TA.1[k]? = some t := ⟨_, List.getElem?_eq_getElem hlt⟩
          obtain ⟨gA, eA, h6A⟩ := (HA4.out.below HBk.out) k t ht
          obtain ⟨gN, eN, h6N⟩ := (HN4.out.below HBk.out) k t (by rw [List.getElem?_append_left hlt]; exact ht)
          obtain ⟨a0, a1, a2, a3, a4, a5⟩ := h6A
          obtain ⟨n0, n1, n2, n3, n4, n5⟩ := h6N
          have hk1 : (k : Int) < (TA.1.length : Int) + (TB.1.length : Int) := by omega
          have hk2 : (k : Int) < (TA.1.length : Int) := by omega
          clear ht
          go_wp2
          go_region
          go_wp2
          exact ⟨⟨k + 1, by omega, by go_num, HBk.out.drew⟩, by simp only [intOf]; omega⟩
        · by_cases hlt2 : k < TA.1.length + TB.1.length
          · obtain ⟨j, rfl⟩ : ∃ j, k = TA.1.length + j := ⟨k - TA.1.length, by omega⟩
            have hj : j < TB.1.length := by omega
            obtain ⟨t, ht⟩ : ∃ t, TB.1[j]? = some t := ⟨_, List.getElem?_eq_getElem hj⟩
            have htl : t.line ≤ 65537 := HLA.out t (List.mem_of_getElem? ht)
            obtain ⟨gB, eB, h6B⟩ := (HB4.out.below HBk.out) j t ht
            obtain ⟨gN, eN, h6N⟩ := (HN4.out.below HBk.out) (TA.1.length + j) (shiftT (cn + 1) t) (by rw [List.getElem?_append_right (by omega), List.getElem?_map]; simp [ht])
            have hgN := h6N.lt
            obtain ⟨b0, b1, b2, b3, b4, b5⟩ := h6B
            obtain ⟨n0, n1, n2, n3, n4, n5⟩ := h6N
            have n0' : wr.cell? ⟨gN, (TA.1.length + j) * 6, none⟩ = some (.int .i64 (t.kind : Int)) := n0
            have n1' : wr.cell? ⟨gN, (TA.1.length + j) * 6 + 1, none⟩ = some (.string ⟨t.text.toArray⟩) := n1
            have n2' : wr.cell? ⟨gN, (TA.1.length + j) * 6 + 2, none⟩ = some (.int .u64 (hiOf t.val)) := n2
            have n3' : wr.cell? ⟨gN, (TA.1.length + j) * 6 + 3, none⟩ = some (.int .u64 (loOf t.val)) := n3
            have n4' : wr.cell? ⟨gN, (TA.1.length + j) * 6 + 4, none⟩ = some (.int .i64 ((t.line : Int) + (1 + (cn : Int)))) := by
              rw [n4]; congr 2; unfold shiftT; simp only; omega
            have n5' : wr.cell? ⟨gN, (TA.1.length + j) * 6 + 5, none⟩ = some (.int .i64 (t.col : Int)) := n5
            have hk1 : (TA.1.length : Int) + (j : Int) < (TA.1.length : Int) + (TB.1.length : Int) := by omega
            have hk2 : decide ((TA.1.length : Int) + (j : Int) < (TA.1.length : Int)) = false := by simp; omega
            have hjI : (j : Int) < (TB.1.length : Int) := by omega
            clear ht n0 n1 n2 n3 n4 n5
            go_wp2
            go_region
            go_wp2
            exact ⟨⟨TA.1.length + j + 1, by omega, by go_num, (HBk.out.alloc HBk.out.size _).drew⟩, by simp only [intOf]; omega⟩
          · have e : k = TA.1.length + TB.1.length := by omega
            subst e
            go_wp2
            go_ret
            exact ⟨rfl, bst HBW.out HBk.out⟩
end Go.Proofs.YtlgfpjaomiomjaaDoor
