/- Package sums: squared, table, often. -/
import Derived.Test.YtabipemlemppjaaDoorJb
import Derived.Deep.Cut
namespace Go.Proofs.YtabipemlemppjaaDoor
open Go.RowKit
set_option linter.unusedVariables false
set_option linter.unusedSimpArgs false

abbrev zs32 : Array Value := #[.int .u32 0, .int .u32 0, .int .u32 0, .int .u32 0, .int .u32 0, .int .u32 0, .int .u32 0, .int .u32 0, .int .u32 0, .int .u32 0, .int .u32 0, .int .u32 0, .int .u32 0, .int .u32 0, .int .u32 0, .int .u32 0, .int .u32 0, .int .u32 0, .int .u32 0, .int .u32 0, .int .u32 0, .int .u32 0, .int .u32 0, .int .u32 0, .int .u32 0, .int .u32 0, .int .u32 0, .int .u32 0, .int .u32 0, .int .u32 0, .int .u32 0, .int .u32 0]
theorem zs_row : zs32 = rowL (fun _ => 0) := by rfl
theorem run_cells {W : World} {b : Nat} {g : Nat → Nat} (h : Arr W b g) : (loadCellsFrom ⟨b, 0, none⟩ 0 32 #[]).run Tryd.prog W = .ok (rowL g) W := by
  have := run_loadCells_list (P := Tryd.prog) W ⟨b, 0, none⟩ (rowL g).toList (fun j v hv => by
    have hadd : (⟨b, 0, none⟩ : Addr).add j = ⟨b, j, none⟩ := by unfold Addr.add; split <;> simp_all
    rw [hadd, cell_of_row _ _ j _ _ _ h]
    simpa using hv)
  have e : (rowL g).toList.length = 32 := by rw [Array.length_toList, rowL_size]
  rw [e] at this
  simpa [loadCells] using this
/-- An array's part that is one cell. -/
theorem run_index_row (g : Nat → Nat) (k : Nat) (hk : k < 32) (w : World) : (Instr.index 54 (.agg (rowL g)) (.int .i64 (k : Int))).run Tryd.prog w = .ok (.int .u32 ((g k : Nat) : Int)) w := by
  have hn : (0 : Int) ≤ (k : Int) ∧ (k : Int) < (32 : Int) := by omega
  have hv := rowL_get g hk
  simp [Instr.index, run_underlying Tryd.underlying54, asIntOf, go_sem, Tryd.sizeOf23, Tryd.isAgg23, hv, hk, part]
set_option maxHeartbeats 2000000 in
set_option maxRecDepth 100000 in
theorem squared_any (f : Nat → Nat) (hf : Lin f) (w : World) (hT : Tbz w) : Calls Tryd.prog 43 #[.agg (rowL (ofB f))] w fun e w' => e = .returned (.agg (rowL (ofB (fun r => f (f r))))) ∧ Below w.heap.size w w' := by
  have b1 : Below w.heap.size w (((w.alloc (.cells (rowL (ofB f)) 54)).alloc (.cells zs32 54)).alloc (.cells zs32 54)) := ((((Below.refl _ _).alloc (Nat.le_refl _) _).alloc (by simp) _).alloc (by simp; omega) _)
  have A1 : Arr (((w.alloc (.cells (rowL (ofB f)) 54)).alloc (.cells zs32 54)).alloc (.cells zs32 54)) w.heap.size (ofB f) := ((Arr.new w (ofB f)).past _).past _
  have A2 : Arr (((w.alloc (.cells (rowL (ofB f)) 54)).alloc (.cells zs32 54)).alloc (.cells zs32 54)) (w.heap.size + 1) (fun _ => 0) := Arr.past (by rw [zs_row]; simpa using Arr.new (w.alloc (.cells (rowL (ofB f)) 54)) (fun _ => 0)) _
  have A3 : Arr (((w.alloc (.cells (rowL (ofB f)) 54)).alloc (.cells zs32 54)).alloc (.cells zs32 54)) (w.heap.size + 1 + 1) (fun _ => 0) := by rw [zs_row]; simpa using Arr.new ((w.alloc (.cells (rowL (ofB f)) 54)).alloc (.cells (rowL fun _ => 0) 54)) (fun _ => 0)
  have HT : Hid (Tbz w) := hT
  go_enter Tryd.func43, Tryd.ntmps43
  go_upto_region 2 with fail
  generalize ((w.alloc (.cells (rowL (ofB f)) 54)).alloc (.cells zs32 54)).alloc (.cells zs32 54) = W at *
  go_wp2_with (refine wpList_load_row rfl 54 _ rfl w.heap.size rfl 54 _ (0, 0) _ A1 Tryd.underlying54 rfl (size54 _) ?_)
  go_loopw [7] (fun iv wr => ∃ k : Nat, k ≤ 32 ∧ iv = .int .i64 k ∧ Arr wr w.heap.size (ofB f) ∧ Arr wr (w.heap.size + 1) (fun _ => 0) ∧ Arr wr (w.heap.size + 1 + 1) (toB (fun r => f (f r)) k) ∧ Below w.heap.size w wr) (fun iv _ => 32 - (intOf iv).toNat)
  case atStart => exact ⟨0, by omega, rfl, A1, A2, A3.congr (toB_zero _), b1⟩
  case round =>
    obtain ⟨k, hk, rfl, R1, R2, R3, hB⟩ := hrel
    clear A1 A2 A3 b1
    by_cases hlt : k < 32
    · have hlt' : (k : Int) < 32 := by omega
      have pk : 2 ^ k < 4294967296 := Nat.lt_of_le_of_lt (Nat.pow_le_pow_right (by decide) (show k ≤ 31 by omega)) (by decide)
      have hix : ∀ w, (Instr.index 54 (.agg (rowL (ofB f))) (.int .i64 (k : Int))).run Tryd.prog w = .ok (.int .u32 ((f (2 ^ k) : Nat) : Int)) w := fun w => run_index_row (ofB f) k hlt w
      have C : Hid (∀ w, Tbz w → Calls Tryd.prog 42 #[.agg (rowL (ofB f)), .int .u32 ((f (2 ^ k) : Nat) : Int)] w fun e w' => e = .returned (.int .u32 ((f (f (2 ^ k)) : Nat) : Int)) ∧ Below w.heap.size w w') := fun w h => of_any f hf _ (hf.lt _ pk) w h
      have HT1 : Hid (Tbz wr) := HT.out.below hB
      obtain ⟨y, hy⟩ : ∃ y, f (f (2 ^ k)) = y := ⟨_, rfl⟩
      rw [hy] at C
      have HY : Hid (f (f (2 ^ k)) = y) := hy
      clear hy pk
      generalize f (2 ^ k) = x at hix C
      go_wp2_with (refine wpList_load_row rfl 54 _ rfl w.heap.size rfl 54 _ (0, 0) _ R1 Tryd.underlying54 rfl (size54 _) ?_)
      refine (C.out _ HT1.out).mono ?_
      rintro e w1 ⟨rfl, hb1⟩
      have R1' := R1.below hb1 R1.lt
      have R2' := R2.below hb1 R2.lt
      have R3' := R3.below hb1 R3.lt
      have hB' : Below w.heap.size w w1 := hB.trans (hb1.mono hB.size)
      have x1 := R3'.cell (i := k) hlt
      have x2 := R3'.frozen k
      clear R1 R2 R3 hB hb1
      go_wp2_with fail
      exact ⟨⟨k + 1, by omega, by go_num, R1'.other (by simp; omega) _, R2'.other (by simp) _, (R3'.set hlt y).congr (toB_step _ HY.out.symm), hB'.setCell (by simp; omega) _⟩, by simp only [intOf]; omega⟩
    · obtain rfl : k = 32 := by omega
      have R4 := R3.congr (toB_all _)
      go_wp2_with (first
        | (refine wpList_load_row rfl 54 _ rfl (w.heap.size + 1 + 1) rfl 54 _ (0, 0) _ R4 Tryd.underlying54 rfl (size54 _) ?_)
        | (refine wpList_store_row rfl 54 _ _ rfl (w.heap.size + 1) (rowL (ofB fun r => f (f r))) rfl rfl 54 _ R2 (size54 _) (by rw [rowL_size, rowL_size]) (rowL_one _) ?_))
      refine bodyPost_ret (results_cell_row rfl _ _ (w.heap.size + 1) 54 (rowL (ofB fun r => f (f r))) (0, 0) _ rfl (setRow_heap _ _ _ _ _ _ R2) Tryd.underlying54 rfl (size54 _)) rfl ⟨rfl, bsetRow hB (by omega) _⟩
set_option maxHeartbeats 2000000 in
set_option maxRecDepth 100000 in
theorem table_any (c : Nat) (f : Nat → Nat) (w : World) (hc : c = 34 ∨ c = 35) (HC : Hid (∀ (r : Nat) (w' : World), r < 4294967296 → Below w.heap.size w w' → Calls Tryd.prog c #[.int .u32 r] w' fun e w'' => e = .returned (.int .u32 ((f r : Nat) : Int)) ∧ w'' = w')) :
    Calls Tryd.prog 33 #[.func (.func c) #[] #[]] w fun e w' => e = .returned (.agg (rowL (ofB f))) ∧ Below w.heap.size w w' := by
  have b1 : Below w.heap.size w ((w.alloc (.cells zs32 54)).alloc (.cells zs32 54)) := (((Below.refl _ _).alloc (Nat.le_refl _) _).alloc (by simp) _)
  have A2 : Arr ((w.alloc (.cells zs32 54)).alloc (.cells zs32 54)) w.heap.size (fun _ => 0) := Arr.past (by rw [zs_row]; exact Arr.new w (fun _ => 0)) _
  have A3 : Arr ((w.alloc (.cells zs32 54)).alloc (.cells zs32 54)) (w.heap.size + 1) (fun _ => 0) := by rw [zs_row]; simpa using Arr.new (w.alloc (.cells (rowL fun _ => 0) 54)) (fun _ => 0)
  rcases hc with rfl | rfl
  all_goals
    go_enter Tryd.func33, Tryd.ntmps33
    go_upto_region 2 with fail
    generalize (w.alloc (.cells zs32 54)).alloc (.cells zs32 54) = W at *
    go_wp2_with fail
    go_loopw [5] (fun iv wr => ∃ k : Nat, k ≤ 32 ∧ iv = .int .i64 k ∧ Arr wr w.heap.size (fun _ => 0) ∧ Arr wr (w.heap.size + 1) (toB f k) ∧ Below w.heap.size w wr) (fun iv _ => 32 - (intOf iv).toNat)
    case atStart => exact ⟨0, by omega, rfl, A2, A3.congr (toB_zero _), b1⟩
    case round =>
      obtain ⟨k, hk, rfl, R2, R3, hB⟩ := hrel
      clear A2 A3 b1
      by_cases hlt : k < 32
      · have hlt' : (k : Int) < 32 := by omega
        have pk : 2 ^ k < 4294967296 := Nat.lt_of_le_of_lt (Nat.pow_le_pow_right (by decide) (show k ≤ 31 by omega)) (by decide)
        have C := HC.out (2 ^ k) wr pk hB
        have ep : (2 : Int) ^ k % 4294967296 = ((2 ^ k : Nat) : Int) := by
          have : ((2 ^ k : Nat) : Int) = (2 : Int) ^ k := by simp
          rw [← this]
          generalize 2 ^ k = z at pk ⊢
          omega
        have EP : Hid ((2 : Int) ^ k % 4294967296 = ((2 ^ k : Nat) : Int)) := ep
        obtain ⟨y, hy⟩ : ∃ y, f (2 ^ k) = y := ⟨_, rfl⟩
        rw [hy] at C
        have HC2 : Hid (Calls Tryd.prog _ #[.int .u32 ((2 ^ k : Nat) : Int)] wr fun e w'' => e = .returned (.int .u32 (y : Int)) ∧ w'' = wr) := C
        have HY : Hid (y = f (2 ^ k)) := hy.symm
        have x1 := R3.cell (i := k) hlt
        have x2 := R3.frozen k
        clear hy C ep pk
        go_wp2_with fail
        rw [EP.out]
        refine HC2.out.mono ?_
        rintro e w1 ⟨rfl, e1⟩
        obtain rfl := Eq.symm e1
        go_wp2_with fail
        exact ⟨⟨k + 1, by omega, by go_num, R2.other (by simp) _, (R3.set hlt y).congr (toB_step _ HY.out), hB.setCell (by simp) _⟩, by simp only [intOf]; omega⟩
      · obtain rfl : k = 32 := by omega
        have R4 := R3.congr (toB_all _)
        go_wp2_with (first
          | (refine wpList_load_row rfl 54 _ rfl (w.heap.size + 1) rfl 54 _ (0, 0) _ R4 Tryd.underlying54 rfl (size54 _) ?_)
          | (refine wpList_store_row rfl 54 _ _ rfl w.heap.size (rowL (ofB f)) rfl rfl 54 _ R2 (size54 _) (by rw [rowL_size, rowL_size]) (rowL_one _) ?_))
        refine bodyPost_ret (results_cell_row rfl _ _ w.heap.size 54 (rowL (ofB f)) (0, 0) _ rfl (setRow_heap _ _ _ _ _ _ R2) Tryd.underlying54 rfl (size54 _)) rfl ⟨rfl, bsetRow hB (by omega) _⟩
theorem table_forth (w : World) (hT : Tab w) : Calls Tryd.prog 33 #[.func (.func 34) #[] #[]] w fun e w' => e = .returned (.agg (rowL (ofB (turnsN 8)))) ∧ Below w.heap.size w w' :=
  table_any 34 (turnsN 8) w (.inl rfl) (fun r w' hr hb => by rw [← forth_turns]; exact forth_any r hr w' (hT.below hb))
theorem table_back (w : World) : Calls Tryd.prog 33 #[.func (.func 35) #[] #[]] w fun e w' => e = .returned (.agg (rowL (ofB (undosN 8)))) ∧ Below w.heap.size w w' :=
  table_any 35 (undosN 8) w (.inr rfl) (fun r w' hr _ => back_any r hr w')
theorem and_one (n : Nat) (h : n < 9223372036854775808) : bits .and .i64 (n : Int) 1 = ((n % 2 : Nat) : Int) := by
  have h1 : (BitVec.ofInt 64 (n : Int)).toNat = n := by
    rw [BitVec.ofInt_natCast, BitVec.toNat_ofNat]; exact Nat.mod_eq_of_lt (by omega)
  have h2 : (BitVec.ofInt 64 (1 : Int)).toNat = 1 := by decide
  show IntKind.i64.wrap ((BitVec.ofInt 64 (n : Int) &&& BitVec.ofInt 64 (1 : Int)).toNat : Int) = _
  rw [BitVec.toNat_and, h1, h2, Nat.and_one_is_mod, IntKind.wrap_i64]
  omega
set_option maxHeartbeats 2000000 in
set_option maxRecDepth 100000 in
theorem often_any (f : Nat → Nat) (hf : Lin f) (r : Nat) (hr : r < 4294967296) (n : Nat) (hn : n < 9223372036854775808) (w : World) (hT : Tbz w) : Calls Tryd.prog 32 #[.agg (rowL (ofB f)), .int .u32 r, .int .i64 n] w fun e w' => e = .returned (.int .u32 ((itr f n r : Nat) : Int)) ∧ Below w.heap.size w w' := by
  have A0 := Arr.new w (ofB f)
  have B0 : Below w.heap.size w (w.alloc (.cells (rowL (ofB f)) 54)) := by go_grown
  have HT : Hid (Tbz w) := hT
  have HI : Hid (itr f n r = itr f n r) := rfl
  go_enter Tryd.func32, Tryd.ntmps32
  go_wp2_with fail
  go_loopw [1, 2] (fun rv nv wr => ∃ (q m : Nat) (g : Nat → Nat), rv = .int .u32 q ∧ nv = .int .i64 m ∧ q < 4294967296 ∧ m ≤ n ∧ Lin g ∧ Aside (itr g m q = itr f n r) ∧ Arr wr w.heap.size (ofB g) ∧ Below w.heap.size w wr) (fun _ nv _ => (intOf nv).toNat)
  case atStart => exact ⟨r, n, f, rfl, rfl, hr, Nat.le_refl _, hf, rfl, A0, B0⟩
  case round =>
    obtain ⟨q, m, g, rfl, rfl, hq, hm, hg, A, R, hB⟩ := hrel
    clear A0 B0
    by_cases h0 : m = 0
    · subst h0
      have hq' : q = itr f n r := A.out
      subst hq'
      clear A
      go_wp2_with fail
      go_ret
      exact ⟨rfl, hB⟩
    · have hpos : (0 : Int) < m := by omega
      have HT1 : Hid (Tbz wr) := HT.out.below hB
      have ea := and_one m (by omega)
      have esh : (m : Int) / 2 = ((m / 2 : Nat) : Int) := by omega
      have ESH : Hid ((m : Int) / 2 = ((m / 2 : Nat) : Int)) := esh
      have C1 : Hid (∀ w, Tbz w → Calls Tryd.prog 42 #[.agg (rowL (ofB g)), .int .u32 q] w fun e w' => e = .returned (.int .u32 ((g q : Nat) : Int)) ∧ Below w.heap.size w w') := fun w h => of_any g hg q hq w h
      have C2 : Hid (∀ w, Tbz w → Calls Tryd.prog 43 #[.agg (rowL (ofB g))] w fun e w' => e = .returned (.agg (rowL (ofB (fun r => g (g r))))) ∧ Below w.heap.size w w') := fun w h => squared_any g hg w h
      clear esh
      by_cases h1 : m % 2 = 1
      · have hb : (((m % 2 : Nat) : Int) == 1) = true := by rw [h1]; rfl
        have A2 : Aside (itr (fun r => g (g r)) (m / 2) (g q) = itr f n r) := by show _ = _; rw [itr_odd g h1, A.out]
        clear h1 A
        go_wp2_with (refine wpList_load_row rfl 54 _ rfl w.heap.size rfl 54 _ (0, 0) _ R Tryd.underlying54 rfl (size54 _) ?_)
        refine (C1.out _ HT1.out).mono ?_
        rintro e w1 ⟨rfl, hb1⟩
        have RX := R.below hb1 R.lt
        have hBX : Below w.heap.size w w1 := hB.trans (hb1.mono hB.size)
        have HTX : Hid (Tbz w1) := HT.out.below hBX
        clear hb1 R hB
        go_wp2_with (refine wpList_load_row rfl 54 _ rfl w.heap.size rfl 54 _ (0, 0) _ RX Tryd.underlying54 rfl (size54 _) ?_)
        refine (C2.out _ HTX.out).mono ?_
        rintro e w2 ⟨rfl, hb2⟩
        have RY := RX.below hb2 RX.lt
        have hBY : Below w.heap.size w w2 := hBX.trans (hb2.mono hBX.size)
        clear hb2 RX hBX
        go_wp2_with (refine wpList_store_row rfl 54 _ _ rfl w.heap.size (rowL (ofB fun r => g (g r))) rfl rfl 54 _ RY (size54 _) (by rw [rowL_size, rowL_size]) (rowL_one _) ?_)
        exact ⟨⟨g q, m / 2, fun r => g (g r), rfl, by go_num, hg.lt q hq, by omega, hg.twice, A2, setRow_heap _ _ _ _ _ _ RY, bsetRow hBY (by omega) _⟩, by simp only [intOf]; omega⟩
      · have hb : (((m % 2 : Nat) : Int) == 1) = false := beq_eq_false_iff_ne.2 (by omega)
        have A2 : Aside (itr (fun r => g (g r)) (m / 2) q = itr f n r) := by show _ = _; rw [itr_even g (by omega), A.out]
        have RX := R
        have hBX := hB
        have HTX := HT1
        clear h1 A R hB
        go_wp2_with (refine wpList_load_row rfl 54 _ rfl w.heap.size rfl 54 _ (0, 0) _ RX Tryd.underlying54 rfl (size54 _) ?_)
        refine (C2.out _ HTX.out).mono ?_
        rintro e w2 ⟨rfl, hb2⟩
        have RY := RX.below hb2 RX.lt
        have hBY : Below w.heap.size w w2 := hBX.trans (hb2.mono hBX.size)
        clear hb2 RX hBX
        go_wp2_with (refine wpList_store_row rfl 54 _ _ rfl w.heap.size (rowL (ofB fun r => g (g r))) rfl rfl 54 _ RY (size54 _) (by rw [rowL_size, rowL_size]) (rowL_one _) ?_)
        exact ⟨⟨q, m / 2, fun r => g (g r), rfl, by go_num, hq, by omega, hg.twice, A2, setRow_heap _ _ _ _ _ _ RY, bsetRow hBY (by omega) _⟩, by simp only [intOf]; omega⟩
end Go.Proofs.YtabipemlemppjaaDoor
