/- Package sums: a linear thing's table, and what it makes of a register. -/
import Derived.Test.YtabipemlemppjaaDoorJa
import Derived.Test.YtabipemlemppjaaDoorFv
import Derived.Deep.WholeRow
import Derived.Deep.LoopGhost
import Derived.Shelf.Spec.TrailingZeros
namespace Go.Proofs.YtabipemlemppjaaDoor
open Go.RowKit
set_option linter.unusedVariables false
set_option linter.unusedSimpArgs false

/-- A row of 32 registers. -/
def rowL (g : Nat → Nat) : Array Value := ((List.range 32).map fun i => Value.int .u32 ((g i : Nat) : Int)).toArray
theorem rowL_size (g : Nat → Nat) : (rowL g).size = 32 := by simp [rowL]
theorem rowL_get (g : Nat → Nat) {i : Nat} (h : i < 32) : (rowL g)[i]? = some (.int .u32 ((g i : Nat) : Int)) := by simp [rowL, h]
theorem rowL_set (g : Nat → Nat) {i : Nat} (h : i < 32) (b : Nat) : (rowL g).setIfInBounds i (.int .u32 (b : Int)) = rowL (fun t => if t = i then b else g t) := by
  apply Array.ext_getElem?
  intro t
  rw [Array.getElem?_setIfInBounds]
  by_cases ht : t < 32
  · rw [rowL_get (fun t => if t = i then b else g t) ht]
    by_cases e : i = t
    · subst e; simp [rowL_size, ht]
    · rw [if_neg e, rowL_get _ ht]; simp [show ¬ t = i from fun x => e x.symm]
  · have h1 : ¬ i = t := by omega
    rw [if_neg h1, Array.getElem?_eq_none (by rw [rowL_size]; omega), Array.getElem?_eq_none (by rw [rowL_size]; omega)]
theorem rowL_one (g : Nat → Nat) : (rowL g).all (·.oneCell') = true := by
  rw [Array.all_eq_true]; intro i hi
  have hi' : i < 32 := by rw [rowL_size] at hi; exact hi
  have := rowL_get g hi'
  rw [Array.getElem?_eq_getElem hi] at this
  rw [Option.some.inj this]; rfl
theorem rowL_congr {f g : Nat → Nat} (h : ∀ i, i < 32 → f i = g i) : rowL f = rowL g := by
  unfold rowL
  congr 1
  apply List.map_congr_left
  intro i hi
  rw [h i (by simpa using hi)]
/-- What a thing makes of each bit. -/
def ofB (f : Nat → Nat) : Nat → Nat := fun i => f (2 ^ i)
def toB (f : Nat → Nat) (k : Nat) : Nat → Nat := fun i => if i < k then f (2 ^ i) else 0
theorem toB_zero (f : Nat → Nat) : rowL (fun _ => 0) = rowL (toB f 0) := rowL_congr fun i _ => by simp [toB]
theorem toB_step (f : Nat → Nat) {k v : Nat} (hv : v = f (2 ^ k)) : rowL (fun t => if t = k then v else toB f k t) = rowL (toB f (k + 1)) := by
  apply rowL_congr; intro i hi; unfold toB
  by_cases e : i = k
  · subst e; simp [hv]
  · simp only [e, if_false]
    by_cases h : i < k
    · rw [if_pos h, if_pos (by omega)]
    · rw [if_neg h, if_neg (by omega)]
theorem toB_all (f : Nat → Nat) : rowL (toB f 32) = rowL (ofB f) := rowL_congr fun i hi => by simp [toB, ofB, hi]
theorem info54 : (Tryd.prog.info? 54).map (·.size) = some 32 := by kernel_rfl
theorem size54 (g : Nat → Nat) : (Tryd.prog.info? 54).map (·.size) = some (rowL g).size := by rw [rowL_size]; exact info54
/-- A block holds a row. -/
def Arr (w : World) (b : Nat) (g : Nat → Nat) : Prop := w.heap[b]? = some (.cells (rowL g) 54 (0, 0))
theorem Arr.lt {w : World} {b : Nat} {g : Nat → Nat} (h : Arr w b g) : b < w.heap.size := (Array.getElem?_eq_some_iff.1 h).1
theorem Arr.below {w w' : World} {b B : Nat} {g : Nat → Nat} (h : Arr w b g) (hb : Below B w w') (hB : b < B) : Arr w' b g := (hb.block b hB).trans h
theorem Arr.past {w : World} {b : Nat} {g : Nat → Nat} (h : Arr w b g) (o : Obj) : Arr (w.alloc o) b g := (heap_alloc_old w o h.lt).trans h
theorem Arr.new (w : World) (g : Nat → Nat) : Arr (w.alloc (.cells (rowL g) 54)) w.heap.size g := heap_alloc_new w _
theorem Arr.cell {w : World} {b : Nat} {g : Nat → Nat} (h : Arr w b g) {i : Nat} (hi : i < 32) : w.cell? ⟨b, i, none⟩ = some (.int .u32 ((g i : Nat) : Int)) := by
  rw [cell_of_row w b i _ _ _ h]; exact rowL_get g hi
theorem Arr.frozen {w : World} {b : Nat} {g : Nat → Nat} (h : Arr w b g) (i : Nat) : w.frozen? ⟨b, i, none⟩ = false := frozen_of_row w b i _ _ h
theorem Arr.set {w : World} {b : Nat} {g : Nat → Nat} (h : Arr w b g) {i : Nat} (hi : i < 32) (v : Nat) : Arr (w.setCell ⟨b, i, none⟩ (.int .u32 (v : Int))) b (fun t => if t = i then v else g t) := by
  unfold Arr; rw [heap_setCell_same w b i _ _ _ h, rowL_set g hi]
theorem Arr.other {w : World} {b : Nat} {g : Nat → Nat} (h : Arr w b g) {a : Addr} (ha : b ≠ a.block) (v : Value) : Arr (w.setCell a v) b g := (heap_setCell_other w a b v ha).trans h
theorem Arr.congr {w : World} {b : Nat} {f g : Nat → Nat} (h : Arr w b f) (e : rowL f = rowL g) : Arr w b g := by unfold Arr at *; rw [← e]; exact h
theorem bsetRow {B : Nat} {w wr : World} (h : Below B w wr) {g : Nat} (hg : B ≤ g) (cs : Array Value) : Below B w (wr.setRow g cs) :=
  h.trans ⟨rfl, rfl, rfl, by simp, fun k hk => by simp only [World.setRow, Array.getElem?_modify]; rw [if_neg (by omega)]⟩

/-- The table of bits' places lies in memory. -/
def Tbz (w : World) : Prop := ∀ j, j < 32 → w.cell? ⟨1, j, none⟩ = some (.int .u8 ((Lib.deBruijn32tab.getD j 0 : Nat) : Int))
theorem Tbz.below {w w' : World} (h : Tbz w) (hb : Below w.heap.size w w') : Tbz w' := fun d hd => by
  rw [hb.cell (p := ⟨1, d, none⟩) (World.block_lt_of_cell? w ⟨1, d, none⟩ (h d hd))]; exact h d hd
theorem bits_and_u32 (a b : Nat) (ha : a < 4294967296) (hb : b < 4294967296) : bits .and .u32 (a : Int) (b : Int) = ((a &&& b : Nat) : Int) := by
  have hx : a &&& b < 2 ^ 32 := Nat.and_lt_two_pow _ (by omega)
  have h1 : (BitVec.ofInt 32 (a : Int)).toNat = a := by
    rw [BitVec.ofInt_natCast, BitVec.toNat_ofNat]; exact Nat.mod_eq_of_lt (by omega)
  have h2 : (BitVec.ofInt 32 (b : Int)).toNat = b := by
    rw [BitVec.ofInt_natCast, BitVec.toNat_ofNat]; exact Nat.mod_eq_of_lt (by omega)
  show IntKind.u32.wrap ((BitVec.ofInt 32 (a : Int) &&& BitVec.ofInt 32 (b : Int)).toNat : Int) = _
  rw [BitVec.toNat_and, h1, h2]
  simp [IntKind.wrap, IntKind.signed, IntKind.bits]
  omega
set_option maxHeartbeats 1000000 in
theorem tz_core (x k idx : Nat) (w : World) (h0 : ((x : Int) == 0) = false)
    (key : bits BinOp.and IntKind.u32 (x : Int) (-(x : Int) % 4294967296) * 125613361 % 4294967296 / 134217728 = (idx : Int))
    (hi : idx < 32) (hk : k < 32) (hcell : w.cell? ⟨1, idx, none⟩ = some (.int .u8 k)) :
    Calls Tryd.prog 46 #[.int .u32 x] w fun e w' => e = .returned (.int .i64 k) ∧ w' = w := by
  go_enter Tryd.func46, Tryd.ntmps46
  go_wp2_with (simp only [key])
  go_ret
  exact ⟨rfl, rfl⟩
theorem tz_any (x : Nat) (hx : x < 4294967296) (hx0 : x ≠ 0) (w : World) (hT : Tbz w) : Calls Tryd.prog 46 #[.int .u32 x] w fun e w' => e = .returned (.int .i64 (Lib.ctz 32 x : Nat)) ∧ w' = w := by
  obtain ⟨hlow, hk⟩ := Lib.lowest_bit 32 x hx0 hx
  obtain ⟨hi, htab⟩ := Lib.deBruijn32_at _ hk
  have hcell := hT _ hi
  rw [htab] at hcell
  exact tz_core x _ _ w (by simp; omega) (tz32_key x _ hx hx0 hlow) hi hk hcell
set_option maxHeartbeats 2000000 in
set_option maxRecDepth 100000 in
theorem of_any (f : Nat → Nat) (hf : Lin f) (r : Nat) (hr : r < 4294967296) (w : World) (hT : Tbz w) : Calls Tryd.prog 42 #[.agg (rowL (ofB f)), .int .u32 r] w fun e w' => e = .returned (.int .u32 ((f r : Nat) : Int)) ∧ Below w.heap.size w w' := by
  have A0 := Arr.new w (ofB f)
  have B0 : Below w.heap.size w (w.alloc (.cells (rowL (ofB f)) 54)) := by go_grown
  have HT : Hid (Tbz (w.alloc (.cells (rowL (ofB f)) 54))) := hT.below B0
  have hbox : (Tryd.prog.info? 54).map (·.size) = some (rowL (ofB f)).size := size54 _
  go_enter Tryd.func42, Tryd.ntmps42
  go_wp2_with fail
  go_loopw [1, 5] (fun rv mv wr => ∃ q m : Nat, rv = .int .u32 q ∧ mv = .int .u32 m ∧ q < 4294967296 ∧ m < 4294967296 ∧ Aside (m ^^^ f q = f r) ∧ Arr wr w.heap.size (ofB f) ∧ Tbz wr ∧ Below w.heap.size w wr) (fun rv _ _ => (intOf rv).toNat)
  case atStart => exact ⟨r, 0, rfl, rfl, hr, by omega, Nat.zero_xor _, A0, HT.out, B0⟩
  case round =>
    obtain ⟨q, m, rfl, rfl, hq, hm, A, R, T, hB⟩ := hrel
    clear A0 B0 hbox HT
    by_cases h0 : q = 0
    · subst h0
      have hm' : m = f r := by have := A.out; rw [hf.zero, Nat.xor_zero] at this; exact this
      subst hm'
      clear A
      go_wp2_with fail
      go_ret
      exact ⟨rfl, hB⟩
    · obtain ⟨e1, hk, hlt⟩ := low_bit h0 hq
      have C : Hid (∀ w, Tbz w → Calls Tryd.prog 46 #[.int .u32 q] w fun e w' => e = .returned (.int .i64 (Lib.ctz 32 q : Nat)) ∧ w' = w) := tz_any q hq h0
      generalize Lib.ctz 32 q = k at *
      have pk : 2 ^ k ≤ 2 ^ 31 := Nat.pow_le_pow_right (by decide) (by omega)
      have pk' : 2 ^ k < 4294967296 := Nat.lt_of_le_of_lt pk (by decide)
      have hfk := hf.lt _ pk'
      have x1 := R.cell (i := k) hk
      have ex : bits .xor .u32 (m : Int) ((ofB f k : Nat) : Int) = ((m ^^^ f (2 ^ k) : Nat) : Int) := u32_xor_nat m (f (2 ^ k)) hm hfk
      have ea : bits .and .u32 (q : Int) ((q - 1 : Nat) : Int) = ((q &&& (q - 1) : Nat) : Int) := bits_and_u32 q (q - 1) hq (by omega)
      have es : ((q - 1 : Nat) : Int) = (q : Int) - 1 := by omega
      rw [es] at ea
      have A2 : Aside ((m ^^^ f (2 ^ k)) ^^^ f (q &&& (q - 1)) = f r) := by
        show _ = _
        rw [← A.out, Nat.xor_assoc, ← hf.xor _ _ pk' (by omega)]
        conv => rhs; rw [e1]
      have hne : ((q : Int) != 0) = true := by simp; omega
      have hk' : (k : Int) < 32 := by omega
      have hq1 : (1 : Int) ≤ q := by omega
      have hq2 : (q : Int) < 4294967296 := by omega
      have L1 : Hid ((q &&& (q - 1)) < q) := hlt
      have L2 : Hid (m ^^^ f (2 ^ k) < 4294967296) := xor_lt32 hm hfk
      have HT : Hid (Tbz wr) := T
      clear e1 hlt A pk pk' es T
      generalize q &&& (q - 1) = q2 at *
      generalize m ^^^ f (2 ^ k) = m2 at *
      go_wp2_with fail
      refine (C.out _ HT.out).mono ?_
      rintro e w1 ⟨rfl, e1⟩
      obtain rfl := Eq.symm e1
      go_wp2_with fail
      exact ⟨⟨q2, m2, rfl, rfl, by have := L1.out; omega, L2.out, A2, R, HT.out, hB⟩, by have := L1.out; simp only [intOf]; omega⟩
end Go.Proofs.YtabipemlemppjaaDoor
