/- The reference's And, Or, Xor, Sub, Compare, Common: what each returns, and that memory only grows. The reference's Compare, Common: what each returns, and that memory only grows. Texts cut at a sign; the reference's Parse, as a plain function; and that it is package value's. Plain facts. Package value's Parse and the reference's answer the same: plain. The reference's number: any text in a base from 2 to 16. The reference's parts: a text cut at a sign, eighteen pieces at most. The reference's bytes of a text of Dots. The reference's bytes: any text, any width. The reference's Parse: any text, any width. The walk of ValueTexts: it returns true at any number of 128 bits, any width, any form, any text; memory only grows. The table of signs lies in memory. -/
import Derived.Test.YtjkpdcgmmdimaaaDoorRe
import Derived.Test.YtjkpdcgmmdimaaaDoorLe
import Derived.Test.YtjkpdcgmmdimaaaDoorEg
import Derived.Test.YtjkpdcgmmdimaaaDoorBc
namespace Go.Proofs.YtjkpdcgmmdimaaaDoor
open Go.RowKit
set_option linter.unusedVariables false
set_option linter.unusedSimpArgs false

theorem rand_any (n m : Nat) (hn : Is128 n) (hm : Is128 m) (w : World) : Calls Tryd.prog 21 #[B n, B m] w fun e w' => e = .returned (B (n &&& m)) ∧ Below w.heap.size w w' := by
  have E1 : Hid _ := and_hi hn hm; have E2 : Hid _ := and_lo n m
  go_enter Tryd.func21, Tryd.ntmps21
  go_wp2
  refine bodyPost_ret (v := B (n &&& m)) ?_ rfl ⟨rfl, ?_⟩
  · rw [E1.out, E2.out]; simp [results, Tryd.results21, go_sem]
  · go_grown
theorem rxor_any (n m : Nat) (hn : Is128 n) (hm : Is128 m) (w : World) : Calls Tryd.prog 23 #[B n, B m] w fun e w' => e = .returned (B (n ^^^ m)) ∧ Below w.heap.size w w' := by
  have E1 : Hid _ := xor_hi hn hm; have E2 : Hid _ := xor_lo n m
  go_enter Tryd.func23, Tryd.ntmps23
  go_wp2
  refine bodyPost_ret (v := B (n ^^^ m)) ?_ rfl ⟨rfl, ?_⟩
  · rw [E1.out, E2.out]; simp [results, Tryd.results23, go_sem]
  · go_grown
theorem ror_any (n m : Nat) (hn : Is128 n) (hm : Is128 m) (w : World) : Calls Tryd.prog 22 #[B n, B m] w fun e w' => e = .returned (B (n ||| m)) ∧ Below w.heap.size w w' := by
  have E1 : Hid _ := or_hi hn hm; have E2 : Hid _ := or_lo n m
  go_enter Tryd.func22, Tryd.ntmps22
  go_wp2
  refine bodyPost_ret (v := B (n ||| m)) ?_ rfl ⟨rfl, ?_⟩
  · rw [E1.out, E2.out]; simp [results, Tryd.results22, go_sem]
  · go_grown

/-- What Sub has turned behind k rounds. -/
def flipTo (m k : Nat) : Nat → Bool := fun i => if i < k then !(layF m i) else layF m i
theorem flipTo_step (m k : Nat) : rowV (fun t => if t = k then !(flipTo m k k) else flipTo m k t) = rowV (flipTo m (k + 1)) := by
  apply rowV_congr; intro i hi; unfold flipTo
  by_cases e : i = k
  · subst e; simp
  · simp only [e, if_false]
    by_cases h : i < k
    · rw [if_pos h, if_pos (by omega)]
    · rw [if_neg h, if_neg (by omega)]
theorem flipTo_zero (m : Nat) : rowV (layF m) = rowV (flipTo m 0) := by apply rowV_congr; intro i hi; unfold flipTo; simp
theorem flipTo_take {m : Nat} (hm : Is128 m) : takeN (flipTo m 128) = 340282366920938463463374607431768211456 - (m + 1) := by
  have hm' : m < 2 ^ 128 := by rw [two128]; exact hm
  refine take_ext (by unfold Is128 at *; omega) fun i hi => ?_
  rw [← two128, Nat.testBit_two_pow_sub_succ hm']
  unfold flipTo layF
  rw [if_pos (by omega), show 127 - (127 - i) = i by omega]; simp [hi]
theorem neg_add {m : Nat} (hm : Is128 m) : addN (340282366920938463463374607431768211456 - (m + 1)) 1 128 = (340282366920938463463374607431768211456 - m) % 340282366920938463463374607431768211456 := by
  unfold addN; rw [cut_yes (by decide), show (128 : Int).toNat = 128 from rfl, two128]; unfold Is128 at hm; omega
theorem sub_add {n m : Nat} (wd : Int) : addN n ((340282366920938463463374607431768211456 - m) % 340282366920938463463374607431768211456) wd = subN n m wd := by
  unfold addN subN; congr 1; omega
theorem one_words : B 1 = .agg #[.int .u64 0, .int .u64 1] := by simp [B, hiOf, loOf]

set_option maxHeartbeats 2000000 in
set_option maxRecDepth 100000 in
theorem rsub_any (n m : Nat) (hn : Is128 n) (hm : Is128 m) (wd : Int) (w : World) : Calls Tryd.prog 31 #[B n, B m, .int .i64 wd] w fun e w' => e = .returned (B (subN n m wd)) ∧ Below w.heap.size w w' := by
  obtain ⟨q, q1, q2, q3⟩ : ∃ q, Is128 q ∧ (∀ w, Calls Tryd.prog 30 #[B (takeN (flipTo m 128)), B 1, .int .i64 128] w fun e w' => e = .returned (B q) ∧ Below w.heap.size w w') ∧ (∀ w, Calls Tryd.prog 30 #[B n, B q, .int .i64 wd] w fun e w' => e = .returned (B (subN n m wd)) ∧ Below w.heap.size w w') := by
    refine ⟨(340282366920938463463374607431768211456 - m) % 340282366920938463463374607431768211456, mod_is _, fun w => ?_, fun w => ?_⟩
    · rw [← neg_add hm, flipTo_take hm]; exact radd_any _ 1 (by unfold Is128; omega) (by unfold Is128; omega) 128 w
    · rw [← sub_add]; exact radd_any n _ hn (mod_is _) wd w
  rw [one_words] at q2
  generalize subN n m wd = r at *
  have Q2 : Hid (∀ w, Calls Tryd.prog 30 #[B (takeN (flipTo m 128)), .agg #[.int .u64 0, .int .u64 1], .int .i64 128] w fun e w' => e = .returned (B q) ∧ Below w.heap.size w w') := q2
  have Q3 : Hid (∀ w, Calls Tryd.prog 30 #[B n, B q, .int .i64 wd] w fun e w' => e = .returned (B r) ∧ Below w.heap.size w w') := q3
  clear q2 q3
  have X0 : Wds (((w.alloc (.cells #[.int .u64 (hiOf n), .int .u64 (loOf n)] 24)).alloc (.cells #[.int .u64 (hiOf m), .int .u64 (loOf m)] 24)).alloc (.cells #[.int .u64 0, .int .u64 0] 24)) (w.heap.size + 1 + 1) 0 0 := by simpa using Wds.new ((w.alloc (.cells #[.int .u64 (hiOf n), .int .u64 (loOf n)] 24)).alloc (.cells #[.int .u64 (hiOf m), .int .u64 (loOf m)] 24)) 0 0
  have N0 : Box (((w.alloc (.cells #[.int .u64 (hiOf n), .int .u64 (loOf n)] 24)).alloc (.cells #[.int .u64 (hiOf m), .int .u64 (loOf m)] 24)).alloc (.cells #[.int .u64 0, .int .u64 0] 24)) w.heap.size n := ((Box.new w n).past _).past _
  have B0 : Below w.heap.size w (((w.alloc (.cells #[.int .u64 (hiOf n), .int .u64 (loOf n)] 24)).alloc (.cells #[.int .u64 (hiOf m), .int .u64 (loOf m)] 24)).alloc (.cells #[.int .u64 0, .int .u64 0] 24)) := by go_grown
  go_enter Tryd.func31, Tryd.ntmps31
  go_wp2_with fail
  refine (lay_any m hm _).mono ?_
  rintro e w1 ⟨rfl, hb1⟩
  have X1 := (X0.below hb1 X0.lt).past (.cells (rowV (layF m)) 49)
  have N1 := (N0.below hb1 N0.lt).past (.cells (rowV (layF m)) 49)
  have A1 : Arr (w1.alloc (.cells (rowV (layF m)) 49)) w1.heap.size (flipTo m 0) := Arr.congr (Arr.new w1 (layF m)) (flipTo_zero m)
  have B1' := bstep B0 hb1
  have B1 := B1'.alloc B1'.size (.cells (rowV (layF m)) 49)
  have n1 := X0.lt
  have n2 := hb1.size
  simp at n1 n2
  clear X0 N0 B0 hb1 B1'
  go_wp2_with (refine wpList_store_row rfl 49 _ _ rfl w1.heap.size (rowV (layF m)) rfl rfl 49 _ (heap_alloc_new w1 _) (size49 _) (by rw [zero49, rowV_size, rowV_size]) (rowV_one _) ?_; rw [World.setRow_alloc_new])
  go_loopw [8] (fun i wr => ∃ k : Nat, k ≤ 128 ∧ i = .int .i64 k ∧ Arr wr w1.heap.size (flipTo m k) ∧ Box wr w.heap.size n ∧ Wds wr (w.heap.size + 1 + 1) 0 0 ∧ Below w.heap.size w wr) (fun i _ => 128 - (intOf i).toNat)
  case atStart => exact ⟨0, by omega, by simp, A1, N1, X1, B1⟩
  case round =>
    obtain ⟨k, hk, rfl, A, N, Z, hB⟩ := hrel
    clear A1 N1 X1 B1
    by_cases hlt : k < 128
    · have x1 := A.cell (i := k) (by omega)
      have x2 := A.frozen k
      have HST : Hid _ := flipTo_step m k
      go_wp2
      refine ⟨⟨k + 1, by omega, by go_num, Arr.congr (A.set (i := k) (by omega) _) HST.out, N.other (by simp; omega) _, Z.other (by simp; omega) _, hB.setCell (by simp; omega) _⟩, by simp only [intOf]; omega⟩
    · obtain rfl : k = 128 := by omega
      go_wp2_with (first
        | (go_at_call 45; refine (take_any _ _).mono ?_; rintro e w3 ⟨rfl, hb3⟩)
        | (refine wpList_load_row rfl 49 _ rfl w1.heap.size rfl 49 _ (0, 0) _ A Tryd.underlying49 rfl (size49 _) ?_)
        | (go_at_call 30; fail))
      refine (Q2.out _).mono ?_
      rintro e w4 ⟨rfl, hb4⟩
      have Z3 := Z.below hb3 Z.lt
      have Z4 := (Z3.below hb4 Z3.lt).past (.cells #[.int .u64 (hiOf q), .int .u64 (loOf q)] 24)
      have N3 := N.below hb3 N.lt
      have N4 := (N3.below hb4 N3.lt).past (.cells #[.int .u64 (hiOf q), .int .u64 (loOf q)] 24)
      have K4 := Box.new w4 q
      have hB4' := bstep (bstep hB hb3) hb4
      have hB4 := hB4'.alloc hB4'.size (.cells #[.int .u64 (hiOf q), .int .u64 (loOf q)] 24)
      clear Z3 N3 hB4' hb3 hb4
      obtain ⟨a0, a1⟩ := id N4
      obtain ⟨k0, k1⟩ := id K4
      go_wp2_with fail
      refine (Q3.out _).mono ?_
      rintro e w5 ⟨rfl, hb5⟩
      obtain ⟨z0, z1, z2, z3⟩ := Z4.below hb5 Z4.lt
      have hB5 := bstep hB4 hb5
      go_wp2
      refine bodyPost_ret (v := B r) ?_ rfl ⟨rfl, (hB5.setCell (by simp; omega) _).setCell (by simp; omega) _⟩
      obtain ⟨r0, r1⟩ := zresult (x := .int .u64 (hiOf r)) (y := .int .u64 (loOf r)) z0 z1
      simp [results, Tryd.results31, go_sem, r0, r1]
end Go.Proofs.YtjkpdcgmmdimaaaDoor
namespace Go.Proofs.YtjkpdcgmmdimaaaDoor
open Go.RowKit
set_option linter.unusedVariables false
set_option linter.unusedSimpArgs false

/-- Two values have their first k bits in common. -/
def Alike (n m k : Nat) : Prop := ∀ j, j < k → layF n j = layF m j
theorem alike_all {n m : Nat} (hn : Is128 n) (hm : Is128 m) (h : Alike n m 128) : cmpN n m = 0 := by
  have : n = m := by
    rw [← take_lay hn]
    refine take_ext hm fun i hi => ?_
    rw [h _ (by omega)]; unfold layF; rw [show 127 - (127 - i) = i by omega]
  rw [this, cmp_same]
theorem bit_high {n : Nat} (hn : Is128 n) {i : Nat} (h : 128 ≤ i) : n.testBit i = false := by
  unfold Is128 at hn; rw [← two128] at hn
  exact Nat.testBit_lt_two_pow (Nat.lt_of_lt_of_le hn (Nat.pow_le_pow_right (by decide) h))
theorem alike_lt {n m k : Nat} (hn : Is128 n) (hm : Is128 m) (hk : k < 128) (h : Alike n m k) (h1 : layF n k = false) (h2 : layF m k = true) : n < m := by
  refine lt_of_bit (127 - k) h1 h2 fun j hj => ?_
  by_cases hj' : j < 128
  · have := h (127 - j) (by omega)
    unfold layF at this; rwa [show 127 - (127 - j) = j by omega] at this
  · rw [bit_high hn (by omega), bit_high hm (by omega)]
theorem alike_cmp {n m k : Nat} (hn : Is128 n) (hm : Is128 m) (hk : k < 128) (h : Alike n m k) : (layF n k = false → layF m k = true → cmpN n m = -1) ∧ (layF n k = true → layF m k = false → cmpN n m = 1) := by
  constructor
  · intro h1 h2; have := alike_lt hn hm hk h h1 h2; unfold cmpN; rw [if_pos this]
  · intro h1 h2; have := alike_lt hm hn hk (fun j hj => (h j hj).symm) h2 h1; unfold cmpN; rw [if_neg (by omega), if_pos this]

set_option maxHeartbeats 2000000 in
set_option maxRecDepth 100000 in
theorem rcompare_any (n m : Nat) (hn : Is128 n) (hm : Is128 m) (w : World) : Calls Tryd.prog 20 #[B n, B m] w fun e w' => e = .returned (.int .i64 (cmpN n m)) ∧ Below w.heap.size w w' := by
  have M0 : Box ((w.alloc (.cells #[.int .u64 (hiOf n), .int .u64 (loOf n)] 24)).alloc (.cells #[.int .u64 (hiOf m), .int .u64 (loOf m)] 24)) (w.heap.size + 1) m := by
    simpa using Box.new (w.alloc (.cells #[.int .u64 (hiOf n), .int .u64 (loOf n)] 24)) m
  have B0 : Below w.heap.size w ((w.alloc (.cells #[.int .u64 (hiOf n), .int .u64 (loOf n)] 24)).alloc (.cells #[.int .u64 (hiOf m), .int .u64 (loOf m)] 24)) := by go_grown
  go_enter Tryd.func20, Tryd.ntmps20
  go_wp2_with fail
  refine (lay_any n hn _).mono ?_
  rintro e w1 ⟨rfl, hb1⟩
  have M1 := (M0.below hb1 M0.lt).past (.cells (rowV (layF n)) 49)
  have A1 := Arr.new w1 (layF n)
  have B1' := bstep B0 hb1
  have B1 := B1'.alloc B1'.size (.cells (rowV (layF n)) 49)
  clear M0 B0 hb1 B1'
  obtain ⟨m0, m1⟩ := id M1
  go_wp2_with (refine wpList_store_row rfl 49 _ _ rfl w1.heap.size (rowV (layF n)) rfl rfl 49 _ (heap_alloc_new w1 _) (size49 _) (by rw [zero49, rowV_size, rowV_size]) (rowV_one _) ?_; rw [World.setRow_alloc_new])
  refine (lay_any m hm _).mono ?_
  rintro e w2 ⟨rfl, hb2⟩
  have A2 := (A1.below hb2 A1.lt).past (.cells (rowV (layF m)) 49)
  have Y2 := Arr.new w2 (layF m)
  have B2' := bstep B1 hb2
  have B2 := B2'.alloc B2'.size (.cells (rowV (layF m)) 49)
  clear M1 A1 m0 m1 B1 hb2 B2'
  go_wp2_with (refine wpList_store_row rfl 49 _ _ rfl w2.heap.size (rowV (layF m)) rfl rfl 49 _ (heap_alloc_new w2 _) (size49 _) (by rw [zero49, rowV_size, rowV_size]) (rowV_one _) ?_; rw [World.setRow_alloc_new])
  go_loopw [7] (fun i wr => ∃ k : Nat, k ≤ 128 ∧ i = .int .i64 k ∧ Alike n m k ∧ Arr wr w1.heap.size (layF n) ∧ Arr wr w2.heap.size (layF m) ∧ Below w.heap.size w wr) (fun i _ => 128 - (intOf i).toNat)
  case atStart => exact ⟨0, by omega, by simp, fun j hj => by omega, A2, Y2, B2⟩
  case round =>
    obtain ⟨k, hk, rfl, L, A, Y, hB⟩ := hrel
    clear A2 Y2 B2
    by_cases hlt : k < 128
    · have x1 := A.cell (i := k) (by omega)
      have y1 := Y.cell (i := k) (by omega)
      have C := alike_cmp hn hm hlt L
      have HC : Hid _ := C
      clear C
      cases h1 : layF n k <;> cases h2 : layF m k
      · rw [h1] at x1; rw [h2] at y1
        have L' : Alike n m (k + 1) := fun j hj => by
          by_cases e : j = k
          · rw [e, h1, h2]
          · exact L j (by omega)
        clear h1 h2 HC
        go_wp2
        go_quiet (fail)
        go_wp2
        exact ⟨⟨k + 1, by omega, by go_num, L', A, Y, below_drewN hB _⟩, by simp only [intOf]; omega⟩
      · have E : Hid _ := HC.out.1 h1 h2
        rw [h1] at x1; rw [h2] at y1
        clear h1 h2 HC L
        go_wp2
        go_quiet (fail)
        go_wp2
        go_ret
        exact ⟨by rw [E.out]; rfl, below_drewN hB _⟩
      · have E : Hid _ := HC.out.2 h1 h2
        rw [h1] at x1; rw [h2] at y1
        clear h1 h2 HC L
        go_wp2
        go_quiet (fail)
        go_wp2
        go_ret
        exact ⟨by rw [E.out]; rfl, below_drewN hB _⟩
      · rw [h1] at x1; rw [h2] at y1
        have L' : Alike n m (k + 1) := fun j hj => by
          by_cases e : j = k
          · rw [e, h1, h2]
          · exact L j (by omega)
        clear h1 h2 HC
        go_wp2
        go_quiet (fail)
        go_wp2
        exact ⟨⟨k + 1, by omega, by go_num, L', A, Y, below_drewN hB _⟩, by simp only [intOf]; omega⟩
    · obtain rfl : k = 128 := by omega
      have E : Hid _ := alike_all hn hm L
      clear L
      go_wp2
      go_ret
      exact ⟨by rw [E.out]; rfl, hB⟩
end Go.Proofs.YtjkpdcgmmdimaaaDoor
namespace Go.Proofs.YtjkpdcgmmdimaaaDoor
open Go.RowKit
set_option linter.unusedVariables false

/-- A list cut at each sign c. -/
def spl (c : UInt8) : List UInt8 → List (List UInt8)
  | [] => [[]]
  | x :: xs => if x = c then [] :: spl c xs else (match spl c xs with | [] => [[x]] | p :: ps => (x :: p) :: ps)
theorem spl_ne (c : UInt8) : ∀ l, spl c l ≠ [] := by
  intro l; cases l with
  | nil => simp [spl]
  | cons x xs => rw [spl]; split
                 · simp
                 · split <;> simp
theorem spl_none {c : UInt8} : ∀ {l : List UInt8}, (∀ x ∈ l, x ≠ c) → spl c l = [l] := by
  intro l; induction l with
  | nil => intro _; rfl
  | cons x xs ih =>
    intro h
    rw [spl, if_neg (h x (by simp)), ih fun y hy => h y (by simp [hy])]
theorem spl_app {c : UInt8} (r : List UInt8) : ∀ {l : List UInt8}, (∀ x ∈ l, x ≠ c) → spl c (l ++ c :: r) = l :: spl c r := by
  intro l; induction l with
  | nil => intro _; rw [List.nil_append, spl, if_pos rfl]
  | cons x xs ih =>
    intro h
    rw [List.cons_append, spl, if_neg (h x (by simp)), ih fun y hy => h y (by simp [hy])]
theorem spl_cases (c : UInt8) : ∀ l : List UInt8, (∀ x ∈ l, x ≠ c) ∨ ∃ p r, l = p ++ c :: r ∧ ∀ x ∈ p, x ≠ c := by
  intro l; induction l with
  | nil => left; simp
  | cons x xs ih =>
    by_cases hx : x = c
    · right; exact ⟨[], xs, by rw [hx]; rfl, by simp⟩
    · rcases ih with h | ⟨p, r, rfl, h⟩
      · left; intro y hy; rcases List.mem_cons.1 hy with rfl | hy
        · exact hx
        · exact h y hy
      · right; refine ⟨x :: p, r, rfl, ?_⟩; intro y hy; rcases List.mem_cons.1 hy with rfl | hy
        · exact hx
        · exact h y hy
theorem spl_pos (c : UInt8) (l : List UInt8) : 1 ≤ (spl c l).length := by
  have := spl_ne c l
  cases h : spl c l with
  | nil => exact absurd h this
  | cons _ _ => simp
theorem split_spl : ∀ (m : Nat) (l : List UInt8), ((spl 46 l).length ≤ m + 1 ∧ splitL m l = spl 46 l) ∨ (m + 1 < (spl 46 l).length ∧ (splitL m l).length = m + 1) := by
  intro m; induction m with
  | zero =>
    intro l
    rcases spl_cases 46 l with h | ⟨p, r, rfl, h⟩
    · left; rw [spl_none h]; exact ⟨by simp, rfl⟩
    · right; rw [spl_app r h]; refine ⟨?_, rfl⟩; have := spl_pos 46 r; simp; omega
  | succ m ih =>
    intro l
    rcases spl_cases 46 l with h | ⟨p, r, rfl, h⟩
    · left; rw [spl_none h, split_none _ _ h]; exact ⟨by simp, rfl⟩
    · rw [spl_app r h, split_app _ _ _ h]
      rcases ih r with ⟨h1, h2⟩ | ⟨h1, h2⟩
      · left; exact ⟨by simp; omega, by rw [h2]⟩
      · right; exact ⟨by simp; omega, by simp [h2]⟩
/-- Pieces joined by a sign. -/
def jn (c : UInt8) : List (List UInt8) → List UInt8
  | [] => []
  | [p] => p
  | p :: q :: ps => p ++ c :: jn c (q :: ps)
theorem jn_spl (c : UInt8) : ∀ l, jn c (spl c l) = l := by
  intro l; induction l with
  | nil => rfl
  | cons x xs ih =>
    rw [spl]
    cases h : spl c xs with
    | nil => exact absurd h (spl_ne c xs)
    | cons p ps =>
      rw [h] at ih
      split
      · next hx => rw [jn, ih, hx]; rfl
      · show jn c ((x :: p) :: ps) = x :: xs
        cases ps with
        | nil => rw [jn] at ih ⊢; rw [ih]
        | cons q qs => rw [jn] at ih ⊢; rw [← ih]; rfl

/-- What a number's digits say: nothing, or the number, however great. -/
def nuN (base : Nat) (l : List UInt8) : Option Nat := if l = [] ∨ (1 < l.length ∧ l.head? = some 48) then none else num base l 0
theorem fd_nu (base : Nat) (l : List UInt8) : fdN base l = match nuN base l with | none => (0, 12) | some v => if v < 340282366920938463463374607431768211456 then (v, 0) else (0, 11) := by
  unfold fdN nuN
  split
  · rfl
  · rfl
theorem num_mem {base : Nat} : ∀ {l : List UInt8} {a v : Nat}, num base l a = some v → ∀ c ∈ l, ∃ d, d < base ∧ sgn d = c := by
  intro l; induction l with
  | nil => intro a v _ c hc; cases hc
  | cons x xs ih =>
    intro a v h c hc
    cases hw : worth base x with
    | none => rw [num_none hw] at h; cases h
    | some d =>
      rw [num_some hw] at h
      rcases List.mem_cons.1 hc with rfl | hc
      · exact ⟨d, worth_some hw⟩
      · exact ih h c hc
theorem nu_mem {base : Nat} {l : List UInt8} {v : Nat} (h : nuN base l = some v) : ∀ c ∈ l, ∃ d, d < base ∧ sgn d = c := by
  unfold nuN at h; split at h
  · cases h
  · exact num_mem h
theorem nu_ne {base : Nat} {l : List UInt8} {v : Nat} (h : nuN base l = some v) : l ≠ [] := by
  unfold nuN at h; split at h
  · cases h
  · next hn => exact fun e => hn (.inl e)
/-- Each piece by a function, all or none. -/
def seqO (f : List UInt8 → Option UInt8) : List (List UInt8) → Option (List UInt8)
  | [] => some []
  | p :: ps => match f p with
    | none => none
    | some b => (seqO f ps).map (b :: ·)
theorem seqO_some {f : List UInt8 → Option UInt8} : ∀ {ps : List (List UInt8)} {bs : List UInt8}, ps.map f = bs.map some → seqO f ps = some bs := by
  intro ps; induction ps with
  | nil => intro bs h; cases bs with
    | nil => rfl
    | cons _ _ => simp at h
  | cons p ps ih =>
    intro bs h
    cases bs with
    | nil => simp at h
    | cons b bs =>
      simp only [List.map_cons, List.cons.injEq] at h
      rw [seqO, h.1, ih h.2]; rfl
theorem seqO_none {f : List UInt8 → Option UInt8} : ∀ {ps : List (List UInt8)} (p : List UInt8), p ∈ ps → f p = none → seqO f ps = none := by
  intro ps; induction ps with
  | nil => intro p hp; cases hp
  | cons q ps ih =>
    intro p hp h
    rw [seqO]
    cases hq : f q with
    | none => rfl
    | some b =>
      rcases List.mem_cons.1 hp with rfl | hp
      · rw [h] at hq; cases hq
      · show (seqO f ps).map _ = none
        rw [ih p hp h]; rfl
theorem seqO_back {f : List UInt8 → Option UInt8} : ∀ {ps : List (List UInt8)} {bs : List UInt8}, seqO f ps = some bs → ps.map f = bs.map some := by
  intro ps; induction ps with
  | nil => intro bs h; simp [seqO] at h; subst h; rfl
  | cons p ps ih =>
    intro bs h
    rw [seqO] at h
    cases hq : f p with
    | none => rw [hq] at h; cases h
    | some b =>
      rw [hq] at h
      cases hr : seqO f ps with
      | none => rw [hr] at h; cases h
      | some cs =>
        rw [hr] at h
        simp only [Option.map_some, Option.some.injEq] at h
        subst h
        simp [hq, ih hr]
def pdot (p : List UInt8) : Option UInt8 := match nuN 10 p with
  | none => none
  | some v => if v < 256 then some (UInt8.ofNat v) else none
def pcol (p : List UInt8) : Option UInt8 := match p with
  | [a, b] => (match worth 16 a, worth 16 b with | some x, some y => some (UInt8.ofNat (16 * x + y)) | _, _ => none)
  | _ => none
/-- What the reference's bytes answers. -/
def byL (l : List UInt8) (wd : Int) : Option (List UInt8) :=
  if (spl 46 l).length = 4 ∧ wd = 32 then seqO pdot (spl 46 l) else if hasC wd = true ∧ ((spl 58 l).length : Int) = wd / 8 then seqO pcol (spl 58 l) else none
def baseL (l : List UInt8) : Nat := if l.take 2 = [48, 120] then 16 else if l.take 2 = [48, 98] then 2 else 10
def restL (l : List UInt8) : List UInt8 := if l.take 2 = [48, 120] then l.drop 2 else if l.take 2 = [48, 98] then l.drop 2 else l
/-- What the reference's Parse answers. -/
def rpR (l : List UInt8) (wd : Int) : Nat × Int :=
  if isW wd = true then (match nuN (baseL l) (restL l) with
    | some v => if v < 340282366920938463463374607431768211456 ∧ fitsN v wd = true then (v, 0) else (0, 11)
    | none => (match byL l wd with | none => (0, 12) | some bs => frR bs wd))
  else (0, 10)
theorem fn_nu (l : List UInt8) : fnN l = match nuN (baseL l) (restL l) with | none => (0, 12) | some v => if v < 340282366920938463463374607431768211456 then (v, 0) else (0, 11) := by
  unfold fnN baseL restL
  split
  · exact fd_nu _ _
  · split <;> exact fd_nu _ _
theorem base_le (l : List UInt8) : baseL l ≤ 16 := by unfold baseL; split <;> (try split) <;> decide
theorem third {l : List UInt8} {v : Nat} (h : nuN (baseL l) (restL l) = some v) : l[2]? ≠ some 58 ∧ ∀ c ∈ l, c ≠ 46 := by
  have hm := nu_mem h
  have hb := base_le l
  have hr : ∀ c ∈ restL l, c ≠ 46 ∧ c ≠ 58 := fun c hc => by
    obtain ⟨d, hd, rfl⟩ := hm c hc
    have := sgn_not d (by omega)
    exact ⟨this.1, this.2.1⟩
  have two : ∀ (x : UInt8), x ≠ 46 → l.take 2 = [48, x] → restL l = l.drop 2 → l[2]? ≠ some 58 ∧ ∀ c ∈ l, c ≠ 46 := fun x hx h2 hd => by
    rw [hd] at hr
    refine ⟨fun e => ?_, fun c hc => ?_⟩
    · have : (58 : UInt8) ∈ l.drop 2 := by
        obtain ⟨hlt, hg⟩ := List.getElem?_eq_some_iff.1 e
        rw [List.mem_iff_getElem?]
        exact ⟨0, by rw [List.getElem?_drop]; exact e⟩
      exact (hr _ this).2 rfl
    · rw [← List.take_append_drop 2 l, h2] at hc
      rcases List.mem_append.1 hc with hc | hc
      · simp at hc; rcases hc with rfl | rfl
        · decide
        · exact hx
      · exact (hr c hc).1
  by_cases h1 : l.take 2 = [48, 120]
  · exact two 120 (by decide) h1 (by unfold restL; rw [if_pos h1])
  · by_cases h2 : l.take 2 = [48, 98]
    · exact two 98 (by decide) h2 (by unfold restL; rw [if_neg h1, if_pos h2])
    · have e : restL l = l := by unfold restL; rw [if_neg h1, if_neg h2]
      rw [e] at hr
      refine ⟨fun e => ?_, fun c hc => (hr c hc).1⟩
      exact (hr 58 (List.mem_iff_getElem?.2 ⟨2, e⟩)).2 rfl
end Go.Proofs.YtjkpdcgmmdimaaaDoor
namespace Go.Proofs.YtjkpdcgmmdimaaaDoor
open Go.RowKit
set_option linter.unusedVariables false
set_option linter.unusedSimpArgs false

theorem be_mod {k m n : Nat} (h : m % 256 ^ k = n % 256 ^ k) : be k m = be k n := by
  have := (be_order k m n).2
  rw [decide_eq_true h] at this
  exact eq_of_beq this
theorem be_of : ∀ bs : List UInt8, ∃ n, n < 256 ^ bs.length ∧ be bs.length n = bs := by
  intro bs; induction bs with
  | nil => exact ⟨0, by simp, rfl⟩
  | cons b bs ih =>
    obtain ⟨n, hn, e⟩ := ih
    have hb := UInt8.toNat_lt b
    have hp := Nat.pow_pos (n := bs.length) (show 0 < 256 by decide)
    refine ⟨b.toNat * 256 ^ bs.length + n, ?_, ?_⟩
    · rw [List.length_cons, Nat.pow_succ, Nat.mul_comm (256 ^ bs.length) 256]
      have := Nat.mul_le_mul_right (256 ^ bs.length) (show b.toNat + 1 ≤ 256 by omega)
      rw [Nat.add_mul] at this
      omega
    · rw [List.length_cons, be]
      have e1 : (b.toNat * 256 ^ bs.length + n) / 256 ^ bs.length = b.toNat := by
        rw [Nat.mul_comm, Nat.mul_add_div hp, Nat.div_eq_of_lt hn, Nat.add_zero]
      rw [e1, Nat.mod_eq_of_lt (show b.toNat < 256 by omega), be_mod (n := n) (by rw [Nat.mul_comm, Nat.mul_add_mod]), e]
      simp
abbrev pr (b : UInt8) : List UInt8 := [sgn (b.toNat / 16), sgn (b.toNat % 16)]
def colL : List UInt8 → List UInt8
  | [] => []
  | [b] => pr b
  | b :: q :: bs => pr b ++ 58 :: colL (q :: bs)
theorem colL_be (n : Nat) : ∀ k, colL (be k n) = colN n k := by
  intro k; induction k with
  | zero => rfl
  | succ k ih =>
    have e : (UInt8.ofNat (n / 256 ^ k % 256)).toNat = byteN n k := by
      have hb : n / 256 ^ k % 256 < 256 := Nat.mod_lt _ (by decide)
      unfold byteN; simp [UInt8.toNat_ofNat', Nat.mod_eq_of_lt hb]
    cases k with
    | zero => show pr _ = _; rw [pr, e]; rfl
    | succ j =>
      rw [be] at ih
      rw [be, be, colL, ih, pr, e]
      conv => rhs; rw [colN]
      rw [if_neg (by omega)]
      rfl
theorem pr_not (b : UInt8) : ∀ x ∈ pr b, x ≠ 58 ∧ x ≠ 46 := by
  intro x hx
  have hb := UInt8.toNat_lt b
  simp [pr] at hx
  rcases hx with rfl | rfl
  · have := sgn_not (b.toNat / 16) (by omega); exact ⟨this.2.1, this.1⟩
  · have := sgn_not (b.toNat % 16) (by omega); exact ⟨this.2.1, this.1⟩
theorem spl_col : ∀ bs : List UInt8, bs ≠ [] → spl 58 (colL bs) = bs.map pr := by
  intro bs; induction bs with
  | nil => intro h; exact absurd rfl h
  | cons b bs ih =>
    intro _
    cases bs with
    | nil => exact spl_none fun x hx => (pr_not b x hx).1
    | cons q r => rw [colL, spl_app _ fun x hx => (pr_not b x hx).1, ih (by simp)]; rfl
theorem jn_pr : ∀ bs : List UInt8, jn 58 (bs.map pr) = colL bs := by
  intro bs; induction bs with
  | nil => rfl
  | cons b bs ih =>
    cases bs with
    | nil => rfl
    | cons q r =>
      rw [List.map_cons] at ih
      rw [List.map_cons, List.map_cons, jn, ih, colL]
theorem colL_not : ∀ bs : List UInt8, ∀ x ∈ colL bs, x ≠ 46 := by
  intro bs; induction bs with
  | nil => intro x hx; cases hx
  | cons b bs ih =>
    cases bs with
    | nil => intro x hx; exact (pr_not b x hx).2
    | cons q r =>
      intro x hx
      rw [colL] at hx
      rcases List.mem_append.1 hx with hx | hx
      · exact (pr_not b x hx).2
      · rcases List.mem_cons.1 hx with rfl | hx
        · decide
        · exact ih x hx
theorem pcol_pr (b : UInt8) : pcol (pr b) = some b := by
  have hb := UInt8.toNat_lt b
  unfold pcol pr
  simp only [worth_sgn (base := 16) (Nat.le_refl _) (show b.toNat / 16 < 16 by omega), worth_sgn (base := 16) (Nat.le_refl _) (show b.toNat % 16 < 16 by omega)]
  congr 1
  rw [show 16 * (b.toNat / 16) + b.toNat % 16 = b.toNat by omega]; simp
theorem pcol_back {p : List UInt8} {b : UInt8} (h : pcol p = some b) : p = pr b := by
  unfold pcol at h
  split at h
  · next x y =>
    cases hx : worth 16 x with
    | none => rw [hx] at h; simp at h
    | some i =>
      cases hy : worth 16 y with
      | none => rw [hx, hy] at h; simp at h
      | some j =>
        rw [hx, hy] at h
        simp only [Option.some.injEq] at h
        obtain ⟨h1, e1⟩ := worth_some hx
        obtain ⟨h2, e2⟩ := worth_some hy
        have e : b.toNat = 16 * i + j := by rw [← h]; simp [UInt8.toNat_ofNat']; omega
        unfold pr
        rw [e, show (16 * i + j) / 16 = i by omega, show (16 * i + j) % 16 = j by omega, e1, e2]
  · cases h
theorem map_pcol : ∀ {ps : List (List UInt8)} {bs : List UInt8}, ps.map pcol = bs.map some → ps = bs.map pr := by
  intro ps; induction ps with
  | nil => intro bs h; cases bs with
    | nil => rfl
    | cons _ _ => simp at h
  | cons p ps ih =>
    intro bs h
    cases bs with
    | nil => simp at h
    | cons b bs =>
      simp only [List.map_cons, List.cons.injEq] at h
      rw [List.map_cons, ← ih h.2, pcol_back h.1]
theorem col_forth {l : List UInt8} {v k : Nat} (hk : 1 ≤ k) (hk' : k ≤ 16) (h : fcR l k = (v, true)) : (spl 58 l).length = k ∧ seqO pcol (spl 58 l) = some (be k v) ∧ v < 256 ^ k ∧ ∀ x ∈ l, x ≠ 46 := by
  obtain ⟨hv, e⟩ := fc_back hk hk' h
  have hne : be k v ≠ [] := fun e => by have := be_length k v; rw [e] at this; simp at this; omega
  rw [← e, ← colL_be, spl_col _ hne]
  refine ⟨by rw [List.length_map, be_length], seqO_some ?_, hv, colL_not _⟩
  rw [List.map_map]
  apply List.map_congr_left
  intro b _
  exact pcol_pr b
theorem col_back {l : List UInt8} {bs : List UInt8} {k : Nat} (hk : 1 ≤ k) (hk' : k ≤ 16) (hl : (spl 58 l).length = k) (h : seqO pcol (spl 58 l) = some bs) : ∃ n, n < 256 ^ k ∧ bs = be k n ∧ fcR l k = (n, true) := by
  have h1 := map_pcol (seqO_back h)
  have hlen : bs.length = k := by rw [← hl, h1, List.length_map]
  obtain ⟨n, hn, e⟩ := be_of bs
  rw [hlen] at hn e
  refine ⟨n, hn, e.symm, ?_⟩
  have hl2 : l = colN n k := by
    rw [← jn_spl 58 l, h1, jn_pr, ← e, colL_be]
  rw [hl2]
  exact fc_col hk hk' hn
theorem dot_part (p : List UInt8) : pdot p = (part8L p).map UInt8.ofNat := by
  unfold pdot part8L
  rw [fd_nu]
  cases h : nuN 10 p with
  | none => rw [if_neg (by simp)]; rfl
  | some v =>
    by_cases hv : v < 256
    · have : v < 340282366920938463463374607431768211456 := by omega
      simp only [if_pos this]
      rw [if_pos hv, if_pos]
      · rfl
      · refine ⟨?_, by unfold fitsN isW; simp; exact hv⟩
        first | trivial | rfl
    · simp only [if_neg hv]
      by_cases hb : v < 340282366920938463463374607431768211456
      · simp only [if_pos hb]
        rw [if_neg]; rfl
        rintro ⟨_, hf⟩
        have := fits_lt hf
        exact hv (by simpa using this)
      · simp only [if_neg hb]
        rw [if_neg (by simp)]; rfl
theorem part_lt {p : List UInt8} {b : Nat} (h : part8L p = some b) : b < 256 := (part8_back h).1
theorem dots_forth {l : List UInt8} (hl : (spl 46 l).length = 4) : (match byL l 32 with | none => (0, 12) | some bs => frR bs 32) = if (dotsL l).2 = true then ((dotsL l).1, 0) else (0, 12) := by
  have hs : splitL 4 l = spl 46 l := by
    rcases split_spl 4 l with h | h
    · exact h.2
    · omega
  unfold byL
  rw [if_pos ⟨hl, rfl⟩]
  unfold dotsL
  rw [hs, if_pos hl]
  obtain ⟨p0, p1, p2, p3, e⟩ : ∃ p0 p1 p2 p3, spl 46 l = [p0, p1, p2, p3] := by
    match hq : spl 46 l, hl with
    | [p0, p1, p2, p3], _ => exact ⟨p0, p1, p2, p3, rfl⟩
  rw [e]
  obtain ⟨o0, h0⟩ : ∃ o, part8L p0 = o := ⟨_, rfl⟩
  obtain ⟨o1, h1⟩ : ∃ o, part8L p1 = o := ⟨_, rfl⟩
  obtain ⟨o2, h2⟩ : ∃ o, part8L p2 = o := ⟨_, rfl⟩
  obtain ⟨o3, h3⟩ : ∃ o, part8L p3 = o := ⟨_, rfl⟩
  simp only [seqO, dot_part, doL, h0, h1, h2, h3]
  cases o0 with
  | none => rfl
  | some b0 =>
    cases o1 with
    | none => rfl
    | some b1 =>
      cases o2 with
      | none => rfl
      | some b2 =>
        cases o3 with
        | none => rfl
        | some b3 =>
          have l0 := part_lt h0
          have l1 := part_lt h1
          have l2 := part_lt h2
          have l3 := part_lt h3
          have t : ∀ b, b < 256 → (UInt8.ofNat b).toNat = b := fun b hb => by simp [UInt8.toNat_ofNat', Nat.mod_eq_of_lt hb]
          have hv : frN [UInt8.ofNat b0, UInt8.ofNat b1, UInt8.ofNat b2, UInt8.ofNat b3] 0 = (((0 * 256 + b0) * 256 + b1) * 256 + b2) * 256 + b3 := by
            simp only [frN, List.foldl, moreN, t _ l0, t _ l1, t _ l2, t _ l3]; omega
          show frR [UInt8.ofNat b0, UInt8.ofNat b1, UInt8.ofNat b2, UInt8.ofNat b3] 32 = (if true = true then ((((0 * 256 + b0) * 256 + b1) * 256 + b2) * 256 + b3, 0) else (0, 12))
          rw [if_pos rfl, ← hv]
          refine frR_yes (by decide) (by simp) ?_
          rw [hv]
          unfold fitsN isW
          simp
          omega
theorem hasC_q {wd : Int} (h : hasC wd = true) : isW wd = true ∧ ((wd + 7) / 8).toNat = (wd / 8).toNat ∧ 2 ≤ (wd / 8).toNat ∧ (wd / 8).toNat ≤ 16 ∧ (((wd / 8).toNat : Nat) : Int) = wd / 8 ∧ wd = 8 * (wd / 8) := by
  unfold hasC at h
  simp only [Bool.and_eq_true, decide_eq_true_eq, beq_iff_eq] at h
  obtain ⟨⟨h1, h2⟩, h3⟩ := h
  have hb := isW_bounds h1
  exact ⟨h1, by omega, by omega, by omega, by omega, by omega⟩
theorem pr_rp (s : ByteArray) (wd : Int) : prR s wd = rpR s.data.toList wd := by
  generalize hl : s.data.toList = l
  unfold rpR
  cases hW : isW wd with
  | false => rw [prR_no hW]; rfl
  | true =>
    rw [if_pos rfl]
    have hf := fn_nu l
    have hd := dotsR_list s
    rw [hl] at hd
    unfold prR
    rw [if_pos hW, hl, hd]
    cases hn : nuN (baseL l) (restL l) with
    | some v =>
      rw [hn] at hf
      obtain ⟨h2, h46⟩ := third hn
      rw [if_neg (fun h => by
        obtain ⟨_, e, k2, _⟩ := hasC_q h.1
        have := fc_not (l := l) (k := ((wd + 7) / 8).toNat) (by omega) (.inl h2)
        rw [this] at h; exact absurd h.2 (by decide)), if_neg (fun h => by rw [dots_not h46] at h; exact absurd h.2 (by decide))]
      unfold pnN
      rw [hf]
      by_cases hv : v < 340282366920938463463374607431768211456
      · simp only [if_pos hv]
        cases hfit : fitsN v wd <;> simp [hv, hfit]
      · simp only [if_neg hv]
        rw [if_neg (by decide), if_neg (fun h => hv h.1)]
    | none =>
      rw [hn] at hf
      have hp : pnN l wd = (0, 12) := by unfold pnN; rw [hf]; rfl
      rw [hp]
      by_cases h4 : (spl 46 l).length = 4 ∧ wd = 32
      · obtain ⟨h4, rfl⟩ := h4
        rw [if_neg (fun h => by
          obtain ⟨v, b⟩ : ∃ v, fcR l (((32 : Int) + 7) / 8).toNat = (v, true) := ⟨_, Prod.ext rfl h.2⟩
          have := (col_forth (by decide) (by decide) b).2.2.2
          rw [spl_none this] at h4; simp at h4)]
        refine Eq.trans ?_ (dots_forth h4).symm
        simp
      · rw [if_neg (c := wd = 32 ∧ _) (fun h => by
          apply h4
          refine ⟨?_, h.1⟩
          have h2 := h.2
          unfold dotsL at h2
          split at h2
          · next h5 =>
            rcases split_spl 4 l with ⟨_, e⟩ | ⟨_, e⟩
            · rw [← e]; exact h5
            · omega
          · cases h2)]
        show _ = (match byL l wd with | none => ((0 : Nat), (12 : Int)) | some bs => frR bs wd)
        unfold byL
        rw [if_neg h4]
        cases hC : hasC wd with
        | false => simp
        | true =>
          obtain ⟨_, e, k2, k16, ek, e8⟩ := hasC_q hC
          rw [e]
          cases hfc : (fcR l (wd / 8).toNat).2 with
          | true =>
            obtain ⟨a, b, c, _⟩ := col_forth (l := l) (v := (fcR l (wd / 8).toNat).1) (by omega) k16 (Prod.ext rfl hfc)
            rw [if_pos ⟨rfl, rfl⟩, if_pos ⟨rfl, by rw [a]; exact ek⟩, b]
            have hfit : fitsN (fcR l (wd / 8).toNat).1 wd = true := by
              unfold fitsN
              rw [hW]
              simp only [Bool.true_and, decide_eq_true_eq]
              refine Nat.lt_of_lt_of_le c ?_
              rw [show (256 : Nat) = 2 ^ 8 by decide, ← Nat.pow_mul]
              exact Nat.pow_le_pow_right (by decide) (by omega)
            have h128 : Is128 (fcR l (wd / 8).toNat).1 := Nat.lt_of_lt_of_le c (p256 _ k16)
            have := bytes_back h128 hW hfit
            rw [e] at this
            exact this.symm
          | false =>
            rw [if_neg (by simp)]
            by_cases hlen : ((spl 58 l).length : Int) = wd / 8
            · rw [if_pos ⟨rfl, hlen⟩]
              cases hs : seqO pcol (spl 58 l) with
              | none => rfl
              | some bs =>
                obtain ⟨n, _, _, h3⟩ := col_back (l := l) (k := (wd / 8).toNat) (by omega) k16 (by omega) hs
                rw [h3] at hfc; cases hfc
            · rw [if_neg (fun h => hlen h.2)]
end Go.Proofs.YtjkpdcgmmdimaaaDoor
namespace Go.Proofs.YtjkpdcgmmdimaaaDoor
open Go.RowKit
set_option linter.unusedVariables false
set_option linter.unusedSimpArgs false

/-- What number answers. -/
def NuR (base : Nat) (l : List UInt8) (x : Nat) (f ok : Bool) : Prop :=
  (nuN base l = none ∧ x = 0 ∧ f = false ∧ ok = false) ∨ ∃ v, nuN base l = some v ∧ ok = true ∧ f = (!bigB v) ∧ Is128 x ∧ (bigB v = false → x = v)
theorem over_parts {x base d y : Nat} (hb : 0 < base) (hd : d < base) (hy : moreN x base d = y) : (y / base = x ∧ y % base = d) ↔ bigB (x * base + d) = false := by
  unfold bigB
  simp only [decide_eq_false_iff_not, Nat.not_le]
  unfold moreN at hy
  constructor
  · rintro ⟨h1, h2⟩
    have h3 := Nat.div_add_mod y base
    rw [h1, h2, Nat.mul_comm] at h3
    have : y < 340282366920938463463374607431768211456 := by rw [← hy]; exact Nat.mod_lt _ (by decide)
    omega
  · intro h
    rw [Nat.mod_eq_of_lt h] at hy
    subst hy
    refine ⟨?_, ?_⟩
    · rw [Nat.mul_comm, Nat.mul_add_div hb, Nat.div_eq_of_lt hd, Nat.add_zero]
    · rw [Nat.mul_comm, Nat.mul_add_mod, Nat.mod_eq_of_lt hd]
theorem big_more {a base d : Nat} (hb : 1 ≤ base) (h : bigB a = true) : bigB (a * base + d) = true := by
  unfold bigB at *; simp only [decide_eq_true_eq] at *
  have : a ≤ a * base := Nat.le_mul_of_pos_right a (by omega)
  omega
def NuAt (base : Nat) (s : ByteArray) (w : World) (f c : Value) (wr : World) : Prop :=
  ∃ p a x : Nat, p ≤ s.size ∧ c = .int .i64 p ∧ Aside (num base (s.data.toList.drop p) a = num base s.data.toList 0) ∧ f = .bool (!bigB a) ∧ (bigB a = false → x = a) ∧ Is128 x ∧ Wds wr (w.heap.size + 1) (hiOf x) (loOf x) ∧ Wds wr w.heap.size 0 0 ∧ Below w.heap.size w wr
set_option maxHeartbeats 4000000 in
set_option maxRecDepth 100000 in
theorem rnumber_loop (base : Nat) (hb0 : 2 ≤ base) (hb1 : base ≤ 16) (s : ByteArray) (hs : s.size ≤ maxLen) (hne : s.data.toList ≠ []) (hz : ¬ (1 < s.data.toList.length ∧ s.data.toList.head? = some 48)) (w : World) :
    Calls Tryd.prog 66 #[.string s, .int .i64 base] w fun e w' => ∃ x f ok, e = .returned (.tuple #[B x, .bool f, .bool ok]) ∧ NuR base s.data.toList x f ok ∧ Below w.heap.size w w' := by
  have HF : Hid (nuN base s.data.toList = num base s.data.toList 0) := by
    show _ = _; unfold nuN; rw [if_neg (by rintro (h | h); exact hne h; exact hz h)]
  unfold maxLen at hs
  have hpos : 0 < s.size := by
    rcases Nat.eq_zero_or_pos s.size with h | h
    · exact absurd (List.length_eq_zero_iff.1 (by simpa using h)) hne
    · exact h
  have hpre : (1 < s.size ∧ ∃ h : 0 < s.size, (((s[0]'h).toNat : Int) == 48) = false) ∨ decide ((1 : Int) < s.size) = false := by
    by_cases hl : 1 < s.size
    · left
      refine ⟨hl, by omega, ?_⟩
      simp only [beq_eq_false_iff_ne]; intro e
      refine hz ⟨by simpa using hl, ?_⟩
      have e0 : s.data.toList = s[0] :: s.data.toList.drop 1 := by simpa using byte_at s (p := 0) hpos
      rw [e0, List.head?_cons]
      exact congrArg some (UInt8.toNat_inj.1 (by exact_mod_cast e))
    · right; simp; omega
  have hz1 : ((s.size : Int) == 0) = false := beq_eq_false_iff_ne.2 (by omega)
  have h2i : (2 : Int) ≤ base := by omega
  clear hz hne
  rcases hpre with ⟨hl, hp0, hp1⟩ | hl
  all_goals
    go_enter Tryd.func66, Tryd.ntmps66
    go_wp2_with fail
    go_loopw [8, 9] (fun f c wr => NuAt base s w f c wr) (fun _ c _ => s.size - (intOf c).toNat)
    case atStart =>
      refine ⟨0, 0, 0, by omega, rfl, rfl, rfl, fun _ => rfl, by unfold Is128; decide, ?_, (Wds.new w 0 0).past _, by go_grown⟩
      simpa [hiOf, loOf] using Wds.new (w.alloc (.cells #[.int .u64 0, .int .u64 0] 24)) 0 0
    case round =>
      obtain ⟨p, a, x, hp, rfl, A, rfl, hxa, hx, V, Z, hB⟩ := hrel
      have HX : Hid (bigB a = false → x = a) := hxa
      clear hxa
      obtain ⟨v0, v1, v2, v3⟩ := id V
      by_cases hlt : p < s.size
      · cases hw : worth base s[p] with
        | none =>
          have C : Hid (∀ w, Calls Tryd.prog 78 #[.int .u8 ((s[p]).toNat : Int), .int .i64 base] w fun e w' => e = .returned (.int .i64 (-1)) ∧ w' = w) := fun w => by
            have := worth_any base s[p] hb1 w
            unfold worthI at this; rw [hw] at this; exact this
          have E : Hid (nuN base s.data.toList = none) := by
            show _ = _; rw [HF.out, ← A.out, byte_at s hlt, num_none hw]
          obtain ⟨z0, z1, z2, z3⟩ := id Z
          clear hw A
          go_wp2_with fail
          refine (C.out _).mono ?_
          rintro e w1 ⟨rfl, e1⟩
          obtain rfl := Eq.symm e1
          go_wp2_with fail
          refine bodyPost_ret (v := .tuple #[B 0, .bool false, .bool false]) ?_ rfl ⟨0, false, false, rfl, .inl ⟨E.out, rfl, rfl, rfl⟩, (hB.setCell (Nat.le_refl _) _).setCell (Nat.le_refl _) _⟩
          obtain ⟨r0, r1⟩ := zresult (x := .int .u64 0) (y := .int .u64 0) z0 z1
          rw [zero_words]; simp [results, Tryd.results66, go_sem, r0, r1]
        | some d =>
          obtain ⟨hdb, hsd⟩ := worth_some hw
          have C : Hid (∀ w, Calls Tryd.prog 78 #[.int .u8 ((s[p]).toNat : Int), .int .i64 base] w fun e w' => e = .returned (.int .i64 (d : Int)) ∧ w' = w) := fun w => by
            have := worth_any base s[p] hb1 w
            unfold worthI at this; rw [hw] at this; exact this
          have A2 : Aside (num base (s.data.toList.drop (p + 1)) (a * base + d) = num base s.data.toList 0) := by
            show _ = _; rw [← A.out, byte_at s hlt, num_some hw]
          have hlt1 := V.lt
          have hlt2 := Z.lt
          clear hw hsd A
          cases hbig : bigB a
          · obtain rfl : x = a := HX.out hbig
            obtain ⟨y, hy⟩ : ∃ y, moreN x base d = y := ⟨_, rfl⟩
            have C1 : Hid (∀ w, Calls Tryd.prog 54 #[B x, .int .i64 base, .int .i64 (d : Int)] w fun e w' => e = .returned (B y) ∧ Below w.heap.size w w') := by
              rw [← hy]; exact fun w => rmore_any x base d hx (by omega) (by omega) w
            have hy128 : Is128 y := by rw [← hy]; exact more_is _ _ _
            have C2 : Hid (∀ w, Calls Tryd.prog 77 #[B y, .int .i64 base] w fun e w' => e = .returned (.tuple #[B (y / base), .int .i64 ((y % base : Nat) : Int)]) ∧ Below w.heap.size w w') := fun w => divided_any y base hy128 (by omega) hb1 w
            have HO : Hid ((y / base = x ∧ y % base = d) ↔ bigB (x * base + d) = false) := over_parts (by omega) hdb hy
            have HY : Hid (bigB (x * base + d) = false → y = x * base + d) := fun h => by
              rw [← hy, moreN]; unfold bigB at h; simp only [decide_eq_false_iff_not] at h; exact Nat.mod_eq_of_lt (by omega)
            clear hy
            generalize hq : y / base = q at *
            generalize hr : y % base = r at *
            have hq128 : Is128 q := by rw [← hq]; exact Nat.lt_of_le_of_lt (Nat.div_le_self _ _) hy128
            clear hq hr
            go_wp2_with fail
            refine (C.out _).mono ?_
            rintro e w1 ⟨rfl, e1⟩
            obtain rfl := Eq.symm e1
            go_wp2_with fail
            refine (C1.out _).mono ?_
            rintro e w2 ⟨rfl, hb2⟩
            have N1 := Wds.new wr 0 0
            have V2 := (V.past (.cells #[.int .u64 0, .int .u64 0] 24)).below hb2 (V.past _).lt
            have Z2 := (Z.past (.cells #[.int .u64 0, .int .u64 0] 24)).below hb2 (Z.past _).lt
            have N2 := N1.below hb2 N1.lt
            have hB2 := bstep (hB.alloc hB.size (.cells #[.int .u64 0, .int .u64 0] 24)) hb2
            have ne1 : wr.heap.size ≠ w.heap.size + 1 := by omega
            have ne2 : wr.heap.size ≠ w.heap.size := by omega
            have ge2 : w.heap.size ≤ wr.heap.size := by omega
            clear v0 v1 v2 v3 V Z hB hb2 N1
            obtain ⟨n0, n1, n2, n3⟩ := id N2
            have V3 := (V2.other (a := ⟨wr.heap.size, 0, none⟩) (Ne.symm ne1) (.int .u64 (hiOf y))).other (a := ⟨wr.heap.size, 1, none⟩) (Ne.symm ne1) (.int .u64 (loOf y))
            have Z3 := (Z2.other (a := ⟨wr.heap.size, 0, none⟩) (Ne.symm ne2) (.int .u64 (hiOf y))).other (a := ⟨wr.heap.size, 1, none⟩) (Ne.symm ne2) (.int .u64 (loOf y))
            have N3 := (N2.set0 (hiOf y)).set1 (loOf y)
            have hB3 := (hB2.setCell (p := ⟨wr.heap.size, 0, none⟩) ge2 (.int .u64 (hiOf y))).setCell (p := ⟨wr.heap.size, 1, none⟩) ge2 (.int .u64 (loOf y))
            clear V2 Z2 N2 hB2
            go_wp2_with fail
            generalize (w2.setCell ⟨wr.heap.size, 0, none⟩ (.int .u64 (hiOf y))).setCell ⟨wr.heap.size, 1, none⟩ (.int .u64 (loOf y)) = w3 at *
            refine (C2.out _).mono ?_
            rintro e w4 ⟨rfl, hb4⟩
            have V4 := (V3.below hb4 V3.lt).past (.cells #[.int .u64 (hiOf q), .int .u64 (loOf q)] 24)
            have Z4 := (Z3.below hb4 Z3.lt).past (.cells #[.int .u64 (hiOf q), .int .u64 (loOf q)] 24)
            have N4 := (N3.below hb4 N3.lt).past (.cells #[.int .u64 (hiOf q), .int .u64 (loOf q)] 24)
            have K4 := Wds.new w4 (hiOf q) (loOf q)
            have hB4 := (bstep hB3 hb4).alloc (bstep hB3 hb4).size (.cells #[.int .u64 (hiOf q), .int .u64 (loOf q)] 24)
            clear n0 n1 n2 n3 V3 Z3 N3 hB3 hb4
            obtain ⟨v0, v1, v2, v3⟩ := id V4
            obtain ⟨n0, n1, n2, n3⟩ := id N4
            obtain ⟨k0, k1, _, _⟩ := id K4
            have V5 := (V4.set0 (hiOf y)).set1 (loOf y)
            have Z5 := (Z4.other (a := ⟨w.heap.size + 1, 0, none⟩) (by simp) (.int .u64 (hiOf y))).other (a := ⟨w.heap.size + 1, 1, none⟩) (by simp) (.int .u64 (loOf y))
            have hB5 := (hB4.setCell (p := ⟨w.heap.size + 1, 0, none⟩) (by simp) (.int .u64 (hiOf y))).setCell (p := ⟨w.heap.size + 1, 1, none⟩) (by simp) (.int .u64 (loOf y))
            clear V4 Z4 N4 K4 hB4
            cases hfit : bigB (x * base + d)
            · obtain ⟨rfl, rfl⟩ := HO.out.2 hfit
              have ef := fun w => run_eqB (n := q) (m := q) (b := true) (by simp) w
              have F : Hid (bigB (q * base + r) = false) := hfit
              clear hfit
              go_wp2_with fail
              exact ⟨⟨p + 1, q * base + r, y, by omega, by go_num, A2, by rw [F.out]; rfl, HY.out, hy128, V5, Z5, hB5⟩, by simp only [intOf]; omega⟩
            · have F : Hid (bigB (x * base + d) = true) := hfit
              by_cases hqx : q = x
              · have hrd : ((r : Int) == (d : Int)) = false := by
                  simp only [beq_eq_false_iff_ne]; intro e
                  have := HO.out.1 ⟨hqx, by omega⟩
                  rw [hfit] at this; cases this
                subst hqx
                have ef := fun w => run_eqB (n := q) (m := q) (b := true) (by simp) w
                clear hfit
                go_wp2_with fail
                exact ⟨⟨p + 1, q * base + d, y, by omega, by go_num, A2, by rw [F.out]; rfl, HY.out, hy128, V5, Z5, hB5⟩, by simp only [intOf]; omega⟩
              · have ef := fun w => run_eqB (n := q) (m := x) (b := false) (by simpa using hqx) w
                clear hfit hqx
                go_wp2_with fail
                exact ⟨⟨p + 1, x * base + d, y, by omega, by go_num, A2, by rw [F.out]; rfl, HY.out, hy128, V5, Z5, hB5⟩, by simp only [intOf]; omega⟩
          · have F : Hid (bigB (a * base + d) = true) := big_more (by omega) hbig
            have V3 : Wds (((wr.setCell ⟨w.heap.size + 1, 0, none⟩ (.int .u64 0)).setCell ⟨w.heap.size + 1, 1, none⟩ (.int .u64 0)).alloc (.cells #[.int .u64 0, .int .u64 0] 24)) (w.heap.size + 1) (hiOf 0) (loOf 0) := ((V.set0 0).set1 0).past _
            have Z3 := ((Z.other (a := ⟨w.heap.size + 1, 0, none⟩) (by simp) (.int .u64 0)).other (a := ⟨w.heap.size + 1, 1, none⟩) (by simp) (.int .u64 0)).past (.cells #[.int .u64 0, .int .u64 0] 24)
            have hB3 := ((hB.setCell (p := ⟨w.heap.size + 1, 0, none⟩) (by simp) (.int .u64 0)).setCell (p := ⟨w.heap.size + 1, 1, none⟩) (by simp) (.int .u64 0)).alloc (by have := hB.size; simpa using this) (.cells #[.int .u64 0, .int .u64 0] 24)
            go_wp2_with fail
            refine (C.out _).mono ?_
            rintro e w1 ⟨rfl, e1⟩
            obtain rfl := Eq.symm e1
            go_wp2_with fail
            exact ⟨⟨p + 1, a * base + d, 0, by omega, by go_num, A2, by rw [F.out]; rfl, (fun h => by rw [F.out] at h; cases h), by unfold Is128; decide, V3, Z3, hB3⟩, by simp only [intOf]; omega⟩
      · have hpe : p = s.size := by omega
        have hnum : num base s.data.toList 0 = some a := by
          rw [← A.out, hpe, List.drop_of_length_le (by simp)]; rfl
        have E : Hid (nuN base s.data.toList = some a) := by show _ = _; rw [HF.out, hnum]
        obtain ⟨z0, z1, z2, z3⟩ := id Z
        clear hnum hpe A
        go_wp2_with fail
        refine bodyPost_ret (v := .tuple #[B x, .bool (!bigB a), .bool true]) ?_ rfl ⟨x, _, _, rfl, .inr ⟨a, E.out, rfl, rfl, hx, HX.out⟩, (hB.setCell (Nat.le_refl _) _).setCell (Nat.le_refl _) _⟩
        obtain ⟨r0, r1⟩ := zresult (x := .int .u64 (hiOf x)) (y := .int .u64 (loOf x)) z0 z1
        simp [results, Tryd.results66, go_sem, r0, r1]
set_option maxHeartbeats 1000000 in
theorem rnumber_any (base : Nat) (hb0 : 2 ≤ base) (hb1 : base ≤ 16) (s : ByteArray) (hs : s.size ≤ maxLen) (w : World) :
    Calls Tryd.prog 66 #[.string s, .int .i64 base] w fun e w' => ∃ x f ok, e = .returned (.tuple #[B x, .bool f, .bool ok]) ∧ NuR base s.data.toList x f ok ∧ Below w.heap.size w w' := by
  by_cases hne : s.data.toList = []
  · have E : Hid (nuN base s.data.toList = none) := by show _ = _; unfold nuN; rw [if_pos (.inl hne)]
    have hz0 : s.size = 0 := by have := congrArg List.length hne; simpa using this
    have hz1 : ((s.size : Int) == 0) = true := by simp [hz0]
    clear hne hz0
    go_enter Tryd.func66, Tryd.ntmps66
    go_wp2_with fail
    refine bodyPost_ret (v := .tuple #[B 0, .bool false, .bool false]) ?_ rfl ⟨0, false, false, rfl, .inl ⟨E.out, rfl, rfl, rfl⟩, by go_grown⟩
    rw [zero_words]; simp [results, Tryd.results66, go_sem]
  · by_cases hz : 1 < s.data.toList.length ∧ s.data.toList.head? = some 48
    · have E : Hid (nuN base s.data.toList = none) := by show _ = _; unfold nuN; rw [if_pos (.inr hz)]
      have hl : 1 < s.size := by simpa using hz.1
      have hpos : 0 < s.size := by omega
      have hz1 : ((s.size : Int) == 0) = false := beq_eq_false_iff_ne.2 (by omega)
      have h48 : (((s[0]'hpos).toNat : Int) == 48) = true := by
        have e0 : s.data.toList = s[0] :: s.data.toList.drop 1 := by simpa using byte_at s (p := 0) hpos
        have h1 := hz.2
        rw [e0, List.head?_cons] at h1
        injection h1 with h1
        rw [h1]; rfl
      have hl' : (1 : Int) < s.size := by omega
      clear hne hz
      go_enter Tryd.func66, Tryd.ntmps66
      go_wp2_with fail
      refine bodyPost_ret (v := .tuple #[B 0, .bool false, .bool false]) ?_ rfl ⟨0, false, false, rfl, .inl ⟨E.out, rfl, rfl, rfl⟩, by go_grown⟩
      rw [zero_words]; simp [results, Tryd.results66, go_sem]
    · exact rnumber_loop base hb0 hb1 s hs hne hz w
end Go.Proofs.YtjkpdcgmmdimaaaDoor
namespace Go.Proofs.YtjkpdcgmmdimaaaDoor
open Go.RowKit
set_option linter.unusedVariables false
set_option linter.unusedSimpArgs false

theorem info9s : (Tryd.prog.info? 9).map (fun i => (i.zero, i.size, i.bytes)) = some (some (.string ⟨#[]⟩), 1, 16) := by kernel_rfl
abbrev tl (p : ByteArray) : List UInt8 := p.data.toList
/-- What holds at the head of each round. -/
def PtAt (c : UInt8) (l : List UInt8) (P : List ByteArray) (f i : Nat) : Prop :=
  (f ≤ i ∧ i ≤ l.length ∧ P.map tl ++ spl c (l.drop f) = spl c l ∧ ∀ j, f ≤ j → j < i → l[j]? ≠ some c) ∨ (i = l.length + 1 ∧ P.map tl = spl c l)
theorem PtAt.free {c : UInt8} {l : List UInt8} {f i : Nat} (h1 : f ≤ i) (h2 : i ≤ l.length) (h4 : ∀ j, f ≤ j → j < i → l[j]? ≠ some c) : ∀ x ∈ (l.drop f).take (i - f), x ≠ c := by
  intro x hx e
  subst e
  obtain ⟨k, hk⟩ := List.mem_iff_getElem?.1 hx
  rw [List.getElem?_take] at hk
  split at hk
  · rw [List.getElem?_drop] at hk
    exact h4 (f + k) (by omega) (by omega) hk
  · cases hk
theorem PtAt.last {c : UInt8} {s : ByteArray} {P : List ByteArray} {f : Nat} (h1 : f ≤ s.size) (h3 : P.map tl ++ spl c (s.data.toList.drop f) = spl c s.data.toList) (h4 : ∀ j, f ≤ j → j < s.size → s.data.toList[j]? ≠ some c) : PtAt c s.data.toList (P ++ [s.extract f s.size]) (s.size + 1) (s.size + 1) := by
  right
  have hl : s.data.toList.length = s.size := by simp
  refine ⟨by rw [hl], ?_⟩
  have h5 := PtAt.free (c := c) (l := s.data.toList) (i := s.data.toList.length) (by rw [hl]; exact h1) (Nat.le_refl _) (by rw [hl]; exact h4)
  have h6 : (s.data.toList.drop f).take (s.data.toList.length - f) = s.data.toList.drop f := List.take_of_length_le (by simp)
  rw [h6] at h5
  rw [← h3, spl_none h5, List.map_append]
  congr 1
  show [(s.extract f s.size).data.toList] = _
  rw [extract_list, List.take_of_length_le (by simp)]
theorem PtAt.cut {c : UInt8} {s : ByteArray} {P : List ByteArray} {f i : Nat} (h1 : f ≤ i) (hi : i < s.size) (hc : s[i] = c) (h3 : P.map tl ++ spl c (s.data.toList.drop f) = spl c s.data.toList) (h4 : ∀ j, f ≤ j → j < i → s.data.toList[j]? ≠ some c) : PtAt c s.data.toList (P ++ [s.extract f i]) (i + 1) (i + 1) := by
  left
  have hl : s.data.toList.length = s.size := by simp
  refine ⟨Nat.le_refl _, by rw [hl]; exact hi, ?_, fun j h h' => by omega⟩
  have h5 := PtAt.free (c := c) (l := s.data.toList) (i := i) h1 (by rw [hl]; omega) h4
  have h6 : s.data.toList.drop f = (s.data.toList.drop f).take (i - f) ++ c :: s.data.toList.drop (i + 1) := by
    have e1 : (s.data.toList.drop f).drop (i - f) = s.data.toList.drop i := by rw [List.drop_drop]; congr 1; omega
    have e2 := byte_at s hi
    rw [hc] at e2
    rw [← e2, ← e1, List.take_append_drop]
  rw [← h3]
  conv => rhs; rw [h6]
  rw [spl_app _ h5, List.map_append, List.append_assoc]
  congr 1
  show (s.extract f i).data.toList :: _ = _
  rw [extract_list]
  congr 1
  rw [List.drop_take]
theorem PtAt.on {c : UInt8} {s : ByteArray} {P : List ByteArray} {f i : Nat} (h1 : f ≤ i) (hi : i < s.size) (hc : s[i] ≠ c) (h3 : P.map tl ++ spl c (s.data.toList.drop f) = spl c s.data.toList) (h4 : ∀ j, f ≤ j → j < i → s.data.toList[j]? ≠ some c) : PtAt c s.data.toList P f (i + 1) := by
  left
  have hl : s.data.toList.length = s.size := by simp
  refine ⟨by omega, by rw [hl]; exact hi, h3, fun j h h' => ?_⟩
  by_cases e : j = i
  · subst e
    intro h5
    have e2 := byte_at s hi
    have h6 : (s.data.toList.drop j)[0]? = some c := by rw [List.getElem?_drop]; exact h5
    rw [e2] at h6
    simp at h6
    exact hc h6
  · exact h4 j h (by omega)
theorem PtAt.end' {c : UInt8} {l : List UInt8} {P : List ByteArray} {f i : Nat} (h : PtAt c l P f i) (hP : P.length ≤ 18) (hx : P.length = 18 ∨ l.length < i) : P.map tl = (spl c l).take 18 := by
  rcases h with ⟨_, h2, h3, _⟩ | ⟨_, h⟩
  · have hp : P.length = 18 := by omega
    rw [← h3, List.take_append_of_le_length (by simp [hp]), List.take_of_length_le (by simp [hp])]
  · rw [← h, List.take_of_length_le (by simpa using hP)]
set_option maxHeartbeats 4000000 in
set_option maxRecDepth 100000 in
theorem rparts_any (c : UInt8) (s : ByteArray) (hs : s.size ≤ 140737488351232) (w : World) :
    Calls Tryd.prog 79 #[.string s, .int .u8 (c.toNat : Int)] w fun e w' => ∃ (v : Value) (P : List ByteArray), e = .returned v ∧ P.map tl = (spl c s.data.toList).take 18 ∧ (∀ p ∈ P, p.size ≤ s.size) ∧ w'.ownsRow w.heap.size 9 1 v P.length (P.map .string) ∧ Below w.heap.size w w' := by
  obtain ⟨i0, hi0, hz0, hz1, hz2⟩ := info_parts info9s
  have hl : s.data.toList.length = s.size := by simp
  have HL : Hid (s.data.toList.length = s.size) := hl
  clear hl
  go_enter Tryd.func79, Tryd.ntmps79
  go_wp2_with fail
  go_loopw [5, 6, 7] (fun v fv cv wr => ∃ (P : List ByteArray) (f i : Nat), fv = .int .i64 f ∧ cv = .int .i64 i ∧ Aside (PtAt c s.data.toList P f i) ∧ Aside (∀ p ∈ P, p.size ≤ s.size) ∧ i ≤ s.size + 1 ∧ P.length ≤ 18 ∧ wr.ownsRow w.heap.size 9 1 v P.length (P.map .string) ∧ Below w.heap.size w wr) (fun _ _ cv _ => s.size + 1 - (intOf cv).toNat)
  case atStart =>
    exact ⟨[], 0, 0, rfl, rfl, .inl ⟨by omega, by omega, rfl, fun j h h' => by omega⟩, (fun p hp => by cases hp), by omega, by simp, World.ownsRow_nil _ _ _ _, Below.refl _ _⟩
  case round =>
    obtain ⟨P, f, i, rfl, rfl, A, AS, hi1, hP, hown, hB⟩ := hrel
    have HO : Hid (wr.ownsRow w.heap.size 9 1 u5 P.length (P.map .string)) := hown
    have hsz := hB.size
    obtain ⟨ba, bc, hv⟩ : ∃ ba bc, u5 = .slice ba P.length bc := by
      rcases hown.2 with ⟨rfl, e⟩ | ⟨g, cap, cur, rfl, _⟩
      · rw [e]; exact ⟨_, _, rfl⟩
      · exact ⟨_, _, rfl⟩
    clear hown
    subst hv
    by_cases hend : P.length = 18 ∨ s.size < i
    · have E : Hid (P.map tl = (spl c s.data.toList).take 18) := PtAt.end' A.out hP (by rw [HL.out]; exact hend)
      by_cases hi2 : s.size < i
      · have hi3 : ¬ ((i : Int) ≤ s.size) := by omega
        clear hend
        go_wp2_with fail
        go_ret
        exact ⟨_, rfl, P, E.out, AS.out, HO.out, hB⟩
      · have hi3 : (i : Int) ≤ s.size := by omega
        have h18 : ¬ ((P.length : Int) < 18) := by omega
        clear hend
        go_wp2_with fail
        go_ret
        exact ⟨_, rfl, P, E.out, AS.out, HO.out, hB⟩
    · have hP18 : P.length < 18 := by omega
      have h18 : (P.length : Int) < 18 := by omega
      have hi3 : (i : Int) ≤ s.size := by omega
      obtain ⟨h1, h2, h3, h4⟩ : f ≤ i ∧ i ≤ s.data.toList.length ∧ P.map tl ++ spl c (s.data.toList.drop f) = spl c s.data.toList ∧ ∀ j, f ≤ j → j < i → s.data.toList[j]? ≠ some c := by
        rcases A.out with h | ⟨h, _⟩
        · exact h
        · rw [HL.out] at h; omega
      have H3 : Hid (P.map tl ++ spl c (s.data.toList.drop f) = spl c s.data.toList) := h3
      have H4 : Hid (∀ j, f ≤ j → j < i → s.data.toList[j]? ≠ some c) := h4
      clear h3 h4 h2 A hend
      have h1' : (f : Int) ≤ i := by omega
      by_cases hie : i = s.size
      · subst hie
        have hq : ((s.size : Int) == (s.size : Int)) = true := by simp
        have HO4 : Hid ((wr.alloc (.cells #[.string (s.extract f s.size)] 9)).ownsRow w.heap.size 9 1 (.slice ba P.length bc) P.length (P.map .string)) := World.ownsRow.alloc HO.out _
        go_wp2_with (at_builtin; refine wpList_append_own _ rfl _ _ 83 rfl w.heap.size 9 i0 (.string ⟨#[]⟩) 1 16 Tryd.underlying83 hi0 hz0 hz1 hz2 rfl (by decide) _ _ _ rfl HO4.out ⟨wr.heap.size, 0, none⟩ 1 1 [.string (s.extract f s.size)] rfl rfl (one_cell wr _ 9) (by intro u hu; simp at hu; subst hu; rfl) (by unfold maxLen; omega) (by omega) (by simp; omega) ?_)
        intro v6 w6 hown6 hgrow6 _
        have hown7 : w6.ownsRow w.heap.size 9 1 v6 (P ++ [s.extract f s.size]).length ((P ++ [s.extract f s.size]).map .string) := by
          rw [List.length_append, List.map_append]; exact hown6
        have hB6 : Below w.heap.size w w6 := Below.grown (hB.alloc hB.size _) hgrow6 (by simp; omega) fun g hg => (HO.out.lt g hg).1
        have A2 : Aside (PtAt c s.data.toList (P ++ [s.extract f s.size]) (s.size + 1) (s.size + 1)) := PtAt.last h1 H3.out H4.out
        have AS2 : Aside (∀ p ∈ P ++ [s.extract f s.size], p.size ≤ s.size) := fun p hp => by
          rcases List.mem_append.1 hp with hp | hp
          · exact AS.out p hp
          · simp at hp; subst hp; rw [ByteArray.size_extract]; omega
        clear hown6 hgrow6 HO HO4
        go_wp2_with fail
        exact ⟨⟨P ++ [s.extract f s.size], s.size + 1, s.size + 1, by go_num, by go_num, A2, AS2, by omega, by simp; omega, hown7, hB6⟩, by simp only [intOf]; omega⟩
      · have hlt : i < s.size := by omega
        have hq : ((i : Int) == (s.size : Int)) = false := beq_eq_false_iff_ne.2 (by omega)
        by_cases hc : s[i] = c
        · have hcq : (((s[i]).toNat : Int) == (c.toNat : Int)) = true := by rw [hc]; simp
          have A2 : Aside (PtAt c s.data.toList (P ++ [s.extract f i]) (i + 1) (i + 1)) := PtAt.cut h1 hlt hc H3.out H4.out
          have AS2 : Aside (∀ p ∈ P ++ [s.extract f i], p.size ≤ s.size) := fun p hp => by
            rcases List.mem_append.1 hp with hp | hp
            · exact AS.out p hp
            · simp at hp; subst hp; rw [ByteArray.size_extract]; omega
          have HO4 : Hid ((wr.alloc (.cells #[.string (s.extract f i)] 9)).ownsRow w.heap.size 9 1 (.slice ba P.length bc) P.length (P.map .string)) := World.ownsRow.alloc HO.out _
          clear hc hie
          go_wp2_with (at_builtin; refine wpList_append_own _ rfl _ _ 83 rfl w.heap.size 9 i0 (.string ⟨#[]⟩) 1 16 Tryd.underlying83 hi0 hz0 hz1 hz2 rfl (by decide) _ _ _ rfl HO4.out ⟨wr.heap.size, 0, none⟩ 1 1 [.string (s.extract f i)] rfl rfl (one_cell wr _ 9) (by intro u hu; simp at hu; subst hu; rfl) (by unfold maxLen; omega) (by omega) (by simp; omega) ?_)
          intro v6 w6 hown6 hgrow6 _
          have hown7 : w6.ownsRow w.heap.size 9 1 v6 (P ++ [s.extract f i]).length ((P ++ [s.extract f i]).map .string) := by
            rw [List.length_append, List.map_append]; exact hown6
          have hB6 : Below w.heap.size w w6 := Below.grown (hB.alloc hB.size _) hgrow6 (by simp; omega) fun g hg => (HO.out.lt g hg).1
          clear hown6 hgrow6 HO HO4
          go_wp2_with fail
          exact ⟨⟨P ++ [s.extract f i], i + 1, i + 1, by go_num, by go_num, A2, AS2, by omega, by simp; omega, hown7, hB6⟩, by simp only [intOf]; omega⟩
        · have hcq : (((s[i]).toNat : Int) == (c.toNat : Int)) = false := beq_eq_false_iff_ne.2 (fun e => hc (UInt8.toNat_inj.1 (by omega)))
          have A2 : Aside (PtAt c s.data.toList P f (i + 1)) := PtAt.on h1 hlt hc H3.out H4.out
          clear hc hie
          go_wp2_with fail
          exact ⟨⟨P, f, i + 1, rfl, by go_num, A2, AS, by omega, by omega, HO.out, hB⟩, by simp only [intOf]; omega⟩
end Go.Proofs.YtjkpdcgmmdimaaaDoor
namespace Go.Proofs.YtjkpdcgmmdimaaaDoor
open Go.RowKit
set_option linter.unusedVariables false
set_option linter.unusedSimpArgs false

/-- What bytes answers. -/
def byA (l : List UInt8) (wd : Int) : ByteArray × Bool := match byL l wd with | none => (⟨#[]⟩, false) | some bs => (⟨bs.toArray⟩, true)
theorem strs_row {w : World} {base n : Nat} {v : Value} {P : List ByteArray} (h : w.ownsRow base 9 1 v P.length (P.map .string)) (hn : P.length = n) (hP : 1 ≤ n) : ∃ g cap, v = .slice (some ⟨g, 0, none⟩) n cap ∧ base ≤ g ∧ g < w.heap.size ∧ ∀ j p, P[j]? = some p → w.cell? ⟨g, j, none⟩ = some (.string p) := by
  obtain ⟨_, h2⟩ := h
  rcases h2 with ⟨_, h0⟩ | ⟨g, cap, cur, rfl, hb, hg, hcap, _, hsz, ht⟩
  · omega
  · refine ⟨g, cap, by rw [hn], hb, (Array.getElem?_eq_some_iff.1 hg).1, fun j p hj => ?_⟩
    have hjl := (List.getElem?_eq_some_iff.1 hj).1
    rw [cell_of_row w g j _ _ _ hg]
    have h3 : (cur.toList.take (P.length * 1))[j]? = (P.map Value.string)[j]? := by rw [ht]
    rw [List.getElem?_take, if_pos (by omega), List.getElem?_map, hj] at h3
    rw [show cur[j]? = cur.toList[j]? by simp, h3]; rfl
theorem pieces_len {c : UInt8} {l : List UInt8} {P : List ByteArray} (h : P.map tl = (spl c l).take 18) : P.length = min 18 (spl c l).length := by
  have := congrArg List.length h; simpa using this
theorem pieces_all {c : UInt8} {l : List UInt8} {P : List ByteArray} (h : P.map tl = (spl c l).take 18) (hl : (spl c l).length ≤ 18) : P.map tl = spl c l := by
  rw [h, List.take_of_length_le hl]
theorem take_map {α β : Type} (f : α → β) (P : List α) {k : Nat} {p : α} (h : P[k]? = some p) : (P.take (k + 1)).map f = (P.take k).map f ++ [f p] := by
  obtain ⟨hk, e⟩ := List.getElem?_eq_some_iff.1 h
  rw [List.take_succ_eq_append_getElem hk, List.map_append, e]; rfl
theorem lo_small {v : Nat} (h : v < 256) : IntKind.u8.wrap (loOf v) = ((UInt8.ofNat v).toNat : Int) := by
  unfold loOf
  rw [Nat.mod_eq_of_lt (by omega)]
  have : (UInt8.ofNat v).toNat = v := by simp [UInt8.toNat_ofNat', Nat.mod_eq_of_lt h]
  rw [this]
  simp [IntKind.wrap, IntKind.signed, IntKind.bits]; omega
theorem pdot_no {p : List UInt8} (h : nuN 10 p = none) : pdot p = none := by unfold pdot; rw [h]
theorem pdot_big {p : List UInt8} {v : Nat} (h : nuN 10 p = some v) (hv : ¬ v < 256) : pdot p = none := by unfold pdot; rw [h]; exact if_neg hv
theorem pdot_yes {p : List UInt8} {v : Nat} (h : nuN 10 p = some v) (hv : v < 256) : pdot p = some (UInt8.ofNat v) := by unfold pdot; rw [h]; exact if_pos hv
set_option maxHeartbeats 4000000 in
set_option maxRecDepth 100000 in
theorem rby_dots (s : ByteArray) (hs : s.size ≤ 140737488351232) (h4 : (spl 46 s.data.toList).length = 4) (w : World) :
    Calls Tryd.prog 67 #[.string s, .int .i64 32] w fun e w' => e = .returned (.tuple #[.string (byA s.data.toList 32).1, .bool (byA s.data.toList 32).2]) ∧ Below w.heap.size w w' := by
  obtain ⟨i0, hi, hz0, hz1, hz2⟩ := info_parts info5
  have EN : Hid (∀ p ∈ spl 46 s.data.toList, pdot p = none → byA s.data.toList 32 = (⟨#[]⟩, false)) := fun p hp h => by
    unfold byA byL; rw [if_pos ⟨h4, rfl⟩, seqO_none p hp h]
  have EY : Hid (∀ bs : List UInt8, (spl 46 s.data.toList).map pdot = bs.map some → byA s.data.toList 32 = (⟨bs.toArray⟩, true)) := fun bs h => by
    unfold byA byL; rw [if_pos ⟨h4, rfl⟩, seqO_some h]
  have C79 : Hid (∀ w, Calls Tryd.prog 79 #[.string s, .int .u8 46] w fun e w' => ∃ (v : Value) (P : List ByteArray), e = .returned v ∧ P.map tl = (spl 46 s.data.toList).take 18 ∧ (∀ p ∈ P, p.size ≤ s.size) ∧ w'.ownsRow w.heap.size 9 1 v P.length (P.map .string) ∧ Below w.heap.size w w') := fun w => rparts_any 46 s hs w
  go_enter Tryd.func67, Tryd.ntmps67
  go_wp2_with fail
  refine (C79.out _).mono ?_
  rintro e w1 ⟨v, P, rfl, hp, hps, hown, hb1⟩
  have hp2 := pieces_all hp (by omega)
  have hlen : P.length = 4 := by have := pieces_len hp; omega
  obtain ⟨g, cap, rfl, hg0, hg1, hc⟩ := strs_row hown hlen (by omega)
  have HP2 : Hid (P.map tl = spl 46 s.data.toList) := hp2
  have HPS : Hid (∀ p ∈ P, p.size ≤ s.size) := hps
  have HC : Hid (∀ j p, P[j]? = some p → w1.cell? ⟨g, j, none⟩ = some (.string p)) := hc
  clear hp hp2 hps hown hc C79
  go_wp2_with fail
  go_loopw [6, 8] (fun v cv wr => ∃ (k : Nat) (bs : List UInt8), k ≤ 4 ∧ cv = .int .i64 k ∧ Aside ((P.take k).map (fun p => pdot (tl p)) = bs.map some) ∧ bs.length = k ∧ wr.ownsRow w1.heap.size 5 1 v bs.length (cells8 bs) ∧ Below w1.heap.size w1 wr) (fun _ cv _ => 4 - (intOf cv).toNat)
  case atStart => exact ⟨0, [], by omega, rfl, rfl, rfl, World.ownsRow_nil _ _ _ _, Below.refl _ _⟩
  case round =>
    obtain ⟨k, bs, hk, rfl, A, hbl, hown, hB⟩ := hrel
    have hsz := hB.size
    have HO : Hid (wr.ownsRow w1.heap.size 5 1 u6 bs.length (cells8 bs)) := hown
    by_cases hlt : k < 4
    · have hlt' : (k : Int) < 4 := by omega
      obtain ⟨p, hpk⟩ : ∃ p, P[k]? = some p := ⟨_, List.getElem?_eq_getElem (by omega)⟩
      have hcell : wr.cell? ⟨g, k, none⟩ = some (.string p) := by rw [hB.cell (p := ⟨g, k, none⟩) hg1]; exact HC.out k p hpk
      have hmem : p ∈ P := List.mem_of_getElem? hpk
      have hmem2 : tl p ∈ spl 46 s.data.toList := by rw [← HP2.out]; exact List.mem_map.2 ⟨p, hmem, rfl⟩
      have hpsz := HPS.out p hmem
      have C66 : Hid (∀ w, Calls Tryd.prog 66 #[.string p, .int .i64 10] w fun e w' => ∃ x f ok, e = .returned (.tuple #[B x, .bool f, .bool ok]) ∧ NuR 10 p.data.toList x f ok ∧ Below w.heap.size w w') := fun w => rnumber_any 10 (by decide) (by decide) p (by unfold maxLen; omega) w
      have HPK : Hid (P[k]? = some p) := hpk
      have HM : Hid (tl p ∈ spl 46 s.data.toList) := hmem2
      clear hpk hmem hmem2 hown hpsz
      go_wp2_with fail
      refine (C66.out _).mono ?_
      rintro e w2 ⟨x, f, ok, rfl, hN, hb2⟩
      have hB2 := (bstep hB hb2).alloc (bstep hB hb2).size (.cells #[.int .u64 (hiOf x), .int .u64 (loOf x)] 24)
      have K2 := Wds.new w2 (hiOf x) (loOf x)
      have HO2 : Hid (w2.ownsRow w1.heap.size 5 1 u6 bs.length (cells8 bs)) := ownsRow_below HO.out hb2
      have hsz2 := (bstep hB hb2).size
      have hfin := bstep hb1 hB2
      clear C66 hb2 HO hcell
      rcases hN with ⟨hn, rfl, rfl, rfl⟩ | ⟨n, hn, rfl, rfl, hx, hxn⟩
      · have E : Hid _ := EN.out (tl p) HM.out (pdot_no hn)
        clear hn
        go_wp2_with fail
        go_ret2
        exact ⟨by rw [E.out]; rfl, hfin⟩
      · cases hbig : bigB n
        · obtain rfl : x = n := hxn hbig
          have C20 : Hid (∀ w, Calls Tryd.prog 20 #[B x, .agg #[.int .u64 0, .int .u64 255]] w fun e w' => e = .returned (.int .i64 (cmpN x 255)) ∧ Below w.heap.size w w') := fun w => rcompare_any x 255 hx (by unfold Is128; decide) w
          obtain ⟨k0, k1, _, _⟩ := id K2
          by_cases hv : x < 256
          · have hcm : ¬ (0 < cmpN x 255) := by unfold cmpN; split <;> (try split) <;> omega
            have HY : Hid (pdot (tl p) = some (UInt8.ofNat x)) := pdot_yes hn hv
            have hlo := lo_small hv
            generalize cmpN x 255 = cm at *
            clear hn hxn hbig hx
            go_wp2_with fail
            refine (C20.out _).mono ?_
            rintro e w3 ⟨rfl, hb3⟩
            have K3 := K2.below hb3 K2.lt
            have hB3 := bstep hB2 hb3
            have HO3 : Hid (w3.ownsRow w1.heap.size 5 1 u6 bs.length (cells8 bs)) := ownsRow_below (HO2.out.alloc _) hb3
            have hsz3 := hB3.size
            clear k0 k1 K2 hB2 hb3 HO2 hfin
            obtain ⟨k0, k1, _, _⟩ := id K3
            have HO4 : Hid ((w3.alloc (.cells #[.int .u8 ((UInt8.ofNat x).toNat : Int)] 5)).ownsRow w1.heap.size 5 1 u6 bs.length (cells8 bs)) := World.ownsRow.alloc HO3.out _
            go_wp2_with (at_builtin; refine wpList_append_own _ rfl _ _ 57 rfl w1.heap.size 5 i0 (.int .u8 0) 1 1 Tryd.underlying57 hi hz0 hz1 hz2 rfl (by decide) _ _ _ rfl HO4.out ⟨w3.heap.size, 0, none⟩ 1 1 [.int .u8 ((UInt8.ofNat x).toNat : Int)] rfl rfl (one_cell w3 _ 5) (by intro u hu; simp at hu; subst hu; rfl) (by unfold maxLen; omega) (by omega) (by simp; omega) ?_)
            intro v6 w6 hown6 hgrow6 _
            have hown7 : w6.ownsRow w1.heap.size 5 1 v6 (bs ++ [UInt8.ofNat x]).length (cells8 (bs ++ [UInt8.ofNat x])) := by
              have e8 : ((UInt8.ofNat x).toNat : Int) = (x : Int) % 256 := by simp [UInt8.toNat_ofNat']
              rw [List.length_append, cells8_snoc, hbl, e8]; exact hown6
            have hB6 : Below w1.heap.size w1 w6 := Below.grown (hB3.alloc hB3.size _) hgrow6 (by simp; omega) fun g hg => (HO3.out.lt g hg).1
            have A2 : Aside ((P.take (k + 1)).map (fun p => pdot (tl p)) = (bs ++ [UInt8.ofNat x]).map some) := by
              show _ = _
              rw [take_map _ P HPK.out, A.out, HY.out, List.map_append]; rfl
            clear hown6 hgrow6 HO3 HO4
            go_wp2_with fail
            exact ⟨⟨k + 1, bs ++ [UInt8.ofNat x], by omega, by go_num, A2, by simp [hbl], hown7, hB6⟩, by simp only [intOf]; omega⟩
          · have hcm : 0 < cmpN x 255 := by unfold cmpN; split <;> (try split) <;> omega
            have E : Hid _ := EN.out (tl p) HM.out (pdot_big hn hv)
            generalize cmpN x 255 = cm at *
            clear hn hxn hbig hx hv
            go_wp2_with fail
            refine (C20.out _).mono ?_
            rintro e w3 ⟨rfl, hb3⟩
            have hfin3 := bstep hfin hb3
            clear hb3
            go_wp2_with fail
            go_ret2
            exact ⟨by rw [E.out]; rfl, hfin3⟩
        · have hv : ¬ n < 256 := by unfold bigB at hbig; simp only [decide_eq_true_eq] at hbig; omega
          have E : Hid _ := EN.out (tl p) HM.out (pdot_big hn hv)
          clear hn hxn hx hv
          go_wp2_with fail
          go_ret2
          exact ⟨by rw [E.out]; rfl, hfin⟩
    · have hk4 : k = 4 := by omega
      subst hk4
      have hcv := conv_owned hown rfl (by omega)
      have E : Hid (byA s.data.toList 32 = (⟨bs.toArray⟩, true)) := EY.out bs (by
        rw [← HP2.out, List.map_map, ← A.out, List.take_of_length_le (by omega)]; rfl)
      have hfin := bstep hb1 hB
      clear hown A
      go_wp2_with fail
      go_ret2
      exact ⟨by rw [E.out]; rfl, hfin⟩
end Go.Proofs.YtjkpdcgmmdimaaaDoor
namespace Go.Proofs.YtjkpdcgmmdimaaaDoor
open Go.RowKit
set_option linter.unusedVariables false
set_option linter.unusedSimpArgs false

theorem byA_no {l : List UInt8} {wd : Int} (h4 : ¬ ((spl 46 l).length = 4 ∧ wd = 32)) (h : ¬ (hasC wd = true ∧ ((spl 58 l).length : Int) = wd / 8)) : byA l wd = (⟨#[]⟩, false) := by
  unfold byA byL; rw [if_neg h4, if_neg h]
theorem byA_none {l : List UInt8} {wd : Int} (h4 : ¬ ((spl 46 l).length = 4 ∧ wd = 32)) (h : hasC wd = true ∧ ((spl 58 l).length : Int) = wd / 8) (p : List UInt8) (hp : p ∈ spl 58 l) (hn : pcol p = none) : byA l wd = (⟨#[]⟩, false) := by
  unfold byA byL; rw [if_neg h4, if_pos h, seqO_none p hp hn]
theorem byA_some {l : List UInt8} {wd : Int} (h4 : ¬ ((spl 46 l).length = 4 ∧ wd = 32)) (h : hasC wd = true ∧ ((spl 58 l).length : Int) = wd / 8) {bs : List UInt8} (hn : (spl 58 l).map pcol = bs.map some) : byA l wd = (⟨bs.toArray⟩, true) := by
  unfold byA byL; rw [if_neg h4, if_pos h, seqO_some hn]
theorem pcol_len {p : List UInt8} (h : p.length ≠ 2) : pcol p = none := by
  unfold pcol; split
  · simp at h
  · rfl
theorem pcol_fst {a b : UInt8} (h : worth 16 a = none) : pcol [a, b] = none := by unfold pcol; simp [h]
theorem pcol_snd {a b : UInt8} (h : worth 16 b = none) : pcol [a, b] = none := by
  unfold pcol; simp only [h]; cases worth 16 a <;> rfl
theorem pcol_two {a b : UInt8} {x y : Nat} (h : worth 16 a = some x) (h' : worth 16 b = some y) : pcol [a, b] = some (UInt8.ofNat (16 * x + y)) := by unfold pcol; simp only [h, h']
theorem two_bytes (p : ByteArray) (h : p.size = 2) : tl p = [p[0]'(by omega), p[1]'(by omega)] := by
  obtain ⟨⟨l⟩⟩ := p
  match l, h with
  | [a, b], _ => rfl
theorem worthI_some {c : UInt8} {d : Nat} (h : worth 16 c = some d) : worthI 16 c = (d : Int) := by unfold worthI; rw [h]
theorem worthI_none {c : UInt8} (h : worth 16 c = none) : worthI 16 c = -1 := by unfold worthI; rw [h]
theorem byte16 {x y : Nat} (hx : x < 16) (hy : y < 16) : IntKind.u8.wrap (16 * (x : Int) + y) = ((UInt8.ofNat (16 * x + y)).toNat : Int) := by
  have : (UInt8.ofNat (16 * x + y)).toNat = 16 * x + y := by simp [UInt8.toNat_ofNat']; omega
  rw [this]
  simp [IntKind.wrap, IntKind.signed, IntKind.bits]; omega
set_option maxHeartbeats 4000000 in
set_option maxRecDepth 100000 in
theorem rby_cols (s : ByteArray) (hs : s.size ≤ 140737488351232) (wd : Int) (h4 : ¬ ((spl 46 s.data.toList).length = 4 ∧ wd = 32)) (w : World) :
    Calls Tryd.prog 67 #[.string s, .int .i64 wd] w fun e w' => e = .returned (.tuple #[.string (byA s.data.toList wd).1, .bool (byA s.data.toList wd).2]) ∧ Below w.heap.size w w' := by
  obtain ⟨i0, hi, hz0, hz1, hz2⟩ := info_parts info5
  have C46 : Hid (∀ w, Calls Tryd.prog 79 #[.string s, .int .u8 46] w fun e w' => ∃ (v : Value) (P : List ByteArray), e = .returned v ∧ P.map tl = (spl 46 s.data.toList).take 18 ∧ (∀ p ∈ P, p.size ≤ s.size) ∧ w'.ownsRow w.heap.size 9 1 v P.length (P.map .string) ∧ Below w.heap.size w w') := fun w => rparts_any 46 s hs w
  have C58 : Hid (∀ w, Calls Tryd.prog 79 #[.string s, .int .u8 58] w fun e w' => ∃ (v : Value) (P : List ByteArray), e = .returned v ∧ P.map tl = (spl 58 s.data.toList).take 18 ∧ (∀ p ∈ P, p.size ≤ s.size) ∧ w'.ownsRow w.heap.size 9 1 v P.length (P.map .string) ∧ Below w.heap.size w w') := fun w => rparts_any 58 s hs w
  have C63 : Hid (∀ w, Calls Tryd.prog 63 #[.int .i64 wd, .int .i64 5] w fun e w' => e = .returned (.bool (hasC wd)) ∧ w' = w) := fun w => rhas_any wd 5 (by decide) w
  have C78 : Hid (∀ (c : UInt8) (w : World), Calls Tryd.prog 78 #[.int .u8 (c.toNat : Int), .int .i64 16] w fun e w' => e = .returned (.int .i64 (worthI 16 c)) ∧ w' = w) := fun c w => worth_any 16 c (by decide) w
  have H4 : Hid (¬ ((spl 46 s.data.toList).length = 4 ∧ wd = 32)) := h4
  clear h4
  go_enter Tryd.func67, Tryd.ntmps67
  go_wp2_with fail
  refine (C46.out _).mono ?_
  rintro e w0 ⟨v0, P0, rfl, hp0, _, hown0, hb0⟩
  have hl0 := pieces_len hp0
  have hs1 := spl_pos 46 s.data.toList
  obtain ⟨g0, cap0, rfl, _, _, _⟩ := strs_row hown0 rfl (by omega)
  have hcond : (((P0.length : Int) == 4) = true ∧ (wd == 32) = false) ∨ ((P0.length : Int) == 4) = false := by
    by_cases h : (P0.length : Int) = 4
    · left; refine ⟨by simpa using h, ?_⟩
      simp only [beq_eq_false_iff_ne]; intro e
      exact H4.out ⟨by omega, e⟩
    · right; simpa using h
  generalize P0.length = n0 at *
  clear hp0 hown0 hl0 hs1
  have CUT : Hid (Calls Tryd.prog 79 #[.string s, .int .u8 58] w0 fun e w' => ∃ (v : Value) (P : List ByteArray), e = .returned v ∧ P.map tl = (spl 58 s.data.toList).take 18 ∧ (∀ p ∈ P, p.size ≤ s.size) ∧ w'.ownsRow w0.heap.size 9 1 v P.length (P.map .string) ∧ Below w0.heap.size w0 w') := C58.out w0
  rcases hcond with ⟨hc1, hc2⟩ | hc1
  all_goals
    go_wp2_with fail
    refine (CUT.out).mono ?_
    rintro e w1 ⟨v1, P, rfl, hp, hps, hown, hb1⟩
    have hln := pieces_len hp
    have hs2 := spl_pos 58 s.data.toList
    obtain ⟨g, cap, rfl, hg0, hg1, hc⟩ := strs_row hown rfl (by omega)
    have hb01 := bstep hb0 hb1
    have HPS : Hid (∀ p ∈ P, p.size ≤ s.size) := hps
    have HC : Hid (∀ j p, P[j]? = some p → w1.cell? ⟨g, j, none⟩ = some (.string p)) := hc
    have HP : Hid (P.map tl = (spl 58 s.data.toList).take 18) := hp
    have HLN : Hid (P.length = min 18 (spl 58 s.data.toList).length) := hln
    clear hp hps hown hc hb0 hb1 C46 C58 CUT hln hs2
    cases hC : hasC wd
    · have E : Hid _ := byA_no H4.out (by rw [hC]; simp)
      have C63' : Hid (∀ w, Calls Tryd.prog 63 #[.int .i64 wd, .int .i64 5] w fun e w' => e = .returned (.bool false) ∧ w' = w) := by rw [hC] at C63; exact C63
      clear C63
      go_wp2_with fail
      refine (C63'.out _).mono ?_
      rintro e w2 ⟨rfl, e2⟩
      obtain rfl := Eq.symm e2
      go_wp2_with fail
      go_ret2
      exact ⟨by rw [E.out]; rfl, hb01⟩
    have C63' : Hid (∀ w, Calls Tryd.prog 63 #[.int .i64 wd, .int .i64 5] w fun e w' => e = .returned (.bool true) ∧ w' = w) := by rw [hC] at C63; exact C63
    obtain ⟨hW, _, k2, k16, ek, e8⟩ := hasC_q hC
    have hbd := isW_bounds hW
    clear C63
    by_cases hlen : ((spl 58 s.data.toList).length : Int) = wd / 8
    · have HB : Hid (hasC wd = true ∧ ((spl 58 s.data.toList).length : Int) = wd / 8) := ⟨hC, hlen⟩
      have hPl : P.length = (spl 58 s.data.toList).length := by rw [HLN.out]; omega
      have HP2 : Hid (P.map tl = spl 58 s.data.toList) := pieces_all HP.out (by omega)
      have hne : ((P.length : Int) != wd / 8) = false := by rw [hPl]; simpa using hlen
      have hP16 : P.length ≤ 16 := by omega
      have hP1 : 1 ≤ P.length := by omega
      clear hlen hPl HP HLN hW ek e8 k2 k16
      go_wp2_with fail
      refine (C63'.out _).mono ?_
      rintro e w2 ⟨rfl, e2⟩
      obtain rfl := Eq.symm e2
      go_wp2_with fail
      clear hne
      go_loopw [6, 13] (fun v cv wr => ∃ (k : Nat) (bs : List UInt8), k ≤ P.length ∧ cv = .int .i64 k ∧ Aside ((P.take k).map (fun p => pcol (tl p)) = bs.map some) ∧ bs.length = k ∧ wr.ownsRow w1.heap.size 5 1 v bs.length (cells8 bs) ∧ Below w1.heap.size w1 wr) (fun _ cv _ => P.length - (intOf cv).toNat)
      case atStart => exact ⟨0, [], by omega, rfl, rfl, rfl, World.ownsRow_nil _ _ _ _, Below.refl _ _⟩
      case round =>
        obtain ⟨k, bs, hk, rfl, A, hbl, hown, hB⟩ := hrel
        have hsz := hB.size
        have hfin := bstep hb01 hB
        have HO : Hid (wr.ownsRow w1.heap.size 5 1 u6 bs.length (cells8 bs)) := hown
        by_cases hlt : k < P.length
        · have hlt' : (k : Int) < P.length := by omega
          obtain ⟨p, hpk⟩ : ∃ p, P[k]? = some p := ⟨_, List.getElem?_eq_getElem hlt⟩
          have hcell : wr.cell? ⟨g, k, none⟩ = some (.string p) := by rw [hB.cell (p := ⟨g, k, none⟩) hg1]; exact HC.out k p hpk
          have hmem : p ∈ P := List.mem_of_getElem? hpk
          have HM : Hid (tl p ∈ spl 58 s.data.toList) := by show _ ∈ _; rw [← HP2.out]; exact List.mem_map.2 ⟨p, hmem, rfl⟩
          have HPK : Hid (P[k]? = some p) := hpk
          have hpsz := HPS.out p hmem
          clear hpk hmem hown
          by_cases h2 : p.size = 2
          · have h0p : 0 < p.size := by omega
            have h1p : 1 < p.size := by omega
            have HT2 : Hid (tl p = [p[0], p[1]]) := two_bytes p h2
            have h2' : ((p.size : Int) != 2) = false := by simp [h2]
            clear h2 hpsz
            cases ha : worth 16 (p[0]) with
            | none =>
              have E : Hid _ := byA_none H4.out HB.out (tl p) HM.out (by rw [HT2.out]; exact pcol_fst ha)
              have C0 : Hid (∀ w : World, Calls Tryd.prog 78 #[.int .u8 ((p[0]).toNat : Int), .int .i64 16] w fun e w' => e = .returned (.int .i64 (-1)) ∧ w' = w) := by rw [← worthI_none ha]; exact C78.out (p[0])
              clear ha
              go_wp2_with fail
              refine (C0.out _).mono ?_
              rintro e w3 ⟨rfl, e3⟩
              obtain rfl := Eq.symm e3
              go_wp2_with fail
              go_ret2
              exact ⟨by rw [E.out]; rfl, hfin⟩
            | some x =>
              have C0 : Hid (∀ w : World, Calls Tryd.prog 78 #[.int .u8 ((p[0]).toNat : Int), .int .i64 16] w fun e w' => e = .returned (.int .i64 (x : Int)) ∧ w' = w) := by rw [← worthI_some ha]; exact C78.out (p[0])
              have hx := (worth_some ha).1
              have hx' : ¬ ((x : Int) < 0) := by omega
              cases hb : worth 16 (p[1]) with
              | none =>
                have E : Hid _ := byA_none H4.out HB.out (tl p) HM.out (by rw [HT2.out]; exact pcol_snd hb)
                have C1 : Hid (∀ w : World, Calls Tryd.prog 78 #[.int .u8 ((p[1]).toNat : Int), .int .i64 16] w fun e w' => e = .returned (.int .i64 (-1)) ∧ w' = w) := by rw [← worthI_none hb]; exact C78.out (p[1])
                clear ha hb
                go_wp2_with fail
                refine (C0.out _).mono ?_
                rintro e w3 ⟨rfl, e3⟩
                obtain rfl := Eq.symm e3
                go_wp2_with fail
                refine (C1.out _).mono ?_
                rintro e w3 ⟨rfl, e3⟩
                obtain rfl := Eq.symm e3
                go_wp2_with fail
                go_ret2
                exact ⟨by rw [E.out]; rfl, hfin⟩
              | some y =>
                have C1 : Hid (∀ w : World, Calls Tryd.prog 78 #[.int .u8 ((p[1]).toNat : Int), .int .i64 16] w fun e w' => e = .returned (.int .i64 (y : Int)) ∧ w' = w) := by rw [← worthI_some hb]; exact C78.out (p[1])
                have wa := worthI_some ha
                have wb := worthI_some hb
                have hy := (worth_some hb).1
                have hy' : ¬ ((y : Int) < 0) := by omega
                have HY : Hid (pcol (tl p) = some (UInt8.ofNat (16 * x + y))) := by show _ = _; rw [HT2.out]; exact pcol_two ha hb
                have hcv := byte16 hx hy
                have hm16 : IntKind.i64.wrap (16 * (x : Int)) = 16 * (x : Int) := by rw [IntKind.wrap_i64]; omega
                have hs16 : IntKind.i64.wrap (16 * (x : Int) + y) = 16 * (x : Int) + y := by rw [IntKind.wrap_i64]; omega
                obtain ⟨z, hz⟩ : ∃ z : UInt8, UInt8.ofNat (16 * x + y) = z := ⟨_, rfl⟩
                rw [hz] at hcv HY
                have HO4 : Hid ((wr.drew.alloc (.cells #[.int .u8 (z.toNat : Int)] 5)).ownsRow w1.heap.size 5 1 u6 bs.length (cells8 bs)) := World.ownsRow.alloc (w := wr.drew) HO.out _
                clear ha hb hz
                go_wp2_with fail
                refine (C0.out _).mono ?_
                rintro e w3 ⟨rfl, e3⟩
                obtain rfl := Eq.symm e3
                go_wp2_with fail
                refine (C1.out _).mono ?_
                rintro e w3 ⟨rfl, e3⟩
                obtain rfl := Eq.symm e3
                go_wp2_with fail
                go_region_law (first
                  | (refine step_append_own rfl (.tmp 98) (.tmp 114) 57 rfl w1.heap.size 5 i0 (.int .u8 0) 1 1 Tryd.underlying57 hi hz0 hz1 hz2 rfl (by decide) _ _ _ rfl HO4.out ⟨wr.heap.size, 0, none⟩ 1 1 [.int .u8 (z.toNat : Int)] rfl rfl (one_cell wr.drew _ 5) (by intro u hu; simp at hu; subst hu; rfl) (by unfold maxLen; omega) (by omega) (by simp; omega) ?_; intro v6 w6 hown6 hgrow6)
                  | (go_simp; refine (C78.out _ _).mono ?_; rintro e w3 ⟨rfl, e3⟩; obtain rfl := Eq.symm e3))
                all_goals
                  have hown7 : w6.ownsRow w1.heap.size 5 1 v6 (bs ++ [z]).length (cells8 (bs ++ [z])) := by
                    rw [List.length_append, cells8_snoc]; exact hown6
                  have hB6 : Below w1.heap.size w1 w6 := Below.grown (hB.drew.alloc hB.drew.size _) hgrow6 (by simp; omega) fun g hg => (HO.out.lt g hg).1
                  have A2 : Aside ((P.take (k + 1)).map (fun p => pcol (tl p)) = (bs ++ [z]).map some) := by
                    show _ = _
                    rw [take_map _ P HPK.out, A.out, List.map_append]
                    rw [HY.out]; rfl
                  clear hown6 hgrow6 HO4
                  go_wp2_with fail
                  exact ⟨⟨k + 1, bs ++ [z], by omega, by go_num, A2, by simp [hbl], hown7, hB6⟩, by simp only [intOf]; omega⟩
          · have h2' : ((p.size : Int) != 2) = true := by simp; omega
            have E : Hid _ := byA_none H4.out HB.out (tl p) HM.out (pcol_len (by simpa using h2))
            clear h2
            go_wp2_with fail
            go_ret2
            exact ⟨by rw [E.out]; rfl, hfin⟩
        · have hke : k = P.length := by omega
          have hlt' : ¬ (k : Int) < P.length := by omega
          have hcv := conv_owned hown rfl (by omega)
          have E : Hid (byA s.data.toList wd = (⟨bs.toArray⟩, true)) := byA_some H4.out HB.out (by
            rw [← HP2.out, List.map_map, ← A.out, List.take_of_length_le (by omega)]; rfl)
          clear hown A hke
          go_wp2_with fail
          go_ret2
          exact ⟨by rw [E.out]; rfl, hfin⟩
    · have E : Hid _ := byA_no H4.out (fun h => hlen h.2)
      have hne : ((P.length : Int) != wd / 8) = true := by
        have := HLN.out
        simp only [bne_iff_ne, ne_eq]
        intro e; apply hlen; omega
      clear hlen ek e8 k2 k16 hW
      go_wp2_with fail
      refine (C63'.out _).mono ?_
      rintro e w2 ⟨rfl, e2⟩
      obtain rfl := Eq.symm e2
      go_wp2_with fail
      go_ret2
      exact ⟨by rw [E.out]; rfl, hb01⟩
theorem rby_any (s : ByteArray) (hs : s.size ≤ 140737488351232) (wd : Int) (w : World) :
    Calls Tryd.prog 67 #[.string s, .int .i64 wd] w fun e w' => e = .returned (.tuple #[.string (byA s.data.toList wd).1, .bool (byA s.data.toList wd).2]) ∧ Below w.heap.size w w' := by
  by_cases h4 : (spl 46 s.data.toList).length = 4 ∧ wd = 32
  · obtain ⟨h4, rfl⟩ := h4
    exact rby_dots s hs h4 w
  · exact rby_cols s hs wd h4 w
end Go.Proofs.YtjkpdcgmmdimaaaDoor
namespace Go.Proofs.YtjkpdcgmmdimaaaDoor
open Go.RowKit
set_option linter.unusedVariables false
set_option linter.unusedSimpArgs false

theorem rp_no {l : List UInt8} {wd : Int} (h : isW wd = false) : rpR l wd = (0, 10) := by unfold rpR; rw [h]; rfl
theorem rp_big {l : List UInt8} {wd : Int} {v : Nat} (h : isW wd = true) (hn : nuN (baseL l) (restL l) = some v) (hb : bigB v = true) : rpR l wd = (0, 11) := by
  unfold rpR; rw [if_pos h, hn]; unfold bigB at hb; simp only [decide_eq_true_eq] at hb
  exact if_neg (fun e => by omega)
theorem rp_fit {l : List UInt8} {wd : Int} {v : Nat} (h : isW wd = true) (hn : nuN (baseL l) (restL l) = some v) (hb : bigB v = false) : rpR l wd = if fitsN v wd = true then (v, 0) else (0, 11) := by
  unfold rpR; rw [if_pos h, hn]; unfold bigB at hb; simp only [decide_eq_false_iff_not] at hb
  have : v < 340282366920938463463374607431768211456 := by omega
  cases hf : fitsN v wd <;> simp [this, hf]
theorem rp_none {l : List UInt8} {wd : Int} (h : isW wd = true) (hn : nuN (baseL l) (restL l) = none) (hb : (byA l wd).2 = false) : rpR l wd = (0, 12) := by
  unfold rpR; rw [if_pos h, hn]; unfold byA at hb
  cases hy : byL l wd with
  | none => rfl
  | some bs => rw [hy] at hb; cases hb
theorem rp_some {l : List UInt8} {wd : Int} (h : isW wd = true) (hn : nuN (baseL l) (restL l) = none) (hb : (byA l wd).2 = true) : rpR l wd = frR (byA l wd).1.data.toList wd := by
  unfold rpR; rw [if_pos h, hn]; unfold byA at hb ⊢
  cases hy : byL l wd with
  | none => rw [hy] at hb; cases hb
  | some bs => rfl
theorem byA_size (l : List UInt8) (wd : Int) : (byA l wd).1.size ≤ 1000 := by
  unfold byA
  cases hy : byL l wd with
  | none => show (0 : Nat) ≤ 1000; omega
  | some bs =>
    show bs.toArray.size ≤ 1000
    have key : ∀ {f : List UInt8 → Option UInt8} {ps : List (List UInt8)}, seqO f ps = some bs → bs.length = ps.length := fun h => by
      have := congrArg List.length (seqO_back h); simpa using this.symm
    unfold byL at hy
    split at hy
    · next h => have := key hy; simp; omega
    · split at hy
      · next h =>
        have := key hy
        obtain ⟨hW, _, _, k16, ek, _⟩ := hasC_q h.1
        simp; omega
      · cases hy
theorem pre_cases (s : ByteArray) : (∃ h : 2 ≤ s.size, (((s[0]'(by omega)).toNat : Int) == 48) = true ∧ (((s[1]'(by omega)).toNat : Int) == 120) = true ∧ (((s[1]'(by omega)).toNat : Int) == 98) = false ∧ baseL s.data.toList = 16 ∧ restL s.data.toList = (s.extract 2 s.size).data.toList) ∨
    (∃ h : 2 ≤ s.size, (((s[0]'(by omega)).toNat : Int) == 48) = true ∧ (((s[1]'(by omega)).toNat : Int) == 120) = false ∧ (((s[1]'(by omega)).toNat : Int) == 98) = true ∧ baseL s.data.toList = 2 ∧ restL s.data.toList = (s.extract 2 s.size).data.toList) ∨
    (∃ h : 2 ≤ s.size, (((s[0]'(by omega)).toNat : Int) == 48) = true ∧ (((s[1]'(by omega)).toNat : Int) == 120) = false ∧ (((s[1]'(by omega)).toNat : Int) == 98) = false ∧ baseL s.data.toList = 10 ∧ restL s.data.toList = s.data.toList) ∨
    (∃ h : 2 ≤ s.size, (((s[0]'(by omega)).toNat : Int) == 48) = false ∧ baseL s.data.toList = 10 ∧ restL s.data.toList = s.data.toList) ∨
    (¬ 2 ≤ s.size ∧ baseL s.data.toList = 10 ∧ restL s.data.toList = s.data.toList) := by
  have hx : (s.extract 2 s.size).data.toList = s.data.toList.drop 2 := by
    rw [extract_list, List.take_of_length_le (by simp)]
  by_cases h : 2 ≤ s.size
  · have e2 : s.data.toList.take 2 = [s[0]'(by omega), s[1]'(by omega)] := by
      have a := byte_at s (p := 0) (by omega)
      have b := byte_at s (p := 1) (by omega)
      rw [List.drop_zero] at a
      rw [a, b]; rfl
    have eq : ∀ (c : UInt8) (k : Nat), k < 256 → (((c.toNat : Int) == (k : Int)) = true ↔ c = UInt8.ofNat k) := fun c k hk => by
      rw [beq_iff_eq, ← UInt8.toNat_inj, UInt8.toNat_ofNat', Nat.mod_eq_of_lt hk]; omega
    unfold baseL restL
    rw [e2]
    by_cases h0 : s[0]'(by omega) = 48
    · have b0 : (((s[0]'(by omega)).toNat : Int) == 48) = true := (eq _ 48 (by decide)).2 h0
      by_cases h1 : s[1]'(by omega) = 120
      · left
        refine ⟨h, b0, (eq _ 120 (by decide)).2 h1, ?_, by simp [h0, h1], by rw [hx]; simp [h0, h1]⟩
        rw [Bool.eq_false_iff]; intro e; have := (eq _ 98 (by decide)).1 e; rw [h1] at this; exact absurd this (by decide)
      · have b1 : (((s[1]'(by omega)).toNat : Int) == 120) = false := by rw [Bool.eq_false_iff]; exact fun e => h1 ((eq _ 120 (by decide)).1 e)
        by_cases h2 : s[1]'(by omega) = 98
        · right; left
          exact ⟨h, b0, b1, (eq _ 98 (by decide)).2 h2, by simp [h0, h2], by rw [hx]; simp [h0, h2]⟩
        · right; right; left
          refine ⟨h, b0, b1, ?_, by simp [h1, h2], by simp [h1, h2]⟩
          rw [Bool.eq_false_iff]; exact fun e => h2 ((eq _ 98 (by decide)).1 e)
    · right; right; right; left
      refine ⟨h, ?_, by simp [h0], by simp [h0]⟩
      rw [Bool.eq_false_iff]; exact fun e => h0 ((eq _ 48 (by decide)).1 e)
  · right; right; right; right
    have hn : ∀ c d : UInt8, s.data.toList.take 2 ≠ [c, d] := fun c d e => by
      have := congrArg List.length e; simp at this; omega
    exact ⟨h, by unfold baseL; rw [if_neg (hn _ _), if_neg (hn _ _)], by unfold restL; rw [if_neg (hn _ _), if_neg (hn _ _)]⟩
set_option maxHeartbeats 4000000 in
set_option maxRecDepth 100000 in
theorem rparse_any (s : ByteArray) (hs : s.size ≤ 140737488351232) (wd : Int) (w : World) :
    Calls Tryd.prog 41 #[.string s, .int .i64 wd] w fun e w' => e = .returned (.tuple #[B (rpR s.data.toList wd).1, .int .i64 (rpR s.data.toList wd).2]) ∧ Below w.heap.size w w' := by
  cases hW : isW wd
  · rw [rp_no hW]
    go_enter Tryd.func41, Tryd.ntmps41
    go_wp2_with (go_at_call 44; refine (rwidth_val hW _).mono ?_; rintro e w' ⟨rfl, rfl⟩)
    refine bodyPost_ret (v := .tuple #[B 0, .int .i64 10]) ?_ rfl ⟨rfl, ?_⟩
    · rw [zero_words]; simp [results, Tryd.results41, go_sem]
    · go_grown
  have CN : Hid (∀ (base : Nat) (t : ByteArray), t.size ≤ s.size → (base = 2 ∨ base = 10 ∨ base = 16) → baseL s.data.toList = base → restL s.data.toList = t.data.toList → ∀ w, Calls Tryd.prog 66 #[.string t, .int .i64 base] w fun e w' => ∃ x f ok, e = .returned (.tuple #[B x, .bool f, .bool ok]) ∧ NuR (baseL s.data.toList) (restL s.data.toList) x f ok ∧ Below w.heap.size w w') := fun base t ht hb e1 e2 w => by
    rw [e1, e2]; exact rnumber_any base (by omega) (by omega) t (by unfold maxLen; omega) w
  have HB : Hid (∀ v, nuN (baseL s.data.toList) (restL s.data.toList) = some v → bigB v = true → rpR s.data.toList wd = (0, 11)) := fun v h h' => rp_big hW h h'
  have HF : Hid (∀ v, nuN (baseL s.data.toList) (restL s.data.toList) = some v → bigB v = false → rpR s.data.toList wd = if fitsN v wd = true then (v, 0) else (0, 11)) := fun v h h' => rp_fit hW h h'
  have HN : Hid (nuN (baseL s.data.toList) (restL s.data.toList) = none → (byA s.data.toList wd).2 = false → rpR s.data.toList wd = (0, 12)) := fun h h' => rp_none hW h h'
  have HS : Hid (nuN (baseL s.data.toList) (restL s.data.toList) = none → (byA s.data.toList wd).2 = true → rpR s.data.toList wd = frR (byA s.data.toList wd).1.data.toList wd) := fun h h' => rp_some hW h h'
  have C67 : Hid (∀ w, Calls Tryd.prog 67 #[.string s, .int .i64 wd] w fun e w' => e = .returned (.tuple #[.string (byA s.data.toList wd).1, .bool (byA s.data.toList wd).2]) ∧ Below w.heap.size w w') := rby_any s hs wd
  have C37 : Hid (∀ w, Calls Tryd.prog 37 #[.string (byA s.data.toList wd).1, .int .i64 wd] w fun e w' => e = .returned (.tuple #[B (frR (byA s.data.toList wd).1.data.toList wd).1, .int .i64 (frR (byA s.data.toList wd).1.data.toList wd).2]) ∧ Below w.heap.size w w') := rfrom_any _ (by have := byA_size s.data.toList wd; unfold maxLen; omega) wd
  have HR : Hid (∀ R : Nat × Int, rpR s.data.toList wd = R → rpR s.data.toList wd = R) := fun _ h => h
  have hes : (s.extract 2 s.size).size ≤ s.size := by rw [ByteArray.size_extract]; omega
  have HNU : Hid (∀ (x : Nat) (f ok : Bool), NuR (baseL s.data.toList) (restL s.data.toList) x f ok → (nuN (baseL s.data.toList) (restL s.data.toList) = none ∧ x = 0 ∧ f = false ∧ ok = false) ∨ ∃ v, nuN (baseL s.data.toList) (restL s.data.toList) = some v ∧ ok = true ∧ f = (!bigB v) ∧ Is128 x ∧ (bigB v = false → x = v)) := fun _ _ _ h => h
  generalize byA s.data.toList wd = Y at *
  generalize rpR s.data.toList wd = R at *
  generalize hfr : frR Y.1.data.toList wd = Z at *
  clear hfr HR
  have hpre : (∃ h : 2 ≤ s.size, (((s[0]'(by omega)).toNat : Int) == 48) = true ∧ (((s[1]'(by omega)).toNat : Int) == 120) = true ∧ (((s[1]'(by omega)).toNat : Int) == 98) = false ∧ Hid (∀ w, Calls Tryd.prog 66 #[.string (s.extract 2 s.size), .int .i64 16] w fun e w' => ∃ x f ok, e = .returned (.tuple #[B x, .bool f, .bool ok]) ∧ NuR (baseL s.data.toList) (restL s.data.toList) x f ok ∧ Below w.heap.size w w')) ∨
      (∃ h : 2 ≤ s.size, (((s[0]'(by omega)).toNat : Int) == 48) = true ∧ (((s[1]'(by omega)).toNat : Int) == 120) = false ∧ (((s[1]'(by omega)).toNat : Int) == 98) = true ∧ Hid (∀ w, Calls Tryd.prog 66 #[.string (s.extract 2 s.size), .int .i64 2] w fun e w' => ∃ x f ok, e = .returned (.tuple #[B x, .bool f, .bool ok]) ∧ NuR (baseL s.data.toList) (restL s.data.toList) x f ok ∧ Below w.heap.size w w')) ∨
      (∃ h : 2 ≤ s.size, (((s[0]'(by omega)).toNat : Int) == 48) = true ∧ (((s[1]'(by omega)).toNat : Int) == 120) = false ∧ (((s[1]'(by omega)).toNat : Int) == 98) = false ∧ Hid (∀ w, Calls Tryd.prog 66 #[.string s, .int .i64 10] w fun e w' => ∃ x f ok, e = .returned (.tuple #[B x, .bool f, .bool ok]) ∧ NuR (baseL s.data.toList) (restL s.data.toList) x f ok ∧ Below w.heap.size w w')) ∨
      (∃ h : 2 ≤ s.size, (((s[0]'(by omega)).toNat : Int) == 48) = false ∧ True ∧ True ∧ Hid (∀ w, Calls Tryd.prog 66 #[.string s, .int .i64 10] w fun e w' => ∃ x f ok, e = .returned (.tuple #[B x, .bool f, .bool ok]) ∧ NuR (baseL s.data.toList) (restL s.data.toList) x f ok ∧ Below w.heap.size w w')) ∨
      (∃ h : s.size < 2, True ∧ True ∧ True ∧ Hid (∀ w, Calls Tryd.prog 66 #[.string s, .int .i64 10] w fun e w' => ∃ x f ok, e = .returned (.tuple #[B x, .bool f, .bool ok]) ∧ NuR (baseL s.data.toList) (restL s.data.toList) x f ok ∧ Below w.heap.size w w')) := by
    rcases pre_cases s with ⟨h, b0, b1, b2, e1, e2⟩ | ⟨h, b0, b1, b2, e1, e2⟩ | ⟨h, b0, b1, b2, e1, e2⟩ | ⟨h, b0, e1, e2⟩ | ⟨h, e1, e2⟩
    · exact .inl ⟨h, b0, b1, b2, CN.out 16 _ hes (by omega) e1 e2⟩
    · exact .inr (.inl ⟨h, b0, b1, b2, CN.out 2 _ hes (by omega) e1 e2⟩)
    · exact .inr (.inr (.inl ⟨h, b0, b1, b2, CN.out 10 _ (Nat.le_refl _) (by omega) e1 e2⟩))
    · exact .inr (.inr (.inr (.inl ⟨h, b0, trivial, trivial, CN.out 10 _ (Nat.le_refl _) (by omega) e1 e2⟩)))
    · exact .inr (.inr (.inr (.inr ⟨by omega, trivial, trivial, trivial, CN.out 10 _ (Nat.le_refl _) (by omega) e1 e2⟩)))
  generalize nuN (baseL s.data.toList) (restL s.data.toList) = N at *
  generalize NuR (baseL s.data.toList) (restL s.data.toList) = NU at *
  clear CN
  have Z0 := Wds.new w 0 0
  have B0 : Below w.heap.size w (w.alloc (.cells #[.int .u64 0, .int .u64 0] 24)) := by go_grown
  rcases hpre with ⟨hl, b0, b1, b2, C66⟩ | ⟨hl, b0, b1, b2, C66⟩ | ⟨hl, b0, b1, b2, C66⟩ | ⟨hl, b0, b1, b2, C66⟩ | ⟨hl, b0, b1, b2, C66⟩
  all_goals
    have h1i : (s.size : Int) < 2 ∨ 2 ≤ (s.size : Int) := by omega
    go_enter Tryd.func41, Tryd.ntmps41
    go_wp2_with (go_at_call 44; refine (rwidth_val hW _).mono ?_; rintro e w' ⟨rfl, rfl⟩)
    refine (C66.out _).mono ?_
    rintro e w1 ⟨x, f, ok, rfl, hNu, hb1⟩
    have Z1 := (Z0.below hb1 Z0.lt).past (.cells #[.int .u64 (hiOf x), .int .u64 (loOf x)] 24)
    have K1 := Wds.new w1 (hiOf x) (loOf x)
    have hB1 := (bstep B0 hb1).alloc (bstep B0 hb1).size (.cells #[.int .u64 (hiOf x), .int .u64 (loOf x)] 24)
    clear hb1 C66
    rcases HNU.out x f ok hNu with ⟨hn, rfl, rfl, rfl⟩ | ⟨v, hn, rfl, rfl, hx, hxv⟩
    · have HN1 : Hid (N = none) := hn
      clear hn hNu
      go_wp2_with fail
      refine (C67.out _).mono ?_
      rintro e w2 ⟨rfl, hb2⟩
      have Z2 := Z1.below hb2 Z1.lt
      have hB2 := bstep hB1 hb2
      clear hb2 K1 Z1 hB1
      cases hy : Y.2
      · have E : Hid (R = (0, 12)) := HN.out HN1.out hy
        obtain ⟨z0, z1, z2, z3⟩ := id Z2
        go_wp2_with fail
        refine bodyPost_ret (v := .tuple #[B R.1, .int .i64 R.2]) ?_ rfl ⟨rfl, (hB2.setCell (Nat.le_refl _) _).setCell (Nat.le_refl _) _⟩
        obtain ⟨r0, r1⟩ := zresult (x := .int .u64 0) (y := .int .u64 0) z0 z1
        rw [E.out, zero_words]; simp [results, Tryd.results41, go_sem, r0, r1]
      · have E : Hid (R = Z) := HS.out HN1.out hy
        go_wp2_with fail
        refine (C37.out _).mono ?_
        rintro e w3 ⟨rfl, hb3⟩
        have Z3 := Z2.below hb3 Z2.lt
        have hB3 := bstep hB2 hb3
        clear hb3 Z2 hB2
        obtain ⟨z0, z1, z2, z3⟩ := id Z3
        go_wp2_with fail
        refine bodyPost_ret (v := .tuple #[B R.1, .int .i64 R.2]) ?_ rfl ⟨rfl, (hB3.setCell (Nat.le_refl _) _).setCell (Nat.le_refl _) _⟩
        obtain ⟨r0, r1⟩ := zresult (x := .int .u64 (hiOf Z.1)) (y := .int .u64 (loOf Z.1)) z0 z1
        rw [E.out]; simp [results, Tryd.results41, go_sem, r0, r1]
    · cases hbig : bigB v
      · obtain rfl : x = v := hxv hbig
        have E0 : Hid (R = if fitsN x wd = true then (x, 0) else (0, 11)) := HF.out x hn hbig
        have C15 : Hid (∀ w, Calls Tryd.prog 15 #[B x, .int .i64 wd] w fun e w' => e = .returned (.bool (fitsN x wd)) ∧ Below w.heap.size w w') := rfits_any x hx wd
        clear hn hxv hNu
        obtain ⟨k0, k1, _, _⟩ := id K1
        go_wp2_with fail
        refine (C15.out _).mono ?_
        rintro e w2 ⟨rfl, hb2⟩
        have Z2 := Z1.below hb2 Z1.lt
        have K2 := K1.below hb2 K1.lt
        have hB2 := bstep hB1 hb2
        clear hb2 K1 Z1 hB1 k0 k1
        obtain ⟨z0, z1, z2, z3⟩ := id Z2
        obtain ⟨k0, k1, _, _⟩ := id K2
        cases hf : fitsN x wd
        · have E : Hid (R = (0, 11)) := by have := E0.out; rw [hf] at this; exact this
          clear E0
          go_wp2_with fail
          refine bodyPost_ret (v := .tuple #[B R.1, .int .i64 R.2]) ?_ rfl ⟨rfl, (hB2.setCell (Nat.le_refl _) _).setCell (Nat.le_refl _) _⟩
          obtain ⟨r0, r1⟩ := zresult (x := .int .u64 0) (y := .int .u64 0) z0 z1
          rw [E.out, zero_words]; simp [results, Tryd.results41, go_sem, r0, r1]
        · have E : Hid (R = (x, 0)) := by have := E0.out; rw [hf] at this; exact this
          clear E0
          go_wp2_with fail
          refine bodyPost_ret (v := .tuple #[B R.1, .int .i64 R.2]) ?_ rfl ⟨rfl, (hB2.setCell (Nat.le_refl _) _).setCell (Nat.le_refl _) _⟩
          obtain ⟨r0, r1⟩ := zresult (x := .int .u64 (hiOf x)) (y := .int .u64 (loOf x)) z0 z1
          rw [E.out]; simp [results, Tryd.results41, go_sem, r0, r1]
      · have E : Hid (R = (0, 11)) := HB.out v hn hbig
        clear hn hxv hNu
        obtain ⟨z0, z1, z2, z3⟩ := id Z1
        go_wp2_with fail
        refine bodyPost_ret (v := .tuple #[B R.1, .int .i64 R.2]) ?_ rfl ⟨rfl, (hB1.setCell (Nat.le_refl _) _).setCell (Nat.le_refl _) _⟩
        obtain ⟨r0, r1⟩ := zresult (x := .int .u64 0) (y := .int .u64 0) z0 z1
        rw [E.out, zero_words]; simp [results, Tryd.results41, go_sem, r0, r1]
end Go.Proofs.YtjkpdcgmmdimaaaDoor
namespace Go.Proofs.YtjkpdcgmmdimaaaDoor
open Go.RowKit
set_option linter.unusedVariables false
set_option linter.unusedSimpArgs false

set_option maxHeartbeats 4000000 in
set_option maxRecDepth 100000 in
theorem texts_walk (n : Nat) (hn : Is128 n) (wd form : Int) (s : ByteArray) (hs : s.size ≤ 140737488351232) (w : World) (hT : Tab w) :
    Calls Tryd.prog 5 #[B n, .int .i64 wd, .int .i64 form, .string s] w fun e w' => e = .returned (.bool true) ∧ Below w.heap.size w w' := by
  have B0 : Below w.heap.size w (w.alloc (.cells #[.int .u64 (hiOf n), .int .u64 (loOf n)] 24)) := by go_grown
  have HT0 : Hid (Tab (w.alloc (.cells #[.int .u64 (hiOf n), .int .u64 (loOf n)] 24))) := hT.below B0
  have HT : Hid (∀ w', Below w.heap.size w w' → Tab w') := fun w' h => hT.below h
  have cT : ∀ w, Tab w → Calls Tryd.prog 38 #[B n, .int .i64 wd, .int .i64 form] w fun e w' => e = .returned (.tuple #[.string ⟨(txR n wd form).1.toArray⟩, .int .i64 (txR n wd form).2]) ∧ Below w.heap.size w w' := text_all n hn wd form
  have cP : ∀ w, Tab w → Calls Tryd.prog 39 #[.string s, .int .i64 wd] w fun e w' => e = .returned (.tuple #[B (prR s wd).1, .int .i64 (prR s wd).2]) ∧ Below w.heap.size w w' := parse_all s hs wd
  have rT : ∀ w, Calls Tryd.prog 40 #[B n, .int .i64 wd, .int .i64 form] w fun e w' => e = .returned (.tuple #[.string ⟨(txR n wd form).1.toArray⟩, .int .i64 (txR n wd form).2]) ∧ Below w.heap.size w w' := rtext_all n hn wd form
  have rP : ∀ w, Calls Tryd.prog 41 #[.string s, .int .i64 wd] w fun e w' => e = .returned (.tuple #[B (prR s wd).1, .int .i64 (prR s wd).2]) ∧ Below w.heap.size w w' := by
    rw [pr_rp]; exact rparse_any s hs wd
  generalize (⟨(txR n wd form).1.toArray⟩ : ByteArray) = y at *
  generalize (txR n wd form).2 = ye at *
  generalize (prR s wd).1 = f at *
  generalize (prR s wd).2 = fe at *
  have HcT : Hid (∀ w, Tab w → Calls Tryd.prog 38 #[B n, .int .i64 wd, .int .i64 form] w fun e w' => e = .returned (.tuple #[.string y, .int .i64 ye]) ∧ Below w.heap.size w w') := cT
  have HcP : Hid (∀ w, Tab w → Calls Tryd.prog 39 #[.string s, .int .i64 wd] w fun e w' => e = .returned (.tuple #[B f, .int .i64 fe]) ∧ Below w.heap.size w w') := cP
  have HrT : Hid (∀ w, Calls Tryd.prog 40 #[B n, .int .i64 wd, .int .i64 form] w fun e w' => e = .returned (.tuple #[.string y, .int .i64 ye]) ∧ Below w.heap.size w w') := rT
  have HrP : Hid (∀ w, Calls Tryd.prog 41 #[.string s, .int .i64 wd] w fun e w' => e = .returned (.tuple #[B f, .int .i64 fe]) ∧ Below w.heap.size w w') := rP
  clear cT cP rT rP hT
  have ef := fun w => run_eqB (n := f) (m := f) (b := true) (by simp) w
  go_enter Tryd.func5, Tryd.ntmps5
  go_wp2_with fail
  refine (awake_any _ HT0.out).mono ?_
  rintro e w1 ⟨rfl, hb1⟩
  have A1 : Box w1 w.heap.size n := (Box.new w n).below hb1 (by simp)
  have hB1 := bstep B0 hb1
  clear hb1 B0 HT0
  obtain ⟨a0, a1⟩ := id A1
  go_wp2_with fail
  refine (HcT.out _ (HT.out _ hB1)).mono ?_
  rintro e w2 ⟨rfl, hb2⟩
  have A2 := A1.below hb2 A1.lt
  have hB2 := bstep hB1 hb2
  clear a0 a1 A1 hB1 hb2
  go_wp2_with fail
  refine (HcP.out _ (HT.out _ hB2)).mono ?_
  rintro e w3 ⟨rfl, hb3⟩
  have A3 := (A2.below hb3 A2.lt).past (.cells #[.int .u64 (hiOf f), .int .u64 (loOf f)] 24)
  have F3 := Box.new w3 f
  have hB3 := (bstep hB2 hb3).alloc (bstep hB2 hb3).size (.cells #[.int .u64 (hiOf f), .int .u64 (loOf f)] 24)
  clear A2 hB2 hb3
  obtain ⟨a0, a1⟩ := id A3
  go_wp2_with fail
  refine (HrT.out _).mono ?_
  rintro e w4 ⟨rfl, hb4⟩
  have F4 := F3.below hb4 F3.lt
  have hB4 := bstep hB3 hb4
  clear a0 a1 A3 F3 hB3 hb4
  go_wp2_with fail
  refine (HrP.out _).mono ?_
  rintro e w5 ⟨rfl, hb5⟩
  have F5 := (F4.below hb5 F4.lt).past (.cells #[.int .u64 (hiOf f), .int .u64 (loOf f)] 24)
  have G5 := Box.new w5 f
  have hB5 := (bstep hB4 hb5).alloc (bstep hB4 hb5).size (.cells #[.int .u64 (hiOf f), .int .u64 (loOf f)] 24)
  clear F4 hB4 hb5
  obtain ⟨f0, f1⟩ := id F5
  obtain ⟨g0, g1⟩ := id G5
  go_wp2
  go_ret
  exact ⟨rfl, hB5⟩
end Go.Proofs.YtjkpdcgmmdimaaaDoor
