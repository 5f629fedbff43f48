/- The reference's far: a register behind 8 n turns, or ahead of them. -/
import Derived.Test.YtabipemlemppjaaDoorJe
namespace Go.Proofs.YtabipemlemppjaaDoor
open Go.RowKit
set_option linter.unusedVariables false
set_option linter.unusedSimpArgs false

theorem info23 : (Tryd.prog.info? 23).map (fun i => (i.zero, i.size, i.bytes)) = some (some (.int .u32 0), 1, 4) := by kernel_rfl
theorem one_next (i : Nat) (hi : i < 32) : (2 * ((2 ^ i % 4294967296 : Nat) : Int)) % 4294967296 = ((2 ^ (i + 1) % 4294967296 : Nat) : Int) := by
  rw [Nat.pow_succ]
  generalize 2 ^ i = z
  omega
theorem jrow_below {w w1 : World} {base : Nat} {e : TypeId} {size : Nat} {v : Value} {n : Nat} {xs : List Value} (h : w.ownsRow base e size v n xs) (hb : Below w.heap.size w w1) : w1.ownsRow base e size v n xs := by
  refine ⟨h.1, ?_⟩
  rcases h.2 with hn | ⟨g, cap, cur, rfl, hb1, hgg, rest⟩
  · exact .inl hn
  · refine .inr ⟨g, cap, cur, rfl, hb1, ?_, rest⟩
    rw [hb.block g (Array.getElem?_eq_some_iff.1 hgg).1]
    exact hgg
set_option maxHeartbeats 4000000 in
set_option maxRecDepth 100000 in
theorem far_false (F : Nat → Nat) (G : Nat → Nat → Nat) (hf : Lin F) (HG8 : Hid (∀ x, G 8 x = F x)) (HG0 : Hid (∀ x, G 0 x = x)) (HGL : Hid (∀ k x, x < 4294967296 → G k x < 4294967296))
    (HST : Hid (∀ k x, x < 4294967296 → ∀ w, Calls Tryd.prog 41 #[.int .u32 ((G k x : Nat) : Int)] w fun e w' => e = .returned (.int .u32 ((G (k + 1) x : Nat) : Int)) ∧ w' = w))
    (r : Nat) (hr : r < 4294967296) (n : Nat) (hn : n < 9223372036854775808) (w : World) : Calls Tryd.prog 36 #[.int .u32 r, .int .i64 n, .bool false] w fun e w' => e = .returned (.int .u32 ((itr F n r : Nat) : Int)) ∧ Below w.heap.size w w' := by
  obtain ⟨i0, hi0, hz0, hz1, hz2⟩ := info_parts info23
  go_enter Tryd.func36, Tryd.ntmps36
  go_wp2_with fail
  go_loopw [7, 8, 9] (fun bv ov iv wr => ∃ i : Nat, i ≤ 32 ∧ iv = .int .i64 i ∧ ov = .int .u32 ((2 ^ i % 4294967296 : Nat) : Int) ∧ wr.ownsRow w.heap.size 23 1 bv i (cellsF F i) ∧ Below w.heap.size w wr) (fun _ _ iv _ => 32 - (intOf iv).toNat)
  case atStart => exact ⟨0, by omega, rfl, rfl, World.ownsRow_nil _ _ _ _, Below.refl _ _⟩
  case round =>
    obtain ⟨i, hi, rfl, rfl, hown, hB⟩ := hrel
    have HO : Hid (wr.ownsRow w.heap.size 23 1 u7 i (cellsF F i)) := hown
    have HBW : Hid (Below w.heap.size w wr) := hB
    have hsz := hB.size
    by_cases hlt : i < 32
    · have hlt' : (i : Int) < 32 := by omega
      have pk : 2 ^ i < 4294967296 := Nat.lt_of_le_of_lt (Nat.pow_le_pow_right (by decide) (show i ≤ 31 by omega)) (by decide)
      have h1n := one_next i hlt
      have hone : 2 ^ i % 4294967296 = 2 ^ i := Nat.mod_eq_of_lt pk
      generalize hO : 2 ^ i % 4294967296 = O at *
      have HO2 : Hid (O = 2 ^ i) := hone
      have hOlt : O < 4294967296 := by rw [hone]; exact pk
      have H1N : Hid (2 * (O : Int) % 4294967296 = ((2 ^ (i + 1) % 4294967296 : Nat) : Int)) := h1n
      clear hO hone h1n pk hown hB
      obtain ⟨W0, hW0⟩ : ∃ W0, wr = W0 := ⟨_, rfl⟩
      subst hW0
      go_wp2_with fail
      go_loopw [10, 11] (fun xv kv wx => ∃ k : Nat, k ≤ 8 ∧ kv = .int .i64 k ∧ xv = .int .u32 ((G k O : Nat) : Int) ∧ wx = wr) (fun _ kv _ => 8 - (intOf kv).toNat)
      case atStart => exact ⟨0, by omega, rfl, by rw [HG0.out], rfl⟩
      case round =>
        obtain ⟨k, hk, rfl, rfl, hwx⟩ := hrel
        subst hwx
        by_cases hk8 : k < 8
        · have hk8' : (k : Int) < 8 := by omega
          have C := HST.out k O hOlt
          have HC : Hid (∀ w, Calls Tryd.prog 41 #[.int .u32 ((G k O : Nat) : Int)] w fun e w' => e = .returned (.int .u32 ((G (k + 1) O : Nat) : Int)) ∧ w' = w) := C
          clear C
          go_wp2_with fail
          refine (HC.out _).mono ?_
          rintro e w1 ⟨rfl, e1⟩
          obtain rfl := Eq.symm e1
          go_wp2_with fail
          exact ⟨⟨k + 1, by omega, by go_num, rfl, by first | trivial | rfl⟩, by simp only [intOf]; omega⟩
        · obtain rfl : k = 8 := by omega
          have e8 := HG8.out O
          obtain ⟨y, hy⟩ : ∃ y, G 8 O = y := ⟨_, rfl⟩
          have HY : Hid (y = F (2 ^ i)) := by show _ = _; rw [← hy, e8, HO2.out]
          rw [hy]
          clear e8 hy
          have HX : Hid ((wr.alloc (.cells #[.int .u32 (y : Int)] 23)).ownsRow w.heap.size 23 1 u7 i (cellsF F i)) := HO.out.alloc _
          go_wp2_with (at_builtin; refine wpList_append_own _ rfl _ _ 69 rfl w.heap.size 23 i0 (.int .u32 0) 1 4 Tryd.underlying69 hi0 hz0 hz1 hz2 rfl (by decide) _ _ _ rfl HX.out ⟨wr.heap.size, 0, none⟩ 1 1 [.int .u32 (y : Int)] rfl rfl (one_cell wr _ 23) (by intro u hu; simp at hu; subst hu; rfl) (by unfold maxLen; omega) (by omega) (by simp; omega) ?_)
          intro v6 w6 hown6 hgrow6 _
          have hown7 : w6.ownsRow w.heap.size 23 1 v6 (i + 1) (cellsF F (i + 1)) := by
            rw [cellsF_snoc, ← HY.out]; exact hown6
          have hB6 : Below w.heap.size w w6 := Below.grown (HBW.out.alloc HBW.out.size _) hgrow6 (by simp; omega) fun g hg => (HO.out.lt g hg).1
          clear hown6 hgrow6 HX HO
          go_wp2_with fail
          rw [H1N.out]
          exact ⟨⟨i + 1, by omega, by go_num, rfl, hown7, hB6⟩, by simp only [intOf]; omega⟩
    · have hi32 : i = 32 := by omega
      have hlt' : ¬ ((i : Int) < 32) := by omega
      rw [hi32] at hown
      obtain ⟨b, cap, rfl, hblt, hrow⟩ := row_of hown
      generalize 2 ^ i % 4294967296 = O at *
      clear hown HO hi32 hi
      go_wp2_with fail
      obtain ⟨W0, hW0⟩ : ∃ W0, wr = W0 := ⟨_, rfl⟩
      subst hW0
      go_loopw [0, 1, 7] (fun rv nv bv wq => ∃ (q m : Nat) (g : Nat → Nat) (b cap : Nat), rv = .int .u32 q ∧ nv = .int .i64 m ∧ bv = .slice (some ⟨b, 0, none⟩) 32 cap ∧ q < 4294967296 ∧ m ≤ n ∧ Lin g ∧ Aside (itr g m q = itr F n r) ∧ b < wq.heap.size ∧ RowG wq b g ∧ Below w.heap.size w wq) (fun _ nv _ _ => (intOf nv).toNat)
      case atStart => exact ⟨r, n, F, b, cap, rfl, rfl, rfl, hr, Nat.le_refl _, hf, rfl, hblt, hrow, hB⟩
      case round =>
        obtain ⟨q, m, g, b2, cap2, rfl, rfl, rfl, hq, hm, hg, A, hb2, R, hBq⟩ := hrel
        clear hblt hrow hB HBW hsz
        by_cases h0 : m = 0
        · subst h0
          have hq' : q = itr F n r := A.out
          subst hq'
          clear A
          go_wp2_with fail
          go_ret
          exact ⟨rfl, hBq⟩
        · have hpos : (0 : Int) < m := by omega
          have hpn : 0 < m := by omega
          have C1 : Hid (∀ w, RowG w b2 g → Calls Tryd.prog 45 #[.slice (some ⟨b2, 0, none⟩) 32 cap2, .int .u32 q] w fun e w' => e = .returned (.int .u32 ((g q : Nat) : Int)) ∧ w' = w) := fun w h => rof_any g hg q hq b2 cap2 w h
          have C2 : Hid (∀ i w, i < 32 → RowG w b2 g → Calls Tryd.prog 45 #[.slice (some ⟨b2, 0, none⟩) 32 cap2, .int .u32 ((g (2 ^ i) : Nat) : Int)] w fun e w' => e = .returned (.int .u32 ((g (g (2 ^ i)) : Nat) : Int)) ∧ w' = w) := fun i w hi h => rof_any g hg _ (hg.lt _ (Nat.lt_of_le_of_lt (Nat.pow_le_pow_right (by decide) (show i ≤ 31 by omega)) (by decide))) b2 cap2 w h
          have HR : Hid (RowG wr b2 g) := R
          have hszq := hBq.size
          clear R
          by_cases h1 : m % 2 = 1
          · have hb : ((m : Int) % 2 == 1) = true := by simp; omega
            have A2 : Aside (itr (fun r => g (g r)) (m / 2) (g q) = itr F n r) := by show _ = _; rw [itr_odd g h1, A.out]
            have hgq := hg.lt q hq
            generalize g q = q2 at *
            clear h1 A
            go_wp2_with fail
            refine (C1.out _ HR.out).mono ?_
            rintro e w1 ⟨rfl, e1⟩
            obtain rfl := Eq.symm e1
            go_wp2_with fail
            clear hb
            obtain ⟨WQ, hWQ⟩ : ∃ WQ, WQ = wr := ⟨_, rfl⟩
            subst hWQ
            go_loopw [12, 13] (fun tv iv wx => ∃ i : Nat, i ≤ 32 ∧ iv = .int .i64 i ∧ wx.ownsRow WQ.heap.size 23 1 tv i (cellsF (fun r => g (g r)) i) ∧ Below WQ.heap.size WQ wx) (fun _ iv _ => 32 - (intOf iv).toNat)
            case atStart => exact ⟨0, by omega, rfl, World.ownsRow_nil _ _ _ _, Below.refl _ _⟩
            case round =>
              obtain ⟨j, hj, rfl, hown, hBx⟩ := hrel
              have HO : Hid (wr.ownsRow WQ.heap.size 23 1 u12 j (cellsF (fun r => g (g r)) j)) := hown
              have hszx := hBx.size
              by_cases hj32 : j < 32
              · have hj32' : (j : Int) < 32 := by omega
                have Rx : RowG wr b2 g := HR.out.below hBx hb2
                have cj := Rx j hj32
                have C := C2.out j wr hj32 Rx
                obtain ⟨y, hy⟩ : ∃ y, g (g (2 ^ j)) = y := ⟨_, rfl⟩
                have HY : Hid (y = g (g (2 ^ j))) := hy.symm
                rw [hy] at C
                clear hy Rx hown
                generalize g (2 ^ j) = x at cj C
                have HC : Hid (Calls Tryd.prog 45 #[.slice (some ⟨b2, 0, none⟩) 32 cap2, .int .u32 (x : Int)] wr fun e w' => e = .returned (.int .u32 (y : Int)) ∧ w' = wr) := C
                clear C
                go_wp2_with fail
                refine HC.out.mono ?_
                rintro e w1 ⟨rfl, e1⟩
                obtain rfl := Eq.symm e1
                have HX : Hid ((wr.alloc (.cells #[.int .u32 (y : Int)] 23)).ownsRow WQ.heap.size 23 1 u12 j (cellsF (fun r => g (g r)) j)) := HO.out.alloc _
                go_wp2_with (at_builtin; refine wpList_append_own _ rfl _ _ 69 rfl WQ.heap.size 23 i0 (.int .u32 0) 1 4 Tryd.underlying69 hi0 hz0 hz1 hz2 rfl (by decide) _ _ _ rfl HX.out ⟨wr.heap.size, 0, none⟩ 1 1 [.int .u32 (y : Int)] rfl rfl (one_cell wr _ 23) (by intro u hu; simp at hu; subst hu; rfl) (by unfold maxLen; omega) (by omega) (by simp; omega) ?_)
                intro v6 w6 hown6 hgrow6 _
                have hown7 : w6.ownsRow WQ.heap.size 23 1 v6 (j + 1) (cellsF (fun r => g (g r)) (j + 1)) := by
                  rw [cellsF_snoc, ← HY.out]; exact hown6
                have hB6 : Below WQ.heap.size WQ w6 := Below.grown (hBx.alloc hBx.size _) hgrow6 (by simp; omega) fun g hg => (HO.out.lt g hg).1
                clear hown6 hgrow6 HX HO
                go_wp2_with fail
                exact ⟨⟨j + 1, by omega, by go_num, hown7, hB6⟩, by simp only [intOf]; omega⟩
              · obtain rfl : j = 32 := by omega
                obtain ⟨b3, cap3, rfl, hb3, hrow3⟩ := row_of hown
                clear hown HO
                go_wp2_with fail
                exact ⟨⟨q2, m / 2, fun r => g (g r), b3, cap3, rfl, by go_num, rfl, hgq, by omega, hg.twice, A2, hb3, hrow3, hBq.trans (hBx.mono hBq.size)⟩, by simp only [intOf]; omega⟩
          · have hb : ((m : Int) % 2 == 1) = false := by simp; omega
            have A2 : Aside (itr (fun r => g (g r)) (m / 2) q = itr F n r) := by show _ = _; rw [itr_even g (by omega), A.out]
            clear h1 A
            go_wp2_with fail
            clear hb
            obtain ⟨WQ, hWQ⟩ : ∃ WQ, WQ = wr := ⟨_, rfl⟩
            subst hWQ
            go_loopw [12, 13] (fun tv iv wx => ∃ i : Nat, i ≤ 32 ∧ iv = .int .i64 i ∧ wx.ownsRow WQ.heap.size 23 1 tv i (cellsF (fun r => g (g r)) i) ∧ Below WQ.heap.size WQ wx) (fun _ iv _ => 32 - (intOf iv).toNat)
            case atStart => exact ⟨0, by omega, rfl, World.ownsRow_nil _ _ _ _, Below.refl _ _⟩
            case round =>
              obtain ⟨j, hj, rfl, hown, hBx⟩ := hrel
              have HO : Hid (wr.ownsRow WQ.heap.size 23 1 u12 j (cellsF (fun r => g (g r)) j)) := hown
              have hszx := hBx.size
              by_cases hj32 : j < 32
              · have hj32' : (j : Int) < 32 := by omega
                have Rx : RowG wr b2 g := HR.out.below hBx hb2
                have cj := Rx j hj32
                have C := C2.out j wr hj32 Rx
                obtain ⟨y, hy⟩ : ∃ y, g (g (2 ^ j)) = y := ⟨_, rfl⟩
                have HY : Hid (y = g (g (2 ^ j))) := hy.symm
                rw [hy] at C
                clear hy Rx hown
                generalize g (2 ^ j) = x at cj C
                have HC : Hid (Calls Tryd.prog 45 #[.slice (some ⟨b2, 0, none⟩) 32 cap2, .int .u32 (x : Int)] wr fun e w' => e = .returned (.int .u32 (y : Int)) ∧ w' = wr) := C
                clear C
                go_wp2_with fail
                refine HC.out.mono ?_
                rintro e w1 ⟨rfl, e1⟩
                obtain rfl := Eq.symm e1
                have HX : Hid ((wr.alloc (.cells #[.int .u32 (y : Int)] 23)).ownsRow WQ.heap.size 23 1 u12 j (cellsF (fun r => g (g r)) j)) := HO.out.alloc _
                go_wp2_with (at_builtin; refine wpList_append_own _ rfl _ _ 69 rfl WQ.heap.size 23 i0 (.int .u32 0) 1 4 Tryd.underlying69 hi0 hz0 hz1 hz2 rfl (by decide) _ _ _ rfl HX.out ⟨wr.heap.size, 0, none⟩ 1 1 [.int .u32 (y : Int)] rfl rfl (one_cell wr _ 23) (by intro u hu; simp at hu; subst hu; rfl) (by unfold maxLen; omega) (by omega) (by simp; omega) ?_)
                intro v6 w6 hown6 hgrow6 _
                have hown7 : w6.ownsRow WQ.heap.size 23 1 v6 (j + 1) (cellsF (fun r => g (g r)) (j + 1)) := by
                  rw [cellsF_snoc, ← HY.out]; exact hown6
                have hB6 : Below WQ.heap.size WQ w6 := Below.grown (hBx.alloc hBx.size _) hgrow6 (by simp; omega) fun g hg => (HO.out.lt g hg).1
                clear hown6 hgrow6 HX HO
                go_wp2_with fail
                exact ⟨⟨j + 1, by omega, by go_num, hown7, hB6⟩, by simp only [intOf]; omega⟩
              · obtain rfl : j = 32 := by omega
                obtain ⟨b3, cap3, rfl, hb3, hrow3⟩ := row_of hown
                clear hown HO
                go_wp2_with fail
                exact ⟨⟨q, m / 2, fun r => g (g r), b3, cap3, rfl, by go_num, rfl, hq, by omega, hg.twice, A2, hb3, hrow3, hBq.trans (hBx.mono hBq.size)⟩, by simp only [intOf]; omega⟩
set_option maxHeartbeats 4000000 in
set_option maxRecDepth 100000 in
theorem far_true (F : Nat → Nat) (G : Nat → Nat → Nat) (hf : Lin F) (HG8 : Hid (∀ x, G 8 x = F x)) (HG0 : Hid (∀ x, G 0 x = x)) (HGL : Hid (∀ k x, x < 4294967296 → G k x < 4294967296))
    (HST : Hid (∀ k x, x < 4294967296 → ∀ w, Calls Tryd.prog 44 #[.int .u32 ((G k x : Nat) : Int)] w fun e w' => e = .returned (.int .u32 ((G (k + 1) x : Nat) : Int)) ∧ w' = w))
    (r : Nat) (hr : r < 4294967296) (n : Nat) (hn : n < 9223372036854775808) (w : World) : Calls Tryd.prog 36 #[.int .u32 r, .int .i64 n, .bool true] w fun e w' => e = .returned (.int .u32 ((itr F n r : Nat) : Int)) ∧ Below w.heap.size w w' := by
  obtain ⟨i0, hi0, hz0, hz1, hz2⟩ := info_parts info23
  go_enter Tryd.func36, Tryd.ntmps36
  go_wp2_with fail
  go_loopw [7, 8, 9] (fun bv ov iv wr => ∃ i : Nat, i ≤ 32 ∧ iv = .int .i64 i ∧ ov = .int .u32 ((2 ^ i % 4294967296 : Nat) : Int) ∧ wr.ownsRow w.heap.size 23 1 bv i (cellsF F i) ∧ Below w.heap.size w wr) (fun _ _ iv _ => 32 - (intOf iv).toNat)
  case atStart => exact ⟨0, by omega, rfl, rfl, World.ownsRow_nil _ _ _ _, Below.refl _ _⟩
  case round =>
    obtain ⟨i, hi, rfl, rfl, hown, hB⟩ := hrel
    have HO : Hid (wr.ownsRow w.heap.size 23 1 u7 i (cellsF F i)) := hown
    have HBW : Hid (Below w.heap.size w wr) := hB
    have hsz := hB.size
    by_cases hlt : i < 32
    · have hlt' : (i : Int) < 32 := by omega
      have pk : 2 ^ i < 4294967296 := Nat.lt_of_le_of_lt (Nat.pow_le_pow_right (by decide) (show i ≤ 31 by omega)) (by decide)
      have h1n := one_next i hlt
      have hone : 2 ^ i % 4294967296 = 2 ^ i := Nat.mod_eq_of_lt pk
      generalize hO : 2 ^ i % 4294967296 = O at *
      have HO2 : Hid (O = 2 ^ i) := hone
      have hOlt : O < 4294967296 := by rw [hone]; exact pk
      have H1N : Hid (2 * (O : Int) % 4294967296 = ((2 ^ (i + 1) % 4294967296 : Nat) : Int)) := h1n
      clear hO hone h1n pk hown hB
      obtain ⟨W0, hW0⟩ : ∃ W0, wr = W0 := ⟨_, rfl⟩
      subst hW0
      go_wp2_with fail
      go_loopw [10, 11] (fun xv kv wx => ∃ k : Nat, k ≤ 8 ∧ kv = .int .i64 k ∧ xv = .int .u32 ((G k O : Nat) : Int) ∧ wx = wr) (fun _ kv _ => 8 - (intOf kv).toNat)
      case atStart => exact ⟨0, by omega, rfl, by rw [HG0.out], rfl⟩
      case round =>
        obtain ⟨k, hk, rfl, rfl, hwx⟩ := hrel
        subst hwx
        by_cases hk8 : k < 8
        · have hk8' : (k : Int) < 8 := by omega
          have C := HST.out k O hOlt
          have HC : Hid (∀ w, Calls Tryd.prog 44 #[.int .u32 ((G k O : Nat) : Int)] w fun e w' => e = .returned (.int .u32 ((G (k + 1) O : Nat) : Int)) ∧ w' = w) := C
          clear C
          go_wp2_with fail
          refine (HC.out _).mono ?_
          rintro e w1 ⟨rfl, e1⟩
          obtain rfl := Eq.symm e1
          go_wp2_with fail
          exact ⟨⟨k + 1, by omega, by go_num, rfl, by first | trivial | rfl⟩, by simp only [intOf]; omega⟩
        · obtain rfl : k = 8 := by omega
          have e8 := HG8.out O
          obtain ⟨y, hy⟩ : ∃ y, G 8 O = y := ⟨_, rfl⟩
          have HY : Hid (y = F (2 ^ i)) := by show _ = _; rw [← hy, e8, HO2.out]
          rw [hy]
          clear e8 hy
          have HX : Hid ((wr.alloc (.cells #[.int .u32 (y : Int)] 23)).ownsRow w.heap.size 23 1 u7 i (cellsF F i)) := HO.out.alloc _
          go_wp2_with (at_builtin; refine wpList_append_own _ rfl _ _ 69 rfl w.heap.size 23 i0 (.int .u32 0) 1 4 Tryd.underlying69 hi0 hz0 hz1 hz2 rfl (by decide) _ _ _ rfl HX.out ⟨wr.heap.size, 0, none⟩ 1 1 [.int .u32 (y : Int)] rfl rfl (one_cell wr _ 23) (by intro u hu; simp at hu; subst hu; rfl) (by unfold maxLen; omega) (by omega) (by simp; omega) ?_)
          intro v6 w6 hown6 hgrow6 _
          have hown7 : w6.ownsRow w.heap.size 23 1 v6 (i + 1) (cellsF F (i + 1)) := by
            rw [cellsF_snoc, ← HY.out]; exact hown6
          have hB6 : Below w.heap.size w w6 := Below.grown (HBW.out.alloc HBW.out.size _) hgrow6 (by simp; omega) fun g hg => (HO.out.lt g hg).1
          clear hown6 hgrow6 HX HO
          go_wp2_with fail
          rw [H1N.out]
          exact ⟨⟨i + 1, by omega, by go_num, rfl, hown7, hB6⟩, by simp only [intOf]; omega⟩
    · have hi32 : i = 32 := by omega
      have hlt' : ¬ ((i : Int) < 32) := by omega
      rw [hi32] at hown
      obtain ⟨b, cap, rfl, hblt, hrow⟩ := row_of hown
      generalize 2 ^ i % 4294967296 = O at *
      clear hown HO hi32 hi
      go_wp2_with fail
      obtain ⟨W0, hW0⟩ : ∃ W0, wr = W0 := ⟨_, rfl⟩
      subst hW0
      go_loopw [0, 1, 7] (fun rv nv bv wq => ∃ (q m : Nat) (g : Nat → Nat) (b cap : Nat), rv = .int .u32 q ∧ nv = .int .i64 m ∧ bv = .slice (some ⟨b, 0, none⟩) 32 cap ∧ q < 4294967296 ∧ m ≤ n ∧ Lin g ∧ Aside (itr g m q = itr F n r) ∧ b < wq.heap.size ∧ RowG wq b g ∧ Below w.heap.size w wq) (fun _ nv _ _ => (intOf nv).toNat)
      case atStart => exact ⟨r, n, F, b, cap, rfl, rfl, rfl, hr, Nat.le_refl _, hf, rfl, hblt, hrow, hB⟩
      case round =>
        obtain ⟨q, m, g, b2, cap2, rfl, rfl, rfl, hq, hm, hg, A, hb2, R, hBq⟩ := hrel
        clear hblt hrow hB HBW hsz
        by_cases h0 : m = 0
        · subst h0
          have hq' : q = itr F n r := A.out
          subst hq'
          clear A
          go_wp2_with fail
          go_ret
          exact ⟨rfl, hBq⟩
        · have hpos : (0 : Int) < m := by omega
          have hpn : 0 < m := by omega
          have C1 : Hid (∀ w, RowG w b2 g → Calls Tryd.prog 45 #[.slice (some ⟨b2, 0, none⟩) 32 cap2, .int .u32 q] w fun e w' => e = .returned (.int .u32 ((g q : Nat) : Int)) ∧ w' = w) := fun w h => rof_any g hg q hq b2 cap2 w h
          have C2 : Hid (∀ i w, i < 32 → RowG w b2 g → Calls Tryd.prog 45 #[.slice (some ⟨b2, 0, none⟩) 32 cap2, .int .u32 ((g (2 ^ i) : Nat) : Int)] w fun e w' => e = .returned (.int .u32 ((g (g (2 ^ i)) : Nat) : Int)) ∧ w' = w) := fun i w hi h => rof_any g hg _ (hg.lt _ (Nat.lt_of_le_of_lt (Nat.pow_le_pow_right (by decide) (show i ≤ 31 by omega)) (by decide))) b2 cap2 w h
          have HR : Hid (RowG wr b2 g) := R
          have hszq := hBq.size
          clear R
          by_cases h1 : m % 2 = 1
          · have hb : ((m : Int) % 2 == 1) = true := by simp; omega
            have A2 : Aside (itr (fun r => g (g r)) (m / 2) (g q) = itr F n r) := by show _ = _; rw [itr_odd g h1, A.out]
            have hgq := hg.lt q hq
            generalize g q = q2 at *
            clear h1 A
            go_wp2_with fail
            refine (C1.out _ HR.out).mono ?_
            rintro e w1 ⟨rfl, e1⟩
            obtain rfl := Eq.symm e1
            go_wp2_with fail
            clear hb
            obtain ⟨WQ, hWQ⟩ : ∃ WQ, WQ = wr := ⟨_, rfl⟩
            subst hWQ
            go_loopw [12, 13] (fun tv iv wx => ∃ i : Nat, i ≤ 32 ∧ iv = .int .i64 i ∧ wx.ownsRow WQ.heap.size 23 1 tv i (cellsF (fun r => g (g r)) i) ∧ Below WQ.heap.size WQ wx) (fun _ iv _ => 32 - (intOf iv).toNat)
            case atStart => exact ⟨0, by omega, rfl, World.ownsRow_nil _ _ _ _, Below.refl _ _⟩
            case round =>
              obtain ⟨j, hj, rfl, hown, hBx⟩ := hrel
              have HO : Hid (wr.ownsRow WQ.heap.size 23 1 u12 j (cellsF (fun r => g (g r)) j)) := hown
              have hszx := hBx.size
              by_cases hj32 : j < 32
              · have hj32' : (j : Int) < 32 := by omega
                have Rx : RowG wr b2 g := HR.out.below hBx hb2
                have cj := Rx j hj32
                have C := C2.out j wr hj32 Rx
                obtain ⟨y, hy⟩ : ∃ y, g (g (2 ^ j)) = y := ⟨_, rfl⟩
                have HY : Hid (y = g (g (2 ^ j))) := hy.symm
                rw [hy] at C
                clear hy Rx hown
                generalize g (2 ^ j) = x at cj C
                have HC : Hid (Calls Tryd.prog 45 #[.slice (some ⟨b2, 0, none⟩) 32 cap2, .int .u32 (x : Int)] wr fun e w' => e = .returned (.int .u32 (y : Int)) ∧ w' = wr) := C
                clear C
                go_wp2_with fail
                refine HC.out.mono ?_
                rintro e w1 ⟨rfl, e1⟩
                obtain rfl := Eq.symm e1
                have HX : Hid ((wr.alloc (.cells #[.int .u32 (y : Int)] 23)).ownsRow WQ.heap.size 23 1 u12 j (cellsF (fun r => g (g r)) j)) := HO.out.alloc _
                go_wp2_with (at_builtin; refine wpList_append_own _ rfl _ _ 69 rfl WQ.heap.size 23 i0 (.int .u32 0) 1 4 Tryd.underlying69 hi0 hz0 hz1 hz2 rfl (by decide) _ _ _ rfl HX.out ⟨wr.heap.size, 0, none⟩ 1 1 [.int .u32 (y : Int)] rfl rfl (one_cell wr _ 23) (by intro u hu; simp at hu; subst hu; rfl) (by unfold maxLen; omega) (by omega) (by simp; omega) ?_)
                intro v6 w6 hown6 hgrow6 _
                have hown7 : w6.ownsRow WQ.heap.size 23 1 v6 (j + 1) (cellsF (fun r => g (g r)) (j + 1)) := by
                  rw [cellsF_snoc, ← HY.out]; exact hown6
                have hB6 : Below WQ.heap.size WQ w6 := Below.grown (hBx.alloc hBx.size _) hgrow6 (by simp; omega) fun g hg => (HO.out.lt g hg).1
                clear hown6 hgrow6 HX HO
                go_wp2_with fail
                exact ⟨⟨j + 1, by omega, by go_num, hown7, hB6⟩, by simp only [intOf]; omega⟩
              · obtain rfl : j = 32 := by omega
                obtain ⟨b3, cap3, rfl, hb3, hrow3⟩ := row_of hown
                clear hown HO
                go_wp2_with fail
                exact ⟨⟨q2, m / 2, fun r => g (g r), b3, cap3, rfl, by go_num, rfl, hgq, by omega, hg.twice, A2, hb3, hrow3, hBq.trans (hBx.mono hBq.size)⟩, by simp only [intOf]; omega⟩
          · have hb : ((m : Int) % 2 == 1) = false := by simp; omega
            have A2 : Aside (itr (fun r => g (g r)) (m / 2) q = itr F n r) := by show _ = _; rw [itr_even g (by omega), A.out]
            clear h1 A
            go_wp2_with fail
            clear hb
            obtain ⟨WQ, hWQ⟩ : ∃ WQ, WQ = wr := ⟨_, rfl⟩
            subst hWQ
            go_loopw [12, 13] (fun tv iv wx => ∃ i : Nat, i ≤ 32 ∧ iv = .int .i64 i ∧ wx.ownsRow WQ.heap.size 23 1 tv i (cellsF (fun r => g (g r)) i) ∧ Below WQ.heap.size WQ wx) (fun _ iv _ => 32 - (intOf iv).toNat)
            case atStart => exact ⟨0, by omega, rfl, World.ownsRow_nil _ _ _ _, Below.refl _ _⟩
            case round =>
              obtain ⟨j, hj, rfl, hown, hBx⟩ := hrel
              have HO : Hid (wr.ownsRow WQ.heap.size 23 1 u12 j (cellsF (fun r => g (g r)) j)) := hown
              have hszx := hBx.size
              by_cases hj32 : j < 32
              · have hj32' : (j : Int) < 32 := by omega
                have Rx : RowG wr b2 g := HR.out.below hBx hb2
                have cj := Rx j hj32
                have C := C2.out j wr hj32 Rx
                obtain ⟨y, hy⟩ : ∃ y, g (g (2 ^ j)) = y := ⟨_, rfl⟩
                have HY : Hid (y = g (g (2 ^ j))) := hy.symm
                rw [hy] at C
                clear hy Rx hown
                generalize g (2 ^ j) = x at cj C
                have HC : Hid (Calls Tryd.prog 45 #[.slice (some ⟨b2, 0, none⟩) 32 cap2, .int .u32 (x : Int)] wr fun e w' => e = .returned (.int .u32 (y : Int)) ∧ w' = wr) := C
                clear C
                go_wp2_with fail
                refine HC.out.mono ?_
                rintro e w1 ⟨rfl, e1⟩
                obtain rfl := Eq.symm e1
                have HX : Hid ((wr.alloc (.cells #[.int .u32 (y : Int)] 23)).ownsRow WQ.heap.size 23 1 u12 j (cellsF (fun r => g (g r)) j)) := HO.out.alloc _
                go_wp2_with (at_builtin; refine wpList_append_own _ rfl _ _ 69 rfl WQ.heap.size 23 i0 (.int .u32 0) 1 4 Tryd.underlying69 hi0 hz0 hz1 hz2 rfl (by decide) _ _ _ rfl HX.out ⟨wr.heap.size, 0, none⟩ 1 1 [.int .u32 (y : Int)] rfl rfl (one_cell wr _ 23) (by intro u hu; simp at hu; subst hu; rfl) (by unfold maxLen; omega) (by omega) (by simp; omega) ?_)
                intro v6 w6 hown6 hgrow6 _
                have hown7 : w6.ownsRow WQ.heap.size 23 1 v6 (j + 1) (cellsF (fun r => g (g r)) (j + 1)) := by
                  rw [cellsF_snoc, ← HY.out]; exact hown6
                have hB6 : Below WQ.heap.size WQ w6 := Below.grown (hBx.alloc hBx.size _) hgrow6 (by simp; omega) fun g hg => (HO.out.lt g hg).1
                clear hown6 hgrow6 HX HO
                go_wp2_with fail
                exact ⟨⟨j + 1, by omega, by go_num, hown7, hB6⟩, by simp only [intOf]; omega⟩
              · obtain rfl : j = 32 := by omega
                obtain ⟨b3, cap3, rfl, hb3, hrow3⟩ := row_of hown
                clear hown HO
                go_wp2_with fail
                exact ⟨⟨q, m / 2, fun r => g (g r), b3, cap3, rfl, by go_num, rfl, hq, by omega, hg.twice, A2, hb3, hrow3, hBq.trans (hBx.mono hBq.size)⟩, by simp only [intOf]; omega⟩
/-- What n times eight steps, there or back, make. -/
theorem rfar_forth (r : Nat) (hr : r < 4294967296) (n : Nat) (hn : n < 9223372036854775808) (w : World) : Calls Tryd.prog 36 #[.int .u32 r, .int .i64 n, .bool false] w fun e w' => e = .returned (.int .u32 ((itr (turnsN 8) n r : Nat) : Int)) ∧ Below w.heap.size w w' :=
  far_false (turnsN 8) turnsN (lin_turns 8) (fun _ => rfl) (fun _ => rfl) (fun k x h => turns_lt k x h) (fun k x hx w => by have := turn_any (turnsN k x) (turns_lt k x hx) w; rw [← turns_last] at this; exact this) r hr n hn w
theorem rfar_back (r : Nat) (hr : r < 4294967296) (n : Nat) (hn : n < 9223372036854775808) (w : World) : Calls Tryd.prog 36 #[.int .u32 r, .int .i64 n, .bool true] w fun e w' => e = .returned (.int .u32 ((itr (undosN 8) n r : Nat) : Int)) ∧ Below w.heap.size w w' :=
  far_true (undosN 8) undosN (lin_undos 8) (fun _ => rfl) (fun _ => rfl) (fun k x h => undos_lt k x h) (fun k x hx w => by have := undone_any (undosN k x) (undos_lt k x hx) w; rw [← undos_last] at this; exact this) r hr n hn w
end Go.Proofs.YtabipemlemppjaaDoor
