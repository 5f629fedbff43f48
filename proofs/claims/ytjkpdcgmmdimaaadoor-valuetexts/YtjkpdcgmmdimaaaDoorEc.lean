/- The reference's digits: a number in a base from 2 to 16. -/
import Derived.Test.YtjkpdcgmmdimaaaDoorEa
import Derived.Test.YtjkpdcgmmdimaaaDoorEb
import Derived.Test.YtjkpdcgmmdimaaaDoorSo
namespace Go.Proofs.YtjkpdcgmmdimaaaDoor
open Go.RowKit
set_option linter.unusedVariables false
set_option linter.unusedSimpArgs false

theorem rdig_unfold (base f n : Nat) : rdig base (f + 1) n = sgn (n % base) :: (if n / base = 0 then [] else rdig base f (n / base)) := rfl
theorem run_neq0 {q : Nat} {b : Bool} (h : decide (q = 0) = b) (w : World) : (binOp .neq 24 (.agg #[.int .u64 (hiOf q), .int .u64 (loOf q)]) (.agg #[.int .u64 0, .int .u64 0])).run Tryd.prog w = .ok (.bool (!b)) w := by
  have e : ((hiOf q == 0) && (loOf q == 0)) = b := by
    have := agg_eq q 0
    rw [show hiOf 0 = 0 from rfl, show loOf 0 = 0 from rfl] at this
    rw [this, h]
  rw [run_neqW, e]

theorem own_form {w : World} {base n : Nat} {v : Value} {xs : List Value} (h : w.ownsRow base 5 1 v n xs) : ∃ ao cap, v = .slice ao n cap := by
  rcases h.2 with ⟨e, h0⟩ | ⟨g, cap, cur, e, _⟩
  · exact ⟨none, 0, by rw [e, h0]⟩
  · exact ⟨_, cap, e⟩
theorem Wds.grown {w w' : World} {b : Nat} {x y : Int} {row : Option Nat} (h : Wds w b x y) (hg : w.grownBy w' row) (hne : some b ≠ row) : Wds w' b x y := by
  have hbk := hg.block b h.lt hne
  exact ⟨by rw [World.cell?_of_block (a := ⟨b, 0, none⟩) hbk]; exact h.1, by rw [World.cell?_of_block (a := ⟨b, 1, none⟩) hbk]; exact h.2.1, by rw [World.frozen?_of_block (a := ⟨b, 0, none⟩) hbk]; exact h.2.2.1, by rw [World.frozen?_of_block (a := ⟨b, 1, none⟩) hbk]; exact h.2.2.2⟩

set_option maxHeartbeats 4000000 in
set_option maxRecDepth 100000 in
theorem rdigits_any (base n : Nat) (hb0 : 2 ≤ base) (hb1 : base ≤ 16) (hn : Is128 n) (hp : n < base ^ 128) (w : World) :
    Calls Tryd.prog 64 #[B n, .int .i64 base] w fun e w' => e = .returned (.string ⟨(digs base n).toArray⟩) ∧ Below w.heap.size w w' := by
  obtain ⟨i0, hi, hz0, hz1, hz2⟩ := info_parts info5
  go_enter Tryd.func64, Tryd.ntmps64
  go_wp2_with fail
  go_loopg [5] 128 (fun k v wr => ∃ (m : Nat) (xs : List UInt8), Is128 m ∧ Aside (m < base ^ k) ∧ xs.length + k ≤ 128 ∧ Aside ((xs = [] ∧ xs ++ rdig base k m = rdig base 128 n ∧ 1 ≤ k) ∨ (xs ≠ [] ∧ xs ++ (if m = 0 then [] else rdig base k m) = rdig base 128 n)) ∧ wr.ownsRow (w.heap.size + 1) 5 1 v xs.length (cells8 xs) ∧ Wds wr w.heap.size (hiOf m) (loOf m) ∧ Below w.heap.size w wr)
  case atStart => exact ⟨n, [], hn, hp, by simp, Or.inl ⟨rfl, rfl, by decide⟩, World.ownsRow_nil _ _ _ _, Wds.new w _ _, by go_grown⟩
  case round =>
    obtain ⟨m, xs, hm, hmk, hlen, A, hown, V, hB⟩ := hrel
    obtain ⟨v0, v1, v2, v3⟩ := id V
    obtain ⟨ao, cap, rfl⟩ := own_form hown
    have hlt0 := V.lt
    have DV : Hid (∀ w, Calls Tryd.prog 77 #[B m, .int .i64 base] w fun e w' => e = .returned (.tuple #[B (m / base), .int .i64 ((m % base : Nat) : Int)]) ∧ Below w.heap.size w w') := fun w => divided_any m base hm (by omega) hb1 w
    have hq128 : Is128 (m / base) := by unfold Is128 at *; exact Nat.lt_of_le_of_lt (Nat.div_le_self m base) hm
    have hd16 : m % base < 16 := by have := Nat.mod_lt m (show base > 0 by omega); omega
    have SG : Hid (∀ w, Calls Tryd.prog 65 #[.int .i64 ((m % base : Nat) : Int)] w fun e w' => e = .returned (.int .u8 ((sgn (m % base)).toNat : Int)) ∧ w' = w) := fun w => sign_any _ hd16 w
    by_cases hgo : xs = [] ∨ m ≠ 0
    · have A1 : xs ++ rdig base gk m = rdig base 128 n ∧ 1 ≤ gk := by
        rcases A.out with ⟨h1, h2, h3⟩ | ⟨h1, h2⟩
        · exact ⟨h2, h3⟩
        · have hm0 : m ≠ 0 := by rcases hgo with h | h; exact absurd h h1; exact h
          rw [if_neg hm0] at h2
          refine ⟨h2, ?_⟩
          rcases Nat.eq_zero_or_pos gk with h | h
          · have := hmk.out; rw [h, Nat.pow_zero] at this; omega
          · exact h
      obtain ⟨A1, hgk⟩ := A1
      have A2 : Aside ((xs ++ [sgn (m % base)]) ++ (if m / base = 0 then [] else rdig base (gk - 1) (m / base)) = rdig base 128 n) := by
        show _ = _
        rw [← A1]
        obtain ⟨g', hg'⟩ : ∃ g', gk = g' + 1 := ⟨gk - 1, by omega⟩
        rw [hg', rdig_unfold, List.append_assoc]; rfl
      have hmk2 : Aside (m / base < base ^ (gk - 1)) := by
        show _ < _
        apply div_lt_pow (by omega)
        rw [show gk - 1 + 1 = gk by omega]; exact hmk.out
      have HO : Hid (wr.ownsRow (w.heap.size + 1) 5 1 (.slice ao xs.length cap) xs.length (cells8 xs)) := hown
      clear A A1 hmk hown
      have hpre : (xs.length = 0) ∨ ((xs.length == 0) = false ∧ m ≠ 0) := by
        rcases hgo with h | h
        · left; rw [h]; rfl
        · by_cases hx : xs.length = 0
          · left; exact hx
          · right; exact ⟨by simpa using hx, h⟩
      clear hgo
      generalize hdv : m / base = q at *
      generalize hdm : m % base = d at *
      clear hdv hdm
      rcases hpre with hx0 | ⟨hx1, hm0⟩
      · have hx2 : (((xs.length : Nat) : Int) == 0) = true := by simp [hx0]
        clear hx0
        go_wp2_with fail
        refine (DV.out _).mono ?_
        rintro e w1 ⟨rfl, hb1'⟩
        have V1 := (V.below hb1' V.lt).past (.cells #[.int .u64 (hiOf q), .int .u64 (loOf q)] 24)
        have Q1 := Box.new w1 q
        have hB1' := bstep hB hb1'
        have hB1 := hB1'.alloc hB1'.size (.cells #[.int .u64 (hiOf q), .int .u64 (loOf q)] 24)
        have HO1 : Hid ((w1.alloc (.cells #[.int .u64 (hiOf q), .int .u64 (loOf q)] 24)).ownsRow (w.heap.size + 1) 5 1 (.slice ao xs.length cap) xs.length (cells8 xs)) := (ownsRow_below HO.out hb1').alloc _
        have hne1 : w.heap.size < w1.heap.size := Nat.lt_of_lt_of_le hlt0 hb1'.size
        have HNB : Hid (∀ g, Value.ownBlock (.slice ao xs.length cap) = some g → w.heap.size + 1 ≤ g ∧ g < w1.heap.size) := fun g hg => ((ownsRow_below HO.out hb1').lt g hg)
        clear v0 v1 v2 v3 V hB hb1' hB1' HO DV
        go_wp2_with fail
        generalize w1.alloc (.cells #[.int .u64 (hiOf q), .int .u64 (loOf q)] 24) = W1 at *
        refine (SG.out _).mono ?_
        rintro e w2 ⟨rfl, hw2⟩
        obtain rfl : w2 = W1 := hw2
        go_wp2_with (at_builtin; refine wpList_append_own _ rfl _ _ 57 rfl (w.heap.size + 1) 5 i0 (.int .u8 0) 1 1 Tryd.underlying57 hi hz0 hz1 hz2 rfl (by decide) _ _ _ rfl (HO1.out.alloc (.cells #[.int .u8 ((sgn d).toNat : Int)] 5)) ⟨w2.heap.size, 0, none⟩ 1 1 [.int .u8 ((sgn d).toNat : Int)] rfl rfl (one_cell w2 _ 5) (by intro u hu; simp at hu; subst hu; rfl) (by unfold maxLen; omega) (by omega) (by have := V1.lt; simp; omega) ?_)
        intro v' w3 hown3 hgrow _
        have hnb : some w.heap.size ≠ Value.ownBlock (.slice ao xs.length cap) := fun e => by have := (HNB.out _ e.symm).1; omega
        have hnb2 : some w1.heap.size ≠ Value.ownBlock (.slice ao xs.length cap) := fun e => by have := (HNB.out _ e.symm).2; omega
        have V3 := (V1.past (.cells #[.int .u8 ((sgn d).toNat : Int)] 5)).grown hgrow hnb
        have Q3 : Box w3 w1.heap.size q := ⟨hgrow.cell ((Q1.past _).1) hnb2, hgrow.cell ((Q1.past _).2) hnb2⟩
        have hB3 : Below w.heap.size w w3 := Below.grown (hB1.alloc hB1.size _) hgrow (by have := hB1.size; simp; omega) fun g hg => by have := (HNB.out g hg).1; omega
        have hown4 : w3.ownsRow (w.heap.size + 1) 5 1 v' (xs ++ [sgn d]).length (cells8 (xs ++ [sgn d])) := by
          have e1 : (xs ++ [sgn d]).length = xs.length + 1 := by simp
          rw [e1, cells8_snoc]; exact hown3
        have HO4 : Hid (w3.ownsRow (w.heap.size + 1) 5 1 v' (xs ++ [sgn d]).length (cells8 (xs ++ [sgn d]))) := hown4
        clear hown3 hown4 hgrow V1 Q1 hB1 HO1 HNB hnb hnb2
        obtain ⟨q0, q1⟩ := id Q3
        obtain ⟨v0, v1, v2, v3⟩ := id V3
        go_wp2_with fail
        go_roundg (gk - 1)
        case measure => omega
        case rel =>
          refine ⟨q, xs ++ [sgn d], hq128, hmk2, by simp; omega, Or.inr ⟨by simp, A2.out⟩, ?_, (V3.set0 _).set1 _, (hB3.setCell (by simp) _).setCell (by simp) _⟩
          exact ownsRow_setCell_below (ownsRow_setCell_below HO4.out (a := ⟨w.heap.size, 0, none⟩) (by simp) _) (a := ⟨w.heap.size, 1, none⟩) (by simp) _
      · have hx2 : (((xs.length : Nat) : Int) == 0) = false := by simp at hx1 ⊢; exact hx1
        have nz := fun w => run_neq0 (q := m) (b := false) (by simp [hm0]) w
        go_wp2_with fail
        refine (DV.out _).mono ?_
        rintro e w1 ⟨rfl, hb1'⟩
        have V1 := (V.below hb1' V.lt).past (.cells #[.int .u64 (hiOf q), .int .u64 (loOf q)] 24)
        have Q1 := Box.new w1 q
        have hB1' := bstep hB hb1'
        have hB1 := hB1'.alloc hB1'.size (.cells #[.int .u64 (hiOf q), .int .u64 (loOf q)] 24)
        have HO1 : Hid ((w1.alloc (.cells #[.int .u64 (hiOf q), .int .u64 (loOf q)] 24)).ownsRow (w.heap.size + 1) 5 1 (.slice ao xs.length cap) xs.length (cells8 xs)) := (ownsRow_below HO.out hb1').alloc _
        have hne1 : w.heap.size < w1.heap.size := Nat.lt_of_lt_of_le hlt0 hb1'.size
        have HNB : Hid (∀ g, Value.ownBlock (.slice ao xs.length cap) = some g → w.heap.size + 1 ≤ g ∧ g < w1.heap.size) := fun g hg => ((ownsRow_below HO.out hb1').lt g hg)
        clear v0 v1 v2 v3 V hB hb1' hB1' HO DV
        go_wp2_with fail
        generalize w1.alloc (.cells #[.int .u64 (hiOf q), .int .u64 (loOf q)] 24) = W1 at *
        refine (SG.out _).mono ?_
        rintro e w2 ⟨rfl, hw2⟩
        obtain rfl : w2 = W1 := hw2
        go_wp2_with (at_builtin; refine wpList_append_own _ rfl _ _ 57 rfl (w.heap.size + 1) 5 i0 (.int .u8 0) 1 1 Tryd.underlying57 hi hz0 hz1 hz2 rfl (by decide) _ _ _ rfl (HO1.out.alloc (.cells #[.int .u8 ((sgn d).toNat : Int)] 5)) ⟨w2.heap.size, 0, none⟩ 1 1 [.int .u8 ((sgn d).toNat : Int)] rfl rfl (one_cell w2 _ 5) (by intro u hu; simp at hu; subst hu; rfl) (by unfold maxLen; omega) (by omega) (by have := V1.lt; simp; omega) ?_)
        intro v' w3 hown3 hgrow _
        have hnb : some w.heap.size ≠ Value.ownBlock (.slice ao xs.length cap) := fun e => by have := (HNB.out _ e.symm).1; omega
        have hnb2 : some w1.heap.size ≠ Value.ownBlock (.slice ao xs.length cap) := fun e => by have := (HNB.out _ e.symm).2; omega
        have V3 := (V1.past (.cells #[.int .u8 ((sgn d).toNat : Int)] 5)).grown hgrow hnb
        have Q3 : Box w3 w1.heap.size q := ⟨hgrow.cell ((Q1.past _).1) hnb2, hgrow.cell ((Q1.past _).2) hnb2⟩
        have hB3 : Below w.heap.size w w3 := Below.grown (hB1.alloc hB1.size _) hgrow (by have := hB1.size; simp; omega) fun g hg => by have := (HNB.out g hg).1; omega
        have hown4 : w3.ownsRow (w.heap.size + 1) 5 1 v' (xs ++ [sgn d]).length (cells8 (xs ++ [sgn d])) := by
          have e1 : (xs ++ [sgn d]).length = xs.length + 1 := by simp
          rw [e1, cells8_snoc]; exact hown3
        have HO4 : Hid (w3.ownsRow (w.heap.size + 1) 5 1 v' (xs ++ [sgn d]).length (cells8 (xs ++ [sgn d]))) := hown4
        clear hown3 hown4 hgrow V1 Q1 hB1 HO1 HNB hnb hnb2
        obtain ⟨q0, q1⟩ := id Q3
        obtain ⟨v0, v1, v2, v3⟩ := id V3
        go_wp2_with fail
        go_roundg (gk - 1)
        case measure => omega
        case rel =>
          refine ⟨q, xs ++ [sgn d], hq128, hmk2, by simp; omega, Or.inr ⟨by simp, A2.out⟩, ?_, (V3.set0 _).set1 _, (hB3.setCell (by simp) _).setCell (by simp) _⟩
          exact ownsRow_setCell_below (ownsRow_setCell_below HO4.out (a := ⟨w.heap.size, 0, none⟩) (by simp) _) (a := ⟨w.heap.size, 1, none⟩) (by simp) _
    · have hx : xs ≠ [] := fun h => hgo (Or.inl h)
      have hm0 : m = 0 := by
        by_cases h : m = 0
        · exact h
        · exact absurd (Or.inr h) hgo
      have HX : Hid (xs = rdig base 128 n) := by
        rcases A.out with ⟨h1, _⟩ | ⟨_, h2⟩
        · exact absurd h1 hx
        · rw [if_pos hm0, List.append_nil] at h2; exact h2
      have hL : 1 ≤ xs.length := by
        rcases xs with _ | ⟨x, xs⟩
        · exact absurd rfl hx
        · simp
      have hx2 : (((xs.length : Nat) : Int) == 0) = false := by simp; exact hx
      have nz := fun w => run_neq0 (q := m) (b := true) (by simp [hm0]) w
      obtain ⟨g, hao⟩ : ∃ g, ao = some ⟨g, 0, none⟩ := by
        rcases hown.2 with ⟨e, h0⟩ | ⟨g, c, cur, e, _⟩
        · omega
        · injection e with e _ _; exact ⟨g, e⟩
      subst hao
      have HC : Hid (∀ j b, xs[j]? = some b → wr.cell? ⟨g, j, none⟩ = some (.int .u8 (b.toNat : Int))) := fun j b hj => by
        have := hown.cells (g := g) rfl j (.int .u8 (b.toNat : Int)) (by simp [cells8, hj])
        rwa [show (⟨g, 0, none⟩ : Addr).add j = ⟨g, j, none⟩ by unfold Addr.add; split <;> simp_all] at this
      have hg1 : g < wr.heap.size := (hown.lt g rfl).2
      clear hown A hmk hgo hm0 hx DV SG hq128
      obtain ⟨G, hG⟩ : ∃ G, wr.heap.size = G := ⟨_, rfl⟩
      have hGl : w.heap.size ≤ G := by omega
      go_wp2_with fail
      go_loopw [8, 9] (fun v c wx => ∃ t : Nat, t ≤ xs.length ∧ c = .int .i64 ((t : Int) - 1) ∧ wx.ownsRow G 5 1 v (xs.length - t) (cells8 (xs.reverse.take (xs.length - t))) ∧ Below G wr wx ∧ G ≤ wx.heap.size) (fun _ c _ => (intOf c + 1).toNat)
      case atStart => exact ⟨xs.length, Nat.le_refl _, rfl, by rw [Nat.sub_self]; exact World.ownsRow_nil _ _ _ _, Below.refl _ _, by omega⟩
      case round =>
        obtain ⟨t, ht, rfl, hown, hBx, hGx⟩ := hrel
        rcases Nat.eq_zero_or_pos t with rfl | hpos
        · have hl := List.take_of_length_le (l := xs.reverse) (i := xs.length) (by simp)
          rw [Nat.sub_zero, hl] at hown
          have hcv := conv_owned hown (by simp) (by simpa using hL)
          have hB2 := hB.trans (hBx.mono (by omega))
          have HE : Hid (xs.reverse = digs base n) := by show _ = _; rw [HX.out]; rfl
          clear hown hl
          go_wp2_with fail
          go_ret
          exact ⟨by rw [← HE.out]; rfl, hB2⟩
        · obtain ⟨j, rfl⟩ : ∃ j, t = j + 1 := ⟨t - 1, by omega⟩
          rw [show ((j + 1 : Nat) : Int) - 1 = (j : Int) by omega]
          have hjl : j < xs.length := by omega
          obtain ⟨b, hbj⟩ : ∃ b, xs[j]? = some b := ⟨xs[j], List.getElem?_eq_getElem hjl⟩
          have cj : wr.cell? ⟨g, j, none⟩ = some (.int .u8 (b.toNat : Int)) := by
            rw [hBx.cell (p := ⟨g, j, none⟩) (by rw [← hG]; exact hg1)]; exact HC.out j b hbj
          have hrev : xs.reverse.take (xs.length - j) = xs.reverse.take (xs.length - (j + 1)) ++ [b] := by
            rw [show xs.length - j = xs.length - (j + 1) + 1 by omega, List.take_add_one, List.getElem?_reverse (by omega), show xs.length - 1 - (xs.length - (j + 1)) = j by omega, hbj]; rfl
          have HO : Hid (wr.ownsRow G 5 1 u8 (xs.length - (j + 1)) (cells8 (xs.reverse.take (xs.length - (j + 1))))) := hown
          have HL : Hid _ := hown.lt
          have HRV : Hid _ := hrev
          clear hown hrev hbj
          go_wp2_with (at_builtin; refine wpList_append_own _ rfl _ _ 57 rfl G 5 i0 (.int .u8 0) 1 1 Tryd.underlying57 hi hz0 hz1 hz2 rfl (by decide) _ _ _ rfl (HO.out.alloc (.cells #[.int .u8 (b.toNat : Int)] 5)) ⟨wr.heap.size, 0, none⟩ 1 1 [.int .u8 (b.toNat : Int)] rfl rfl (one_cell wr _ 5) (by intro u hu; simp at hu; subst hu; rfl) (by unfold maxLen; omega) (by omega) (by simp; omega) ?_)
          intro v' w2 hown2 hgrow _
          have hown3 : w2.ownsRow G 5 1 v' (xs.length - j) (cells8 (xs.reverse.take (xs.length - j))) := by
            rw [HRV.out, cells8_snoc, show xs.length - j = xs.length - (j + 1) + 1 by omega]; exact hown2
          have hB2 := Below.grown (hBx.alloc hGx (.cells #[.int .u8 (b.toNat : Int)] 5)) hgrow (by simp; omega) fun q hq => (HL.out q hq).1
          have hG2 : G ≤ w2.heap.size := by have := hgrow.size; simp at this; omega
          clear hown2 hgrow
          go_wp2_with fail
          exact ⟨⟨j, by omega, rfl, hown3, hB2, hG2⟩, by simp only [intOf]; omega⟩
end Go.Proofs.YtjkpdcgmmdimaaaDoor
