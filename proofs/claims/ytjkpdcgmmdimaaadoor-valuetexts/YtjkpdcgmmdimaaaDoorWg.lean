/- Package value's digits: the text of a number in a base from 2 to 16, where dividing it is known; memory only grows. -/
import Derived.Test.YtjkpdcgmmdimaaaDoorWb
import Derived.Test.YtjkpdcgmmdimaaaDoorWr
import Derived.Test.YtjkpdcgmmdimaaaDoorTxt
import Derived.WalkSmall
import Derived.Deep.LoopGhost
import Derived.OwnWalk
import Derived.Laws.IdiomStrings
namespace Go.Proofs.YtjkpdcgmmdimaaaDoor
open Go.RowKit
set_option linter.unusedVariables false
set_option linter.unusedSimpArgs false

/-- The table of signs lies in memory. -/
def Tab (w : World) : Prop := ∀ d, d < 16 → w.cell? ⟨0, d, none⟩ = some (.int .u8 ((sgn d).toNat : Int))
theorem Tab.below {w w' : World} (h : Tab w) (hb : Below w.heap.size w w') : Tab w' := fun d hd => by
  have hz : 0 < w.heap.size := World.block_lt_of_cell? w ⟨0, d, none⟩ (h d hd)
  rw [hb.cell (p := ⟨0, d, none⟩) hz]; exact h d hd
theorem Tab.pos {w : World} (h : Tab w) : 0 < w.heap.size := World.block_lt_of_cell? w ⟨0, 0, none⟩ (h 0 (by decide))

/-- What dividing any number up to n by a base answers. -/
def DivSaid (base n : Nat) : Prop := ∀ m, m ≤ n → ∀ w : World, Calls Tryd.prog 70 #[B m, .int .u64 base] w fun e w' => e = .returned (.tuple #[B (m / base), .int .u64 ((m % base : Nat) : Int)]) ∧ Below w.heap.size w w'

theorem run_eq0 {q : Nat} {b : Bool} (h : decide (q = 0) = b) (w : World) : (binOp .eql 24 (.agg #[.int .u64 (hiOf q), .int .u64 (loOf q)]) (.agg #[.int .u64 0, .int .u64 0])).run Tryd.prog w = .ok (.bool b) w := by
  have := run_eqB (n := q) (m := 0) h w
  rwa [zero_words] at this
theorem info5 : (Tryd.prog.info? 5).map (fun i => (i.zero, i.size, i.bytes)) = some (some (.int .u8 0), 1, 1) := by kernel_rfl

theorem ownsRow_below {w w1 : World} {base : Nat} {e : TypeId} {size : Nat} {v : Value} {n : Nat} {xs : List Value} (h : w.ownsRow base e size v n xs) (hb : Below w.heap.size w w1) : w1.ownsRow base e size v n xs := by
  obtain ⟨h1, h2⟩ := h
  refine ⟨h1, ?_⟩
  rcases h2 with h2 | ⟨g, cap, cur, a, b, c, d⟩
  · exact .inl h2
  · have hg : g < w.heap.size := (Array.getElem?_eq_some_iff.1 c).1
    exact .inr ⟨g, cap, cur, a, b, by rw [hb.block g hg]; exact c, d⟩

/-- Behind two stores into a box and an append: the box holds what was stored, all older memory is as it was. -/
theorem after_append {w w1 w2 : World} {x0 y0 x y : Value} {o : Obj} {row : Option Nat} (h0 : w1.cell? ⟨w.heap.size, 0, none⟩ = some x0) (h1 : w1.cell? ⟨w.heap.size, 1, none⟩ = some y0)
    (f0 : w1.frozen? ⟨w.heap.size, 0, none⟩ = false) (f1 : w1.frozen? ⟨w.heap.size, 1, none⟩ = false) (hsz : w.heap.size < w1.heap.size) (hb : Below w.heap.size w w1)
    (hg : (((w1.setCell ⟨w.heap.size, 0, none⟩ x).setCell ⟨w.heap.size, 1, none⟩ y).alloc o).grownBy w2 row) (hn : ∀ b, b ≤ w.heap.size → some b ≠ row) :
    w2.cell? ⟨w.heap.size, 0, none⟩ = some x ∧ w2.cell? ⟨w.heap.size, 1, none⟩ = some y ∧ w2.frozen? ⟨w.heap.size, 0, none⟩ = false ∧ w2.frozen? ⟨w.heap.size, 1, none⟩ = false ∧ Below w.heap.size w w2 ∧ w.heap.size < w2.heap.size := by
  have e0 : ((w1.setCell ⟨w.heap.size, 0, none⟩ x).setCell ⟨w.heap.size, 1, none⟩ y).cell? ⟨w.heap.size, 0, none⟩ = some x := by
    rw [World.cell?_setCell_other _ _ _ _ (by intro e; cases e), World.cell?_setCell_same _ _ _ h0]
  have e1 : ((w1.setCell ⟨w.heap.size, 0, none⟩ x).setCell ⟨w.heap.size, 1, none⟩ y).cell? ⟨w.heap.size, 1, none⟩ = some y := by
    rw [World.cell?_setCell_same _ _ _ (u := y0)]
    rw [World.cell?_setCell_other _ _ _ _ (by intro e; cases e)]; exact h1
  have hs : w.heap.size < ((w1.setCell ⟨w.heap.size, 0, none⟩ x).setCell ⟨w.heap.size, 1, none⟩ y).heap.size := by simpa using hsz
  have hs2 := hg.size
  simp only [World.size_alloc, World.size_setCell] at hs2
  have hbk := hg.block w.heap.size (by simp; omega) (hn _ (Nat.le_refl _))
  refine ⟨?_, ?_, ?_, ?_, ?_, by omega⟩
  · rw [World.cell?_of_block (a := ⟨w.heap.size, 0, none⟩) hbk, World.cell?_alloc_past _ _ _ hs]; exact e0
  · rw [World.cell?_of_block (a := ⟨w.heap.size, 1, none⟩) hbk, World.cell?_alloc_past _ _ _ hs]; exact e1
  · rw [World.frozen?_of_block (a := ⟨w.heap.size, 0, none⟩) hbk, World.frozen?_alloc_past _ _ _ hs]; simpa using f0
  · rw [World.frozen?_of_block (a := ⟨w.heap.size, 1, none⟩) hbk, World.frozen?_alloc_past _ _ _ hs]; simpa using f1
  · refine Below.grown (w := ((w1.setCell ⟨w.heap.size, 0, none⟩ x).setCell ⟨w.heap.size, 1, none⟩ y).alloc o) (((hb.setCell (Nat.le_refl _) x).setCell (Nat.le_refl _) y).alloc (by simp; omega) o) hg (by simp; omega) fun k hk => ?_
    exact Nat.le_of_not_lt fun hlt => hn k (by omega) hk.symm

set_option maxHeartbeats 1000000 in
set_option maxRecDepth 100000 in
theorem digits_of (base n : Nat) (hb0 : 2 ≤ base) (hb1 : base ≤ 16) (hn : n < base ^ 128) (hdiv : DivSaid base n) (w : World) (hT : Tab w) :
    Calls Tryd.prog 57 #[B n, .int .u64 base] w fun e w' => e = .returned (.string ⟨(digs base n).toArray⟩) ∧ Below w.heap.size w w' := by
  obtain ⟨i0, hi, hz0, hz1, hz2⟩ := info_parts info5
  have h00 := hT.pos
  go_enter Tryd.func57, Tryd.ntmps57
  go_wp2
  go_loopg [5] 128 (fun k v wr => ∃ (m : Nat) (xs : List UInt8), m ≤ n ∧ m < base ^ k ∧ 1 ≤ k ∧ xs.length + k ≤ 128 ∧ xs ++ rdig base k m = rdig base 128 n ∧ wr.ownsRow (w.heap.size + 1) 5 1 v xs.length (cells8 xs) ∧
    wr.cell? ⟨w.heap.size, 0, none⟩ = some (.int .u64 (hiOf m)) ∧ wr.cell? ⟨w.heap.size, 1, none⟩ = some (.int .u64 (loOf m)) ∧ wr.frozen? ⟨w.heap.size, 0, none⟩ = false ∧ wr.frozen? ⟨w.heap.size, 1, none⟩ = false ∧ Below w.heap.size w wr ∧ w.heap.size < wr.heap.size)
  case atStart => exact ⟨n, [], Nat.le_refl _, hn, by omega, by simp, by simp, World.ownsRow_nil _ _ _ _, by simp, by simp, by simp, by simp, by go_grown, by simp⟩
  case round =>
    obtain ⟨m, xs, hm, hmk, hk1, hlen, hx, hown, hc0, hc1, hf0, hf1, hbel, hsz⟩ := hrel
    have A : Aside (xs ++ rdig base gk m = rdig base 128 n) := hx
    have A2 : Aside (m < base ^ gk) := hmk
    clear hx hmk hn
    obtain ⟨q, hq⟩ : ∃ q, q = m / base := ⟨_, rfl⟩
    obtain ⟨d, hd⟩ : ∃ d, d = m % base := ⟨_, rfl⟩
    have hcall : ∀ w : World, Calls Tryd.prog 70 #[B m, .int .u64 base] w fun e w' => e = .returned (.tuple #[B q, .int .u64 (d : Int)]) ∧ Below w.heap.size w w' := by rw [hq, hd]; exact hdiv m hm
    have hd16 : d < 16 := by have := Nat.mod_lt m (show base > 0 by omega); omega
    have HC : Hid _ := hcall
    have HQ : Hid _ := hq
    have HD : Hid _ := hd
    clear hcall hq hd hdiv
    go_wp2_with fail
    refine (HC.out wr).mono ?_
    rintro e w1 ⟨rfl, hbq⟩
    have hown1 := ownsRow_below hown hbq
    have hc0' : w1.cell? ⟨w.heap.size, 0, none⟩ = some (.int .u64 (hiOf m)) := by rw [hbq.cell (p := ⟨w.heap.size, 0, none⟩) hsz]; exact hc0
    have hc1' : w1.cell? ⟨w.heap.size, 1, none⟩ = some (.int .u64 (loOf m)) := by rw [hbq.cell (p := ⟨w.heap.size, 1, none⟩) hsz]; exact hc1
    have hf0' : w1.frozen? ⟨w.heap.size, 0, none⟩ = false := by rw [hbq.frozen (p := ⟨w.heap.size, 0, none⟩) hsz]; exact hf0
    have hf1' : w1.frozen? ⟨w.heap.size, 1, none⟩ = false := by rw [hbq.frozen (p := ⟨w.heap.size, 1, none⟩) hsz]; exact hf1
    have hsz1 : w.heap.size < w1.heap.size := Nat.lt_of_lt_of_le hsz hbq.size
    have hbel1 : Below w.heap.size w w1 := hbel.trans (hbq.mono (by omega))
    have ht : w1.cell? ⟨0, d, none⟩ = some (.int .u8 ((sgn d).toNat : Int)) := (hT.below hbel1) d hd16
    have hne : w.heap.size ≠ 0 := by omega
    clear hown hc0 hc1 hf0 hf1 hbel hbq hsz
    have HO := ((ownsRow_setCell_below (ownsRow_setCell_below hown1 (a := ⟨w.heap.size, 0, none⟩) (by simp) (.int .u64 (hiOf q))) (a := ⟨w.heap.size, 1, none⟩) (by simp) (.int .u64 (loOf q))).alloc (.cells #[.int .u8 ((sgn d).toNat : Int)] 5))
    have HO' : Hid _ := HO
    have hlt := hown1.lt
    have HL : Hid _ := hlt
    clear HO hown1 hlt
    go_wp2_with (at_builtin; refine wpList_append_own _ rfl _ _ 57 rfl (w.heap.size + 1) 5 i0 (.int .u8 0) 1 1 Tryd.underlying57 hi hz0 hz1 hz2 rfl (by decide) _ _ _ rfl HO'.out ⟨w1.heap.size, 0, none⟩ 1 1 [.int .u8 ((sgn d).toNat : Int)] rfl rfl ?c1 ?c2 ?c3 ?c4 ?c5 ?_)
    case c1 =>
      intro j u hj
      match j, hj with
      | 0, hj => simp at hj; subst hj; simp only [Addr.add]; exact World.cell?_alloc_at _ _ _ _ (by simp)
    case c2 => intro u hu; simp at hu; subst hu; rfl
    case c3 => unfold maxLen; omega
    case c4 => omega
    case c5 => simp; omega
    intro v' w2 hown2 hgrow _
    have hnb : ∀ b, b ≤ w.heap.size → some b ≠ u5.ownBlock := fun b hb e => by have := (HL.out b e.symm).1; omega
    obtain ⟨gc0, gc1, gf0, gf1, gbel, gsz⟩ := after_append hc0' hc1' hf0' hf1' hsz1 hbel1 hgrow hnb
    rw [← cells8_snoc] at hown2
    clear hc0' hc1' hf0' hf1' hsz1 hbel1 hgrow hnb HO' HL HC ht
    by_cases hq0 : q = 0
    · have hq := fun w => run_eq0 (q := q) (b := true) (by simp [hq0]) w
      have Hq0 : Hid (q = 0) := hq0
      clear hq0
      have hl1 : (xs ++ [sgn d]).length = xs.length + 1 := by simp
      rw [← hl1] at hown2
      have hrev := reverse_owned hown2 (by simp) (by omega) (by omega)
      have HR : Hid (Calls Tryd.prog 71 #[v'] w2 _) := hrev
      clear hl1 hown2 hrev
      go_wp2_with fail
      refine HR.out.mono ?_
      rintro e w3 ⟨rfl, hconv, hbel3⟩
      have hcv := hconv w3 rfl
      clear hconv
      go_wp2
      go_ret
      refine ⟨?_, gbel.trans (hbel3.mono (by omega))⟩
      have e1 : xs ++ [sgn d] = rdig base 128 n := by
        rw [← A.out, show gk = gk - 1 + 1 by omega, rdig_stop (by rw [← HQ.out]; exact Hq0.out), HD.out]
      show Ending.returned (.string ⟨(sgn d :: xs.reverse).toArray⟩) = _
      rw [show sgn d :: xs.reverse = (xs ++ [sgn d]).reverse by simp, e1]; rfl
    · have hq := fun w => run_eq0 (q := q) (b := false) (by simp [hq0]) w
      go_wp2_with fail
      go_roundg (gk - 1)
      case measure => omega
      case rel =>
        have e1 : q < base ^ (gk - 1) := by
          rw [HQ.out]; refine div_lt_pow (by omega) ?_; rw [show gk - 1 + 1 = gk by omega]; exact A2.out
        have hk2 : 1 ≤ gk - 1 := by
          rcases Nat.eq_zero_or_pos (gk - 1) with h | h
          · rw [h] at e1; simp at e1; omega
          · exact h
        refine ⟨q, xs ++ [sgn d], ?_, e1, hk2, by simp; omega, ?_, ?_, gc0, gc1, gf0, gf1, gbel, gsz⟩
        · rw [HQ.out]; exact Nat.le_trans (Nat.div_le_self _ _) hm
        · rw [← A.out, List.append_assoc, show gk = gk - 1 + 1 by omega, rdig_more (by rw [← HQ.out]; exact hq0), HQ.out, HD.out]; rfl
        · simpa using hown2
end Go.Proofs.YtjkpdcgmmdimaaaDoor
