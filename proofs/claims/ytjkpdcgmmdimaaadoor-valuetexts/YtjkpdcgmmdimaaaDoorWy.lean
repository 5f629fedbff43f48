/- Package value's Bytes: a value's bytes, the highest first, or the error's number; memory only grows. -/
import Derived.Test.YtjkpdcgmmdimaaaDoorLo
import Derived.Test.YtjkpdcgmmdimaaaDoorWt
import Derived.Test.YtjkpdcgmmdimaaaDoorBox
namespace Go.Proofs.YtjkpdcgmmdimaaaDoor
open Go.RowKit
set_option linter.unusedVariables false
set_option linter.unusedSimpArgs false

theorem byteCount_any (wd : Int) (h0 : 0 ≤ wd) (h1 : wd ≤ 128) (w : World) : Calls Tryd.prog 51 #[.int .i64 wd] w fun e w' => e = .returned (.int .i64 ((wd + 7) / 8)) ∧ w' = w := by
  go_enter Tryd.func51, Tryd.ntmps51
  go_wp2
  go_ret
  exact ⟨rfl, rfl⟩

theorem be_get (k n t : Nat) (h : t < k) : (be k n)[t]? = some (UInt8.ofNat (byteN n (k - 1 - t))) := by
  induction k generalizing t with
  | zero => omega
  | succ k ih =>
    cases t with
    | zero => simp [be, byteN]
    | succ t =>
      have := ih t (by omega)
      simp only [be, List.getElem?_cons_succ, this]
      rw [show k + 1 - 1 - (t + 1) = k - 1 - t by omega]
/-- A row of k bytes of the call's own, as a list of numbers. -/
def Row (w : World) (g k : Nat) (f : Nat → Nat) : Prop := ∀ t, t < k → w.cell? ⟨g, t, none⟩ = some (.int .u8 (f t : Nat)) ∧ w.frozen? ⟨g, t, none⟩ = false
theorem Row.below {w w' : World} {g k B : Nat} {f : Nat → Nat} (h : Row w g k f) (hb : Below B w w') (hB : g < B) : Row w' g k f := fun t ht =>
  ⟨by rw [hb.cell (p := ⟨g, t, none⟩) hB]; exact (h t ht).1, by rw [hb.frozen (p := ⟨g, t, none⟩) hB]; exact (h t ht).2⟩
theorem Row.set {w : World} {g k : Nat} {f : Nat → Nat} (h : Row w g k f) (j b : Nat) (hj : j < k) : Row (w.setCell ⟨g, j, none⟩ (.int .u8 b)) g k (fun t => if t = j then b else f t) := fun t ht => by
  refine ⟨?_, by simpa using (h t ht).2⟩
  by_cases e : t = j
  · subst e; rw [World.cell?_setCell_same _ _ _ (h t ht).1]; simp
  · rw [World.cell?_setCell_other _ _ _ _ (by intro x; injection x with _ x _; exact e x.symm), (h t ht).1]; simp [e]
theorem Row.made {w : World} {base g k : Nat} (h : w.ownsRow base 5 1 (.slice (some ⟨g, 0, none⟩) k k) k (madeCells #[.int .u8 0] k).toList) : Row w g k (fun _ => 0) := fun t ht => by
  have hc := h.cells (g := g) rfl t (.int .u8 0) (by simp [madeCells, ht, Nat.mod_one])
  refine ⟨?_, ?_⟩
  · rw [show (⟨g, 0, none⟩ : Addr).add t = ⟨g, t, none⟩ by unfold Addr.add; split <;> simp_all] at hc
    exact hc
  · rcases h.2 with ⟨e, _⟩ | ⟨g', cap, cur, e, _, hg, _⟩
    · cases e
    · injection e with e _ _
      injection e with e
      injection e with e _ _
      subst e
      simp [World.frozen?, hg]

set_option maxHeartbeats 1000000 in
theorem bytes_ok (n : Nat) (hn : Is128 n) (wd : Int) (hW : isW wd = true) (hf : fitsN n wd = true) (w : World) : Calls Tryd.prog 34 #[B n, .int .i64 wd] w fun e w' =>
    e = .returned (.tuple #[.string ⟨(be ((wd + 7) / 8).toNat n).toArray⟩, .int .i64 0]) ∧ Below w.heap.size w w' := by
  obtain ⟨i0, hi, hz0, hz1, hz2⟩ := info_parts info5
  have hb := isW_bounds hW
  have HF : Hid (fitsN n wd = true) := hf
  obtain ⟨k, hk⟩ : ∃ k : Nat, (wd + 7) / 8 = (k : Int) := ⟨((wd + 7) / 8).toNat, by omega⟩
  have hk1 : 1 ≤ k := by omega
  have hk16 : k ≤ 16 := by omega
  have hk0 : ((wd + 7) / 8).toNat = k := by omega
  rw [hk0]
  have HK : Hid ((wd + 7) / 8 = (k : Int)) := hk
  clear hk hk0 hf
  go_enter Tryd.func34, Tryd.ntmps34
  go_wp2_with fail
  refine (isWidth_val hW _).mono ?_
  rintro e w1 ⟨rfl, rfl⟩
  go_wp2_with fail
  refine (fits_any n hn wd _).mono ?_
  rw [HF.out]
  rintro e w1 ⟨rfl, hb1⟩
  have c0 := hb1.cell (p := ⟨w.heap.size, 0, none⟩) (by simp)
  have c1 := hb1.cell (p := ⟨w.heap.size, 1, none⟩) (by simp)
  simp at c0 c1
  have hz : w.heap.size < w1.heap.size := by have := hb1.size; simp at this; omega
  have B1 : Below w.heap.size w w1 := bstep ((Below.refl _ _).alloc (Nat.le_refl _) _) hb1
  go_wp2_with fail
  refine (byteCount_any wd (by omega) (by omega) _).mono ?_
  rw [HK.out]
  rintro e w2 ⟨rfl, hw2⟩
  obtain rfl : w1 = w2 := hw2.symm
  go_wp2_with (at_make; refine wpList_make_full _ rfl _ _ 57 rfl (w.heap.size + 1) 5 i0 (.int .u8 0) 1 Tryd.underlying57 hi hz0 hz1 _ _ _ _ k rfl rfl rfl rfl ?c1 ?c2 ?c3 ?_)
  case c1 => rw [hz2]; omega
  case c2 => unfold maxLen; omega
  case c3 => omega
  intro w2 hown hgrow
  have R2 := Row.made hown
  have Bx2 : Box w2 w.heap.size n := ⟨hgrow.cell c0 (by simp), hgrow.cell c1 (by simp)⟩
  have B2 : Below w.heap.size w w2 := B1.grown hgrow B1.size (fun _ h => by cases h)
  have z2 : w1.heap.size < w2.heap.size := by
    have := (hown.lt w1.heap.size rfl).2; exact this
  have hG : w.heap.size ≠ w1.heap.size := by omega
  clear hown hgrow c0 c1 B1 hb1
  go_wp2_with fail
  go_loopw [21] (fun c wr => ∃ (j : Nat) (f : Nat → Nat), j ≤ k ∧ c = .int .i64 j ∧ Box wr w.heap.size n ∧ Row wr w1.heap.size k f ∧ (∀ t, t < j → f t = byteN n (k - 1 - t)) ∧ Below w.heap.size w wr) (fun c _ => k - (intOf c).toNat)
  case atStart => exact ⟨0, fun _ => 0, by omega, rfl, Bx2, R2, fun t h => by omega, B2⟩
  case round =>
    obtain ⟨j, f, hj, rfl, Bx, R, hff, hB⟩ := hrel
    have HFF : Hid (∀ t, t < j → f t = byteN n (k - 1 - t)) := hff
    clear hff Bx2 R2 B2
    by_cases hlt : j < k
    · obtain ⟨c0, c1⟩ := id Bx
      have hbt := byteN_lt n (k - 1 - j)
      go_wp2_with fail
      refine (byteAt_int n _ (by omega) (by omega) _).mono ?_
      rw [show ((k : Int) - 1 - (j : Int)).toNat = k - 1 - j by omega]
      generalize hbv : byteN n (k - 1 - j) = b at *
      have HBV : Hid (byteN n (k - 1 - j) = b) := hbv
      clear hbv
      rintro e w3 ⟨rfl, hb3⟩
      have Bx3 := Bx.below hb3 Bx.lt
      have hgl : w1.heap.size < wr.heap.size := World.block_lt_of_cell? wr ⟨w1.heap.size, 0, none⟩ (R 0 (by omega)).1
      have R3 := R.below hb3 hgl
      have hB3 := bstep hB hb3
      obtain ⟨rc, rf⟩ := R3 j hlt
      clear c0 c1 Bx R hB hb3
      go_wp2
      go_roundw
      case rel =>
        refine ⟨j + 1, _, by omega, by go_num, ?_, R3.set j b hlt, ?_, hB3.setCell (by simp; omega) _⟩
        · exact ⟨by rw [World.cell?_setCell_other _ _ _ _ (by intro x; injection x with x _ _; exact hG x.symm)]; exact Bx3.1, by rw [World.cell?_setCell_other _ _ _ _ (by intro x; injection x with x _ _; exact hG x.symm)]; exact Bx3.2⟩
        · intro t ht
          by_cases e : t = j
          · simp only [e, if_true]; exact HBV.out.symm
          · simp only [e, if_false]; exact HFF.out t (by omega)
      case measure => simp only [intOf]; omega
    · have hjk : j = k := by omega
      have hcv : (convert 57 9 (.slice (some ⟨w1.heap.size, 0, none⟩) k k)).run Tryd.prog wr = .ok (.string ⟨(be k n).toArray⟩) wr := by
        have := run_convert_bytes_back (P := Tryd.prog) wr 57 9 5 ⟨w1.heap.size, 0, none⟩ k (be k n) Tryd.underlying57 Tryd.underlying5 Tryd.underlying9 (fun t ht => by
          have ht' : t < k := by rw [be_length] at ht; exact ht
          rw [show (⟨w1.heap.size, 0, none⟩ : Addr).add t = ⟨w1.heap.size, t, none⟩ by unfold Addr.add; split <;> simp_all]
          rw [(R t ht').1, HFF.out t (by omega)]
          have e := be_get k n t ht'
          rw [List.getElem?_eq_getElem ht] at e
          rw [Option.some.inj e]
          have := byteN_lt n (k - 1 - t)
          simp [UInt8.toNat_ofNat', Nat.mod_eq_of_lt this])
        rw [be_length] at this
        exact this
      clear hjk HFF R
      go_wp2
      go_ret2
      exact ⟨rfl, hB⟩
end Go.Proofs.YtjkpdcgmmdimaaaDoor
