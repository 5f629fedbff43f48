/- Bytes in all cases; the reference's Bytes. -/
import Derived.Test.YtjkpdcgmmdimaaaDoorBb
namespace Go.Proofs.YtjkpdcgmmdimaaaDoor
open Go.RowKit
set_option linter.unusedVariables false
set_option linter.unusedSimpArgs false

/-- What Bytes answers: the bytes and the error's number. -/
def byR (n : Nat) (wd : Int) : ByteArray × Int := if isW wd = true then (if fitsN n wd = true then (⟨(be ((wd + 7) / 8).toNat n).toArray⟩, 0) else (⟨#[]⟩, 11)) else (⟨#[]⟩, 10)
theorem byR_no {n : Nat} {wd : Int} (h : isW wd = false) : byR n wd = (⟨#[]⟩, 10) := by unfold byR; rw [h]; rfl
theorem byR_fit {n : Nat} {wd : Int} (h : isW wd = true) (h' : fitsN n wd = false) : byR n wd = (⟨#[]⟩, 11) := by unfold byR; rw [if_pos h, h']; rfl
theorem byR_yes {n : Nat} {wd : Int} (h : isW wd = true) (h' : fitsN n wd = true) : byR n wd = (⟨(be ((wd + 7) / 8).toNat n).toArray⟩, 0) := by unfold byR; rw [if_pos h, if_pos h']

theorem bytes_all (n : Nat) (hn : Is128 n) (wd : Int) (w : World) : Calls Tryd.prog 34 #[B n, .int .i64 wd] w fun e w' => e = .returned (.tuple #[.string (byR n wd).1, .int .i64 (byR n wd).2]) ∧ Below w.heap.size w w' := by
  cases hW : isW wd
  · rw [byR_no hW]
    go_enter Tryd.func34, Tryd.ntmps34
    go_wp2_with (go_at_call 42; refine (isWidth_val hW _).mono ?_; rintro e w' ⟨rfl, rfl⟩)
    go_ret2
    exact ⟨rfl, by go_grown⟩
  · cases hf : fitsN n wd
    · rw [byR_fit hW hf]
      have HF : Hid (fitsN n wd = false) := hf
      clear hf
      go_enter Tryd.func34, Tryd.ntmps34
      go_wp2_with (first | (go_at_call 42; refine (isWidth_val hW _).mono ?_; rintro e w' ⟨rfl, rfl⟩) | (go_at_call 10; refine (fits_any n hn wd _).mono ?_; rw [HF.out]; rintro e w1 ⟨rfl, hb1⟩))
      go_ret2
      exact ⟨rfl, bstep (by go_grown) hb1⟩
    · rw [byR_yes hW hf]; exact bytes_ok n hn wd hW hf w

theorem be_take {k n t : Nat} (h : t < k) : (be k n).take (k - t) = (be k n).take (k - (t + 1)) ++ [UInt8.ofNat (byteN n t)] := by
  have e := be_get k n (k - (t + 1)) (by omega)
  rw [show k - 1 - (k - (t + 1)) = t by omega] at e
  rw [show k - t = k - (t + 1) + 1 by omega, List.take_add_one, e]; rfl

theorem conv_owned {w : World} {base : Nat} {v : Value} {l : List UInt8} {m : Nat} (h : w.ownsRow base 5 1 v m (cells8 l)) (hm : m = l.length) (h1 : 1 ≤ l.length) : (convert 57 9 v).run Tryd.prog w = .ok (.string ⟨l.toArray⟩) w := by
  subst hm
  obtain ⟨_, h2⟩ := h
  rcases h2 with ⟨e, h0⟩ | ⟨g, cap, cur, rfl, _, hg, _, _, hsz, ht⟩
  · omega
  · refine run_convert_bytes_back (P := Tryd.prog) w 57 9 5 ⟨g, 0, none⟩ cap l Tryd.underlying57 Tryd.underlying5 Tryd.underlying9 (fun j hj => ?_)
    rw [show (⟨g, 0, none⟩ : Addr).add j = ⟨g, j, none⟩ by unfold Addr.add; split <;> simp_all]
    rw [cell_of_row w g j _ _ _ hg]
    have : (cur.toList.take (l.length * 1))[j]? = (cells8 l)[j]? := by rw [ht]
    rw [List.getElem?_take, if_pos (by omega)] at this
    rw [show cur[j]? = cur.toList[j]? by simp, this]
    simp [cells8, hj]

set_option maxHeartbeats 2000000 in
set_option maxRecDepth 100000 in
theorem rbytes_all (n : Nat) (hn : Is128 n) (wd : Int) (w : World) : Calls Tryd.prog 36 #[B n, .int .i64 wd] w fun e w' => e = .returned (.tuple #[.string (byR n wd).1, .int .i64 (byR n wd).2]) ∧ Below w.heap.size w w' := by
  obtain ⟨i0, hi, hz0, hz1, hz2⟩ := info_parts info5
  cases hW : isW wd
  · rw [byR_no hW]
    go_enter Tryd.func36, Tryd.ntmps36
    go_wp2_with (go_at_call 44; refine (rwidth_val hW _).mono ?_; rintro e w' ⟨rfl, rfl⟩)
    go_ret2
    exact ⟨rfl, by go_grown⟩
  cases hf : fitsN n wd
  · rw [byR_fit hW hf]
    have HF : Hid (fitsN n wd = false) := hf
    clear hf
    go_enter Tryd.func36, Tryd.ntmps36
    go_wp2_with (first | (go_at_call 44; refine (rwidth_val hW _).mono ?_; rintro e w' ⟨rfl, rfl⟩) | (go_at_call 15; refine (rfits_any n hn wd _).mono ?_; rw [HF.out]; rintro e w1 ⟨rfl, hb1⟩))
    go_ret2
    exact ⟨rfl, bstep (by go_grown) hb1⟩
  have HF : Hid (fitsN n wd = true) := hf
  have E0 : Hid _ := byR_yes hW hf
  have hb := isW_bounds hW
  obtain ⟨k, hk⟩ : ∃ k : Nat, (wd + 7) / 8 = (k : Int) := ⟨((wd + 7) / 8).toNat, by omega⟩
  have hk16 : k ≤ 16 := by omega
  have hk1 : 1 ≤ k := by omega
  have hk0 : ((wd + 7) / 8).toNat = k := by omega
  rw [hk0] at E0
  have HK : Hid ((wd + 7) / 8 = (k : Int)) := hk
  clear hk hk0 hf
  have N0 := Box.new w n
  have B0 : Below w.heap.size w (w.alloc (.cells #[.int .u64 (hiOf n), .int .u64 (loOf n)] 24)) := by go_grown
  go_enter Tryd.func36, Tryd.ntmps36
  go_wp2_with (first | (go_at_call 44; refine (rwidth_val hW _).mono ?_; rintro e w' ⟨rfl, rfl⟩) | (go_at_call 15; fail))
  refine (rfits_any n hn wd _).mono ?_
  rw [HF.out]
  rintro e w1 ⟨rfl, hb1⟩
  have N1 := N0.below hb1 N0.lt
  have B1 := bstep B0 hb1
  clear N0 B0 hb1
  go_wp2_with fail
  refine (long_any wd (by omega) (by omega) _).mono ?_
  rw [HK.out]
  rintro e w2 ⟨rfl, hw2⟩
  obtain rfl : w1 = w2 := hw2.symm
  clear hw2
  go_wp2_with fail
  go_loopw [7, 8] (fun v c wr => ∃ t : Nat, t ≤ k ∧ c = .int .i64 ((t : Int) - 1) ∧ wr.ownsRow (w.heap.size + 1) 5 1 v (k - t) (cells8 ((be k n).take (k - t))) ∧ Box wr w.heap.size n ∧ Below w.heap.size w wr) (fun _ c _ => (intOf c + 1).toNat)
  case atStart => exact ⟨k, by omega, rfl, by rw [Nat.sub_self]; exact World.ownsRow_nil _ _ _ _, N1, B1⟩
  case round =>
    obtain ⟨t, ht, rfl, hown, Bx, hB⟩ := hrel
    clear N1 B1
    obtain ⟨b0, b1⟩ := id Bx
    have hlt0 := Bx.lt
    rcases Nat.eq_zero_or_pos t with rfl | hpos
    · have hcv : (convert 57 9 u7).run Tryd.prog wr = .ok (.string ⟨(be k n).toArray⟩) wr := by
        have hl := List.take_of_length_le (l := be k n) (i := k) (by rw [be_length]; omega)
        rw [Nat.sub_zero, hl] at hown
        exact conv_owned hown (by rw [be_length]) (by rw [be_length]; omega)
      clear hown
      go_wp2_with fail
      go_ret2
      exact ⟨by rw [E0.out]; rfl, hB⟩
    · obtain ⟨j, rfl⟩ : ∃ j, t = j + 1 := ⟨t - 1, by omega⟩
      rw [show ((j + 1 : Nat) : Int) - 1 = (j : Int) by omega]
      have HO : Hid (wr.ownsRow (w.heap.size + 1) 5 1 u7 (k - (j + 1)) (cells8 ((be k n).take (k - (j + 1))))) := hown
      have HL : Hid _ := hown.lt
      have BT : Hid _ := be_take (k := k) (n := n) (t := j) (by omega)
      clear hown
      by_cases h8 : 8 ≤ j
      · have E : Hid ((hiOf n / 2 ^ (8 * (j % 8))).tmod 256 % 256 = ((UInt8.ofNat (byteN n j)).toNat : Int)) := by
          have e := byte_hi n (j % 8)
          rw [show 8 + j % 8 = j by omega] at e
          have hx : 0 ≤ hiOf n / 2 ^ (8 * (j % 8)) := Int.ediv_nonneg (hiOf_nonneg n) (Int.le_of_lt (Int.pow_pos (by decide)))
          show _ = _
          rw [Int.tmod_eq_emod_of_nonneg hx, e]
          have := byteN_lt n j
          simp [UInt8.toNat_ofNat', Nat.mod_eq_of_lt this]
          omega
        go_wp2_with (at_builtin; refine wpList_append_own _ rfl _ _ 57 rfl (w.heap.size + 1) 5 i0 (.int .u8 0) 1 1 Tryd.underlying57 hi hz0 hz1 hz2 rfl (by decide) _ _ _ rfl (HO.out.alloc (.cells #[.int .u8 ((hiOf n / 2 ^ (8 * (j % 8))).tmod 256 % 256)] 5)) ⟨wr.heap.size, 0, none⟩ 1 1 [.int .u8 ((hiOf n / 2 ^ (8 * (j % 8))).tmod 256 % 256)] rfl rfl ?c1 ?c2 ?c3 ?c4 ?c5 ?_)
        case c1 =>
          intro j u hj
          match j, hj with
          | 0, hj => simp at hj; subst hj; simp only [Addr.add]; exact World.cell?_alloc_at _ _ _ _ (by simp)
        case c2 => intro u hu; simp at hu; subst hu; rfl
        case c3 => unfold maxLen; omega
        case c4 => omega
        case c5 => simp; omega
        intro v' w2 hown2 hgrow _
        rw [E.out, ← cells8_snoc, ← BT.out, show k - (j + 1) + 1 = k - j by omega] at hown2
        have Bx2 : Box w2 w.heap.size n := ⟨hgrow.cell ((Bx.past _).1) (fun e => by have h : w.heap.size + 1 ≤ w.heap.size := (HL.out _ e.symm).1; omega), hgrow.cell ((Bx.past _).2) (fun e => by have h : w.heap.size + 1 ≤ w.heap.size := (HL.out _ e.symm).1; omega)⟩
        have hB2 : Below w.heap.size w w2 := Below.grown (hB.alloc hB.size _) hgrow (by have := hB.size; simp; omega) fun g hg => by have := (HL.out g hg).1; omega
        go_wp2_with fail
        refine ⟨⟨j, by omega, rfl, hown2, Bx2, hB2⟩, by simp only [intOf]; omega⟩
      · have E : Hid ((loOf n / 2 ^ (8 * j)).tmod 256 % 256 = ((UInt8.ofNat (byteN n j)).toNat : Int)) := by
          have e := byte_lo n (i := j) (by omega)
          have hx : 0 ≤ loOf n / 2 ^ (8 * j) := Int.ediv_nonneg (loOf_nonneg n) (Int.le_of_lt (Int.pow_pos (by decide)))
          show _ = _
          rw [Int.tmod_eq_emod_of_nonneg hx, e]
          have := byteN_lt n j
          simp [UInt8.toNat_ofNat', Nat.mod_eq_of_lt this]
          omega
        have j8 : j % 8 = j := Nat.mod_eq_of_lt (by omega)
        have j8' : (j : Int) % 8 = (j : Int) := by omega
        have h8' : decide ((8 : Int) ≤ (j : Int)) = false := by simp; omega
        go_wp2_with (at_builtin; refine wpList_append_own _ rfl _ _ 57 rfl (w.heap.size + 1) 5 i0 (.int .u8 0) 1 1 Tryd.underlying57 hi hz0 hz1 hz2 rfl (by decide) _ _ _ rfl (HO.out.alloc (.cells #[.int .u8 ((loOf n / 2 ^ (8 * j)).tmod 256 % 256)] 5)) ⟨wr.heap.size, 0, none⟩ 1 1 [.int .u8 ((loOf n / 2 ^ (8 * j)).tmod 256 % 256)] rfl rfl ?c1 ?c2 ?c3 ?c4 ?c5 ?_)
        case c1 =>
          intro j u hj
          match j, hj with
          | 0, hj => simp at hj; subst hj; simp only [Addr.add]; exact World.cell?_alloc_at _ _ _ _ (by simp)
        case c2 => intro u hu; simp at hu; subst hu; rfl
        case c3 => unfold maxLen; omega
        case c4 => omega
        case c5 => simp; omega
        intro v' w2 hown2 hgrow _
        rw [E.out, ← cells8_snoc, ← BT.out, show k - (j + 1) + 1 = k - j by omega] at hown2
        have Bx2 : Box w2 w.heap.size n := ⟨hgrow.cell ((Bx.past _).1) (fun e => by have h : w.heap.size + 1 ≤ w.heap.size := (HL.out _ e.symm).1; omega), hgrow.cell ((Bx.past _).2) (fun e => by have h : w.heap.size + 1 ≤ w.heap.size := (HL.out _ e.symm).1; omega)⟩
        have hB2 : Below w.heap.size w w2 := Below.grown (hB.alloc hB.size _) hgrow (by have := hB.size; simp; omega) fun g hg => by have := (HL.out g hg).1; omega
        go_wp2_with fail
        refine ⟨⟨j, by omega, rfl, hown2, Bx2, hB2⟩, by simp only [intOf]; omega⟩
end Go.Proofs.YtjkpdcgmmdimaaaDoor
