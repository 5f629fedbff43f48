/- The reference's Text in the form of colons. -/
import Derived.Test.YtjkpdcgmmdimaaaDoorEf
namespace Go.Proofs.YtjkpdcgmmdimaaaDoor
open Go.RowKit
set_option linter.unusedVariables false
set_option linter.unusedSimpArgs false

theorem bytes_k (n : Nat) (hn : Is128 n) (wd : Int) (hW : isW wd = true) (hf : fitsN n wd = true) (k : Nat) (hk : ((wd + 7) / 8).toNat = k) (w : World) : Calls Tryd.prog 36 #[B n, .int .i64 wd] w fun e w' => e = .returned (.tuple #[.string ⟨(be k n).toArray⟩, .int .i64 0]) ∧ Below w.heap.size w w' := by
  have := rbytes_all n hn wd w
  rw [byR_yes hW hf, hk] at this
  exact this
theorem hasC_k' {wd : Int} (h : hasC wd = true) : isW wd = true ∧ 2 ≤ ((wd + 7) / 8).toNat ∧ ((wd + 7) / 8).toNat ≤ 16 ∧ True := by
  unfold hasC at h
  simp at h
  obtain ⟨⟨h1, h2⟩, h3⟩ := h
  have hb := isW_bounds h1
  exact ⟨h1, by omega, by omega, trivial⟩
set_option maxHeartbeats 1000000 in
set_option maxRecDepth 100000 in
theorem rtext_colons (n : Nat) (hn : Is128 n) (wd : Int) (hH : hasF wd 5 = true) (hf : fitsN n wd = true) (w : World) :
    Calls Tryd.prog 40 #[B n, .int .i64 wd, .int .i64 5] w fun e w' => e = .returned (.tuple #[.string ⟨(colN n ((wd + 7) / 8).toNat).toArray⟩, .int .i64 0]) ∧ Below w.heap.size w w' := by
  have hC : hasC wd = true := by unfold hasF at hH; simpa using hH
  obtain ⟨hW, k2, k16, _⟩ := hasC_k' hC
  generalize hk : ((wd + 7) / 8).toNat = k at *
  have N0 := Box.new w n
  have B0 : Below w.heap.size w (w.alloc (.cells #[.int .u64 (hiOf n), .int .u64 (loOf n)] 24)) := by go_grown
  have HAS : Hid (∀ w, Calls Tryd.prog 63 #[.int .i64 wd, .int .i64 5] w fun e w' => e = .returned (.bool true) ∧ w' = w) := fun w => by rw [← hH]; exact rhas_any wd 5 (by decide) w
  have FIT : Hid (∀ w, Calls Tryd.prog 15 #[B n, .int .i64 wd] w fun e w' => e = .returned (.bool true) ∧ Below w.heap.size w w') := fun w => by rw [← hf]; exact rfits_any n hn wd w
  have by4 := bytes_k n hn wd hW hf k hk
  obtain ⟨bb, hbb, hsz, hbyte⟩ := be_bytes k n
  rw [← hbb] at by4
  have BY : Hid (∀ w, Calls Tryd.prog 36 #[B n, .int .i64 wd] w fun e w' => e = .returned (.tuple #[.string bb, .int .i64 0]) ∧ Below w.heap.size w w') := by4
  have HBY : Hid (∀ i (h : i < bb.size), (bb[i]).toNat = byteN n (k - 1 - i)) := hbyte
  have HSZ : Hid (bb.size = k) := hsz
  clear hbb hbyte by4 hf hsz hk hH hC hW
  go_enter Tryd.func40, Tryd.ntmps40
  go_wp2_with (go_at_call 63; refine (HAS.out _).mono ?_; rintro e w' ⟨rfl, rfl⟩)
  refine (FIT.out _).mono ?_
  rintro e w1 ⟨rfl, hb1⟩
  obtain ⟨n0, n1⟩ := N0.below hb1 N0.lt
  have hB1 := bstep B0 hb1
  clear N0 B0 hb1
  go_wp2_with fail
  refine (BY.out _).mono ?_
  rintro e w2 ⟨rfl, hb2⟩
  have hB2 := bstep hB1 hb2
  clear n0 n1 hB1 hb2
  go_wp2_with fail
  go_loopw [10, 11] (fun o c wr => ∃ i : Nat, i ≤ k ∧ c = .int .i64 i ∧ o = .string ⟨(cjN n k i).toArray⟩ ∧ Below w.heap.size w wr) (fun _ c _ => k - (intOf c).toNat)
  case atStart => exact ⟨0, by omega, rfl, rfl, hB2⟩
  case round =>
    obtain ⟨i, hi4, rfl, rfl, hB⟩ := hrel
    have hl := cj_length n k i
    have hs4 := HSZ.out
    by_cases hlt : i < k
    · have his : i < bb.size := by omega
      have hb8 : (bb[i]).toNat < 256 := UInt8.toNat_lt bb[i]
      have wq : IntKind.i64.wrap ((bb[i]).toNat : Int) = ((bb[i]).toNat : Int) := by rw [IntKind.wrap_i64]; omega
      have wd1 : ((bb[i]).toNat : Int) / 16 = (((bb[i]).toNat / 16 : Nat) : Int) := by omega
      have wd2 : ((bb[i]).toNat : Int) % 16 = (((bb[i]).toNat % 16 : Nat) : Int) := by omega
      have S1 : Hid (∀ w, Calls Tryd.prog 65 #[.int .i64 (((bb[i]).toNat / 16 : Nat) : Int)] w fun e w' => e = .returned (.int .u8 ((sgn ((bb[i]).toNat / 16)).toNat : Int)) ∧ w' = w) := fun w => sign_any _ (by omega) w
      have S2 : Hid (∀ w, Calls Tryd.prog 65 #[.int .i64 (((bb[i]).toNat % 16 : Nat) : Int)] w fun e w' => e = .returned (.int .u8 ((sgn ((bb[i]).toNat % 16)).toNat : Int)) ∧ w' = w) := fun w => sign_any _ (by omega) w
      have HS : Hid (cjN n k (i + 1) = cjN n k i ++ (if 0 < i then [58] else []) ++ [sgn ((bb[i]).toNat / 16), sgn ((bb[i]).toNat % 16)]) := by
        show _ = _
        rw [cjN, HBY.out i his]
      generalize (bb[i]).toNat / 16 = d1 at *
      generalize (bb[i]).toNat % 16 = d2 at *
      have hcv := conv_two wr (sgn d1) (sgn d2)
      by_cases h0 : 0 < i
      · have h0' : (0 : Int) < (i : Int) := by omega
        go_wp2_with fail
        refine (S1.out _).mono ?_
        rintro e w3 ⟨rfl, hw3⟩
        obtain rfl : w3 = wr := hw3
        go_wp2_with fail
        refine (S2.out _).mono ?_
        rintro e w4 ⟨rfl, hw4⟩
        obtain rfl : w4 = w3 := hw4
        go_wp2_with fail
        refine ⟨⟨i + 1, by omega, by go_num, ?_, hB.alloc hB.size _⟩, by simp only [intOf]; omega⟩
        rw [HS.out, if_pos h0, ← str_app, ← str_app]
      · have h0' : decide ((0 : Int) < (i : Int)) = false := by simp; omega
        go_wp2_with fail
        refine (S1.out _).mono ?_
        rintro e w3 ⟨rfl, hw3⟩
        obtain rfl : w3 = wr := hw3
        go_wp2_with fail
        refine (S2.out _).mono ?_
        rintro e w4 ⟨rfl, hw4⟩
        obtain rfl : w4 = w3 := hw4
        go_wp2_with fail
        refine ⟨⟨i + 1, by omega, by go_num, ?_, hB.alloc hB.size _⟩, by simp only [intOf]; omega⟩
        rw [HS.out, if_neg h0, List.append_nil, ← str_app]
    · obtain rfl : i = k := by omega
      go_wp2
      go_ret2
      exact ⟨by rw [← cj_all (by omega : 1 ≤ i)]; rfl, hB⟩
set_option maxHeartbeats 1000000 in
theorem rtext_all (n : Nat) (hn : Is128 n) (wd form : Int) (w : World) :
    Calls Tryd.prog 40 #[B n, .int .i64 wd, .int .i64 form] w fun e w' => e = .returned (.tuple #[.string ⟨(txR n wd form).1.toArray⟩, .int .i64 (txR n wd form).2]) ∧ Below w.heap.size w w' := by
  cases hF : isF form
  · rw [txR_form hF]
    by_cases h1 : form < 1
    · go_enter Tryd.func40, Tryd.ntmps40
      go_wp2
      go_ret2
      exact ⟨rfl, by go_grown⟩
    · have d1 : decide (form < 1) = false := by simpa using h1
      have d2 : 5 < form := by simp [isF] at hF; omega
      clear h1 hF
      go_enter Tryd.func40, Tryd.ntmps40
      go_wp2
      go_ret2
      exact ⟨rfl, by go_grown⟩
  have hb : 1 ≤ form ∧ form ≤ 5 := by simpa [isF] using hF
  have d1 : decide (form < 1) = false := by simp; omega
  have d2 : decide (5 < form) = false := by simp; omega
  cases hH : hasF wd form
  · rw [txR_has hF hH]
    have HAS : Hid (∀ w, Calls Tryd.prog 63 #[.int .i64 wd, .int .i64 form] w fun e w' => e = .returned (.bool false) ∧ w' = w) := fun w => by rw [← hH]; exact rhas_any wd form hF w
    go_enter Tryd.func40, Tryd.ntmps40
    go_wp2_with (go_at_call 63; refine (HAS.out _).mono ?_; rintro e w' ⟨rfl, rfl⟩)
    go_ret2
    exact ⟨rfl, by go_grown⟩
  cases hf : fitsN n wd
  · rw [txR_fit hF hH hf]
    have HAS : Hid (∀ w, Calls Tryd.prog 63 #[.int .i64 wd, .int .i64 form] w fun e w' => e = .returned (.bool true) ∧ w' = w) := fun w => by rw [← hH]; exact rhas_any wd form hF w
    have FIT : Hid (∀ w, Calls Tryd.prog 15 #[B n, .int .i64 wd] w fun e w' => e = .returned (.bool false) ∧ Below w.heap.size w w') := fun w => by rw [← hf]; exact rfits_any n hn wd w
    go_enter Tryd.func40, Tryd.ntmps40
    go_wp2_with (first | (go_at_call 63; refine (HAS.out _).mono ?_; rintro e w' ⟨rfl, rfl⟩) | (go_at_call 15; refine (FIT.out _).mono ?_; rintro e w1 ⟨rfl, hb1⟩))
    go_ret2
    exact ⟨rfl, bstep (by go_grown) hb1⟩
  · rw [txR_yes hF hH hf]
    rcases (by omega : form ≤ 3 ∨ form = 4 ∨ form = 5) with h3 | rfl | rfl
    · exact rtext_num n hn wd form hF h3 hH hf w
    · have h32 : wd = 32 := by unfold hasF at hH; simpa using hH
      subst h32
      rw [show txN n 32 4 = dpre n 4 by unfold txN; rfl]
      exact rtext_dots n hn hf w
    · rw [show txN n wd 5 = colN n ((wd + 7) / 8).toNat by unfold txN; rfl]
      exact rtext_colons n hn wd hH hf w
end Go.Proofs.YtjkpdcgmmdimaaaDoor
