/- The reference's Text in the form of dots. -/
import Derived.Test.YtjkpdcgmmdimaaaDoorEe
namespace Go.Proofs.YtjkpdcgmmdimaaaDoor
open Go.RowKit
set_option linter.unusedVariables false
set_option linter.unusedSimpArgs false

theorem bytes_four (n : Nat) (hn : Is128 n) (hf : fitsN n 32 = true) (w : World) : Calls Tryd.prog 36 #[B n, .int .i64 32] w fun e w' => e = .returned (.tuple #[.string ⟨(be 4 n).toArray⟩, .int .i64 0]) ∧ Below w.heap.size w w' := by
  have := rbytes_all n hn 32 w
  rw [byR_yes (by decide) hf] at this
  exact this
set_option maxHeartbeats 1000000 in
set_option maxRecDepth 100000 in
theorem rtext_dots (n : Nat) (hn : Is128 n) (hf : fitsN n 32 = true) (w : World) :
    Calls Tryd.prog 40 #[B n, .int .i64 32, .int .i64 4] w fun e w' => e = .returned (.tuple #[.string ⟨(dpre n 4).toArray⟩, .int .i64 0]) ∧ Below w.heap.size w w' := by
  have N0 := Box.new w n
  have B0 : Below w.heap.size w (w.alloc (.cells #[.int .u64 (hiOf n), .int .u64 (loOf n)] 24)) := by go_grown
  have HAS : Hid (∀ w, Calls Tryd.prog 63 #[.int .i64 32, .int .i64 4] w fun e w' => e = .returned (.bool true) ∧ w' = w) := fun w => rhas_any 32 4 (by decide) w
  have FIT : Hid (∀ w, Calls Tryd.prog 15 #[B n, .int .i64 32] w fun e w' => e = .returned (.bool true) ∧ Below w.heap.size w w') := fun w => by rw [← hf]; exact rfits_any n hn 32 w
  have by4 := bytes_four n hn hf
  obtain ⟨bb, hbb, hsz, hbyte⟩ := be_bytes 4 n
  rw [← hbb] at by4
  have BY : Hid (∀ w, Calls Tryd.prog 36 #[B n, .int .i64 32] w fun e w' => e = .returned (.tuple #[.string bb, .int .i64 0]) ∧ Below w.heap.size w w') := by4
  have HBY : Hid (∀ i (h : i < bb.size), (bb[i]).toNat = byteN n (4 - 1 - i)) := hbyte
  have HSZ : Hid (bb.size = 4) := hsz
  clear hbb hbyte by4 hf hsz
  go_enter Tryd.func40, Tryd.ntmps40
  go_wp2_with (go_at_call 63; refine (HAS.out _).mono ?_; rintro e w' ⟨rfl, rfl⟩)
  refine (FIT.out _).mono ?_
  rintro e w1 ⟨rfl, hb1⟩
  obtain ⟨n0, n1⟩ := N0.below hb1 N0.lt
  have hB1 := bstep B0 hb1
  clear N0 B0 hb1
  go_wp2_with fail
  refine (BY.out _).mono ?_
  rintro e w2 ⟨rfl, hb2⟩
  have hB2 := bstep hB1 hb2
  clear n0 n1 hB1 hb2
  go_wp2_with fail
  go_loopw [10, 11] (fun o c wr => ∃ i : Nat, i ≤ 4 ∧ c = .int .i64 i ∧ o = .string ⟨(djN n i).toArray⟩ ∧ Below w.heap.size w wr) (fun _ c _ => 4 - (intOf c).toNat)
  case atStart => exact ⟨0, by omega, rfl, rfl, hB2⟩
  case round =>
    obtain ⟨i, hi4, rfl, rfl, hB⟩ := hrel
    have hl := dj_length n i
    have hs4 := HSZ.out
    by_cases hlt : i < 4
    · have his : i < bb.size := by omega
      have hb8 : (bb[i]).toNat < 256 := UInt8.toNat_lt bb[i]
      have wq : IntKind.i64.wrap ((bb[i]).toNat : Int) = ((bb[i]).toNat : Int) := by rw [IntKind.wrap_i64]; omega
      have wq2 : IntKind.u64.wrap ((bb[i]).toNat : Int) = ((bb[i]).toNat : Int) := wrap_in (by omega) (by omega)
      have DG : Hid (∀ w, Calls Tryd.prog 64 #[.agg #[.int .u64 0, .int .u64 ((bb[i]).toNat : Int)], .int .i64 10] w fun e w' => e = .returned (.string ⟨(digs 10 (bb[i]).toNat).toArray⟩) ∧ Below w.heap.size w w') := fun w => by
        have := rdigits_ten (bb[i]).toNat (by unfold Is128; omega) w
        rwa [small_words (by omega)] at this
      have hd := digs_length 10 (bb[i]).toNat
      have HS : Hid (djN n (i + 1) = djN n i ++ (if 0 < i then [46] else []) ++ digs 10 (bb[i]).toNat) := by
        show _ = _
        rw [djN, HBY.out i his]
      by_cases h0 : 0 < i
      · have h0' : (0 : Int) < (i : Int) := by omega
        go_wp2_with fail
        refine (DG.out _).mono ?_
        rintro e w3 ⟨rfl, hb3⟩
        go_wp2_with fail
        refine ⟨⟨i + 1, by omega, by go_num, ?_, bstep hB hb3⟩, by simp only [intOf]; omega⟩
        rw [HS.out, if_pos h0, ← str_app, ← str_app]
      · have h0' : decide ((0 : Int) < (i : Int)) = false := by simp; omega
        go_wp2_with fail
        refine (DG.out _).mono ?_
        rintro e w3 ⟨rfl, hb3⟩
        go_wp2_with fail
        refine ⟨⟨i + 1, by omega, by go_num, ?_, bstep hB hb3⟩, by simp only [intOf]; omega⟩
        rw [HS.out, if_neg h0, List.append_nil, ← str_app]
    · obtain rfl : i = 4 := by omega
      go_wp2
      go_ret2
      exact ⟨by rw [← dj_four]; rfl, hB⟩
end Go.Proofs.YtjkpdcgmmdimaaaDoor
