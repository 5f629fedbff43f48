/- The reference's Text in the forms 1 to 3. -/
import Derived.Test.YtjkpdcgmmdimaaaDoorEd
namespace Go.Proofs.YtjkpdcgmmdimaaaDoor
open Go.RowKit
set_option linter.unusedVariables false
set_option linter.unusedSimpArgs false

set_option maxHeartbeats 4000000 in
set_option maxRecDepth 100000 in
theorem rtext_num (n : Nat) (hn : Is128 n) (wd form : Int) (hF : isF form = true) (h3 : form ≤ 3) (hH : hasF wd form = true) (hf : fitsN n wd = true) (w : World) :
    Calls Tryd.prog 40 #[B n, .int .i64 wd, .int .i64 form] w fun e w' => e = .returned (.tuple #[.string ⟨(txN n wd form).toArray⟩, .int .i64 0]) ∧ Below w.heap.size w w' := by
  have N0 := Box.new w n
  have B0 : Below w.heap.size w (w.alloc (.cells #[.int .u64 (hiOf n), .int .u64 (loOf n)] 24)) := by go_grown
  have H2 : Hid (hasF wd form = true) := hH
  have H3 : Hid (fitsN n wd = true) := hf
  have HAS : Hid (∀ w, Calls Tryd.prog 63 #[.int .i64 wd, .int .i64 form] w fun e w' => e = .returned (.bool true) ∧ w' = w) := fun w => by rw [← H2.out]; exact rhas_any wd form hF w
  have hcases : form = 1 ∨ form = 2 ∨ form = 3 := by simp [isF] at hF; omega
  clear hF hH hf h3
  have FIT : Hid (∀ w, Calls Tryd.prog 15 #[B n, .int .i64 wd] w fun e w' => e = .returned (.bool true) ∧ Below w.heap.size w w') := fun w => by rw [← H3.out]; exact rfits_any n hn wd w
  rcases hcases with rfl | rfl | rfl
  · have E : Hid (txN n wd 1 = digs 10 n) := by unfold txN; rfl
    have hd := digs_length 10 n
    go_enter Tryd.func40, Tryd.ntmps40
    go_wp2_with (go_at_call 63; refine (HAS.out _).mono ?_; rintro e w' ⟨rfl, rfl⟩)
    refine (FIT.out _).mono ?_
    rintro e w1 ⟨rfl, hb1⟩
    obtain ⟨n0, n1⟩ := N0.below hb1 N0.lt
    have hB1 := bstep B0 hb1
    clear N0 B0 hb1
    go_wp2_with fail
    refine (rdigits_ten n hn _).mono ?_
    rintro e w2 ⟨rfl, hb2⟩
    go_wp2
    go_ret2
    exact ⟨by rw [E.out]; rfl, bstep hB1 hb2⟩
  · have E : Hid (txN n wd 2 = 48 :: 120 :: digs 16 n) := by unfold txN; rfl
    have hd := digs_length 16 n
    go_enter Tryd.func40, Tryd.ntmps40
    go_wp2_with (go_at_call 63; refine (HAS.out _).mono ?_; rintro e w' ⟨rfl, rfl⟩)
    refine (FIT.out _).mono ?_
    rintro e w1 ⟨rfl, hb1⟩
    obtain ⟨n0, n1⟩ := N0.below hb1 N0.lt
    have hB1 := bstep B0 hb1
    clear N0 B0 hb1
    go_wp2_with fail
    refine (rdigits_hex n hn _).mono ?_
    rintro e w2 ⟨rfl, hb2⟩
    go_wp2
    go_ret2
    exact ⟨by rw [E.out, ← str_head]; rfl, bstep hB1 hb2⟩
  · have E : Hid (txN n wd 3 = 48 :: 98 :: digs 2 n) := by unfold txN; rfl
    have hd := digs_length 2 n
    go_enter Tryd.func40, Tryd.ntmps40
    go_wp2_with (go_at_call 63; refine (HAS.out _).mono ?_; rintro e w' ⟨rfl, rfl⟩)
    refine (FIT.out _).mono ?_
    rintro e w1 ⟨rfl, hb1⟩
    obtain ⟨n0, n1⟩ := N0.below hb1 N0.lt
    have hB1 := bstep B0 hb1
    clear N0 B0 hb1
    go_wp2_with fail
    refine (rdigits_two n hn _).mono ?_
    rintro e w2 ⟨rfl, hb2⟩
    go_wp2
    go_ret2
    exact ⟨by rw [E.out, ← str_head]; rfl, bstep hB1 hb2⟩
end Go.Proofs.YtjkpdcgmmdimaaaDoor
