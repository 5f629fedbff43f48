/- The reference's Common: what it returns, and that memory only grows. -/
import Derived.Test.YtjkpdcgmmdimaaaDoorRf
namespace Go.Proofs.YtjkpdcgmmdimaaaDoor
open Go.RowKit
set_option linter.unusedVariables false
set_option linter.unusedSimpArgs false

theorem bit_xor_eq {n m : Nat} {wd : Int} (hW : isW wd = true) {i : Int} (h0 : 0 ≤ i) (h1 : i < wd) : (cutN (n ^^^ m) wd).testBit (wd - 1 - i).toNat = (bitN n wd i ^^ bitN m wd i) := by
  unfold bitN
  rw [hW, decide_eq_true h0, decide_eq_true h1, cut_yes hW, Nat.testBit_mod_two_pow, Nat.testBit_xor, decide_eq_true (by omega)]
  simp
theorem com_same {n m : Nat} (hn : Is128 n) (hm : Is128 m) {wd : Int} (hW : isW wd = true) {i : Int} (h0 : 0 ≤ i) (h1 : i < comN n m wd) : bitN m wd i = bitN n wd i := by
  have hb := isW_bounds hW
  have hr := com_range hn hm hW
  have hx := bit_xor_eq (n := n) (m := m) hW h0 (by omega)
  rw [lenN_above (cut_is (xor_is hn hm) wd) (by rw [com_yes hW] at h1; omega)] at hx
  cases h : bitN n wd i <;> cases h' : bitN m wd i <;> simp_all
theorem com_diff {n m : Nat} (hn : Is128 n) (hm : Is128 m) {wd : Int} (hW : isW wd = true) (h1 : comN n m wd < wd) : bitN m wd (comN n m wd) = !(bitN n wd (comN n m wd)) := by
  have hb := isW_bounds hW
  have hr := com_range hn hm hW
  have hx := bit_xor_eq (n := n) (m := m) hW hr.1 h1
  have hz := cut_is (xor_is hn hm) wd
  have he := com_yes (n := n) (m := m) hW
  have h0 : cutN (n ^^^ m) wd ≠ 0 := by
    intro e; rw [e, lenN_zero] at he; omega
  have := lenN_top hz h0
  rw [show lenN (cutN (n ^^^ m) wd) - 1 = (wd - 1 - comN n m wd).toNat by omega, hx] at this
  cases h : bitN n wd (comN n m wd) <;> cases h' : bitN m wd (comN n m wd) <;> simp_all

theorem hold2 {w w' : World} {b1 n1 b2 n2 : Nat} (h : w.cell? ⟨b1, 0, none⟩ = some (.int .u64 (hiOf n1)) ∧ w.cell? ⟨b1, 1, none⟩ = some (.int .u64 (loOf n1)) ∧ w.cell? ⟨b2, 0, none⟩ = some (.int .u64 (hiOf n2)) ∧ w.cell? ⟨b2, 1, none⟩ = some (.int .u64 (loOf n2))) (hb : Below w.heap.size w w') :
    w'.cell? ⟨b1, 0, none⟩ = some (.int .u64 (hiOf n1)) ∧ w'.cell? ⟨b1, 1, none⟩ = some (.int .u64 (loOf n1)) ∧ w'.cell? ⟨b2, 0, none⟩ = some (.int .u64 (hiOf n2)) ∧ w'.cell? ⟨b2, 1, none⟩ = some (.int .u64 (loOf n2)) := by
  obtain ⟨h1, h2, h3, h4⟩ := h
  have A := Box.below (w := w) (b := b1) (n := n1) ⟨h1, h2⟩ hb (Box.lt ⟨h1, h2⟩)
  have C := Box.below (w := w) (b := b2) (n := n2) ⟨h3, h4⟩ hb (Box.lt ⟨h3, h4⟩)
  exact ⟨A.1, A.2, C.1, C.2⟩

set_option maxHeartbeats 2000000 in
set_option maxRecDepth 100000 in
theorem rcommon_any (n m : Nat) (hn : Is128 n) (hm : Is128 m) (wd : Int) (w : World) : Calls Tryd.prog 33 #[B n, B m, .int .i64 wd] w fun e w' => e = .returned (.int .i64 (comN n m wd)) ∧ Below w.heap.size w w' := by
  have M0 : Box ((w.alloc (.cells #[.int .u64 (hiOf n), .int .u64 (loOf n)] 24)).alloc (.cells #[.int .u64 (hiOf m), .int .u64 (loOf m)] 24)) (w.heap.size + 1) m := by
    simpa using Box.new (w.alloc (.cells #[.int .u64 (hiOf n), .int .u64 (loOf n)] 24)) m
  have N0 : Box ((w.alloc (.cells #[.int .u64 (hiOf n), .int .u64 (loOf n)] 24)).alloc (.cells #[.int .u64 (hiOf m), .int .u64 (loOf m)] 24)) w.heap.size n := (Box.new w n).past _
  have B0 : Below w.heap.size w ((w.alloc (.cells #[.int .u64 (hiOf n), .int .u64 (loOf n)] 24)).alloc (.cells #[.int .u64 (hiOf m), .int .u64 (loOf m)] 24)) := by go_grown
  cases hW : isW wd
  · have E : Hid _ := com_no (n := n) (m := m) hW
    go_enter Tryd.func33, Tryd.ntmps33
    go_wp2_with fail
    go_loopw [7] (fun i wr => i = .int .i64 0 ∧ Below w.heap.size w wr) (fun i _ => 0)
    case atStart => exact ⟨by simp, B0⟩
    case round =>
      obtain ⟨rfl, hB⟩ := hrel
      clear M0 N0 B0
      go_wp2
      go_quiet ((go_at_call 44; exact Calls.quiet_of_same (rwidth_val hW _)))
      go_wp2
      go_ret
      exact ⟨by rw [E.out]; rfl, below_drewN hB _⟩
  · have hb := isW_bounds hW
    have hr := com_range hn hm hW
    have hs : ∀ i : Int, 0 ≤ i → i < comN n m wd → bitN m wd i = bitN n wd i := fun i => com_same hn hm hW
    have hd := com_diff hn hm hW
    generalize comN n m wd = c at *
    obtain ⟨C, rfl⟩ := Int.eq_ofNat_of_zero_le hr.1
    have HS : Hid (∀ i : Int, 0 ≤ i → i < (C : Int) → bitN m wd i = bitN n wd i) := hs
    have HD : Hid ((C : Int) < wd → bitN m wd C = !(bitN n wd C)) := hd
    clear hs hd
    go_enter Tryd.func33, Tryd.ntmps33
    go_wp2_with fail
    go_loopw [7] (fun i wr => ∃ k : Nat, k ≤ C ∧ i = .int .i64 k ∧ Box wr w.heap.size n ∧ Box wr (w.heap.size + 1) m ∧ Below w.heap.size w wr) (fun i _ => C - (intOf i).toNat)
    case atStart => exact ⟨0, by omega, by simp, N0, M0, B0⟩
    case round =>
      obtain ⟨k, hk, rfl, N, M, hB⟩ := hrel
      clear M0 N0 B0
      obtain ⟨a0, a1⟩ := id N
      obtain ⟨m0, m1⟩ := id M
      by_cases hlt : (k : Int) < wd
      · have TX : Hid (∀ w, Calls Tryd.prog 32 #[B n, .int .i64 wd, .int .i64 k] w fun e w' => e = .returned (.bool (bitN n wd k)) ∧ Below w.heap.size w w') := rbit_any n hn wd k
        have TY : Hid (∀ w, Calls Tryd.prog 32 #[B m, .int .i64 wd, .int .i64 k] w fun e w' => e = .returned (.bool (bitN m wd k)) ∧ Below w.heap.size w w') := rbit_any m hm wd k
        by_cases hc : k < C
        · have e := HS.out k (by omega) (by omega)
          rw [e] at TY
          clear e HS HD
          generalize bitN n wd k = b at *
          cases b
          all_goals
            go_wp2
            go_region_held3 (fun w' => w'.cell? ⟨w.heap.size, 0, none⟩ = some (.int .u64 (hiOf n)) ∧ w'.cell? ⟨w.heap.size, 1, none⟩ = some (.int .u64 (loOf n)) ∧ w'.cell? ⟨w.heap.size + 1, 0, none⟩ = some (.int .u64 (hiOf m)) ∧ w'.cell? ⟨w.heap.size + 1, 1, none⟩ = some (.int .u64 (loOf m)))
              (first | exact ⟨a0, a1, m0, m1⟩ | exact hold2 (by assumption) (by assumption))
              (first
                | (go_at_call 44; refine (rwidth_val hW _).mono ?_; rintro e w' ⟨rfl, rfl⟩)
                | (go_at_call_of 32 (Value.agg #[Value.int IntKind.u64 (hiOf n), Value.int IntKind.u64 (loOf n)]); refine (TX.out _).mono ?_; rintro e w6 ⟨rfl, hb6⟩)
                | (go_at_call_of 32 (Value.agg #[Value.int IntKind.u64 (hiOf m), Value.int IntKind.u64 (loOf m)]); refine (TY.out _).mono ?_; rintro e w7 ⟨rfl, hb7⟩))
            rename_i hHeld
            clear hHeld
            have N7 := (N.drew.below hb6 N.drew.lt).below hb7 (N.drew.below hb6 N.drew.lt).lt
            have M7 := (M.drew.below hb6 M.drew.lt).below hb7 (M.drew.below hb6 M.drew.lt).lt
            have hB7 := bstep (bstep hB.drew hb6) hb7
            clear hb6 hb7 a0 a1 m0 m1
            go_wp2
            exact ⟨⟨k + 1, by omega, by go_num, N7, M7, hB7⟩, by simp only [intOf]; omega⟩
        · obtain rfl : k = C := by omega
          have e := HD.out hlt
          rw [e] at TY
          clear e HS HD
          generalize bitN n wd k = b at *
          cases b
          all_goals
            go_wp2
            go_region_held3 (fun w' => w'.cell? ⟨w.heap.size, 0, none⟩ = some (.int .u64 (hiOf n)) ∧ w'.cell? ⟨w.heap.size, 1, none⟩ = some (.int .u64 (loOf n)) ∧ w'.cell? ⟨w.heap.size + 1, 0, none⟩ = some (.int .u64 (hiOf m)) ∧ w'.cell? ⟨w.heap.size + 1, 1, none⟩ = some (.int .u64 (loOf m)))
              (first | exact ⟨a0, a1, m0, m1⟩ | exact hold2 (by assumption) (by assumption))
              (first
                | (go_at_call 44; refine (rwidth_val hW _).mono ?_; rintro e w' ⟨rfl, rfl⟩)
                | (go_at_call_of 32 (Value.agg #[Value.int IntKind.u64 (hiOf n), Value.int IntKind.u64 (loOf n)]); refine (TX.out _).mono ?_; rintro e w6 ⟨rfl, hb6⟩)
                | (go_at_call_of 32 (Value.agg #[Value.int IntKind.u64 (hiOf m), Value.int IntKind.u64 (loOf m)]); refine (TY.out _).mono ?_; rintro e w7 ⟨rfl, hb7⟩))
            go_wp2
            go_ret
            exact ⟨rfl, bstep (bstep hB.drew hb6) hb7⟩
      · obtain rfl : k = C := by omega
        have d1 : decide ((k : Int) < wd) = false := by simpa using hlt
        clear hlt
        go_wp2
        go_quiet ((go_at_call 44; exact Calls.quiet_of_same (rwidth_val hW _)))
        go_wp2
        go_ret
        exact ⟨rfl, below_drewN hB _⟩
end Go.Proofs.YtjkpdcgmmdimaaaDoor
