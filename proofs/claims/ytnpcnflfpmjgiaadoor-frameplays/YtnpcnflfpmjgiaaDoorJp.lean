/- The document's Put over the document's disk. -/
import Derived.Test.YtnpcnflfpmjgiaaDoorJg
namespace Go.Proofs.YtnpcnflfpmjgiaaDoor
open Go.RowKit
set_option linter.unusedVariables false
set_option linter.unusedSimpArgs false

set_option maxHeartbeats 2000000 in
set_option maxRecDepth 100000 in
theorem rput_any {B : Nat} {w : World} {b : Nat} {fp : Nat → Prop} {S : DS} (d : Rk B w b fp S) (n : Int) (f : Fr) (hn : f.num < 18446744073709551616) (hBw : B ≤ w.heap.size) (hfew : S.wait.length < 5864062014000) : Calls Tryd.prog 76 #[pt b, .int .i64 n, frV f] w fun e w' => e = .returned (.int .i64 (putE S n f)) ∧ RLeft B b fp w (putD S n f) w' := by
  obtain ⟨W, hW⟩ : ∃ W, W = w.alloc (.cells #[.int .i64 f.kind, .int .u64 f.num, .int .i64 f.idx, .string f.body] 24) := ⟨_, rfl⟩
  have hb0 : Below w.heap.size w W := by rw [hW]; exact (Below.refl _ _).alloc (Nat.le_refl _) _
  have hblk : Blk W w.heap.size #[.int .i64 f.kind, .int .u64 f.num, .int .i64 f.idx, .string f.body] 24 := by rw [hW]; exact Blk.new _ _ _
  have hnf : ¬ fp w.heap.size := fun e => by have := (d.fp _ e).2; omega
  have hg : w.heap.size < W.heap.size := hblk.lt
  have C1 : Hid (∀ w : World, Calls Tryd.prog 38 #[.agg #[.int .i64 f.kind, .int .u64 f.num, .int .i64 f.idx, .string f.body]] w fun e w' => e = .returned (.int .i64 (wrong f)) ∧ Below w.heap.size w w') := rwrong_any f
  have c0 := hblk.cell 0 rfl
  have c1 := hblk.cell 1 rfl
  have c2 := hblk.cell 2 rfl
  have c3 := hblk.cell 3 rfl
  by_cases hw : wrong f = 0
  · have hwt := right_of hw
    obtain ⟨k, i, hk, hi, k1, k2, i1, hz⟩ := hwt
    rw [hw] at C1
    have HR : Hid (∀ w1 : World, Below W.heap.size W w1 → Calls Tryd.prog 91 #[.pointer (some ⟨b, 0, none⟩), .int .i64 n] w1 fun e w' => e = .returned (.tuple #[.string (readS S n), .int .i64 (refuseD S n)]) ∧ Hid (RLeft B b fp W (readD S n) w') ∧ Blk w' w.heap.size #[.int .i64 f.kind, .int .u64 f.num, .int .i64 f.idx, .string f.body] 24) := by
      intro w1 h1
      have dW := d.below hb0
      have d1 := dW.below h1
      refine (rread_any d1 n).mono ?_
      rintro e w' ⟨rfl, hL⟩
      have hb1 := hblk.below h1
      refine ⟨rfl, RLeft.trans (Kept.of_below h1) (fun k e => .inl e) hL, ?_⟩
      obtain ⟨_, _, hk, _⟩ := hL
      exact hb1.kept hk hnf
    by_cases hr : refuseD S n = 0
    · have e1 : putE S n f = writeE (readD S n) n (putB S n f) := by unfold putE; rw [if_pos hw, if_pos hr]
      have e2 : putD S n f = writeD (readD S n) n (putB S n f) := by unfold putD; rw [if_pos hw, if_pos hr]
      rw [e1, e2]
      have hs := readS_size d.ok hr
      rw [hr] at HR
      have hby : (at8 (readS S n) 511).toNat < 256 := UInt8.toNat_lt _
      have W1 : Hid (((IntKind.i64.wrap (IntKind.i64.wrap ((at8 (readS S n) 511).toNat : Int) + 1)).tmod 256) = ((((at8 (readS S n) 511).toNat + 1) % 256 : Nat) : Int)) := by
        show _ = _
        have q1 : IntKind.i64.wrap ((at8 (readS S n) 511).toNat : Int) = ((at8 (readS S n) 511).toNat : Int) := by rw [IntKind.wrap_i64]; omega
        have q2 : IntKind.i64.wrap (((at8 (readS S n) 511).toNat : Int) + 1) = ((at8 (readS S n) 511).toNat : Int) + 1 := by rw [IntKind.wrap_i64]; omega
        rw [q1, q2, Int.tmod_eq_emod_of_nonneg (by omega)]; omega
      have hsz : (putB S n f).size = 512 := sealB_size _ _ _ _ _ hz
      have HD : Hid (∀ w2 : World, RLeft B b fp W (readD S n) w2 → Blk w2 w.heap.size #[.int .i64 f.kind, .int .u64 f.num, .int .i64 f.idx, .string f.body] 24 → ∀ w3 : World, Below w2.heap.size w2 w3 →
          (Calls Tryd.prog 14 #[.agg #[.int .i64 f.kind, .int .u64 f.num, .int .i64 f.idx, .string f.body], .int .i64 ((IntKind.i64.wrap (IntKind.i64.wrap ((at8 (readS S n) 511).toNat : Int) + 1)).tmod 256)] w3 fun e w' => e = .returned (.tuple #[.string (putB S n f), .int .i64 0]) ∧ Hid (Below w2.heap.size w2 w') ∧ (w'.cell? ⟨w.heap.size, 0, none⟩ = some (.int .i64 f.kind) ∧ w'.cell? ⟨w.heap.size, 1, none⟩ = some (.int .u64 f.num) ∧ w'.cell? ⟨w.heap.size, 2, none⟩ = some (.int .i64 f.idx) ∧ w'.cell? ⟨w.heap.size, 3, none⟩ = some (.string f.body))) ∧
          (Calls Tryd.prog 79 #[.pointer (some ⟨b, 0, none⟩), .int .i64 n, .string (putB S n f)] w3 fun e w' => e = .returned (.int .i64 (writeE (readD S n) n (putB S n f))) ∧ Hid (RLeft B b fp w (writeD (readD S n) n (putB S n f)) w') ∧ (w'.cell? ⟨w.heap.size, 0, none⟩ = some (.int .i64 f.kind) ∧ w'.cell? ⟨w.heap.size, 1, none⟩ = some (.int .u64 f.num) ∧ w'.cell? ⟨w.heap.size, 2, none⟩ = some (.int .i64 f.idx) ∧ w'.cell? ⟨w.heap.size, 3, none⟩ = some (.string f.body)))) := by
        intro w2 hL2 hb2 w3 h3
        constructor
        · have hb3 := hb2.below h3
          have hs1 : sealE f ((((at8 (readS S n) 511).toNat + 1) % 256 : Nat) : Int) = 0 := by unfold sealE; rw [if_neg (by omega)]; exact hw
          have hs2 : sealR f ((((at8 (readS S n) 511).toNat + 1) % 256 : Nat) : Int) = putB S n f := by unfold sealR; rw [if_pos hs1, Int.toNat_natCast]; rfl
          have := rseal_any f ((((at8 (readS S n) 511).toNat + 1) % 256 : Nat) : Int) hn w3
          rw [hs1, hs2] at this
          rw [W1.out]
          refine this.mono ?_
          rintro e w' ⟨rfl, h4⟩
          have hb4 := hb3.below h4
          exact ⟨rfl, h3.trans (h4.mono h3.size), hb4.cell 0 rfl, hb4.cell 1 rfl, hb4.cell 2 rfl, hb4.cell 3 rfl⟩
        · have hL3 := hL2.then h3
          have hz2 := hL2.size
          obtain ⟨fp3, d3, k3, n3⟩ := hL3
          have hz3 := k3.size
          have hb3 := hb2.below h3
          refine (rwrite_any d3 n (putB S n f) (by rw [readD_wait]; exact hfew) (by omega)).mono ?_
          rintro e w' ⟨rfl, hL4⟩
          have hb4 : Blk w' w.heap.size #[.int .i64 f.kind, .int .u64 f.num, .int .i64 f.idx, .string f.body] 24 := by
            obtain ⟨_, _, hk4, _⟩ := id hL4
            exact hb3.kept hk4 (fun e => by rcases n3 _ e with q | q; exact hnf q; omega)
          refine ⟨rfl, rleft_box hb0 (RLeft.trans k3 n3 hL4) (Kept.refl _ _) hg hnf, hb4.cell 0 rfl, hb4.cell 1 rfl, hb4.cell 2 rfl, hb4.cell 3 rfl⟩
      clear e1 e2 hk hi k1 k2 i1 hz hn hblk hnf hw hr d hfew
      generalize putB S n f = PB at *
      generalize writeE (readD S n) n PB = E at *
      generalize writeD (readD S n) n PB = D2 at *
      generalize readD S n = D at *
      generalize readS S n = s at *
      have a1 : s[511]'(by omega) = at8 s 511 := at8_of _
      obtain ⟨fk, fn, fi, fb⟩ := f
      unfold frV pt
      simp only at *
      go_enter Tryd.func76, Tryd.ntmps76
      go_wp2_with fail
      rw [← hW]
      clear hW
      refine (C1.out _).mono ?_
      rintro e w1 ⟨rfl, hb1⟩
      go_wp2_with fail
      refine (HR.out _ hb1).mono ?_
      rintro e w2 ⟨rfl, hL2, hblk2⟩
      obtain ⟨H14, H79⟩ : Hid (∀ w3 : World, Below w2.heap.size w2 w3 → Calls Tryd.prog 14 #[.agg #[.int .i64 fk, .int .u64 fn, .int .i64 fi, .string fb], .int .i64 ((IntKind.i64.wrap (IntKind.i64.wrap ((at8 s 511).toNat : Int) + 1)).tmod 256)] w3 fun e w' => e = .returned (.tuple #[.string PB, .int .i64 0]) ∧ Hid (Below w2.heap.size w2 w') ∧ (w'.cell? ⟨w.heap.size, 0, none⟩ = some (.int .i64 fk) ∧ w'.cell? ⟨w.heap.size, 1, none⟩ = some (.int .u64 fn) ∧ w'.cell? ⟨w.heap.size, 2, none⟩ = some (.int .i64 fi) ∧ w'.cell? ⟨w.heap.size, 3, none⟩ = some (.string fb))) ∧
          Hid (∀ w3 : World, Below w2.heap.size w2 w3 → Calls Tryd.prog 79 #[.pointer (some ⟨b, 0, none⟩), .int .i64 n, .string PB] w3 fun e w' => e = .returned (.int .i64 E) ∧ Hid (RLeft B b fp w D2 w') ∧ (w'.cell? ⟨w.heap.size, 0, none⟩ = some (.int .i64 fk) ∧ w'.cell? ⟨w.heap.size, 1, none⟩ = some (.int .u64 fn) ∧ w'.cell? ⟨w.heap.size, 2, none⟩ = some (.int .i64 fi) ∧ w'.cell? ⟨w.heap.size, 3, none⟩ = some (.string fb))) :=
        ⟨fun w3 h3 => (HD.out w2 hL2.out hblk2 w3 h3).1, fun w3 h3 => (HD.out w2 hL2.out hblk2 w3 h3).2⟩
      have f0 := hblk2.cell 0 rfl
      have f1 := hblk2.cell 1 rfl
      have f2 := hblk2.cell 2 rfl
      have f3 := hblk2.cell 3 rfl
      clear HD HR C1 hb1 hL2 hblk2 c0 c1 c2 c3 hb0 hg
      clear W1
      go_wp2_with fail
      go_region_held3 (fun w' => w'.cell? ⟨w.heap.size, 0, none⟩ = some (.int .i64 fk) ∧ w'.cell? ⟨w.heap.size, 1, none⟩ = some (.int .u64 fn) ∧ w'.cell? ⟨w.heap.size, 2, none⟩ = some (.int .i64 fi) ∧ w'.cell? ⟨w.heap.size, 3, none⟩ = some (.string fb))
        (first | exact q3 | exact ⟨f0, f1, f2, f3⟩)
        (first | (go_at_call 14; refine (H14.out _ (by exact ⟨rfl, rfl, rfl, Nat.le_refl _, fun _ _ => rfl⟩)).mono ?_; rintro e w3 ⟨rfl, b3, q3⟩))
      have H79' : Hid (Calls Tryd.prog 79 #[.pointer (some ⟨b, 0, none⟩), .int .i64 n, .string PB] w3 _) := H79.out _ b3.out
      clear H14 H79 b3 q3 f0 f1 f2 f3
      go_wp2_with fail
      refine H79'.out.mono ?_
      rintro e w4 ⟨rfl, HL4, q4⟩
      clear q4 H79'
      go_wp2
      go_ret
      exact ⟨rfl, HL4.out⟩
    · have e1 : putE S n f = refuseD S n := by unfold putE; rw [if_pos hw, if_neg hr]
      have e2 : putD S n f = S := by unfold putD; rw [if_pos hw, if_neg hr]
      rw [e1, e2]
      have hr' : (refuseD S n == 0) = false := by simpa using hr
      have hend : Hid (∀ w2 : World, RLeft B b fp W (readD S n) w2 → RLeft B b fp w S w2) := fun w2 h => by
        rw [readD_no hr] at h
        exact rleft_box hb0 h (Kept.refl _ _) hg hnf
      clear e1 e2 hk hi k1 k2 i1 hz hn hblk hnf hw hr d hfew
      generalize refuseD S n = E at *
      generalize readS S n = s at *
      unfold frV pt
      go_enter Tryd.func76, Tryd.ntmps76
      go_wp2_with fail
      rw [← hW]
      clear hW
      refine (C1.out _).mono ?_
      rintro e w1 ⟨rfl, hb1⟩
      go_wp2_with fail
      refine (HR.out _ hb1).mono ?_
      rintro e w2 ⟨rfl, hL2, hblk2⟩
      have hL3 := hend.out w2 hL2.out
      clear HR C1 hb1 hL2 hblk2 c0 c1 c2 c3 hb0 hg hend
      go_wp2
      go_ret
      exact ⟨rfl, hL3⟩
  · have e1 : putE S n f = wrong f := by unfold putE; rw [if_neg hw]
    have e2 : putD S n f = S := by unfold putD; rw [if_neg hw]
    rw [e1, e2]
    have hw' : (wrong f == 0) = false := by simpa using hw
    have hend : Hid (∀ w1 : World, Below W.heap.size W w1 → RLeft B b fp w S w1) := fun w1 h => RLeft.same d (hb0.trans (h.mono hb0.size))
    clear e1 e2 hn hblk hnf hw d hfew
    generalize wrong f = E at *
    unfold frV pt
    go_enter Tryd.func76, Tryd.ntmps76
    go_wp2_with fail
    rw [← hW]
    clear hW
    refine (C1.out _).mono ?_
    rintro e w1 ⟨rfl, hb1⟩
    have hL3 := hend.out w1 hb1
    clear C1 hb1 c0 c1 c2 c3 hb0 hg hend
    go_wp2
    go_ret
    exact ⟨rfl, hL3⟩
end Go.Proofs.YtnpcnflfpmjgiaaDoor
