/- The walks of FrameBack and FrameAgain. -/
import Derived.Test.YtnpcnflfpmjgiaaDoorHp
namespace Go.Proofs.YtnpcnflfpmjgiaaDoor
open Go.RowKit
set_option linter.unusedVariables false
set_option linter.unusedSimpArgs false

/-- Between its ends a frame's bytes have nothing of the mark. -/
theorem seal_inner (k n i : Nat) (b : ByteArray) (m m' : Nat) (hb : b.size ≤ 491) : (sealB k n i b m).extract 1 511 = (sealB k n i b m').extract 1 511 := by
  have hl : b.data.toList.length ≤ 491 := hb
  have key : ∀ m, ((sealB k n i b m).extract 1 511).data.toList = beL k 1 ++ (beL n 8 ++ (beL i 4 ++ (beL b.data.toList.length 2 ++ (b.data.toList ++ (List.replicate (491 - b.data.toList.length) 0 ++ le4 (sumN (midB k n i b))))))) := by
    intro m
    rw [ext_list, sealB_list]
    exact mid_part (X := [UInt8.ofNat m]) (Z := [UInt8.ofNat m]) (by unfold sealL; simp only [List.append_assoc]) rfl (by simp [beL_length, le4_length]; omega)
  exact list_ext ((key m).trans (key m').symm)
/-- What Seal tells of a right frame. -/
theorem seal_right {f : Fr} (hw : wrong f = 0) (m : Nat) (hm : m < 256) : sealE f (m : Int) = 0 ∧ sealR f (m : Int) = sealB f.kind.toNat f.num f.idx.toNat f.body m := by
  have h : sealE f (m : Int) = 0 := by unfold sealE; rw [if_neg (by omega), hw]
  refine ⟨h, ?_⟩
  unfold sealR
  rw [if_pos h, Int.toNat_natCast]
theorem right_size {f : Fr} (hw : wrong f = 0) : f.body.size ≤ 491 := by
  obtain ⟨_, _, _, _, _, _, _, h⟩ := right_of hw
  exact h
set_option maxHeartbeats 4000000 in
set_option maxRecDepth 100000 in
theorem back_walk5 (f : Fr) (x y : Int) (hi : f.kind ≤ 9223372036854775807) (h1 : I64 f.kind) (h2 : I64 f.idx) (hn : f.num < 18446744073709551616) (hx : I64 x) (hy : I64 y) (w : World) (hT : Tab w) : Calls Tryd.prog 6 #[frV f, .int .i64 x, .int .i64 y] w fun e w' => e = .returned (.bool true) ∧ Below w.heap.size w w' := by
  obtain ⟨W, hW⟩ : ∃ W, W = w.alloc (.cells #[.int .i64 f.kind, .int .u64 f.num, .int .i64 f.idx, .string f.body] 24) := ⟨_, rfl⟩
  have hb0 : Below w.heap.size w W := by rw [hW]; exact (Below.refl _ _).alloc (Nat.le_refl _) _
  have hblk : Blk W w.heap.size #[.int .i64 f.kind, .int .u64 f.num, .int .i64 f.idx, .string f.body] 24 := by rw [hW]; exact Blk.new _ _ _
  have CA : Hid (∀ w : World, Tab w → Calls Tryd.prog 12 #[] w fun e w' => e = .returned (.bool true) ∧ Below w.heap.size w w') := awake_any
  have hwr := rightF_wrong f
  have hnr : (rightF f).num < 18446744073709551616 := hn
  have CR : Hid (∀ w : World, Calls Tryd.prog 29 #[.agg #[.int .i64 f.kind, .int .u64 f.num, .int .i64 f.idx, .string f.body]] w fun e w' => e = .returned (.agg #[.int .i64 (rightF f).kind, .int .u64 (rightF f).num, .int .i64 (rightF f).idx, .string (rightF f).body]) ∧ Below w.heap.size w w') := right_any f h1 h2
  obtain ⟨m, hm, hm2⟩ : ∃ m : Nat, pickI x 256 = m ∧ m < 256 := ⟨(pickI x 256).toNat, by have := pickI_range x 256 (by decide); omega, by have := pickI_range x 256 (by decide); omega⟩
  obtain ⟨n, hnn, hn2⟩ : ∃ n : Nat, pickI y 256 = n ∧ n < 256 := ⟨(pickI y 256).toNat, by have := pickI_range y 256 (by decide); omega, by have := pickI_range y 256 (by decide); omega⟩
  have CX : Hid (∀ w : World, Calls Tryd.prog 17 #[.int .i64 x, .int .i64 256] w fun e w' => e = .returned (.int .i64 (m : Int)) ∧ w' = w) := by rw [← hm]; exact pk_any x 256 hx (by decide) (by decide)
  have CY : Hid (∀ w : World, Calls Tryd.prog 17 #[.int .i64 y, .int .i64 256] w fun e w' => e = .returned (.int .i64 (n : Int)) ∧ w' = w) := by rw [← hnn]; exact pk_any y 256 hy (by decide) (by decide)
  clear hm hnn hn hi h1 h2 hx hy
  generalize rightF f = g at *
  obtain ⟨s1, s2⟩ := seal_right hwr m hm2
  obtain ⟨t1, t2⟩ := seal_right hwr n hn2
  obtain ⟨o1, o2, o3, o4⟩ := open_sealR hwr hnr m hm2
  have hz := right_size hwr
  have z1 : (sealB g.kind.toNat g.num g.idx.toNat g.body m).size = 512 := sealB_size _ _ _ _ _ hz
  have z2 : (sealB g.kind.toNat g.num g.idx.toNat g.body n).size = 512 := sealB_size _ _ _ _ _ hz
  have q1 : (((sealB g.kind.toNat g.num g.idx.toNat g.body m).extract 1 511).toList == ((sealB g.kind.toNat g.num g.idx.toNat g.body n).extract 1 511).toList) = true := teq (seal_inner _ _ _ _ _ _ hz)
  have q2 : at8 (sealB g.kind.toNat g.num g.idx.toNat g.body m) 0 = at8 (sealB g.kind.toNat g.num g.idx.toNat g.body m) 511 := (opened_facts o1).2.1
  have C1 : Hid (∀ w : World, Tab w → Calls Tryd.prog 13 #[.agg #[.int .i64 g.kind, .int .u64 g.num, .int .i64 g.idx, .string g.body], .int .i64 (m : Int)] w fun e w' => e = .returned (.tuple #[.string (sealB g.kind.toNat g.num g.idx.toNat g.body m), .int .i64 0]) ∧ Below w.heap.size w w') := by
    intro w hT
    have := seal_any g (m : Int) hnr w hT
    rw [s1, s2] at this
    exact this
  have C2 : Hid (∀ w : World, Tab w → Calls Tryd.prog 13 #[.agg #[.int .i64 g.kind, .int .u64 g.num, .int .i64 g.idx, .string g.body], .int .i64 (n : Int)] w fun e w' => e = .returned (.tuple #[.string (sealB g.kind.toNat g.num g.idx.toNat g.body n), .int .i64 0]) ∧ Below w.heap.size w w') := by
    intro w hT
    have := seal_any g (n : Int) hnr w hT
    rw [t1, t2] at this
    exact this
  have C3 : Hid (∀ w : World, Tab w → Calls Tryd.prog 15 #[.string (sealB g.kind.toNat g.num g.idx.toNat g.body m)] w fun e w' => e = .returned (.tuple #[.agg #[.int .i64 g.kind, .int .u64 g.num, .int .i64 g.idx, .string g.body], .int .i64 (m : Int), .int .i64 0]) ∧ Below w.heap.size w w') := by
    intro w hT
    have := open_any (sealB g.kind.toNat g.num g.idx.toNat g.body m) (by omega) w hT
    rw [o1, o2, o3] at this
    exact this
  have W1 : IntKind.u8.wrap (m : Int) = (m : Int) := by rw [IntKind.wrap_u8]; omega
  generalize sealB g.kind.toNat g.num g.idx.toNat g.body m = S at *
  generalize sealB g.kind.toNat g.num g.idx.toNat g.body n = T at *
  have a0 : S[0]'(by omega) = at8 S 0 := at8_of _
  have a1 : S[511]'(by omega) = at8 S 511 := at8_of _
  have b1 : ((at8 S 511).toNat : Int) = (m : Int) := by omega
  have b0 : ((at8 S 0).toNat : Int) = (m : Int) := by rw [q2]; exact b1
  have heq : ∀ w : World, (binOp .eql 24 (.agg #[.int .i64 g.kind, .int .u64 (g.num : Int), .int .i64 g.idx, .string g.body]) (.agg #[.int .i64 g.kind, .int .u64 (g.num : Int), .int .i64 g.idx, .string g.body])).run Tryd.prog w = .ok (.bool true) w := by
    intro w
    rw [run_eqF]; simp
  clear s1 s2 t1 t2 o1 o2 o3 o4 q2 hz hwr hnr
  obtain ⟨gk, gn, gi, gb⟩ := g
  obtain ⟨k0, n0, i0, bb⟩ := f
  unfold frV
  simp only at *
  have hTW := hT.below hb0
  clear hT
  go_enter Tryd.func6, Tryd.ntmps6
  go_wp2_with fail
  rw [← hW]
  clear hW
  refine (CA.out _ hTW).mono ?_
  rintro e w1 ⟨rfl, hb1⟩
  have hblk1 := hblk.below hb1
  have hB1 := hb0.trans (hb1.mono hb0.size)
  have hT1 := hTW.below hb1
  have c0 := hblk1.cell 0 rfl
  have c1 := hblk1.cell 1 rfl
  have c2 := hblk1.cell 2 rfl
  have c3 := hblk1.cell 3 rfl
  clear hblk hb0 hb1 hTW CA
  go_wp2_with fail
  refine (CR.out _).mono ?_
  rintro e w2 ⟨rfl, hb2⟩
  have hb3 : Below w2.heap.size w2 (w2.alloc (.cells #[.int .i64 gk, .int .u64 gn, .int .i64 gi, .string gb] 24)) := (Below.refl _ _).alloc (Nat.le_refl _) _
  have hblk3 := Blk.new w2 #[.int .i64 gk, .int .u64 gn, .int .i64 gi, .string gb] 24
  have hB2 := hB1.trans (hb2.mono hB1.size)
  have hB3 := hB2.trans (hb3.mono hB2.size)
  have hT3 := (hT1.below hb2).below hb3
  clear CR c0 c1 c2 c3 hb2 hb3 hB1 hB2 hblk1 hT1
  go_wp2_with fail
  generalize w2.alloc (.cells #[.int .i64 gk, .int .u64 gn, .int .i64 gi, .string gb] 24) = W3 at *
  generalize w2.heap.size = p at *
  refine (CX.out _).mono ?_
  rintro e w4 ⟨rfl, hw4⟩
  rw [hw4]
  clear hw4 CX
  go_wp2_with fail
  refine (CY.out _).mono ?_
  rintro e w5 ⟨rfl, hw5⟩
  rw [hw5]
  clear hw5 CY
  have c0 := hblk3.cell 0 rfl
  have c1 := hblk3.cell 1 rfl
  have c2 := hblk3.cell 2 rfl
  have c3 := hblk3.cell 3 rfl
  go_wp2_with fail
  refine (C1.out _ hT3).mono ?_
  rintro e w6 ⟨rfl, hb6⟩
  have hblk6 := hblk3.below hb6
  have hB6 := hB3.trans (hb6.mono hB3.size)
  have hT6 := hT3.below hb6
  clear C1 c0 c1 c2 c3 hblk3 hb6 hB3 hT3
  have c0 := hblk6.cell 0 rfl
  have c1 := hblk6.cell 1 rfl
  have c2 := hblk6.cell 2 rfl
  have c3 := hblk6.cell 3 rfl
  go_wp2_with fail
  refine (C2.out _ hT6).mono ?_
  rintro e w7 ⟨rfl, hb7⟩
  have hblk7 := hblk6.below hb7
  have hB7 := hB6.trans (hb7.mono hB6.size)
  have hT7 := hT6.below hb7
  clear C2 c0 c1 c2 c3 hblk6 hb7 hB6 hT6
  go_wp2_with fail
  refine (C3.out _ hT7).mono ?_
  rintro e w8 ⟨rfl, hb8⟩
  have hblk8 := hblk7.below hb8
  have hB8 := hB7.trans (hb8.mono hB7.size)
  have hB9 := hB8.alloc hB8.size (.cells #[.int .i64 gk, .int .u64 gn, .int .i64 gi, .string gb] 24)
  have hlt := hblk8.lt
  have c0 := hblk8.cell 0 rfl
  have c1 := hblk8.cell 1 rfl
  have c2 := hblk8.cell 2 rfl
  have c3 := hblk8.cell 3 rfl
  clear C3 hblk7 hb8 hB7 hT7 hblk8 hB8
  go_wp2_with fail
  go_quiet (fail)
  go_wp2
  go_ret
  exact ⟨rfl, ⟨hB9.os, hB9.tape, hB9.output, hB9.size, hB9.block⟩⟩
end Go.Proofs.YtnpcnflfpmjgiaaDoor
