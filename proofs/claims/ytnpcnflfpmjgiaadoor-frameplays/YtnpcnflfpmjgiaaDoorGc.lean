/- The document's Open: it answers as package frame's. -/
import Derived.Test.YtnpcnflfpmjgiaaDoorGb
import Derived.Test.YtnpcnflfpmjgiaaDoorFx
namespace Go.Proofs.YtnpcnflfpmjgiaaDoor
open Go.RowKit
set_option linter.unusedVariables false
set_option linter.unusedSimpArgs false

/-- While the document opens a sector: where the frame will stand. -/
def Sr (w wx : World) : Prop := Blk wx w.heap.size zeroC 24 ∧ Below w.heap.size w wx
theorem Sr.below {w a b : World} (h : Sr w a) (hb : Below a.heap.size a b) : Sr w b := ⟨h.1.below hb, h.2.trans (hb.mono h.2.size)⟩
theorem Sr.drewN {w a : World} (h : Sr w a) (n : Nat) : Sr w (a.drewN n) := h.below (Below.fresh a n)
theorem Sr.cells {w a : World} (h : Sr w a) : a.cell? ⟨w.heap.size, 0, none⟩ = some (.int .i64 0) ∧ a.cell? ⟨w.heap.size, 1, none⟩ = some (.int .u64 0) ∧ a.cell? ⟨w.heap.size, 2, none⟩ = some (.int .i64 0) ∧ a.cell? ⟨w.heap.size, 3, none⟩ = some (.string ⟨#[]⟩) ∧ a.frozen? ⟨w.heap.size, 0, none⟩ = false ∧ a.frozen? ⟨w.heap.size, 1, none⟩ = false ∧ a.frozen? ⟨w.heap.size, 2, none⟩ = false ∧ a.frozen? ⟨w.heap.size, 3, none⟩ = false :=
  ⟨h.1.cell 0 rfl, h.1.cell 1 rfl, h.1.cell 2 rfl, h.1.cell 3 rfl, h.1.frozen 0, h.1.frozen 1, h.1.frozen 2, h.1.frozen 3⟩
/-- The frame is laid there. -/
theorem Sr.lay {w a : World} (h : Sr w a) (y0 y1 y2 y3 : Value) : Blk ((((a.setCell ⟨w.heap.size, 0, none⟩ y0).setCell ⟨w.heap.size, 1, none⟩ y1).setCell ⟨w.heap.size, 2, none⟩ y2).setCell ⟨w.heap.size, 3, none⟩ y3) w.heap.size #[y0, y1, y2, y3] 24 ∧ Below w.heap.size w ((((a.setCell ⟨w.heap.size, 0, none⟩ y0).setCell ⟨w.heap.size, 1, none⟩ y1).setCell ⟨w.heap.size, 2, none⟩ y2).setCell ⟨w.heap.size, 3, none⟩ y3) :=
  ⟨(((h.1.set 0 y0).set 1 y1).set 2 y2).set 3 y3, (((h.2.setCell (p := ⟨w.heap.size, 0, none⟩) (Nat.le_refl _) _).setCell (p := ⟨w.heap.size, 1, none⟩) (Nat.le_refl _) _).setCell (p := ⟨w.heap.size, 2, none⟩) (Nat.le_refl _) _).setCell (p := ⟨w.heap.size, 3, none⟩) (Nat.le_refl _) _⟩
theorem rnumA_any (s : ByteArray) (a b : Nat) (hs : s.size = 512) (hb : b ≤ 512) (ha : a ≤ b) (h8 : b - a ≤ 8) (w : World) : Calls Tryd.prog 43 #[.string (s.extract a b)] w fun e w' => e = .returned (.int .u64 (numA s a b)) ∧ w' = w :=
  rnumber_any _ (by rw [ByteArray.size_extract]; omega) w
theorem numA_one (s : ByteArray) (i : Nat) (hs : s.size = 512) (hi : i < 512) : numA s i (i + 1) = (at8 s i).toNat := by
  have hl : s.data.toList.length = 512 := hs
  unfold numA
  rw [ext_list, show i + 1 - i = 1 by omega, List.drop_eq_getElem_cons (by omega)]
  unfold at8
  rw [List.getD_eq_getElem?_getD, List.getElem?_eq_getElem (by omega)]
  simp [numN]
theorem at8_get {s : ByteArray} {i : Nat} (h : i < s.data.toList.length) : s.data.toList[i]? = some (at8 s i) := by
  unfold at8; rw [List.getD_eq_getElem?_getD, List.getElem?_eq_getElem h]; rfl
theorem zeros_iff (s : ByteArray) (L : Nat) (hs : s.size = 512) (hL : L ≤ 491) : s.extract (16 + L) 507 = zerosB (491 - L) ↔ ∀ t, t < 491 - L → at8 s (16 + L + t) = 0 := by
  have hl : s.data.toList.length = 512 := hs
  have key : ∀ t, t < 491 - L → (s.extract (16 + L) 507).data.toList[t]? = some (at8 s (16 + L + t)) := by
    intro t ht
    rw [ext_list, List.getElem?_take_of_lt (by omega), List.getElem?_drop, at8_get (by omega)]
  constructor
  · intro h t ht
    have h1 := key t ht
    rw [h] at h1
    unfold zerosB at h1
    rw [List.toList_toArray, List.getElem?_replicate, if_pos ht] at h1
    exact (Option.some.inj h1).symm
  · intro h
    apply list_ext
    apply List.ext_getElem?
    intro t
    by_cases ht : t < 491 - L
    · rw [key t ht, h t ht]
      unfold zerosB
      rw [List.toList_toArray, List.getElem?_replicate, if_pos ht]
    · rw [List.getElem?_eq_none (by rw [ext_list, List.length_take, List.length_drop]; omega)]
      unfold zerosB
      rw [List.toList_toArray, List.getElem?_eq_none (by rw [List.length_replicate]; omega)]
set_option maxHeartbeats 2000000 in
set_option maxRecDepth 100000 in
theorem ropen_size (s : ByteArray) (hs : s.size ≠ 512) (hl : s.size ≤ 9223372036854775807) (w : World) : Calls Tryd.prog 16 #[.string s] w fun e w' => e = .returned (.tuple #[.agg #[.int .i64 0, .int .u64 0, .int .i64 0, .string ⟨#[]⟩], .int .i64 0, .int .i64 42]) ∧ Below w.heap.size w w' := by
  obtain ⟨W, hW⟩ : ∃ W, W = (w.alloc (.cells zeroC 24)) := ⟨_, rfl⟩
  have HS : Hid (Sr w W) := by rw [hW]; exact ⟨Blk.new _ _ _, (Below.refl _ _).alloc (Nat.le_refl _) _⟩
  unfold zeroC at hW
  have h1 : ((s.size : Int) == 512) = false := by simp; omega
  go_enter Tryd.func16, Tryd.ntmps16
  go_upto_if 9 with fail
  rw [← hW]
  clear hW
  obtain ⟨c0, c1, c2, c3, z0, z1, z2, z3⟩ := HS.out.cells
  obtain ⟨hB, hL⟩ := HS.out.lay (.int .i64 0) (.int .u64 0) (.int .i64 0) (.string ⟨#[]⟩)
  go_wp2
  have r0 := hB.cell 0 rfl
  have r1 := hB.cell 1 rfl
  have r2 := hB.cell 2 rfl
  have r3 := hB.cell 3 rfl
  refine bodyPost_ret (v := .tuple #[.agg #[.int .i64 0, .int .u64 0, .int .i64 0, .string ⟨#[]⟩], .int .i64 0, .int .i64 42]) ?_ rfl ⟨rfl, hL⟩
  simp [results, Tryd.results16, go_sem, r0, r1, r2, r3]
set_option maxHeartbeats 2000000 in
set_option maxRecDepth 100000 in
theorem ropen_torn (s : ByteArray) (hs : s.size = 512) (ht : at8 s 0 ≠ at8 s 511) (w : World) : Calls Tryd.prog 16 #[.string s] w fun e w' => e = .returned (.tuple #[.agg #[.int .i64 0, .int .u64 0, .int .i64 0, .string ⟨#[]⟩], .int .i64 0, .int .i64 50]) ∧ Below w.heap.size w w' := by
  obtain ⟨W, hW⟩ : ∃ W, W = (w.alloc (.cells zeroC 24)) := ⟨_, rfl⟩
  have HS : Hid (Sr w W) := by rw [hW]; exact ⟨Blk.new _ _ _, (Below.refl _ _).alloc (Nat.le_refl _) _⟩
  unfold zeroC at hW
  have h1 : ((s.size : Int) == 512) = true := by rw [hs]; rfl
  have e0 : s[0]'(by omega) = at8 s 0 := at8_of _
  have e1 : s[511]'(by omega) = at8 s 511 := at8_of _
  have q1 : (((at8 s 0).toNat : Int) == ((at8 s 511).toNat : Int)) = false := by
    simp only [beq_eq_false_iff_ne, ne_eq]; intro e; exact ht (UInt8.toNat_inj.1 (by omega))
  go_enter Tryd.func16, Tryd.ntmps16
  go_wp2_with fail
  rw [← hW]
  clear hW
  go_quiet (fail)
  have HS2 : Hid (Sr w (W.drewN nq)) := HS.out.drewN _
  generalize W.drewN nq = W2 at *
  clear HS
  obtain ⟨c0, c1, c2, c3, z0, z1, z2, z3⟩ := HS2.out.cells
  obtain ⟨hB, hL⟩ := HS2.out.lay (.int .i64 0) (.int .u64 0) (.int .i64 0) (.string ⟨#[]⟩)
  go_wp2
  have r0 := hB.cell 0 rfl
  have r1 := hB.cell 1 rfl
  have r2 := hB.cell 2 rfl
  have r3 := hB.cell 3 rfl
  refine bodyPost_ret (v := .tuple #[.agg #[.int .i64 0, .int .u64 0, .int .i64 0, .string ⟨#[]⟩], .int .i64 0, .int .i64 50]) ?_ rfl ⟨rfl, hL⟩
  simp [results, Tryd.results16, go_sem, r0, r1, r2, r3]
set_option maxHeartbeats 2000000 in
set_option maxRecDepth 100000 in
theorem ropen_sum (s : ByteArray) (hs : s.size = 512) (ht : at8 s 0 = at8 s 511) (hm : s.extract 507 511 ≠ sumB (s.extract 1 507)) (w : World) : Calls Tryd.prog 16 #[.string s] w fun e w' => e = .returned (.tuple #[.agg #[.int .i64 0, .int .u64 0, .int .i64 0, .string ⟨#[]⟩], .int .i64 0, .int .i64 51]) ∧ Below w.heap.size w w' := by
  obtain ⟨W, hW⟩ : ∃ W, W = (w.alloc (.cells zeroC 24)) := ⟨_, rfl⟩
  have HS : Hid (Sr w W) := by rw [hW]; exact ⟨Blk.new _ _ _, (Below.refl _ _).alloc (Nat.le_refl _) _⟩
  unfold zeroC at hW
  have h1 : ((s.size : Int) == 512) = true := by rw [hs]; rfl
  have e0 : s[0]'(by omega) = at8 s 0 := at8_of _
  have e1 : s[511]'(by omega) = at8 s 511 := at8_of _
  have q1 : (((at8 s 0).toNat : Int) == ((at8 s 511).toNat : Int)) = true := by
    simp only [beq_iff_eq]; rw [ht]
  have CS : Hid (∀ a : World, Sr w a → Calls Tryd.prog 40 #[.string (s.extract 1 507)] a fun e w' => e = .returned (.string (sumB (s.extract 1 507))) ∧ Hid (Sr w w')) := fun a h => (rsum_any _ (by rw [ByteArray.size_extract]; omega) a).mono (fun e w' ⟨he, hb⟩ => ⟨he, h.below hb⟩)
  have q2 : ((s.extract 507 511).toList == (sumB (s.extract 1 507)).toList) = false := tne hm
  generalize sumB (s.extract 1 507) = sb at *
  go_enter Tryd.func16, Tryd.ntmps16
  go_wp2_with fail
  rw [← hW]
  clear hW
  go_quiet (fail)
  have HS2 : Hid (Sr w (W.drewN nq)) := HS.out.drewN _
  generalize W.drewN nq = W2 at *
  clear HS
  go_wp2_with fail
  have HS3 : Hid (Sr w W2.drew) := HS2.out.drewN 1
  clear HS2
  go_cut [22] (fun t wx => t = .bool true ∧ Hid (Sr w wx))
  case first =>
    go_region_with (go_at_call 40; refine (CS.out _ HS3.out).mono ?_; rintro e w4 ⟨rfl, HS4⟩)
    all_goals (go_wp2_with fail; go_meet; exact ⟨rfl, HS4⟩)
  case rest =>
    obtain ⟨rfl, HS5⟩ := hcut
    clear HS3 CS q2 q1
    obtain ⟨c0, c1, c2, c3, z0, z1, z2, z3⟩ := HS5.out.cells
    obtain ⟨hB, hL⟩ := HS5.out.lay (.int .i64 0) (.int .u64 0) (.int .i64 0) (.string ⟨#[]⟩)
    go_wp2
    have r0 := hB.cell 0 rfl
    have r1 := hB.cell 1 rfl
    have r2 := hB.cell 2 rfl
    have r3 := hB.cell 3 rfl
    refine bodyPost_ret (v := .tuple #[.agg #[.int .i64 0, .int .u64 0, .int .i64 0, .string ⟨#[]⟩], .int .i64 0, .int .i64 51]) ?_ rfl ⟨rfl, hL⟩
    simp [results, Tryd.results16, go_sem, r0, r1, r2, r3]
set_option maxHeartbeats 2000000 in
set_option maxRecDepth 100000 in
theorem ropen_kind (s : ByteArray) (hs : s.size = 512) (ht : at8 s 0 = at8 s 511) (hm : s.extract 507 511 = sumB (s.extract 1 507)) (hf : numA s 1 2 = 0) (w : World) : Calls Tryd.prog 16 #[.string s] w fun e w' => e = .returned (.tuple #[.agg #[.int .i64 0, .int .u64 0, .int .i64 0, .string ⟨#[]⟩], .int .i64 0, .int .i64 52]) ∧ Below w.heap.size w w' := by
  obtain ⟨W, hW⟩ : ∃ W, W = (w.alloc (.cells zeroC 24)) := ⟨_, rfl⟩
  have HS : Hid (Sr w W) := by rw [hW]; exact ⟨Blk.new _ _ _, (Below.refl _ _).alloc (Nat.le_refl _) _⟩
  unfold zeroC at hW
  have h1 : ((s.size : Int) == 512) = true := by rw [hs]; rfl
  have e0 : s[0]'(by omega) = at8 s 0 := at8_of _
  have e1 : s[511]'(by omega) = at8 s 511 := at8_of _
  have q1 : (((at8 s 0).toNat : Int) == ((at8 s 511).toNat : Int)) = true := by
    simp only [beq_iff_eq]; rw [ht]
  have CS : Hid (∀ a : World, Sr w a → Calls Tryd.prog 40 #[.string (s.extract 1 507)] a fun e w' => e = .returned (.string (sumB (s.extract 1 507))) ∧ Hid (Sr w w')) := fun a h => (rsum_any _ (by rw [ByteArray.size_extract]; omega) a).mono (fun e w' ⟨he, hb⟩ => ⟨he, h.below hb⟩)
  have q2 : ((s.extract 507 511).toList == (sumB (s.extract 1 507)).toList) = true := teq hm
  generalize sumB (s.extract 1 507) = sb at *
  have CB : Hid (∀ w : World, Calls Tryd.prog 43 #[.string (s.extract 10 14)] w fun e w' => e = .returned (.int .u64 (numA s 10 14)) ∧ w' = w) := rnumA_any s 10 14 hs (by omega) (by omega) (by omega)
  have CC : Hid (∀ w : World, Calls Tryd.prog 43 #[.string (s.extract 14 16)] w fun e w' => e = .returned (.int .u64 (numA s 14 16)) ∧ w' = w) := rnumA_any s 14 16 hs (by omega) (by omega) (by omega)
  have l2 := numA_lt s 10 14 hs (by omega) (by omega)
  have l3 := numA_lt s 14 16 hs (by omega) (by omega)
  rw [show (256 : Nat) ^ (14 - 10) = 4294967296 from rfl] at l2
  rw [show (256 : Nat) ^ (16 - 14) = 65536 from rfl] at l3
  have hk1 := numA_one s 1 hs (by omega)
  rw [show (1 : Nat) + 1 = 2 from rfl] at hk1
  have e2 : s[1]'(by omega) = at8 s 1 := at8_of _
  rw [hk1] at hf
  generalize numA s 10 14 = ii at *
  generalize numA s 14 16 = ll at *
  have W8 : IntKind.i64.wrap (ll : Int) = (ll : Int) := by rw [IntKind.wrap_i64]; omega
  have W9 : IntKind.i64.wrap (ii : Int) = (ii : Int) := by rw [IntKind.wrap_i64]; omega
  have f1 : (((at8 s 1).toNat : Int) == 0) = true := by simp; omega
  go_enter Tryd.func16, Tryd.ntmps16
  go_wp2_with fail
  rw [← hW]
  clear hW
  go_quiet (fail)
  have HS2 : Hid (Sr w (W.drewN nq)) := HS.out.drewN _
  generalize W.drewN nq = W2 at *
  clear HS
  go_wp2_with fail
  have HS3 : Hid (Sr w W2.drew) := HS2.out.drewN 1
  clear HS2
  go_cut [22] (fun t wx => t = .bool false ∧ Hid (Sr w wx))
  case first =>
    go_region_with (go_at_call 40; refine (CS.out _ HS3.out).mono ?_; rintro e w4 ⟨rfl, HS4⟩)
    all_goals (go_wp2_with fail; go_meet; exact ⟨rfl, HS4⟩)
  case rest =>
    obtain ⟨rfl, HS5⟩ := hcut
    clear HS3 CS q2 q1
    go_wp2_with fail
    refine (CC.out _).mono ?_
    rintro e wn ⟨rfl, hwn⟩
    rw [hwn]
    clear hwn CC
    go_upto_if 40 with fail
    obtain ⟨c0, c1, c2, c3, z0, z1, z2, z3⟩ := HS5.out.cells
    obtain ⟨hB, hL⟩ := HS5.out.lay (.int .i64 0) (.int .u64 0) (.int .i64 0) (.string ⟨#[]⟩)
    go_wp2
    have r0 := hB.cell 0 rfl
    have r1 := hB.cell 1 rfl
    have r2 := hB.cell 2 rfl
    have r3 := hB.cell 3 rfl
    refine bodyPost_ret (v := .tuple #[.agg #[.int .i64 0, .int .u64 0, .int .i64 0, .string ⟨#[]⟩], .int .i64 0, .int .i64 52]) ?_ rfl ⟨rfl, hL⟩
    simp [results, Tryd.results16, go_sem, r0, r1, r2, r3]
set_option maxHeartbeats 2000000 in
set_option maxRecDepth 100000 in
theorem ropen_index (s : ByteArray) (hs : s.size = 512) (ht : at8 s 0 = at8 s 511) (hm : s.extract 507 511 = sumB (s.extract 1 507)) (hf : numA s 1 2 ≠ 0 ∧ 2147483647 < numA s 10 14) (w : World) : Calls Tryd.prog 16 #[.string s] w fun e w' => e = .returned (.tuple #[.agg #[.int .i64 0, .int .u64 0, .int .i64 0, .string ⟨#[]⟩], .int .i64 0, .int .i64 52]) ∧ Below w.heap.size w w' := by
  obtain ⟨W, hW⟩ : ∃ W, W = (w.alloc (.cells zeroC 24)) := ⟨_, rfl⟩
  have HS : Hid (Sr w W) := by rw [hW]; exact ⟨Blk.new _ _ _, (Below.refl _ _).alloc (Nat.le_refl _) _⟩
  unfold zeroC at hW
  have h1 : ((s.size : Int) == 512) = true := by rw [hs]; rfl
  have e0 : s[0]'(by omega) = at8 s 0 := at8_of _
  have e1 : s[511]'(by omega) = at8 s 511 := at8_of _
  have q1 : (((at8 s 0).toNat : Int) == ((at8 s 511).toNat : Int)) = true := by
    simp only [beq_iff_eq]; rw [ht]
  have CS : Hid (∀ a : World, Sr w a → Calls Tryd.prog 40 #[.string (s.extract 1 507)] a fun e w' => e = .returned (.string (sumB (s.extract 1 507))) ∧ Hid (Sr w w')) := fun a h => (rsum_any _ (by rw [ByteArray.size_extract]; omega) a).mono (fun e w' ⟨he, hb⟩ => ⟨he, h.below hb⟩)
  have q2 : ((s.extract 507 511).toList == (sumB (s.extract 1 507)).toList) = true := teq hm
  generalize sumB (s.extract 1 507) = sb at *
  have CB : Hid (∀ w : World, Calls Tryd.prog 43 #[.string (s.extract 10 14)] w fun e w' => e = .returned (.int .u64 (numA s 10 14)) ∧ w' = w) := rnumA_any s 10 14 hs (by omega) (by omega) (by omega)
  have CC : Hid (∀ w : World, Calls Tryd.prog 43 #[.string (s.extract 14 16)] w fun e w' => e = .returned (.int .u64 (numA s 14 16)) ∧ w' = w) := rnumA_any s 14 16 hs (by omega) (by omega) (by omega)
  have l2 := numA_lt s 10 14 hs (by omega) (by omega)
  have l3 := numA_lt s 14 16 hs (by omega) (by omega)
  rw [show (256 : Nat) ^ (14 - 10) = 4294967296 from rfl] at l2
  rw [show (256 : Nat) ^ (16 - 14) = 65536 from rfl] at l3
  have hk1 := numA_one s 1 hs (by omega)
  rw [show (1 : Nat) + 1 = 2 from rfl] at hk1
  have e2 : s[1]'(by omega) = at8 s 1 := at8_of _
  rw [hk1] at hf
  generalize numA s 10 14 = ii at *
  generalize numA s 14 16 = ll at *
  have W8 : IntKind.i64.wrap (ll : Int) = (ll : Int) := by rw [IntKind.wrap_i64]; omega
  have W9 : IntKind.i64.wrap (ii : Int) = (ii : Int) := by rw [IntKind.wrap_i64]; omega
  obtain ⟨hf1, hf2⟩ := hf
  have f1 : (((at8 s 1).toNat : Int) == 0) = false := by simp; omega
  have f2 : (2147483647 : Int) < (ii : Int) := by omega
  go_enter Tryd.func16, Tryd.ntmps16
  go_wp2_with fail
  rw [← hW]
  clear hW
  go_quiet (fail)
  have HS2 : Hid (Sr w (W.drewN nq)) := HS.out.drewN _
  generalize W.drewN nq = W2 at *
  clear HS
  go_wp2_with fail
  have HS3 : Hid (Sr w W2.drew) := HS2.out.drewN 1
  clear HS2
  go_cut [22] (fun t wx => t = .bool false ∧ Hid (Sr w wx))
  case first =>
    go_region_with (go_at_call 40; refine (CS.out _ HS3.out).mono ?_; rintro e w4 ⟨rfl, HS4⟩)
    all_goals (go_wp2_with fail; go_meet; exact ⟨rfl, HS4⟩)
  case rest =>
    obtain ⟨rfl, HS5⟩ := hcut
    clear HS3 CS q2 q1
    go_wp2_with fail
    refine (CC.out _).mono ?_
    rintro e wn ⟨rfl, hwn⟩
    rw [hwn]
    clear hwn CC
    go_wp2_with fail
    refine (CB.out _).mono ?_
    rintro e wn ⟨rfl, hwn⟩
    rw [hwn]
    clear hwn
    go_upto_if 40 with fail
    obtain ⟨c0, c1, c2, c3, z0, z1, z2, z3⟩ := HS5.out.cells
    obtain ⟨hB, hL⟩ := HS5.out.lay (.int .i64 0) (.int .u64 0) (.int .i64 0) (.string ⟨#[]⟩)
    go_wp2
    have r0 := hB.cell 0 rfl
    have r1 := hB.cell 1 rfl
    have r2 := hB.cell 2 rfl
    have r3 := hB.cell 3 rfl
    refine bodyPost_ret (v := .tuple #[.agg #[.int .i64 0, .int .u64 0, .int .i64 0, .string ⟨#[]⟩], .int .i64 0, .int .i64 52]) ?_ rfl ⟨rfl, hL⟩
    simp [results, Tryd.results16, go_sem, r0, r1, r2, r3]
set_option maxHeartbeats 2000000 in
set_option maxRecDepth 100000 in
theorem ropen_length (s : ByteArray) (hs : s.size = 512) (ht : at8 s 0 = at8 s 511) (hm : s.extract 507 511 = sumB (s.extract 1 507)) (hf : numA s 1 2 ≠ 0 ∧ numA s 10 14 ≤ 2147483647 ∧ 491 < numA s 14 16) (w : World) : Calls Tryd.prog 16 #[.string s] w fun e w' => e = .returned (.tuple #[.agg #[.int .i64 0, .int .u64 0, .int .i64 0, .string ⟨#[]⟩], .int .i64 0, .int .i64 52]) ∧ Below w.heap.size w w' := by
  obtain ⟨W, hW⟩ : ∃ W, W = (w.alloc (.cells zeroC 24)) := ⟨_, rfl⟩
  have HS : Hid (Sr w W) := by rw [hW]; exact ⟨Blk.new _ _ _, (Below.refl _ _).alloc (Nat.le_refl _) _⟩
  unfold zeroC at hW
  have h1 : ((s.size : Int) == 512) = true := by rw [hs]; rfl
  have e0 : s[0]'(by omega) = at8 s 0 := at8_of _
  have e1 : s[511]'(by omega) = at8 s 511 := at8_of _
  have q1 : (((at8 s 0).toNat : Int) == ((at8 s 511).toNat : Int)) = true := by
    simp only [beq_iff_eq]; rw [ht]
  have CS : Hid (∀ a : World, Sr w a → Calls Tryd.prog 40 #[.string (s.extract 1 507)] a fun e w' => e = .returned (.string (sumB (s.extract 1 507))) ∧ Hid (Sr w w')) := fun a h => (rsum_any _ (by rw [ByteArray.size_extract]; omega) a).mono (fun e w' ⟨he, hb⟩ => ⟨he, h.below hb⟩)
  have q2 : ((s.extract 507 511).toList == (sumB (s.extract 1 507)).toList) = true := teq hm
  generalize sumB (s.extract 1 507) = sb at *
  have CB : Hid (∀ w : World, Calls Tryd.prog 43 #[.string (s.extract 10 14)] w fun e w' => e = .returned (.int .u64 (numA s 10 14)) ∧ w' = w) := rnumA_any s 10 14 hs (by omega) (by omega) (by omega)
  have CC : Hid (∀ w : World, Calls Tryd.prog 43 #[.string (s.extract 14 16)] w fun e w' => e = .returned (.int .u64 (numA s 14 16)) ∧ w' = w) := rnumA_any s 14 16 hs (by omega) (by omega) (by omega)
  have l2 := numA_lt s 10 14 hs (by omega) (by omega)
  have l3 := numA_lt s 14 16 hs (by omega) (by omega)
  rw [show (256 : Nat) ^ (14 - 10) = 4294967296 from rfl] at l2
  rw [show (256 : Nat) ^ (16 - 14) = 65536 from rfl] at l3
  have hk1 := numA_one s 1 hs (by omega)
  rw [show (1 : Nat) + 1 = 2 from rfl] at hk1
  have e2 : s[1]'(by omega) = at8 s 1 := at8_of _
  rw [hk1] at hf
  generalize numA s 10 14 = ii at *
  generalize numA s 14 16 = ll at *
  have W8 : IntKind.i64.wrap (ll : Int) = (ll : Int) := by rw [IntKind.wrap_i64]; omega
  have W9 : IntKind.i64.wrap (ii : Int) = (ii : Int) := by rw [IntKind.wrap_i64]; omega
  obtain ⟨hf1, hf2, hf3⟩ := hf
  have f1 : (((at8 s 1).toNat : Int) == 0) = false := by simp; omega
  have f2 : ¬ (2147483647 : Int) < (ii : Int) := by omega
  have f3 : (491 : Int) < (ll : Int) := by omega
  go_enter Tryd.func16, Tryd.ntmps16
  go_wp2_with fail
  rw [← hW]
  clear hW
  go_quiet (fail)
  have HS2 : Hid (Sr w (W.drewN nq)) := HS.out.drewN _
  generalize W.drewN nq = W2 at *
  clear HS
  go_wp2_with fail
  have HS3 : Hid (Sr w W2.drew) := HS2.out.drewN 1
  clear HS2
  go_cut [22] (fun t wx => t = .bool false ∧ Hid (Sr w wx))
  case first =>
    go_region_with (go_at_call 40; refine (CS.out _ HS3.out).mono ?_; rintro e w4 ⟨rfl, HS4⟩)
    all_goals (go_wp2_with fail; go_meet; exact ⟨rfl, HS4⟩)
  case rest =>
    obtain ⟨rfl, HS5⟩ := hcut
    clear HS3 CS q2 q1
    go_wp2_with fail
    refine (CC.out _).mono ?_
    rintro e wn ⟨rfl, hwn⟩
    rw [hwn]
    clear hwn CC
    go_wp2_with fail
    refine (CB.out _).mono ?_
    rintro e wn ⟨rfl, hwn⟩
    rw [hwn]
    clear hwn
    go_upto_if 40 with fail
    obtain ⟨c0, c1, c2, c3, z0, z1, z2, z3⟩ := HS5.out.cells
    obtain ⟨hB, hL⟩ := HS5.out.lay (.int .i64 0) (.int .u64 0) (.int .i64 0) (.string ⟨#[]⟩)
    go_wp2
    have r0 := hB.cell 0 rfl
    have r1 := hB.cell 1 rfl
    have r2 := hB.cell 2 rfl
    have r3 := hB.cell 3 rfl
    refine bodyPost_ret (v := .tuple #[.agg #[.int .i64 0, .int .u64 0, .int .i64 0, .string ⟨#[]⟩], .int .i64 0, .int .i64 52]) ?_ rfl ⟨rfl, hL⟩
    simp [results, Tryd.results16, go_sem, r0, r1, r2, r3]
end Go.Proofs.YtnpcnflfpmjgiaaDoor
