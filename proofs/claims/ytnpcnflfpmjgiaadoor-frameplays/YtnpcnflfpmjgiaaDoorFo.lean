/- Package frame's opened and Open: the frame of a sector's bytes, or the error. -/
import Derived.Test.YtnpcnflfpmjgiaaDoorFs
import Derived.Defers
import Derived.Recover
namespace Go.Proofs.YtnpcnflfpmjgiaaDoor
open Go.RowKit
set_option linter.unusedVariables false
set_option linter.unusedSimpArgs false

def at8 (s : ByteArray) (i : Nat) : UInt8 := s.data.toList.getD i 0
theorem at8_of {s : ByteArray} {i : Nat} (h : i < s.size) : s[i] = at8 s i := by
  unfold at8
  rw [List.getD_eq_getElem?_getD, List.getElem?_eq_getElem (by simpa using h)]
  rfl
/-- The number that stands there. -/
def numA (s : ByteArray) (a b : Nat) : Nat := numN (s.extract a b).data.toList
/-- What is wrong with a sector's bytes. -/
def openE (s : ByteArray) : Int :=
  if s.size ≠ 512 then 42
  else if at8 s 0 ≠ at8 s 511 then 50
  else if s.extract 507 511 ≠ sumB (s.extract 1 507) then 51
  else if numA s 1 2 = 0 ∨ 2147483647 < numA s 10 14 ∨ 491 < numA s 14 16 then 52
  else if s.extract (16 + numA s 14 16) 507 ≠ zerosB (491 - numA s 14 16) then 52 else 0
def openF (s : ByteArray) : Fr := ⟨numA s 1 2, numA s 2 10, numA s 10 14, s.extract 16 (16 + numA s 14 16)⟩
def zeroF : Fr := ⟨0, 0, 0, ⟨#[]⟩⟩
def openR (s : ByteArray) : Fr := if openE s = 0 then openF s else zeroF
def openM (s : ByteArray) : Int := if openE s = 0 then ((at8 s 0).toNat : Int) else 0
theorem numA_lt (s : ByteArray) (a b : Nat) (hs : s.size = 512) (hb : b ≤ 512) (ha : a ≤ b) : numA s a b < 256 ^ (b - a) := by
  have := numN_lt (s.extract a b).data.toList
  unfold numA
  have e : (s.extract a b).data.toList.length = b - a := by
    rw [show (s.extract a b).data.toList.length = (s.extract a b).size from rfl, ByteArray.size_extract]; omega
  rw [e] at this
  exact this
theorem numA_any (s : ByteArray) (a b : Nat) (hs : s.size = 512) (hb : b ≤ 512) (ha : a ≤ b) (h8 : b - a ≤ 8) (w : World) : Calls Tryd.prog 72 #[.string (s.extract a b)] w fun e w' => e = .returned (.int .u64 (numA s a b)) ∧ w' = w :=
  numin_any _ (by rw [ByteArray.size_extract]; omega) w
set_option maxHeartbeats 1000000 in
set_option maxRecDepth 100000 in
theorem opened_size (s : ByteArray) (hs : s.size ≠ 512) (hl : s.size ≤ 9223372036854775807) (w : World) : Calls Tryd.prog 42 #[.string s] w fun e w' => e = .panicked [pe 42] ∧ Below w.heap.size w w' := by
  have h1 : ((s.size : Int) == 512) = false := by simp; omega
  have hb0 : Below w.heap.size w (w.alloc (.cells #[.int .i64 0, .int .u64 0, .int .i64 0, .string ⟨#[]⟩] 24)) := (Below.refl _ _).alloc (Nat.le_refl _) _
  go_enter Tryd.func42, Tryd.ntmps42
  go_wp2_with fail
  refine (need_no 42 _).mono ?_
  rintro e w2 ⟨rfl, rfl⟩
  go_wp2
  exact ⟨rfl, rfl, hb0⟩
/-- A way that has left a region: what is asked there stands, and nothing is left of the region. -/
theorem left_by {T : Prop} (h : T) (a : Act) (w : World) (f : wpAny Tryd.prog Region.Mode.any #[] (fun _ _ _ => True) 0 #[] a w) : T := h
theorem teq {a b : ByteArray} (h : a = b) : (a.toList == b.toList) = true := by subst h; simp
theorem tne {a b : ByteArray} (h : a ≠ b) : (a.toList == b.toList) = false := by
  rw [beq_eq_false_iff_ne]; intro e
  rw [ByteArray.toList_eq, ByteArray.toList_eq] at e
  exact h (ByteArray.ext (Array.ext' e))
/-- While a sector is opened: where the frame will stand. -/
def St (w wx : World) : Prop := Blk wx w.heap.size #[.int .i64 0, .int .u64 0, .int .i64 0, .string ⟨#[]⟩] 24 ∧ Below w.heap.size w wx ∧ Tab wx
theorem St.below {w a b : World} (h : St w a) (hb : Below a.heap.size a b) : St w b := ⟨h.1.below hb, h.2.1.trans (hb.mono h.2.1.size), h.2.2.below hb⟩
theorem Below.fresh (w : World) (n : Nat) : Below w.heap.size w (w.drewN n) := ⟨rfl, rfl, rfl, Nat.le_refl _, fun _ _ => rfl⟩
theorem St.drewN {w a : World} (h : St w a) (n : Nat) : St w (a.drewN n) := h.below (Below.fresh a n)
set_option maxHeartbeats 2000000 in
set_option maxRecDepth 100000 in
theorem opened_torn (s : ByteArray) (hs : s.size = 512) (ht : at8 s 0 ≠ at8 s 511) (w : World) (hT : Tab w) : Calls Tryd.prog 42 #[.string s] w fun e w' => e = .panicked [pe 50] ∧ Below w.heap.size w w' := by
  have h1 : ((s.size : Int) == 512) = true := by rw [hs]; rfl
  have e0 : s[0]'(by omega) = at8 s 0 := at8_of _
  have e1 : s[511]'(by omega) = at8 s 511 := at8_of _
  obtain ⟨W, hW⟩ : ∃ W, W = (w.alloc (.cells #[.int .i64 0, .int .u64 0, .int .i64 0, .string ⟨#[]⟩] 24)) := ⟨_, rfl⟩
  have HSt : Hid (St w W) := by rw [hW]; exact ⟨Blk.new _ _ _, (Below.refl _ _).alloc (Nat.le_refl _) _, hT.below ((Below.refl _ _).alloc (Nat.le_refl _) _)⟩
  have CY : Hid (∀ (f : Int) (w : World), Calls Tryd.prog 71 #[.bool true, .int .i64 f] w fun e w' => e = .returned (.tuple #[]) ∧ w' = w) := need_yes
  have CN : Hid (∀ (f : Int) (w : World), Calls Tryd.prog 71 #[.bool false, .int .i64 f] w fun e w' => e = .panicked [pe f] ∧ w' = w) := need_no
  have q1 : (((at8 s 0).toNat : Int) == ((at8 s 511).toNat : Int)) = false := by
    simp only [beq_eq_false_iff_ne, ne_eq]; intro e; exact ht (UInt8.toNat_inj.1 (by omega))
  have Q1 : Hid True := trivial
  clear ht
  go_enter Tryd.func42, Tryd.ntmps42
  go_wp2_with fail
  rw [← hW]
  clear hW
  refine (CY.out 42 _).mono ?_
  rintro e w2 ⟨rfl, hw2⟩
  rw [hw2]
  clear hw2
  go_wp2_with fail
  have hend : Hid (Below w.heap.size w W.drew) := (HSt.out.drewN 1).2.1
  go_region_with (go_at_call 71; refine (CN.out 50 _).mono ?_; rintro e w3 ⟨rfl, hw3⟩; rw [hw3]; refine left_by (show _ from ⟨rfl, rfl, hend.out⟩) ⟨#[], []⟩ w ?_)
  all_goals trivial
set_option maxHeartbeats 2000000 in
set_option maxRecDepth 100000 in
theorem opened_sum (s : ByteArray) (hs : s.size = 512) (ht : at8 s 0 = at8 s 511) (hm : s.extract 507 511 ≠ sumB (s.extract 1 507)) (w : World) (hT : Tab w) : Calls Tryd.prog 42 #[.string s] w fun e w' => e = .panicked [pe 51] ∧ Below w.heap.size w w' := by
  have h1 : ((s.size : Int) == 512) = true := by rw [hs]; rfl
  have e0 : s[0]'(by omega) = at8 s 0 := at8_of _
  have e1 : s[511]'(by omega) = at8 s 511 := at8_of _
  obtain ⟨W, hW⟩ : ∃ W, W = (w.alloc (.cells #[.int .i64 0, .int .u64 0, .int .i64 0, .string ⟨#[]⟩] 24)) := ⟨_, rfl⟩
  have HSt : Hid (St w W) := by rw [hW]; exact ⟨Blk.new _ _ _, (Below.refl _ _).alloc (Nat.le_refl _) _, hT.below ((Below.refl _ _).alloc (Nat.le_refl _) _)⟩
  have CY : Hid (∀ (f : Int) (w : World), Calls Tryd.prog 71 #[.bool true, .int .i64 f] w fun e w' => e = .returned (.tuple #[]) ∧ w' = w) := need_yes
  have CN : Hid (∀ (f : Int) (w : World), Calls Tryd.prog 71 #[.bool false, .int .i64 f] w fun e w' => e = .panicked [pe f] ∧ w' = w) := need_no
  have q1 : (((at8 s 0).toNat : Int) == ((at8 s 511).toNat : Int)) = true := by
    simp only [beq_iff_eq]; rw [ht]
  have Q1 : Hid True := trivial
  have CS : Hid (∀ a : World, St w a → Calls Tryd.prog 69 #[.string (s.extract 1 507)] a fun e w' => e = .returned (.string (sumB (s.extract 1 507))) ∧ Hid (St w w')) := fun a h => (sumof_any _ (by rw [ByteArray.size_extract]; omega) a h.2.2).mono (fun e w' ⟨he, hb⟩ => ⟨he, h.below hb⟩)
  have q2 : ((s.extract 507 511).toList == (sumB (s.extract 1 507)).toList) = false := tne hm
  generalize sumB (s.extract 1 507) = sb at *
  clear ht
  go_enter Tryd.func42, Tryd.ntmps42
  go_wp2_with fail
  rw [← hW]
  clear hW
  refine (CY.out 42 _).mono ?_
  rintro e w2 ⟨rfl, hw2⟩
  rw [hw2]
  clear hw2
  go_wp2_with fail
  go_quiet ((go_at_call 71; exact Calls.quiet_of_same (CY.out 50 _)))
  go_wp2_with fail
  have HSt2 : Hid (St w (W.drewN nq)) := HSt.out.drewN _
  generalize W.drewN nq = W2 at *
  clear HSt q1 e0 e1
  have HSt3 : Hid (St w W2.drew) := HSt2.out.drewN 1
  go_region_with (first
    | (go_at_call 69; refine (CS.out _ HSt3.out).mono ?_; rintro e w4 ⟨rfl, HSt4⟩)
    | (go_at_call 71; refine (CN.out 51 _).mono ?_; rintro e w5 ⟨rfl, hw5⟩; rw [hw5]; refine left_by (show _ from ⟨rfl, rfl, HSt4.out.2.1⟩) ⟨#[], []⟩ w ?_))
  all_goals trivial
set_option maxHeartbeats 2000000 in
set_option maxRecDepth 100000 in
theorem opened_kind (s : ByteArray) (hs : s.size = 512) (ht : at8 s 0 = at8 s 511) (hm : s.extract 507 511 = sumB (s.extract 1 507)) (hf : numA s 1 2 = 0) (w : World) (hT : Tab w) : Calls Tryd.prog 42 #[.string s] w fun e w' => e = .panicked [pe 52] ∧ Below w.heap.size w w' := by
  have h1 : ((s.size : Int) == 512) = true := by rw [hs]; rfl
  have e0 : s[0]'(by omega) = at8 s 0 := at8_of _
  have e1 : s[511]'(by omega) = at8 s 511 := at8_of _
  obtain ⟨W, hW⟩ : ∃ W, W = (w.alloc (.cells #[.int .i64 0, .int .u64 0, .int .i64 0, .string ⟨#[]⟩] 24)) := ⟨_, rfl⟩
  have HSt : Hid (St w W) := by rw [hW]; exact ⟨Blk.new _ _ _, (Below.refl _ _).alloc (Nat.le_refl _) _, hT.below ((Below.refl _ _).alloc (Nat.le_refl _) _)⟩
  have CY : Hid (∀ (f : Int) (w : World), Calls Tryd.prog 71 #[.bool true, .int .i64 f] w fun e w' => e = .returned (.tuple #[]) ∧ w' = w) := need_yes
  have CN : Hid (∀ (f : Int) (w : World), Calls Tryd.prog 71 #[.bool false, .int .i64 f] w fun e w' => e = .panicked [pe f] ∧ w' = w) := need_no
  have q1 : (((at8 s 0).toNat : Int) == ((at8 s 511).toNat : Int)) = true := by
    simp only [beq_iff_eq]; rw [ht]
  have Q1 : Hid True := trivial
  have CS : Hid (∀ a : World, St w a → Calls Tryd.prog 69 #[.string (s.extract 1 507)] a fun e w' => e = .returned (.string (sumB (s.extract 1 507))) ∧ Hid (St w w')) := fun a h => (sumof_any _ (by rw [ByteArray.size_extract]; omega) a h.2.2).mono (fun e w' ⟨he, hb⟩ => ⟨he, h.below hb⟩)
  have q2 : ((s.extract 507 511).toList == (sumB (s.extract 1 507)).toList) = true := teq hm
  generalize sumB (s.extract 1 507) = sb at *
  have CA : Hid (∀ w : World, Calls Tryd.prog 72 #[.string (s.extract 1 2)] w fun e w' => e = .returned (.int .u64 (numA s 1 2)) ∧ w' = w) := numA_any s 1 2 hs (by omega) (by omega) (by omega)
  have CB : Hid (∀ w : World, Calls Tryd.prog 72 #[.string (s.extract 10 14)] w fun e w' => e = .returned (.int .u64 (numA s 10 14)) ∧ w' = w) := numA_any s 10 14 hs (by omega) (by omega) (by omega)
  have CC : Hid (∀ w : World, Calls Tryd.prog 72 #[.string (s.extract 14 16)] w fun e w' => e = .returned (.int .u64 (numA s 14 16)) ∧ w' = w) := numA_any s 14 16 hs (by omega) (by omega) (by omega)
  have l1 := numA_lt s 1 2 hs (by omega) (by omega)
  have l2 := numA_lt s 10 14 hs (by omega) (by omega)
  have l3 := numA_lt s 14 16 hs (by omega) (by omega)
  rw [show (256 : Nat) ^ (2 - 1) = 256 from rfl] at l1
  rw [show (256 : Nat) ^ (14 - 10) = 4294967296 from rfl] at l2
  rw [show (256 : Nat) ^ (16 - 14) = 65536 from rfl] at l3
  generalize numA s 1 2 = kk at *
  generalize numA s 10 14 = ii at *
  generalize numA s 14 16 = ll at *
  subst hf
  clear ht
  go_enter Tryd.func42, Tryd.ntmps42
  go_wp2_with fail
  rw [← hW]
  clear hW
  refine (CY.out 42 _).mono ?_
  rintro e w2 ⟨rfl, hw2⟩
  rw [hw2]
  clear hw2
  go_wp2_with fail
  go_quiet ((go_at_call 71; exact Calls.quiet_of_same (CY.out 50 _)))
  go_wp2_with fail
  have HSt2 : Hid (St w (W.drewN nq)) := HSt.out.drewN _
  generalize W.drewN nq = W2 at *
  clear HSt q1 e0 e1
  have HSt3 : Hid (St w W2.drew) := HSt2.out.drewN 1
  go_cut [] (fun wx => Hid (St w wx))
  case first =>
    go_region_with (first
      | (go_at_call 69; refine (CS.out _ HSt3.out).mono ?_; rintro e w4 ⟨rfl, HSt4⟩)
      | (go_at_call 71; refine (CY.out 51 _).mono ?_; rintro e w5 ⟨rfl, hw5⟩; rw [hw5]))
    all_goals (go_wp2_with fail; go_meet; exact HSt4)
  case rest =>
    clear HSt2 HSt3 q2 CS
    go_wp2_with fail
    refine (CA.out _).mono ?_
    rintro e wn ⟨rfl, hwn⟩
    rw [hwn]
    clear hwn
    go_wp2_with fail
    refine (CB.out _).mono ?_
    rintro e wn ⟨rfl, hwn⟩
    rw [hwn]
    clear hwn
    go_wp2_with fail
    refine (CC.out _).mono ?_
    rintro e wn ⟨rfl, hwn⟩
    rw [hwn]
    clear hwn
    go_wp2_with fail
    clear CA CB CC
    refine (CN.out 52 _).mono ?_
    rintro e wn ⟨rfl, hwn⟩
    rw [hwn]
    clear hwn
    go_wp2
    exact ⟨rfl, rfl, hcut.out.2.1⟩
set_option maxHeartbeats 2000000 in
set_option maxRecDepth 100000 in
theorem opened_index (s : ByteArray) (hs : s.size = 512) (ht : at8 s 0 = at8 s 511) (hm : s.extract 507 511 = sumB (s.extract 1 507)) (hf : numA s 1 2 ≠ 0 ∧ 2147483647 < numA s 10 14) (w : World) (hT : Tab w) : Calls Tryd.prog 42 #[.string s] w fun e w' => e = .panicked [pe 52] ∧ Below w.heap.size w w' := by
  have h1 : ((s.size : Int) == 512) = true := by rw [hs]; rfl
  have e0 : s[0]'(by omega) = at8 s 0 := at8_of _
  have e1 : s[511]'(by omega) = at8 s 511 := at8_of _
  obtain ⟨W, hW⟩ : ∃ W, W = (w.alloc (.cells #[.int .i64 0, .int .u64 0, .int .i64 0, .string ⟨#[]⟩] 24)) := ⟨_, rfl⟩
  have HSt : Hid (St w W) := by rw [hW]; exact ⟨Blk.new _ _ _, (Below.refl _ _).alloc (Nat.le_refl _) _, hT.below ((Below.refl _ _).alloc (Nat.le_refl _) _)⟩
  have CY : Hid (∀ (f : Int) (w : World), Calls Tryd.prog 71 #[.bool true, .int .i64 f] w fun e w' => e = .returned (.tuple #[]) ∧ w' = w) := need_yes
  have CN : Hid (∀ (f : Int) (w : World), Calls Tryd.prog 71 #[.bool false, .int .i64 f] w fun e w' => e = .panicked [pe f] ∧ w' = w) := need_no
  have q1 : (((at8 s 0).toNat : Int) == ((at8 s 511).toNat : Int)) = true := by
    simp only [beq_iff_eq]; rw [ht]
  have Q1 : Hid True := trivial
  have CS : Hid (∀ a : World, St w a → Calls Tryd.prog 69 #[.string (s.extract 1 507)] a fun e w' => e = .returned (.string (sumB (s.extract 1 507))) ∧ Hid (St w w')) := fun a h => (sumof_any _ (by rw [ByteArray.size_extract]; omega) a h.2.2).mono (fun e w' ⟨he, hb⟩ => ⟨he, h.below hb⟩)
  have q2 : ((s.extract 507 511).toList == (sumB (s.extract 1 507)).toList) = true := teq hm
  generalize sumB (s.extract 1 507) = sb at *
  have CA : Hid (∀ w : World, Calls Tryd.prog 72 #[.string (s.extract 1 2)] w fun e w' => e = .returned (.int .u64 (numA s 1 2)) ∧ w' = w) := numA_any s 1 2 hs (by omega) (by omega) (by omega)
  have CB : Hid (∀ w : World, Calls Tryd.prog 72 #[.string (s.extract 10 14)] w fun e w' => e = .returned (.int .u64 (numA s 10 14)) ∧ w' = w) := numA_any s 10 14 hs (by omega) (by omega) (by omega)
  have CC : Hid (∀ w : World, Calls Tryd.prog 72 #[.string (s.extract 14 16)] w fun e w' => e = .returned (.int .u64 (numA s 14 16)) ∧ w' = w) := numA_any s 14 16 hs (by omega) (by omega) (by omega)
  have l1 := numA_lt s 1 2 hs (by omega) (by omega)
  have l2 := numA_lt s 10 14 hs (by omega) (by omega)
  have l3 := numA_lt s 14 16 hs (by omega) (by omega)
  rw [show (256 : Nat) ^ (2 - 1) = 256 from rfl] at l1
  rw [show (256 : Nat) ^ (14 - 10) = 4294967296 from rfl] at l2
  rw [show (256 : Nat) ^ (16 - 14) = 65536 from rfl] at l3
  generalize numA s 1 2 = kk at *
  generalize numA s 10 14 = ii at *
  generalize numA s 14 16 = ll at *
  obtain ⟨hf1, hf2⟩ := hf
  have f1 : ((kk : Int) != 0) = true := by simp; omega
  have f2 : ¬ (ii : Int) ≤ 2147483647 := by omega
  clear ht
  go_enter Tryd.func42, Tryd.ntmps42
  go_wp2_with fail
  rw [← hW]
  clear hW
  refine (CY.out 42 _).mono ?_
  rintro e w2 ⟨rfl, hw2⟩
  rw [hw2]
  clear hw2
  go_wp2_with fail
  go_quiet ((go_at_call 71; exact Calls.quiet_of_same (CY.out 50 _)))
  go_wp2_with fail
  have HSt2 : Hid (St w (W.drewN nq)) := HSt.out.drewN _
  generalize W.drewN nq = W2 at *
  clear HSt q1 e0 e1
  have HSt3 : Hid (St w W2.drew) := HSt2.out.drewN 1
  go_cut [] (fun wx => Hid (St w wx))
  case first =>
    go_region_with (first
      | (go_at_call 69; refine (CS.out _ HSt3.out).mono ?_; rintro e w4 ⟨rfl, HSt4⟩)
      | (go_at_call 71; refine (CY.out 51 _).mono ?_; rintro e w5 ⟨rfl, hw5⟩; rw [hw5]))
    all_goals (go_wp2_with fail; go_meet; exact HSt4)
  case rest =>
    clear HSt2 HSt3 q2 CS
    go_wp2_with fail
    refine (CA.out _).mono ?_
    rintro e wn ⟨rfl, hwn⟩
    rw [hwn]
    clear hwn
    go_wp2_with fail
    refine (CB.out _).mono ?_
    rintro e wn ⟨rfl, hwn⟩
    rw [hwn]
    clear hwn
    go_wp2_with fail
    refine (CC.out _).mono ?_
    rintro e wn ⟨rfl, hwn⟩
    rw [hwn]
    clear hwn
    go_wp2_with fail
    clear CA CB CC
    refine (CN.out 52 _).mono ?_
    rintro e wn ⟨rfl, hwn⟩
    rw [hwn]
    clear hwn
    go_wp2
    exact ⟨rfl, rfl, hcut.out.2.1⟩
set_option maxHeartbeats 2000000 in
set_option maxRecDepth 100000 in
theorem opened_length (s : ByteArray) (hs : s.size = 512) (ht : at8 s 0 = at8 s 511) (hm : s.extract 507 511 = sumB (s.extract 1 507)) (hf : numA s 1 2 ≠ 0 ∧ numA s 10 14 ≤ 2147483647 ∧ 491 < numA s 14 16) (w : World) (hT : Tab w) : Calls Tryd.prog 42 #[.string s] w fun e w' => e = .panicked [pe 52] ∧ Below w.heap.size w w' := by
  have h1 : ((s.size : Int) == 512) = true := by rw [hs]; rfl
  have e0 : s[0]'(by omega) = at8 s 0 := at8_of _
  have e1 : s[511]'(by omega) = at8 s 511 := at8_of _
  obtain ⟨W, hW⟩ : ∃ W, W = (w.alloc (.cells #[.int .i64 0, .int .u64 0, .int .i64 0, .string ⟨#[]⟩] 24)) := ⟨_, rfl⟩
  have HSt : Hid (St w W) := by rw [hW]; exact ⟨Blk.new _ _ _, (Below.refl _ _).alloc (Nat.le_refl _) _, hT.below ((Below.refl _ _).alloc (Nat.le_refl _) _)⟩
  have CY : Hid (∀ (f : Int) (w : World), Calls Tryd.prog 71 #[.bool true, .int .i64 f] w fun e w' => e = .returned (.tuple #[]) ∧ w' = w) := need_yes
  have CN : Hid (∀ (f : Int) (w : World), Calls Tryd.prog 71 #[.bool false, .int .i64 f] w fun e w' => e = .panicked [pe f] ∧ w' = w) := need_no
  have q1 : (((at8 s 0).toNat : Int) == ((at8 s 511).toNat : Int)) = true := by
    simp only [beq_iff_eq]; rw [ht]
  have Q1 : Hid True := trivial
  have CS : Hid (∀ a : World, St w a → Calls Tryd.prog 69 #[.string (s.extract 1 507)] a fun e w' => e = .returned (.string (sumB (s.extract 1 507))) ∧ Hid (St w w')) := fun a h => (sumof_any _ (by rw [ByteArray.size_extract]; omega) a h.2.2).mono (fun e w' ⟨he, hb⟩ => ⟨he, h.below hb⟩)
  have q2 : ((s.extract 507 511).toList == (sumB (s.extract 1 507)).toList) = true := teq hm
  generalize sumB (s.extract 1 507) = sb at *
  have CA : Hid (∀ w : World, Calls Tryd.prog 72 #[.string (s.extract 1 2)] w fun e w' => e = .returned (.int .u64 (numA s 1 2)) ∧ w' = w) := numA_any s 1 2 hs (by omega) (by omega) (by omega)
  have CB : Hid (∀ w : World, Calls Tryd.prog 72 #[.string (s.extract 10 14)] w fun e w' => e = .returned (.int .u64 (numA s 10 14)) ∧ w' = w) := numA_any s 10 14 hs (by omega) (by omega) (by omega)
  have CC : Hid (∀ w : World, Calls Tryd.prog 72 #[.string (s.extract 14 16)] w fun e w' => e = .returned (.int .u64 (numA s 14 16)) ∧ w' = w) := numA_any s 14 16 hs (by omega) (by omega) (by omega)
  have l1 := numA_lt s 1 2 hs (by omega) (by omega)
  have l2 := numA_lt s 10 14 hs (by omega) (by omega)
  have l3 := numA_lt s 14 16 hs (by omega) (by omega)
  rw [show (256 : Nat) ^ (2 - 1) = 256 from rfl] at l1
  rw [show (256 : Nat) ^ (14 - 10) = 4294967296 from rfl] at l2
  rw [show (256 : Nat) ^ (16 - 14) = 65536 from rfl] at l3
  generalize numA s 1 2 = kk at *
  generalize numA s 10 14 = ii at *
  generalize numA s 14 16 = ll at *
  obtain ⟨hf1, hf2, hf3⟩ := hf
  have f1 : ((kk : Int) != 0) = true := by simp; omega
  have f2 : (ii : Int) ≤ 2147483647 := by omega
  have f3 : decide ((ll : Int) ≤ 491) = false := by simp; omega
  clear ht
  go_enter Tryd.func42, Tryd.ntmps42
  go_wp2_with fail
  rw [← hW]
  clear hW
  refine (CY.out 42 _).mono ?_
  rintro e w2 ⟨rfl, hw2⟩
  rw [hw2]
  clear hw2
  go_wp2_with fail
  go_quiet ((go_at_call 71; exact Calls.quiet_of_same (CY.out 50 _)))
  go_wp2_with fail
  have HSt2 : Hid (St w (W.drewN nq)) := HSt.out.drewN _
  generalize W.drewN nq = W2 at *
  clear HSt q1 e0 e1
  have HSt3 : Hid (St w W2.drew) := HSt2.out.drewN 1
  go_cut [] (fun wx => Hid (St w wx))
  case first =>
    go_region_with (first
      | (go_at_call 69; refine (CS.out _ HSt3.out).mono ?_; rintro e w4 ⟨rfl, HSt4⟩)
      | (go_at_call 71; refine (CY.out 51 _).mono ?_; rintro e w5 ⟨rfl, hw5⟩; rw [hw5]))
    all_goals (go_wp2_with fail; go_meet; exact HSt4)
  case rest =>
    clear HSt2 HSt3 q2 CS
    go_wp2_with fail
    refine (CA.out _).mono ?_
    rintro e wn ⟨rfl, hwn⟩
    rw [hwn]
    clear hwn
    go_wp2_with fail
    refine (CB.out _).mono ?_
    rintro e wn ⟨rfl, hwn⟩
    rw [hwn]
    clear hwn
    go_wp2_with fail
    refine (CC.out _).mono ?_
    rintro e wn ⟨rfl, hwn⟩
    rw [hwn]
    clear hwn
    go_wp2_with fail
    clear CA CB CC
    refine (CN.out 52 _).mono ?_
    rintro e wn ⟨rfl, hwn⟩
    rw [hwn]
    clear hwn
    go_wp2
    exact ⟨rfl, rfl, hcut.out.2.1⟩
end Go.Proofs.YtnpcnflfpmjgiaaDoor
