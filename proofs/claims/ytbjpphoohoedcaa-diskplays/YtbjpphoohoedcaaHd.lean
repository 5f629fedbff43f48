/- Two disks beside one another: play. -/
import Derived.Test.YtbjpphoohoedcaaHa
namespace Go.Proofs.Ytbjpphoohoedcaa
open Go.RowKit
set_option linter.unusedVariables false
set_option linter.unusedSimpArgs false

set_option maxHeartbeats 2000000 in
set_option maxRecDepth 100000 in
theorem play_full {B : Nat} {v w : World} {a b : Nat} {fa fb : Nat → Prop} {S : DS} (t : Two B w a b fa fb S S) (on n : Int) (s : ByteArray) (f : UInt8) (fs : List (Int × Int)) (ad : Option Addr) (c : Nat) (hBw : B ≤ w.heap.size) (hn : I64 n) (hfew : S.wait.length < 5864062014000) : Calls Try.prog 21 #[.agg #[pt a, pt b], .agg #[.int .i64 3, .int .i64 on, .int .i64 n, .string s, .int .u8 (f.toNat : Int), .slice ad fs.length c]] w fun e w' => e = .returned (.bool true) ∧ TL B a b fa fb w (writeD S (pickI n (S.safe.length : Int)) (fullB f (f ^^^ 1))) (writeD S (pickI n (S.safe.length : Int)) (fullB f (f ^^^ 1))) w' := by
  unfold pt
  obtain ⟨W, hW⟩ : ∃ W, W = (w.alloc (.cells #[.pointer (some ⟨a, 0, none⟩), .pointer (some ⟨b, 0, none⟩)] 33)).alloc (.cells #[.int .i64 3, .int .i64 on, .int .i64 n, .string s, .int .u8 (f.toNat : Int), .slice ad fs.length c] 42) := ⟨_, rfl⟩
  have hbW : Below w.heap.size w W := hW ▸ (Below_new _ _).alloc (by rw [World.size_alloc]; omega) _
  have KP : Blk W w.heap.size #[.pointer (some ⟨a, 0, none⟩), .pointer (some ⟨b, 0, none⟩)] 33 := hW ▸ (Blk.new _ _ _).below (Below_new _ _)
  have KQ : Blk W (w.heap.size + 1) #[.int .i64 3, .int .i64 on, .int .i64 n, .string s, .int .u8 (f.toNat : Int), .slice ad fs.length c] 42 := by
    have := Blk.new (w.alloc (.cells #[.pointer (some ⟨a, 0, none⟩), .pointer (some ⟨b, 0, none⟩)] 33)) #[.int .i64 3, .int .i64 on, .int .i64 n, .string s, .int .u8 (f.toNat : Int), .slice ad fs.length c] 42
    rw [World.size_alloc] at this
    rw [hW]; exact this
  have T1 := t.below hbW
  have hBW : B ≤ W.heap.size := Nat.le_trans hBw hbW.size
  have HT : Hid (Two B W a b fa fb S S) := T1
  have hlow : ∀ k, (fa k ∨ fb k) → k < w.heap.size := fun k h => (t.low k h).2
  have HKX : Hid (∀ (w' : World) (S1 T1 : DS), TL B a b fa fb W S1 T1 w' → w'.cell? ⟨w.heap.size, 0, none⟩ = some (.pointer (some ⟨a, 0, none⟩)) ∧ w'.cell? ⟨w.heap.size, 1, none⟩ = some (.pointer (some ⟨b, 0, none⟩)) ∧ w'.cell? ⟨w.heap.size + 1, 2, none⟩ = some (.int .i64 n) ∧ w'.cell? ⟨w.heap.size + 1, 3, none⟩ = some (.string s) ∧ w'.cell? ⟨w.heap.size + 1, 4, none⟩ = some (.int .u8 (f.toNat : Int))) := by
    show ∀ (w' : World) (S1 T1 : DS), _
    rintro w' S1 T1 ⟨_, _, _, hk, _⟩
    have q1 := KP.kept hk (fun e => by have := hlow _ e; omega)
    have q2 := KQ.kept hk (fun e => by have := hlow _ e; omega)
    exact ⟨q1.cell 0 rfl, q1.cell 1 rfl, q2.cell 2 rfl, q2.cell 3 rfl, q2.cell 4 rfl⟩
  have HW : Hid (∀ (w' : World) (S1 : DS), TL B a b fa fb W S1 S1 w' → TL B a b fa fb w S1 S1 w') := fun w' S1 h => TL.start T1 hbW hlow h
  have HTB : Hid (∀ w1 : World, Below W.heap.size W w1 → TL B a b fa fb W S S w1) := fun w1 hb => (TL.refl T1).then hb
  have p0 := KP.cell 0 (v := .pointer (some ⟨a, 0, none⟩)) rfl
  have p1 := KP.cell 1 (v := .pointer (some ⟨b, 0, none⟩)) rfl
  have o0 := KQ.cell 0 (v := .int .i64 3) rfl
  have o2 := KQ.cell 2 (v := .int .i64 n) rfl
  have o3 := KQ.cell 3 (v := .string s) rfl
  have o4 := KQ.cell 4 (v := .int .u8 (f.toNat : Int)) rfl
  have o5 := KQ.cell 5 (v := .slice ad fs.length c) rfl
  have CA : Hid (∀ w1 : World, TL B a b fa fb W S S w1 → Calls Try.prog 31 #[.pointer (some ⟨a, 0, none⟩), .int .i64 (pickI n (S.safe.length : Int)), .string (fullB f (f ^^^ 1))] w1 fun e w' => e = .returned (.int .i64 (writeE S (pickI n (S.safe.length : Int)) (fullB f (f ^^^ 1)))) ∧ Hid (TL B a b fa fb W (writeD S (pickI n (S.safe.length : Int)) (fullB f (f ^^^ 1))) S w') ∧ Hid (w'.cell? ⟨w.heap.size, 0, none⟩ = some (.pointer (some ⟨a, 0, none⟩)) ∧ w'.cell? ⟨w.heap.size, 1, none⟩ = some (.pointer (some ⟨b, 0, none⟩)) ∧ w'.cell? ⟨w.heap.size + 1, 2, none⟩ = some (.int .i64 n) ∧ w'.cell? ⟨w.heap.size + 1, 3, none⟩ = some (.string s) ∧ w'.cell? ⟨w.heap.size + 1, 4, none⟩ = some (.int .u8 (f.toNat : Int)))) := by
    show ∀ w1 : World, _
    intro w1 hT
    obtain ⟨fa1, fb1, t1, hk1, hn1⟩ := hT
    have hz1 := hk1.size
    refine (write_any t1.da (pickI n (S.safe.length : Int)) (fullB f (f ^^^ 1)) (by rw [fullB_size]; omega) (by omega) (by omega)).mono ?_
    rintro e w' ⟨h1, h2⟩
    have h3 := TL.trans hk1 hn1 (t1.stepA h2)
    exact ⟨h1, h3, HKX.out w' _ _ h3⟩
  have CB : Hid (∀ w1 : World, TL B a b fa fb W (writeD S (pickI n (S.safe.length : Int)) (fullB f (f ^^^ 1))) S w1 → Calls Try.prog 47 #[.pointer (some ⟨b, 0, none⟩), .int .i64 (pickI n (S.safe.length : Int)), .string (fullB f (f ^^^ 1))] w1 fun e w' => e = .returned (.int .i64 (writeE S (pickI n (S.safe.length : Int)) (fullB f (f ^^^ 1)))) ∧ Hid (TL B a b fa fb W (writeD S (pickI n (S.safe.length : Int)) (fullB f (f ^^^ 1))) (writeD S (pickI n (S.safe.length : Int)) (fullB f (f ^^^ 1))) w') ∧ Hid (w'.cell? ⟨w.heap.size, 0, none⟩ = some (.pointer (some ⟨a, 0, none⟩)) ∧ w'.cell? ⟨w.heap.size, 1, none⟩ = some (.pointer (some ⟨b, 0, none⟩)) ∧ w'.cell? ⟨w.heap.size + 1, 2, none⟩ = some (.int .i64 n) ∧ w'.cell? ⟨w.heap.size + 1, 3, none⟩ = some (.string s) ∧ w'.cell? ⟨w.heap.size + 1, 4, none⟩ = some (.int .u8 (f.toNat : Int)))) := by
    show ∀ w1 : World, _
    intro w1 hT
    obtain ⟨fa1, fb1, t1, hk1, hn1⟩ := hT
    have hz1 := hk1.size
    refine (rwrite_any t1.db (pickI n (S.safe.length : Int)) (fullB f (f ^^^ 1)) hfew (by omega)).mono ?_
    rintro e w' ⟨h1, h2⟩
    have h3 := TL.trans hk1 hn1 (t1.stepB h2)
    exact ⟨h1, h3, HKX.out w' _ _ h3⟩
  have C40 : Hid (∀ w1 : World, Below W.heap.size W w1 → Calls Try.prog 40 #[.pointer (some ⟨b, 0, none⟩)] w1 fun e w' => e = .returned (.int .i64 (S.safe.length : Int)) ∧ w' = w1) := by
    show ∀ w1 : World, _
    intro w1 hb
    obtain ⟨g, cg, pv, _, db⟩ := (T1.below hb).db
    exact rsize_any db
  have hok := T1.da.ok
  have C20 : Hid (∀ w1 : World, Calls Try.prog 20 #[.int .i64 n, .int .i64 (S.safe.length : Int)] w1 fun e w' => e = .returned (.int .i64 (pickI n (S.safe.length : Int))) ∧ w' = w1) := fun w1 => pick_any n (S.safe.length : Int) hn (by have := hok.one; omega) (by have := hok.most; omega) w1
  have C27 : Hid (∀ w1 : World, Calls Try.prog 27 #[.int .u8 (f.toNat : Int), .int .u8 ((f ^^^ 1).toNat : Int)] w1 fun e w' => e = .returned (.string (fullB f (f ^^^ 1))) ∧ Below w1.heap.size w1 w') := fun w1 => full_any f (f ^^^ 1) w1
  have HKB : Hid (∀ w1 : World, Below W.heap.size W w1 → w1.cell? ⟨w.heap.size, 0, none⟩ = some (.pointer (some ⟨a, 0, none⟩)) ∧ w1.cell? ⟨w.heap.size, 1, none⟩ = some (.pointer (some ⟨b, 0, none⟩))) := fun w1 hb => ⟨(KP.below hb).cell 0 rfl, (KP.below hb).cell 1 rfl⟩
  clear hok
  clear t T1 KP KQ hbW hlow
  generalize (pickI n (S.safe.length : Int)) = M at *
  generalize hFS : (fullB f (f ^^^ 1)) = FS at *
  clear hFS
  generalize (S.safe.length : Int) = LN at *
  generalize writeD S M FS = SD at *
  generalize writeE S M FS = E at *
  go_enter Try.func21, Try.ntmps21
  go_wp2_with fail
  rw [← hW]
  clear hW
  go_region_held3 (fun w' => w'.cell? ⟨w.heap.size, 0, none⟩ = some (.pointer (some ⟨a, 0, none⟩)) ∧ w'.cell? ⟨w.heap.size, 1, none⟩ = some (.pointer (some ⟨b, 0, none⟩)) ∧ w'.cell? ⟨w.heap.size + 1, 2, none⟩ = some (.int .i64 n) ∧ w'.cell? ⟨w.heap.size + 1, 3, none⟩ = some (.string s) ∧ w'.cell? ⟨w.heap.size + 1, 4, none⟩ = some (.int .u8 (f.toNat : Int)))
    (first | go_keep)
    (first | (go_at_call 40; refine (C40.out _ (by exact ⟨rfl, rfl, rfl, Nat.le_refl _, fun _ _ => rfl⟩)).mono ?_; rintro e w4 ⟨rfl, hw⟩; rw [hw]; clear hw) | (go_at_call 20; refine (C20.out _).mono ?_; rintro e w5 ⟨rfl, hw⟩; rw [hw]; clear hw))
  have HXR : Hid (bits .xor .u8 (f.toNat : Int) 1 = ((f ^^^ 1).toNat : Int)) := xor_one f
  have C27' : Hid (Calls Try.prog 27 #[.int .u8 (f.toNat : Int), .int .u8 (bits .xor .u8 (f.toNat : Int) 1)] W.drew fun e w' => e = .returned (.string FS) ∧ Hid (Below W.heap.size W w')) := by
    rw [HXR.out]
    exact (C27.out W.drew).mono (fun e w' ⟨h1, h2⟩ => ⟨h1, ⟨h2.os, h2.tape, h2.output, h2.size, h2.block⟩⟩)
  go_wp2_with fail
  refine C27'.out.mono ?_
  rintro e w8 ⟨rfl, hb8⟩
  obtain ⟨x0, x1, x2, x3, x4⟩ := HKX.out w8 _ _ (HTB.out w8 hb8.out)
  have HT8 : Hid (TL B a b fa fb W S S w8) := HTB.out w8 hb8.out
  have HT8' : Hid (∀ w1 : World, Below w8.heap.size w8 w1 → TL B a b fa fb W S S w1) := fun w1 hb => HT8.out.then hb
  clear p0 p1 o0 o2 o3 o4 o5 C27 C27' C40 C20 HXR
  go_wp2_with fail
  go_region_held3 (fun w' => w'.cell? ⟨w.heap.size, 0, none⟩ = some (.pointer (some ⟨a, 0, none⟩)) ∧ w'.cell? ⟨w.heap.size, 1, none⟩ = some (.pointer (some ⟨b, 0, none⟩)) ∧ w'.cell? ⟨w.heap.size + 1, 2, none⟩ = some (.int .i64 n) ∧ w'.cell? ⟨w.heap.size + 1, 3, none⟩ = some (.string s) ∧ w'.cell? ⟨w.heap.size + 1, 4, none⟩ = some (.int .u8 (f.toNat : Int)))
    (first | exact hcB.out | exact hcA.out | go_keep)
    (first | (go_at_call 31; refine (CA.out _ (by exact HT8'.out _ ⟨rfl, rfl, rfl, Nat.le_refl _, fun _ _ => rfl⟩)).mono ?_; rintro e wA ⟨rfl, hTA, hcA⟩) | (go_at_call 47; refine (CB.out _ (by exact hTA.out)).mono ?_; rintro e wB ⟨rfl, hTB, hcB⟩))
  have HE : Hid (TL B a b fa fb w SD SD wB) := HW.out _ _ hTB.out
  clear CA CB hTA hcA hTB hcB HW HKX HT HTB HT8 HT8' hb8 x0 x1 x2 x3 x4 HKB
  go_wp2
  go_ret
  exact ⟨rfl, HE.out⟩
end Go.Proofs.Ytbjpphoohoedcaa
