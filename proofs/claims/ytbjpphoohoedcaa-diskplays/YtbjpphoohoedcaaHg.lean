/- Two disks beside one another: play. -/
import Derived.Test.YtbjpphoohoedcaaHa
namespace Go.Proofs.Ytbjpphoohoedcaa
open Go.RowKit
set_option linter.unusedVariables false
set_option linter.unusedSimpArgs false

set_option maxHeartbeats 2000000 in
set_option maxRecDepth 100000 in
theorem play_crash {B : Nat} {v w : World} {a b : Nat} {fa fb : Nat → Prop} {S : DS} (t : Two B w a b fa fb S S) (on n : Int) (s : ByteArray) (f : UInt8) (fs : List (Int × Int)) (ad : Option Addr) (c : Nat) (hBw : B ≤ w.heap.size) (hf : FtO v fs ad) (hv : Below v.heap.size v w) (hvB : v.heap.size ≤ B) (hfl : fs.length ≤ 8796093021952) : Calls Try.prog 21 #[.agg #[pt a, pt b], .agg #[.int .i64 6, .int .i64 on, .int .i64 n, .string s, .int .u8 (f.toNat : Int), .slice ad fs.length c]] w fun e w' => e = .returned (.bool true) ∧ TL B a b fa fb w (crashD S fs) (crashD S fs) w' := by
  unfold pt
  obtain ⟨W, hW⟩ : ∃ W, W = (w.alloc (.cells #[.pointer (some ⟨a, 0, none⟩), .pointer (some ⟨b, 0, none⟩)] 33)).alloc (.cells #[.int .i64 6, .int .i64 on, .int .i64 n, .string s, .int .u8 (f.toNat : Int), .slice ad fs.length c] 42) := ⟨_, rfl⟩
  have hbW : Below w.heap.size w W := hW ▸ (Below_new _ _).alloc (by rw [World.size_alloc]; omega) _
  have KP : Blk W w.heap.size #[.pointer (some ⟨a, 0, none⟩), .pointer (some ⟨b, 0, none⟩)] 33 := hW ▸ (Blk.new _ _ _).below (Below_new _ _)
  have KQ : Blk W (w.heap.size + 1) #[.int .i64 6, .int .i64 on, .int .i64 n, .string s, .int .u8 (f.toNat : Int), .slice ad fs.length c] 42 := by
    have := Blk.new (w.alloc (.cells #[.pointer (some ⟨a, 0, none⟩), .pointer (some ⟨b, 0, none⟩)] 33)) #[.int .i64 6, .int .i64 on, .int .i64 n, .string s, .int .u8 (f.toNat : Int), .slice ad fs.length c] 42
    rw [World.size_alloc] at this
    rw [hW]; exact this
  have T1 := t.below hbW
  have hBW : B ≤ W.heap.size := Nat.le_trans hBw hbW.size
  have HT : Hid (Two B W a b fa fb S S) := T1
  have hlow : ∀ k, (fa k ∨ fb k) → k < w.heap.size := fun k h => (t.low k h).2
  have HKX : Hid (∀ (w' : World) (S1 T1 : DS), TL B a b fa fb W S1 T1 w' → w'.cell? ⟨w.heap.size, 0, none⟩ = some (.pointer (some ⟨a, 0, none⟩)) ∧ w'.cell? ⟨w.heap.size, 1, none⟩ = some (.pointer (some ⟨b, 0, none⟩)) ∧ w'.cell? ⟨w.heap.size + 1, 2, none⟩ = some (.int .i64 n) ∧ w'.cell? ⟨w.heap.size + 1, 3, none⟩ = some (.string s) ∧ w'.cell? ⟨w.heap.size + 1, 4, none⟩ = some (.int .u8 (f.toNat : Int))) := by
    show ∀ (w' : World) (S1 T1 : DS), _
    rintro w' S1 T1 ⟨_, _, _, hk, _⟩
    have q1 := KP.kept hk (fun e => by have := hlow _ e; omega)
    have q2 := KQ.kept hk (fun e => by have := hlow _ e; omega)
    exact ⟨q1.cell 0 rfl, q1.cell 1 rfl, q2.cell 2 rfl, q2.cell 3 rfl, q2.cell 4 rfl⟩
  have HW : Hid (∀ (w' : World) (S1 : DS), TL B a b fa fb W S1 S1 w' → TL B a b fa fb w S1 S1 w') := fun w' S1 h => TL.start T1 hbW hlow h
  have HTB : Hid (∀ w1 : World, Below W.heap.size W w1 → TL B a b fa fb W S S w1) := fun w1 hb => (TL.refl T1).then hb
  have p0 := KP.cell 0 (v := .pointer (some ⟨a, 0, none⟩)) rfl
  have p1 := KP.cell 1 (v := .pointer (some ⟨b, 0, none⟩)) rfl
  have o0 := KQ.cell 0 (v := .int .i64 6) rfl
  have o2 := KQ.cell 2 (v := .int .i64 n) rfl
  have o3 := KQ.cell 3 (v := .string s) rfl
  have o4 := KQ.cell 4 (v := .int .u8 (f.toNat : Int)) rfl
  have o5 := KQ.cell 5 (v := .slice ad fs.length c) rfl
  have C50 : Hid (Calls Try.prog 50 #[.agg #[.pointer (some ⟨a, 0, none⟩), .pointer (some ⟨b, 0, none⟩)], .slice ad fs.length c] W fun e w' => e = .returned (.bool true) ∧ TL B a b fa fb W (crashD S fs) (crashD S fs) w') := pcrash_any T1 fs ad c hf (bstep hv hbW (Nat.le_refl _)) hvB hfl
  clear t T1 KP KQ hbW hlow
  clear hf hv hvB hfl
  generalize crashD S fs = SD at *
  go_enter Try.func21, Try.ntmps21
  go_wp2_with fail
  rw [← hW]
  clear hW
  refine C50.out.mono ?_
  rintro e w1 ⟨rfl, h1⟩
  have HE : Hid (TL B a b fa fb w SD SD w1) := HW.out _ _ h1
  clear C50 h1 HW HKX HT HTB
  go_wp2
  go_ret
  exact ⟨rfl, HE.out⟩
end Go.Proofs.Ytbjpphoohoedcaa
