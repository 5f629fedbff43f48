/- Two disks beside one another: play. -/
import Derived.Test.YtnpcnflfpmjgiaaDoorLa
namespace Go.Proofs.YtnpcnflfpmjgiaaDoor
open Go.RowKit
set_option linter.unusedVariables false
set_option linter.unusedSimpArgs false

set_option maxHeartbeats 2000000 in
set_option maxRecDepth 100000 in
theorem play5_other {B : Nat} {v w : World} {a b : Nat} {fa fb : Nat → Prop} {S : DS} (t : Two B w a b fa fb S S) (on n gk : Int) (gn : Nat) (gi : Int) (gb : ByteArray) (f : UInt8) (fs : List (Int × Int)) (ad : Option Addr) (c : Nat) (hT : Tab w) (hB : 1 < B) (hBw : B ≤ w.heap.size) (kd : Int) (h1 : (kd == 1) = false) (h2 : (kd == 2) = false) (h3 : (kd == 3) = false) (h4 : (kd == 4) = false) (h5 : (kd == 5) = false) (h6 : (kd == 6) = false) (h7 : (kd == 7) = false) (h8 : (kd == 8) = false) (h9 : (kd == 9) = false) : Calls Tryd.prog 20 #[.agg #[.pointer (some ⟨a, 0, none⟩), .pointer (some ⟨b, 0, none⟩)], .agg #[.int .i64 kd, .int .i64 on, .int .i64 n, .int .i64 gk, .int .u64 (gn : Int), .int .i64 gi, .string gb, .int .u8 (f.toNat : Int), .slice ad fs.length c]] w fun e w' => e = .returned (.bool true) ∧ TL B a b fa fb w S S w' := by
  obtain ⟨W, hW⟩ : ∃ W, W = (w.alloc (.cells #[.pointer (some ⟨a, 0, none⟩), .pointer (some ⟨b, 0, none⟩)] 43)).alloc (.cells #[.int .i64 kd, .int .i64 on, .int .i64 n, .int .i64 gk, .int .u64 (gn : Int), .int .i64 gi, .string gb, .int .u8 (f.toNat : Int), .slice ad fs.length c] 46) := ⟨_, rfl⟩
  have hbW : Below w.heap.size w W := hW ▸ (Below_new _ _).alloc (by rw [World.size_alloc]; omega) _
  have KP : Blk W w.heap.size #[.pointer (some ⟨a, 0, none⟩), .pointer (some ⟨b, 0, none⟩)] 43 := hW ▸ (Blk.new _ _ _).below (Below_new _ _)
  have KQ : Blk W (w.heap.size + 1) #[.int .i64 kd, .int .i64 on, .int .i64 n, .int .i64 gk, .int .u64 (gn : Int), .int .i64 gi, .string gb, .int .u8 (f.toNat : Int), .slice ad fs.length c] 46 := by
    have := Blk.new (w.alloc (.cells #[.pointer (some ⟨a, 0, none⟩), .pointer (some ⟨b, 0, none⟩)] 43)) #[.int .i64 kd, .int .i64 on, .int .i64 n, .int .i64 gk, .int .u64 (gn : Int), .int .i64 gi, .string gb, .int .u8 (f.toNat : Int), .slice ad fs.length c] 46
    rw [World.size_alloc] at this
    rw [hW]; exact this
  have T1 := t.below hbW
  have hTW := hT.below hbW
  have hBW : B ≤ W.heap.size := Nat.le_trans hBw hbW.size
  have HT : Hid (Two B W a b fa fb S S) := T1
  have hlow : ∀ k, (fa k ∨ fb k) → k < w.heap.size := fun k h => (t.low k h).2
  have HKX : Hid (∀ (w' : World) (S1 T1 : DS), TL B a b fa fb W S1 T1 w' → w'.cell? ⟨w.heap.size, 0, none⟩ = some (.pointer (some ⟨a, 0, none⟩)) ∧ w'.cell? ⟨w.heap.size, 1, none⟩ = some (.pointer (some ⟨b, 0, none⟩)) ∧ w'.cell? ⟨w.heap.size + 1, 2, none⟩ = some (.int .i64 n) ∧ w'.cell? ⟨w.heap.size + 1, 3, none⟩ = some (.int .i64 gk) ∧ w'.cell? ⟨w.heap.size + 1, 4, none⟩ = some (.int .u64 (gn : Int)) ∧ w'.cell? ⟨w.heap.size + 1, 5, none⟩ = some (.int .i64 gi) ∧ w'.cell? ⟨w.heap.size + 1, 6, none⟩ = some (.string gb) ∧ w'.cell? ⟨w.heap.size + 1, 8, none⟩ = some (.slice ad fs.length c)) := by
    show ∀ (w' : World) (S1 T1 : DS), _
    rintro w' S1 T1 ⟨_, _, _, hk, _⟩
    have q1 := KP.kept hk (fun e => by have := hlow _ e; omega)
    have q2 := KQ.kept hk (fun e => by have := hlow _ e; omega)
    exact ⟨q1.cell 0 rfl, q1.cell 1 rfl, q2.cell 2 rfl, q2.cell 3 rfl, q2.cell 4 rfl, q2.cell 5 rfl, q2.cell 6 rfl, q2.cell 8 rfl⟩
  have HW : Hid (∀ (w' : World) (S1 : DS), TL B a b fa fb W S1 S1 w' → TL B a b fa fb w S1 S1 w') := fun w' S1 h => TL.start T1 hbW hlow h
  have HTB : Hid (∀ w1 : World, Below W.heap.size W w1 → TL B a b fa fb W S S w1) := fun w1 hb => (TL.refl T1).then hb
  have p0 := KP.cell 0 (v := .pointer (some ⟨a, 0, none⟩)) rfl
  have p1 := KP.cell 1 (v := .pointer (some ⟨b, 0, none⟩)) rfl
  have o0 := KQ.cell 0 (v := .int .i64 kd) rfl
  have o1 := KQ.cell 1 (v := .int .i64 on) rfl
  have o2 := KQ.cell 2 (v := .int .i64 n) rfl
  have o3 := KQ.cell 3 (v := .int .i64 gk) rfl
  have o4 := KQ.cell 4 (v := .int .u64 (gn : Int)) rfl
  have o5 := KQ.cell 5 (v := .int .i64 gi) rfl
  have o6 := KQ.cell 6 (v := .string gb) rfl
  have o7 := KQ.cell 7 (v := .int .u8 (f.toNat : Int)) rfl
  have o8 := KQ.cell 8 (v := .slice ad fs.length c) rfl
  have HE : Hid (TL B a b fa fb w S S W) := HW.out _ _ (TL.refl T1)
  clear t T1 KP KQ hbW hlow hT hTW
  go_enter Tryd.func20, Tryd.ntmps20
  go_wp2
  go_ret
  rw [← hW]
  exact ⟨rfl, HE.out⟩
end Go.Proofs.YtnpcnflfpmjgiaaDoor
