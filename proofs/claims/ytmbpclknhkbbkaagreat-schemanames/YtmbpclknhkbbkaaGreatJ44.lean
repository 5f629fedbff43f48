/- Package schema: steps that are well made. Package schema: isStep. Package schema's checker: checkStep. -/
import Derived.Test.YtmbpclknhkbbkaaGreatJ05
import Derived.Test.YtmbpclknhkbbkaaGreatJ40
import Derived.Test.YtmbpclknhkbbkaaGreatJ07
import Derived.Test.YtmbpclknhkbbkaaGreatJ06
namespace Go.Proofs.YtmbpclknhkbbkaaGreat
open Go.RowKit
set_option linter.unusedVariables false
set_option linter.unusedSimpArgs false

set_option maxHeartbeats 1000000 in
set_option maxRecDepth 100000 in
theorem isStep_1z (r : Rf) (a b : Opd) (w : World) : Calls Tryz.prog 204 #[.agg #[.int .i64 1, .string r.head, .string r.name, .int .i64 0, .string a.ref.head, .string a.ref.name, .int .u64 (hiOf a.const), .int .u64 (loOf a.const), .string b.ref.head, .string b.ref.name, .int .u64 (hiOf b.const), .int .u64 (loOf b.const)]] w fun e w' => e = .returned (.bool (decide ((⟨1, r, 0, a, b⟩ : Stp) = ⟨1, r, 0, a, zeroO⟩) && (isOpN 0 && (isOpd a && isOpd b)))) ∧ Below w.heap.size w w' := by
  have hE : ∀ u : World, (binOp .eql 167 (.agg (stA 1 r 0 a b)) (.agg #[.int .i64 1, .string r.head, .string r.name, .int .i64 0, .string a.ref.head, .string a.ref.name, .int .u64 (hiOf a.const), .int .u64 (loOf a.const), .string ⟨#[]⟩, .string ⟨#[]⟩, .int .u64 0, .int .u64 0])).run Tryz.prog u = .ok (.bool (decide ((⟨1, r, 0, a, b⟩ : Stp) = ⟨1, r, 0, a, zeroO⟩))) u := fun u => by
    have := run_eq167 ⟨1, r, 0, a, b⟩ ⟨1, r, 0, a, zeroO⟩ u
    simpa [StpC, stA, zA, hiOf, loOf] using this
  have CO : Hid (∀ w, Calls Tryz.prog 227 #[.int .i64 0] w fun e w' => e = .returned (.bool (isOpN 0)) ∧ w' = w) := fun w => isOp_any 0 w
  have CA : Hid (∀ w, Calls Tryz.prog 228 #[.agg #[.string a.ref.head, .string a.ref.name, .int .u64 (hiOf a.const), .int .u64 (loOf a.const)]] w fun e w' => e = .returned (.bool (isOpd a)) ∧ Below w.heap.size w w') := fun w => isOperand_any a w
  have CB : Hid (∀ w, Calls Tryz.prog 228 #[.agg #[.string b.ref.head, .string b.ref.name, .int .u64 (hiOf b.const), .int .u64 (loOf b.const)]] w fun e w' => e = .returned (.bool (isOpd b)) ∧ Below w.heap.size w w') := fun w => isOperand_any b w
  generalize decide ((⟨1, r, 0, a, b⟩ : Stp) = ⟨1, r, 0, a, zeroO⟩) = q at *
  generalize isOpN 0 = co at *
  generalize isOpd a = ca at *
  generalize isOpd b = cb at *
  have HB0 : Hid (Blk (w.alloc (.cells (stA 1 r 0 a b) 167)) w.heap.size (stA 1 r 0 a b) 167 ∧ Below w.heap.size w (w.alloc (.cells (stA 1 r 0 a b) 167))) := ⟨Blk.new _ _ _, (Below.refl _ _).alloc (Nat.le_refl _) _⟩
  go_enter Tryz.func204, Tryz.ntmps204
  go_upto_region 1 with fail
  generalize (w.alloc _) = W0 at HB0 ⊢
  have p0 := HB0.out.1.cell 0 (v := .int .i64 1) rfl
  have hlt : w.heap.size < W0.heap.size := HB0.out.1.lt
  have HN : Hid (Blk (W0.alloc (.cells (zA 0) 167)) W0.heap.size (zA 0) 167) := Blk.new _ _ _
  have TH : Hid ((W0.alloc (.cells (zA 0) 167)).there W0.heap.size 0 (zL 1).toArray.size) := blk_there HN.out (by simp)
  have HB1 : Hid (Blk ((W0.alloc (.cells (zA 0) 167)).setCells W0.heap.size 0 (zL 1)) w.heap.size (stA 1 r 0 a b) 167 ∧ Blk ((W0.alloc (.cells (zA 0) 167)).setCells W0.heap.size 0 (zL 1)) W0.heap.size (zA 1) 167 ∧ Below w.heap.size w ((W0.alloc (.cells (zA 0) 167)).setCells W0.heap.size 0 (zL 1))) :=
    ⟨HB0.out.1.below (below_setCells ((Below.refl _ _).alloc (Nat.le_refl _) _) (Nat.le_refl _) _ _), blk_over (zL 1) (pre := []) (old := (zL 0)) rfl HN.out, below_setCells (HB0.out.2.alloc HB0.out.2.size _) HB0.out.2.size _ _⟩
  have on : (zL 1).toArray.all (·.oneCell') = true := by simp [Value.oneCell']
  have ON : Hid ((zL 1).toArray.all (·.oneCell') = true) := on
  have hz : (Tryz.prog.info? 167).map (·.size) = some (zL 1).length := by kernel_rfl
  clear on HN
  go_upto_region 2 with (refine wpList_store_mid rfl 167 _ _ rfl W0.heap.size 0 (zL 1).toArray rfl rfl TH.out (by rw [List.size_toArray]; exact hz) ON.out ?_)
  generalize ((W0.alloc (.cells (zA 0) 167)).setCells W0.heap.size 0 (zL 1)) = W1 at HB1 ⊢
  clear TH ON hz p0
  have p0 := HB1.out.1.cell 0 (v := .int .i64 1) rfl
  have p1 := HB1.out.1.cell 1 (v := .string r.head) rfl
  have m1 := HB1.out.2.1.cell 1 (v := .string ⟨#[]⟩) rfl
  have f1 := HB1.out.2.1.frozen 1
  have p2 := HB1.out.1.cell 2 (v := .string r.name) rfl
  have m2 := HB1.out.2.1.cell 2 (v := .string ⟨#[]⟩) rfl
  have f2 := HB1.out.2.1.frozen 2
  have p3 := HB1.out.1.cell 3 (v := .int .i64 0) rfl
  have m3 := HB1.out.2.1.cell 3 (v := .int .i64 0) rfl
  have f3 := HB1.out.2.1.frozen 3
  have p4 := HB1.out.1.cell 4 (v := .string a.ref.head) rfl
  have m4 := HB1.out.2.1.cell 4 (v := .string ⟨#[]⟩) rfl
  have f4 := HB1.out.2.1.frozen 4
  have p5 := HB1.out.1.cell 5 (v := .string a.ref.name) rfl
  have m5 := HB1.out.2.1.cell 5 (v := .string ⟨#[]⟩) rfl
  have f5 := HB1.out.2.1.frozen 5
  have p6 := HB1.out.1.cell 6 (v := .int .u64 (hiOf a.const)) rfl
  have m6 := HB1.out.2.1.cell 6 (v := .int .u64 0) rfl
  have f6 := HB1.out.2.1.frozen 6
  have p7 := HB1.out.1.cell 7 (v := .int .u64 (loOf a.const)) rfl
  have m7 := HB1.out.2.1.cell 7 (v := .int .u64 0) rfl
  have f7 := HB1.out.2.1.frozen 7
  have HBx : Hid (Blk (((((((W1.setCell ⟨W0.heap.size, 1, none⟩ (.string r.head)).setCell ⟨W0.heap.size, 2, none⟩ (.string r.name)).setCell ⟨W0.heap.size, 3, none⟩ (.int .i64 0)).setCell ⟨W0.heap.size, 4, none⟩ (.string a.ref.head)).setCell ⟨W0.heap.size, 5, none⟩ (.string a.ref.name)).setCell ⟨W0.heap.size, 6, none⟩ (.int .u64 (hiOf a.const))).setCell ⟨W0.heap.size, 7, none⟩ (.int .u64 (loOf a.const))).drew w.heap.size (stA 1 r 0 a b) 167 ∧ Blk (((((((W1.setCell ⟨W0.heap.size, 1, none⟩ (.string r.head)).setCell ⟨W0.heap.size, 2, none⟩ (.string r.name)).setCell ⟨W0.heap.size, 3, none⟩ (.int .i64 0)).setCell ⟨W0.heap.size, 4, none⟩ (.string a.ref.head)).setCell ⟨W0.heap.size, 5, none⟩ (.string a.ref.name)).setCell ⟨W0.heap.size, 6, none⟩ (.int .u64 (hiOf a.const))).setCell ⟨W0.heap.size, 7, none⟩ (.int .u64 (loOf a.const))).drew W0.heap.size #[.int .i64 1, .string r.head, .string r.name, .int .i64 0, .string a.ref.head, .string a.ref.name, .int .u64 (hiOf a.const), .int .u64 (loOf a.const), .string ⟨#[]⟩, .string ⟨#[]⟩, .int .u64 0, .int .u64 0] 167 ∧ Below w.heap.size w (((((((W1.setCell ⟨W0.heap.size, 1, none⟩ (.string r.head)).setCell ⟨W0.heap.size, 2, none⟩ (.string r.name)).setCell ⟨W0.heap.size, 3, none⟩ (.int .i64 0)).setCell ⟨W0.heap.size, 4, none⟩ (.string a.ref.head)).setCell ⟨W0.heap.size, 5, none⟩ (.string a.ref.name)).setCell ⟨W0.heap.size, 6, none⟩ (.int .u64 (hiOf a.const))).setCell ⟨W0.heap.size, 7, none⟩ (.int .u64 (loOf a.const))).drew) :=
    ⟨(HB1.out.1.kept (S := fun k => k = W0.heap.size) (Kept.set (S := fun k => k = W0.heap.size) (p := ⟨W0.heap.size, 7, none⟩) (Kept.set (S := fun k => k = W0.heap.size) (p := ⟨W0.heap.size, 6, none⟩) (Kept.set (S := fun k => k = W0.heap.size) (p := ⟨W0.heap.size, 5, none⟩) (Kept.set (S := fun k => k = W0.heap.size) (p := ⟨W0.heap.size, 4, none⟩) (Kept.set (S := fun k => k = W0.heap.size) (p := ⟨W0.heap.size, 3, none⟩) (Kept.set (S := fun k => k = W0.heap.size) (p := ⟨W0.heap.size, 2, none⟩) (Kept.set (S := fun k => k = W0.heap.size) (p := ⟨W0.heap.size, 1, none⟩) (Kept.refl _ W1) rfl _) rfl _) rfl _) rfl _) rfl _) rfl _) rfl _) (by omega)).below ((Below.refl _ _).drew), (show Blk (((((((W1.setCell ⟨W0.heap.size, 1, none⟩ (.string r.head)).setCell ⟨W0.heap.size, 2, none⟩ (.string r.name)).setCell ⟨W0.heap.size, 3, none⟩ (.int .i64 0)).setCell ⟨W0.heap.size, 4, none⟩ (.string a.ref.head)).setCell ⟨W0.heap.size, 5, none⟩ (.string a.ref.name)).setCell ⟨W0.heap.size, 6, none⟩ (.int .u64 (hiOf a.const))).setCell ⟨W0.heap.size, 7, none⟩ (.int .u64 (loOf a.const))) W0.heap.size #[.int .i64 1, .string r.head, .string r.name, .int .i64 0, .string a.ref.head, .string a.ref.name, .int .u64 (hiOf a.const), .int .u64 (loOf a.const), .string ⟨#[]⟩, .string ⟨#[]⟩, .int .u64 0, .int .u64 0] 167 from (((((((HB1.out.2.1.set 1 _).set 2 _).set 3 _).set 4 _).set 5 _).set 6 _).set 7 _)).below ((Below.refl _ _).drew), (((((((HB1.out.2.2.setCell (by show w.heap.size ≤ W0.heap.size; omega) _).setCell (by show w.heap.size ≤ W0.heap.size; omega) _).setCell (by show w.heap.size ≤ W0.heap.size; omega) _).setCell (by show w.heap.size ≤ W0.heap.size; omega) _).setCell (by show w.heap.size ≤ W0.heap.size; omega) _).setCell (by show w.heap.size ≤ W0.heap.size; omega) _).setCell (by show w.heap.size ≤ W0.heap.size; omega) _).drew⟩
  go_wp2_with fail
  go_region
  generalize (((((((W1.setCell ⟨W0.heap.size, 1, none⟩ (.string r.head)).setCell ⟨W0.heap.size, 2, none⟩ (.string r.name)).setCell ⟨W0.heap.size, 3, none⟩ (.int .i64 0)).setCell ⟨W0.heap.size, 4, none⟩ (.string a.ref.head)).setCell ⟨W0.heap.size, 5, none⟩ (.string a.ref.name)).setCell ⟨W0.heap.size, 6, none⟩ (.int .u64 (hiOf a.const))).setCell ⟨W0.heap.size, 7, none⟩ (.int .u64 (loOf a.const))).drew = Wx at HBx ⊢
  clear HB1 p0 p1 m1 f1 p2 m2 f2 p3 m3 f3 p4 m4 f4 p5 m5 f5 p6 m6 f6 p7 m7 f7
  have p3 := HBx.out.1.cell 3 (v := .int .i64 0) rfl
  go_upto_region 15 with fail
  have HB2 := HBx
  clear HBx p3
  generalize Wx = W2 at HB2 ⊢
  have R1 : Hid (W2.rangeAt w.heap.size 0 (stL 1 r 0 a b)) := blk_range HB2.out.1
  have R2 : Hid (W2.rangeAt W0.heap.size 0 ([.int .i64 1, .string r.head, .string r.name, .int .i64 0, .string a.ref.head, .string a.ref.name, .int .u64 (hiOf a.const), .int .u64 (loOf a.const), .string ⟨#[]⟩, .string ⟨#[]⟩, .int .u64 0, .int .u64 0] : List Value)) := blk_range HB2.out.2.1
  have p3 := HB2.out.1.cell 3 (v := .int .i64 0) rfl
  have p4 := HB2.out.1.cell 4 (v := .string a.ref.head) rfl
  have p5 := HB2.out.1.cell 5 (v := .string a.ref.name) rfl
  have p6 := HB2.out.1.cell 6 (v := .int .u64 (hiOf a.const)) rfl
  have p7 := HB2.out.1.cell 7 (v := .int .u64 (loOf a.const)) rfl
  cases q
  · go_wp2_with (first | (refine wpList_load_mid rfl 167 _ rfl w.heap.size 0 rfl (stL 1 r 0 a b) _ R1.out Tryz.underlying167 rfl (by kernel_rfl) ?_) | (refine wpList_load_mid rfl 167 _ rfl W0.heap.size 0 rfl ([.int .i64 1, .string r.head, .string r.name, .int .i64 0, .string a.ref.head, .string a.ref.name, .int .u64 (hiOf a.const), .int .u64 (loOf a.const), .string ⟨#[]⟩, .string ⟨#[]⟩, .int .u64 0, .int .u64 0] : List Value) _ R2.out Tryz.underlying167 rfl (by kernel_rfl) ?_))
    go_ret
    exact ⟨rfl, HB2.out.2.2⟩
  go_wp2_with (first | (refine wpList_load_mid rfl 167 _ rfl w.heap.size 0 rfl (stL 1 r 0 a b) _ R1.out Tryz.underlying167 rfl (by kernel_rfl) ?_) | (refine wpList_load_mid rfl 167 _ rfl W0.heap.size 0 rfl ([.int .i64 1, .string r.head, .string r.name, .int .i64 0, .string a.ref.head, .string a.ref.name, .int .u64 (hiOf a.const), .int .u64 (loOf a.const), .string ⟨#[]⟩, .string ⟨#[]⟩, .int .u64 0, .int .u64 0] : List Value) _ R2.out Tryz.underlying167 rfl (by kernel_rfl) ?_))
  refine (CO.out _).mono ?_
  rintro e V0 ⟨rfl, rfl⟩
  cases co
  · go_wp2
    go_ret
    exact ⟨rfl, HB2.out.2.2⟩
  go_wp2_with fail
  refine (CA.out _).mono ?_
  rintro e V1 ⟨rfl, hb⟩
  have HB3 : Hid (Blk V1 w.heap.size (stA 1 r 0 a b) 167 ∧ Below w.heap.size w V1) := ⟨HB2.out.1.below hb, bst HB2.out.2.2 hb (Nat.le_refl _)⟩
  clear hb HB2 R1 R2 p3 p4 p5 p6 p7
  have p8 := HB3.out.1.cell 8 (v := .string b.ref.head) rfl
  have p9 := HB3.out.1.cell 9 (v := .string b.ref.name) rfl
  have p10 := HB3.out.1.cell 10 (v := .int .u64 (hiOf b.const)) rfl
  have p11 := HB3.out.1.cell 11 (v := .int .u64 (loOf b.const)) rfl
  cases ca
  · go_wp2
    go_ret
    exact ⟨rfl, HB3.out.2⟩
  go_wp2_with fail
  refine (CB.out _).mono ?_
  rintro e V2 ⟨rfl, hb⟩
  have HB4 : Hid (Below w.heap.size w V2) := bst HB3.out.2 hb (Nat.le_refl _)
  clear hb HB3 p8 p9 p10 p11
  go_wp2
  go_ret
  exact ⟨rfl, HB4.out⟩
set_option maxHeartbeats 1000000 in
set_option maxRecDepth 100000 in
theorem isStep_1n (r : Rf) (p : Int) (hp : ¬ p = 0) (a b : Opd) (w : World) : Calls Tryz.prog 204 #[.agg #[.int .i64 1, .string r.head, .string r.name, .int .i64 p, .string a.ref.head, .string a.ref.name, .int .u64 (hiOf a.const), .int .u64 (loOf a.const), .string b.ref.head, .string b.ref.name, .int .u64 (hiOf b.const), .int .u64 (loOf b.const)]] w fun e w' => e = .returned (.bool (decide ((⟨1, r, p, a, b⟩ : Stp) = ⟨1, r, p, a, b⟩) && (isOpN p && (isOpd a && isOpd b)))) ∧ Below w.heap.size w w' := by
  have hE : ∀ u : World, (binOp .eql 167 (.agg (stA 1 r p a b)) (.agg (stA 1 r p a b))).run Tryz.prog u = .ok (.bool (decide ((⟨1, r, p, a, b⟩ : Stp) = ⟨1, r, p, a, b⟩))) u := fun u => by
    have := run_eq167 ⟨1, r, p, a, b⟩ ⟨1, r, p, a, b⟩ u
    simpa [StpC, stA, zA, hiOf, loOf] using this
  have hp1 : (p == 0) = false := by simpa using hp
  have hp2 : (p != 0) = true := by simpa using hp
  have CO : Hid (∀ w, Calls Tryz.prog 227 #[.int .i64 p] w fun e w' => e = .returned (.bool (isOpN p)) ∧ w' = w) := fun w => isOp_any p w
  have CA : Hid (∀ w, Calls Tryz.prog 228 #[.agg #[.string a.ref.head, .string a.ref.name, .int .u64 (hiOf a.const), .int .u64 (loOf a.const)]] w fun e w' => e = .returned (.bool (isOpd a)) ∧ Below w.heap.size w w') := fun w => isOperand_any a w
  have CB : Hid (∀ w, Calls Tryz.prog 228 #[.agg #[.string b.ref.head, .string b.ref.name, .int .u64 (hiOf b.const), .int .u64 (loOf b.const)]] w fun e w' => e = .returned (.bool (isOpd b)) ∧ Below w.heap.size w w') := fun w => isOperand_any b w
  generalize decide ((⟨1, r, p, a, b⟩ : Stp) = ⟨1, r, p, a, b⟩) = q at *
  generalize isOpN p = co at *
  generalize isOpd a = ca at *
  generalize isOpd b = cb at *
  have HB0 : Hid (Blk (w.alloc (.cells (stA 1 r p a b) 167)) w.heap.size (stA 1 r p a b) 167 ∧ Below w.heap.size w (w.alloc (.cells (stA 1 r p a b) 167))) := ⟨Blk.new _ _ _, (Below.refl _ _).alloc (Nat.le_refl _) _⟩
  go_enter Tryz.func204, Tryz.ntmps204
  go_upto_region 1 with fail
  generalize (w.alloc _) = W0 at HB0 ⊢
  have p0 := HB0.out.1.cell 0 (v := .int .i64 1) rfl
  have hlt : w.heap.size < W0.heap.size := HB0.out.1.lt
  have HN : Hid (Blk (W0.alloc (.cells (zA 0) 167)) W0.heap.size (zA 0) 167) := Blk.new _ _ _
  have TH : Hid ((W0.alloc (.cells (zA 0) 167)).there W0.heap.size 0 (zL 1).toArray.size) := blk_there HN.out (by simp)
  have HB1 : Hid (Blk ((W0.alloc (.cells (zA 0) 167)).setCells W0.heap.size 0 (zL 1)) w.heap.size (stA 1 r p a b) 167 ∧ Blk ((W0.alloc (.cells (zA 0) 167)).setCells W0.heap.size 0 (zL 1)) W0.heap.size (zA 1) 167 ∧ Below w.heap.size w ((W0.alloc (.cells (zA 0) 167)).setCells W0.heap.size 0 (zL 1))) :=
    ⟨HB0.out.1.below (below_setCells ((Below.refl _ _).alloc (Nat.le_refl _) _) (Nat.le_refl _) _ _), blk_over (zL 1) (pre := []) (old := (zL 0)) rfl HN.out, below_setCells (HB0.out.2.alloc HB0.out.2.size _) HB0.out.2.size _ _⟩
  have on : (zL 1).toArray.all (·.oneCell') = true := by simp [Value.oneCell']
  have ON : Hid ((zL 1).toArray.all (·.oneCell') = true) := on
  have hz : (Tryz.prog.info? 167).map (·.size) = some (zL 1).length := by kernel_rfl
  clear on HN
  go_upto_region 2 with (refine wpList_store_mid rfl 167 _ _ rfl W0.heap.size 0 (zL 1).toArray rfl rfl TH.out (by rw [List.size_toArray]; exact hz) ON.out ?_)
  generalize ((W0.alloc (.cells (zA 0) 167)).setCells W0.heap.size 0 (zL 1)) = W1 at HB1 ⊢
  clear TH ON hz p0
  have p0 := HB1.out.1.cell 0 (v := .int .i64 1) rfl
  have p1 := HB1.out.1.cell 1 (v := .string r.head) rfl
  have m1 := HB1.out.2.1.cell 1 (v := .string ⟨#[]⟩) rfl
  have f1 := HB1.out.2.1.frozen 1
  have p2 := HB1.out.1.cell 2 (v := .string r.name) rfl
  have m2 := HB1.out.2.1.cell 2 (v := .string ⟨#[]⟩) rfl
  have f2 := HB1.out.2.1.frozen 2
  have p3 := HB1.out.1.cell 3 (v := .int .i64 p) rfl
  have m3 := HB1.out.2.1.cell 3 (v := .int .i64 0) rfl
  have f3 := HB1.out.2.1.frozen 3
  have p4 := HB1.out.1.cell 4 (v := .string a.ref.head) rfl
  have m4 := HB1.out.2.1.cell 4 (v := .string ⟨#[]⟩) rfl
  have f4 := HB1.out.2.1.frozen 4
  have p5 := HB1.out.1.cell 5 (v := .string a.ref.name) rfl
  have m5 := HB1.out.2.1.cell 5 (v := .string ⟨#[]⟩) rfl
  have f5 := HB1.out.2.1.frozen 5
  have p6 := HB1.out.1.cell 6 (v := .int .u64 (hiOf a.const)) rfl
  have m6 := HB1.out.2.1.cell 6 (v := .int .u64 0) rfl
  have f6 := HB1.out.2.1.frozen 6
  have p7 := HB1.out.1.cell 7 (v := .int .u64 (loOf a.const)) rfl
  have m7 := HB1.out.2.1.cell 7 (v := .int .u64 0) rfl
  have f7 := HB1.out.2.1.frozen 7
  have HBx : Hid (Blk (((((((W1.setCell ⟨W0.heap.size, 1, none⟩ (.string r.head)).setCell ⟨W0.heap.size, 2, none⟩ (.string r.name)).setCell ⟨W0.heap.size, 3, none⟩ (.int .i64 p)).setCell ⟨W0.heap.size, 4, none⟩ (.string a.ref.head)).setCell ⟨W0.heap.size, 5, none⟩ (.string a.ref.name)).setCell ⟨W0.heap.size, 6, none⟩ (.int .u64 (hiOf a.const))).setCell ⟨W0.heap.size, 7, none⟩ (.int .u64 (loOf a.const))).drew w.heap.size (stA 1 r p a b) 167 ∧ Blk (((((((W1.setCell ⟨W0.heap.size, 1, none⟩ (.string r.head)).setCell ⟨W0.heap.size, 2, none⟩ (.string r.name)).setCell ⟨W0.heap.size, 3, none⟩ (.int .i64 p)).setCell ⟨W0.heap.size, 4, none⟩ (.string a.ref.head)).setCell ⟨W0.heap.size, 5, none⟩ (.string a.ref.name)).setCell ⟨W0.heap.size, 6, none⟩ (.int .u64 (hiOf a.const))).setCell ⟨W0.heap.size, 7, none⟩ (.int .u64 (loOf a.const))).drew W0.heap.size #[.int .i64 1, .string r.head, .string r.name, .int .i64 p, .string a.ref.head, .string a.ref.name, .int .u64 (hiOf a.const), .int .u64 (loOf a.const), .string ⟨#[]⟩, .string ⟨#[]⟩, .int .u64 0, .int .u64 0] 167 ∧ Below w.heap.size w (((((((W1.setCell ⟨W0.heap.size, 1, none⟩ (.string r.head)).setCell ⟨W0.heap.size, 2, none⟩ (.string r.name)).setCell ⟨W0.heap.size, 3, none⟩ (.int .i64 p)).setCell ⟨W0.heap.size, 4, none⟩ (.string a.ref.head)).setCell ⟨W0.heap.size, 5, none⟩ (.string a.ref.name)).setCell ⟨W0.heap.size, 6, none⟩ (.int .u64 (hiOf a.const))).setCell ⟨W0.heap.size, 7, none⟩ (.int .u64 (loOf a.const))).drew) :=
    ⟨(HB1.out.1.kept (S := fun k => k = W0.heap.size) (Kept.set (S := fun k => k = W0.heap.size) (p := ⟨W0.heap.size, 7, none⟩) (Kept.set (S := fun k => k = W0.heap.size) (p := ⟨W0.heap.size, 6, none⟩) (Kept.set (S := fun k => k = W0.heap.size) (p := ⟨W0.heap.size, 5, none⟩) (Kept.set (S := fun k => k = W0.heap.size) (p := ⟨W0.heap.size, 4, none⟩) (Kept.set (S := fun k => k = W0.heap.size) (p := ⟨W0.heap.size, 3, none⟩) (Kept.set (S := fun k => k = W0.heap.size) (p := ⟨W0.heap.size, 2, none⟩) (Kept.set (S := fun k => k = W0.heap.size) (p := ⟨W0.heap.size, 1, none⟩) (Kept.refl _ W1) rfl _) rfl _) rfl _) rfl _) rfl _) rfl _) rfl _) (by omega)).below ((Below.refl _ _).drew), (show Blk (((((((W1.setCell ⟨W0.heap.size, 1, none⟩ (.string r.head)).setCell ⟨W0.heap.size, 2, none⟩ (.string r.name)).setCell ⟨W0.heap.size, 3, none⟩ (.int .i64 p)).setCell ⟨W0.heap.size, 4, none⟩ (.string a.ref.head)).setCell ⟨W0.heap.size, 5, none⟩ (.string a.ref.name)).setCell ⟨W0.heap.size, 6, none⟩ (.int .u64 (hiOf a.const))).setCell ⟨W0.heap.size, 7, none⟩ (.int .u64 (loOf a.const))) W0.heap.size #[.int .i64 1, .string r.head, .string r.name, .int .i64 p, .string a.ref.head, .string a.ref.name, .int .u64 (hiOf a.const), .int .u64 (loOf a.const), .string ⟨#[]⟩, .string ⟨#[]⟩, .int .u64 0, .int .u64 0] 167 from (((((((HB1.out.2.1.set 1 _).set 2 _).set 3 _).set 4 _).set 5 _).set 6 _).set 7 _)).below ((Below.refl _ _).drew), (((((((HB1.out.2.2.setCell (by show w.heap.size ≤ W0.heap.size; omega) _).setCell (by show w.heap.size ≤ W0.heap.size; omega) _).setCell (by show w.heap.size ≤ W0.heap.size; omega) _).setCell (by show w.heap.size ≤ W0.heap.size; omega) _).setCell (by show w.heap.size ≤ W0.heap.size; omega) _).setCell (by show w.heap.size ≤ W0.heap.size; omega) _).setCell (by show w.heap.size ≤ W0.heap.size; omega) _).drew⟩
  go_wp2_with fail
  go_region
  generalize (((((((W1.setCell ⟨W0.heap.size, 1, none⟩ (.string r.head)).setCell ⟨W0.heap.size, 2, none⟩ (.string r.name)).setCell ⟨W0.heap.size, 3, none⟩ (.int .i64 p)).setCell ⟨W0.heap.size, 4, none⟩ (.string a.ref.head)).setCell ⟨W0.heap.size, 5, none⟩ (.string a.ref.name)).setCell ⟨W0.heap.size, 6, none⟩ (.int .u64 (hiOf a.const))).setCell ⟨W0.heap.size, 7, none⟩ (.int .u64 (loOf a.const))).drew = Wx at HBx ⊢
  clear HB1 p0 p1 m1 f1 p2 m2 f2 p3 m3 f3 p4 m4 f4 p5 m5 f5 p6 m6 f6 p7 m7 f7
  have p3 := HBx.out.1.cell 3 (v := .int .i64 p) rfl
  have p8 := HBx.out.1.cell 8 (v := .string b.ref.head) rfl
  have m8 := HBx.out.2.1.cell 8 (v := .string ⟨#[]⟩) rfl
  have f8 := HBx.out.2.1.frozen 8
  have p9 := HBx.out.1.cell 9 (v := .string b.ref.name) rfl
  have m9 := HBx.out.2.1.cell 9 (v := .string ⟨#[]⟩) rfl
  have f9 := HBx.out.2.1.frozen 9
  have p10 := HBx.out.1.cell 10 (v := .int .u64 (hiOf b.const)) rfl
  have m10 := HBx.out.2.1.cell 10 (v := .int .u64 0) rfl
  have f10 := HBx.out.2.1.frozen 10
  have p11 := HBx.out.1.cell 11 (v := .int .u64 (loOf b.const)) rfl
  have m11 := HBx.out.2.1.cell 11 (v := .int .u64 0) rfl
  have f11 := HBx.out.2.1.frozen 11
  have HB2 : Hid (Blk ((((Wx.setCell ⟨W0.heap.size, 8, none⟩ (.string b.ref.head)).setCell ⟨W0.heap.size, 9, none⟩ (.string b.ref.name)).setCell ⟨W0.heap.size, 10, none⟩ (.int .u64 (hiOf b.const))).setCell ⟨W0.heap.size, 11, none⟩ (.int .u64 (loOf b.const))) w.heap.size (stA 1 r p a b) 167 ∧ Blk ((((Wx.setCell ⟨W0.heap.size, 8, none⟩ (.string b.ref.head)).setCell ⟨W0.heap.size, 9, none⟩ (.string b.ref.name)).setCell ⟨W0.heap.size, 10, none⟩ (.int .u64 (hiOf b.const))).setCell ⟨W0.heap.size, 11, none⟩ (.int .u64 (loOf b.const))) W0.heap.size (stA 1 r p a b) 167 ∧ Below w.heap.size w ((((Wx.setCell ⟨W0.heap.size, 8, none⟩ (.string b.ref.head)).setCell ⟨W0.heap.size, 9, none⟩ (.string b.ref.name)).setCell ⟨W0.heap.size, 10, none⟩ (.int .u64 (hiOf b.const))).setCell ⟨W0.heap.size, 11, none⟩ (.int .u64 (loOf b.const)))) := ⟨HBx.out.1.kept (S := fun k => k = W0.heap.size) (Kept.set (S := fun k => k = W0.heap.size) (p := ⟨W0.heap.size, 11, none⟩) (Kept.set (S := fun k => k = W0.heap.size) (p := ⟨W0.heap.size, 10, none⟩) (Kept.set (S := fun k => k = W0.heap.size) (p := ⟨W0.heap.size, 9, none⟩) (Kept.set (S := fun k => k = W0.heap.size) (p := ⟨W0.heap.size, 8, none⟩) (Kept.refl _ Wx) rfl _) rfl _) rfl _) rfl _) (by omega), ((((HBx.out.2.1.set 8 _).set 9 _).set 10 _).set 11 _), ((((HBx.out.2.2.setCell (by show w.heap.size ≤ W0.heap.size; omega) _).setCell (by show w.heap.size ≤ W0.heap.size; omega) _).setCell (by show w.heap.size ≤ W0.heap.size; omega) _).setCell (by show w.heap.size ≤ W0.heap.size; omega) _)⟩
  go_upto_region 15 with fail
  generalize ((((Wx.setCell ⟨W0.heap.size, 8, none⟩ (.string b.ref.head)).setCell ⟨W0.heap.size, 9, none⟩ (.string b.ref.name)).setCell ⟨W0.heap.size, 10, none⟩ (.int .u64 (hiOf b.const))).setCell ⟨W0.heap.size, 11, none⟩ (.int .u64 (loOf b.const))) = W2 at HB2 ⊢
  clear HBx p3 p8 m8 f8 p9 m9 f9 p10 m10 f10 p11 m11 f11
  have R1 : Hid (W2.rangeAt w.heap.size 0 (stL 1 r p a b)) := blk_range HB2.out.1
  have R2 : Hid (W2.rangeAt W0.heap.size 0 (stL 1 r p a b)) := blk_range HB2.out.2.1
  have p3 := HB2.out.1.cell 3 (v := .int .i64 p) rfl
  have p4 := HB2.out.1.cell 4 (v := .string a.ref.head) rfl
  have p5 := HB2.out.1.cell 5 (v := .string a.ref.name) rfl
  have p6 := HB2.out.1.cell 6 (v := .int .u64 (hiOf a.const)) rfl
  have p7 := HB2.out.1.cell 7 (v := .int .u64 (loOf a.const)) rfl
  cases q
  · go_wp2_with (first | (refine wpList_load_mid rfl 167 _ rfl w.heap.size 0 rfl (stL 1 r p a b) _ R1.out Tryz.underlying167 rfl (by kernel_rfl) ?_) | (refine wpList_load_mid rfl 167 _ rfl W0.heap.size 0 rfl (stL 1 r p a b) _ R2.out Tryz.underlying167 rfl (by kernel_rfl) ?_))
    go_ret
    exact ⟨rfl, HB2.out.2.2⟩
  go_wp2_with (first | (refine wpList_load_mid rfl 167 _ rfl w.heap.size 0 rfl (stL 1 r p a b) _ R1.out Tryz.underlying167 rfl (by kernel_rfl) ?_) | (refine wpList_load_mid rfl 167 _ rfl W0.heap.size 0 rfl (stL 1 r p a b) _ R2.out Tryz.underlying167 rfl (by kernel_rfl) ?_))
  refine (CO.out _).mono ?_
  rintro e V0 ⟨rfl, rfl⟩
  cases co
  · go_wp2
    go_ret
    exact ⟨rfl, HB2.out.2.2⟩
  go_wp2_with fail
  refine (CA.out _).mono ?_
  rintro e V1 ⟨rfl, hb⟩
  have HB3 : Hid (Blk V1 w.heap.size (stA 1 r p a b) 167 ∧ Below w.heap.size w V1) := ⟨HB2.out.1.below hb, bst HB2.out.2.2 hb (Nat.le_refl _)⟩
  clear hb HB2 R1 R2 p3 p4 p5 p6 p7
  have p8 := HB3.out.1.cell 8 (v := .string b.ref.head) rfl
  have p9 := HB3.out.1.cell 9 (v := .string b.ref.name) rfl
  have p10 := HB3.out.1.cell 10 (v := .int .u64 (hiOf b.const)) rfl
  have p11 := HB3.out.1.cell 11 (v := .int .u64 (loOf b.const)) rfl
  cases ca
  · go_wp2
    go_ret
    exact ⟨rfl, HB3.out.2⟩
  go_wp2_with fail
  refine (CB.out _).mono ?_
  rintro e V2 ⟨rfl, hb⟩
  have HB4 : Hid (Below w.heap.size w V2) := bst HB3.out.2 hb (Nat.le_refl _)
  clear hb HB3 p8 p9 p10 p11
  go_wp2
  go_ret
  exact ⟨rfl, HB4.out⟩
end Go.Proofs.YtmbpclknhkbbkaaGreat
namespace Go.Proofs.YtmbpclknhkbbkaaGreat
open Go.RowKit
set_option linter.unusedVariables false
set_option linter.unusedSimpArgs false

/-- The step made anew of what its kind uses. -/
def madeStp (s : Stp) : Option Stp :=
  if s.kind = 1 then some ⟨1, s.to, s.op, s.a, if s.op = 0 then zeroO else s.b⟩
  else if s.kind = 2 then some ⟨2, zeroR, 0, zeroO, zeroO⟩
  else if s.kind = 3 then some ⟨3, ⟨s.to.head, ⟨#[]⟩⟩, 0, zeroO, zeroO⟩
  else if s.kind = 4 then some ⟨4, ⟨s.to.head, ⟨#[]⟩⟩, 0, zeroO, zeroO⟩
  else if s.kind = 5 then some ⟨5, s.to, 0, zeroO, zeroO⟩
  else if s.kind = 6 then some ⟨6, zeroR, 0, zeroO, zeroO⟩
  else none
/-- A step that is well made. -/
def isStp (s : Stp) : Bool := match madeStp s with
  | some m => decide (s = m) && (isOpN s.op && (isOpd s.a && isOpd s.b))
  | none => false
theorem isStep_any (s : Stp) (w : World) : Calls Tryz.prog 204 #[.agg (StpC s)] w fun e w' => e = .returned (.bool (isStp s)) ∧ Below w.heap.size w w' := by
  obtain ⟨k, r, p, a, b⟩ := s
  by_cases h1 : k = 1
  · subst h1
    by_cases hp : p = 0
    · subst hp; exact isStep_1z r a b w
    · have e : madeStp ⟨1, r, p, a, b⟩ = some ⟨1, r, p, a, b⟩ := by simp [madeStp, hp]
      rw [isStp, e]; exact isStep_1n r p hp a b w
  by_cases h2 : k = 2
  · subst h2; exact isStep_2 r p a b w
  by_cases h3 : k = 3
  · subst h3; exact isStep_3 r p a b w
  by_cases h4 : k = 4
  · subst h4; exact isStep_4 r p a b w
  by_cases h5 : k = 5
  · subst h5; exact isStep_5 r p a b w
  by_cases h6 : k = 6
  · subst h6; exact isStep_6 r p a b w
  have e : madeStp ⟨k, r, p, a, b⟩ = none := by simp [madeStp, h1, h2, h3, h4, h5, h6]
  rw [isStp, e]
  exact isStep_not k h1 h2 h3 h4 h5 h6 r p a b w
end Go.Proofs.YtmbpclknhkbbkaaGreat
namespace Go.Proofs.YtmbpclknhkbbkaaGreat
open Go.RowKit
set_option linter.unusedVariables false
set_option linter.unusedSimpArgs false

/-- What is wrong with a step. -/
def stepE (hh : ByteArray → Bool) (W : Rf → Int) (ps : List Fld) (x : Stp) : Int :=
  if isStp x = false then 75 else if x.kind = 1 then setE W ps x else if x.kind = 3 ∨ x.kind = 4 then (if hh x.to.head = false then 72 else 0)
  else if x.kind = 5 then (if (!decide (x.to.head = tMeta) && decide (0 < W x.to)) = false then 72 else if W x.to = 16 then 0 else 73) else 0
set_option maxHeartbeats 4000000 in
set_option maxRecDepth 100000 in
theorem checkStep_any (w : World) (cb wb hb m : Nat) (g : Rf → Option Int) (hns : List ByteArray) (v0 v1 v2 v3 v4 v5 ac tb : Value) (th : ByteArray) (v : Value) (ps : List Fld) (x : Stp) (hx : StpOk x) (hr : FldRow w v ps) (hB : Blk w cb (ChkC v0 v1 v2 v3 v4 v5 th (.map (some wb)) (.map (some hb)) ac tb) 110) (hW : MapR w wb m g) (hH : SetT w hb hns) :
    Calls Tryz.prog 152 #[.pointer (some ⟨cb, 0, none⟩), .agg (StpC x), v] w fun e w' => Below w.heap.size w w' ∧ Res (stepE (hasT hns) (fun r => (g r).getD 0) ps x) th e := by
  obtain ⟨ad, cap, rfl, _⟩ := hr.1.slice
  have HOK : Hid (StpOk x) := hx
  have k2 := hx.2.1
  have k3 := hx.2.2.1
  have HRR : Hid (stepE (hasT hns) (fun r => (g r).getD 0) ps x = if isStp x = false then 75 else if x.kind = 1 then setE (fun r => (g r).getD 0) ps x else if x.kind = 3 ∨ x.kind = 4 then (if hasT hns x.to.head = false then 72 else 0)
    else if x.kind = 5 then (if (!decide (x.to.head = tMeta) && decide (0 < (g x.to).getD 0)) = false then 72 else if (g x.to).getD 0 = 16 then 0 else 73) else 0) := rfl
  generalize stepE (hasT hns) (fun r => (g r).getD 0) ps x = R at *
  have HA : Hid (Below w.heap.size w (w.alloc (.cells #[.int .i64 x.kind, .string x.to.head, .string x.to.name, .int .i64 x.op, .string x.a.ref.head, .string x.a.ref.name, .int .u64 (hiOf x.a.const), .int .u64 (loOf x.a.const), .string x.b.ref.head, .string x.b.ref.name, .int .u64 (hiOf x.b.const), .int .u64 (loOf x.b.const)] 167))) := (Below.refl _ _).alloc (Nat.le_refl _) _
  have HX : Hid (Blk (w.alloc (.cells #[.int .i64 x.kind, .string x.to.head, .string x.to.name, .int .i64 x.op, .string x.a.ref.head, .string x.a.ref.name, .int .u64 (hiOf x.a.const), .int .u64 (loOf x.a.const), .string x.b.ref.head, .string x.b.ref.name, .int .u64 (hiOf x.b.const), .int .u64 (loOf x.b.const)] 167)) w.heap.size #[.int .i64 x.kind, .string x.to.head, .string x.to.name, .int .i64 x.op, .string x.a.ref.head, .string x.a.ref.name, .int .u64 (hiOf x.a.const), .int .u64 (loOf x.a.const), .string x.b.ref.head, .string x.b.ref.name, .int .u64 (hiOf x.b.const), .int .u64 (loOf x.b.const)] 167) := Blk.new _ _ _
  have HQ : Hid (Blk (w.alloc (.cells #[.int .i64 x.kind, .string x.to.head, .string x.to.name, .int .i64 x.op, .string x.a.ref.head, .string x.a.ref.name, .int .u64 (hiOf x.a.const), .int .u64 (loOf x.a.const), .string x.b.ref.head, .string x.b.ref.name, .int .u64 (hiOf x.b.const), .int .u64 (loOf x.b.const)] 167)) cb (ChkC v0 v1 v2 v3 v4 v5 th (.map (some wb)) (.map (some hb)) ac tb) 110) := hB.below HA.out
  have HM : Hid (MapR (w.alloc (.cells #[.int .i64 x.kind, .string x.to.head, .string x.to.name, .int .i64 x.op, .string x.a.ref.head, .string x.a.ref.name, .int .u64 (hiOf x.a.const), .int .u64 (loOf x.a.const), .string x.b.ref.head, .string x.b.ref.name, .int .u64 (hiOf x.b.const), .int .u64 (loOf x.b.const)] 167)) wb m g) := hW.below HA.out
  have HH : Hid (SetT (w.alloc (.cells #[.int .i64 x.kind, .string x.to.head, .string x.to.name, .int .i64 x.op, .string x.a.ref.head, .string x.a.ref.name, .int .u64 (hiOf x.a.const), .int .u64 (loOf x.a.const), .string x.b.ref.head, .string x.b.ref.name, .int .u64 (hiOf x.b.const), .int .u64 (loOf x.b.const)] 167)) hb hns) := hH.below HA.out
  have HRw : Hid (FldRow (w.alloc (.cells #[.int .i64 x.kind, .string x.to.head, .string x.to.name, .int .i64 x.op, .string x.a.ref.head, .string x.a.ref.name, .int .u64 (hiOf x.a.const), .int .u64 (loOf x.a.const), .string x.b.ref.head, .string x.b.ref.name, .int .u64 (hiOf x.b.const), .int .u64 (loOf x.b.const)] 167)) (.slice ad ps.length cap) ps) := hr.pres (pres_below HA.out)
  clear hr hB hW hH hx
  unfold StpC
  go_enter Tryz.func152, Tryz.ntmps152
  go_upto_region 1 with fail
  generalize (w.alloc _) = W at HA HX HQ HM HH HRw ⊢
  obtain ⟨xb, hxb⟩ : ∃ xb, xb = w.heap.size := ⟨_, rfl⟩
  rw [← hxb] at HX ⊢
  clear hxb
  obtain ⟨x0, x1, x2, x3, x4, x5, x6, x7, x8, x9, x10, x11⟩ := HX.out.c12
  have CI : Hid (Calls Tryz.prog 204 #[.agg #[.int .i64 x.kind, .string x.to.head, .string x.to.name, .int .i64 x.op, .string x.a.ref.head, .string x.a.ref.name, .int .u64 (hiOf x.a.const), .int .u64 (loOf x.a.const), .string x.b.ref.head, .string x.b.ref.name, .int .u64 (hiOf x.b.const), .int .u64 (loOf x.b.const)]] W fun e w' => e = .returned (.bool (isStp x)) ∧ Below W.heap.size W w') := isStep_any x W
  go_wp2_with fail
  refine CI.out.mono ?_
  rintro e W2 ⟨rfl, hb2⟩
  have HX2 := hblk HX hb2
  have HQ2 := hblk HQ hb2
  have HM2 : Hid (MapR W2 wb m g) := HM.out.below hb2
  have HH2 : Hid (SetT W2 hb hns) := HH.out.below hb2
  have HR2 : Hid (FldRow W2 (.slice ad ps.length cap) ps) := HRw.out.pres (pres_below hb2)
  have HB2 : Hid (Below w.heap.size w W2) := bst HA.out hb2 (Nat.le_refl _)
  have CN : Hid (∀ b r, Calls Tryz.prog 145 #[.pointer (some ⟨cb, 0, none⟩), .bool b, .int .i64 r] W2 fun e w' => w' = W2 ∧ ((b = true ∧ e = .returned (.tuple #[])) ∨ (b = false ∧ e = .panicked [pf r th]))) := need_two (HQ2.out.cell 6 rfl)
  clear hb2 CI HX HQ HM HH HRw HA x0 x1 x2 x3 x4 x5 x6 x7 x8 x9 x10 x11
  go_wp2_with fail
  refine (CN.out _ _).mono ?_
  rintro e w2 ⟨hw2, hh⟩
  obtain rfl := Eq.symm hw2
  rcases hh with ⟨hq, rfl⟩ | ⟨hq, rfl⟩
  case inr =>
    have HE : Hid (R = 75) := by show _ = _; rw [HRR.out, if_pos hq]
    clear hq
    go_wp2
    exact ⟨rfl, HB2.out, by rw [HE.out]; exact .inr ⟨by decide, rfl⟩⟩
  case inl =>
    have HRR2 : Hid (R = if x.kind = 1 then setE (fun r => (g r).getD 0) ps x else if x.kind = 3 ∨ x.kind = 4 then (if hasT hns x.to.head = false then 72 else 0)
      else if x.kind = 5 then (if (!decide (x.to.head = tMeta) && decide (0 < (g x.to).getD 0)) = false then 72 else if (g x.to).getD 0 = 16 then 0 else 73) else 0) := by show _ = _; rw [HRR.out, if_neg (by rw [hq]; decide)]
    clear hq HRR CN
    have CY : Hid (∀ r w, Calls Tryz.prog 145 #[.pointer (some ⟨cb, 0, none⟩), .bool true, .int .i64 r] w fun e w' => e = .returned (.tuple #[]) ∧ w' = w) := fun r w => need_yes cb r w
    have CNo : Hid (∀ r k, Calls Tryz.prog 145 #[.pointer (some ⟨cb, 0, none⟩), .bool false, .int .i64 r] (W2.drewN k) fun e w' => e = .panicked [pf r th] ∧ w' = W2.drewN k) := fun r k => need_no cb r th (W2.drewN k) (HQ2.out.cell 6 rfl)
    have HBd : Hid (∀ k, Below w.heap.size w (W2.drewN k)) := fun k => ⟨HB2.out.os, HB2.out.tape, HB2.out.output, HB2.out.size, HB2.out.block⟩
    by_cases hk1 : x.kind = 1
    · have HE0 : Hid (R = setE (fun r => (g r).getD 0) ps x) := by show _ = _; rw [HRR2.out, if_pos hk1]
      obtain ⟨x0, x1, x2, x3, x4, x5, x6, x7, x8, x9, x10, x11⟩ := HX2.out.c12
      have CS : Hid (Calls Tryz.prog 205 #[.pointer (some ⟨cb, 0, none⟩), .agg #[.int .i64 x.kind, .string x.to.head, .string x.to.name, .int .i64 x.op, .string x.a.ref.head, .string x.a.ref.name, .int .u64 (hiOf x.a.const), .int .u64 (loOf x.a.const), .string x.b.ref.head, .string x.b.ref.name, .int .u64 (hiOf x.b.const), .int .u64 (loOf x.b.const)], .slice ad ps.length cap] W2 fun e w' => Below W2.heap.size W2 w' ∧ Res (setE (fun r => (g r).getD 0) ps x) th e) := checkSet_any W2 cb wb m g _ _ _ _ _ _ _ _ _ _ _ ps x HOK.out HR2.out HQ2.out HM2.out
      clear HRR2
      generalize setE (fun r => (g r).getD 0) ps x = sE at *
      generalize ps.length = pl at *
      have hk1' : (x.kind == 1) = true := by simpa using hk1
      clear hk1
      go_wp2_with fail
      refine CS.out.mono ?_
      rintro e W3 ⟨hb3, hres⟩
      have HB3 : Hid (Below w.heap.size w W3) := bst HB2.out hb3 (Nat.le_refl _)
      clear hb3 CS
      rcases hres with ⟨hE, rfl⟩ | ⟨hE, rfl⟩
      · have HE : Hid (R = 0) := by show _ = _; rw [HE0.out, hE]
        clear hE
        go_wp2
        first | go_end0 | refine bodyPost_ret (results_none rfl _ _ _) rfl ?_
        exact ⟨HB3.out, by rw [HE.out]; exact .inl ⟨rfl, rfl⟩⟩
      · have HE : Hid (sE ≠ 0) := hE
        clear hE
        go_wp2
        exact ⟨rfl, HB3.out, by rw [HE0.out]; exact .inr ⟨HE.out, rfl⟩⟩
    · have hk1' : (x.kind == 1) = false := by simpa using hk1
      have x0 := HX2.out.cell 0 (v := .int .i64 x.kind) rfl
      have x1 := HX2.out.cell 1 (v := .string x.to.head) rfl
      have x2 := HX2.out.cell 2 (v := .string x.to.name) rfl
      by_cases hk34 : x.kind = 3 ∨ x.kind = 4
      · have HE0 : Hid (R = if hasT hns x.to.head = false then 72 else 0) := by show _ = _; rw [HRR2.out, if_neg hk1, if_pos hk34]
        have q8 := HQ2.out.cell 8 (v := .map (some hb)) rfl
        have CH : Hid (∀ k, Calls Tryz.prog 198 #[.map (some hb), .string x.to.head] (W2.drewN k) fun e w' => e = .returned (.bool (hasT hns x.to.head)) ∧ w' = W2.drewN k) := fun k => has_any (w := W2.drewN k) HH2.out x.to.head k2
        clear HRR2 hk1 hk1'
        rcases hk34 with hk | hk
        · skip
          rw [hk] at x0
          clear hk
          go_upto_region 7 with fail
          cases hhq : hasT hns x.to.head with
          | false =>
            rw [hhq] at CH
            have HE : Hid (R = 72) := by show _ = _; rw [HE0.out, if_pos hhq]
            clear HE0 hhq
            refine region_ends_lit (by kernel_rfl) (by kernel_rfl) (by kernel_rfl) rfl ?_
            simp only [swapLast, stand]
            repeat (go_big_quiet_step ((go_at_call 198; exact Calls.quiet_of_same (CH.out _))))
            refine wpQuiet_nil ?_
            intro wq hwq Kq
            obtain ⟨kq, hwq⟩ := hwq
            subst hwq
            unfold Oper.wp
            go_simp
            refine (CNo.out _ _).mono ?_
            rintro e w1 ⟨rfl, hw1⟩
            rw [hw1]
            exact ⟨rfl, HBd.out _, by rw [HE.out]; exact .inr ⟨by decide, rfl⟩⟩
          | true =>
            rw [hhq] at CH
            have HE : Hid (R = 0) := by show _ = _; rw [HE0.out, if_neg (by rw [hhq]; decide)]
            clear HE0 hhq
            go_quiet (first
              | (go_at_call 198; exact Calls.quiet_of_same (CH.out _))
              | (go_at_call 145; exact Calls.quiet_of_same (CY.out _ _)))
            go_wp2
            first | go_end0 | refine bodyPost_ret (results_none rfl _ _ _) rfl ?_
            exact ⟨HBd.out _, by rw [HE.out]; exact .inl ⟨rfl, rfl⟩⟩
        · skip
          rw [hk] at x0
          clear hk
          go_upto_region 7 with fail
          cases hhq : hasT hns x.to.head with
          | false =>
            rw [hhq] at CH
            have HE : Hid (R = 72) := by show _ = _; rw [HE0.out, if_pos hhq]
            clear HE0 hhq
            refine region_ends_lit (by kernel_rfl) (by kernel_rfl) (by kernel_rfl) rfl ?_
            simp only [swapLast, stand]
            repeat (go_big_quiet_step ((go_at_call 198; exact Calls.quiet_of_same (CH.out _))))
            refine wpQuiet_nil ?_
            intro wq hwq Kq
            obtain ⟨kq, hwq⟩ := hwq
            subst hwq
            unfold Oper.wp
            go_simp
            refine (CNo.out _ _).mono ?_
            rintro e w1 ⟨rfl, hw1⟩
            rw [hw1]
            exact ⟨rfl, HBd.out _, by rw [HE.out]; exact .inr ⟨by decide, rfl⟩⟩
          | true =>
            rw [hhq] at CH
            have HE : Hid (R = 0) := by show _ = _; rw [HE0.out, if_neg (by rw [hhq]; decide)]
            clear HE0 hhq
            go_quiet (first
              | (go_at_call 198; exact Calls.quiet_of_same (CH.out _))
              | (go_at_call 145; exact Calls.quiet_of_same (CY.out _ _)))
            go_wp2
            first | go_end0 | refine bodyPost_ret (results_none rfl _ _ _) rfl ?_
            exact ⟨HBd.out _, by rw [HE.out]; exact .inl ⟨rfl, rfl⟩⟩
      · have hk3 : (x.kind == 3) = false := by simp; omega
        have hk4 : (x.kind == 4) = false := by simp; omega
        by_cases hk5 : x.kind = 5
        · have HE0 : Hid (R = if (!decide (x.to.head = tMeta) && decide (0 < (g x.to).getD 0)) = false then 72 else if (g x.to).getD 0 = 16 then 0 else 73) := by show _ = _; rw [HRR2.out, if_neg hk1, if_neg hk34, if_pos hk5]
          have q7 := HQ2.out.cell 7 (v := .map (some wb)) rfl
          have hL : ∀ k, (Instr.lookup 107 (.map (some wb)) (.agg #[.string x.to.head, .string x.to.name]) false).run Tryz.prog (W2.drewN k) = .ok (.int .i64 ((g x.to).getD 0)) (W2.drewN k) := fun k => MapR.look1 (w := W2.drewN k) HM2.out x.to k2 k3
          have e1 := lit_eq x.to.head [109, 101, 116, 97]
          have e1' : (x.to.head.toList == [109, 101, 116, 97]) = decide (x.to.head = tMeta) := e1
          generalize (g x.to).getD 0 = wv at *
          generalize hmt : decide (x.to.head = tMeta) = mt at *
          rw [hk5] at x0
          clear HRR2 hk1 hk34 hk1' hk3 hk4 hk5 e1 hmt
          go_upto_region 9 with fail
          cases mt with
          | true =>
            have HE : Hid (R = 72) := by show _ = _; rw [HE0.out]; rfl
            clear HE0
            refine region_ends_lit (by kernel_rfl) (by kernel_rfl) (by kernel_rfl) rfl ?_
            simp only [swapLast, stand]
            repeat (go_big_quiet_step (fail))
            refine wpQuiet_nil ?_
            intro wq hwq Kq
            obtain ⟨kq, hwq⟩ := hwq
            subst hwq
            unfold Oper.wp
            go_simp
            refine (CNo.out _ _).mono ?_
            rintro e w1 ⟨rfl, hw1⟩
            rw [hw1]
            exact ⟨rfl, HBd.out _, by rw [HE.out]; exact .inr ⟨by decide, rfl⟩⟩
          | false =>
            by_cases hpos : 0 < wv
            case neg =>
              have HE : Hid (R = 72) := by show _ = _; rw [HE0.out, decide_eq_false hpos]; rfl
              have hp1 : decide (0 < wv) = false := decide_eq_false hpos
              clear HE0 hpos
              refine region_ends_lit (by kernel_rfl) (by kernel_rfl) (by kernel_rfl) rfl ?_
              simp only [swapLast, stand]
              repeat (go_big_quiet_step (fail))
              refine wpQuiet_nil ?_
              intro wq hwq Kq
              obtain ⟨kq, hwq⟩ := hwq
              subst hwq
              unfold Oper.wp
              go_simp
              refine (CNo.out _ _).mono ?_
              rintro e w1 ⟨rfl, hw1⟩
              rw [hw1]
              exact ⟨rfl, HBd.out _, by rw [HE.out]; exact .inr ⟨by decide, rfl⟩⟩
            case pos =>
              have HE1 : Hid (R = if wv = 16 then 0 else 73) := by show _ = _; rw [HE0.out, decide_eq_true hpos]; rfl
              have hp1 : decide (0 < wv) = true := decide_eq_true hpos
              clear HE0
              go_quiet ((go_at_call 145; exact Calls.quiet_of_same (CY.out _ _)))
              have HX3 : Hid (Blk (W2.drewN nq) xb #[.int .i64 x.kind, .string x.to.head, .string x.to.name, .int .i64 x.op, .string x.a.ref.head, .string x.a.ref.name, .int .u64 (hiOf x.a.const), .int .u64 (loOf x.a.const), .string x.b.ref.head, .string x.b.ref.name, .int .u64 (hiOf x.b.const), .int .u64 (loOf x.b.const)] 167) := HX2.out
              have HQ3 : Hid (Blk (W2.drewN nq) cb (ChkC v0 v1 v2 v3 v4 v5 th (.map (some wb)) (.map (some hb)) ac tb) 110) := HQ2.out
              have HM3 : Hid (MapR (W2.drewN nq) wb m g) := HM2.out
              have HB3 : Hid (Below w.heap.size w (W2.drewN nq)) := HBd.out nq
              have hL3 : ∀ k, (Instr.lookup 107 (.map (some wb)) (.agg #[.string x.to.head, .string x.to.name]) false).run Tryz.prog ((W2.drewN nq).drewN k) = .ok (.int .i64 wv) ((W2.drewN nq).drewN k) := fun k => by have := hL (nq + k); simpa [World.drewN, Nat.add_assoc] using this
              generalize W2.drewN nq = W3 at HX3 HQ3 HM3 HB3 hL3 ⊢
              clear hL CNo HBd HX2 HQ2 HM2 HB2 x0 x1 x2 q7
              have x1 := HX3.out.cell 1 (v := .string x.to.head) rfl
              have x2 := HX3.out.cell 2 (v := .string x.to.name) rfl
              have q7 := HQ3.out.cell 7 (v := .map (some wb)) rfl
              have CNo : Hid (∀ r k, Calls Tryz.prog 145 #[.pointer (some ⟨cb, 0, none⟩), .bool false, .int .i64 r] (W3.drewN k) fun e w' => e = .panicked [pf r th] ∧ w' = W3.drewN k) := fun r k => need_no cb r th (W3.drewN k) (HQ3.out.cell 6 rfl)
              have HBd : Hid (∀ k, Below w.heap.size w (W3.drewN k)) := fun k => ⟨HB3.out.os, HB3.out.tape, HB3.out.output, HB3.out.size, HB3.out.block⟩
              go_upto_region 10 with fail
              by_cases h16 : wv = 16
              case neg =>
                have HE : Hid (R = 73) := by show _ = _; rw [HE1.out, if_neg h16]
                have h16' : (wv == 16) = false := by simpa using h16
                clear HE1 h16
                refine region_ends_lit (by kernel_rfl) (by kernel_rfl) (by kernel_rfl) rfl ?_
                simp only [swapLast, stand]
                repeat (go_big_quiet_step (fail))
                refine wpQuiet_nil ?_
                intro wq hwq Kq
                obtain ⟨kq, hwq⟩ := hwq
                subst hwq
                unfold Oper.wp
                go_simp
                refine (CNo.out _ _).mono ?_
                rintro e w1 ⟨rfl, hw1⟩
                rw [hw1]
                exact ⟨rfl, HBd.out _, by rw [HE.out]; exact .inr ⟨by decide, rfl⟩⟩
              case pos =>
                have HE : Hid (R = 0) := by show _ = _; rw [HE1.out, if_pos h16]
                have h16' : (wv == 16) = true := by simpa using h16
                clear HE1 h16
                go_quiet ((go_at_call 145; exact Calls.quiet_of_same (CY.out _ _)))
                go_wp2
                first | go_end0 | refine bodyPost_ret (results_none rfl _ _ _) rfl ?_
                exact ⟨HBd.out _, by rw [HE.out]; exact .inl ⟨rfl, rfl⟩⟩
        · have HE : Hid (R = 0) := by show _ = _; rw [HRR2.out, if_neg hk1, if_neg hk34, if_neg hk5]
          have hk5' : (x.kind == 5) = false := by simpa using hk5
          clear HRR2 hk1 hk34 hk5
          go_wp2
          first | go_end0 | refine bodyPost_ret (results_none rfl _ _ _) rfl ?_
          exact ⟨HB2.out, by rw [HE.out]; exact .inl ⟨rfl, rfl⟩⟩
end Go.Proofs.YtmbpclknhkbbkaaGreat
