/- The map of structs: Get, Put, Drop. -/
import Derived.Test.YtkcjcidndckgbaaVa
namespace Go.Proofs.Ytkcjcidndckgbaa
open Go.RowKit Go.Sort
set_option linter.unusedVariables false
set_option linter.unusedSimpArgs false

set_option maxHeartbeats 1000000 in
theorem getT_none (q b most cap : Nat) (r : List (Pl Th)) (k : ByteArray) (hk : k.size ≤ 9223372036854775807) (w : World) (h : MapAtT w q b most r cap) (hn : ∀ x ∈ cont r, x.1 ≠ k) :
    Calls Try.prog 22 #[.pointer (some ⟨q, 0, none⟩), .string k] w fun e w' => e = .returned (.tuple #[.agg #[.string ⟨#[]⟩, .int .i64 0, .int .i64 0], .bool false]) ∧ Below w.heap.size w w' := by
  have C : Hid (∀ W, Below w.heap.size w W → Calls Try.prog 50 #[.pointer (some ⟨q, 0, none⟩), .string k] W fun e w' => e = .returned (.tuple #[.int .i64 ((fnd r k).1 : Nat), .bool (fnd r k).2]) ∧ Below W.heap.size W w') := fun W hb => mfindT_any q b most cap r k hk W (h.below hb)
  rw [((h.found k).nope hn).1] at C
  have HB0 : Hid (Blk (w.alloc (.cells #[.string ⟨#[]⟩, .int .i64 0, .int .i64 0] 56)) w.heap.size #[.string ⟨#[]⟩, .int .i64 0, .int .i64 0] 56 ∧ Below w.heap.size w (w.alloc (.cells #[.string ⟨#[]⟩, .int .i64 0, .int .i64 0] 56))) := ⟨Blk.new w _ 56, (Below.refl _ _).alloc (Nat.le_refl _) _⟩
  clear h hn hk
  generalize (fnd r k).1 = a at *
  go_enter Try.func22, Try.ntmps22
  go_upto_region 1 with fail
  generalize (w.alloc _) = W0 at HB0 ⊢
  go_wp2_with fail
  refine (C.out _ HB0.out.2).mono ?_
  rintro e V0 ⟨rfl, hb0⟩
  have HB1 : Hid (Blk V0 w.heap.size #[.string ⟨#[]⟩, .int .i64 0, .int .i64 0] 56 ∧ Below w.heap.size w V0) := ⟨HB0.out.1.below hb0, bst HB0.out.2 hb0⟩
  clear hb0 HB0 C
  have HB2 : Hid (Blk (V0.alloc (.cells #[.string ⟨#[]⟩, .int .i64 0, .int .i64 0] 56)) w.heap.size #[.string ⟨#[]⟩, .int .i64 0, .int .i64 0] 56 ∧ Blk (V0.alloc (.cells #[.string ⟨#[]⟩, .int .i64 0, .int .i64 0] 56)) V0.heap.size #[.string ⟨#[]⟩, .int .i64 0, .int .i64 0] 56 ∧ Below w.heap.size w (V0.alloc (.cells #[.string ⟨#[]⟩, .int .i64 0, .int .i64 0] 56))) := ⟨HB1.out.1.below ((Below.refl _ _).alloc (Nat.le_refl _) _), Blk.new V0 _ 56, bst HB1.out.2 ((Below.refl _ _).alloc (Nat.le_refl _) _)⟩
  go_upto_region 4 with fail
  generalize (V0.alloc _) = V1 at HB2 ⊢
  have y0 := HB2.out.1.cell 0 (v := .string ⟨#[]⟩) rfl
  have yf0 := HB2.out.1.frozen 0
  have y1 := HB2.out.1.cell 1 (v := .int .i64 0) rfl
  have yf1 := HB2.out.1.frozen 1
  have y2 := HB2.out.1.cell 2 (v := .int .i64 0) rfl
  have yf2 := HB2.out.1.frozen 2
  have z0 := HB2.out.2.1.cell 0 (v := .string ⟨#[]⟩) rfl
  have z1 := HB2.out.2.1.cell 1 (v := .int .i64 0) rfl
  have z2 := HB2.out.2.1.cell 2 (v := .int .i64 0) rfl
  have HF : Hid (Blk (((V1.setCell ⟨w.heap.size, 0, none⟩ (.string ⟨#[]⟩)).setCell ⟨w.heap.size, 1, none⟩ (.int .i64 0)).setCell ⟨w.heap.size, 2, none⟩ (.int .i64 0)) w.heap.size #[.string ⟨#[]⟩, .int .i64 0, .int .i64 0] 56 ∧ Below w.heap.size w (((V1.setCell ⟨w.heap.size, 0, none⟩ (.string ⟨#[]⟩)).setCell ⟨w.heap.size, 1, none⟩ (.int .i64 0)).setCell ⟨w.heap.size, 2, none⟩ (.int .i64 0))) :=
    ⟨((HB2.out.1.set 0 _).set 1 _).set 2 _, ((HB2.out.2.2.setCell (by simp) _).setCell (by simp) _).setCell (by simp) _⟩
  clear HB1 HB2
  go_wp2
  generalize (((V1.setCell ⟨w.heap.size, 0, none⟩ _).setCell ⟨w.heap.size, 1, none⟩ _).setCell ⟨w.heap.size, 2, none⟩ _) = WG at HF ⊢
  have k0 := HF.out.1.cell 0 (v := .string ⟨#[]⟩) rfl
  have k1 := HF.out.1.cell 1 (v := .int .i64 0) rfl
  have k2 := HF.out.1.cell 2 (v := .int .i64 0) rfl
  refine bodyPost_ret (v := .tuple #[.agg #[.string ⟨#[]⟩, .int .i64 0, .int .i64 0], .bool false]) (by simp [results, Try.results22, go_sem, k0, k1, k2]) rfl ⟨rfl, HF.out.2⟩
set_option maxHeartbeats 1000000 in
theorem getT_some (q b most cap : Nat) (r : List (Pl Th)) (k : ByteArray) (v : Th) (hk : k.size ≤ 9223372036854775807) (w : World) (h : MapAtT w q b most r cap) (hm : (k, v) ∈ cont r) :
    Calls Try.prog 22 #[.pointer (some ⟨q, 0, none⟩), .string k] w fun e w' => e = .returned (.tuple #[.agg #[.string v.1, .int .i64 v.2.1, .int .i64 v.2.2], .bool true]) ∧ Below w.heap.size w w' := by
  have C : Hid (∀ W, Below w.heap.size w W → Calls Try.prog 50 #[.pointer (some ⟨q, 0, none⟩), .string k] W fun e w' => e = .returned (.tuple #[.int .i64 ((fnd r k).1 : Nat), .bool (fnd r k).2]) ∧ Below W.heap.size W w') := fun W hb => mfindT_any q b most cap r k hk W (h.below hb)
  obtain ⟨e1, e2⟩ := (h.found k).some h.rw hm
  rw [e1] at C
  have HC : Hid (∀ w1, Below w.heap.size w w1 → w1.cell? ⟨q, 2, none⟩ = some (.slice (some ⟨b, 0, none⟩) r.length cap) ∧ w1.cell? ⟨b, (fnd r k).1 * 6 + 3, none⟩ = some (.string v.1) ∧ w1.cell? ⟨b, (fnd r k).1 * 6 + 4, none⟩ = some (.int .i64 v.2.1) ∧ w1.cell? ⟨b, (fnd r k).1 * 6 + 5, none⟩ = some (.int .i64 v.2.2)) := fun w1 h1 => ⟨(h.below h1).hd.cell 2 rfl, (h.below h1).row.cell e2 3 rfl, (h.below h1).row.cell e2 4 rfl, (h.below h1).row.cell e2 5 rfl⟩
  have HB0 : Hid (Blk (w.alloc (.cells #[.string ⟨#[]⟩, .int .i64 0, .int .i64 0] 56)) w.heap.size #[.string ⟨#[]⟩, .int .i64 0, .int .i64 0] 56 ∧ Below w.heap.size w (w.alloc (.cells #[.string ⟨#[]⟩, .int .i64 0, .int .i64 0] 56))) := ⟨Blk.new w _ 56, (Below.refl _ _).alloc (Nat.le_refl _) _⟩
  have hal : (fnd r k).1 < r.length := (List.getElem?_eq_some_iff.1 e2).1
  have hL := h.big.2
  clear h hm hk e1 e2
  generalize (fnd r k).1 = a at *
  generalize r.length = n at *
  go_enter Try.func22, Try.ntmps22
  go_upto_region 1 with fail
  generalize (w.alloc _) = W0 at HB0 ⊢
  go_wp2_with fail
  refine (C.out _ HB0.out.2).mono ?_
  rintro e V1 ⟨rfl, hb0⟩
  have HB2 : Hid (Blk V1 w.heap.size #[.string ⟨#[]⟩, .int .i64 0, .int .i64 0] 56 ∧ Below w.heap.size w V1) := ⟨HB0.out.1.below hb0, bst HB0.out.2 hb0⟩
  obtain ⟨c2, c3, c4, c5⟩ := HC.out V1 HB2.out.2
  clear hb0 HB0 C HC
  have y0 := HB2.out.1.cell 0 (v := .string ⟨#[]⟩) rfl
  have yf0 := HB2.out.1.frozen 0
  have y1 := HB2.out.1.cell 1 (v := .int .i64 0) rfl
  have yf1 := HB2.out.1.frozen 1
  have y2 := HB2.out.1.cell 2 (v := .int .i64 0) rfl
  have yf2 := HB2.out.1.frozen 2
  have HF : Hid (Blk (((V1.setCell ⟨w.heap.size, 0, none⟩ (.string v.1)).setCell ⟨w.heap.size, 1, none⟩ (.int .i64 v.2.1)).setCell ⟨w.heap.size, 2, none⟩ (.int .i64 v.2.2)) w.heap.size #[.string v.1, .int .i64 v.2.1, .int .i64 v.2.2] 56 ∧ Below w.heap.size w (((V1.setCell ⟨w.heap.size, 0, none⟩ (.string v.1)).setCell ⟨w.heap.size, 1, none⟩ (.int .i64 v.2.1)).setCell ⟨w.heap.size, 2, none⟩ (.int .i64 v.2.2))) :=
    ⟨((HB2.out.1.set 0 _).set 1 _).set 2 _, ((HB2.out.2.setCell (by simp) _).setCell (by simp) _).setCell (by simp) _⟩
  clear HB2
  go_wp2
  generalize (((V1.setCell ⟨w.heap.size, 0, none⟩ _).setCell ⟨w.heap.size, 1, none⟩ _).setCell ⟨w.heap.size, 2, none⟩ _) = WG at HF ⊢
  have k0 := HF.out.1.cell 0 (v := .string v.1) rfl
  have k1 := HF.out.1.cell 1 (v := .int .i64 v.2.1) rfl
  have k2 := HF.out.1.cell 2 (v := .int .i64 v.2.2) rfl
  refine bodyPost_ret (v := .tuple #[.agg #[.string v.1, .int .i64 v.2.1, .int .i64 v.2.2], .bool true]) (by simp [results, Try.results22, go_sem, k0, k1, k2]) rfl ⟨rfl, HF.out.2⟩
--PUT
set_option maxHeartbeats 1000000 in
theorem dropT_none (q b most cap : Nat) (r : List (Pl Th)) (k : ByteArray) (hk : k.size ≤ 9223372036854775807) (w : World) (h : MapAtT w q b most r cap) (hn : ∀ x ∈ cont r, x.1 ≠ k) :
    Calls Try.prog 20 #[.pointer (some ⟨q, 0, none⟩), .string k] w fun e w' => e = .returned (.tuple #[.agg #[.string ⟨#[]⟩, .int .i64 0, .int .i64 0], .bool false]) ∧ Below w.heap.size w w' := by
  have C : Hid (∀ W, Below w.heap.size w W → Calls Try.prog 50 #[.pointer (some ⟨q, 0, none⟩), .string k] W fun e w' => e = .returned (.tuple #[.int .i64 ((fnd r k).1 : Nat), .bool (fnd r k).2]) ∧ Below W.heap.size W w') := fun W hb => mfindT_any q b most cap r k hk W (h.below hb)
  rw [((h.found k).nope hn).1] at C
  have HB0 : Hid (Blk (w.alloc (.cells #[.string ⟨#[]⟩, .int .i64 0, .int .i64 0] 56)) w.heap.size #[.string ⟨#[]⟩, .int .i64 0, .int .i64 0] 56 ∧ Below w.heap.size w (w.alloc (.cells #[.string ⟨#[]⟩, .int .i64 0, .int .i64 0] 56))) := ⟨Blk.new w _ 56, (Below.refl _ _).alloc (Nat.le_refl _) _⟩
  clear h hn hk
  generalize (fnd r k).1 = a at *
  go_enter Try.func20, Try.ntmps20
  go_upto_region 1 with fail
  generalize (w.alloc _) = W0 at HB0 ⊢
  go_wp2_with fail
  refine (C.out _ HB0.out.2).mono ?_
  rintro e V0 ⟨rfl, hb0⟩
  have HB1 : Hid (Blk V0 w.heap.size #[.string ⟨#[]⟩, .int .i64 0, .int .i64 0] 56 ∧ Below w.heap.size w V0) := ⟨HB0.out.1.below hb0, bst HB0.out.2 hb0⟩
  clear hb0 HB0 C
  have HB2 : Hid (Blk (V0.alloc (.cells #[.string ⟨#[]⟩, .int .i64 0, .int .i64 0] 56)) w.heap.size #[.string ⟨#[]⟩, .int .i64 0, .int .i64 0] 56 ∧ Blk (V0.alloc (.cells #[.string ⟨#[]⟩, .int .i64 0, .int .i64 0] 56)) V0.heap.size #[.string ⟨#[]⟩, .int .i64 0, .int .i64 0] 56 ∧ Below w.heap.size w (V0.alloc (.cells #[.string ⟨#[]⟩, .int .i64 0, .int .i64 0] 56))) := ⟨HB1.out.1.below ((Below.refl _ _).alloc (Nat.le_refl _) _), Blk.new V0 _ 56, bst HB1.out.2 ((Below.refl _ _).alloc (Nat.le_refl _) _)⟩
  go_upto_region 4 with fail
  generalize (V0.alloc _) = V1 at HB2 ⊢
  have y0 := HB2.out.1.cell 0 (v := .string ⟨#[]⟩) rfl
  have yf0 := HB2.out.1.frozen 0
  have y1 := HB2.out.1.cell 1 (v := .int .i64 0) rfl
  have yf1 := HB2.out.1.frozen 1
  have y2 := HB2.out.1.cell 2 (v := .int .i64 0) rfl
  have yf2 := HB2.out.1.frozen 2
  have z0 := HB2.out.2.1.cell 0 (v := .string ⟨#[]⟩) rfl
  have z1 := HB2.out.2.1.cell 1 (v := .int .i64 0) rfl
  have z2 := HB2.out.2.1.cell 2 (v := .int .i64 0) rfl
  have HF : Hid (Blk (((V1.setCell ⟨w.heap.size, 0, none⟩ (.string ⟨#[]⟩)).setCell ⟨w.heap.size, 1, none⟩ (.int .i64 0)).setCell ⟨w.heap.size, 2, none⟩ (.int .i64 0)) w.heap.size #[.string ⟨#[]⟩, .int .i64 0, .int .i64 0] 56 ∧ Below w.heap.size w (((V1.setCell ⟨w.heap.size, 0, none⟩ (.string ⟨#[]⟩)).setCell ⟨w.heap.size, 1, none⟩ (.int .i64 0)).setCell ⟨w.heap.size, 2, none⟩ (.int .i64 0))) :=
    ⟨((HB2.out.1.set 0 _).set 1 _).set 2 _, ((HB2.out.2.2.setCell (by simp) _).setCell (by simp) _).setCell (by simp) _⟩
  clear HB1 HB2
  go_wp2
  generalize (((V1.setCell ⟨w.heap.size, 0, none⟩ _).setCell ⟨w.heap.size, 1, none⟩ _).setCell ⟨w.heap.size, 2, none⟩ _) = WG at HF ⊢
  have k0 := HF.out.1.cell 0 (v := .string ⟨#[]⟩) rfl
  have k1 := HF.out.1.cell 1 (v := .int .i64 0) rfl
  have k2 := HF.out.1.cell 2 (v := .int .i64 0) rfl
  refine bodyPost_ret (v := .tuple #[.agg #[.string ⟨#[]⟩, .int .i64 0, .int .i64 0], .bool false]) (by simp [results, Try.results20, go_sem, k0, k1, k2]) rfl ⟨rfl, HF.out.2⟩
set_option maxHeartbeats 1000000 in
theorem putT_dup (q b most cap : Nat) (r : List (Pl Th)) (k : ByteArray) (u v : Th) (hk : k.size ≤ 9223372036854775807) (w : World) (h : MapAtT w q b most r cap) (hm : (k, u) ∈ cont r) :
    Calls Try.prog 18 #[.pointer (some ⟨q, 0, none⟩), .string k, .agg #[.string v.1, .int .i64 v.2.1, .int .i64 v.2.2]] w fun e w' => e = .returned (.int .i64 121) ∧ Below w.heap.size w w' := by
  have C : Hid (∀ W, Below w.heap.size w W → Calls Try.prog 50 #[.pointer (some ⟨q, 0, none⟩), .string k] W fun e w' => e = .returned (.tuple #[.int .i64 ((fnd r k).1 : Nat), .bool (fnd r k).2]) ∧ Below W.heap.size W w') := fun W hb => mfindT_any q b most cap r k hk W (h.below hb)
  rw [((h.found k).some h.rw hm).1] at C
  have HB0 : Hid (Blk (w.alloc (.cells #[.string v.1, .int .i64 v.2.1, .int .i64 v.2.2] 56)) w.heap.size #[.string v.1, .int .i64 v.2.1, .int .i64 v.2.2] 56 ∧ Below w.heap.size w (w.alloc (.cells #[.string v.1, .int .i64 v.2.1, .int .i64 v.2.2] 56))) := ⟨Blk.new w _ 56, (Below.refl _ _).alloc (Nat.le_refl _) _⟩
  clear h hm hk
  generalize (fnd r k).1 = a at *
  go_enter Try.func18, Try.ntmps18
  go_upto_region 1 with fail
  generalize (w.alloc _) = W0 at HB0 ⊢
  go_wp2_with fail
  refine (C.out _ HB0.out.2).mono ?_
  rintro e w1 ⟨rfl, hb⟩
  have HB : Hid (Below w.heap.size w w1) := bst HB0.out.2 hb
  clear hb C HB0
  go_wp2
  go_ret
  exact ⟨rfl, HB.out⟩
set_option maxHeartbeats 1000000 in
theorem putT_full (q b most cap : Nat) (r : List (Pl Th)) (k : ByteArray) (v : Th) (hk : k.size ≤ 9223372036854775807) (w : World) (h : MapAtT w q b most r cap) (hn : ∀ x ∈ cont r, x.1 ≠ k) (hf : (cont r).length = most) :
    Calls Try.prog 18 #[.pointer (some ⟨q, 0, none⟩), .string k, .agg #[.string v.1, .int .i64 v.2.1, .int .i64 v.2.2]] w fun e w' => e = .returned (.int .i64 120) ∧ Below w.heap.size w w' := by
  have C : Hid (∀ W, Below w.heap.size w W → Calls Try.prog 50 #[.pointer (some ⟨q, 0, none⟩), .string k] W fun e w' => e = .returned (.tuple #[.int .i64 ((fnd r k).1 : Nat), .bool (fnd r k).2]) ∧ Below W.heap.size W w') := fun W hb => mfindT_any q b most cap r k hk W (h.below hb)
  rw [((h.found k).nope hn).1] at C
  have HC : Hid (∀ w1, Below w.heap.size w w1 → w1.cell? ⟨q, 0, none⟩ = some (.int .i64 most) ∧ w1.cell? ⟨q, 1, none⟩ = some (.int .i64 most)) := fun w1 h1 => by
    have := (h.below h1).hd
    rw [hf] at this
    exact ⟨this.cell 0 rfl, this.cell 1 rfl⟩
  have HB0 : Hid (Blk (w.alloc (.cells #[.string v.1, .int .i64 v.2.1, .int .i64 v.2.2] 56)) w.heap.size #[.string v.1, .int .i64 v.2.1, .int .i64 v.2.2] 56 ∧ Below w.heap.size w (w.alloc (.cells #[.string v.1, .int .i64 v.2.1, .int .i64 v.2.2] 56))) := ⟨Blk.new w _ 56, (Below.refl _ _).alloc (Nat.le_refl _) _⟩
  clear h hn hk hf
  generalize (fnd r k).1 = a at *
  go_enter Try.func18, Try.ntmps18
  go_upto_region 1 with fail
  generalize (w.alloc _) = W0 at HB0 ⊢
  go_wp2_with fail
  refine (C.out _ HB0.out.2).mono ?_
  rintro e w1 ⟨rfl, hb0⟩
  have hb : Below w.heap.size w w1 := bst HB0.out.2 hb0
  have HB : Hid (Below w.heap.size w w1) := hb
  obtain ⟨c0, c1⟩ := HC.out w1 hb
  have hD : Hid (∀ n, Below w.heap.size w (w1.drewN n)) := fun n => ⟨hb.os, hb.tape, hb.output, hb.size, hb.block⟩
  clear hb hb0 HB0 C HC HB
  go_wp2_with fail
  go_quiet (fail)
  go_wp2
  go_ret
  exact ⟨rfl, hD.out _⟩
set_option maxHeartbeats 4000000 in
set_option maxRecDepth 100000 in
theorem putT_ok (q b most cap : Nat) (r : List (Pl Th)) (k : ByteArray) (v : Th) (hk : k.size ≤ 281474976710656) (w : World) (h : MapAtT w q b most r cap) (hn : ∀ x ∈ cont r, x.1 ≠ k) (hf : (cont r).length < most) :
    Calls Try.prog 18 #[.pointer (some ⟨q, 0, none⟩), .string k, .agg #[.string v.1, .int .i64 v.2.1, .int .i64 v.2.2]] w fun e w' => e = .returned (.int .i64 0) ∧ ∃ b2 cap2 r2, MapAtT w' q b2 most r2 cap2 ∧ (cont r2).Perm ((k, v) :: cont r) ∧ Kept (fun z => z = q ∨ z = b) w w' ∧ (b2 = b ∨ w.heap.size ≤ b2) := by
  have C : Hid (∀ W, Below w.heap.size w W → Calls Try.prog 50 #[.pointer (some ⟨q, 0, none⟩), .string k] W fun e w' => e = .returned (.tuple #[.int .i64 ((fnd r k).1 : Nat), .bool (fnd r k).2]) ∧ Below W.heap.size W w') := fun W hb => mfindT_any q b most cap r k (by omega) W (h.below hb)
  rw [((h.found k).nope hn).1] at C
  have HB0 : Hid (Blk (w.alloc (.cells #[.string v.1, .int .i64 v.2.1, .int .i64 v.2.2] 56)) w.heap.size #[.string v.1, .int .i64 v.2.1, .int .i64 v.2.2] 56 ∧ Below w.heap.size w (w.alloc (.cells #[.string v.1, .int .i64 v.2.1, .int .i64 v.2.2] 56))) := ⟨Blk.new w _ 56, (Below.refl _ _).alloc (Nat.le_refl _) _⟩
  have HM0 : Hid (MapAtT w q b most r cap ∧ (∀ x ∈ cont r, x.1 ≠ k)) := ⟨h, hn⟩
  have hqA : w.heap.size ≠ q := fun e => absurd h.hd.lt (by omega)
  have hbA : w.heap.size ≠ b := fun e => absurd h.row.lt (by omega)
  have hmost := h.most
  have hbig := h.big
  have hhalf := h.half
  have hne := h.ne
  clear h hn
  generalize (fnd r k).1 = a at *
  go_enter Try.func18, Try.ntmps18
  go_upto_region 1 with fail
  generalize (w.alloc _) = W0 at HB0 ⊢
  have HM : Hid (MapAtT W0 q b most r cap ∧ (∀ x ∈ cont r, x.1 ≠ k)) := ⟨HM0.out.1.below HB0.out.2, HM0.out.2⟩
  have HOUT : Hid (∀ w6, (∃ b2 cap2 r2, MapAtT w6 q b2 most r2 cap2 ∧ (cont r2).Perm ((k, v) :: cont r) ∧ Kept (fun z => z = q ∨ z = b) W0 w6 ∧ (b2 = b ∨ W0.heap.size ≤ b2)) → ∃ b2 cap2 r2, MapAtT w6 q b2 most r2 cap2 ∧ (cont r2).Perm ((k, v) :: cont r) ∧ Kept (fun z => z = q ∨ z = b) w w6 ∧ (b2 = b ∨ w.heap.size ≤ b2)) := by
    rintro w6 ⟨b2, cap2, r2, g1, g2, g3, g4⟩
    exact ⟨b2, cap2, r2, g1, g2, (Kept.of_below HB0.out.2).trans g3, g4.imp id fun h => Nat.le_trans HB0.out.2.size h⟩
  have HA0 : Hid (Blk W0 w.heap.size #[.string v.1, .int .i64 v.2.1, .int .i64 v.2.2] 56) := HB0.out.1
  have C0 := C.out W0 HB0.out.2
  have HC0 : Hid (Calls Try.prog 50 #[.pointer (some ⟨q, 0, none⟩), .string k] W0 fun e w' => e = .returned (.tuple #[.int .i64 (a : Nat), .bool false]) ∧ Below W0.heap.size W0 w') := C0
  clear C C0 HM0 HB0
  go_wp2_with fail
  refine HC0.out.mono ?_
  rintro e w1 ⟨rfl, hb⟩
  have HB : Hid (Below W0.heap.size W0 w1) := hb
  have HA1 : Hid (Blk w1 w.heap.size #[.string v.1, .int .i64 v.2.1, .int .i64 v.2.2] 56) := HA0.out.below hb
  clear HC0 HA0
  have HM1 : Hid (MapAtT w1 q b most r cap) := HM.out.1.below hb
  obtain ⟨c, hc⟩ : ∃ c, c = (cont r).length := ⟨_, rfl⟩
  have HC : Hid (c = (cont r).length) := hc
  have c0 := HM1.out.hd.cell 0 (v := .int .i64 most) rfl
  have c1 : w1.cell? ⟨q, 1, none⟩ = some (.int .i64 c) := by rw [hc]; exact HM1.out.hd.cell 1 rfl
  rw [← hc] at hf hmost hhalf
  clear hc hb
  have t1 : ((c : Int) == (most : Int)) = false := by simp; omega
  go_wp2_with fail
  go_quiet (fail)
  go_upto_region 8 with fail
  have HMD : Hid (∀ j, MapAtT (w1.drewN j) q b most r cap ∧ Below W0.heap.size W0 (w1.drewN j) ∧ Blk (w1.drewN j) w.heap.size #[.string v.1, .int .i64 v.2.1, .int .i64 v.2.2] 56) := fun j => ⟨HM1.out.below ⟨rfl, rfl, rfl, Nat.le_refl _, fun _ _ => rfl⟩, HB.out.trans ⟨rfl, rfl, rfl, Nat.le_refl _, fun _ _ => rfl⟩, HA1.out.below ⟨rfl, rfl, rfl, Nat.le_refl _, fun _ _ => rfl⟩⟩
  clear c0 c1 HM1 HB HA1
  generalize hW : w1.drewN _ = W
  have HMW : Hid (MapAtT W q b most r cap ∧ Below W0.heap.size W0 W ∧ Blk W w.heap.size #[.string v.1, .int .i64 v.2.1, .int .i64 v.2.2] 56) := by rw [← hW]; exact HMD.out _
  clear hW HMD
  have c1 : W.cell? ⟨q, 1, none⟩ = some (.int .i64 c) := by rw [HC.out]; exact HMW.out.1.hd.cell 1 rfl
  have f1 := HMW.out.1.hd.frozen 1
  have hx1 : IntKind.i64.wrap ((c : Int) + 1) = (c : Int) + 1 := by rw [IntKind.wrap_i64]; omega
  have HX2 : Hid (Blk (W.setCell ⟨q, 1, none⟩ (.int .i64 ((c : Int) + 1))) q #[.int .i64 most, .int .i64 ((c : Int) + 1), .slice (some ⟨b, 0, none⟩) r.length cap] 101) := HMW.out.1.hd.set 1 _
  have HK2 : Hid (Kept (fun z => z = q) W (W.setCell ⟨q, 1, none⟩ (.int .i64 ((c : Int) + 1)))) := (Kept.refl (fun z => z = q) W).set (p := ⟨q, 1, none⟩) rfl _
  go_upto_region 9 with fail
  generalize W.setCell ⟨q, 1, none⟩ (.int .i64 ((c : Int) + 1)) = W2 at *
  have HA2 : Hid (Blk W2 w.heap.size #[.string v.1, .int .i64 v.2.1, .int .i64 v.2.2] 56) := HMW.out.2.2.kept HK2.out hqA
  have HR2 : Hid (RowOf 110 6 encV W2 b r ∧ Rw spr r) := ⟨HMW.out.1.row.kept HK2.out (fun e => hne e.symm), HMW.out.1.rw⟩
  clear c1 f1
  have d0 := HX2.out.cell 0 (v := .int .i64 most) rfl
  have d1 := HX2.out.cell 1 (v := .int .i64 ((c : Int) + 1)) rfl
  have d2 := HX2.out.cell 2 (v := .slice (some ⟨b, 0, none⟩) r.length cap) rfl
  have hql := HX2.out.lt
  have CR : Hid (∀ W3, Below W2.heap.size W2 W3 → Calls Try.prog 51 #[.slice (some ⟨b, 0, none⟩) r.length cap, .int .i64 ((c : Int) + 1)] W3 fun e w' => ∃ b' cap' n', e = .returned (.slice (some ⟨b', 0, none⟩) n' cap') ∧ w'.cell? ⟨q, 1, none⟩ = some (.int .i64 ((c : Int) + 1)) ∧ w'.cell? ⟨q, 2, none⟩ = some (.slice (some ⟨b, 0, none⟩) r.length cap) ∧ w'.frozen? ⟨q, 2, none⟩ = false ∧ Hid (Blk w' q #[.int .i64 most, .int .i64 ((c : Int) + 1), .slice (some ⟨b, 0, none⟩) r.length cap] 101 ∧ Blk w' w.heap.size #[.string v.1, .int .i64 v.2.1, .int .i64 v.2.2] 56 ∧ Below W2.heap.size W2 w' ∧ (b' = b ∨ W2.heap.size ≤ b') ∧ ∃ r', n' = r'.length ∧ RowOf 110 6 encV w' b' r' ∧ Rw spr r' ∧ (8 ≤ r'.length ∧ r'.length ≤ 16384 ∧ 2 * (c + 1) ≤ r'.length) ∧ (cont r').Perm (cont r))) := fun W3 h3 => by
    have e : ((c + 1 : Nat) : Int) = (c : Int) + 1 := by omega
    have h := roomT_any b cap (c + 1) r W3 (HR2.out.1.below h3) HR2.out.2 hbig.2 hbig.1 (by omega) (by omega)
    rw [e] at h
    refine h.mono ?_
    rintro e w' ⟨b', cap', r', rfl, g1, g2, g3, g4, g5, g6⟩
    have hx := (HX2.out.below h3).below g5
    exact ⟨b', cap', r'.length, rfl, hx.cell 1 rfl, hx.cell 2 rfl, hx.frozen 2, hx, (HA2.out.below h3).below g5, h3.trans (g5.mono h3.size), g6.imp id (fun q => Nat.le_trans h3.size q), r', rfl, g1, g2, g3, g4⟩
  go_region_with ((go_at_call 51; refine (CR.out _ (by exact ⟨rfl, rfl, rfl, Nat.le_refl _, fun _ _ => rfl⟩)).mono ?_; rintro e w4 ⟨b2, cap2, n2, rfl, h41, h42, h43, H4⟩))
  all_goals (
    obtain ⟨h4a, h4A, h4b, h4c, r4, h4d, h4e, h4f, h4g, h4h⟩ := H4.out
    have HK5 : Hid (Kept (fun z => z = q) w4 (w4.setCell ⟨q, 2, none⟩ (.slice (some ⟨b2, 0, none⟩) n2 cap2))) := (Kept.refl (fun z => z = q) w4).set (p := ⟨q, 2, none⟩) rfl _
    have HX5 : Hid (Blk (w4.setCell ⟨q, 2, none⟩ (.slice (some ⟨b2, 0, none⟩) n2 cap2)) q #[.int .i64 most, .int .i64 ((c : Int) + 1), .slice (some ⟨b2, 0, none⟩) n2 cap2] 101) := h4a.set 2 _
    have hbq : q ≠ b2 := fun e => by rcases h4c with h | h <;> omega
    have HR5 : Hid (RowOf 110 6 encV (w4.setCell ⟨q, 2, none⟩ (.slice (some ⟨b2, 0, none⟩) n2 cap2)) b2 r4 ∧ Rw spr r4) := ⟨h4e.kept HK5.out (fun e => hbq e.symm), h4f⟩
    have HA5 : Hid (Blk (w4.setCell ⟨q, 2, none⟩ (.slice (some ⟨b2, 0, none⟩) n2 cap2)) w.heap.size #[.string v.1, .int .i64 v.2.1, .int .i64 v.2.2] 56) := h4A.kept HK5.out hqA
    have HF5 : Hid (Kept (fun z => z = q) W2 (w4.setCell ⟨q, 2, none⟩ (.slice (some ⟨b2, 0, none⟩) n2 cap2))) := (Kept.of_below h4b).trans HK5.out
    have HD5 : Hid ((b2 = b ∨ W2.heap.size ≤ b2) ∧ n2 = r4.length ∧ (8 ≤ r4.length ∧ r4.length ≤ 16384 ∧ 2 * (c + 1) ≤ r4.length) ∧ (cont r4).Perm (cont r)) := ⟨h4c, h4d, h4g, h4h⟩
    clear h4a h4A h4b h4c h4d h4e h4f h4g h4h H4 CR d0 d1 d2 h41 h42 h43
    go_upto_region 10 with fail
    generalize w4.setCell ⟨q, 2, none⟩ (.slice (some ⟨b2, 0, none⟩) n2 cap2) = W5 at *
    have c2 : ∀ z : Grown W5, (gw z).cell? ⟨q, 2, none⟩ = some (.slice (some ⟨b2, 0, none⟩) n2 cap2) := gw_cell (HX5.out.cell 2 rfl)
    have y0 : ∀ z : Grown W5, (gw z).cell? ⟨w.heap.size, 0, none⟩ = some (.string v.1) := gw_cell (HA5.out.cell 0 rfl)
    have y1 : ∀ z : Grown W5, (gw z).cell? ⟨w.heap.size, 1, none⟩ = some (.int .i64 v.2.1) := gw_cell (HA5.out.cell 1 rfl)
    have y2 : ∀ z : Grown W5, (gw z).cell? ⟨w.heap.size, 2, none⟩ = some (.int .i64 v.2.2) := gw_cell (HA5.out.cell 2 rfl)
    have C1 : Hid (∀ w1, Calls Try.prog 49 #[.string k] w1 fun e w' => e = .returned (.int .u32 (spr k)) ∧ w' = w1) := fun w1 => spr_any k (by omega) w1
    have C2 : Hid (∀ w1, Calls Try.prog 44 #[.string k] w1 fun e w' => e = .returned (.string k) ∧ Below w1.heap.size w1 w') := fun w1 => cloneI_any k hk w1
    obtain ⟨f, hfree⟩ : ∃ f : Nat, r4[f]? = some none := free_of r4 (by have h1 := HD5.out.2.2.2.length_eq; have h2 := HC.out; have h3 := HD5.out.2.2.1; omega)
    have CL : Hid (∀ z : Grown W5, Calls Try.prog 52 #[.slice (some ⟨b2, 0, none⟩) n2 cap2, .agg #[.bool true, .int .u32 (spr k), .string k, .string v.1, .int .i64 v.2.1, .int .i64 v.2.2]] (gw z) fun e w' => e = .returned (.tuple #[]) ∧ Kept (fun z => z = b2) (gw z) w' ∧ ∃ r', RowOf 110 6 encV w' b2 r' ∧ Rw spr r' ∧ r'.length = r4.length ∧ (cont r').Perm ((k, v) :: cont r4)) := fun z => by
      rw [HD5.out.2.1]
      exact layT_any b2 cap2 r4 k v (gw z) (HR5.out.1.below (gw_below z)) HR5.out.2 HD5.out.2.2.1.2.1 hfree (fun x hx => HM.out.2 x (HD5.out.2.2.2.mem_iff.1 hx))
    generalize spr k = hh at *
    clear hfree hk
    refine region_last_gw (by kernel_rfl) (by kernel_rfl) (by kernel_rfl) rfl ?_
    simp only [swapLast, stand]
    repeat (go_big_quiet_step ((first | (go_at_call 49; exact calls_gw_same (C1.out _)) | (go_at_call 44; exact calls_gw (C2.out _)))))
    refine wpQuiet_nil ?_
    intro wq hwq
    obtain ⟨zq, hwq⟩ := hwq
    subst hwq
    unfold Oper.wp
    go_simp
    refine (CL.out zq).mono ?_
    rintro e w6 ⟨rfl, hk6, r6, h6a, h6b, h6c, h6d⟩
    have HZ : Hid (Below W5.heap.size W5 (gw zq)) := gw_below zq
    have H6 : Hid (Kept (fun z => z = b2) (gw zq) w6 ∧ RowOf 110 6 encV w6 b2 r6 ∧ Rw spr r6 ∧ r6.length = r4.length ∧ (cont r6).Perm ((k, v) :: cont r4)) := ⟨hk6, h6a, h6b, h6c, h6d⟩
    clear hk6 h6a h6b h6c h6d CL C1 C2 c2 y0 y1 y2 HA5 HA2
    generalize gw zq = W6 at *
    have HFIN : Hid (∃ b2 cap2 r2, MapAtT w6 q b2 most r2 cap2 ∧ (cont r2).Perm ((k, v) :: cont r) ∧ Kept (fun z => z = q ∨ z = b) W0 w6 ∧ (b2 = b ∨ W0.heap.size ≤ b2)) := by
      obtain ⟨g1, g2, g3, g4, g5⟩ := H6.out
      obtain ⟨d1, d2, d3, d4⟩ := HD5.out
      have hp : (cont r6).Perm ((k, v) :: cont r) := g5.trans (d4.cons _)
      have hl : (cont r6).length = c + 1 := by rw [hp.length_eq, List.length_cons, HC.out]
      have hx := (HX5.out.below HZ.out).kept g1 hbq
      have z1 := HMW.out.2.1.size
      have z2 := HK2.out.size
      have ka : Kept (fun z => z = q ∨ z = b2) W0 w6 := ((((Kept.of_below HMW.out.2.1).trans (HK2.out.mono fun _ _ e => .inl e)).trans (HF5.out.mono fun _ _ e => .inl e)).trans (Kept.of_below HZ.out)).trans (g1.mono fun _ _ e => .inr e)
      refine ⟨b2, cap2, r6, ⟨?_, g2, g3, by omega, by omega, by omega, hbq⟩, hp, ka.mono fun z hz e => ?_, ?_⟩
      · rw [hl, g4, ← d2, show ((c + 1 : Nat) : Int) = (c : Int) + 1 by omega]; exact hx
      · rcases e with e | e
        · exact .inl e
        · rcases d1 with h | h
          · exact .inr (e.trans h)
          · omega
      · rcases d1 with h | h
        · exact .inl h
        · exact .inr (by omega)
    clear HZ H6 HX5 HR5 HF5 HD5 HC HK2 HMW HX2 HR2 HM
    dsimp only
    go_wp2_with fail
    go_ret
    exact ⟨rfl, HOUT.out _ HFIN.out⟩)
end Go.Proofs.Ytkcjcidndckgbaa
