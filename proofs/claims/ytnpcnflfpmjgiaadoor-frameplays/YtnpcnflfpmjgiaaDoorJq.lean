/- Two disks beside one another: pair.get and pair.puts. -/
import Derived.Test.YtnpcnflfpmjgiaaDoorJp
import Derived.Test.YtnpcnflfpmjgiaaDoorDa
import Derived.Test.YtnpcnflfpmjgiaaDoorHp
namespace Go.Proofs.YtnpcnflfpmjgiaaDoor
open Go.RowKit
set_option linter.unusedVariables false
set_option linter.unusedSimpArgs false

theorem TL.tab {B : Nat} {w w' : World} {a b : Nat} {fa fb : Nat → Prop} {S T S' T' : DS} (h : TL B a b fa fb w S' T' w') (t : Two B w a b fa fb S T) (hT : Tab w) (hB : 1 < B) : Tab w' := by
  obtain ⟨_, _, _, hk, _⟩ := h
  exact hT.kept hk (fun e => by have := (t.low 1 e).1; omega)
section
variable {B : Nat} {w : World} {a b : Nat} {fa fb : Nat → Prop} {S : DS}
set_option maxHeartbeats 1000000 in
set_option maxRecDepth 100000 in
theorem pget_any (t : Two B w a b fa fb S S) (n : Int) (hT : Tab w) (hB : 1 < B) : Calls Tryd.prog 49 #[.agg #[pt a, pt b], .int .i64 n] w fun e w' => e = .returned (.bool true) ∧ TL B a b fa fb w (readD S n) (readD S n) w' := by
  unfold pt
  obtain ⟨W, hW⟩ : ∃ W, W = w.alloc (.cells #[.pointer (some ⟨a, 0, none⟩), .pointer (some ⟨b, 0, none⟩)] 43) := ⟨_, rfl⟩
  have hbW : Below w.heap.size w W := hW ▸ Below_new _ _
  have hblk : Blk W w.heap.size #[.pointer (some ⟨a, 0, none⟩), .pointer (some ⟨b, 0, none⟩)] 43 := hW ▸ Blk.new _ _ _
  have t1 := t.below hbW
  have k0 := hblk.cell 0 (v := .pointer (some ⟨a, 0, none⟩)) rfl
  have C1 : Hid (Calls Tryd.prog 35 #[.pointer (some ⟨a, 0, none⟩), .int .i64 n] W fun e w' => e = .returned (.tuple #[.agg #[.int .i64 (getF S n).kind, .int .u64 ((getF S n).num : Int), .int .i64 (getF S n).idx, .string (getF S n).body], .int .i64 (getE S n)]) ∧ Left B a fa W (readD S n) w') := get_any t1.da n (hT.below hbW) hB
  have HT : Hid (Two B W a b fa fb S S) := t1
  have HK : Hid (Blk W w.heap.size #[.pointer (some ⟨a, 0, none⟩), .pointer (some ⟨b, 0, none⟩)] 43) := hblk
  have HL : Hid (∀ k, (fa k ∨ fb k) → k < w.heap.size) := fun k h => (t.low k h).2
  have HW : Hid (Below w.heap.size w W) := hbW
  have C2 : Hid (∀ (w1 : World) (fb' : Nat → Prop), Rk B w1 b fb' S → Calls Tryd.prog 77 #[.pointer (some ⟨b, 0, none⟩), .int .i64 n] w1 fun e w' => e = .returned (.tuple #[.agg #[.int .i64 (getF S n).kind, .int .u64 ((getF S n).num : Int), .int .i64 (getF S n).idx, .string (getF S n).body], .int .i64 (getE S n)]) ∧ RLeft B b fb' w1 (readD S n) w') := fun w1 fb' d => rget_any d n
  clear t t1 hblk hbW hT
  generalize getE S n = E at *
  generalize getF S n = g at *
  obtain ⟨gk, gn, gi, gb⟩ := g
  simp only at *
  have heq : ∀ w : World, (binOp .eql 24 (.agg #[.int .i64 gk, .int .u64 (gn : Int), .int .i64 gi, .string gb]) (.agg #[.int .i64 gk, .int .u64 (gn : Int), .int .i64 gi, .string gb])).run Tryd.prog w = .ok (.bool true) w := by
    intro w
    rw [run_eqF]; simp
  go_enter Tryd.func49, Tryd.ntmps49
  go_wp2_with fail
  rw [← hW]
  clear hW
  refine C1.out.mono ?_
  rintro e w2 ⟨rfl, hL⟩
  have hb3 : Below w2.heap.size w2 (w2.alloc (.cells #[.int .i64 gk, .int .u64 (gn : Int), .int .i64 gi, .string gb] 24)) := (Below.refl _ _).alloc (Nat.le_refl _) _
  obtain ⟨fa', fb', t2, hk2, hn2⟩ := HT.out.stepA hL
  have hblk3 := Blk.new w2 #[.int .i64 gk, .int .u64 (gn : Int), .int .i64 gi, .string gb] 24
  have hz2 : w.heap.size < w2.heap.size := by have := hL.size; have := HK.out.lt; omega
  have hk3 := hk2.trans (Kept.of_below hb3)
  have t3 := t2.below hb3
  have k1 := (HK.out.kept hk3 (fun e => by have := HL.out _ e; omega)).cell 1 (v := .pointer (some ⟨b, 0, none⟩)) rfl
  have hnf : ¬ fb' w2.heap.size := fun e => by have := (t2.db.fp _ e).2; omega
  have C3 : Hid (Calls Tryd.prog 77 #[.pointer (some ⟨b, 0, none⟩), .int .i64 n] (w2.alloc (.cells #[.int .i64 gk, .int .u64 (gn : Int), .int .i64 gi, .string gb] 24)) fun e w' => e = .returned (.tuple #[.agg #[.int .i64 gk, .int .u64 (gn : Int), .int .i64 gi, .string gb], .int .i64 E]) ∧ Hid (TL B a b fa fb w (readD S n) (readD S n) (w'.alloc (.cells #[.int .i64 gk, .int .u64 (gn : Int), .int .i64 gi, .string gb] 24))) ∧ Blk w' w2.heap.size #[.int .i64 gk, .int .u64 (gn : Int), .int .i64 gi, .string gb] 24) := by
    refine (C2.out _ fb' t3.db).mono ?_
    rintro e w' ⟨h1, h2⟩
    refine ⟨h1, (TL.start HT.out HW.out HL.out (TL.trans hk3 hn2 (t3.stepB h2))).then (Below_new _ _), ?_⟩
    obtain ⟨_, _, hk4, _⟩ := h2
    exact hblk3.kept hk4 hnf
  clear C1 C2 hL hb3 t2 t3 hk2 hk3 hn2 hblk3 hnf HT HK HL HW k0
  go_wp2_with fail
  refine C3.out.mono ?_
  rintro e w4 ⟨rfl, hTE, hblk4⟩
  have hlt := hblk4.lt
  have c0 := hblk4.cell 0 rfl
  have c1 := hblk4.cell 1 rfl
  have c2 := hblk4.cell 2 rfl
  have c3 := hblk4.cell 3 rfl
  clear C3 hblk4 k1
  go_wp2
  go_ret
  exact ⟨rfl, hTE.out⟩
set_option maxHeartbeats 1000000 in
set_option maxRecDepth 100000 in
theorem pputs_any (t : Two B w a b fa fb S S) (n : Int) (f : Fr) (hn : f.num < 18446744073709551616) (hT : Tab w) (hB : 1 < B) (hBw : B ≤ w.heap.size) (hfew : S.wait.length < 5864062014000) : Calls Tryd.prog 47 #[.agg #[pt a, pt b], .int .i64 n, frV f] w fun e w' => e = .returned (.bool true) ∧ TL B a b fa fb w (putD S n f) (putD S n f) w' := by
  unfold pt
  obtain ⟨gk, gn, gi, gb⟩ := f
  unfold frV
  simp only at *
  obtain ⟨W, hW⟩ : ∃ W, W = (w.alloc (.cells #[.pointer (some ⟨a, 0, none⟩), .pointer (some ⟨b, 0, none⟩)] 43)).alloc (.cells #[.int .i64 gk, .int .u64 (gn : Int), .int .i64 gi, .string gb] 24) := ⟨_, rfl⟩
  have hbW : Below w.heap.size w W := hW ▸ (Below_new _ _).alloc (by rw [World.size_alloc]; omega) _
  have KP : Blk W w.heap.size #[.pointer (some ⟨a, 0, none⟩), .pointer (some ⟨b, 0, none⟩)] 43 := hW ▸ (Blk.new _ _ _).below (Below_new _ _)
  have KQ : Blk W (w.heap.size + 1) #[.int .i64 gk, .int .u64 (gn : Int), .int .i64 gi, .string gb] 24 := by
    have := Blk.new (w.alloc (.cells #[.pointer (some ⟨a, 0, none⟩), .pointer (some ⟨b, 0, none⟩)] 43)) #[.int .i64 gk, .int .u64 (gn : Int), .int .i64 gi, .string gb] 24
    rw [World.size_alloc] at this
    rw [hW]; exact this
  have T1 := t.below hbW
  have hTW := hT.below hbW
  have hBW : B ≤ W.heap.size := Nat.le_trans hBw hbW.size
  have hlow : ∀ k, (fa k ∨ fb k) → k < w.heap.size := fun k h => (t.low k h).2
  have HKX : Hid (∀ (w' : World) (S1 T1 : DS), TL B a b fa fb W S1 T1 w' → w'.cell? ⟨w.heap.size, 0, none⟩ = some (.pointer (some ⟨a, 0, none⟩)) ∧ w'.cell? ⟨w.heap.size, 1, none⟩ = some (.pointer (some ⟨b, 0, none⟩)) ∧ w'.cell? ⟨w.heap.size + 1, 0, none⟩ = some (.int .i64 gk) ∧ w'.cell? ⟨w.heap.size + 1, 1, none⟩ = some (.int .u64 (gn : Int)) ∧ w'.cell? ⟨w.heap.size + 1, 2, none⟩ = some (.int .i64 gi) ∧ w'.cell? ⟨w.heap.size + 1, 3, none⟩ = some (.string gb)) := by
    show ∀ (w' : World) (S1 T1 : DS), _
    rintro w' S1 T1 ⟨_, _, _, hk, _⟩
    have q1 := KP.kept hk (fun e => by have := hlow _ e; omega)
    have q2 := KQ.kept hk (fun e => by have := hlow _ e; omega)
    exact ⟨q1.cell 0 rfl, q1.cell 1 rfl, q2.cell 0 rfl, q2.cell 1 rfl, q2.cell 2 rfl, q2.cell 3 rfl⟩
  have HW : Hid (∀ (w' : World) (S1 : DS), TL B a b fa fb W S1 S1 w' → TL B a b fa fb w S1 S1 w') := fun w' S1 h => TL.start T1 hbW hlow h
  have HTB : Hid (∀ w1 : World, Below W.heap.size W w1 → TL B a b fa fb W S S w1) := fun w1 hb => (TL.refl T1).then hb
  have p0 := KP.cell 0 (v := .pointer (some ⟨a, 0, none⟩)) rfl
  have p1 := KP.cell 1 (v := .pointer (some ⟨b, 0, none⟩)) rfl
  have q0 := KQ.cell 0 (v := .int .i64 gk) rfl
  have q1 := KQ.cell 1 (v := .int .u64 (gn : Int)) rfl
  have q2 := KQ.cell 2 (v := .int .i64 gi) rfl
  have q3 := KQ.cell 3 (v := .string gb) rfl
  have CA : Hid (∀ w1 : World, TL B a b fa fb W S S w1 → Calls Tryd.prog 32 #[.pointer (some ⟨a, 0, none⟩), .int .i64 n, .agg #[.int .i64 gk, .int .u64 (gn : Int), .int .i64 gi, .string gb]] w1 fun e w' => e = .returned (.int .i64 (putE S n ⟨gk, gn, gi, gb⟩)) ∧ Hid (TL B a b fa fb W (putD S n ⟨gk, gn, gi, gb⟩) S w') ∧ Hid (w'.cell? ⟨w.heap.size, 0, none⟩ = some (.pointer (some ⟨a, 0, none⟩)) ∧ w'.cell? ⟨w.heap.size, 1, none⟩ = some (.pointer (some ⟨b, 0, none⟩)) ∧ w'.cell? ⟨w.heap.size + 1, 0, none⟩ = some (.int .i64 gk) ∧ w'.cell? ⟨w.heap.size + 1, 1, none⟩ = some (.int .u64 (gn : Int)) ∧ w'.cell? ⟨w.heap.size + 1, 2, none⟩ = some (.int .i64 gi) ∧ w'.cell? ⟨w.heap.size + 1, 3, none⟩ = some (.string gb))) := by
    show ∀ w1 : World, _
    intro w1 hT1
    have hTb := hT1.tab T1 hTW hB
    obtain ⟨fa1, fb1, t1, hk1, hn1⟩ := hT1
    have hz1 := hk1.size
    refine (put_any t1.da n ⟨gk, gn, gi, gb⟩ hn hTb hB (by omega) (by omega)).mono ?_
    rintro e w' ⟨h1, h2⟩
    have h3 := TL.trans hk1 hn1 (t1.stepA h2)
    exact ⟨h1, h3, HKX.out w' _ _ h3⟩
  have CB : Hid (∀ w1 : World, TL B a b fa fb W (putD S n ⟨gk, gn, gi, gb⟩) S w1 → Calls Tryd.prog 76 #[.pointer (some ⟨b, 0, none⟩), .int .i64 n, .agg #[.int .i64 gk, .int .u64 (gn : Int), .int .i64 gi, .string gb]] w1 fun e w' => e = .returned (.int .i64 (putE S n ⟨gk, gn, gi, gb⟩)) ∧ Hid (TL B a b fa fb W (putD S n ⟨gk, gn, gi, gb⟩) (putD S n ⟨gk, gn, gi, gb⟩) w') ∧ Hid (w'.cell? ⟨w.heap.size, 0, none⟩ = some (.pointer (some ⟨a, 0, none⟩)) ∧ w'.cell? ⟨w.heap.size, 1, none⟩ = some (.pointer (some ⟨b, 0, none⟩)) ∧ w'.cell? ⟨w.heap.size + 1, 0, none⟩ = some (.int .i64 gk) ∧ w'.cell? ⟨w.heap.size + 1, 1, none⟩ = some (.int .u64 (gn : Int)) ∧ w'.cell? ⟨w.heap.size + 1, 2, none⟩ = some (.int .i64 gi) ∧ w'.cell? ⟨w.heap.size + 1, 3, none⟩ = some (.string gb))) := by
    show ∀ w1 : World, _
    intro w1 hT1
    obtain ⟨fa1, fb1, t1, hk1, hn1⟩ := hT1
    have hz1 := hk1.size
    refine (rput_any t1.db n ⟨gk, gn, gi, gb⟩ hn (by omega) (by omega)).mono ?_
    rintro e w' ⟨h1, h2⟩
    have h3 := TL.trans hk1 hn1 (t1.stepB h2)
    exact ⟨h1, h3, HKX.out w' _ _ h3⟩
  clear t T1 KP KQ hbW hlow hT hTW
  generalize putE S n ⟨gk, gn, gi, gb⟩ = E at *
  generalize putD S n ⟨gk, gn, gi, gb⟩ = SD at *
  go_enter Tryd.func47, Tryd.ntmps47
  go_wp2_with fail
  rw [← hW]
  clear hW
  go_region_held3 (fun w' => w'.cell? ⟨w.heap.size, 0, none⟩ = some (.pointer (some ⟨a, 0, none⟩)) ∧ w'.cell? ⟨w.heap.size, 1, none⟩ = some (.pointer (some ⟨b, 0, none⟩)) ∧ w'.cell? ⟨w.heap.size + 1, 0, none⟩ = some (.int .i64 gk) ∧ w'.cell? ⟨w.heap.size + 1, 1, none⟩ = some (.int .u64 (gn : Int)) ∧ w'.cell? ⟨w.heap.size + 1, 2, none⟩ = some (.int .i64 gi) ∧ w'.cell? ⟨w.heap.size + 1, 3, none⟩ = some (.string gb))
    (first | exact hcB.out | exact hcA.out | go_keep)
    (first | (go_at_call 32; refine (CA.out _ (by exact HTB.out _ ⟨rfl, rfl, rfl, Nat.le_refl _, fun _ _ => rfl⟩)).mono ?_; rintro e wA ⟨rfl, hTA, hcA⟩) | (go_at_call 76; refine (CB.out _ (by exact hTA.out)).mono ?_; rintro e wB ⟨rfl, hTB, hcB⟩))
  have HE : Hid (TL B a b fa fb w SD SD wB) := HW.out _ _ hTB.out
  clear CA CB hTA hcA hTB hcB HW HKX HTB
  go_wp2
  go_ret
  exact ⟨rfl, HE.out⟩
end
end Go.Proofs.YtnpcnflfpmjgiaaDoor
