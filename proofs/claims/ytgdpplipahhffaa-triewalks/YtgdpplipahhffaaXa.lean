/- Package trie: unlessIdle, without. -/
import Derived.Test.YtgdpplipahhffaaWi
import Derived.Test.YtgdpplipahhffaaGu
namespace Go.Proofs.Ytgdpplipahhffaa
open Go.RowKit
set_option linter.unusedVariables false
set_option linter.unusedSimpArgs false

def idleA (A3 A4 A5 : Option Addr) (C : Nat) : Option Addr := if A3.isSome || (A4.isSome && A5.isSome) then some ⟨C, 0, none⟩ else if A4.isSome then A4 else A5
theorem idleA_is (A3 : Option Addr) (a0 a1 : Option Nat) (C : Nat) : idleA A3 (a0.map fun b => ⟨b, 0, none⟩) (a1.map fun b => ⟨b, 0, none⟩) C = (idleR A3.isSome a0 a1 C).map fun b => ⟨b, 0, none⟩ := by
  unfold idleA idleR
  cases A3 <;> cases a0 <;> cases a1 <;> rfl
set_option maxHeartbeats 1000000 in
theorem idle_any (C : Nat) (u1 u2 u3 : Value) (A3 A4 A5 : Option Addr) (w : World) (h : Blk w C #[u1, u2, u3, .pointer A3, .pointer A4, .pointer A5] 98) :
    Calls Try.prog 81 #[.pointer (some ⟨C, 0, none⟩)] w fun e w' => e = .returned (.pointer (idleA A3 A4 A5 C)) ∧ w' = w := by
  have c3 := h.cell 3 (v := .pointer A3) rfl
  have c4 := h.cell 4 (v := .pointer A4) rfl
  have c5 := h.cell 5 (v := .pointer A5) rfl
  clear h
  unfold idleA
  cases A3 <;> cases A4 <;> cases A5
  all_goals
    go_enter Try.func81, Try.ntmps81
    go_wp2
    go_ret
    exact ⟨rfl, rfl⟩
abbrev Del1 (W : Nat) (w w' : World) (p : List Bool) (L : List (List Bool × Int)) (a : Option Nat) : Prop := DelN 98 3 encV W w w' p L a
set_option maxHeartbeats 2000000 in
theorem without_node {W : Nat} (h1 : 1 ≤ W) (h2 : W ≤ 128) {p : List Bool} (hp : p.length ≤ W) (q : Nat) (w : World) (hq : w.cell? ⟨q, 0, none⟩ = some (.int .i64 W))
    {n : Nat} {x : Nd Int} {a0 a1 : Option Nat} {N0 N1 : List (Nd Int)} (hR : RootI W w n x a0 a1 N0 N1) (hx : x.key <+: p)
    (hC0 : x.key ++ [false] <+: p → ∀ V, Below w.heap.size w V → Calls Try.prog 63 #[.pointer (some ⟨q, 0, none⟩), pt a0, Pf (valOf W p) p.length] V fun e w' => ∃ b, e = .returned (pt b) ∧ Del1 W V w' p (kept N0) b)
    (hC1 : x.key ++ [true] <+: p → ∀ V, Below w.heap.size w V → Calls Try.prog 63 #[.pointer (some ⟨q, 0, none⟩), pt a1, Pf (valOf W p) p.length] V fun e w' => ∃ b, e = .returned (pt b) ∧ Del1 W V w' p (kept N1) b) :
    Calls Try.prog 63 #[.pointer (some ⟨q, 0, none⟩), .pointer (some ⟨x.blk, 0, none⟩), Pf (valOf W p) p.length] w fun e w' => ∃ b, e = .returned (pt b) ∧ Del1 W w w' p (kept (x :: (N0 ++ N1))) b := by
  have HR : Hid (RootI W w n x a0 a1 N0 N1) := hR
  have HX : Hid (x.key <+: p) := hx
  have hl := hR.node.len
  have HB : Hid _ := one_new w #[.int .u64 (hiOf (valOf W p)), .int .u64 (loOf (valOf W p)), .int .i64 p.length] 51
  have hlq : q < w.heap.size := World.block_lt_of_cell? w _ hq
  have HQ : Hid (w.cell? ⟨q, 0, none⟩ = some (.int .i64 W)) := hq
  have HE : Hid (x.key = p ↔ valOf W x.key = valOf W p ∧ x.key.length = p.length) := ⟨fun e => by rw [e]; exact ⟨rfl, rfl⟩, fun e => val_inj hl hp e.2 e.1⟩
  obtain ⟨A3, hA3⟩ : ∃ A : Option Addr, A = (x.th.map (·.1)).map fun b => ⟨b, 0, none⟩ := ⟨_, rfl⟩
  obtain ⟨A4, hA4⟩ : ∃ A : Option Addr, A = a0.map fun b => ⟨b, 0, none⟩ := ⟨_, rfl⟩
  obtain ⟨A5, hA5⟩ : ∃ A : Option Addr, A = a1.map fun b => ⟨b, 0, none⟩ := ⟨_, rfl⟩
  have HA : Hid (A3 = ((x.th.map (·.1)).map fun b => (⟨b, 0, none⟩ : Addr)) ∧ A4 = (a0.map fun b => (⟨b, 0, none⟩ : Addr)) ∧ A5 = (a1.map fun b => (⟨b, 0, none⟩ : Addr))) := ⟨hA3, hA4, hA5⟩
  have HD0 : Hid (x.key ++ [false] <+: p → ∀ V, Below w.heap.size w V → Calls Try.prog 63 #[.pointer (some ⟨q, 0, none⟩), .pointer A4, Pf (valOf W p) p.length] V fun e w' => ∃ b, e = .returned (pt b) ∧ Hid (Del1 W V w' p (kept N0) b)) := by rw [hA4]; exact hC0
  have HD1 : Hid (x.key ++ [true] <+: p → ∀ V, Below w.heap.size w V → Calls Try.prog 63 #[.pointer (some ⟨q, 0, none⟩), .pointer A5, Pf (valOf W p) p.length] V fun e w' => ∃ b, e = .returned (pt b) ∧ Hid (Del1 W V w' p (kept N1) b)) := by rw [hA5]; exact hC1
  have xb0 : Blk w x.blk #[.int .u64 (hiOf (valOf W x.key)), .int .u64 (loOf (valOf W x.key)), .int .i64 x.key.length, .pointer A3, .pointer A4, .pointer A5] 98 := by rw [hA3, hA4, hA5]; exact hR.node.cells
  have HXB : Hid (Blk w x.blk #[.int .u64 (hiOf (valOf W x.key)), .int .u64 (loOf (valOf W x.key)), .int .i64 x.key.length, .pointer A3, .pointer A4, .pointer A5] 98) := xb0
  have C69 : Hid (∀ i : Bool, x.key ++ [i] <+: p → ∀ w1, Calls Try.prog 69 #[B (valOf W p), .int .i64 W, .int .i64 x.key.length] w1 fun e w' => e = .returned (.int .i64 (if i then 1 else 0)) ∧ Below w1.heap.size w1 w') := fun i hi w1 => by
    have h := side_any h1 h2 hp x.key.length w1
    have hb : p[x.key.length]? = some i := by obtain ⟨s, rfl⟩ := hi; simp
    rw [sideN, hb] at h
    cases i <;> exact h
  clear hx hC0 hC1 hq hR hA3 hA4 hA5 xb0
  have hlx := HXB.out.lt
  have x0 := HXB.out.cell 0 (v := .int .u64 (hiOf (valOf W x.key))) rfl
  have x1 := HXB.out.cell 1 (v := .int .u64 (loOf (valOf W x.key))) rfl
  have x2 := HXB.out.cell 2 (v := .int .i64 x.key.length) rfl
  have x3 := HXB.out.cell 3 (v := .pointer A3) rfl
  have x4 := HXB.out.cell 4 (v := .pointer A4) rfl
  have x5 := HXB.out.cell 5 (v := .pointer A5) rfl
  have HC : Hid (Blk ((w.alloc (.cells #[.int .u64 (hiOf (valOf W p)), .int .u64 (loOf (valOf W p)), .int .i64 p.length] 51)).alloc (.cells #[.int .u64 (hiOf (valOf W x.key)), .int .u64 (loOf (valOf W x.key)), .int .i64 x.key.length, .pointer A3, .pointer A4, .pointer A5] 98)) w.heap.size #[.int .u64 (hiOf (valOf W p)), .int .u64 (loOf (valOf W p)), .int .i64 p.length] 51 ∧ Blk ((w.alloc (.cells #[.int .u64 (hiOf (valOf W p)), .int .u64 (loOf (valOf W p)), .int .i64 p.length] 51)).alloc (.cells #[.int .u64 (hiOf (valOf W x.key)), .int .u64 (loOf (valOf W x.key)), .int .i64 x.key.length, .pointer A3, .pointer A4, .pointer A5] 98)) (w.heap.size + 1) #[.int .u64 (hiOf (valOf W x.key)), .int .u64 (loOf (valOf W x.key)), .int .i64 x.key.length, .pointer A3, .pointer A4, .pointer A5] 98 ∧ Below w.heap.size w ((w.alloc (.cells #[.int .u64 (hiOf (valOf W p)), .int .u64 (loOf (valOf W p)), .int .i64 p.length] 51)).alloc (.cells #[.int .u64 (hiOf (valOf W x.key)), .int .u64 (loOf (valOf W x.key)), .int .i64 x.key.length, .pointer A3, .pointer A4, .pointer A5] 98)) ∧ _) := two_new w _ _ _ _
  go_enter Try.func63, Try.ntmps63
  go_upto_region 2 with fail
  generalize ((w.alloc _).alloc _) = w2 at HC ⊢
  generalize hCC : w.heap.size + 1 = C at *
  have hz0 := HC.out.2.2.2
  clear x0 x1 x2 x3 x4 x5 HB
  have x0 : w2.cell? ⟨x.blk, 0, none⟩ = some (.int .u64 (hiOf (valOf W x.key))) := (HXB.out.below HC.out.2.2.1).cell 0 rfl
  have x1 : w2.cell? ⟨x.blk, 1, none⟩ = some (.int .u64 (loOf (valOf W x.key))) := (HXB.out.below HC.out.2.2.1).cell 1 rfl
  have x2 : w2.cell? ⟨x.blk, 2, none⟩ = some (.int .i64 x.key.length) := (HXB.out.below HC.out.2.2.1).cell 2 rfl
  have y0 : w2.cell? ⟨w.heap.size, 0, none⟩ = some (.int .u64 (hiOf (valOf W p))) := HC.out.1.cell 0 rfl
  have y1 : w2.cell? ⟨w.heap.size, 1, none⟩ = some (.int .u64 (loOf (valOf W p))) := HC.out.1.cell 1 rfl
  have y2 : w2.cell? ⟨w.heap.size, 2, none⟩ = some (.int .i64 p.length) := HC.out.1.cell 2 rfl
  by_cases hk : x.key = p
  · obtain ⟨e1, e2⟩ := HE.out.1 hk
    have EQ : ∀ w, (binOp .eql 51 (Pf (valOf W x.key) x.key.length) (Pf (valOf W p) p.length)).run Try.prog w = .ok (.bool true) w := fun w => by
      rw [eq51, decide_eq_true e1, show ((x.key.length : Int) == (p.length : Int)) = true by rw [beq_iff_eq]; omega]; rfl
    have HK : Hid (x.key = p) := hk
    clear e1 e2 hk
    go_quiet (fail)
    rename_i nq
    have HC3 : Hid (Blk (w2.drewN nq) C #[.int .u64 (hiOf (valOf W x.key)), .int .u64 (loOf (valOf W x.key)), .int .i64 x.key.length, .pointer A3, .pointer A4, .pointer A5] 98 ∧ Below w.heap.size w (w2.drewN nq)) := ⟨HC.out.2.1, below_drewN HC.out.2.2.1 nq⟩
    generalize w2.drewN nq = w3 at HC3 ⊢
    have c3 := HC3.out.1.cell 3 (v := .pointer A3) rfl
    have f3 := HC3.out.1.frozen 3
    have CI : Hid (Calls Try.prog 81 #[.pointer (some ⟨C, 0, none⟩)] (w3.setCell ⟨C, 3, none⟩ (.pointer none)) fun e w' => e = .returned (.pointer (idleA none A4 A5 C)) ∧ w' = w3.setCell ⟨C, 3, none⟩ (.pointer none)) := idle_any C _ _ _ none A4 A5 _ (HC3.out.1.set 3 (.pointer none))
    have HF : Hid (∃ b, idleA none A4 A5 C = (b.map fun b => ⟨b, 0, none⟩) ∧ Del1 W w (w3.setCell ⟨C, 3, none⟩ (.pointer none)) p (kept (x :: (N0 ++ N1))) b) := by
      have g2 := HC3.out.1.set 3 (.pointer none)
      have g3 : Below w.heap.size w (w3.setCell ⟨C, 3, none⟩ (.pointer none)) := HC3.out.2.setCell (by show _ ≤ C; omega) _
      have e := HK.out
      subst e
      obtain ⟨a3, a4, a5⟩ := HA.out
      refine ⟨idleR false a0 a1 C, by rw [a4, a5]; exact idleA_is none a0 a1 C, HR.out.delOwn g3 ?_⟩
      rw [a4, a5] at g2
      exact g2
    clear C69 HD0 HD1
    go_wp2_with fail
    refine CI.out.mono ?_
    rintro e w4 ⟨rfl, rfl⟩
    obtain ⟨b, hb, hF⟩ := HF.out
    rw [hb]
    have HF2 : Hid (Del1 W w (w3.setCell ⟨C, 3, none⟩ (.pointer none)) p (kept (x :: (N0 ++ N1))) b) := hF
    clear hF hb HF CI
    go_wp2
    go_ret
    exact ⟨b, rfl, HF2.out⟩
  · have EQ : ∀ w, (binOp .eql 51 (Pf (valOf W x.key) x.key.length) (Pf (valOf W p) p.length)).run Try.prog w = .ok (.bool false) w := fun w => by
      rw [eq51]
      have : ¬ (valOf W x.key = valOf W p ∧ x.key.length = p.length) := fun e => hk (HE.out.2 e)
      by_cases e1 : valOf W x.key = valOf W p
      · have e2 : ((x.key.length : Int) == (p.length : Int)) = false := by rw [beq_eq_false_iff_ne]; intro e; exact this ⟨e1, by omega⟩
        rw [e2, Bool.and_false]
      · rw [decide_eq_false e1, Bool.false_and]
    obtain ⟨i, hi, _⟩ := pre_next HX.out hk
    clear hk
    go_quiet (fail)
    rename_i nq
    have HC3 : Hid (Blk (w2.drewN nq) C #[.int .u64 (hiOf (valOf W x.key)), .int .u64 (loOf (valOf W x.key)), .int .i64 x.key.length, .pointer A3, .pointer A4, .pointer A5] 98 ∧ Below w2.heap.size w2 (w2.drewN nq)) := ⟨HC.out.2.1, below_drewN (Below.refl _ _) nq⟩
    generalize w2.drewN nq = w3 at HC3 ⊢
    clear x0 x1 x2 y0 y1 y2
    have C69i : Hid (∀ w1, Calls Try.prog 69 #[B (valOf W p), .int .i64 W, .int .i64 x.key.length] w1 fun e w' => e = .returned (.int .i64 (if i then 1 else 0)) ∧ Below w1.heap.size w1 w') := C69.out i hi
    have HI : Hid (x.key ++ [i] <+: p) := hi
    clear C69 hi
    have hbz : Hid (Below w.heap.size w w3) := bst HC.out.2.2.1 HC3.out.2
    have xb3 : Blk w3 x.blk _ 98 := HXB.out.below hbz.out
    have x0 := two_cells xb3 (i := 0) (v := .int .u64 (hiOf (valOf W x.key))) rfl
    have x1 := two_cells xb3 (i := 1) (v := .int .u64 (loOf (valOf W x.key))) rfl
    have x2 := two_cells xb3 (i := 2) (v := .int .i64 x.key.length) rfl
    have yb3 : Blk w3 w.heap.size _ 51 := HC.out.1.below HC3.out.2
    have y0 := two_cells yb3 (i := 0) (v := .int .u64 (hiOf (valOf W p))) rfl
    have y1 := two_cells yb3 (i := 1) (v := .int .u64 (loOf (valOf W p))) rfl
    have z0 : ∀ z : Grown w3, (gw z).cell? ⟨q, 0, none⟩ = some (.int .i64 W) := gw_cell ((World.cell?_of_block (hbz.out.block q hlq)).trans HQ.out)
    clear xb3 yb3
    go_upto_region 4 with fail
    refine region_grows (by kernel_rfl) (by kernel_rfl) ?_
    repeat (go_big_quiet_step ((go_at_call 69; exact calls_gw (C69i.out _))))
    refine wpQuiet_nil ?_
    intro wq hwq
    obtain ⟨zq2, rfl⟩ := hwq
    have HC4 : Hid (Blk (gw zq2) C #[.int .u64 (hiOf (valOf W x.key)), .int .u64 (loOf (valOf W x.key)), .int .i64 x.key.length, .pointer A3, .pointer A4, .pointer A5] 98 ∧ Below w.heap.size w (gw zq2)) := ⟨HC3.out.1.below (gw_below zq2), bst hbz.out (gw_below zq2)⟩
    have yc : Blk (gw zq2) w.heap.size #[.int .u64 (hiOf (valOf W p)), .int .u64 (loOf (valOf W p)), .int .i64 p.length] 51 := (HC.out.1.below HC3.out.2).below (gw_below zq2)
    have HY : Hid (Blk (gw zq2) w.heap.size #[.int .u64 (hiOf (valOf W p)), .int .u64 (loOf (valOf W p)), .int .i64 p.length] 51) := yc
    clear x0 x1 x2 y0 y1 z0 yc HC3 C69i
    generalize gw zq2 = w5 at *
    have c4 := HC4.out.1.cell 4 (v := .pointer A4) rfl
    have c5 := HC4.out.1.cell 5 (v := .pointer A5) rfl
    have f4 := HC4.out.1.frozen 4
    have f5 := HC4.out.1.frozen 5
    have xb5 : Blk w5 x.blk _ 98 := HXB.out.below HC4.out.2
    have x4 := xb5.cell 4 (v := .pointer A4) rfl
    have x5 := xb5.cell 5 (v := .pointer A5) rfl
    have y0 := HY.out.cell 0 (v := .int .u64 (hiOf (valOf W p))) rfl
    have y1 := HY.out.cell 1 (v := .int .u64 (loOf (valOf W p))) rfl
    have y2 := HY.out.cell 2 (v := .int .i64 p.length) rfl
    have HZ := HC4.out.2.size
    clear xb5 HY
    cases i with
    | false =>
      have CC : Hid (∀ V, Below w5.heap.size w5 V → Calls Try.prog 63 #[.pointer (some ⟨q, 0, none⟩), .pointer A4, Pf (valOf W p) p.length] V fun e w' => ∃ B, e = .returned (.pointer B) ∧ w'.cell? ⟨C, 4, none⟩ = some (.pointer A4) ∧ w'.frozen? ⟨C, 4, none⟩ = false ∧ Hid (Blk w' C #[.int .u64 (hiOf (valOf W x.key)), .int .u64 (loOf (valOf W x.key)), .int .i64 x.key.length, .pointer A3, .pointer A4, .pointer A5] 98 ∧ ∃ r, idleA A3 B A5 C = (r.map fun b => (⟨b, 0, none⟩ : Addr)) ∧ Del1 W w (w'.setCell ⟨C, 4, none⟩ (.pointer B)) p (kept (x :: (N0 ++ N1))) r)) := fun V hV => (HD0.out HI.out V (bst HC4.out.2 hV)).mono (by
        rintro e w' ⟨b, rfl, hP⟩
        obtain ⟨⟨m, M, hM, hk⟩, hb⟩ := hP.out
        have g1 : Blk w' C _ 98 := (HC4.out.1.below hV).below hb
        have g2 := g1.set 4 (pt b)
        have hpre : ∀ y ∈ kept M, x.key ++ [false] <+: y.1 := by rw [hk]; exact del_pre fun y hy => HR.out.lt0 hy
        have hoff := hM.off_key (by decide) hpre HR.out.node.len g1
        have hks : Kept (fun k => k = C) w' (w'.setCell ⟨C, 4, none⟩ (pt b)) := (Kept.refl (fun k => k = C) w').set (p := ⟨C, 4, none⟩) rfl _
        have hbw : Below w.heap.size w (w'.setCell ⟨C, 4, none⟩ (pt b)) := (bst (bst HC4.out.2 hV) hb).setCell (by show _ ≤ C; omega) _
        obtain ⟨a3, a4, a5⟩ := HA.out
        have g3 : Blk (w'.setCell ⟨C, 4, none⟩ (pt b)) C (nodeC W x b a1) 98 := by rw [a3, a5] at g2; exact g2
        refine ⟨_, rfl, g1.cell 4 rfl, g1.frozen 4, (⟨g1, idleR x.th.isSome b a1 C, ?_, HR.out.delSide0 HI.out ⟨m, M, hM.keptW hks hoff, hk⟩ hbw g3⟩ : _ ∧ _)⟩
        rw [a3, a5, idleA_is]
        cases x.th <;> rfl)
      clear HD0 HD1
      go_upto_region 5 with fail
      go_region_with ((go_at_call 63; refine (CC.out _ (by exact ⟨rfl, rfl, rfl, Nat.le_refl _, fun _ _ => rfl⟩)).mono ?_; rintro e w7 ⟨B, rfl, d4, e4, H7⟩))
      all_goals (
        have CI : Hid (Calls Try.prog 81 #[.pointer (some ⟨C, 0, none⟩)] (w7.setCell ⟨C, 4, none⟩ (.pointer B)) fun e w' => e = .returned (.pointer (idleA A3 B A5 C)) ∧ w' = w7.setCell ⟨C, 4, none⟩ (.pointer B)) := idle_any C _ _ _ A3 B A5 _ (H7.out.1.set 4 (.pointer B))
        obtain ⟨r, hr, hF⟩ := H7.out.2
        rw [hr] at CI
        have HF2 : Hid (Del1 W w (w7.setCell ⟨C, 4, none⟩ (.pointer B)) p (kept (x :: (N0 ++ N1))) r) := hF
        clear hF H7 CC
        go_wp2_with fail
        refine CI.out.mono ?_
        rintro e w8 ⟨rfl, rfl⟩
        go_wp2
        go_ret
        exact ⟨r, rfl, HF2.out⟩)
    | true =>
      have CC : Hid (∀ V, Below w5.heap.size w5 V → Calls Try.prog 63 #[.pointer (some ⟨q, 0, none⟩), .pointer A5, Pf (valOf W p) p.length] V fun e w' => ∃ B, e = .returned (.pointer B) ∧ w'.cell? ⟨C, 5, none⟩ = some (.pointer A5) ∧ w'.frozen? ⟨C, 5, none⟩ = false ∧ Hid (Blk w' C #[.int .u64 (hiOf (valOf W x.key)), .int .u64 (loOf (valOf W x.key)), .int .i64 x.key.length, .pointer A3, .pointer A4, .pointer A5] 98 ∧ ∃ r, idleA A3 A4 B C = (r.map fun b => (⟨b, 0, none⟩ : Addr)) ∧ Del1 W w (w'.setCell ⟨C, 5, none⟩ (.pointer B)) p (kept (x :: (N0 ++ N1))) r)) := fun V hV => (HD1.out HI.out V (bst HC4.out.2 hV)).mono (by
        rintro e w' ⟨b, rfl, hP⟩
        obtain ⟨⟨m, M, hM, hk⟩, hb⟩ := hP.out
        have g1 : Blk w' C _ 98 := (HC4.out.1.below hV).below hb
        have g2 := g1.set 5 (pt b)
        have hpre : ∀ y ∈ kept M, x.key ++ [true] <+: y.1 := by rw [hk]; exact del_pre fun y hy => HR.out.lt1 hy
        have hoff := hM.off_key (by decide) hpre HR.out.node.len g1
        have hks : Kept (fun k => k = C) w' (w'.setCell ⟨C, 5, none⟩ (pt b)) := (Kept.refl (fun k => k = C) w').set (p := ⟨C, 5, none⟩) rfl _
        have hbw : Below w.heap.size w (w'.setCell ⟨C, 5, none⟩ (pt b)) := (bst (bst HC4.out.2 hV) hb).setCell (by show _ ≤ C; omega) _
        obtain ⟨a3, a4, a5⟩ := HA.out
        have g3 : Blk (w'.setCell ⟨C, 5, none⟩ (pt b)) C (nodeC W x a0 b) 98 := by rw [a3, a4] at g2; exact g2
        refine ⟨_, rfl, g1.cell 5 rfl, g1.frozen 5, (⟨g1, idleR x.th.isSome a0 b C, ?_, HR.out.delSide1 HI.out ⟨m, M, hM.keptW hks hoff, hk⟩ hbw g3⟩ : _ ∧ _)⟩
        rw [a3, a4, idleA_is]
        cases x.th <;> rfl)
      clear HD0 HD1
      go_upto_region 5 with fail
      go_region_with ((go_at_call 63; refine (CC.out _ (by exact ⟨rfl, rfl, rfl, Nat.le_refl _, fun _ _ => rfl⟩)).mono ?_; rintro e w7 ⟨B, rfl, d4, e4, H7⟩))
      all_goals (
        have CI : Hid (Calls Try.prog 81 #[.pointer (some ⟨C, 0, none⟩)] (w7.setCell ⟨C, 5, none⟩ (.pointer B)) fun e w' => e = .returned (.pointer (idleA A3 A4 B C)) ∧ w' = w7.setCell ⟨C, 5, none⟩ (.pointer B)) := idle_any C _ _ _ A3 A4 B _ (H7.out.1.set 5 (.pointer B))
        obtain ⟨r, hr, hF⟩ := H7.out.2
        rw [hr] at CI
        have HF2 : Hid (Del1 W w (w7.setCell ⟨C, 5, none⟩ (.pointer B)) p (kept (x :: (N0 ++ N1))) r) := hF
        clear hF H7 CC
        go_wp2_with fail
        refine CI.out.mono ?_
        rintro e w8 ⟨rfl, rfl⟩
        go_wp2
        go_ret
        exact ⟨r, rfl, HF2.out⟩)
theorem without_any {W : Nat} (h1 : 1 ≤ W) (h2 : W ≤ 128) {p : List Bool} (hp : p.length ≤ W) (q : Nat) : ∀ (n : Nat) (w : World) (a : Option Nat) (N : List (Nd Int)), w.cell? ⟨q, 0, none⟩ = some (.int .i64 W) → HangI W w n a N → look p (kept N) ≠ none →
    Calls Try.prog 63 #[.pointer (some ⟨q, 0, none⟩), pt a, Pf (valOf W p) p.length] w fun e w' => ∃ b, e = .returned (pt b) ∧ Del1 W w w' p (kept N) b
  | n, w, none, N, hq, h, hl => by
    rw [h.of_none] at hl
    exact absurd rfl hl
  | 0, w, some b, N, hq, h, hl => by cases h.1
  | n + 1, w, some b, N, hq, h, hl => by
    obtain ⟨m, x, a0, a1, N0, N1, e, rfl, rfl, hR, hf⟩ := h.root
    have e' : n = m := by omega
    subst e'
    have hqV : ∀ V, Below w.heap.size w V → V.cell? ⟨q, 0, none⟩ = some (.int .i64 W) := fun V hV => (World.cell?_of_block (hV.block q (World.block_lt_of_cell? w _ hq))).trans hq
    obtain ⟨hx, g0, g1⟩ := hR.find_pre hl
    exact without_node h1 h2 hp q w hq hR hx (fun e V hV => without_any h1 h2 hp q n V a0 N0 (hqV V hV) (hR.h0.below hV) (g0 e)) (fun e V hV => without_any h1 h2 hp q n V a1 N1 (hqV V hV) (hR.h1.below hV) (g1 e))
end Go.Proofs.Ytgdpplipahhffaa
