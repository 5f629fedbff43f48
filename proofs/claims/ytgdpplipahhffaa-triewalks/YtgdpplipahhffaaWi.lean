/- Package trie: with: a thing kept under one more prefix. -/
import Derived.Test.YtgdpplipahhffaaGr
import Derived.Test.YtgdpplipahhffaaTs
namespace Go.Proofs.Ytgdpplipahhffaa
open Go.RowKit
set_option linter.unusedVariables false
set_option linter.unusedSimpArgs false

abbrev encV (v : Int) : Value := .int .i64 v
abbrev HangI (W : Nat) (w : World) (n : Nat) (a : Option Nat) (N : List (Nd Int)) : Prop := Hang 98 3 encV W w n a N
abbrev RootI (W : Nat) (w : World) (n : Nat) (x : Nd Int) (a0 a1 : Option Nat) (N0 N1 : List (Nd Int)) : Prop := Root 98 3 encV W w n x a0 a1 N0 N1
abbrev Put1 (W : Nat) (w w' : World) (p : List Bool) (v : Int) (L : List (List Bool × Int)) (b : Nat) : Prop := PutN 98 3 encV W w w' p v L b
set_option maxHeartbeats 1000000 in
theorem with_nil {W : Nat} {p : List Bool} (hp : p.length ≤ W) (q t : Nat) (v : Int) (w : World) (ht : Blk w t #[encV v] 3) :
    Calls Try.prog 56 #[.pointer (some ⟨q, 0, none⟩), .pointer none, Pf (valOf W p) p.length, .pointer (some ⟨t, 0, none⟩)] w fun e w' => ∃ b, e = .returned (.pointer (some ⟨b, 0, none⟩)) ∧ Put1 W w w' p v [] b := by
  have HB := two_new' w #[.int .u64 (hiOf (valOf W p)), .int .u64 (loOf (valOf W p)), .int .i64 p.length] #[.int .u64 (hiOf (valOf W p)), .int .u64 (loOf (valOf W p)), .int .i64 p.length, .pointer (some ⟨t, 0, none⟩), .pointer none, .pointer none] 51 98
  have HF : Hid (Put1 W w ((w.alloc (.cells #[.int .u64 (hiOf (valOf W p)), .int .u64 (loOf (valOf W p)), .int .i64 p.length] 51)).alloc (.cells #[.int .u64 (hiOf (valOf W p)), .int .u64 (loOf (valOf W p)), .int .i64 p.length, .pointer (some ⟨t, 0, none⟩), .pointer none, .pointer none] 98)) p v [] (w.heap.size + 1)) := by
    have hb := HB.out.2.2.1
    refine ⟨⟨1, _, Root.hang (n := 0) (a0 := none) (a1 := none) (N0 := []) (N1 := []) (x := ⟨w.heap.size + 1, p, some (t, v)⟩) ⟨⟨HB.out.2.1, fun t' v' e => ?_, hp⟩, fun y hy => absurd hy (by simp), fun y hy => absurd hy (by simp), Hang.nil 0, Hang.nil 0⟩ (fun e => by cases e), rfl⟩, hb⟩
    cases e
    exact ht.below hb
  clear ht HB
  go_enter Try.func56, Try.ntmps56
  go_wp2
  go_ret
  exact ⟨_, rfl, HF.out⟩
theorem two_cells {w : World} {b : Nat} {c : Array Value} {t : TypeId} (h : Blk w b c t) {i : Nat} {v : Value} (hv : c[i]? = some v) : ∀ z : Grown w, (gw z).cell? ⟨b, i, none⟩ = some v := gw_cell (h.cell i hv)
set_option maxHeartbeats 2000000 in
theorem with_node {W : Nat} (h1 : 1 ≤ W) (h2 : W ≤ 128) {p : List Bool} (hp : p.length ≤ W) (q t : Nat) (v : Int) (w : World) (ht : Blk w t #[encV v] 3) (hq : w.cell? ⟨q, 0, none⟩ = some (.int .i64 W))
    {n : Nat} {x : Nd Int} {a0 a1 : Option Nat} {N0 N1 : List (Nd Int)} (hR : RootI W w n x a0 a1 N0 N1) (hx : x.key <+: p)
    (hf0 : x.key ++ [false] <+: p → x.th = none → N1 ≠ []) (hf1 : x.key ++ [true] <+: p → x.th = none → N0 ≠ [])
    (hC0 : x.key ++ [false] <+: p → ∀ V, Below w.heap.size w V → Calls Try.prog 56 #[.pointer (some ⟨q, 0, none⟩), pt a0, Pf (valOf W p) p.length, .pointer (some ⟨t, 0, none⟩)] V fun e w' => ∃ b, e = .returned (.pointer (some ⟨b, 0, none⟩)) ∧ Put1 W V w' p v (kept N0) b)
    (hC1 : x.key ++ [true] <+: p → ∀ V, Below w.heap.size w V → Calls Try.prog 56 #[.pointer (some ⟨q, 0, none⟩), pt a1, Pf (valOf W p) p.length, .pointer (some ⟨t, 0, none⟩)] V fun e w' => ∃ b, e = .returned (.pointer (some ⟨b, 0, none⟩)) ∧ Put1 W V w' p v (kept N1) b) :
    Calls Try.prog 56 #[.pointer (some ⟨q, 0, none⟩), .pointer (some ⟨x.blk, 0, none⟩), Pf (valOf W p) p.length, .pointer (some ⟨t, 0, none⟩)] w fun e w' => ∃ b, e = .returned (.pointer (some ⟨b, 0, none⟩)) ∧ Put1 W w w' p v (kept (x :: (N0 ++ N1))) b := by
  have HR : Hid (RootI W w n x a0 a1 N0 N1) := hR
  have HT : Hid (Blk w t #[encV v] 3) := ht
  have HX : Hid (x.key <+: p) := hx
  have H0 : Hid ((x.key ++ [false] <+: p → x.th = none → N1 ≠ []) ∧ (x.key ++ [true] <+: p → x.th = none → N0 ≠ [])) := ⟨hf0, hf1⟩
  have hl := hR.node.len
  have C72 : Hid (∀ w1, Calls Try.prog 72 #[Pf (valOf W x.key) x.key.length, Pf (valOf W p) p.length, .int .i64 W] w1 fun e w' => e = .returned (.int .i64 x.key.length) ∧ Below w1.heap.size w1 w') := fun w1 => by
    have := common_any h1 h2 hl hp w1
    rw [lcp_pre.2 hx] at this; exact this
  have HB : Hid _ := one_new w #[.int .u64 (hiOf (valOf W p)), .int .u64 (loOf (valOf W p)), .int .i64 p.length] 51
  have hlq : q < w.heap.size := World.block_lt_of_cell? w _ hq
  have HQ : Hid (w.cell? ⟨q, 0, none⟩ = some (.int .i64 W)) := hq
  have HE : Hid (x.key = p ↔ valOf W x.key = valOf W p ∧ x.key.length = p.length) := ⟨fun e => by rw [e]; exact ⟨rfl, rfl⟩, fun e => val_inj hl hp e.2 e.1⟩
  obtain ⟨A3, hA3⟩ : ∃ A : Option Addr, A = (x.th.map (·.1)).map fun b => ⟨b, 0, none⟩ := ⟨_, rfl⟩
  obtain ⟨A4, hA4⟩ : ∃ A : Option Addr, A = a0.map fun b => ⟨b, 0, none⟩ := ⟨_, rfl⟩
  obtain ⟨A5, hA5⟩ : ∃ A : Option Addr, A = a1.map fun b => ⟨b, 0, none⟩ := ⟨_, rfl⟩
  have HA : Hid (A3 = ((x.th.map (·.1)).map fun b => (⟨b, 0, none⟩ : Addr)) ∧ A4 = (a0.map fun b => (⟨b, 0, none⟩ : Addr)) ∧ A5 = (a1.map fun b => (⟨b, 0, none⟩ : Addr))) := ⟨hA3, hA4, hA5⟩
  have HD0 : Hid (x.key ++ [false] <+: p → ∀ V, Below w.heap.size w V → Calls Try.prog 56 #[.pointer (some ⟨q, 0, none⟩), .pointer A4, Pf (valOf W p) p.length, .pointer (some ⟨t, 0, none⟩)] V fun e w' => ∃ b, e = .returned (.pointer (some ⟨b, 0, none⟩)) ∧ Hid (Put1 W V w' p v (kept N0) b)) := by rw [hA4]; exact hC0
  have HD1 : Hid (x.key ++ [true] <+: p → ∀ V, Below w.heap.size w V → Calls Try.prog 56 #[.pointer (some ⟨q, 0, none⟩), .pointer A5, Pf (valOf W p) p.length, .pointer (some ⟨t, 0, none⟩)] V fun e w' => ∃ b, e = .returned (.pointer (some ⟨b, 0, none⟩)) ∧ Hid (Put1 W V w' p v (kept N1) b)) := by rw [hA5]; exact hC1
  have xb0 : Blk w x.blk #[.int .u64 (hiOf (valOf W x.key)), .int .u64 (loOf (valOf W x.key)), .int .i64 x.key.length, .pointer A3, .pointer A4, .pointer A5] 98 := by rw [hA3, hA4, hA5]; exact hR.node.cells
  have HXB : Hid (Blk w x.blk #[.int .u64 (hiOf (valOf W x.key)), .int .u64 (loOf (valOf W x.key)), .int .i64 x.key.length, .pointer A3, .pointer A4, .pointer A5] 98) := xb0
  have C69 : Hid (∀ i : Bool, x.key ++ [i] <+: p → ∀ w1, Calls Try.prog 69 #[B (valOf W p), .int .i64 W, .int .i64 x.key.length] w1 fun e w' => e = .returned (.int .i64 (if i then 1 else 0)) ∧ Below w1.heap.size w1 w') := fun i hi w1 => by
    have h := side_any h1 h2 hp x.key.length w1
    have hb : p[x.key.length]? = some i := by obtain ⟨s, rfl⟩ := hi; simp
    rw [sideN, hb] at h
    cases i <;> exact h
  clear ht hx hf0 hf1 hC0 hC1 hq hR hA3 hA4 hA5 xb0
  go_enter Try.func56, Try.ntmps56
  go_upto_region 3 with fail
  generalize (w.alloc _) = w0 at HB ⊢
  have hlx := HXB.out.lt
  have xb := HXB.out.below HB.out.2.1
  have x0 := two_cells xb (i := 0) (v := .int .u64 (hiOf (valOf W x.key))) rfl
  have x1 := two_cells xb (i := 1) (v := .int .u64 (loOf (valOf W x.key))) rfl
  have x2 := two_cells xb (i := 2) (v := .int .i64 x.key.length) rfl
  have x3 := two_cells xb (i := 3) (v := .pointer A3) rfl
  have x4 := two_cells xb (i := 4) (v := .pointer A4) rfl
  have x5 := two_cells xb (i := 5) (v := .pointer A5) rfl
  have y0 := two_cells HB.out.1 (i := 0) (v := .int .u64 (hiOf (valOf W p))) rfl
  have y1 := two_cells HB.out.1 (i := 1) (v := .int .u64 (loOf (valOf W p))) rfl
  have y2 := two_cells HB.out.1 (i := 2) (v := .int .i64 p.length) rfl
  have z0 : ∀ z : Grown w0, (gw z).cell? ⟨q, 0, none⟩ = some (.int .i64 W) := gw_cell ((World.cell?_of_block (HB.out.2.1.block q hlq)).trans HQ.out)
  clear xb
  refine region_grows (by kernel_rfl) (by kernel_rfl) ?_
  repeat (go_big_quiet_step ((go_at_call 72; exact calls_gw (C72.out _))))
  refine wpQuiet_nil ?_
  intro wq hwq
  obtain ⟨zq, rfl⟩ := hwq
  have t1 : decide ((x.key.length : Int) < (x.key.length : Int)) = false := by simp
  go_upto_region 9 with fail
  have HC : Hid (Blk ((gw zq).alloc (.cells #[.int .u64 (hiOf (valOf W x.key)), .int .u64 (loOf (valOf W x.key)), .int .i64 x.key.length, .pointer A3, .pointer A4, .pointer A5] 98)) (gw zq).heap.size #[.int .u64 (hiOf (valOf W x.key)), .int .u64 (loOf (valOf W x.key)), .int .i64 x.key.length, .pointer A3, .pointer A4, .pointer A5] 98 ∧ Below w0.heap.size w0 ((gw zq).alloc (.cells #[.int .u64 (hiOf (valOf W x.key)), .int .u64 (loOf (valOf W x.key)), .int .i64 x.key.length, .pointer A3, .pointer A4, .pointer A5] 98)) ∧ w0.heap.size ≤ (gw zq).heap.size) := ⟨Blk.new _ _ 98, bst (gw_below zq) ((Below.refl _ _).alloc (Nat.le_refl _) _), (gw_below zq).size⟩
  generalize ((gw zq).alloc _) = w2 at HC ⊢
  generalize (gw zq).heap.size = C at *
  have hz0 := HB.out.2.2
  have hzC := HC.out.2.2
  have lC := HC.out.1.lt
  have lw2 := HC.out.2.1.size
  clear x0 x1 x2 x3 x4 x5 y0 y1 y2 z0 t1
  have x0 : w2.cell? ⟨x.blk, 0, none⟩ = some (.int .u64 (hiOf (valOf W x.key))) := ((HXB.out.below HB.out.2.1).below HC.out.2.1).cell 0 rfl
  have x1 : w2.cell? ⟨x.blk, 1, none⟩ = some (.int .u64 (loOf (valOf W x.key))) := ((HXB.out.below HB.out.2.1).below HC.out.2.1).cell 1 rfl
  have x2 : w2.cell? ⟨x.blk, 2, none⟩ = some (.int .i64 x.key.length) := ((HXB.out.below HB.out.2.1).below HC.out.2.1).cell 2 rfl
  have y0 : w2.cell? ⟨w.heap.size, 0, none⟩ = some (.int .u64 (hiOf (valOf W p))) := (HB.out.1.below HC.out.2.1).cell 0 rfl
  have y1 : w2.cell? ⟨w.heap.size, 1, none⟩ = some (.int .u64 (loOf (valOf W p))) := (HB.out.1.below HC.out.2.1).cell 1 rfl
  have y2 : w2.cell? ⟨w.heap.size, 2, none⟩ = some (.int .i64 p.length) := (HB.out.1.below HC.out.2.1).cell 2 rfl
  have HbW : Hid (Below w.heap.size w w2) := bst HB.out.2.1 HC.out.2.1
  by_cases hk : x.key = p
  · obtain ⟨e1, e2⟩ := HE.out.1 hk
    have EQ : ∀ w, (binOp .eql 51 (Pf (valOf W x.key) x.key.length) (Pf (valOf W p) p.length)).run Try.prog w = .ok (.bool true) w := fun w => by
      rw [eq51, decide_eq_true e1, show ((x.key.length : Int) == (p.length : Int)) = true by rw [beq_iff_eq]; omega]; rfl
    have HK : Hid (x.key = p) := hk
    clear e1 e2 hk
    go_quiet (fail)
    rename_i nq
    have HC3 : Hid (Blk (w2.drewN nq) C #[.int .u64 (hiOf (valOf W x.key)), .int .u64 (loOf (valOf W x.key)), .int .i64 x.key.length, .pointer A3, .pointer A4, .pointer A5] 98 ∧ Below w.heap.size w (w2.drewN nq)) := ⟨HC.out.1, below_drewN HbW.out nq⟩
    generalize w2.drewN nq = w3 at HC3 ⊢
    have c3 := HC3.out.1.cell 3 (v := .pointer A3) rfl
    have f3 := HC3.out.1.frozen 3
    have HF : Hid (Put1 W w (w3.setCell ⟨C, 3, none⟩ (.pointer (some ⟨t, 0, none⟩))) p v (kept (x :: (N0 ++ N1))) C) := by
      have g2 := HC3.out.1.set 3 (.pointer (some ⟨t, 0, none⟩))
      have g3 : Below w.heap.size w (w3.setCell ⟨C, 3, none⟩ (.pointer (some ⟨t, 0, none⟩))) := HC3.out.2.setCell (by show _ ≤ C; omega) _
      have e := HK.out
      subst e
      refine HR.out.putOwn (t := t) g3 ?_ HT.out
      obtain ⟨a3, a4, a5⟩ := HA.out
      rw [a4, a5] at g2
      exact g2
    go_wp2
    go_ret
    exact ⟨_, rfl, HF.out⟩
  · have EQ : ∀ w, (binOp .eql 51 (Pf (valOf W x.key) x.key.length) (Pf (valOf W p) p.length)).run Try.prog w = .ok (.bool false) w := fun w => by
      rw [eq51]
      have : ¬ (valOf W x.key = valOf W p ∧ x.key.length = p.length) := fun e => hk (HE.out.2 e)
      by_cases e1 : valOf W x.key = valOf W p
      · have e2 : ((x.key.length : Int) == (p.length : Int)) = false := by rw [beq_eq_false_iff_ne]; intro e; exact this ⟨e1, by omega⟩
        rw [e2, Bool.and_false]
      · rw [decide_eq_false e1, Bool.false_and]
    obtain ⟨i, hi, _⟩ := pre_next HX.out hk
    clear hk
    go_quiet (fail)
    rename_i nq
    have HC3 : Hid (Blk (w2.drewN nq) C #[.int .u64 (hiOf (valOf W x.key)), .int .u64 (loOf (valOf W x.key)), .int .i64 x.key.length, .pointer A3, .pointer A4, .pointer A5] 98 ∧ Below w2.heap.size w2 (w2.drewN nq)) := ⟨HC.out.1, below_drewN (Below.refl _ _) nq⟩
    generalize w2.drewN nq = w3 at HC3 ⊢
    clear x0 x1 x2 y0 y1 y2
    have C69i : Hid (∀ w1, Calls Try.prog 69 #[B (valOf W p), .int .i64 W, .int .i64 x.key.length] w1 fun e w' => e = .returned (.int .i64 (if i then 1 else 0)) ∧ Below w1.heap.size w1 w') := C69.out i hi
    have HI : Hid (x.key ++ [i] <+: p) := hi
    clear C69 hi
    have hbz : Hid (Below w.heap.size w w3) := bst HbW.out HC3.out.2
    have xb3 : Blk w3 x.blk _ 98 := HXB.out.below hbz.out
    have x0 := two_cells xb3 (i := 0) (v := .int .u64 (hiOf (valOf W x.key))) rfl
    have x1 := two_cells xb3 (i := 1) (v := .int .u64 (loOf (valOf W x.key))) rfl
    have x2 := two_cells xb3 (i := 2) (v := .int .i64 x.key.length) rfl
    have yb3 : Blk w3 w.heap.size _ 51 := (HB.out.1.below HC.out.2.1).below HC3.out.2
    have y0 := two_cells yb3 (i := 0) (v := .int .u64 (hiOf (valOf W p))) rfl
    have y1 := two_cells yb3 (i := 1) (v := .int .u64 (loOf (valOf W p))) rfl
    have z0 : ∀ z : Grown w3, (gw z).cell? ⟨q, 0, none⟩ = some (.int .i64 W) := gw_cell ((World.cell?_of_block (hbz.out.block q hlq)).trans HQ.out)
    clear xb3 yb3
    go_upto_region 12 with fail
    refine region_grows (by kernel_rfl) (by kernel_rfl) ?_
    repeat (go_big_quiet_step ((go_at_call 69; exact calls_gw (C69i.out _))))
    refine wpQuiet_nil ?_
    intro wq hwq
    obtain ⟨zq2, rfl⟩ := hwq
    have HC4 : Hid (Blk (gw zq2) C #[.int .u64 (hiOf (valOf W x.key)), .int .u64 (loOf (valOf W x.key)), .int .i64 x.key.length, .pointer A3, .pointer A4, .pointer A5] 98 ∧ Below w.heap.size w (gw zq2)) := ⟨HC3.out.1.below (gw_below zq2), bst hbz.out (gw_below zq2)⟩
    have x0' := x0 zq2
    have yc : Blk (gw zq2) w.heap.size #[.int .u64 (hiOf (valOf W p)), .int .u64 (loOf (valOf W p)), .int .i64 p.length] 51 := ((HB.out.1.below HC.out.2.1).below HC3.out.2).below (gw_below zq2)
    have HY : Hid (Blk (gw zq2) w.heap.size #[.int .u64 (hiOf (valOf W p)), .int .u64 (loOf (valOf W p)), .int .i64 p.length] 51) := yc
    clear x0 x1 x2 y0 y1 z0 x0' yc HC3 C69i
    generalize gw zq2 = w5 at *
    have c4 := HC4.out.1.cell 4 (v := .pointer A4) rfl
    have c5 := HC4.out.1.cell 5 (v := .pointer A5) rfl
    have f4 := HC4.out.1.frozen 4
    have f5 := HC4.out.1.frozen 5
    have xb5 : Blk w5 x.blk _ 98 := HXB.out.below HC4.out.2
    have x4 := xb5.cell 4 (v := .pointer A4) rfl
    have x5 := xb5.cell 5 (v := .pointer A5) rfl
    have y0 := HY.out.cell 0 (v := .int .u64 (hiOf (valOf W p))) rfl
    have y1 := HY.out.cell 1 (v := .int .u64 (loOf (valOf W p))) rfl
    have y2 := HY.out.cell 2 (v := .int .i64 p.length) rfl
    have HZ := HC4.out.2.size
    clear xb5 HY
    cases i with
    | false =>
      have CC : Hid (∀ V, Below w5.heap.size w5 V → Calls Try.prog 56 #[.pointer (some ⟨q, 0, none⟩), .pointer A4, Pf (valOf W p) p.length, .pointer (some ⟨t, 0, none⟩)] V fun e w' => ∃ b, e = .returned (.pointer (some ⟨b, 0, none⟩)) ∧ w'.cell? ⟨C, 4, none⟩ = some (.pointer A4) ∧ w'.frozen? ⟨C, 4, none⟩ = false ∧ Hid (Put1 W w (w'.setCell ⟨C, 4, none⟩ (.pointer (some ⟨b, 0, none⟩))) p v (kept (x :: (N0 ++ N1))) C)) := fun V hV => (HD0.out HI.out V (bst HC4.out.2 hV)).mono (by
        rintro e w' ⟨b, rfl, hP⟩
        obtain ⟨⟨m, M, hM, hk⟩, hb⟩ := hP.out
        have g1 : Blk w' C _ 98 := (HC4.out.1.below hV).below hb
        have g2 := g1.set 4 (.pointer (some ⟨b, 0, none⟩))
        have hpre : ∀ y ∈ kept M, x.key ++ [false] <+: y.1 := by rw [hk]; exact upd_pre HR.out.h0.srt HI.out fun y hy => HR.out.lt0 hy
        have hoff := hM.off_key (by decide) hpre HR.out.node.len g1
        have hks : Kept (fun k => k = C) w' (w'.setCell ⟨C, 4, none⟩ (.pointer (some ⟨b, 0, none⟩))) := (Kept.refl (fun k => k = C) w').set (p := ⟨C, 4, none⟩) rfl _
        have hbw : Below w.heap.size w (w'.setCell ⟨C, 4, none⟩ (.pointer (some ⟨b, 0, none⟩))) := (bst (bst HC4.out.2 hV) hb).setCell (by show _ ≤ C; omega) _
        obtain ⟨a3, a4, a5⟩ := HA.out
        have g3 : Blk (w'.setCell ⟨C, 4, none⟩ (.pointer (some ⟨b, 0, none⟩))) C (nodeC W x (some b) a1) 98 := by rw [a3, a5] at g2; exact g2
        exact ⟨b, rfl, g1.cell 4 rfl, g1.frozen 4, HR.out.put0 HC4.out.2 HI.out (H0.out.1 HI.out) ⟨m, M, hM.keptW hks hoff, hk⟩ hbw g3⟩)
      clear HD0 HD1
      go_upto_region 13 with fail
      go_region_with ((go_at_call 56; refine (CC.out _ (by exact ⟨rfl, rfl, rfl, Nat.le_refl _, fun _ _ => rfl⟩)).mono ?_; rintro e w7 ⟨b, rfl, d4, e4, H7⟩))
      all_goals
        go_wp2
        go_ret
        exact ⟨_, rfl, H7.out⟩
    | true =>
      have CC : Hid (∀ V, Below w5.heap.size w5 V → Calls Try.prog 56 #[.pointer (some ⟨q, 0, none⟩), .pointer A5, Pf (valOf W p) p.length, .pointer (some ⟨t, 0, none⟩)] V fun e w' => ∃ b, e = .returned (.pointer (some ⟨b, 0, none⟩)) ∧ w'.cell? ⟨C, 5, none⟩ = some (.pointer A5) ∧ w'.frozen? ⟨C, 5, none⟩ = false ∧ Hid (Put1 W w (w'.setCell ⟨C, 5, none⟩ (.pointer (some ⟨b, 0, none⟩))) p v (kept (x :: (N0 ++ N1))) C)) := fun V hV => (HD1.out HI.out V (bst HC4.out.2 hV)).mono (by
        rintro e w' ⟨b, rfl, hP⟩
        obtain ⟨⟨m, M, hM, hk⟩, hb⟩ := hP.out
        have g1 : Blk w' C _ 98 := (HC4.out.1.below hV).below hb
        have g2 := g1.set 5 (.pointer (some ⟨b, 0, none⟩))
        have hpre : ∀ y ∈ kept M, x.key ++ [true] <+: y.1 := by rw [hk]; exact upd_pre HR.out.h1.srt HI.out fun y hy => HR.out.lt1 hy
        have hoff := hM.off_key (by decide) hpre HR.out.node.len g1
        have hks : Kept (fun k => k = C) w' (w'.setCell ⟨C, 5, none⟩ (.pointer (some ⟨b, 0, none⟩))) := (Kept.refl (fun k => k = C) w').set (p := ⟨C, 5, none⟩) rfl _
        have hbw : Below w.heap.size w (w'.setCell ⟨C, 5, none⟩ (.pointer (some ⟨b, 0, none⟩))) := (bst (bst HC4.out.2 hV) hb).setCell (by show _ ≤ C; omega) _
        obtain ⟨a3, a4, a5⟩ := HA.out
        have g3 : Blk (w'.setCell ⟨C, 5, none⟩ (.pointer (some ⟨b, 0, none⟩))) C (nodeC W x a0 (some b)) 98 := by rw [a3, a4] at g2; exact g2
        exact ⟨b, rfl, g1.cell 5 rfl, g1.frozen 5, HR.out.put1 HC4.out.2 HI.out (H0.out.2 HI.out) ⟨m, M, hM.keptW hks hoff, hk⟩ hbw g3⟩)
      clear HD0 HD1
      go_upto_region 13 with fail
      go_region_with ((go_at_call 56; refine (CC.out _ (by exact ⟨rfl, rfl, rfl, Nat.le_refl _, fun _ _ => rfl⟩)).mono ?_; rintro e w7 ⟨b, rfl, d5, e5, H7⟩))
      all_goals
        go_wp2
        go_ret
        exact ⟨_, rfl, H7.out⟩
end Go.Proofs.Ytgdpplipahhffaa
