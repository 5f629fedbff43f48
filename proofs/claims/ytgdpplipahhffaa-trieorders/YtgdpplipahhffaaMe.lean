/- Package trie: met, Find. -/
import Derived.Test.YtgdpplipahhffaaOb
namespace Go.Proofs.Ytgdpplipahhffaa
open Go.RowKit
set_option linter.unusedVariables false
set_option linter.unusedSimpArgs false

section
variable {V : Type}
def lastT (l : List (Nd V)) : Option (Nd V) := (l.filter fun x => x.th.isSome).getLast?
theorem lastT_snoc (pre : List (Nd V)) (x : Nd V) : lastT (pre ++ [x]) = if x.th.isSome = true then some x else lastT pre := by
  unfold lastT
  rw [List.filter_append]
  by_cases h : x.th.isSome = true
  · rw [if_pos h, List.filter_cons, if_pos h]; simp
  · rw [if_neg h, List.filter_cons, if_neg h]; simp
theorem lastT_kept : ∀ (l : List (Nd V)), (kept l).getLast? = (lastT l).bind fun x => x.th.map fun t => (x.key, t.2)
  | [] => rfl
  | x :: l => by
    have ih := lastT_kept l
    have e : lastT (x :: l) = (lastT l).or (lastT [x]) := by
      unfold lastT
      rw [show x :: l = [x] ++ l from rfl, List.filter_append, List.getLast?_append]
    rw [kept, List.getLast?_append, ih, e]
    have e1 : (ownK x).getLast? = (lastT [x]).bind fun x => x.th.map fun t => (x.key, t.2) := by
      unfold ownK lastT
      cases h : x.th with
      | none => simp [h]
      | some t => simp [h]
    rw [e1]
    cases h : lastT l with
    | none => simp
    | some y =>
      have hy : ∃ t, y.th = some t := by
        have := List.mem_of_getLast? h
        rw [List.mem_filter] at this
        exact Option.isSome_iff_exists.1 this.2
      obtain ⟨t, ht⟩ := hy
      simp [ht]
theorem lastT_mem {l : List (Nd V)} {x : Nd V} (h : lastT l = some x) : x ∈ l ∧ ∃ t, x.th = some t := by
  have := List.mem_of_getLast? h
  rw [List.mem_filter] at this
  exact ⟨this.1, Option.isSome_iff_exists.1 this.2⟩
end
/-- What Find answers. -/
def findV (W : Nat) : Option (List Bool × Int) → Value
  | none => .tuple #[Pf 0 0, .int .i64 0, .bool false]
  | some y => .tuple #[Pf (valOf W y.1) y.1.length, .int .i64 y.2, .bool true]
theorem fits_bits {v W : Nat} (h : fitsN v W = true) : v = valOf W (bitsOf W v) := by
  unfold fitsN at h
  simp only [Bool.and_eq_true, decide_eq_true_eq, Int.toNat_natCast] at h
  exact (val_bits h.2).symm
theorem met_no {W : Nat} (q v : Nat) (hv : Is128 v) (hF : fitsN v W = false) (w : World) (hq : w.cell? ⟨q, 0, none⟩ = some (.int .i64 W)) :
    Calls Try.prog 57 #[.pointer (some ⟨q, 0, none⟩), B v] w fun e w' => e = .returned (.func (.func 74) #[] #[]) ∧ Below w.heap.size w w' := by
  have C : Hid (∀ w1, Calls Try.prog 73 #[B v, .int .i64 W] w1 fun e w' => e = .returned (.bool false) ∧ Below w1.heap.size w1 w') := fun w1 => by
    rw [← hF]; exact fits_any v hv W w1
  have HB : Hid _ := one_new w #[.int .u64 (hiOf v), .int .u64 (loOf v)] 33
  have hlq : q < w.heap.size := World.block_lt_of_cell? w _ hq
  have HQ : Hid (w.cell? ⟨q, 0, none⟩ = some (.int .i64 W)) := hq
  clear hF hq
  go_enter Try.func57, Try.ntmps57
  go_upto_region 1 with fail
  generalize (w.alloc _) = w0 at HB ⊢
  have lA := HB.out.2.2
  have x0 := two_cells HB.out.1 (i := 0) (v := .int .u64 (hiOf v)) rfl
  have x1 := two_cells HB.out.1 (i := 1) (v := .int .u64 (loOf v)) rfl
  have z0 : ∀ z : Grown w0, (gw z).cell? ⟨q, 0, none⟩ = some (.int .i64 W) := gw_cell ((World.cell?_of_block (HB.out.2.1.block q hlq)).trans HQ.out)
  refine region_grows (by kernel_rfl) (by kernel_rfl) ?_
  repeat (go_big_quiet_step ((go_at_call 73; exact calls_gw (C.out _))))
  refine wpQuiet_nil ?_
  intro wq hwq
  obtain ⟨zq, rfl⟩ := hwq
  have HF : Hid (Below w.heap.size w (gw zq)) := bst HB.out.2.1 (gw_below zq)
  clear x0 x1 z0 HB C
  go_wp2
  go_ret
  exact ⟨rfl, HF.out⟩
theorem met_yes {W : Nat} (q v : Nat) (hv : Is128 v) (hF : fitsN v W = true) (w : World) (hq : w.cell? ⟨q, 0, none⟩ = some (.int .i64 W)) :
    Calls Try.prog 57 #[.pointer (some ⟨q, 0, none⟩), B v] w fun e w' => ∃ D, e = .returned (.func (.func 85) #[] #[.pointer (some ⟨D, 0, none⟩), .pointer (some ⟨D + 1, 0, none⟩)]) ∧ Hid (Blk w' D #[.pointer (some ⟨q, 0, none⟩)] 24 ∧ Blk w' (D + 1) #[.int .u64 (hiOf v), .int .u64 (loOf v), .int .i64 W] 51 ∧ Below w.heap.size w w' ∧ w.heap.size ≤ D) := by
  have C : Hid (∀ w1, Calls Try.prog 73 #[B v, .int .i64 W] w1 fun e w' => e = .returned (.bool true) ∧ Below w1.heap.size w1 w') := fun w1 => by
    rw [← hF]; exact fits_any v hv W w1
  have C71 : Hid (∀ w1, Calls Try.prog 71 #[.pointer (some ⟨q, 0, none⟩), .agg #[.int .u64 (hiOf v), .int .u64 (loOf v), .int .i64 W]] w1 fun e w' => e = .returned (.func (.func 85) #[] #[.pointer (some ⟨w1.heap.size, 0, none⟩), .pointer (some ⟨w1.heap.size + 1, 0, none⟩)]) ∧ Hid (Blk w' w1.heap.size #[.pointer (some ⟨q, 0, none⟩)] 24 ∧ Blk w' (w1.heap.size + 1) #[.int .u64 (hiOf v), .int .u64 (loOf v), .int .i64 W] 51 ∧ Below w1.heap.size w1 w')) := fun w1 => by
    have := way_any ⟨q, 0, none⟩ (bitsOf W v) W w1
    rw [← fits_bits hF, bits_len] at this
    exact this
  have HB : Hid _ := one_new w #[.int .u64 (hiOf v), .int .u64 (loOf v)] 33
  have hlq : q < w.heap.size := World.block_lt_of_cell? w _ hq
  have HQ : Hid (w.cell? ⟨q, 0, none⟩ = some (.int .i64 W)) := hq
  clear hF hq
  go_enter Try.func57, Try.ntmps57
  go_upto_region 1 with fail
  generalize (w.alloc _) = w0 at HB ⊢
  have lA := HB.out.2.2
  have x0 := two_cells HB.out.1 (i := 0) (v := .int .u64 (hiOf v)) rfl
  have x1 := two_cells HB.out.1 (i := 1) (v := .int .u64 (loOf v)) rfl
  have z0 : ∀ z : Grown w0, (gw z).cell? ⟨q, 0, none⟩ = some (.int .i64 W) := gw_cell ((World.cell?_of_block (HB.out.2.1.block q hlq)).trans HQ.out)
  refine region_grows (by kernel_rfl) (by kernel_rfl) ?_
  repeat (go_big_quiet_step ((go_at_call 73; exact calls_gw (C.out _))))
  refine wpQuiet_nil ?_
  intro wq hwq
  obtain ⟨zq, rfl⟩ := hwq
  have HF : Hid (Below w.heap.size w (gw zq) ∧ Blk (gw zq) w.heap.size #[.int .u64 (hiOf v), .int .u64 (loOf v)] 33) := ⟨bst HB.out.2.1 (gw_below zq), HB.out.1.below (gw_below zq)⟩
  clear x0 x1 z0 HB C
  generalize gw zq = w2 at *
  have y0 := HF.out.2.cell 0 (v := .int .u64 (hiOf v)) rfl
  have y1 := HF.out.2.cell 1 (v := .int .u64 (loOf v)) rfl
  have q0 : w2.cell? ⟨q, 0, none⟩ = some (.int .i64 W) := (World.cell?_of_block (HF.out.1.block q hlq)).trans HQ.out
  have C' : Hid (∀ V, Below w2.heap.size w2 V → Calls Try.prog 71 #[.pointer (some ⟨q, 0, none⟩), .agg #[.int .u64 (hiOf v), .int .u64 (loOf v), .int .i64 W]] V fun e w' => ∃ D, e = .returned (.func (.func 85) #[] #[.pointer (some ⟨D, 0, none⟩), .pointer (some ⟨D + 1, 0, none⟩)]) ∧ Hid (Blk w' D #[.pointer (some ⟨q, 0, none⟩)] 24 ∧ Blk w' (D + 1) #[.int .u64 (hiOf v), .int .u64 (loOf v), .int .i64 W] 51 ∧ Below w.heap.size w w' ∧ w.heap.size ≤ D)) := fun V hV => (C71.out V).mono (by
    rintro e w' ⟨rfl, H⟩
    have hb := bst HF.out.1 hV
    exact ⟨_, rfl, H.out.1, H.out.2.1, bst hb H.out.2.2, hb.size⟩)
  clear C71
  go_upto_region 3 with fail
  go_region_with ((go_at_call 71; refine (C'.out _ (by exact ⟨rfl, rfl, rfl, Nat.le_refl _, fun _ _ => rfl⟩)).mono ?_; rintro e w5 ⟨D, rfl, H5⟩))
  all_goals (
    clear C' HF y0 y1 q0
    go_wp2
    go_ret
    exact ⟨_, rfl, H5⟩)
theorem met1_tells {α : Type} (encs : α → Array Value) (w : World) (S : Nat → Prop) : Tells Try.prog 74 #[] encs [] S w := by
  intro n l J Jx W hW hl hJ hJx hY h0
  have H0 : Hid (J [] W) := h0
  clear hW hY h0 hJ hJx
  refine callsIn_of_wp Try.func74 rfl trivial ?_ rfl
  simp only [Try.ntmps74, List.size_toArray, List.length_cons, List.length_nil, Nat.reduceAdd, Nat.reduceSub, Array.replicate_succ, Array.replicate_zero, List.push_toArray, List.append_toArray, List.nil_append, List.cons_append]
  gi_wp2_with fail
  go_end0
  exact ⟨⟨_, rfl⟩, .inl H0.out⟩
end Go.Proofs.Ytgdpplipahhffaa
