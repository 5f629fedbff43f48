/- Package trie: met, Find. Package trie: Find. -/
import Derived.Test.YtgdpplipahhffaaGf
namespace Go.Proofs.Ytgdpplipahhffaa
open Go.RowKit
set_option linter.unusedVariables false
set_option linter.unusedSimpArgs false

section
variable {V : Type}
def lastT (l : List (Nd V)) : Option (Nd V) := (l.filter fun x => x.th.isSome).getLast?
theorem lastT_snoc (pre : List (Nd V)) (x : Nd V) : lastT (pre ++ [x]) = if x.th.isSome = true then some x else lastT pre := by
  unfold lastT
  rw [List.filter_append]
  by_cases h : x.th.isSome = true
  · rw [if_pos h, List.filter_cons, if_pos h]; simp
  · rw [if_neg h, List.filter_cons, if_neg h]; simp
theorem lastT_kept : ∀ (l : List (Nd V)), (kept l).getLast? = (lastT l).bind fun x => x.th.map fun t => (x.key, t.2)
  | [] => rfl
  | x :: l => by
    have ih := lastT_kept l
    have e : lastT (x :: l) = (lastT l).or (lastT [x]) := by
      unfold lastT
      rw [show x :: l = [x] ++ l from rfl, List.filter_append, List.getLast?_append]
    rw [kept, List.getLast?_append, ih, e]
    have e1 : (ownK x).getLast? = (lastT [x]).bind fun x => x.th.map fun t => (x.key, t.2) := by
      unfold ownK lastT
      cases h : x.th with
      | none => simp [h]
      | some t => simp [h]
    rw [e1]
    cases h : lastT l with
    | none => simp
    | some y =>
      have hy : ∃ t, y.th = some t := by
        have := List.mem_of_getLast? h
        rw [List.mem_filter] at this
        exact Option.isSome_iff_exists.1 this.2
      obtain ⟨t, ht⟩ := hy
      simp [ht]
theorem lastT_mem {l : List (Nd V)} {x : Nd V} (h : lastT l = some x) : x ∈ l ∧ ∃ t, x.th = some t := by
  have := List.mem_of_getLast? h
  rw [List.mem_filter] at this
  exact ⟨this.1, Option.isSome_iff_exists.1 this.2⟩
end
/-- What Find answers. -/
def findV (W : Nat) : Option (List Bool × Int) → Value
  | none => .tuple #[Pf 0 0, .int .i64 0, .bool false]
  | some y => .tuple #[Pf (valOf W y.1) y.1.length, .int .i64 y.2, .bool true]
theorem fits_bits {v W : Nat} (h : fitsN v W = true) : v = valOf W (bitsOf W v) := by
  unfold fitsN at h
  simp only [Bool.and_eq_true, decide_eq_true_eq, Int.toNat_natCast] at h
  exact (val_bits h.2).symm
theorem met_no {W : Nat} (q v : Nat) (hv : Is128 v) (hF : fitsN v W = false) (w : World) (hq : w.cell? ⟨q, 0, none⟩ = some (.int .i64 W)) :
    Calls Try.prog 57 #[.pointer (some ⟨q, 0, none⟩), B v] w fun e w' => e = .returned (.func (.func 74) #[] #[]) ∧ Below w.heap.size w w' := by
  have C : Hid (∀ w1, Calls Try.prog 73 #[B v, .int .i64 W] w1 fun e w' => e = .returned (.bool false) ∧ Below w1.heap.size w1 w') := fun w1 => by
    rw [← hF]; exact fits_any v hv W w1
  have HB : Hid _ := one_new w #[.int .u64 (hiOf v), .int .u64 (loOf v)] 33
  have hlq : q < w.heap.size := World.block_lt_of_cell? w _ hq
  have HQ : Hid (w.cell? ⟨q, 0, none⟩ = some (.int .i64 W)) := hq
  clear hF hq
  go_enter Try.func57, Try.ntmps57
  go_upto_region 1 with fail
  generalize (w.alloc _) = w0 at HB ⊢
  have lA := HB.out.2.2
  have x0 := two_cells HB.out.1 (i := 0) (v := .int .u64 (hiOf v)) rfl
  have x1 := two_cells HB.out.1 (i := 1) (v := .int .u64 (loOf v)) rfl
  have z0 : ∀ z : Grown w0, (gw z).cell? ⟨q, 0, none⟩ = some (.int .i64 W) := gw_cell ((World.cell?_of_block (HB.out.2.1.block q hlq)).trans HQ.out)
  refine region_grows (by kernel_rfl) (by kernel_rfl) ?_
  repeat (go_big_quiet_step ((go_at_call 73; exact calls_gw (C.out _))))
  refine wpQuiet_nil ?_
  intro wq hwq
  obtain ⟨zq, rfl⟩ := hwq
  have HF : Hid (Below w.heap.size w (gw zq)) := bst HB.out.2.1 (gw_below zq)
  clear x0 x1 z0 HB C
  go_wp2
  go_ret
  exact ⟨rfl, HF.out⟩
theorem met_yes {W : Nat} (q v : Nat) (hv : Is128 v) (hF : fitsN v W = true) (w : World) (hq : w.cell? ⟨q, 0, none⟩ = some (.int .i64 W)) :
    Calls Try.prog 57 #[.pointer (some ⟨q, 0, none⟩), B v] w fun e w' => ∃ D, e = .returned (.func (.func 85) #[] #[.pointer (some ⟨D, 0, none⟩), .pointer (some ⟨D + 1, 0, none⟩)]) ∧ Hid (Blk w' D #[.pointer (some ⟨q, 0, none⟩)] 24 ∧ Blk w' (D + 1) #[.int .u64 (hiOf v), .int .u64 (loOf v), .int .i64 W] 51 ∧ Below w.heap.size w w' ∧ w.heap.size ≤ D) := by
  have C : Hid (∀ w1, Calls Try.prog 73 #[B v, .int .i64 W] w1 fun e w' => e = .returned (.bool true) ∧ Below w1.heap.size w1 w') := fun w1 => by
    rw [← hF]; exact fits_any v hv W w1
  have C71 : Hid (∀ w1, Calls Try.prog 71 #[.pointer (some ⟨q, 0, none⟩), .agg #[.int .u64 (hiOf v), .int .u64 (loOf v), .int .i64 W]] w1 fun e w' => e = .returned (.func (.func 85) #[] #[.pointer (some ⟨w1.heap.size, 0, none⟩), .pointer (some ⟨w1.heap.size + 1, 0, none⟩)]) ∧ Hid (Blk w' w1.heap.size #[.pointer (some ⟨q, 0, none⟩)] 24 ∧ Blk w' (w1.heap.size + 1) #[.int .u64 (hiOf v), .int .u64 (loOf v), .int .i64 W] 51 ∧ Below w1.heap.size w1 w')) := fun w1 => by
    have := way_any ⟨q, 0, none⟩ (bitsOf W v) W w1
    rw [← fits_bits hF, bits_len] at this
    exact this
  have HB : Hid _ := one_new w #[.int .u64 (hiOf v), .int .u64 (loOf v)] 33
  have hlq : q < w.heap.size := World.block_lt_of_cell? w _ hq
  have HQ : Hid (w.cell? ⟨q, 0, none⟩ = some (.int .i64 W)) := hq
  clear hF hq
  go_enter Try.func57, Try.ntmps57
  go_upto_region 1 with fail
  generalize (w.alloc _) = w0 at HB ⊢
  have lA := HB.out.2.2
  have x0 := two_cells HB.out.1 (i := 0) (v := .int .u64 (hiOf v)) rfl
  have x1 := two_cells HB.out.1 (i := 1) (v := .int .u64 (loOf v)) rfl
  have z0 : ∀ z : Grown w0, (gw z).cell? ⟨q, 0, none⟩ = some (.int .i64 W) := gw_cell ((World.cell?_of_block (HB.out.2.1.block q hlq)).trans HQ.out)
  refine region_grows (by kernel_rfl) (by kernel_rfl) ?_
  repeat (go_big_quiet_step ((go_at_call 73; exact calls_gw (C.out _))))
  refine wpQuiet_nil ?_
  intro wq hwq
  obtain ⟨zq, rfl⟩ := hwq
  have HF : Hid (Below w.heap.size w (gw zq) ∧ Blk (gw zq) w.heap.size #[.int .u64 (hiOf v), .int .u64 (loOf v)] 33) := ⟨bst HB.out.2.1 (gw_below zq), HB.out.1.below (gw_below zq)⟩
  clear x0 x1 z0 HB C
  generalize gw zq = w2 at *
  have y0 := HF.out.2.cell 0 (v := .int .u64 (hiOf v)) rfl
  have y1 := HF.out.2.cell 1 (v := .int .u64 (loOf v)) rfl
  have q0 : w2.cell? ⟨q, 0, none⟩ = some (.int .i64 W) := (World.cell?_of_block (HF.out.1.block q hlq)).trans HQ.out
  have C' : Hid (∀ V, Below w2.heap.size w2 V → Calls Try.prog 71 #[.pointer (some ⟨q, 0, none⟩), .agg #[.int .u64 (hiOf v), .int .u64 (loOf v), .int .i64 W]] V fun e w' => ∃ D, e = .returned (.func (.func 85) #[] #[.pointer (some ⟨D, 0, none⟩), .pointer (some ⟨D + 1, 0, none⟩)]) ∧ Hid (Blk w' D #[.pointer (some ⟨q, 0, none⟩)] 24 ∧ Blk w' (D + 1) #[.int .u64 (hiOf v), .int .u64 (loOf v), .int .i64 W] 51 ∧ Below w.heap.size w w' ∧ w.heap.size ≤ D)) := fun V hV => (C71.out V).mono (by
    rintro e w' ⟨rfl, H⟩
    have hb := bst HF.out.1 hV
    exact ⟨_, rfl, H.out.1, H.out.2.1, bst hb H.out.2.2, hb.size⟩)
  clear C71
  go_upto_region 3 with fail
  go_region_with ((go_at_call 71; refine (C'.out _ (by exact ⟨rfl, rfl, rfl, Nat.le_refl _, fun _ _ => rfl⟩)).mono ?_; rintro e w5 ⟨D, rfl, H5⟩))
  all_goals (
    clear C' HF y0 y1 q0
    go_wp2
    go_ret
    exact ⟨_, rfl, H5⟩)
theorem met1_tells {α : Type} (encs : α → Array Value) (w : World) (S : Nat → Prop) : Tells Try.prog 74 #[] encs [] S w := by
  intro n l J Jx W hW hl hJ hJx hY h0
  have H0 : Hid (J [] W) := h0
  clear hW hY h0 hJ hJx
  refine callsIn_of_wp Try.func74 rfl trivial ?_ rfl
  simp only [Try.ntmps74, List.size_toArray, List.length_cons, List.length_nil, Nat.reduceAdd, Nat.reduceSub, Array.replicate_succ, Array.replicate_zero, List.push_toArray, List.append_toArray, List.nil_append, List.cons_append]
  gi_wp2_with fail
  go_end0
  exact ⟨⟨_, rfl⟩, .inl H0.out⟩
end Go.Proofs.Ytgdpplipahhffaa
namespace Go.Proofs.Ytgdpplipahhffaa
open Go.RowKit
set_option linter.unusedVariables false
set_option linter.unusedSimpArgs false

theorem three_new (w : World) (a b c : Array Value) (t u v : TypeId) : Hid (Blk (((w.alloc (.cells a t)).alloc (.cells b u)).alloc (.cells c v)) w.heap.size a t ∧ Blk (((w.alloc (.cells a t)).alloc (.cells b u)).alloc (.cells c v)) (w.heap.size + 1) b u ∧ Blk (((w.alloc (.cells a t)).alloc (.cells b u)).alloc (.cells c v)) (w.heap.size + 1 + 1) c v ∧ Below w.heap.size w (((w.alloc (.cells a t)).alloc (.cells b u)).alloc (.cells c v)) ∧ w.heap.size + 1 + 1 < (((w.alloc (.cells a t)).alloc (.cells b u)).alloc (.cells c v)).heap.size) := by
  obtain ⟨g1, g2, g3, g4⟩ := two_new w a b t u
  have s1 := World.size_alloc w (.cells a t)
  have s2 := World.size_alloc (w.alloc (.cells a t)) (.cells b u)
  have s3 := World.size_alloc ((w.alloc (.cells a t)).alloc (.cells b u)) (.cells c v)
  have k : ∀ (w : World) o, Below w.heap.size w (w.alloc o) := fun w o => (Below.refl _ _).alloc (Nat.le_refl _) _
  have h3 := Blk.new ((w.alloc (.cells a t)).alloc (.cells b u)) c v
  rw [s2, s1] at h3
  exact ⟨g1.below (k _ _), g2.below (k _ _), h3, bst g3 (k _ _), by omega⟩
abbrev ndP (o : Option (Nd Int)) : Value := .pointer (o.map fun x => ⟨x.blk, 0, none⟩)
/-- The post of a piece of code that neither panics nor leaves. -/
abbrev nrm (Q : Exit → Act → World → Prop) : Exit → Act → World → Prop := fun e a w => match e with
  | .normal => Q .normal a w
  | _ => False
theorem of_nrm {F : Fence} {n : Nat} {P : Program} {c : Code} {Q : Exit → Act → World → Prop} {a : Act} {w : World} (h : c.wpIn F n P (nrm Q) a w) : c.wpIn F n P Q a w :=
  wpIn_mono h fun e a w hq => by cases e <;> first | exact hq | exact hq.elim
attribute [local go_sem] Oper.semAt_some
set_option maxHeartbeats 4000000 in
set_option maxRecDepth 100000 in
theorem find_core {W : Nat} (w : World) (qa : Option Addr) (v : Nat) (gf : Nat) (eg : ∀ args w, (callFunc gf args).run Try.prog w = .ok (.enter gf args) w) (M : List (Nd Int)) (hM : ∀ x ∈ M, ∃ a0 a1, NodeAt 98 3 encV W w x a0 a1)
    (hmet : ∀ w1, Below w.heap.size w w1 → Calls Try.prog 57 #[.pointer qa, B v] w1 fun e w' => ∃ lb, e = .returned (.func (.func gf) #[] lb) ∧ Hid (Below w1.heap.size w1 w' ∧ ∀ S : Nat → Prop, (∀ k, S k → w.heap.size ≤ k ∧ k < w1.heap.size) → Tells Try.prog gf lb (fun x : Nd Int => #[Value.pointer (some ⟨x.blk, 0, none⟩)]) M S w')) :
    Calls Try.prog 26 #[.pointer qa, B v] w fun e w' => e = .returned (findV W (kept M).getLast?) ∧ Below w.heap.size w w' := by
  suffices h : ∀ m, CallsIn Fence.wide m Try.prog 26 #[.pointer qa, B v] w fun e w' => e = .returned (findV W (kept M).getLast?) ∧ Below w.heap.size w w' from callsIn_wide.1 (h 0)
  intro m
  have HB := three_new w #[.int .u64 (hiOf v), .int .u64 (loOf v)] #[.int .u64 0, .int .u64 0, .int .i64 0] #[.pointer none] 33 51 82
  have HM : Hid (∀ x ∈ M, ∃ a0 a1, NodeAt 98 3 encV W w x a0 a1) := hM
  have C57 : Hid (∀ w1, Below w.heap.size w w1 → CallsIn Fence.wide (m - 1) Try.prog 57 #[.pointer qa, B v] w1 fun e w' => ∃ lb, e = .returned (.func (.func gf) #[] lb) ∧ Hid (Below w1.heap.size w1 w' ∧ ∀ S : Nat → Prop, (∀ k, S k → w.heap.size ≤ k ∧ k < w1.heap.size) → Tells Try.prog gf lb (fun x : Nd Int => #[Value.pointer (some ⟨x.blk, 0, none⟩)]) M S w')) := fun w1 h => callsIn_wide.2 (hmet w1 h)
  have hmix : Try.prog.follows .mixedOrders = true := by kernel_rfl
  have EG : Hid (∀ args w, (callFunc gf args).run Try.prog w = .ok (.enter gf args) w) := eg
  clear hM hmet eg
  refine callsIn_of_wp_marks Try.func26 rfl trivial ?_ rfl
  simp only [Try.ntmps26, List.size_toArray, List.length_cons, List.length_nil, Nat.reduceAdd, Nat.reduceSub, Array.replicate_succ, Array.replicate_zero, List.push_toArray, List.append_toArray, List.nil_append, List.cons_append]
  gi_upto_region 2 with fail
  generalize (((w.alloc _).alloc _).alloc _) = w0 at HB ⊢
  generalize hA : w.heap.size + 1 = A1 at *
  generalize hA2 : A1 + 1 = A2 at *
  have lA := HB.out.2.2.2.2
  have y0 := HB.out.1.cell 0 (v := .int .u64 (hiOf v)) rfl
  have y1 := HB.out.1.cell 1 (v := .int .u64 (loOf v)) rfl
  gi_wp2_with fail
  refine ⟨trivial, no_depth _, ?_⟩
  refine (C57.out _ HB.out.2.2.2.1).mono ?_
  rintro e w3 ⟨lb, rfl, H3⟩
  clear y0 y1 C57
  have HD : Hid (Blk w3 A1 #[.int .u64 0, .int .u64 0, .int .i64 0] 51 ∧ Blk w3 A2 #[.pointer none] 82 ∧ Below w.heap.size w w3 ∧ Tells Try.prog gf lb (fun x : Nd Int => #[Value.pointer (some ⟨x.blk, 0, none⟩)]) M (fun k => k = A2) w3 ∧ w0.heap.size ≤ w3.heap.size) := ⟨HB.out.2.1.below H3.out.1, HB.out.2.2.1.below H3.out.1, bst HB.out.2.2.2.1 H3.out.1, H3.out.2 (fun k => k = A2) (fun k e => by have e' : k = A2 := e; omega), H3.out.1.size⟩
  clear H3 HB
  have l3 := HD.out.2.1.lt
  gi_wp2_with fail
  refine range_outer (gf := gf) (lb := lb) (encs := fun x : Nd Int => #[Value.pointer (some ⟨x.blk, 0, none⟩)]) (xs := M) (S := fun k => k = A2) rfl EG.out
    (fun k e => by have e' : k = A2 := e; omega)
    HD.out.2.2.2.1 (Below.refl _ _) (fun _ => rfl)
    (fun pre W' => Blk W' A2 #[ndP (lastT pre)] 82 ∧ Kept (fun k => k = A2) w3 W')
    (fun c pre W' => False)
    ((low_blk _ _ (fun pre : List (Nd Int) => #[ndP (lastT pre)]) _ (by omega)).and (low_kept _ _ _ (Nat.le_refl _)))
    (fun c => low_pure _ _)
    ⟨HD.out.2.1, Kept.refl _ _⟩ ?round ?done ?stop
  case stop =>
    rintro c pre W' _ hf
    exact hf.elim
  case round =>
    rintro l pre x W' K hl hlt hz hpre ⟨b0, hK⟩ hKK
    have hx : x ∈ M := hpre.subset (by simp)
    obtain ⟨a0, a1, hn⟩ := HM.out x hx
    have hn3 := hn.below HD.out.2.2.1 |>.cells
    have hxlt := hn.cells.lt
    obtain ⟨A4, hA4⟩ : ∃ A : Value, A = pt a0 := ⟨_, rfl⟩
    obtain ⟨A5, hA5⟩ : ∃ A : Value, A = pt a1 := ⟨_, rfl⟩
    obtain ⟨L, hL⟩ : ∃ L : Option Addr, L = (lastT pre).map fun x => ⟨x.blk, 0, none⟩ := ⟨_, rfl⟩
    have HL : Hid (lastT (pre ++ [x]) = if x.th.isSome = true then some x else lastT pre) := lastT_snoc pre x
    have HLL : Hid (L = (lastT pre).map fun x => (⟨x.blk, 0, none⟩ : Addr)) := hL
    have b0' : Blk W' A2 #[.pointer L] 82 := by rw [hL]; exact b0
    gi_wp2_with fail
    refine hKK _ _ (Kept.refl _ _) ?_
    intro Wb hkb hrec
    have e1 : Blk Wb A2 #[.pointer L] 82 := b0'.kept hkb (by show ¬ _ = _; omega)
    have eX : Blk Wb x.blk #[.int .u64 (hiOf (valOf W x.key)), .int .u64 (loOf (valOf W x.key)), .int .i64 x.key.length, pt (x.th.map (·.1)), A4, A5] 98 := by
      rw [hA4, hA5]
      exact (hn3.kept hK (by show ¬ _ = _; omega)).kept hkb (by have := hn3.lt; show ¬ _ = _; omega)
    have hKb : Kept (fun k => k = A2) w3 Wb := ⟨hkb.os.trans hK.os, hkb.tape.trans hK.tape, hkb.output.trans hK.output, Nat.le_trans hK.size hkb.size, fun k hk hs => (hkb.block k (Nat.lt_of_lt_of_le hk hK.size) (fun e => by have e' : k = l := e; omega)).trans (hK.block k hk hs)⟩
    have HE : Hid (Blk Wb A2 #[.pointer L] 82 ∧ Kept (fun k => k = A2) w3 Wb) := ⟨e1, hKb⟩
    have f0 := e1.frozen 0
    have c0 := e1.cell 0 (v := .pointer L) rfl
    clear b0 b0' hK hKK hkb hrec e1 hKb hn hn3 hpre hx hA4 hA5 hL
    cases ht : x.th with
    | none =>
      rw [ht] at eX HL
      have x3 := eX.cell 3 (v := .pointer none) rfl
      have HF : Hid (Blk Wb A2 #[ndP (lastT (pre ++ [x]))] 82) := by
        have e : ndP (lastT (pre ++ [x])) = .pointer L := by rw [HL.out, HLL.out]; rfl
        rw [e]; exact HE.out.1
      clear eX HL ht
      gi_wp2_with fail
      exact ⟨Kept.refl _ _, HF.out, HE.out.2⟩
    | some t =>
      obtain ⟨t, u⟩ := t
      rw [ht] at eX HL
      have x3 := eX.cell 3 (v := .pointer (some ⟨t, 0, none⟩)) rfl
      have ks : Kept (fun k => k = A2) Wb (Wb.setCell ⟨A2, 0, none⟩ (.pointer (some ⟨x.blk, 0, none⟩))) := (Kept.refl (fun k => k = A2) Wb).set (p := ⟨A2, 0, none⟩) rfl _
      have HF : Hid (Kept (fun k => k = A2) Wb (Wb.setCell ⟨A2, 0, none⟩ (.pointer (some ⟨x.blk, 0, none⟩))) ∧ Blk (Wb.setCell ⟨A2, 0, none⟩ (.pointer (some ⟨x.blk, 0, none⟩))) A2 #[ndP (lastT (pre ++ [x]))] 82 ∧ Kept (fun k => k = A2) w3 (Wb.setCell ⟨A2, 0, none⟩ (.pointer (some ⟨x.blk, 0, none⟩)))) := by
        refine ⟨ks, ?_, HE.out.2.trans ks⟩
        have e : ndP (lastT (pre ++ [x])) = .pointer (some ⟨x.blk, 0, none⟩) := by rw [HL.out]; rfl
        rw [e]; exact HE.out.1.set 0 _
      clear eX HL ht ks
      gi_wp2_with fail
      exact HF.out
  case done =>
    rintro W' ⟨b0, hK⟩ hks hD'
    have hwl : w3.heap.size < W'.heap.size := (Array.getElem?_eq_some_iff.1 hD').1
    have HW : Hid (Blk W' A1 #[.int .u64 0, .int .u64 0, .int .i64 0] 51 ∧ Blk W' A2 #[ndP (lastT M)] 82 ∧ W'.heap[w3.heap.size]? = some (.deferred (some [])) ∧ Below w.heap.size w W' ∧ w3.heap.size < W'.heap.size) := ⟨HD.out.1.kept hks (by show ¬ _ = _; omega), b0, hD', HD.out.2.2.1.trans (hks.below HD.out.2.2.1.size (fun k e => by have e' : k = A2 := e; omega)), hwl⟩
    have HLK : Hid ((kept M).getLast? = (lastT M).bind fun x => x.th.map fun t => (x.key, t.2)) := lastT_kept M
    clear b0 hK hks hD' hwl
    have hlo : w.heap.size ≤ w3.heap.size := HD.out.2.2.1.size
    have z0 := HW.out.1.cell 0 (v := .int .u64 0) rfl
    have z1 := HW.out.1.cell 1 (v := .int .u64 0) rfl
    have z2 := HW.out.1.cell 2 (v := .int .i64 0) rfl
    have f0 := HW.out.1.frozen 0
    have f1 := HW.out.1.frozen 1
    have f2 := HW.out.1.frozen 2
    cases hx : lastT M with
    | none =>
      have HR : Hid ((kept M).getLast? = none) := by
        have := HLK.out
        rw [hx] at this; exact this
      have HW2 := HW.out.2.1
      rw [hx] at HW2
      have c0 : W'.cell? ⟨A2, 0, none⟩ = some (.pointer none) := HW2.cell 0 rfl
      have HF : Hid (Blk (((W'.setCell ⟨A1, 0, none⟩ (.int .u64 0)).setCell ⟨A1, 1, none⟩ (.int .u64 0)).setCell ⟨A1, 2, none⟩ (.int .i64 0)) A1 #[.int .u64 0, .int .u64 0, .int .i64 0] 51 ∧ (((W'.setCell ⟨A1, 0, none⟩ (.int .u64 0)).setCell ⟨A1, 1, none⟩ (.int .u64 0)).setCell ⟨A1, 2, none⟩ (.int .i64 0)).heap[w3.heap.size]? = some (.deferred (some [])) ∧ Below w.heap.size w (((W'.setCell ⟨A1, 0, none⟩ (.int .u64 0)).setCell ⟨A1, 1, none⟩ (.int .u64 0)).setCell ⟨A1, 2, none⟩ (.int .i64 0)) ∧ w3.heap.size < (((W'.setCell ⟨A1, 0, none⟩ (.int .u64 0)).setCell ⟨A1, 1, none⟩ (.int .u64 0)).setCell ⟨A1, 2, none⟩ (.int .i64 0)).heap.size) := by
        have hks : Kept (fun k => k = A1) W' (((W'.setCell ⟨A1, 0, none⟩ (.int .u64 0)).setCell ⟨A1, 1, none⟩ (.int .u64 0)).setCell ⟨A1, 2, none⟩ (.int .i64 0)) := (((Kept.refl (fun k => k = A1) W').set (p := ⟨A1, 0, none⟩) rfl _).set (p := ⟨A1, 1, none⟩) rfl _).set (p := ⟨A1, 2, none⟩) rfl _
        exact ⟨((HW.out.1.set 0 _).set 1 _).set 2 _, (hks.block _ HW.out.2.2.2.2 (by show ¬ _ = _; omega)).trans HW.out.2.2.1, HW.out.2.2.2.1.trans (hks.below HW.out.2.2.2.1.size (fun k e => by have e' : k = A1 := e; omega)), Nat.lt_of_lt_of_le HW.out.2.2.2.2 hks.size⟩
      clear HW2 HW hx HLK
      gi_wp2_with fail
      generalize ((W'.setCell _ _).setCell _ _).setCell _ _ = W5 at HF ⊢
      refine ⟨by simp, .inl ⟨_, _, rfl, run_takeDeferred HF.out.2.1, ?_⟩⟩
      have hkk := kept_putObj (fun k => k = w3.heap.size) W5 w3.heap.size (.deferred none) rfl
      have HZ := HF.out.1.kept hkk (by show ¬ _ = _; omega)
      have r0 := HZ.cell 0 (v := .int .u64 0) rfl
      have r1 := HZ.cell 1 (v := .int .u64 0) rfl
      have r2 := HZ.cell 2 (v := .int .i64 0) rfl
      refine ⟨.tuple #[Pf 0 0, .int .i64 0, .bool false], ?_, by rw [HR.out]; rfl, HF.out.2.2.1.trans (hkk.below (Nat.le_trans hlo (Nat.le_of_lt HF.out.2.2.2)) (fun k e => by have e' : k = w3.heap.size := e; omega))⟩
      simp [results, Try.results26, go_sem, r0, r1, r2, hiOf, loOf]
    | some x =>
      obtain ⟨hxM, ⟨t, u⟩, ht⟩ := lastT_mem hx
      have HR : Hid ((kept M).getLast? = some (x.key, u)) := by
        have := HLK.out
        rw [hx] at this
        rw [this]
        show (x.th.map fun t => (x.key, t.2)) = _
        rw [ht]; rfl
      have HW2 := HW.out.2.1
      rw [hx] at HW2
      have c0 : W'.cell? ⟨A2, 0, none⟩ = some (.pointer (some ⟨x.blk, 0, none⟩)) := HW2.cell 0 rfl
      obtain ⟨a0, a1, hn⟩ := HM.out x hxM
      have hnW := hn.below HW.out.2.2.2.1
      have hc := hnW.cells
      rw [show nodeC W x a0 a1 = #[.int .u64 (hiOf (valOf W x.key)), .int .u64 (loOf (valOf W x.key)), .int .i64 x.key.length, pt (x.th.map (·.1)), pt a0, pt a1] from rfl, ht] at hc
      have x0 := hc.cell 0 (v := .int .u64 (hiOf (valOf W x.key))) rfl
      have x1 := hc.cell 1 (v := .int .u64 (loOf (valOf W x.key))) rfl
      have x2 := hc.cell 2 (v := .int .i64 x.key.length) rfl
      have x3 := hc.cell 3 (v := .pointer (some ⟨t, 0, none⟩)) rfl
      have u0 := (hnW.thing t u ht).cell 0 (v := .int .i64 u) rfl
      have htl := (hn.thing t u ht).lt
      have hxl := hn.cells.lt
      have n1 : ¬ t = A1 := by omega
      have n2 : ¬ x.blk = A1 := by omega
      have n3 : ¬ A2 = A1 := by omega
      have n4 : ¬ A1 = t := by omega
      have n5 : ¬ A1 = x.blk := by omega
      have n6 : ¬ A1 = A2 := by omega
      clear HW2 hx HLK hc hnW hn ht hxM
      gi_upto_region 9 with fail
      have HF : Hid (Blk (((W'.setCell ⟨A1, 0, none⟩ (.int .u64 (hiOf (valOf W x.key)))).setCell ⟨A1, 1, none⟩ (.int .u64 (loOf (valOf W x.key)))).setCell ⟨A1, 2, none⟩ (.int .i64 x.key.length)).drew A1 #[.int .u64 (hiOf (valOf W x.key)), .int .u64 (loOf (valOf W x.key)), .int .i64 x.key.length] 51 ∧ (((W'.setCell ⟨A1, 0, none⟩ (.int .u64 (hiOf (valOf W x.key)))).setCell ⟨A1, 1, none⟩ (.int .u64 (loOf (valOf W x.key)))).setCell ⟨A1, 2, none⟩ (.int .i64 x.key.length)).drew.heap[w3.heap.size]? = some (.deferred (some [])) ∧ Below w.heap.size w (((W'.setCell ⟨A1, 0, none⟩ (.int .u64 (hiOf (valOf W x.key)))).setCell ⟨A1, 1, none⟩ (.int .u64 (loOf (valOf W x.key)))).setCell ⟨A1, 2, none⟩ (.int .i64 x.key.length)).drew ∧ w3.heap.size < (((W'.setCell ⟨A1, 0, none⟩ (.int .u64 (hiOf (valOf W x.key)))).setCell ⟨A1, 1, none⟩ (.int .u64 (loOf (valOf W x.key)))).setCell ⟨A1, 2, none⟩ (.int .i64 x.key.length)).drew.heap.size) := by
        have hks : Kept (fun k => k = A1) W' (((W'.setCell ⟨A1, 0, none⟩ (.int .u64 (hiOf (valOf W x.key)))).setCell ⟨A1, 1, none⟩ (.int .u64 (loOf (valOf W x.key)))).setCell ⟨A1, 2, none⟩ (.int .i64 x.key.length)).drew := ((((Kept.refl (fun k => k = A1) W').set (p := ⟨A1, 0, none⟩) rfl _).set (p := ⟨A1, 1, none⟩) rfl _).set (p := ⟨A1, 2, none⟩) rfl _).drew
        have hb := ((HW.out.1.set 0 (.int .u64 (hiOf (valOf W x.key)))).set 1 (.int .u64 (loOf (valOf W x.key)))).set 2 (.int .i64 x.key.length)
        exact ⟨hb, (hks.block _ HW.out.2.2.2.2 (by show ¬ _ = _; omega)).trans HW.out.2.2.1, HW.out.2.2.2.1.trans (hks.below HW.out.2.2.2.1.size (fun k e => by have e' : k = A1 := e; omega)), Nat.lt_of_lt_of_le HW.out.2.2.2.2 hks.size⟩
      clear HW
      gi_cut [5, 6] from 24 (fun s5 s6 wx => s5 = .int .i64 u ∧ s6 = .bool true ∧ Hid (Blk wx A1 #[.int .u64 (hiOf (valOf W x.key)), .int .u64 (loOf (valOf W x.key)), .int .i64 x.key.length] 51 ∧ wx.heap[w3.heap.size]? = some (.deferred (some [])) ∧ Below w.heap.size w wx ∧ w3.heap.size < wx.heap.size))
      case first =>
        refine of_nrm ?_
        gi_region_with (fail)
        all_goals (show Exit.then _ _ Exit.normal _ _; gi_wp2_with fail; go_meet; exact ⟨rfl, rfl, HF⟩)
      case rest =>
        obtain ⟨rfl, rfl, HG⟩ := hcut
        gi_wp2_with fail
        refine ⟨by simp, .inl ⟨_, _, rfl, run_takeDeferred HG.out.2.1, ?_⟩⟩
        have hkk := kept_putObj (fun k => k = w3.heap.size) wc w3.heap.size (.deferred none) rfl
        have HZ := HG.out.1.kept hkk (by show ¬ _ = _; omega)
        have r0 := HZ.cell 0 (v := .int .u64 (hiOf (valOf W x.key))) rfl
        have r1 := HZ.cell 1 (v := .int .u64 (loOf (valOf W x.key))) rfl
        have r2 := HZ.cell 2 (v := .int .i64 x.key.length) rfl
        refine ⟨.tuple #[Pf (valOf W x.key) x.key.length, .int .i64 u, .bool true], ?_, by rw [HR.out]; rfl, HG.out.2.2.1.trans (hkk.below (Nat.le_trans hlo (Nat.le_of_lt HG.out.2.2.2)) (fun k e => by have e' : k = w3.heap.size := e; omega))⟩
        simp [results, Try.results26, go_sem, r0, r1, r2]
theorem find_yes {w : World} {q W most : Nat} {a : Option Nat} {n : Nat} {N : List (Nd Int)} (hT : TrieAt w q W most a n N) (v : Nat) (hv : Is128 v) (hF : fitsN v W = true) :
    Calls Try.prog 26 #[.pointer (some ⟨q, 0, none⟩), B v] w fun e w' => e = .returned (findV W (kept (wayN (bitsOf W v) N)).getLast?) ∧ Below w.heap.size w w' := by
  refine find_core w (some ⟨q, 0, none⟩) v 85 (enters_of Try.func85 (by kernel_rfl) rfl) (wayN (bitsOf W v) N) (fun x hx => hT.hang.thing x (List.mem_filter.1 hx).1) (fun w1 h => ?_)
  refine (met_yes q v hv hF w1 ((hT.hd.below h).cell 0 rfl)).mono ?_
  rintro e w' ⟨D, rfl, H⟩
  refine ⟨_, rfl, (⟨H.out.2.2.1, fun S hS => ?_⟩ : _ ∧ _)⟩
  have hb : Below w.heap.size w w' := bst h H.out.2.2.1
  have h4 := H.out.2.2.2
  have hz := h.size
  refine way_tells hT.wd.1 hT.wd.2 (Nat.le_of_eq (bits_len _ _)) q w' _ _ a (hT.below hb).hd (hT.below hb).hang D (D + 1) H.out.1 ?_ S (fun e => ?_) (fun e => ?_) (fun e => ?_) (hT.hang.off_new fun k e => (hS k e).1)
  · rw [← fits_bits hF, bits_len]; exact H.out.2.1
  · have := (hS _ e).1; have := hT.hd.lt; omega
  · have := (hS _ e).2; omega
  · have := (hS _ e).2; omega
theorem find_no {w : World} {W : Nat} (q v : Nat) (hv : Is128 v) (hF : fitsN v W = false) (hq : w.cell? ⟨q, 0, none⟩ = some (.int .i64 W)) :
    Calls Try.prog 26 #[.pointer (some ⟨q, 0, none⟩), B v] w fun e w' => e = .returned (findV W none) ∧ Below w.heap.size w w' := by
  refine find_core (W := W) w (some ⟨q, 0, none⟩) v 74 (enters_of Try.func74 (by kernel_rfl) rfl) [] (fun x hx => absurd hx (by simp)) (fun w1 h => ?_)
  refine (met_no q v hv hF w1 ((World.cell?_of_block (h.block q (World.block_lt_of_cell? w _ hq))).trans hq)).mono ?_
  rintro e w' ⟨rfl, hb⟩
  exact ⟨_, rfl, (⟨hb, fun S _ => met1_tells _ _ _⟩ : _ ∧ _)⟩
end Go.Proofs.Ytgdpplipahhffaa
