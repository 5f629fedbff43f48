/- What TrieUnder's walk asks for: the order of texts, appending a prefix, Under's iterator of what is no prefix, the gate outside rounds. -/
import Derived.Test.YtgdpplipahhffaaUv
import Derived.Test.YtgdpplipahhffaaLr
import Derived.Maps.AppendAt
namespace Go.Proofs.Ytgdpplipahhffaa
open Go.RowKit
set_option linter.unusedVariables false
set_option linter.unusedSimpArgs false

theorem tx_less : ∀ a b : List Bool, Op.bytesLess (tx a).toList (tx b).toList = klt a b := by
  intro a b
  rw [ByteArray.toList_eq, ByteArray.toList_eq]
  show Op.bytesLess (chB a) (chB b) = _
  induction a generalizing b with
  | nil => cases b with
    | nil => rfl
    | cons y b => rfl
  | cons x a ih => cases b with
    | nil => rfl
    | cons y b =>
      have := ih b
      rw [show chB (x :: a) = (if x then 49 else 48) :: chB a from rfl, show chB (y :: b) = (if y then 49 else 48) :: chB b from rfl]
      cases x <;> cases y <;> simp [Op.bytesLess, klt, this]
theorem und_nil {V : Type} (N : List (Nd V)) : undN [] N = N := by
  unfold undN
  rw [List.filter_eq_self]
  intro x _
  simp
theorem val_nil (W : Nat) : valOf W [] = 0 := by
  unfold valOf; simp
theorem kept_und {V : Type} (p : List Bool) (N : List (Nd V)) : kept (undN p N) = (kept N).filter fun y => decide (p <+: y.1) := kept_filter (fun k => decide (p <+: k)) N
/-- A prefix appended to a row of them. -/
theorem app_pf {W : Nat} (w : World) (B : Nat) (s : Value) (K : List (List Bool)) (p : List Bool) (hown : w.ownsRow B 51 3 s K.length (rowK W K)) (hB : B ≤ w.heap.size) (hK : K.length + 1 ≤ 1000000) :
    ∃ s' W2, Sem.run Try.prog (appd #[65, 65] 65 #[s, .slice (some ⟨w.heap.size, 0, none⟩) 1 1]) (w.alloc (.cells #[.int .u64 (hiOf (valOf W p)), .int .u64 (loOf (valOf W p)), .int .i64 p.length] 51)) = .ok s' W2 ∧
      W2.ownsRow B 51 3 s' (K ++ [p]).length (rowK W (K ++ [p])) ∧ (∃ ba bc, s' = .slice ba (K.length + 1) bc) ∧ Kept (fun k => s.ownBlock = some k) w W2 ∧ (s'.ownBlock = s.ownBlock ∨ ∃ g, s'.ownBlock = some g ∧ w.heap.size ≤ g) := by
  obtain ⟨i0, hi, hz0, hz1, hz2⟩ := info_parts info51
  have hA : Blk (w.alloc (.cells #[.int .u64 (hiOf (valOf W p)), .int .u64 (loOf (valOf W p)), .int .i64 p.length] 51)) w.heap.size #[.int .u64 (hiOf (valOf W p)), .int .u64 (loOf (valOf W p)), .int .i64 p.length] 51 := Blk.new w _ 51
  have hb : Below w.heap.size w (w.alloc (.cells #[.int .u64 (hiOf (valOf W p)), .int .u64 (loOf (valOf W p)), .int .i64 p.length] 51)) := (Below.refl _ _).alloc (Nat.le_refl _) _
  obtain ⟨s', W2, hr, ho2, hg2, _, hat⟩ := run_append_own_at (P := Try.prog) (w := w.alloc (.cells #[.int .u64 (hiOf (valOf W p)), .int .u64 (loOf (valOf W p)), .int .i64 p.length] 51)) B 65 65 51 i0 _ 3 24 Try.underlying65 hi hz0 hz1 hz2 rfl (by decide) s _ _
    (ownsRow_kept hown (Kept.of_below (S := fun _ => False) hb) (fun k _ e => e)) ⟨w.heap.size, 0, none⟩ 1 1 (pfC W p) rfl (fun j u hu => by
      rw [Addr.add_mid, Nat.zero_add]
      rw [← List.getElem?_toArray] at hu
      exact hA.cell j hu) (fun u hu => by
      simp only [pfC, List.mem_cons, List.not_mem_nil, or_false] at hu
      rcases hu with rfl | rfl | rfl <;> rfl) (by unfold maxLen; omega) (by omega) (Nat.le_trans hB hb.size)
  refine ⟨s', W2, hr, ?_, ?_, (Kept.of_below hb).trans ⟨hg2.os, hg2.tape, hg2.output, hg2.size, fun k hk hs => hg2.block k hk (fun e => hs e.symm)⟩, ?_⟩
  · rw [rowK_snoc, List.length_append]; exact ho2
  · exact ownsRow_slice ho2
  · rcases hat with h | h
    · exact .inl h
    · exact .inr ⟨_, h, by have := hb.size; omega⟩
theorem under_tells_bad {α : Type} (gt : TypeId) (encs : α → Array Value) {w : World} {q W most : Nat} {a : Option Nat} {n : Nat} {N : List (Nd Int)} (hT : TrieAt w q W most a n N) (v : Nat) (hv : Is128 v) (l0 : Int) (hP : isP W v l0 = false)
    (bt bp : Nat) (hbt : Blk w bt #[.pointer (some ⟨q, 0, none⟩)] 24) (hbp : Blk w bp #[.int .u64 (hiOf v), .int .u64 (loOf v), .int .i64 l0] 51) (S : Nat → Prop) :
    TellsG gt Try.prog 48 #[.pointer (some ⟨bt, 0, none⟩), .pointer (some ⟨bp, 0, none⟩)] encs [] S w := by
  intro m l J Jx W1 hW hl hJ hJx hY h0
  obtain ⟨h1, h2⟩ := hT.wd
  have HJ : Hid (∀ w', Below W1.heap.size W1 w' → J [] w') := fun w' hb => hJ _ _ _ (Kept.of_below hb) h0
  have HB : Hid _ := one_new W1 #[.func (.yield l) #[] #[]] 90
  have C49 : Hid (∀ w1, CallsIn Fence.wide (m - 1) Try.prog 49 #[Pf v l0, .int .i64 W] w1 fun e w' => e = .returned (.bool false) ∧ Below w1.heap.size w1 w') := fun w1 => callsIn_wide.2 (by
    have := isPrefix_any v hv l0 W h1 h2 w1
    rw [hP] at this; exact this)
  have x0 := two_cells ((hbp.below hW).below HB.out.2.1) (i := 0) (v := .int .u64 (hiOf v)) rfl
  have x1 := two_cells ((hbp.below hW).below HB.out.2.1) (i := 1) (v := .int .u64 (loOf v)) rfl
  have x2 := two_cells ((hbp.below hW).below HB.out.2.1) (i := 2) (v := .int .i64 l0) rfl
  have z0 := two_cells ((hT.hd.below hW).below HB.out.2.1) (i := 0) (v := .int .i64 W) rfl
  have v0 := two_cells ((hbt.below hW).below HB.out.2.1) (i := 0) (v := .pointer (some ⟨q, 0, none⟩)) rfl
  have hmix : Try.prog.follows .mixedOrders = true := by kernel_rfl
  clear hT hbt hbp hJ hJx h0 hY hW hP hv
  refine callsIn_of_wp_marks Try.func48 rfl trivial ?_ rfl
  simp only [Try.ntmps48, List.size_toArray, List.length_cons, List.length_nil, Nat.reduceAdd, Nat.reduceSub, Array.replicate_succ, Array.replicate_zero, List.push_toArray, List.append_toArray, List.nil_append, List.cons_append]
  gi_upto_region 1 with fail
  generalize (W1.alloc _) = w0 at *
  refine grows_wide hmix (by kernel_rfl) ?_
  repeat (gi_big_quiet_step (fail))
  refine Go.BigFrame.wpQuietIn_want (fun _ _ _ _ => trivial) (by rfl) ?_
  intro K2 hK2
  gi_big_quiet_op
  apply Exists.intro
  refine ⟨fun _ => ?_, ?_⟩
  · exact ⟨no_depth _, calls_gwIn (C49.out _)⟩
  go_big_quiet_on
  repeat (gi_big_quiet_step (fail))
  refine wpQuietIn_nil ?_
  intro wq hwq
  obtain ⟨zq, rfl⟩ := hwq
  have HF : Hid (J [] (gw zq)) := HJ.out _ (bst HB.out.2.1 (gw_below zq))
  clear x0 x1 x2 z0 v0 C49 HB HJ
  gi_wp2_with fail
  refine ⟨.tuple #[], ?_, ⟨_, rfl⟩, .inl HF.out⟩
  simp [results, Try.results48, go_sem]
/-- The region's law outside rounds. -/
theorem gate_wide {n : Nat} {P : Program} {id : Nat} {Q : Exit → Act → World → Prop} {a : Act} {w : World} {l : List Oper} (k : Nat) (hm : P.follows .mixedOrders = true) (hg : gate .any l.toArray k = true)
    (hs : Region.noSelect (l.take k).toArray = true) (hB : Region.lexFrom .any (l.take k).toArray (l.take k).length 0 (Array.replicate l.length false) = true)
    (h : wpQuietIn Fence.wide n P (l.take k).toArray (fun w' => ∃ z : Grown w, w' = gw z) (fun a' => ∀ w', (∃ z : Grown w, w' = gw z) → wpAnyIn Fence.wide n P .any l.toArray Q (l.length - k) (upTo k (l.length - k)) a' w') (l.take k) a) :
    (Code.region id l.toArray true).wpIn Fence.wide n P Q a w := by
  have hG := gate_of hg
  have hk : k < l.length := by simpa using hG.lt
  refine wpIn_region_any hm ?_
  have h2 := wpAnyQIn_lex (F := Fence.wide) (n := n) (C := fun w' => ∃ z : Grown w, w' = gw z) (md := .any) hs (l.take k) 0 (Array.replicate l.length false) a (by simp) hB h
  have h3 := any_gate (F := Fence.wide) (n := n) (P := P) (Q' := Q) (C := fun w' => ∃ z : Grown w, w' = gw z) rfl hG (fun a w hw h => h w hw) _ _ _ _ (gw_drawn w) (ahead_start hk) h2
  have e : (l.take k).length + (l.length - k) = l.toArray.size := by simp; omega
  rw [e] at h3
  simpa using h3
end Go.Proofs.Ytgdpplipahhffaa
