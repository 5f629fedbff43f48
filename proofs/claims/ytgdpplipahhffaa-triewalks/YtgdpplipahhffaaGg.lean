/- Package trie: Under's iterator. What TrieUnder's walk asks for: the order of texts, appending a prefix, Under's iterator of what is no prefix, the gate outside rounds. -/
import Derived.Test.YtgdpplipahhffaaUu
import Derived.Test.YtgdpplipahhffaaGn
import Derived.Test.YtgdpplipahhffaaEv
import Derived.Test.YtgdpplipahhffaaGs
import Derived.Test.YtgdpplipahhffaaGt
import Derived.Test.YtgdpplipahhffaaGe
import Derived.Maps.AppendAt
namespace Go.Proofs.Ytgdpplipahhffaa
open Go.RowKit
set_option linter.unusedVariables false
set_option linter.unusedSimpArgs false

theorem yield_loop {P : Program} {l : Nat} {args : Array Value} {W W' : World} {fn : FuncId} {tmps : Array Value} {assign body : Code} (h : (Instr.yield l args).run P W = .ok (.round l fn tmps assign body) W') : ∃ r, W.heap[l]? = some (.loop r) := by
  cases hr : W.heap[l]? with
  | none =>
    obtain ⟨e, hg⟩ : ∃ e, (getObj l).run P W = .halt e W := ⟨_, by simp [getObj, Sem.run, hr]; rfl⟩
    simp [Instr.yield, Instr.getLoop, Sem.run_bind, hg, Result.andThen] at h
  | some o =>
    cases o with
    | loop r => exact ⟨r, rfl⟩
    | cells c t f =>
      obtain ⟨e, hg⟩ : ∃ e, (getObj l).run P W = .halt e W := ⟨_, by simp [getObj, Sem.run, hr]; rfl⟩
      simp [Instr.yield, Instr.getLoop, Sem.run_bind, hg, Result.andThen] at h
    | _ =>
      rename_i o
      have hg := show (getObj l).run P W = .ok _ W by simp [getObj, Sem.run, hr]; rfl
      simp [Instr.yield, Instr.getLoop, Sem.run_bind, hg, Result.andThen, stuck, Sem.run] at h
theorem each_any (a : Option Nat) (w : World) : Calls Try.prog 50 #[pt a] w fun e w' => e = .returned (.func (.func 67) #[] #[.pointer (some ⟨w.heap.size, 0, none⟩)]) ∧ Blk w' w.heap.size #[pt a] 82 ∧ Below w.heap.size w w' := by
  have hmf := mf
  obtain ⟨A, hA⟩ : ∃ A : Option Addr, a.map (fun b => (⟨b, 0, none⟩ : Addr)) = A := ⟨_, rfl⟩
  have HB : Hid _ := one_new w #[.pointer A] 82
  rw [show pt a = .pointer A from by rw [← hA]]
  go_enter Try.func50, Try.ntmps50
  go_wp2
  go_ret
  exact ⟨rfl, HB.out.1, HB.out.2.1⟩
theorem round_in {F : Fence} {n : Nat} {P : Program} {k : Nat} {f : FuncId} {tmps : Array Value} {assign body : Code} {w : World} {R : Ending → World → Prop} (l : Nat) (h : RoundIn F n P k f tmps assign body w R) : RoundIn (F.inRound l) n P k f tmps assign body w R := h
theorem kept_snoc {V : Type} (pre : List (Nd V)) (x : Nd V) : kept (pre ++ [x]) = kept pre ++ ownK x := by
  rw [kept_append]; simp [kept]
theorem Hang.und {V : Type} {nt vt : TypeId} {enc : V → Value} {W : Nat} {w : World} (p : List Bool) : ∀ (n : Nat) (a : Option Nat) (N : List (Nd V)), Hang nt vt enc W w n a N → ∃ n' a', Hang nt vt enc W w n' a' (undN p N)
  | n, none, N, h => by rw [h.of_none]; exact ⟨0, none, Hang.nil 0⟩
  | 0, some b, N, h => by
    obtain ⟨m, x, a0, a1, N0, N1, e, _⟩ := h.root
    omega
  | n + 1, some b, N, h => by
    obtain ⟨m, x, a0, a1, N0, N1, e, rfl, rfl, hR, hf⟩ := h.root
    by_cases hl : p.length ≤ x.key.length
    · rw [und_on hR hl]
      split
      · exact ⟨_, _, h⟩
      · exact ⟨0, none, Hang.nil 0⟩
    · rw [und_off hR (by omega)]
      obtain rfl : m = n := by omega
      split
      · exact Hang.und p m a1 N1 hR.h1
      · exact Hang.und p m a0 N0 hR.h0
theorem kept_pre {V : Type} {A B : List (Nd V)} (h : A <+: B) : kept A <+: kept B := by
  obtain ⟨t, rfl⟩ := h
  rw [kept_append]; exact List.prefix_append _ _

attribute [local go_sem] Oper.semAt_some
set_option maxHeartbeats 4000000 in
set_option maxRecDepth 100000 in
theorem under_tellsG (gt : TypeId) (hg1 : gt ≠ 121) (hg2 : gt ≠ 90) {w : World} {q W most : Nat} {a : Option Nat} {n : Nat} {N : List (Nd Int)} (hT : TrieAt w q W most a n N) {p : List Bool} (hp : p.length ≤ W)
    (bt bp : Nat) (hbt : Blk w bt #[.pointer (some ⟨q, 0, none⟩)] 24) (hbp : Blk w bp #[.int .u64 (hiOf (valOf W p)), .int .u64 (loOf (valOf W p)), .int .i64 p.length] 51) (S : Nat → Prop) (hS : ∀ k, S k → k < w.heap.size) (hSN : Off S N) :
    TellsG gt Try.prog 48 #[.pointer (some ⟨bt, 0, none⟩), .pointer (some ⟨bp, 0, none⟩)] (fun y : List Bool × Int => #[Pf (valOf W y.1) y.1.length, .int .i64 y.2]) (kept (undN p N)) S w := by
  intro m l J Jx W1 hW hl hJ hJx hY h0
  obtain ⟨h1, h2⟩ := hT.wd
  have hs := hW.size
  have HT : Hid (TrieAt W1 q W most a n N) := hT.below hW
  have HBT : Hid (Blk W1 bt #[.pointer (some ⟨q, 0, none⟩)] 24) := hbt.below hW
  have HBP : Hid (Blk W1 bp #[.int .u64 (hiOf (valOf W p)), .int .u64 (loOf (valOf W p)), .int .i64 p.length] 51) := hbp.below hW
  have HJ : Hid (LowG gt W1.heap.size J ∧ LowG gt W1.heap.size Jx) := ⟨hJ, hJx⟩
  have H0 : Hid (J [] W1) := h0
  have HY : Hid (∀ pre x W2, pre ++ [x] <+: kept (undN p N) → J pre W2 → YieldAt Fence.wide (m - 1) Try.prog l #[Pf (valOf W x.1) x.1.length, .int .i64 x.2] W2 fun e W' =>
      (e = .returned (.bool true) ∧ J (pre ++ [x]) W' ∧ Kept (Gst gt W1.heap.size S W2) W2 W') ∨ (e = .returned (.bool false) ∧ Jx (pre ++ [x]) W' ∧ Kept (fun k => Gst gt W1.heap.size S W2 k ∨ k = l) W2 W')) := hY
  have HMN : Hid (∀ x ∈ undN p N, x ∈ N) := fun x hx => (List.mem_filter.1 hx).1
  have HNB : Hid (∀ x ∈ N, x.blk < w.heap.size ∧ ∀ t v, x.th = some (t, v) → t < w.heap.size) := hT.hang.blks
  have HSN : Hid (Off S N) := hSN
  have CU : Hid (∀ w2, Below W1.heap.size W1 w2 → CallsIn Fence.wide (m - 1) Try.prog 51 #[.pointer (some ⟨q, 0, none⟩), Pf (valOf W p) p.length] w2 fun e w' => ∃ a', e = .returned (pt a') ∧ Hid ((∃ n', HangI W w' n' a' (undN p N)) ∧ Below w2.heap.size w2 w')) := fun w2 hb => callsIn_wide.2 (under51 h1 h2 hp q w2 _ _ a (HT.out.below hb).hd (HT.out.below hb).hang)
  have C49 : Hid (∀ w1, CallsIn Fence.wide (m - 1) Try.prog 49 #[Pf (valOf W p) p.length, .int .i64 W] w1 fun e w' => e = .returned (.bool true) ∧ Below w1.heap.size w1 w') := fun w1 => callsIn_wide.2 (by
    have := isPrefix_any (valOf W p) (val_is h2 hp) p.length W h1 h2 w1
    rw [isP_mk hp] at this; exact this)
  have C50 : Hid (∀ (a : Option Nat) w1, CallsIn Fence.wide (m - 1) Try.prog 50 #[pt a] w1 fun e w' => e = .returned (.func (.func 67) #[] #[.pointer (some ⟨w1.heap.size, 0, none⟩)]) ∧ Hid (Blk w' w1.heap.size #[pt a] 82 ∧ Below w1.heap.size w1 w')) := fun a w1 => callsIn_wide.2 (each_any a w1)
  have HL : Hid (∀ x ∈ undN p N, x.blk ≠ l ∧ ∀ t v, x.th = some (t, v) → t ≠ l) := by
    by_cases hM : undN p N = []
    · exact fun x hx => by rw [hM] at hx; cases hx
    · obtain ⟨a', hU⟩ : ∃ y ys, kept (undN p N) = y :: ys := by
        obtain ⟨n', a', hh⟩ := HT.out.hang.und p
        exact List.exists_cons_of_ne_nil (hh.kept_ne hM)
      obtain ⟨ys, hU⟩ := hU
      obtain ⟨fn, tmps, assign, body, g1, _⟩ := hY [] a' W1 (by rw [hU]; exact ⟨ys, rfl⟩) h0
      obtain ⟨r, hr⟩ := yield_loop g1
      intro x hx
      obtain ⟨b0, b1, hn⟩ := HT.out.hang.thing x (HMN.out x hx)
      refine ⟨fun e => ?_, fun t v ht e => ?_⟩
      · have := hn.cells
        unfold Blk at this
        rw [e, hr] at this; cases this
      · have := hn.thing t v ht
        unfold Blk at this
        rw [e, hr] at this; cases this
  have hmix : Try.prog.follows .mixedOrders = true := by kernel_rfl
  have HB : Hid _ := one_new W1 #[.func (.yield l) #[] #[]] 90
  have lq := HT.out.hd.lt
  clear hT hbt hbp hJ hJx h0 hY hSN
  refine callsIn_of_wp_marks Try.func48 rfl trivial ?_ rfl
  simp only [Try.ntmps48, List.size_toArray, List.length_cons, List.length_nil, Nat.reduceAdd, Nat.reduceSub, Array.replicate_succ, Array.replicate_zero, List.push_toArray, List.append_toArray, List.nil_append, List.cons_append]
  gi_upto_region 1 with fail
  generalize (W1.alloc _) = w0 at HB ⊢
  have x0 := two_cells (HBP.out.below HB.out.2.1) (i := 0) (v := .int .u64 (hiOf (valOf W p))) rfl
  have x1 := two_cells (HBP.out.below HB.out.2.1) (i := 1) (v := .int .u64 (loOf (valOf W p))) rfl
  have x2 := two_cells (HBP.out.below HB.out.2.1) (i := 2) (v := .int .i64 p.length) rfl
  have z0 := two_cells (HT.out.hd.below HB.out.2.1) (i := 0) (v := .int .i64 W) rfl
  have v0 := two_cells (HBT.out.below HB.out.2.1) (i := 0) (v := .pointer (some ⟨q, 0, none⟩)) rfl
  refine grows_wide hmix (by kernel_rfl) ?_
  repeat (gi_big_quiet_step (fail))
  refine Go.BigFrame.wpQuietIn_want (fun _ _ _ _ => trivial) (by rfl) ?_
  intro K2 hK2
  gi_big_quiet_op
  apply Exists.intro
  refine ⟨fun _ => ?_, ?_⟩
  · exact ⟨no_depth _, calls_gwIn (C49.out _)⟩
  go_big_quiet_on
  repeat (gi_big_quiet_step (fail))
  refine wpQuietIn_nil ?_
  intro wq hwq
  obtain ⟨zq, rfl⟩ := hwq
  have HC : Hid (Blk (gw zq) W1.heap.size #[.func (.yield l) #[] #[]] 90 ∧ Below W1.heap.size W1 (gw zq)) := ⟨HB.out.1.below (gw_below zq), bst HB.out.2.1 (gw_below zq)⟩
  clear x0 x1 x2 z0 v0 C49 HB
  generalize gw zq = w2 at *
  have y0 := (HBP.out.below HC.out.2).cell 0 (v := .int .u64 (hiOf (valOf W p))) rfl
  have y1 := (HBP.out.below HC.out.2).cell 1 (v := .int .u64 (loOf (valOf W p))) rfl
  have y2 := (HBP.out.below HC.out.2).cell 2 (v := .int .i64 p.length) rfl
  have v0 := (HBT.out.below HC.out.2).cell 0 (v := .pointer (some ⟨q, 0, none⟩)) rfl
  gi_wp2_with fail
  refine ⟨trivial, no_depth _, ?_⟩
  refine (CU.out _ HC.out.2).mono ?_
  rintro e w3 ⟨a', rfl, H3⟩
  have C50' := C50.out a'
  obtain ⟨P0, hP0⟩ : ∃ P0, pt a' = P0 := ⟨_, rfl⟩
  rw [hP0] at C50' ⊢
  have C5 : Hid (∀ w1, CallsIn Fence.wide (m - 1) Try.prog 50 #[P0] w1 fun e w' => e = .returned (.func (.func 67) #[] #[.pointer (some ⟨w1.heap.size, 0, none⟩)]) ∧ Hid (Blk w' w1.heap.size #[P0] 82 ∧ Below w1.heap.size w1 w')) := C50'
  clear y0 y1 y2 v0 CU C50 C50'
  gi_wp2_with fail
  refine ⟨trivial, no_depth _, ?_⟩
  refine (C5.out _).mono ?_
  rintro e w4 ⟨rfl, H4⟩
  clear C5
  obtain ⟨n', hh3⟩ := H3.out.1
  have HD : Hid (HangI W w4 n' a' (undN p N) ∧ Blk w4 w3.heap.size #[pt a'] 82 ∧ Blk w4 W1.heap.size #[.func (.yield l) #[] #[]] 90 ∧ Below W1.heap.size W1 w4) := ⟨hh3.below H4.out.2, by rw [hP0]; exact H4.out.1, (HC.out.1.below H3.out.2).below H4.out.2, bst (bst HC.out.2 H3.out.2) H4.out.2⟩
  clear H3 H4 hh3 HC hP0
  generalize w3.heap.size = bn at *
  have hwl := HD.out.2.2.2.size
  have hw1 := HD.out.2.2.1.lt
  obtain ⟨S', hS'⟩ : ∃ S' : Nat → Prop, S' = fun k => S k ∨ k = l ∨ (W1.heap.size ≤ k ∧ k < w4.heap.size ∧ IsRow gt w4 k) := ⟨_, rfl⟩
  have hS4 : ∀ k, S' k → k < w4.heap.size := fun k e => by
    rw [hS'] at e
    rcases e with e | e | e
    · have := hS k e; omega
    · omega
    · exact e.2.1
  have hoff : Off S' (undN p N) := fun x hx => by
    rw [hS']
    have g1 := HNB.out x (HMN.out x hx)
    have g2 := HSN.out x (HMN.out x hx)
    have g3 := HL.out x hx
    exact ⟨fun e => e.elim g2.1 (fun e => e.elim g3.1 (fun e => by have := e.1; have := g1.1; omega)), fun t v ht e => e.elim (g2.2 t v ht) (fun e => e.elim (g3.2 t v ht) (fun e => by have := e.1; have := g1.2 t v ht; omega))⟩
  have hy1 : ¬ S' W1.heap.size := fun e => by
    rw [hS'] at e
    rcases e with e | e | ⟨_, _, cs, f, e⟩
    · have := hS _ e; omega
    · omega
    · have := HD.out.2.2.1
      unfold Blk at this
      rw [this] at e; cases e; exact hg2 rfl
  have HO : Hid (Off S' (undN p N) ∧ ¬ S' W1.heap.size) := ⟨hoff, hy1⟩
  have HS' : Hid (S' = fun k => S k ∨ k = l ∨ (W1.heap.size ≤ k ∧ k < w4.heap.size ∧ IsRow gt w4 k)) := hS'
  have HG : Hid (∀ Wb W2, Kept S' w4 Wb → Below Wb.heap.size Wb W2 → ∀ k, k < Wb.heap.size → Gst gt W1.heap.size S W2 k → Gst gt w4.heap.size S' Wb k) := fun Wb W2 hk hb k hkb e => by
    rcases e with e | ⟨e1, cs, f, e2⟩
    · exact .inl (by rw [HS'.out]; exact .inl e)
    · rw [hb.block k hkb] at e2
      by_cases h : k < w4.heap.size
      · refine .inl ?_
        by_cases hs' : S' k
        · exact hs'
        · rw [hk.block k h hs'] at e2
          rw [HS'.out]; exact .inr (.inr ⟨e1, h, cs, f, e2⟩)
      · exact .inr ⟨by omega, cs, f, e2⟩
  have HJ2 : Hid (∀ s A k o, w4.heap.size ≤ k → ¬ IsRow gt A k → J s A → J s (A.putObj k o)) := fun s A k o h1 h2 hj => HJ.out.1 s A _ (kept_putObj _ A k o ⟨by omega, h2⟩) hj
  have HJ3 : Hid (∀ s A k o, w4.heap.size ≤ k → ¬ IsRow gt A k → Jx s A → Jx s (A.putObj k o)) := fun s A k o h1 h2 hj => HJ.out.2 s A _ (kept_putObj _ A k o ⟨by omega, h2⟩) hj
  have hI : LowG gt w4.heap.size (fun (pre : List (Nd Int)) W' => J (kept pre) W' ∧ Kept S' w4 W') := fun s A C hk hj => ⟨HJ.out.1 (kept s) A C (hk.mono fun k _ e => ⟨by omega, e.2⟩) hj.1, (low_kept (β := Unit) _ S' w4 (Nat.le_refl _)).g () A C hk hj.2⟩
  have hIx : ∀ c, LowG gt w4.heap.size (fun (pre : List (Nd Int)) W' => c = Code.ret ∧ ∃ pre', pre' <+: kept (undN p N) ∧ Jx pre' W') := fun c s A C hk ⟨e, pre', e1, hj⟩ => ⟨e, pre', e1, HJ.out.2 pre' A C (hk.mono fun k _ e => ⟨by omega, e.2⟩) hj⟩
  clear hS'
  have h04 : J (kept ([] : List (Nd Int))) w4 := HJ.out.1 _ _ _ (Kept.of_below HD.out.2.2.2) H0.out
  gi_wp2_with fail
  refine rangeG_outer (gt := gt) (gf := 67) (lb := #[.pointer (some ⟨bn, 0, none⟩)]) (encs := fun x : Nd Int => #[Value.pointer (some ⟨x.blk, 0, none⟩)]) (xs := undN p N) (S := S') rfl (enters_of Try.func67 (by kernel_rfl) rfl)
    hS4 (each_tellsG gt hg1 w4 HD.out.1 bn HD.out.2.1 S' hS4 hoff) (Below.refl _ _) (fun _ => rfl)
    (fun pre W' => J (kept pre) W' ∧ Kept S' w4 W') (fun c pre W' => c = .ret ∧ ∃ pre', pre' <+: kept (undN p N) ∧ Jx pre' W') hI hIx ⟨h04, Kept.refl _ _⟩ ?round ?done ?stop
  case stop =>
    rintro c pre W' _ ⟨rfl, pre', hp', hj⟩ hks hD'
    have HF : Hid (W'.heap[w4.heap.size]? = some (.deferred (some [])) ∧ Jx pre' (W'.putObj w4.heap.size (.deferred none))) := ⟨hD', HJ3.out _ _ _ _ (Nat.le_refl _) (fun ⟨_, _, e⟩ => by rw [hD'] at e; cases e) hj⟩
    have HP' : Hid (pre' <+: kept (undN p N)) := hp'
    clear hj hks hD' hp'
    gi_wp2_with fail
    refine ⟨by simp, .inl ⟨_, _, rfl, run_takeDeferred HF.out.1, ?_⟩⟩
    refine ⟨.tuple #[], ?_, ⟨_, rfl⟩, .inr ⟨pre', HP'.out, HF.out.2⟩⟩
    simp [results, Try.results48, go_sem]
  case done =>
    rintro W' ⟨hj, hK⟩ hks hD'
    have HF : Hid (W'.heap[w4.heap.size]? = some (.deferred (some [])) ∧ J (kept (undN p N)) (W'.putObj w4.heap.size (.deferred none))) := ⟨hD', HJ2.out _ _ _ _ (Nat.le_refl _) (fun ⟨_, _, e⟩ => by rw [hD'] at e; cases e) hj⟩
    clear hj hks hD' hK
    gi_wp2_with fail
    refine ⟨by simp, .inl ⟨_, _, rfl, run_takeDeferred HF.out.1, ?_⟩⟩
    refine ⟨.tuple #[], ?_, ⟨_, rfl⟩, .inl HF.out.2⟩
    simp [results, Try.results48, go_sem]
  case round =>
    rintro l' pre x W' K hl' ⟨rl, hlp⟩ hz hpre ⟨hj, hK⟩ hKK
    have hx : x ∈ undN p N := hpre.subset (by simp)
    obtain ⟨b0', b1', hnd⟩ := HD.out.1.thing x hx
    obtain ⟨A4, hA4⟩ : ∃ A : Value, A = pt b0' := ⟨_, rfl⟩
    obtain ⟨A5, hA5⟩ : ∃ A : Value, A = pt b1' := ⟨_, rfl⟩
    gi_wp2_with fail
    refine hKK _ _ (Kept.refl _ _) ?_
    intro Wb hkb hrec
    have hlt' := (Array.getElem?_eq_some_iff.1 hlp).1
    have hjb : J (kept pre) Wb := HJ.out.1 _ _ _ (hkb.mono fun k hk e => by
      have e' : k = l' := e
      subst e'
      exact ⟨by omega, fun ⟨_, _, e⟩ => by rw [hlp] at e; cases e⟩) hj
    have hKb : Kept S' w4 Wb := ⟨hkb.os.trans hK.os, hkb.tape.trans hK.tape, hkb.output.trans hK.output, Nat.le_trans hK.size hkb.size, fun k hk hs => (hkb.block k (Nat.lt_of_lt_of_le hk hK.size) (fun e => by have e' : k = l' := e; omega)).trans (hK.block k hk hs)⟩
    have eX : Blk Wb x.blk #[.int .u64 (hiOf (valOf W x.key)), .int .u64 (loOf (valOf W x.key)), .int .i64 x.key.length, pt (x.th.map (·.1)), A4, A5] 98 := by
      rw [hA4, hA5]
      exact hnd.cells.kept hKb (HO.out.1 x hx).1
    have eT : ∀ t v, x.th = some (t, v) → Blk Wb t #[encV v] 3 := fun t v ht => (hnd.thing t v ht).kept hKb ((HO.out.1 x hx).2 t v ht)
    have eY : Blk Wb W1.heap.size #[.func (.yield l) #[] #[]] 90 := HD.out.2.2.1.kept hKb HO.out.2
    have HE : Hid (J (kept pre) Wb ∧ Kept S' w4 Wb) := ⟨hjb, hKb⟩
    have HPre : Hid (kept pre ++ ownK x <+: kept (undN p N)) := by rw [← kept_snoc]; exact kept_pre hpre
    clear hA4 hA5 hnd hj hK hKK hkb hrec hpre hx hjb hlp
    cases ht : x.th with
    | none =>
      rw [ht] at eX
      have x3 := two_cells eX (i := 3) (v := .pointer none) rfl
      have HF : Hid (∀ z : Grown Wb, Kept (Gst gt w4.heap.size S' Wb) Wb (gw z) ∧ J (kept (pre ++ [x])) (gw z) ∧ Kept S' w4 (gw z)) := fun z => by
        have e : kept (pre ++ [x]) = kept pre := by rw [kept_snoc]; unfold ownK; rw [ht]; simp
        rw [e]
        exact ⟨Kept.of_below (gw_below z), HJ.out.1 _ _ _ (Kept.of_below (gw_below z)) HE.out.1, HE.out.2.trans (Kept.of_below (gw_below z))⟩
      clear eX ht eT eY
      gi_wp2_with fail
      refine grows_round hmix (by kernel_rfl) (by kernel_rfl) ?_
      repeat (gi_big_quiet_step (fail))
      refine Go.BigFrame.wpQuietIn_skip (fun _ _ _ _ => trivial) (by rfl) ?_
      go_simp
      repeat (gi_big_quiet_step (fail))
      refine wpQuietIn_nil ?_
      intro zq
      gi_wp2_with fail
      exact HF.out zq
    | some t =>
      obtain ⟨t, u⟩ := t
      rw [ht] at eX
      have eT' := eT t u ht
      have x0 := eX.cell 0 (v := .int .u64 (hiOf (valOf W x.key))) rfl
      have x1 := eX.cell 1 (v := .int .u64 (loOf (valOf W x.key))) rfl
      have x2 := eX.cell 2 (v := .int .i64 x.key.length) rfl
      have x3 := eX.cell 3 (v := .pointer (some ⟨t, 0, none⟩)) rfl
      have t0 := eT'.cell 0 (v := .int .i64 u) rfl
      have y0 := eY.cell 0 (v := .func (.yield l) #[] #[]) rfl
      have hown : ownK x = [(x.key, u)] := by unfold ownK; rw [ht]
      have HK : Hid (kept (pre ++ [x]) = kept pre ++ [(x.key, u)] ∧ kept pre ++ [(x.key, u)] <+: kept (undN p N)) := ⟨by rw [kept_snoc, hown], by rw [← hown]; exact HPre.out⟩
      have CT : Hid (∀ W2, Below Wb.heap.size Wb W2 → ∃ fn tmps assign body, (Instr.yield l #[Pf (valOf W x.key) x.key.length, .int .i64 u]).run Try.prog W2 = .ok (.round l fn tmps assign body) W2 ∧ Hid (∀ m', RoundIn Fence.wide m' Try.prog l fn tmps assign body W2 fun e w' => ∃ bb : Bool, e = .returned (.bool bb) ∧ Hid ((bb = true → Kept (Gst gt w4.heap.size S' Wb) Wb w' ∧ J (kept (pre ++ [x])) w' ∧ Kept S' w4 w') ∧ (bb = false → Kept (Gst gt w4.heap.size S' Wb) Wb w' ∧ ∃ pre', pre' <+: kept (undN p N) ∧ Jx pre' w')))) := fun W2 hb2 => by
        obtain ⟨fn, tmps, assign, body, g1, g2⟩ := HY.out (kept pre) (x.key, u) W2 HK.out.2 (HJ.out.1 _ _ _ (Kept.of_below hb2) HE.out.1)
        refine ⟨fn, tmps, assign, body, g1, (fun m' => ?_ : ∀ m', _)⟩
        obtain ⟨fn', tmps', assign', body', g1', g2'⟩ := yield_any (m' := m') ⟨fn, tmps, assign, body, g1, g2⟩
        rw [g1] at g1'
        cases g1'
        refine g2'.mono ?_
        have hgo : ∀ w', Kept (Gst gt W1.heap.size S W2) W2 w' → Kept (Gst gt w4.heap.size S' Wb) Wb w' := fun w' hk => ⟨hk.os.trans hb2.os, hk.tape.trans hb2.tape, hk.output.trans hb2.output, Nat.le_trans hb2.size hk.size, fun k hk' hs => (hk.block k (Nat.lt_of_lt_of_le hk' hb2.size) (fun e => hs (HG.out Wb W2 HE.out.2 hb2 k hk' e))).trans (hb2.block k hk')⟩
        have hgx : ∀ w', Kept (fun k => Gst gt W1.heap.size S W2 k ∨ k = l) W2 w' → Kept (Gst gt w4.heap.size S' Wb) Wb w' := fun w' hk => ⟨hk.os.trans hb2.os, hk.tape.trans hb2.tape, hk.output.trans hb2.output, Nat.le_trans hb2.size hk.size, fun k hk' hs => (hk.block k (Nat.lt_of_lt_of_le hk' hb2.size) (fun e => e.elim (fun e => hs (HG.out Wb W2 HE.out.2 hb2 k hk' e)) (fun e => hs (.inl (by rw [HS'.out]; exact .inr (.inl e)))))).trans (hb2.block k hk')⟩
        have hk4 : ∀ w', Kept (Gst gt w4.heap.size S' Wb) Wb w' → Kept S' w4 w' := fun w' hk => ⟨hk.os.trans HE.out.2.os, hk.tape.trans HE.out.2.tape, hk.output.trans HE.out.2.output, Nat.le_trans HE.out.2.size hk.size, fun k hk' hs => (hk.block k (Nat.lt_of_lt_of_le hk' HE.out.2.size) (fun e => e.elim hs (fun e => by have := e.1; omega))).trans (HE.out.2.block k hk' hs)⟩
        rintro e w' (⟨rfl, hj, hk⟩ | ⟨rfl, hj, hk⟩)
        · exact ⟨true, rfl, (⟨fun _ => ⟨hgo _ hk, by rw [HK.out.1]; exact hj, hk4 _ (hgo _ hk)⟩, fun e => (nomatch e)⟩ : _ ∧ _)⟩
        · exact ⟨false, rfl, (⟨fun e => (nomatch e), fun _ => ⟨hgx _ hk, _, HK.out.2, hj⟩⟩ : _ ∧ _)⟩
      clear eX ht eT eY eT' hown
      gi_wp2_with fail
      gi_cut [40] from 21 (fun t wx => ∃ bb : Bool, t = .bool (!bb) ∧ Hid ((bb = true → Kept (Gst gt w4.heap.size S' Wb) Wb wx ∧ J (kept (pre ++ [x])) wx ∧ Kept S' w4 wx) ∧ (bb = false → Kept (Gst gt w4.heap.size S' Wb) Wb wx ∧ ∃ pre', pre' <+: kept (undN p N) ∧ Jx pre' wx)))
      case first =>
        have x0' := gw_cell x0
        have x1' := gw_cell x1
        have x2' := gw_cell x2
        have x3' := gw_cell x3
        have t0' := gw_cell t0
        have y0' := gw_cell y0
        clear HT HBT HBP HJ H0 HY HMN HNB HSN HL HD HO HG HJ2 HJ3 hI hIx h04 HE HPre HK HS' hS4 hoff hy1 hKb hS hW hs hwl hw1 hz hl' hlt' rl x0 x1 x2 x3 t0 y0
        refine gate_round 17 hmix (by kernel_rfl) (by kernel_rfl) (by kernel_rfl) (by kernel_rfl) ?_
        simp only [List.take_succ_cons, List.take_zero]
        repeat (gi_big_quiet_step (fail))
        refine wpQuietIn_nil ?_
        intro wq hwq
        obtain ⟨zq, rfl⟩ := hwq
        obtain ⟨fn, tmps, assign, body, hyi, HRd⟩ := CT.out (gw zq) (gw_below zq)
        clear CT x0' x1' x2' x3' t0' y0'
        generalize gw zq = w5 at *
        change wpAnyIn _ _ _ _ _ _ 3 (upTo 17 3) _ _
        refine wpAnyIn_ready (rs := [17]) (by kernel_rfl) (by simp) ?_
        refine AllReadyIn.cons rfl (fun K5 hK5 => ?_) AllReadyIn.nil
        go_simp
        refine ⟨no_depth _, ?_⟩
        refine (HRd.out _).mono ?_
        rintro e w7 ⟨bb, rfl, HM7⟩
        refine hK5 _ _ ?_
        clear hK5 K5
        refine wpAnyIn_ready (rs := [18]) (by kernel_rfl) (by simp) ?_
        refine AllReadyIn.cons rfl (fun K5 hK5 => ?_) AllReadyIn.nil
        go_simp
        refine hK5 _ _ ?_
        clear hK5 K5
        refine wpAnyIn_ready (rs := [19]) (by kernel_rfl) (by simp) ?_
        refine AllReadyIn.cons rfl (fun K5 hK5 => ?_) AllReadyIn.nil
        go_simp
        refine hK5 _ _ ?_
        clear hK5 K5
        refine wpAnyIn_done (by kernel_rfl) ?_ _
        gi_wp2_with fail
        go_meet
        exact ⟨bb, rfl, HM7⟩
      case rest =>
        obtain ⟨bb, rfl, HM7⟩ := hcut
        cases bb
        · have HF : Hid (Kept (Gst gt w4.heap.size S' Wb) Wb wc ∧ ∃ pre', pre' <+: kept (undN p N) ∧ Jx pre' wc) := HM7.out.2 rfl
          gi_wp2_with fail
          exact ⟨HF.out.1, rfl, HF.out.2⟩
        · have HF := HM7.out.1 rfl
          gi_wp2_with fail
          exact HF
end Go.Proofs.Ytgdpplipahhffaa
namespace Go.Proofs.Ytgdpplipahhffaa
open Go.RowKit
set_option linter.unusedVariables false
set_option linter.unusedSimpArgs false

theorem tx_less : ∀ a b : List Bool, Op.bytesLess (tx a).toList (tx b).toList = klt a b := by
  intro a b
  rw [ByteArray.toList_eq, ByteArray.toList_eq]
  show Op.bytesLess (chB a) (chB b) = _
  induction a generalizing b with
  | nil => cases b with
    | nil => rfl
    | cons y b => rfl
  | cons x a ih => cases b with
    | nil => rfl
    | cons y b =>
      have := ih b
      rw [show chB (x :: a) = (if x then 49 else 48) :: chB a from rfl, show chB (y :: b) = (if y then 49 else 48) :: chB b from rfl]
      cases x <;> cases y <;> simp [Op.bytesLess, klt, this]
theorem und_nil {V : Type} (N : List (Nd V)) : undN [] N = N := by
  unfold undN
  rw [List.filter_eq_self]
  intro x _
  simp
theorem val_nil (W : Nat) : valOf W [] = 0 := by
  unfold valOf; simp
theorem kept_und {V : Type} (p : List Bool) (N : List (Nd V)) : kept (undN p N) = (kept N).filter fun y => decide (p <+: y.1) := kept_filter (fun k => decide (p <+: k)) N
/-- A prefix appended to a row of them. -/
theorem app_pf {W : Nat} (w : World) (B : Nat) (s : Value) (K : List (List Bool)) (p : List Bool) (hown : w.ownsRow B 51 3 s K.length (rowK W K)) (hB : B ≤ w.heap.size) (hK : K.length + 1 ≤ 1000000) :
    ∃ s' W2, Sem.run Try.prog (appd #[65, 65] 65 #[s, .slice (some ⟨w.heap.size, 0, none⟩) 1 1]) (w.alloc (.cells #[.int .u64 (hiOf (valOf W p)), .int .u64 (loOf (valOf W p)), .int .i64 p.length] 51)) = .ok s' W2 ∧
      W2.ownsRow B 51 3 s' (K ++ [p]).length (rowK W (K ++ [p])) ∧ (∃ ba bc, s' = .slice ba (K.length + 1) bc) ∧ Kept (fun k => s.ownBlock = some k) w W2 ∧ (s'.ownBlock = s.ownBlock ∨ ∃ g, s'.ownBlock = some g ∧ w.heap.size ≤ g) := by
  obtain ⟨i0, hi, hz0, hz1, hz2⟩ := info_parts info51
  have hA : Blk (w.alloc (.cells #[.int .u64 (hiOf (valOf W p)), .int .u64 (loOf (valOf W p)), .int .i64 p.length] 51)) w.heap.size #[.int .u64 (hiOf (valOf W p)), .int .u64 (loOf (valOf W p)), .int .i64 p.length] 51 := Blk.new w _ 51
  have hb : Below w.heap.size w (w.alloc (.cells #[.int .u64 (hiOf (valOf W p)), .int .u64 (loOf (valOf W p)), .int .i64 p.length] 51)) := (Below.refl _ _).alloc (Nat.le_refl _) _
  obtain ⟨s', W2, hr, ho2, hg2, _, hat⟩ := run_append_own_at (P := Try.prog) (w := w.alloc (.cells #[.int .u64 (hiOf (valOf W p)), .int .u64 (loOf (valOf W p)), .int .i64 p.length] 51)) B 65 65 51 i0 _ 3 24 Try.underlying65 hi hz0 hz1 hz2 rfl (by decide) s _ _
    (ownsRow_kept hown (Kept.of_below (S := fun _ => False) hb) (fun k _ e => e)) ⟨w.heap.size, 0, none⟩ 1 1 (pfC W p) rfl (fun j u hu => by
      rw [Addr.add_mid, Nat.zero_add]
      rw [← List.getElem?_toArray] at hu
      exact hA.cell j hu) (fun u hu => by
      simp only [pfC, List.mem_cons, List.not_mem_nil, or_false] at hu
      rcases hu with rfl | rfl | rfl <;> rfl) (by unfold maxLen; omega) (by omega) (Nat.le_trans hB hb.size)
  refine ⟨s', W2, hr, ?_, ?_, (Kept.of_below hb).trans ⟨hg2.os, hg2.tape, hg2.output, hg2.size, fun k hk hs => hg2.block k hk (fun e => hs e.symm)⟩, ?_⟩
  · rw [rowK_snoc, List.length_append]; exact ho2
  · exact ownsRow_slice ho2
  · rcases hat with h | h
    · exact .inl h
    · exact .inr ⟨_, h, by have := hb.size; omega⟩
theorem under_tells_bad {α : Type} (gt : TypeId) (encs : α → Array Value) {w : World} {q W most : Nat} {a : Option Nat} {n : Nat} {N : List (Nd Int)} (hT : TrieAt w q W most a n N) (v : Nat) (hv : Is128 v) (l0 : Int) (hP : isP W v l0 = false)
    (bt bp : Nat) (hbt : Blk w bt #[.pointer (some ⟨q, 0, none⟩)] 24) (hbp : Blk w bp #[.int .u64 (hiOf v), .int .u64 (loOf v), .int .i64 l0] 51) (S : Nat → Prop) :
    TellsG gt Try.prog 48 #[.pointer (some ⟨bt, 0, none⟩), .pointer (some ⟨bp, 0, none⟩)] encs [] S w := by
  intro m l J Jx W1 hW hl hJ hJx hY h0
  obtain ⟨h1, h2⟩ := hT.wd
  have HJ : Hid (∀ w', Below W1.heap.size W1 w' → J [] w') := fun w' hb => hJ _ _ _ (Kept.of_below hb) h0
  have HB : Hid _ := one_new W1 #[.func (.yield l) #[] #[]] 90
  have C49 : Hid (∀ w1, CallsIn Fence.wide (m - 1) Try.prog 49 #[Pf v l0, .int .i64 W] w1 fun e w' => e = .returned (.bool false) ∧ Below w1.heap.size w1 w') := fun w1 => callsIn_wide.2 (by
    have := isPrefix_any v hv l0 W h1 h2 w1
    rw [hP] at this; exact this)
  have x0 := two_cells ((hbp.below hW).below HB.out.2.1) (i := 0) (v := .int .u64 (hiOf v)) rfl
  have x1 := two_cells ((hbp.below hW).below HB.out.2.1) (i := 1) (v := .int .u64 (loOf v)) rfl
  have x2 := two_cells ((hbp.below hW).below HB.out.2.1) (i := 2) (v := .int .i64 l0) rfl
  have z0 := two_cells ((hT.hd.below hW).below HB.out.2.1) (i := 0) (v := .int .i64 W) rfl
  have v0 := two_cells ((hbt.below hW).below HB.out.2.1) (i := 0) (v := .pointer (some ⟨q, 0, none⟩)) rfl
  have hmix : Try.prog.follows .mixedOrders = true := by kernel_rfl
  clear hT hbt hbp hJ hJx h0 hY hW hP hv
  refine callsIn_of_wp_marks Try.func48 rfl trivial ?_ rfl
  simp only [Try.ntmps48, List.size_toArray, List.length_cons, List.length_nil, Nat.reduceAdd, Nat.reduceSub, Array.replicate_succ, Array.replicate_zero, List.push_toArray, List.append_toArray, List.nil_append, List.cons_append]
  gi_upto_region 1 with fail
  generalize (W1.alloc _) = w0 at *
  refine grows_wide hmix (by kernel_rfl) ?_
  repeat (gi_big_quiet_step (fail))
  refine Go.BigFrame.wpQuietIn_want (fun _ _ _ _ => trivial) (by rfl) ?_
  intro K2 hK2
  gi_big_quiet_op
  apply Exists.intro
  refine ⟨fun _ => ?_, ?_⟩
  · exact ⟨no_depth _, calls_gwIn (C49.out _)⟩
  go_big_quiet_on
  repeat (gi_big_quiet_step (fail))
  refine wpQuietIn_nil ?_
  intro wq hwq
  obtain ⟨zq, rfl⟩ := hwq
  have HF : Hid (J [] (gw zq)) := HJ.out _ (bst HB.out.2.1 (gw_below zq))
  clear x0 x1 x2 z0 v0 C49 HB HJ
  gi_wp2_with fail
  refine ⟨.tuple #[], ?_, ⟨_, rfl⟩, .inl HF.out⟩
  simp [results, Try.results48, go_sem]
/-- The region's law outside rounds. -/
theorem gate_wide {n : Nat} {P : Program} {id : Nat} {Q : Exit → Act → World → Prop} {a : Act} {w : World} {l : List Oper} (k : Nat) (hm : P.follows .mixedOrders = true) (hg : gate .any l.toArray k = true)
    (hs : Region.noSelect (l.take k).toArray = true) (hB : Region.lexFrom .any (l.take k).toArray (l.take k).length 0 (Array.replicate l.length false) = true)
    (h : wpQuietIn Fence.wide n P (l.take k).toArray (fun w' => ∃ z : Grown w, w' = gw z) (fun a' => ∀ w', (∃ z : Grown w, w' = gw z) → wpAnyIn Fence.wide n P .any l.toArray Q (l.length - k) (upTo k (l.length - k)) a' w') (l.take k) a) :
    (Code.region id l.toArray true).wpIn Fence.wide n P Q a w := by
  have hG := gate_of hg
  have hk : k < l.length := by simpa using hG.lt
  refine wpIn_region_any hm ?_
  have h2 := wpAnyQIn_lex (F := Fence.wide) (n := n) (C := fun w' => ∃ z : Grown w, w' = gw z) (md := .any) hs (l.take k) 0 (Array.replicate l.length false) a (by simp) hB h
  have h3 := any_gate (F := Fence.wide) (n := n) (P := P) (Q' := Q) (C := fun w' => ∃ z : Grown w, w' = gw z) rfl hG (fun a w hw h => h w hw) _ _ _ _ (gw_drawn w) (ahead_start hk) h2
  have e : (l.take k).length + (l.length - k) = l.toArray.size := by simp; omega
  rw [e] at h3
  simpa using h3
end Go.Proofs.Ytgdpplipahhffaa
