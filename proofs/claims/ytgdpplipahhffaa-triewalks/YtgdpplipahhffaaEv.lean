/- Package trie: Every. -/
import Derived.Test.YtgdpplipahhffaaGp
import Derived.Test.YtgdpplipahhffaaGs
import Derived.Test.YtgdpplipahhffaaGo
namespace Go.Proofs.Ytgdpplipahhffaa
open Go.RowKit
set_option linter.unusedVariables false
set_option linter.unusedSimpArgs false

theorem info51 : (Try.prog.info? 51).map (fun i => (i.zero, i.size, i.bytes)) = some (some (.agg #[.int .u64 0, .int .u64 0, .int .i64 0]), 3, 24) := by kernel_rfl
def pfC (W : Nat) (p : List Bool) : List Value := [.int .u64 (hiOf (valOf W p)), .int .u64 (loOf (valOf W p)), .int .i64 p.length]
/-- Prefixes, as they lie one behind the other. -/
def rowK (W : Nat) (L : List (List Bool)) : List Value := L.flatMap (pfC W)
theorem rowK_snoc (W : Nat) (L : List (List Bool)) (p : List Bool) : rowK W (L ++ [p]) = rowK W L ++ pfC W p := by simp [rowK]
abbrev keys {V : Type} (l : List (List Bool × V)) : List (List Bool) := l.map (·.1)
theorem keys_snoc_none {V : Type} {pre : List (Nd V)} {x : Nd V} (h : x.th = none) : keys (kept (pre ++ [x])) = keys (kept pre) := by
  rw [kept_append]; simp [kept, ownK, h]
theorem keys_snoc_some {V : Type} {pre : List (Nd V)} {x : Nd V} {t : Nat × V} (h : x.th = some t) : keys (kept (pre ++ [x])) = keys (kept pre) ++ [x.key] := by
  rw [kept_append]; simp [kept, ownK, h]
attribute [local go_sem] Oper.semAt_some
attribute [local go_sem ↓] append_appd
set_option maxHeartbeats 4000000 in
set_option maxRecDepth 100000 in
theorem every_core {W : Nat} (w : World) (qa : Option Addr) (v : Nat) (gf : Nat) (eg : ∀ args w, (callFunc gf args).run Try.prog w = .ok (.enter gf args) w) (M : List (Nd Int)) (hM : ∀ x ∈ M, ∃ a0 a1, NodeAt 98 3 encV W w x a0 a1) (hlen : M.length ≤ 1000000)
    (hmet : ∀ w1, Below w.heap.size w w1 → Calls Try.prog 57 #[.pointer qa, B v] w1 fun e w' => ∃ lb, e = .returned (.func (.func gf) #[] lb) ∧ Hid (Below w1.heap.size w1 w' ∧ ∀ S : Nat → Prop, (∀ k, S k → w.heap.size ≤ k ∧ k < w1.heap.size) → TellsG 51 Try.prog gf lb (fun x : Nd Int => #[Value.pointer (some ⟨x.blk, 0, none⟩)]) M S w')) :
    Calls Try.prog 27 #[.pointer qa, B v] w fun e w' => ∃ s, e = .returned s ∧ w'.ownsRow w.heap.size 51 3 s (keys (kept M)).length (rowK W (keys (kept M))) ∧ Below w.heap.size w w' := by
  suffices h : ∀ m, CallsIn Fence.wide m Try.prog 27 #[.pointer qa, B v] w fun e w' => ∃ s, e = .returned s ∧ w'.ownsRow w.heap.size 51 3 s (keys (kept M)).length (rowK W (keys (kept M))) ∧ Below w.heap.size w w' from callsIn_wide.1 (h 0)
  intro m
  obtain ⟨i0, hi, hz0, hz1, hz2⟩ := info_parts info51
  have HB := two_new' w #[.int .u64 (hiOf v), .int .u64 (loOf v)] #[.slice none 0 0] 33 65
  have HM : Hid (∀ x ∈ M, ∃ a0 a1, NodeAt 98 3 encV W w x a0 a1) := hM
  have HL : Hid (∀ pre x, pre ++ [x] <+: M → (keys (kept pre)).length + 1 ≤ 1000000) := fun pre x h => by
    have h1 := h.length_le
    have h2 : ∀ l : List (Nd Int), (keys (kept l)).length ≤ l.length := fun l => by
      induction l with
      | nil => exact Nat.le_refl _
      | cons y l ih =>
        have h3 : (ownK y).length ≤ 1 := by unfold ownK; cases y.th <;> simp
        simp only [keys, List.length_map, kept, List.length_append, List.length_cons] at ih ⊢; omega
    have := h2 pre
    simp at h1
    omega
  have C57 : Hid (∀ w1, Below w.heap.size w w1 → CallsIn Fence.wide (m - 1) Try.prog 57 #[.pointer qa, B v] w1 fun e w' => ∃ lb, e = .returned (.func (.func gf) #[] lb) ∧ Hid (Below w1.heap.size w1 w' ∧ ∀ S : Nat → Prop, (∀ k, S k → w.heap.size ≤ k ∧ k < w1.heap.size) → TellsG 51 Try.prog gf lb (fun x : Nd Int => #[Value.pointer (some ⟨x.blk, 0, none⟩)]) M S w')) := fun w1 h => callsIn_wide.2 (hmet w1 h)
  have hmix : Try.prog.follows .mixedOrders = true := by kernel_rfl
  have EG : Hid (∀ args w, (callFunc gf args).run Try.prog w = .ok (.enter gf args) w) := eg
  clear hM hmet eg hlen
  refine callsIn_of_wp_marks Try.func27 rfl trivial ?_ rfl
  simp only [Try.ntmps27, List.size_toArray, List.length_cons, List.length_nil, Nat.reduceAdd, Nat.reduceSub, Array.replicate_succ, Array.replicate_zero, List.push_toArray, List.append_toArray, List.nil_append, List.cons_append]
  gi_upto_region 2 with fail
  generalize ((w.alloc _).alloc _) = w0 at HB ⊢
  generalize hA : w.heap.size + 1 = A1 at *
  have lA := HB.out.2.2.2
  have y0 := HB.out.1.cell 0 (v := .int .u64 (hiOf v)) rfl
  have y1 := HB.out.1.cell 1 (v := .int .u64 (loOf v)) rfl
  gi_wp2_with fail
  refine ⟨trivial, no_depth _, ?_⟩
  refine (C57.out _ HB.out.2.2.1).mono ?_
  rintro e w3 ⟨lb, rfl, H3⟩
  clear y0 y1 C57
  have HD : Hid (Blk w3 A1 #[.slice none 0 0] 65 ∧ Below w.heap.size w w3 ∧ TellsG 51 Try.prog gf lb (fun x : Nd Int => #[Value.pointer (some ⟨x.blk, 0, none⟩)]) M (fun k => k = A1) w3 ∧ w0.heap.size ≤ w3.heap.size) := ⟨HB.out.2.1.below H3.out.1, bst HB.out.2.2.1 H3.out.1, H3.out.2 (fun k => k = A1) (fun k e => by have e' : k = A1 := e; omega), H3.out.1.size⟩
  clear H3 HB
  have l3 := HD.out.1.lt
  gi_wp2_with fail
  refine rangeG_outer (gt := 51) (gf := gf) (lb := lb) (encs := fun x : Nd Int => #[Value.pointer (some ⟨x.blk, 0, none⟩)]) (xs := M) (S := fun k => k = A1) rfl EG.out
    (fun k e => by have e' : k = A1 := e; omega)
    HD.out.2.2.1 (Below.refl _ _) (fun _ => rfl)
    (fun pre W' => ∃ s, Blk W' A1 #[s] 65 ∧ W'.ownsRow w3.heap.size 51 3 s (keys (kept pre)).length (rowK W (keys (kept pre))) ∧ Kept (fun k => k = A1) w3 W')
    (fun c pre W' => False)
    (LowG.ex fun s => (low_blk _ _ (fun pre : List (Nd Int) => #[s]) _ (by omega)).g.and ((lowG_row _ _ _ _ _ _ _).and (low_kept _ _ _ (Nat.le_refl _)).g))
    (fun c => (low_pure _ _).g)
    ⟨_, HD.out.1, World.ownsRow_nil _ _ _ _, Kept.refl _ _⟩ ?round ?done ?stop
  case stop =>
    rintro c pre W' _ hf
    exact hf.elim
  case round =>
    rintro l pre x W' K hl ⟨rl, hlp⟩ hz hpre ⟨s, b0, ho, hK⟩ hKK
    have hx : x ∈ M := hpre.subset (by simp)
    have hcount := HL.out pre x hpre
    obtain ⟨a0, a1, hn⟩ := HM.out x hx
    have hn3 := hn.below HD.out.2.1 |>.cells
    have hxlt := hn.cells.lt
    obtain ⟨A4, hA4⟩ : ∃ A : Value, A = pt a0 := ⟨_, rfl⟩
    obtain ⟨A5, hA5⟩ : ∃ A : Value, A = pt a1 := ⟨_, rfl⟩
    gi_wp2_with fail
    refine hKK _ _ (Kept.refl _ _) ?_
    intro Wb hkb hrec
    have e1 : Blk Wb A1 #[s] 65 := b0.kept hkb (by show ¬ _ = _; omega)
    have hob : Wb.ownsRow w3.heap.size 51 3 s (keys (kept pre)).length (rowK W (keys (kept pre))) := ownsRow_kept ho hkb (fun k hk e => by
      have e' : k = l := e
      subst e'
      rcases ho.2 with ⟨e1, _⟩ | ⟨b, cap, cur, e1, _, hg, _⟩
      · rw [e1] at hk; simp [Value.ownBlock] at hk
      · rw [e1] at hk
        simp [Value.ownBlock] at hk
        subst hk
        rw [hlp] at hg; cases hg)
    have eX : Blk Wb x.blk #[.int .u64 (hiOf (valOf W x.key)), .int .u64 (loOf (valOf W x.key)), .int .i64 x.key.length, pt (x.th.map (·.1)), A4, A5] 98 := by
      rw [hA4, hA5]
      exact (hn3.kept hK (by show ¬ _ = _; omega)).kept hkb (by have := hn3.lt; show ¬ _ = _; omega)
    have hKb : Kept (fun k => k = A1) w3 Wb := ⟨hkb.os.trans hK.os, hkb.tape.trans hK.tape, hkb.output.trans hK.output, Nat.le_trans hK.size hkb.size, fun k hk hs => (hkb.block k (Nat.lt_of_lt_of_le hk hK.size) (fun e => by have e' : k = l := e; omega)).trans (hK.block k hk hs)⟩
    have HE : Hid (Blk Wb A1 #[s] 65 ∧ Wb.ownsRow w3.heap.size 51 3 s (keys (kept pre)).length (rowK W (keys (kept pre))) ∧ Kept (fun k => k = A1) w3 Wb) := ⟨e1, hob, hKb⟩
    have f0 := e1.frozen 0
    have c0 := e1.cell 0 (v := s) rfl
    clear b0 ho hK hKK hkb hrec e1 hKb hn hn3 hpre hx hA4 hA5 hob hlp
    cases ht : x.th with
    | none =>
      rw [ht] at eX
      have x3 := eX.cell 3 (v := .pointer none) rfl
      have HF : Hid (Wb.ownsRow w3.heap.size 51 3 s (keys (kept (pre ++ [x]))).length (rowK W (keys (kept (pre ++ [x]))))) := by
        rw [keys_snoc_none ht]; exact HE.out.2.1
      clear eX ht
      gi_wp2_with fail
      exact ⟨Kept.refl _ _, s, HE.out.1, HF.out, HE.out.2.2⟩
    | some t =>
      obtain ⟨t, u⟩ := t
      rw [ht] at eX
      have x0 := eX.cell 0 (v := .int .u64 (hiOf (valOf W x.key))) rfl
      have x1 := eX.cell 1 (v := .int .u64 (loOf (valOf W x.key))) rfl
      have x2 := eX.cell 2 (v := .int .i64 x.key.length) rfl
      have x3 := eX.cell 3 (v := .pointer (some ⟨t, 0, none⟩)) rfl
      have HK : Hid (keys (kept (pre ++ [x])) = keys (kept pre) ++ [x.key]) := keys_snoc_some ht
      clear eX ht
      gi_wp2_with fail
      have HA : Hid (Blk ((Wb.alloc (.cells #[.int .u64 (hiOf (valOf W x.key)), .int .u64 (loOf (valOf W x.key)), .int .i64 x.key.length] 51)).drew) Wb.heap.size #[.int .u64 (hiOf (valOf W x.key)), .int .u64 (loOf (valOf W x.key)), .int .i64 x.key.length] 51 ∧ Below Wb.heap.size Wb ((Wb.alloc (.cells #[.int .u64 (hiOf (valOf W x.key)), .int .u64 (loOf (valOf W x.key)), .int .i64 x.key.length] 51)).drew)) :=
        ⟨Blk.new Wb _ 51, ((Below.refl _ _).alloc (Nat.le_refl _) _).drew⟩
      obtain ⟨s', W2, hr, ho2, hg2, _⟩ := run_append_own (P := Try.prog) (w := (Wb.alloc (.cells #[.int .u64 (hiOf (valOf W x.key)), .int .u64 (loOf (valOf W x.key)), .int .i64 x.key.length] 51)).drew) w3.heap.size 65 65 51 i0 _ 3 24 Try.underlying65 hi hz0 hz1 hz2 rfl (by decide) s _ _
        (ownsRow_kept HE.out.2.1 (Kept.of_below (S := fun _ => False) HA.out.2) (fun k _ e => e)) ⟨Wb.heap.size, 0, none⟩ 1 1 (pfC W x.key) rfl (fun j u hu => by
          rw [Addr.add_mid, Nat.zero_add]
          rw [← List.getElem?_toArray] at hu
          exact HA.out.1.cell j hu) (fun u hu => by
          simp only [pfC, List.mem_cons, List.not_mem_nil, or_false] at hu
          rcases hu with rfl | rfl | rfl <;> rfl) (by unfold maxLen; omega) (by omega) (Nat.le_trans (by have := HE.out.2.2.size; exact this) HA.out.2.size)
      obtain ⟨ba, bc, rfl⟩ := ownsRow_slice ho2
      change Sem.run Try.prog (appd #[65, 65] 65 _) _ = _ at hr
      have HG : Hid (Kept (Gst 51 w3.heap.size (fun k => k = A1) Wb) Wb W2 ∧ Blk W2 A1 #[s] 65 ∧ W2.ownsRow w3.heap.size 51 3 (.slice ba ((keys (kept pre)).length + 1) bc) (keys (kept (pre ++ [x]))).length (rowK W (keys (kept (pre ++ [x]))))) := by
        have hob := HE.out.2.1
        have hne : ∀ k, s.ownBlock = some k → w3.heap.size ≤ k ∧ IsRow 51 Wb k := fun k hk => by
          rcases hob.2 with ⟨e1, _⟩ | ⟨b, cap, cur, e1, hb, hg, _⟩
          · rw [e1] at hk; simp [Value.ownBlock] at hk
          · rw [e1] at hk
            simp [Value.ownBlock] at hk
            subst hk
            exact ⟨hb, _, _, hg⟩
        have hk : Kept (fun k => s.ownBlock = some k) Wb W2 := (Kept.of_below HA.out.2).trans ⟨hg2.os, hg2.tape, hg2.output, hg2.size, fun k hk hs => hg2.block k hk (fun e => hs e.symm)⟩
        refine ⟨hk.mono (fun k _ e => .inr (hne k e)), HE.out.1.kept hk (fun e => by have := (hne _ e).1; omega), ?_⟩
        rw [HK.out, rowK_snoc, List.length_append]
        exact ho2
      have f2 := HG.out.2.1.frozen 0
      have c2 := HG.out.2.1.cell 0 (v := s) rfl
      have l4 := HE.out.1.lt
      have c4 : (Wb.alloc (.cells #[.int .u64 (hiOf (valOf W x.key)), .int .u64 (loOf (valOf W x.key)), .int .i64 x.key.length] 51)).drew.cell? ⟨A1, 0, none⟩ = some s := (HE.out.1.below HA.out.2).cell 0 rfl
      have HF : Hid (Kept (Gst 51 w3.heap.size (fun k => k = A1) Wb) Wb (W2.setCell ⟨A1, 0, none⟩ (.slice ba ((keys (kept pre)).length + 1) bc)) ∧ Blk (W2.setCell ⟨A1, 0, none⟩ (.slice ba ((keys (kept pre)).length + 1) bc)) A1 #[.slice ba ((keys (kept pre)).length + 1) bc] 65 ∧
          (W2.setCell ⟨A1, 0, none⟩ (.slice ba ((keys (kept pre)).length + 1) bc)).ownsRow w3.heap.size 51 3 (.slice ba ((keys (kept pre)).length + 1) bc) (keys (kept (pre ++ [x]))).length (rowK W (keys (kept (pre ++ [x])))) ∧ Kept (fun k => k = A1) w3 (W2.setCell ⟨A1, 0, none⟩ (.slice ba ((keys (kept pre)).length + 1) bc))) := by
        have k1 := HG.out.1.set (p := ⟨A1, 0, none⟩) (.inl rfl) (.slice ba ((keys (kept pre)).length + 1) bc)
        refine ⟨k1, HG.out.2.1.set 0 _, ownsRow_kept HG.out.2.2 ((Kept.refl (fun k => k = A1) W2).set (p := ⟨A1, 0, none⟩) rfl _) (fun k hk e => by have e' : k = A1 := e; have := (HG.out.2.2.lt k hk).1; omega), ?_⟩
        have hK := HE.out.2.2
        exact ⟨k1.os.trans hK.os, k1.tape.trans hK.tape, k1.output.trans hK.output, Nat.le_trans hK.size k1.size, fun k hk hs => (k1.block k (Nat.lt_of_lt_of_le hk hK.size) (fun e => e.elim hs (fun e => by have := e.1; omega))).trans (hK.block k hk hs)⟩
      clear ho2 hg2 HE HG HA
      generalize (keys (kept pre)).length + 1 = n1 at hr HF
      gi_region_with (fail)
      all_goals (
        gi_wp2_with fail
        exact ⟨HF.out.1, _, HF.out.2.1, HF.out.2.2.1, HF.out.2.2.2⟩)
  case done =>
    rintro W' ⟨s, b0, ho, hK⟩ hks hD'
    have hwl : w3.heap.size < W'.heap.size := (Array.getElem?_eq_some_iff.1 hD').1
    have HW : Hid (W'.ownsRow w3.heap.size 51 3 s (keys (kept M)).length (rowK W (keys (kept M))) ∧ W'.heap[w3.heap.size]? = some (.deferred (some [])) ∧ Below w.heap.size w W') := ⟨ho, hD', HD.out.2.1.trans (hK.below HD.out.2.1.size (fun k e => by have e' : k = A1 := e; omega))⟩
    have c0 := b0.cell 0 (v := s) rfl
    have hlo : w.heap.size ≤ w3.heap.size := HD.out.2.1.size
    clear hK hks ho b0
    gi_wp2_with fail
    refine ⟨by simp, .inl ⟨_, _, rfl, run_takeDeferred HW.out.2.1, ?_⟩⟩
    have hkk := kept_putObj (fun k => k = w3.heap.size) W' w3.heap.size (.deferred none) rfl
    refine ⟨s, ?_, _, rfl, ?_, HW.out.2.2.trans (hkk.below (Nat.le_trans hlo (Nat.le_of_lt hwl)) (fun k e => by have e' : k = w3.heap.size := e; omega))⟩
    · simp [results, Try.results27, go_sem]
    · have ho := ownsRow_kept HW.out.1 hkk (fun k hk e => by
        have e' : k = w3.heap.size := e
        subst e'
        rcases HW.out.1.2 with ⟨e1, _⟩ | ⟨b, cap, cur, e1, _, hg, _⟩
        · rw [e1] at hk; simp [Value.ownBlock] at hk
        · rw [e1] at hk
          simp [Value.ownBlock] at hk
          rw [hk, hD'] at hg; cases hg)
      refine ⟨ho.1, ho.2.imp id ?_⟩
      rintro ⟨g, cap, cur, e1, hb, hr⟩
      exact ⟨g, cap, cur, e1, Nat.le_trans hlo hb, hr⟩
theorem met1_tellsG {α : Type} (gt : TypeId) (encs : α → Array Value) (w : World) (S : Nat → Prop) : TellsG gt Try.prog 74 #[] encs [] S w := by
  intro n l J Jx W hW hl hJ hJx hY h0
  have H0 : Hid (J [] W) := h0
  clear hW hY h0 hJ hJx
  refine callsIn_of_wp Try.func74 rfl trivial ?_ rfl
  simp only [Try.ntmps74, List.size_toArray, List.length_cons, List.length_nil, Nat.reduceAdd, Nat.reduceSub, Array.replicate_succ, Array.replicate_zero, List.push_toArray, List.append_toArray, List.nil_append, List.cons_append]
  gi_wp2_with fail
  go_end0
  exact ⟨⟨_, rfl⟩, .inl H0.out⟩
theorem every_yes {w : World} {q W most : Nat} {a : Option Nat} {n : Nat} {N : List (Nd Int)} (hT : TrieAt w q W most a n N) (hlen : N.length ≤ 1000000) (v : Nat) (hv : Is128 v) (hF : fitsN v W = true) :
    Calls Try.prog 27 #[.pointer (some ⟨q, 0, none⟩), B v] w fun e w' => ∃ s, e = .returned s ∧ w'.ownsRow w.heap.size 51 3 s (keys (kept (wayN (bitsOf W v) N))).length (rowK W (keys (kept (wayN (bitsOf W v) N)))) ∧ Below w.heap.size w w' := by
  refine every_core w (some ⟨q, 0, none⟩) v 85 (enters_of Try.func85 (by kernel_rfl) rfl) (wayN (bitsOf W v) N) (fun x hx => hT.hang.thing x (List.mem_filter.1 hx).1) (Nat.le_trans (List.length_filter_le _ _) hlen) (fun w1 h => ?_)
  refine (met_yes q v hv hF w1 ((hT.hd.below h).cell 0 rfl)).mono ?_
  rintro e w' ⟨D, rfl, H⟩
  refine ⟨_, rfl, (⟨H.out.2.2.1, fun S hS => ?_⟩ : _ ∧ _)⟩
  have hb : Below w.heap.size w w' := bst h H.out.2.2.1
  have h4 := H.out.2.2.2
  have hz := h.size
  refine way_tellsG 51 hT.wd.1 hT.wd.2 (Nat.le_of_eq (bits_len _ _)) q w' _ _ a (hT.below hb).hd (hT.below hb).hang D (D + 1) H.out.1 ?_ S (fun e => ?_) (fun e => ?_) (fun e => ?_) (hT.hang.off_new fun k e => (hS k e).1)
  · rw [← fits_bits hF, bits_len]; exact H.out.2.1
  · have := (hS _ e).1; have := hT.hd.lt; omega
  · have := (hS _ e).2; omega
  · have := (hS _ e).2; omega
theorem every_no {w : World} {W : Nat} (q v : Nat) (hv : Is128 v) (hF : fitsN v W = false) (hq : w.cell? ⟨q, 0, none⟩ = some (.int .i64 W)) :
    Calls Try.prog 27 #[.pointer (some ⟨q, 0, none⟩), B v] w fun e w' => e = .returned (.slice none 0 0) ∧ Below w.heap.size w w' :=
  every_none (some ⟨q, 0, none⟩) v w fun w1 h => met_no q v hv hF w1 ((World.cell?_of_block (h.block q (World.block_lt_of_cell? w _ hq))).trans hq)
end Go.Proofs.Ytgdpplipahhffaa
