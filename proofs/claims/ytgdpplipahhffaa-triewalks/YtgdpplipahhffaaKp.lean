/- Package trie: a trie as it lies in memory; kept. -/
import Derived.Test.YtgdpplipahhffaaWy
namespace Go.Proofs.Ytgdpplipahhffaa
open Go.RowKit
set_option linter.unusedVariables false
set_option linter.unusedSimpArgs false

/-- A trie. -/
structure TrieAt (w : World) (q W most : Nat) (a : Option Nat) (n : Nat) (N : List (Nd Int)) : Prop where
  hd : Blk w q #[.int .i64 W, .int .i64 most, .int .i64 (kept N).length, pt a] 84
  hang : HangI W w n a N
  wd : 1 ≤ W ∧ W ≤ 128
  most : (kept N).length ≤ most ∧ 1 ≤ most ∧ most ≤ 4096
theorem TrieAt.below {w w' : World} {q W most : Nat} {a : Option Nat} {n : Nat} {N : List (Nd Int)} (h : TrieAt w q W most a n N) (hb : Below w.heap.size w w') : TrieAt w' q W most a n N := ⟨h.hd.below hb, h.hang.below hb, h.wd, h.most⟩
theorem TrieAt.kept' {w w' : World} {q W most : Nat} {a : Option Nat} {n : Nat} {N : List (Nd Int)} (h : TrieAt w q W most a n N) {S : Nat → Prop} (hk : Kept S w w') (h1 : ¬ S q) (h2 : Off S N) : TrieAt w' q W most a n N := ⟨h.hd.kept hk h1, h.hang.keptW hk h2, h.wd, h.most⟩
theorem Hang.off_new {V : Type} {nt vt : TypeId} {enc : V → Value} {W : Nat} {w : World} {n a} {N : List (Nd V)} (h : Hang nt vt enc W w n a N) {S : Nat → Prop} (hS : ∀ k, S k → w.heap.size ≤ k) : Off S N := fun x hx => by
  obtain ⟨b0, b1, hn⟩ := h.thing x hx
  exact ⟨fun e => by have := hn.cells.lt; have := hS _ e; omega, fun t v e1 e2 => by have := (hn.thing t v e1).lt; have := hS _ e2; omega⟩
theorem way_find {p : List Bool} {V : Type} (N : List (Nd V)) : ((wayN p N).find? fun x => decide (x.key = p)) = N.find? fun x => decide (x.key = p) := by
  unfold wayN
  rw [List.find?_filter]
  congr 1
  funext x
  by_cases h : x.key = p
  · simp [h]
  · simp [h]
theorem bits_is {a b : Int} (h0 : 0 ≤ a) (h1 : a < 18446744073709551616) (h2 : 0 ≤ b) (h3 : b < 18446744073709551616) : ∃ v : Nat, Is128 v ∧ a = hiOf v ∧ b = loOf v := by
  obtain ⟨x, rfl⟩ := Int.eq_ofNat_of_zero_le h0
  obtain ⟨y, rfl⟩ := Int.eq_ofNat_of_zero_le h2
  refine ⟨x * 18446744073709551616 + y, by unfold Is128; omega, ?_, ?_⟩
  · unfold hiOf; congr 1; omega
  · unfold loOf; congr 1; omega
theorem find_key {V : Type} : ∀ {N : List (Nd V)}, (N.Pairwise fun a b => klt a.key b.key = true) → ∀ x ∈ N, (N.find? fun y => decide (y.key = x.key)) = some x
  | [], _, x, hx => by simp at hx
  | y :: N, h, x, hx => by
    obtain ⟨g1, g2⟩ := List.pairwise_cons.1 h
    rw [List.find?_cons]
    rcases List.mem_cons.1 hx with rfl | hx
    · rw [decide_eq_true rfl]
    · rw [decide_eq_false (fun e => klt_ne (g1 x hx) e)]
      exact find_key g2 x hx
theorem way_none {V : Type} {p : List Bool} {N : List (Nd V)} (h : ∀ x ∈ wayN p N, x.key ≠ p) : thAt p N = none := by
  unfold thAt
  rw [← way_find, List.find?_eq_none.2 (fun x hx => by simpa using h x hx)]; rfl
theorem key_val {W : Nat} {c p : List Bool} (hc : c.length ≤ W) (hp : p.length ≤ W) : (decide (valOf W c = valOf W p) && ((c.length : Int) == (p.length : Int))) = decide (c = p) := by
  by_cases h : c = p
  · subst h; simp
  · rw [decide_eq_false h]
    by_cases e1 : valOf W c = valOf W p
    · by_cases e2 : c.length = p.length
      · exact absurd (val_inj hc hp e2 e1) h
      · have : ((c.length : Int) == (p.length : Int)) = false := by rw [beq_eq_false_iff_ne]; omega
        rw [this, Bool.and_false]
    · rw [decide_eq_false e1, Bool.false_and]
theorem eqK {W : Nat} {c p : List Bool} {b : Bool} (hc : c.length ≤ W) (hp : p.length ≤ W) (hb : decide (c = p) = b) (w : World) : (binOp .eql 51 (Pf (valOf W c) c.length) (Pf (valOf W p) p.length)).run Try.prog w = .ok (.bool b) w := by
  rw [eq51, key_val hc hp, hb]
attribute [local go_sem] Oper.semAt_some
set_option maxHeartbeats 4000000 in
set_option maxRecDepth 100000 in
theorem kept_no {W : Nat} (h1 : 1 ≤ W) (h2 : W ≤ 128) (q : Nat) (v : Nat) (hv : Is128 v) (l : Int) (hP : isP W v l = false) (w : World) (hq : w.cell? ⟨q, 0, none⟩ = some (.int .i64 W)) :
    Calls Try.prog 55 #[.pointer (some ⟨q, 0, none⟩), Pf v l] w fun e w' => e = .returned (.pointer none) ∧ Below w.heap.size w w' := by
  suffices h : ∀ m, CallsIn Fence.wide m Try.prog 55 #[.pointer (some ⟨q, 0, none⟩), Pf v l] w fun e w' => e = .returned (.pointer none) ∧ Below w.heap.size w w' from callsIn_wide.1 (h 0)
  intro m
  have C49 : Hid (∀ w1, CallsIn Fence.wide (m - 1) Try.prog 49 #[Pf v l, .int .i64 W] w1 fun e w' => e = .returned (.bool false) ∧ Below w1.heap.size w1 w') := fun w1 => callsIn_wide.2 (by rw [← hP]; exact isPrefix_any v hv l W h1 h2 w1)
  have HB := two_new' w #[.int .u64 (hiOf v), .int .u64 (loOf v), .int .i64 l] #[.pointer none] 51 95
  have hlq : q < w.heap.size := World.block_lt_of_cell? w _ hq
  have HQ : Hid (w.cell? ⟨q, 0, none⟩ = some (.int .i64 W)) := hq
  have hmix : Try.prog.follows .mixedOrders = true := by kernel_rfl
  clear hP hq
  refine callsIn_of_wp_marks Try.func55 rfl trivial ?_ rfl
  simp only [Try.ntmps55, List.size_toArray, List.length_cons, List.length_nil, Nat.reduceAdd, Nat.reduceSub, Array.replicate_succ, Array.replicate_zero, List.push_toArray, List.append_toArray, List.nil_append, List.cons_append]
  gi_upto_region 1 with fail
  generalize ((w.alloc _).alloc _) = w0 at HB ⊢
  generalize hA : w.heap.size + 1 = A1 at *
  have lA := HB.out.2.2.2
  have x0 := two_cells HB.out.1 (i := 0) (v := .int .u64 (hiOf v)) rfl
  have x1 := two_cells HB.out.1 (i := 1) (v := .int .u64 (loOf v)) rfl
  have x2 := two_cells HB.out.1 (i := 2) (v := .int .i64 l) rfl
  have z0 : ∀ z : Grown w0, (gw z).cell? ⟨q, 0, none⟩ = some (.int .i64 W) := gw_cell ((World.cell?_of_block (HB.out.2.2.1.block q hlq)).trans HQ.out)
  refine grows_wide hmix (by kernel_rfl) ?_
  repeat (gi_big_quiet_step (fail))
  refine Go.BigFrame.wpQuietIn_want (fun _ _ _ _ => trivial) (by rfl) ?_
  intro K2 hK2
  gi_big_quiet_op
  apply Exists.intro
  refine ⟨fun _ => ?_, ?_⟩
  · exact ⟨no_depth _, calls_gwIn (C49.out _)⟩
  go_big_quiet_on
  repeat (gi_big_quiet_step (fail))
  refine wpQuietIn_nil ?_
  intro wq hwq
  obtain ⟨zq, rfl⟩ := hwq
  have HC : Hid (Blk (gw zq) A1 #[.pointer none] 95 ∧ Below w.heap.size w (gw zq)) := ⟨HB.out.2.1.below (gw_below zq), bst HB.out.2.2.1 (gw_below zq)⟩
  have c0 := HC.out.1.cell 0 (v := .pointer none) rfl
  have f0 := HC.out.1.frozen 0
  clear x0 x1 x2 z0 C49
  generalize gw zq = w2 at *
  gi_wp2_with fail
  have HF : Hid (Blk (w2.setCell ⟨A1, 0, none⟩ (.pointer none)) A1 #[.pointer none] 95 ∧ Below w.heap.size w (w2.setCell ⟨A1, 0, none⟩ (.pointer none))) := ⟨HC.out.1.set 0 _, HC.out.2.setCell (by show _ ≤ A1; omega) _⟩
  generalize w2.setCell _ _ = w3 at HF ⊢
  have z0 := HF.out.1.cell 0 (v := .pointer none) rfl
  refine ⟨.pointer none, ?_, rfl, HF.out.2⟩
  simp [results, Try.results55, go_sem, z0]
abbrev thP (t : Option (Nat × Int)) : Value := .pointer (t.map fun t => ⟨t.1, 0, none⟩)
set_option maxHeartbeats 4000000 in
set_option maxRecDepth 100000 in
theorem kept_yes {w : World} {q W most : Nat} {a : Option Nat} {n : Nat} {N : List (Nd Int)} (hT : TrieAt w q W most a n N) {p : List Bool} (hp : p.length ≤ W) :
    Calls Try.prog 55 #[.pointer (some ⟨q, 0, none⟩), Pf (valOf W p) p.length] w fun e w' => e = .returned (thP (thAt p N)) ∧ Below w.heap.size w w' := by
  suffices h : ∀ m, CallsIn Fence.wide m Try.prog 55 #[.pointer (some ⟨q, 0, none⟩), Pf (valOf W p) p.length] w fun e w' => e = .returned (thP (thAt p N)) ∧ Below w.heap.size w w' from callsIn_wide.1 (h 0)
  intro m
  obtain ⟨h1, h2⟩ := hT.wd
  have C49 : Hid (∀ w1, CallsIn Fence.wide (m - 1) Try.prog 49 #[Pf (valOf W p) p.length, .int .i64 W] w1 fun e w' => e = .returned (.bool true) ∧ Below w1.heap.size w1 w') := fun w1 => callsIn_wide.2 (by
    have := isPrefix_any (valOf W p) (val_is h2 hp) p.length W h1 h2 w1
    rw [isP_mk hp] at this; exact this)
  have C71 : Hid (∀ w1, CallsIn Fence.wide (m - 1) Try.prog 71 #[.pointer (some ⟨q, 0, none⟩), Pf (valOf W p) p.length] w1 fun e w' => e = .returned (.func (.func 85) #[] #[.pointer (some ⟨w1.heap.size, 0, none⟩), .pointer (some ⟨w1.heap.size + 1, 0, none⟩)]) ∧ Hid (Blk w' w1.heap.size #[.pointer (some ⟨q, 0, none⟩)] 24 ∧ Blk w' (w1.heap.size + 1) #[.int .u64 (hiOf (valOf W p)), .int .u64 (loOf (valOf W p)), .int .i64 p.length] 51 ∧ Below w1.heap.size w1 w')) := fun w1 => callsIn_wide.2 (way_any ⟨q, 0, none⟩ p W w1)
  have HT : Hid (TrieAt w q W most a n N) := hT
  have HB := two_new' w #[.int .u64 (hiOf (valOf W p)), .int .u64 (loOf (valOf W p)), .int .i64 p.length] #[.pointer none] 51 95
  have hlq : q < w.heap.size := hT.hd.lt
  have HQ : Hid (w.cell? ⟨q, 0, none⟩ = some (.int .i64 W)) := hT.hd.cell 0 rfl
  have hmix : Try.prog.follows .mixedOrders = true := by kernel_rfl
  have HP : Hid (p.length ≤ W) := hp
  clear hT
  refine callsIn_of_wp_marks Try.func55 rfl trivial ?_ rfl
  simp only [Try.ntmps55, List.size_toArray, List.length_cons, List.length_nil, Nat.reduceAdd, Nat.reduceSub, Array.replicate_succ, Array.replicate_zero, List.push_toArray, List.append_toArray, List.nil_append, List.cons_append]
  gi_upto_region 1 with fail
  generalize ((w.alloc _).alloc _) = w0 at HB ⊢
  generalize hA : w.heap.size + 1 = A1 at *
  have lA := HB.out.2.2.2
  have x0 := two_cells HB.out.1 (i := 0) (v := .int .u64 (hiOf (valOf W p))) rfl
  have x1 := two_cells HB.out.1 (i := 1) (v := .int .u64 (loOf (valOf W p))) rfl
  have x2 := two_cells HB.out.1 (i := 2) (v := .int .i64 p.length) rfl
  have z0 : ∀ z : Grown w0, (gw z).cell? ⟨q, 0, none⟩ = some (.int .i64 W) := gw_cell ((World.cell?_of_block (HB.out.2.2.1.block q hlq)).trans HQ.out)
  refine grows_wide hmix (by kernel_rfl) ?_
  repeat (gi_big_quiet_step (fail))
  refine Go.BigFrame.wpQuietIn_want (fun _ _ _ _ => trivial) (by rfl) ?_
  intro K2 hK2
  gi_big_quiet_op
  apply Exists.intro
  refine ⟨fun _ => ?_, ?_⟩
  · exact ⟨no_depth _, calls_gwIn (C49.out _)⟩
  go_big_quiet_on
  repeat (gi_big_quiet_step (fail))
  refine wpQuietIn_nil ?_
  intro wq hwq
  obtain ⟨zq, rfl⟩ := hwq
  have HC : Hid (Blk (gw zq) A1 #[.pointer none] 95 ∧ Below w.heap.size w (gw zq) ∧ Blk (gw zq) w.heap.size #[.int .u64 (hiOf (valOf W p)), .int .u64 (loOf (valOf W p)), .int .i64 p.length] 51) := ⟨HB.out.2.1.below (gw_below zq), bst HB.out.2.2.1 (gw_below zq), HB.out.1.below (gw_below zq)⟩
  clear x0 x1 x2 z0 C49 HB
  generalize gw zq = w2 at *
  have y0 := HC.out.2.2.cell 0 (v := .int .u64 (hiOf (valOf W p))) rfl
  have y1 := HC.out.2.2.cell 1 (v := .int .u64 (loOf (valOf W p))) rfl
  have y2 := HC.out.2.2.cell 2 (v := .int .i64 p.length) rfl
  gi_wp2_with fail
  refine ⟨trivial, no_depth _, ?_⟩
  refine (C71.out _).mono ?_
  rintro e w3 ⟨rfl, H3⟩
  clear y0 y1 y2 C71
  have HD : Hid (Blk w3 A1 #[.pointer none] 95 ∧ Below w.heap.size w w3 ∧ Blk w3 w.heap.size #[.int .u64 (hiOf (valOf W p)), .int .u64 (loOf (valOf W p)), .int .i64 p.length] 51 ∧ Blk w3 w2.heap.size #[.pointer (some ⟨q, 0, none⟩)] 24 ∧ Blk w3 (w2.heap.size + 1) #[.int .u64 (hiOf (valOf W p)), .int .u64 (loOf (valOf W p)), .int .i64 p.length] 51 ∧ TrieAt w3 q W most a n N ∧ A1 < w2.heap.size) := ⟨HC.out.1.below H3.out.2.2, bst HC.out.2.1 H3.out.2.2, HC.out.2.2.below H3.out.2.2, H3.out.1, H3.out.2.1, (HT.out.below HC.out.2.1).below H3.out.2.2, HC.out.1.lt⟩
  clear H3 HC
  generalize w2.heap.size = D at *
  generalize hD1 : D + 1 = D1 at *
  gi_wp2_with fail
  have l3 := HD.out.2.2.2.2.1.lt
  have lA3 := HD.out.2.2.2.2.2.2
  have hoff : Off (fun k => k = A1) N := HT.out.hang.off_new (fun k e => by have e' : k = A1 := e; omega)
  have HO : Hid (Off (fun k => k = A1) N) := hoff
  refine range_outer (gf := 85) (lb := #[.pointer (some ⟨D, 0, none⟩), .pointer (some ⟨D1, 0, none⟩)]) (encs := fun x : Nd Int => #[Value.pointer (some ⟨x.blk, 0, none⟩)]) (xs := wayN p N) (S := fun k => k = A1) rfl (enters_of Try.func85 (by kernel_rfl) rfl)
    (fun k e => by have e' : k = A1 := e; omega)
    (way_tells h1 h2 HP.out q w3 _ _ a HD.out.2.2.2.2.2.1.hd HD.out.2.2.2.2.2.1.hang D D1 HD.out.2.2.2.1 HD.out.2.2.2.2.1 (fun k => k = A1) (by show ¬ _ = _; omega) (by show ¬ _ = _; omega) (by show ¬ _ = _; omega) hoff) (Below.refl _ _) (fun _ => rfl)
    (fun pre W' => Blk W' A1 #[.pointer none] 95 ∧ (∀ x ∈ pre, x.key ≠ p) ∧ Kept (fun k => k = A1) w3 W')
    (fun c pre W' => c = .ret ∧ Blk W' A1 #[thP (thAt p N)] 95 ∧ Kept (fun k => k = A1) w3 W')
    ((low_blk _ _ (fun _ => #[.pointer none]) _ (by omega)).and ((low_pure _ _).and (low_kept _ _ _ (Nat.le_refl _))))
    (fun c => (low_pure _ _).and ((low_blk _ _ (fun _ => #[thP (thAt p N)]) _ (by omega)).and (low_kept _ _ _ (Nat.le_refl _))))
    ⟨HD.out.1, fun x hx => absurd hx (by simp), Kept.refl _ _⟩ ?round ?done ?stop
  case round =>
    rintro l pre x W' K hl hlt hz hpre ⟨b0, hne, hK⟩ hKK
    have hx : x ∈ wayN p N := hpre.subset (by simp)
    have hxN : x ∈ N := (List.mem_filter.1 hx).1
    obtain ⟨b0', b1', hnd⟩ := HD.out.2.2.2.2.2.1.hang.thing x hxN
    obtain ⟨A3, hA3⟩ : ∃ A : Option Addr, A = (x.th.map (·.1)).map fun b => ⟨b, 0, none⟩ := ⟨_, rfl⟩
    obtain ⟨A4, hA4⟩ : ∃ A : Value, A = pt b0' := ⟨_, rfl⟩
    obtain ⟨A5, hA5⟩ : ∃ A : Value, A = pt b1' := ⟨_, rfl⟩
    have HX : Hid (Blk w3 x.blk #[.int .u64 (hiOf (valOf W x.key)), .int .u64 (loOf (valOf W x.key)), .int .i64 x.key.length, .pointer A3, A4, A5] 98) := by
      have := hnd.cells
      rw [hA3, hA4, hA5]; exact this
    have HA3 : Hid (A3 = ((x.th.map (·.1)).map fun b => (⟨b, 0, none⟩ : Addr))) := hA3
    have hxl := hnd.len
    have hoffx : ¬ x.blk = A1 := (HO.out x hxN).1
    have HN : Hid (N.find? (fun y => decide (y.key = x.key)) = some x) := find_key HT.out.hang.srtN x hxN
    clear hA3 hA4 hA5 hnd
    gi_wp2_with fail
    refine hKK _ _ (Kept.refl _ _) ?_
    intro Wb hkb hrec
    have e1 : Blk Wb A1 #[.pointer none] 95 := b0.kept hkb (by show ¬ _ = _; omega)
    have eX : Blk Wb x.blk _ 98 := (HX.out.kept hK hoffx).kept hkb (by have := HX.out.lt; show ¬ _ = _; omega)
    have eP : Blk Wb w.heap.size _ 51 := (HD.out.2.2.1.kept hK (by show ¬ _ = _; omega)).kept hkb (by show ¬ _ = _; omega)
    have hKb : Kept (fun k => k = A1) w3 Wb := ⟨hkb.os.trans hK.os, hkb.tape.trans hK.tape, hkb.output.trans hK.output, Nat.le_trans hK.size hkb.size, fun k hk hs => (hkb.block k (Nat.lt_of_lt_of_le hk hK.size) (fun e => by have e' : k = l := e; omega)).trans (hK.block k hk hs)⟩
    have x0 := two_cells eX (i := 0) (v := .int .u64 (hiOf (valOf W x.key))) rfl
    have x1 := two_cells eX (i := 1) (v := .int .u64 (loOf (valOf W x.key))) rfl
    have x2 := two_cells eX (i := 2) (v := .int .i64 x.key.length) rfl
    have y0 := two_cells eP (i := 0) (v := .int .u64 (hiOf (valOf W p))) rfl
    have y1 := two_cells eP (i := 1) (v := .int .u64 (loOf (valOf W p))) rfl
    have y2 := two_cells eP (i := 2) (v := .int .i64 p.length) rfl
    have HE : Hid (Blk Wb A1 #[.pointer none] 95 ∧ Blk Wb x.blk #[.int .u64 (hiOf (valOf W x.key)), .int .u64 (loOf (valOf W x.key)), .int .i64 x.key.length, .pointer A3, A4, A5] 98 ∧ Kept (fun k => k = A1) w3 Wb ∧ ∀ y ∈ pre, y.key ≠ p) := ⟨e1, eX, hKb, hne⟩
    clear b0 hne hK hKK hkb hrec e1 eX eP hKb HX hpre hx hxN
    by_cases hk : x.key = p
    · have EQ := fun w => eqK hxl HP.out (decide_eq_true hk) w
      have HF : Hid (thAt p N = x.th) := by
        unfold thAt; rw [← hk, HN.out]; rfl
      clear hk
      gi_wp2_with fail
      refine grows_round hmix (by kernel_rfl) (by kernel_rfl) ?_
      repeat (gi_big_quiet_step (fail))
      refine wpQuietIn_nil ?_
      intro wq hwq
      obtain ⟨zq, rfl⟩ := hwq
      have HE2 : Hid (Blk (gw zq) A1 #[.pointer none] 95 ∧ Blk (gw zq) x.blk #[.int .u64 (hiOf (valOf W x.key)), .int .u64 (loOf (valOf W x.key)), .int .i64 x.key.length, .pointer A3, A4, A5] 98 ∧ Kept (fun k => k = A1) w3 (gw zq) ∧ Kept (fun k => k = A1) Wb (gw zq)) := ⟨HE.out.1.below (gw_below zq), HE.out.2.1.below (gw_below zq), HE.out.2.2.1.trans (Kept.of_below (gw_below zq)), Kept.of_below (gw_below zq)⟩
      clear x0 x1 x2 y0 y1 y2 HE
      generalize gw zq = w5 at *
      have x3 := HE2.out.2.1.cell 3 (v := .pointer A3) rfl
      have c0 := HE2.out.1.cell 0 (v := .pointer none) rfl
      have f0 := HE2.out.1.frozen 0
      have HQ2 : Hid (Kept (fun k => k = A1) Wb (w5.setCell ⟨A1, 0, none⟩ (.pointer A3)) ∧ Blk (w5.setCell ⟨A1, 0, none⟩ (.pointer A3)) A1 #[thP (thAt p N)] 95 ∧ Kept (fun k => k = A1) w3 (w5.setCell ⟨A1, 0, none⟩ (.pointer A3))) := by
        have ks : Kept (fun k => k = A1) w5 (w5.setCell ⟨A1, 0, none⟩ (.pointer A3)) := (Kept.refl (fun k => k = A1) w5).set (p := ⟨A1, 0, none⟩) rfl _
        refine ⟨HE2.out.2.2.2.trans ks, ?_, HE2.out.2.2.1.trans ks⟩
        have := HE2.out.1.set 0 (.pointer A3)
        rw [HF.out]
        have e : thP x.th = .pointer A3 := by rw [HA3.out]; cases x.th <;> rfl
        rw [e]; exact this
      gi_wp2_with fail
      exact ⟨HQ2.out.1, rfl, HQ2.out.2.1, HQ2.out.2.2⟩
    · have EQ := fun w => eqK hxl HP.out (decide_eq_false hk) w
      have HK : Hid (x.key ≠ p) := hk
      clear hk
      gi_wp2_with fail
      refine grows_round hmix (by kernel_rfl) (by kernel_rfl) ?_
      repeat (gi_big_quiet_step (fail))
      refine wpQuietIn_nil ?_
      intro wq hwq
      obtain ⟨zq, rfl⟩ := hwq
      have HQ2 : Hid (Kept (fun k => k = A1) Wb (gw zq) ∧ Blk (gw zq) A1 #[.pointer none] 95 ∧ (∀ y ∈ pre ++ [x], y.key ≠ p) ∧ Kept (fun k => k = A1) w3 (gw zq)) := ⟨Kept.of_below (gw_below zq), HE.out.1.below (gw_below zq), fun y hy => by
        rcases List.mem_append.1 hy with hy | hy
        · exact HE.out.2.2.2 y hy
        · rw [List.mem_singleton.1 hy]; exact HK.out, HE.out.2.2.1.trans (Kept.of_below (gw_below zq))⟩
      clear x0 x1 x2 y0 y1 y2 HE
      gi_wp2_with fail
      exact HQ2.out
  case done =>
    rintro W' ⟨b0, hne, hK⟩ hks hD'
    have HW : Hid (thAt p N = none) := way_none hne
    have c0 := b0.cell 0 (v := .pointer none) rfl
    have f0 := b0.frozen 0
    have ks : Kept (fun k => k = A1) W' (W'.setCell ⟨A1, 0, none⟩ (.pointer none)) := (Kept.refl (fun k => k = A1) W').set (p := ⟨A1, 0, none⟩) rfl _
    have HF : Hid (Blk (W'.setCell ⟨A1, 0, none⟩ (.pointer none)) A1 #[.pointer none] 95 ∧ (W'.setCell ⟨A1, 0, none⟩ (.pointer none)).heap[w3.heap.size]? = some (.deferred (some [])) ∧ Below w.heap.size w (W'.setCell ⟨A1, 0, none⟩ (.pointer none)) ∧ w3.heap.size ≤ (W'.setCell ⟨A1, 0, none⟩ (.pointer none)).heap.size) := by
      have hb : Below w.heap.size w W' := HD.out.2.1.trans (hks.below HD.out.2.1.size (fun k e => by have e' : k = A1 := e; omega))
      have hwl : w3.heap.size < W'.heap.size := (Array.getElem?_eq_some_iff.1 hD').1
      have hb2 := hb.trans (ks.below hb.size (fun k e => by have e' : k = A1 := e; omega))
      exact ⟨b0.set 0 _, (ks.block _ hwl (by show ¬ _ = _; omega)).trans hD', hb2, Nat.le_trans (Nat.le_of_lt hwl) ks.size⟩
    have hlo : w.heap.size ≤ w3.heap.size := HD.out.2.1.size
    clear b0 hne hK hks hD' ks
    gi_wp2_with fail
    generalize W'.setCell _ _ = W5 at HF ⊢
    refine ⟨by simp, .inl ⟨_, _, rfl, run_takeDeferred HF.out.2.1, ?_⟩⟩
    have hkk := kept_putObj (fun k => k = w3.heap.size) W5 w3.heap.size (.deferred none) rfl
    have z1 := (HF.out.1.kept hkk (by show ¬ _ = _; omega)).cell 0 (v := .pointer none) rfl
    refine ⟨.pointer none, ?_, by rw [HW.out]; rfl, HF.out.2.2.1.trans (hkk.below (Nat.le_trans hlo HF.out.2.2.2) (fun k e => by have e' : k = w3.heap.size := e; omega))⟩
    simp [results, Try.results55, go_sem, z1]
  case stop =>
    rintro c pre W' _ ⟨rfl, b0, hK⟩ hks hD'
    have HF : Hid (Blk W' A1 #[thP (thAt p N)] 95 ∧ W'.heap[w3.heap.size]? = some (.deferred (some [])) ∧ Below w.heap.size w W' ∧ w3.heap.size ≤ W'.heap.size) := ⟨b0, hD', HD.out.2.1.trans (hks.below HD.out.2.1.size (fun k e => by have e' : k = A1 := e; omega)), hks.size⟩
    have hlo : w.heap.size ≤ w3.heap.size := HD.out.2.1.size
    clear b0 hK hks hD'
    gi_wp2_with fail
    refine ⟨by simp, .inl ⟨_, _, rfl, run_takeDeferred HF.out.2.1, ?_⟩⟩
    have hkk := kept_putObj (fun k => k = w3.heap.size) W' w3.heap.size (.deferred none) rfl
    have z1 := (HF.out.1.kept hkk (by show ¬ _ = _; omega)).cell 0 (v := thP (thAt p N)) rfl
    refine ⟨thP (thAt p N), ?_, rfl, HF.out.2.2.1.trans (hkk.below (Nat.le_trans hlo HF.out.2.2.2) (fun k e => by have e' : k = w3.heap.size := e; omega))⟩
    simp [results, Try.results55, go_sem, z1]
end Go.Proofs.Ytgdpplipahhffaa
