/- TrieWalks: what a round holds. TrieWalks: the walk. TrieWalks' last argument, opened. TrieWalks, proved: for every input the statement answers true, and its arguments read afterwards as before (values whose parts lead back to themselves are not spoken of, as the row says). -/
import Derived.Test.YtgdpplipahhffaaGz
import Derived.Test.YtgdpplipahhffaaGx
import Derived.Deep.CutRange
import Derived.Test.YtgdpplipahhffaaAo
import Derived.Test.YtgdpplipahhffaaRows
namespace Go.Proofs.Ytgdpplipahhffaa
open Go.RowKit
set_option linter.unusedVariables false
set_option linter.unusedSimpArgs false

section
variable {X : Nat → Prop} {w0 w : World} {q r W most : Nat} {L : List (List Bool × Int)} {ro : Option Nat}
theorem playX_any (hOX : OX X w q W most L) (hXw : ∀ k, X k → k < w.heap.size) (hD : Duo w0 w q r W most L ro) (h1 : 1 ≤ W) (hW : W ≤ 128) (o : OpD) (ho : Is128 o.a) :
    Calls Try.prog 13 #[.pointer (some ⟨q, 0, none⟩), .pointer (some ⟨r, 0, none⟩), .agg (opC o)] w fun e w' => e = .returned (.bool true) ∧ ∃ L' ro', Hid (Duo w0 w' q r W most L' ro' ∧ Kept (Tch q r ro) w w' ∧ NewRow w ro ro' ∧ OX X w' q W most L') := by
  obtain ⟨k, a, l, u⟩ := o
  have hk : k % 12 = 0 ∨ k % 12 = 1 ∨ k % 12 = 2 ∨ k % 12 = 3 ∨ k % 12 = 4 ∨ k % 12 = 5 ∨ k % 12 = 6 ∨ k % 12 = 7 ∨ k % 12 = 8 ∨ k % 12 = 9 ∨ k % 12 = 10 ∨ k % 12 = 11 := by omega
  rcases hk with h | h | h | h | h | h | h | h | h | h | h | h
  · exact playX_put X hOX hXw hD h1 hW k l u a ho h
  · exact playX_set X hOX hXw hD h1 hW k l u a ho h
  · exact playX_drop X hOX hXw hD h1 hW k l u a ho h
  · exact playX_get X hOX hXw hD h1 hW k l u a ho h
  · exact playX_find X hOX hXw hD h1 hW k l u a ho h
  · exact playX_every X hOX hXw hD h1 hW k l u a ho h
  · exact playX_nodes X hOX hXw hD h1 hW k l u a ho h
  · exact playX_all X hOX hXw hD h1 hW k l u a ho h
  · exact playX_under X hOX hXw hD h1 hW k l u a ho h
  · exact playX_9 X hOX hXw hD h1 hW k l u a ho h
  · exact playX_10 X hOX hXw hD h1 hW k l u a ho h
  · exact playX_11 X hOX hXw hD h1 hW k l u a ho h
end
/-- The counter's cell lies outside the trie. -/
abbrev XA (A20 : Nat) : Nat → Prop := fun k => k = A20
/-- What a round holds. -/
structure RX (w w15 Wb V : World) (q r W : Nat) (c46 : Array Value) (A6 A8 A10 A14 A16 A19 A20 bt bt2 r2 ua : Nat) (ul : Int) (n : Nat) (ro : Option Nat) (L0 L : List (List Bool × Int)) (ro2 ro' : Option Nat) : Prop where
  e : Env w V q r W c46 A6 A8 A10 L ro'
  i1 : Itr V A14 bt q 0 0
  i2 : Itr V A16 bt2 q ua ul
  b19 : Blk V A19 #[.pointer (some ⟨r2, 0, none⟩)] 28
  b20 : Blk V A20 #[.int .i64 n] 3
  was : RefI w V r2 W 4096 L0 ro2
  kS : Kept (SW A20 q r ro) w15 V
  kG : Kept (SW A20 q r ro) Wb V
  ne : r2 ≠ r ∧ ∀ k, ro2 = some k → ro ≠ some k
  ox : OX (XA A20) V q W 4096 L
section
variable {w w15 Wb V V' : World} {q r W : Nat} {c46 : Array Value} {A6 A8 A10 A14 A16 A19 A20 bt bt2 r2 ua : Nat} {ul : Int} {n : Nat} {ro : Option Nat} {L0 L L' : List (List Bool × Int)} {ro2 ro' ro'' : Option Nat}
theorem RX.below (h : RX w w15 Wb V q r W c46 A6 A8 A10 A14 A16 A19 A20 bt bt2 r2 ua ul n ro L0 L ro2 ro') (hb : Below V.heap.size V V') : RX w w15 Wb V' q r W c46 A6 A8 A10 A14 A16 A19 A20 bt bt2 r2 ua ul n ro L0 L ro2 ro' :=
  ⟨h.e.below hb, h.i1.below hb, h.i2.below hb, h.b19.below hb, h.b20.below hb, h.was.below hb, h.kS.trans (Kept.of_below hb), h.kG.trans (Kept.of_below hb), h.ne, h.ox.below hb⟩
/-- A call that touches the tries alone. -/
theorem RX.step (h : RX w w15 Wb V q r W c46 A6 A8 A10 A14 A16 A19 A20 bt bt2 r2 ua ul n ro L0 L ro2 ro') {S : Nat → Prop} (hS1 : ∀ k, S k → Tch q r ro k) (hS2 : ∀ k, S k → Tch q r ro' k) (hS3 : ∀ k, S k → ro2 = some k → False) (hD : Duo w V' q r W 4096 L' ro'') (hX : OX (XA A20) V' q W 4096 L') (hk : Kept S V V') : RX w w15 Wb V' q r W c46 A6 A8 A10 A14 A16 A19 A20 bt bt2 r2 ua ul n ro L0 L' ro2 ro'' := by
  have kt := h.e.d.kt (hk.mono fun k _ e => hS2 k e)
  have k' : Kept (SW A20 q r ro) V V' := hk.mono fun k _ e => .inr (hS1 k e)
  obtain ⟨_, _, gq⟩ := h.e.d.own.hdr
  obtain ⟨_, _, gr⟩ := h.was.hdr
  refine ⟨⟨hD, kt _ _ _ h.e.b46 (by decide) (by decide) (by decide), kt _ _ _ h.e.b6 (by decide) (by decide) (by decide), kt _ _ _ h.e.b8 (by decide) (by decide) (by decide), kt _ _ _ h.e.b10 (by decide) (by decide) (by decide), h.e.lt⟩, ⟨kt _ _ _ h.i1.f (by decide) (by decide) (by decide), kt _ _ _ h.i1.t (by decide) (by decide) (by decide), kt _ _ _ h.i1.p (by decide) (by decide) (by decide)⟩, ⟨kt _ _ _ h.i2.f (by decide) (by decide) (by decide), kt _ _ _ h.i2.t (by decide) (by decide) (by decide), kt _ _ _ h.i2.p (by decide) (by decide) (by decide)⟩, kt _ _ _ h.b19 (by decide) (by decide) (by decide), kt _ _ _ h.b20 (by decide) (by decide) (by decide), h.was.kept hk (fun e9 => ?_) (fun k e2 e9 => hS3 k e9 e2), h.kS.trans k', h.kG.trans k', h.ne, hX⟩
  rcases hS2 _ e9 with e | e | e
  · rw [e] at gr; exact ty_ne gq gr (by decide)
  · exact h.ne.1 e
  · obtain ⟨_, _, _, g⟩ := h.e.d.ref.row _ e; exact ty_ne g gr (by decide)
/-- The counter goes on. -/
theorem RX.count (h : RX w w15 Wb V q r W c46 A6 A8 A10 A14 A16 A19 A20 bt bt2 r2 ua ul n ro L0 L ro2 ro') (hA : w.heap.size ≤ A20) : RX w w15 Wb (V.setCell ⟨A20, 0, none⟩ (.int .i64 (n + 1 : Nat))) q r W c46 A6 A8 A10 A14 A16 A19 A20 bt bt2 r2 ua ul (n + 1) ro L0 L ro2 ro' := by
  have ks : Kept (fun k => k = A20) V (V.setCell ⟨A20, 0, none⟩ (.int .i64 (n + 1 : Nat))) := (Kept.refl (fun k => k = A20) V).set (p := ⟨A20, 0, none⟩) rfl _
  have no : ∀ {b : Nat} {cs : Array Value} {t : TypeId} {f}, V.heap[b]? = some (.cells cs t f) → t ≠ 3 → ¬ b = A20 := fun {b cs t f} g ht e => by
    rw [e] at g; exact ty_ne h.b20 g (fun e => ht e.symm)
  have kb : ∀ {b : Nat} {cs : Array Value} {t : TypeId}, Blk V b cs t → t ≠ 3 → Blk (V.setCell ⟨A20, 0, none⟩ (.int .i64 (n + 1 : Nat))) b cs t := fun {b cs t} g ht => g.kept ks (no g ht)
  have k' : Kept (SW A20 q r ro) V (V.setCell ⟨A20, 0, none⟩ (.int .i64 (n + 1 : Nat))) := ks.mono fun k _ e => .inl e
  obtain ⟨_, _, gq⟩ := h.e.d.own.hdr
  obtain ⟨_, _, gr⟩ := h.e.d.ref.hdr
  obtain ⟨_, _, gw⟩ := h.was.hdr
  have hox : OX (XA A20) (V.setCell ⟨A20, 0, none⟩ (.int .i64 (n + 1 : Nat))) q W 4096 L := h.ox.keptT ks (no gq (by decide)) (fun k e => .inl e)
  have hbe : Below w.heap.size w (V.setCell ⟨A20, 0, none⟩ (.int .i64 (n + 1 : Nat))) := h.e.d.own.be.trans (ks.below h.e.d.own.be.size (fun k e => by have e' : k = A20 := e; omega))
  refine ⟨⟨⟨hox.own hbe h.e.d.own.lo, h.e.d.ref.kept ks (no gr (by decide)) (fun k e => ?_)⟩, kb h.e.b46 (by decide), kb h.e.b6 (by decide), kb h.e.b8 (by decide), kb h.e.b10 (by decide), h.e.lt⟩, ⟨kb h.i1.f (by decide), kb h.i1.t (by decide), kb h.i1.p (by decide)⟩, ⟨kb h.i2.f (by decide), kb h.i2.t (by decide), kb h.i2.p (by decide)⟩, kb h.b19 (by decide), h.b20.set 0 _, h.was.kept ks (no gw (by decide)) (fun k e => ?_), h.kS.trans k', h.kG.trans k', h.ne, hox⟩
  · obtain ⟨_, _, _, g⟩ := h.e.d.ref.row k e; exact no g (by decide)
  · obtain ⟨_, _, _, g⟩ := h.was.row k e; exact no g (by decide)
/-- What the rounds keep. -/
def WX (w w15 : World) (q r W A20 : Nat) (L0 : List (List Bool × Int)) (ro : Option Nat) (pre : List (List Bool × Int)) (V : World) : Prop :=
  ∃ L ro', Duo w V q r W 4096 L ro' ∧ (pre = [] → ro' = ro) ∧ Blk V A20 #[.int .i64 pre.length] 3 ∧ Kept (SW A20 q r ro) w15 V ∧ OX (XA A20) V q W 4096 L
theorem WX.low (hm : w.heap.size ≤ w15.heap.size) (hA : A20 < w15.heap.size) : Gp.LowG Gp.Gd w15.heap.size (WX w w15 q r W A20 L0 ro) := fun s A C hk ⟨L, ro', h1, h2, h3, h4, h5⟩ => by
  obtain ⟨_, _, gq⟩ := h1.own.hdr
  refine ⟨L, ro', duo_low h1 hm hk, h2, h3.kept hk (fun e => by have := e.1; omega), ⟨hk.os.trans h4.os, hk.tape.trans h4.tape, hk.output.trans h4.output, Nat.le_trans h4.size hk.size, fun k hk1 hk2 => (hk.block k (Nat.lt_of_lt_of_le hk1 h4.size) (fun e => by have := e.1; omega)).trans (h4.block k hk1 hk2)⟩, h5.keptT hk (fun e => e.2 ⟨_, _, _, gq, ⟨by decide, by decide⟩⟩) (fun k e => .inr fun cs t f h => ⟨fun e2 => ?_, fun e2 => ?_⟩)⟩
  · subst e2; exact e.2 ⟨_, _, _, h, ⟨by decide, by decide⟩⟩
  · subst e2; exact e.2 ⟨_, _, _, h, ⟨by decide, by decide⟩⟩
/-- Emptied. -/
theorem clearX (hD : Duo w V q r W 4096 L ro') : Calls Try.prog 14 #[.pointer (some ⟨q, 0, none⟩)] V fun e w' => e = .returned (.tuple #[]) ∧ ∃ s, Blk w' r #[.int .i64 W, .int .i64 4096, s] 40 ∧ Hid (Kept (fun k => k = q) V w' ∧ Duo w (w'.setCell ⟨r, 2, none⟩ (.slice none 0 0)) q r W 4096 [] none ∧ OX (XA A20) (w'.setCell ⟨r, 2, none⟩ (.slice none 0 0)) q W 4096 [] ∧ Kept (fun k => k = q ∨ k = r) V (w'.setCell ⟨r, 2, none⟩ (.slice none 0 0))) := by
  obtain ⟨⟨a, n, N, hT, hkk⟩, hb, hl⟩ := id hD.own
  refine (clear_any hT).mono ?_
  rintro e w' ⟨rfl, g1, g2⟩
  have hO : Own w w' q W 4096 [] := ⟨⟨none, 0, [], g1, rfl⟩, hb.trans (g2.below hb.size (fun k e => by have e' : k = q := e; rw [e']; exact hl)), hl⟩
  have hR := hD.step1 hO g2
  obtain ⟨s, k1, k2, _⟩ := ref_clear hD ⟨hO, hR, g2⟩
  have ks : Kept (fun k => k = r) w' (w'.setCell ⟨r, 2, none⟩ (.slice none 0 0)) := (Kept.refl (fun k => k = r) w').set (p := ⟨r, 2, none⟩) rfl _
  obtain ⟨_, _, gq⟩ := hO.hdr
  have hq : ¬ q = r := fun e => by rw [e] at gq; exact ty_ne k1 gq (by decide)
  refine ⟨rfl, s, k1, (⟨g2, k2, ⟨none, 0, [], g1.kept' ks hq (fun x hx => by cases hx), rfl, fun x hx => by cases hx⟩, (g2.mono fun k _ e => .inl e).trans (ks.mono fun k _ e => .inr e)⟩ : _ ∧ _ ∧ _ ∧ _)⟩
end
end Go.Proofs.Ytgdpplipahhffaa
namespace Go.Proofs.Ytgdpplipahhffaa
open Go.RowKit
set_option linter.unusedVariables false
set_option linter.unusedSimpArgs false

theorem ox_new {w V V' : World} {q W A20 : Nat} {L : List (List Bool × Int)} (hO : Own w V q W 4096 L) (hb : Below V.heap.size V V') (hA : V.heap.size ≤ A20) : OX (XA A20) V' q W 4096 L := by
  obtain ⟨⟨a, n, N, hT, hk⟩, _, _⟩ := hO
  exact ⟨a, n, N, hT.below hb, hk, hT.hang.off_new fun k e => by have e' : k = A20 := e; omega⟩
attribute [local go_sem] Oper.semAt_some
set_option maxHeartbeats 16000000 in
set_option maxRecDepth 100000 in
theorem walks_walk (Wd : Int) (sv : Value) (l : List OpD) (kw : WalkD) (w : World) (hW : Okn Wd) (hl : OpRow w sv l) (hk : WalkOk kw) : Calls Try.prog 4 #[.int .i64 Wd, sv, .agg (walkC kw)] w fun e w' => e = .returned (.bool true) ∧ Below w.heap.size w w' := by
  obtain ⟨⟨ad, cap, rfl, hcap, hcells⟩, hlb⟩ := hl
  suffices h : ∀ m, CallsIn Fence.wide m Try.prog 4 #[.int .i64 Wd, .slice ad l.length cap, .agg (walkC kw)] w fun e w' => e = .returned (.bool true) ∧ Below w.heap.size w w' from callsIn_wide.1 (h 0)
  intro m
  have HL : Hid (l = [] ∨ ∃ b o, ad = some ⟨b, o, none⟩ ∧ ∀ i x, l[i]? = some x → ∃ cs, cs.size = 5 ∧ (∀ j u, cs[j]? = some u → w.cell? ⟨b, o + i * 5 + j, none⟩ = some u) ∧ cs = opC x ∧ OpOk x) := hcells
  have HKW : Hid (WalkOk kw) := hk
  have hmix : Try.prog.follows .mixedOrders = true := by kernel_rfl
  obtain ⟨⟨uk, ua, ul, uv⟩, stp, ⟨tk, ta, tl, tv⟩⟩ := kw
  have HB := two_new' w #[.int .i64 uk, .int .u64 (hiOf ua), .int .u64 (loOf ua), .int .i64 ul, .int .i64 uv, .int .i64 stp, .int .i64 tk, .int .u64 (hiOf ta), .int .u64 (loOf ta), .int .i64 tl, .int .i64 tv] #[.bool false] 46 4
  have CL : Hid (∀ w1, CallsIn Fence.wide (m - 1) Try.prog 9 #[] w1 fun e w' => e = .returned (.bool true) ∧ Below w1.heap.size w1 w') := fun w1 => callsIn_wide.2 (live_any w1)
  unfold Len at hlb
  clear hcells hk
  refine callsIn_of_wp_marks Try.func4 rfl trivial ?_ rfl
  simp only [Try.ntmps4, List.size_toArray, List.length_cons, List.length_nil, Nat.reduceAdd, Nat.reduceSub, Array.replicate_succ, Array.replicate_zero, List.push_toArray, List.append_toArray, List.nil_append, List.cons_append]
  gi_upto_region 1 with fail
  generalize ((w.alloc _).alloc _) = w0 at HB ⊢
  generalize hA6 : w.heap.size + 1 = A6 at *
  gi_wp2_with fail
  refine ⟨trivial, no_depth _, ?_⟩
  refine (CL.out _).mono ?_
  rintro e w1 ⟨rfl, H1⟩
  have HA1 : Hid (Blk w1 w.heap.size #[.int .i64 uk, .int .u64 (hiOf ua), .int .u64 (loOf ua), .int .i64 ul, .int .i64 uv, .int .i64 stp, .int .i64 tk, .int .u64 (hiOf ta), .int .u64 (loOf ta), .int .i64 tl, .int .i64 tv] 46 ∧ Blk w1 A6 #[.bool false] 4 ∧ Below w.heap.size w w1 ∧ w.heap.size < A6) := ⟨HB.out.1.below H1, HB.out.2.1.below H1, bst HB.out.2.2.1 H1, by omega⟩
  clear HB CL H1
  by_cases hbad : Wd < 1 ∨ 128 < Wd
  · have C10 : Hid (CallsIn Fence.wide (m - 1) Try.prog 10 #[.int .i64 Wd, .int .i64 4096] w1 fun e w' => e = .returned (.tuple #[.pointer none, .int .i64 1]) ∧ w' = w1) := callsIn_wide.2 (new_bad Wd 4096 (by omega) w1)
    have C11 : Hid (∀ V, CallsIn Fence.wide (m - 1) Try.prog 11 #[.int .i64 Wd, .int .i64 4096] V fun e w' => e = .returned (.tuple #[.pointer none, .int .i64 1]) ∧ w' = V) := fun V => callsIn_wide.2 (rnew_bad Wd 4096 (by omega))
    clear HL hbad
    gi_wp2_with fail
    refine ⟨trivial, no_depth _, ?_⟩
    refine C10.out.mono ?_
    rintro e w2 ⟨rfl, rfl⟩
    clear C10
    have HN := one_new w2 #[.pointer none] 24
    have HA2 : Hid (Blk (w2.alloc (.cells #[.pointer none] 24)) A6 #[.bool false] 4 ∧ Below w.heap.size w (w2.alloc (.cells #[.pointer none] 24)) ∧ Blk (w2.alloc (.cells #[.pointer none] 24)) w2.heap.size #[.pointer none] 24 ∧ w.heap.size < A6) := ⟨HA1.out.2.1.below HN.2.1, bst HA1.out.2.2.1 HN.2.1, HN.1, HA1.out.2.2.2⟩
    clear HA1 HN
    gi_upto_region 3 with fail
    generalize (w2.alloc _) = w3 at HA2 ⊢
    generalize w2.heap.size = A8 at HA2 ⊢
    gi_wp2_with fail
    refine ⟨trivial, no_depth _, ?_⟩
    refine (C11.out _).mono ?_
    rintro e w4 ⟨rfl, rfl⟩
    clear C11
    have HN := one_new w4 #[.pointer none] 28
    have HA3 : Hid (Blk (w4.alloc (.cells #[.pointer none] 28)) A6 #[.bool false] 4 ∧ Below w.heap.size w (w4.alloc (.cells #[.pointer none] 28)) ∧ Blk (w4.alloc (.cells #[.pointer none] 28)) A8 #[.pointer none] 24 ∧ Blk (w4.alloc (.cells #[.pointer none] 28)) w4.heap.size #[.pointer none] 28 ∧ w.heap.size < A6) := ⟨HA2.out.1.below HN.2.1, bst HA2.out.2.1 HN.2.1, HA2.out.2.2.1.below HN.2.1, HN.1, HA2.out.2.2.2⟩
    clear HA2 HN
    gi_upto_region 4 with fail
    generalize (w4.alloc _) = w5 at HA3 ⊢
    generalize w4.heap.size = A10 at HA3 ⊢
    have t0 := HA3.out.2.2.1.cell 0 (v := .pointer none) rfl
    have x0 := HA3.out.2.2.2.1.cell 0 (v := .pointer none) rfl
    have f0 := HA3.out.1.frozen 0
    have b0 := HA3.out.1.cell 0 (v := .bool false) rfl
    gi_wp2_with fail
    have k6 : Kept (fun k => k = A6) w5 (w5.setCell ⟨A6, 0, none⟩ (.bool true)) := (Kept.refl (fun k => k = A6) w5).set (p := ⟨A6, 0, none⟩) rfl _
    have z1 := (HA3.out.1.set 0 (.bool true)).cell 0 (v := .bool true) rfl
    refine ⟨.bool true, ?_, rfl, HA3.out.2.1.trans (k6.below HA3.out.2.1.size (fun k e => by have e' : k = A6 := e; have := HA3.out.2.2.2.2; omega))⟩
    simp [results, Try.results4, go_sem, z1]
  · obtain ⟨W, rfl⟩ := Int.eq_ofNat_of_zero_le (show 0 ≤ Wd by omega)
    have h1 : 1 ≤ W := by omega
    have h2 : W ≤ 128 := by omega
    have C10 : Hid (CallsIn Fence.wide (m - 1) Try.prog 10 #[.int .i64 W, .int .i64 4096] w1 fun e w' => e = .returned (.tuple #[.pointer (some ⟨w1.heap.size, 0, none⟩), .int .i64 0]) ∧ Hid (Own w w' w1.heap.size W 4096 [] ∧ Below w1.heap.size w1 w')) := callsIn_wide.2 (duo_new (W := W) (most := 4096) h1 h2 (by decide) (by decide) HA1.out.2.2.1)
    have C11 : Hid (∀ V, w.heap.size ≤ V.heap.size → CallsIn Fence.wide (m - 1) Try.prog 11 #[.int .i64 W, .int .i64 4096] V fun e w' => e = .returned (.tuple #[.pointer (some ⟨V.heap.size, 0, none⟩), .int .i64 0]) ∧ Hid (RefI w w' V.heap.size W 4096 [] none ∧ Below V.heap.size V w')) := fun V hV => callsIn_wide.2 (ref_new (W := W) (most := 4096) h1 h2 (by decide) (by decide) hV)
    clear hbad hW
    gi_wp2_with fail
    refine ⟨trivial, no_depth _, ?_⟩
    refine C10.out.mono ?_
    rintro e w2 ⟨rfl, H2⟩
    clear C10
    have HN := one_new w2 #[.pointer (some ⟨w1.heap.size, 0, none⟩)] 24
    have HA2 : Hid (Blk (w2.alloc (.cells #[.pointer (some ⟨w1.heap.size, 0, none⟩)] 24)) w.heap.size #[.int .i64 uk, .int .u64 (hiOf ua), .int .u64 (loOf ua), .int .i64 ul, .int .i64 uv, .int .i64 stp, .int .i64 tk, .int .u64 (hiOf ta), .int .u64 (loOf ta), .int .i64 tl, .int .i64 tv] 46 ∧ Blk (w2.alloc (.cells #[.pointer (some ⟨w1.heap.size, 0, none⟩)] 24)) A6 #[.bool false] 4 ∧ Blk (w2.alloc (.cells #[.pointer (some ⟨w1.heap.size, 0, none⟩)] 24)) w2.heap.size #[.pointer (some ⟨w1.heap.size, 0, none⟩)] 24 ∧ Own w (w2.alloc (.cells #[.pointer (some ⟨w1.heap.size, 0, none⟩)] 24)) w1.heap.size W 4096 [] ∧ w.heap.size < A6 ∧ w.heap.size ≤ (w2.alloc (.cells #[.pointer (some ⟨w1.heap.size, 0, none⟩)] 24)).heap.size) :=
      ⟨(HA1.out.1.below H2.out.2).below HN.2.1, (HA1.out.2.1.below H2.out.2).below HN.2.1, HN.1, H2.out.1.below HN.2.1, HA1.out.2.2.2, (bst (bst HA1.out.2.2.1 H2.out.2) HN.2.1).size⟩
    clear HA1 HN H2
    gi_upto_region 3 with fail
    generalize (w2.alloc _) = w3 at HA2 ⊢
    generalize w2.heap.size = A8 at HA2 ⊢
    generalize w1.heap.size = q at HA2 ⊢
    gi_wp2_with fail
    refine ⟨trivial, no_depth _, ?_⟩
    refine (C11.out _ HA2.out.2.2.2.2.2).mono ?_
    rintro e w4 ⟨rfl, H4⟩
    clear C11
    have HN := one_new w4 #[.pointer (some ⟨w3.heap.size, 0, none⟩)] 28
    have HA3 : Hid (Blk (w4.alloc (.cells #[.pointer (some ⟨w3.heap.size, 0, none⟩)] 28)) w.heap.size #[.int .i64 uk, .int .u64 (hiOf ua), .int .u64 (loOf ua), .int .i64 ul, .int .i64 uv, .int .i64 stp, .int .i64 tk, .int .u64 (hiOf ta), .int .u64 (loOf ta), .int .i64 tl, .int .i64 tv] 46 ∧ Blk (w4.alloc (.cells #[.pointer (some ⟨w3.heap.size, 0, none⟩)] 28)) A6 #[.bool false] 4 ∧ Blk (w4.alloc (.cells #[.pointer (some ⟨w3.heap.size, 0, none⟩)] 28)) A8 #[.pointer (some ⟨q, 0, none⟩)] 24 ∧ Blk (w4.alloc (.cells #[.pointer (some ⟨w3.heap.size, 0, none⟩)] 28)) w4.heap.size #[.pointer (some ⟨w3.heap.size, 0, none⟩)] 28 ∧ Duo w (w4.alloc (.cells #[.pointer (some ⟨w3.heap.size, 0, none⟩)] 28)) q w3.heap.size W 4096 [] none ∧ w.heap.size < A6) := by
      have hb : Below w3.heap.size w3 (w4.alloc (.cells #[.pointer (some ⟨w3.heap.size, 0, none⟩)] 28)) := bst H4.out.2 HN.2.1 (Nat.le_refl _)
      exact ⟨HA2.out.1.below hb, HA2.out.2.1.below hb, HA2.out.2.2.1.below hb, HN.1, ⟨HA2.out.2.2.2.1.below hb, H4.out.1.below HN.2.1⟩, HA2.out.2.2.2.2.1⟩
    clear HA2 HN H4
    gi_upto_region 4 with fail
    generalize (w4.alloc _) = w5 at HA3 ⊢
    generalize w4.heap.size = A10 at HA3 ⊢
    generalize w3.heap.size = r at HA3 ⊢
    have t0 := HA3.out.2.2.1.cell 0 (v := .pointer (some ⟨q, 0, none⟩)) rfl
    have x0 := HA3.out.2.2.2.1.cell 0 (v := .pointer (some ⟨r, 0, none⟩)) rfl
    gi_wp2_with fail
    clear t0 x0
    gi_loopw [12] (fun b12 wr => ∃ k : Nat, k ≤ l.length ∧ b12 = .int .i64 k ∧ Hid (∃ L ro, Duo w wr q r W 4096 L ro ∧ KT w5 wr)) (fun b12 wr => l.length - (intOf b12).toNat)
    case atStart => exact ⟨0, Nat.zero_le _, rfl, (⟨[], none, HA3.out.2.2.2.2.1, KT.refl _⟩ : ∃ _ _, _)⟩
    case round =>
      obtain ⟨k, hk1, rfl, HR⟩ := hrel
      by_cases hlt : k < l.length
      · obtain ⟨x, hx⟩ : ∃ x, l[k]? = some x := ⟨_, List.getElem?_eq_getElem hlt⟩
        have hne : l ≠ [] := fun e => by rw [e] at hx; cases hx
        obtain ⟨b, o, rfl, hcs⟩ := HL.out.resolve_left hne
        obtain ⟨cs, _, hc, rfl, hok⟩ := hcs k x hx
        obtain ⟨kd, av, n, vv⟩ := x
        have hi1 : (k : Int) < l.length := by omega
        have hbe : Below w.heap.size w wr := by obtain ⟨L, ro, h, _⟩ := HR.out; exact h.own.be
        have pres : ∀ {j : Nat} {u : Value}, (opC ⟨kd, av, n, vv⟩)[j]? = some u → wr.cell? ⟨b, o + k * 5 + j, none⟩ = some u := fun {j u} h => (World.cell?_of_block (hbe.block b (World.block_lt_of_cell? w _ (hc j u h)))).trans (hc j u h)
        have c0 := pres (j := 0) rfl
        rw [Nat.add_zero] at c0
        have c0 := gw_cell c0
        have c1 := gw_cell (pres (j := 1) rfl)
        have c2 := gw_cell (pres (j := 2) rfl)
        have c3 := gw_cell (pres (j := 3) rfl)
        have c4 := gw_cell (pres (j := 4) rfl)
        have CP : Hid (∀ W2, Below wr.heap.size wr W2 → CallsIn Fence.wide (m - 1) Try.prog 13 #[.pointer (some ⟨q, 0, none⟩), .pointer (some ⟨r, 0, none⟩), .agg #[.int .i64 kd, .int .u64 (hiOf av), .int .u64 (loOf av), .int .i64 n, .int .i64 vv]] W2 fun e w' => e = .returned (.bool true) ∧ Hid (∃ L ro, Duo w w' q r W 4096 L ro ∧ KT w5 w')) := fun W2 hb => callsIn_wide.2 (by
          obtain ⟨L, ro, hD, hT⟩ := HR.out
          refine (play_kt (hD.below hb) h1 h2 ⟨kd, av, n, vv⟩ hok.1).mono ?_
          rintro e w' ⟨rfl, H⟩
          obtain ⟨L', ro', g1, g2, _⟩ := H.out
          exact ⟨rfl, (⟨L', ro', g1, (hT.trans (KT.below hb)).trans g2⟩ : ∃ _ _, _)⟩)
        have hT5 : KT w5 wr := by obtain ⟨L, ro, _, h⟩ := HR.out; exact h
        have t0 := gw_cell ((hT5 _ _ _ HA3.out.2.2.1 (by decide) (by decide) (by decide) : Blk wr A8 _ _).cell 0 (v := .pointer (some ⟨q, 0, none⟩)) rfl)
        have x0 := gw_cell ((hT5 _ _ _ HA3.out.2.2.2.1 (by decide) (by decide) (by decide) : Blk wr A10 _ _).cell 0 (v := .pointer (some ⟨r, 0, none⟩)) rfl)
        clear pres hc hne hx HR hbe hT5 hcs hok
        gi_upto_region 9 with fail
        refine gate_wide 6 hmix (by kernel_rfl) (by kernel_rfl) (by kernel_rfl) ?_
        simp only [List.take_succ_cons, List.take_zero]
        repeat (gi_big_quiet_step (fail))
        refine wpQuietIn_nil ?_
        intro wq hwq
        obtain ⟨zq, rfl⟩ := hwq
        have CP2 : Hid (CallsIn _ _ _ _ _ _ _) := CP.out (gw zq) (gw_below zq)
        clear CP c0 c1 c2 c3 c4 t0 x0
        generalize gw zq = w7 at *
        change wpAnyIn _ _ _ _ _ _ 2 (upTo 6 2) _ _
        refine wpAnyIn_ready (rs := [6]) (by kernel_rfl) (by simp) ?_
        refine AllReadyIn.cons rfl (fun K5 hK5 => ?_) AllReadyIn.nil
        go_simp
        refine ⟨trivial, no_depth _, ?_⟩
        refine CP2.out.mono ?_
        rintro e w8 ⟨rfl, HM⟩
        refine hK5 _ _ ?_
        clear hK5 K5 CP2
        refine wpAnyIn_ready (rs := [7]) (by kernel_rfl) (by simp) ?_
        refine AllReadyIn.cons rfl (fun K5 hK5 => ?_) AllReadyIn.nil
        go_simp
        refine hK5 _ _ ?_
        clear hK5 K5
        refine wpAnyIn_done (by kernel_rfl) ?_ _
        gi_wp2_with fail
        go_roundw
        case rel => exact ⟨k + 1, by omega, by go_num, HM⟩
        case measure => simp [intOf]; omega
      · have hlt' : ¬ (k : Int) < l.length := by omega
        obtain ⟨L, ro, hD, hT⟩ := HR.out
        have HE : Hid (Duo w wr q r W 4096 L ro ∧ Blk wr w.heap.size #[.int .i64 uk, .int .u64 (hiOf ua), .int .u64 (loOf ua), .int .i64 ul, .int .i64 uv, .int .i64 stp, .int .i64 tk, .int .u64 (hiOf ta), .int .u64 (loOf ta), .int .i64 tl, .int .i64 tv] 46 ∧ Blk wr A6 #[.bool false] 4 ∧ Blk wr A8 #[.pointer (some ⟨q, 0, none⟩)] 24 ∧ Blk wr A10 #[.pointer (some ⟨r, 0, none⟩)] 28 ∧ w.heap.size < A6) :=
          ⟨hD, hT _ _ _ HA3.out.1 (by decide) (by decide) (by decide), hT _ _ _ HA3.out.2.1 (by decide) (by decide) (by decide), hT _ _ _ HA3.out.2.2.1 (by decide) (by decide) (by decide), hT _ _ _ HA3.out.2.2.2.1 (by decide) (by decide) (by decide), HA3.out.2.2.2.2.2⟩
        clear hD hT HR HA3 HL hlb hcap hk1 hlt
        generalize l.length = ll at *
        have C18 : Hid (∀ V, CallsIn Fence.wide (m - 1) Try.prog 18 #[.pointer (some ⟨q, 0, none⟩)] V fun e w' => e = .returned (.func (.func 48) #[] #[.pointer (some ⟨V.heap.size, 0, none⟩), .pointer (some ⟨V.heap.size + 1, 0, none⟩)]) ∧ Hid (Blk w' V.heap.size #[.pointer (some ⟨q, 0, none⟩)] 24 ∧ Blk w' (V.heap.size + 1) #[.int .u64 (hiOf 0), .int .u64 (loOf 0), .int .i64 0] 51 ∧ Below V.heap.size V w')) := fun V => callsIn_wide.2 ((all_any _ V).mono fun e w' h => ⟨h.1, h.2.1, h.2.2.1, h.2.2.2⟩)
        have C19 : Hid (∀ V, CallsIn Fence.wide (m - 1) Try.prog 19 #[.pointer (some ⟨q, 0, none⟩), .agg #[.int .u64 (hiOf ua), .int .u64 (loOf ua), .int .i64 ul]] V fun e w' => e = .returned (.func (.func 48) #[] #[.pointer (some ⟨V.heap.size, 0, none⟩), .pointer (some ⟨V.heap.size + 1, 0, none⟩)]) ∧ Hid (Blk w' V.heap.size #[.pointer (some ⟨q, 0, none⟩)] 24 ∧ Blk w' (V.heap.size + 1) #[.int .u64 (hiOf ua), .int .u64 (loOf ua), .int .i64 ul] 51 ∧ Below V.heap.size V w')) := fun V => callsIn_wide.2 ((under_any _ ua ul V).mono fun e w' h => ⟨h.1, h.2.1, h.2.2.1, h.2.2.2⟩)
        have t0 := HE.out.2.2.2.1.cell 0 (v := .pointer (some ⟨q, 0, none⟩)) rfl
        gi_wp2_with fail
        refine ⟨trivial, no_depth _, ?_⟩
        refine (C18.out _).mono ?_
        rintro e w6 ⟨rfl, H6⟩
        clear C18 t0
        have hw6 : Below wr.heap.size wr w6 := H6.out.2.2
        generalize wr.heap.size = bt at H6 ⊢
        have HE6 : Hid (Env w w6 q r W #[.int .i64 uk, .int .u64 (hiOf ua), .int .u64 (loOf ua), .int .i64 ul, .int .i64 uv, .int .i64 stp, .int .i64 tk, .int .u64 (hiOf ta), .int .u64 (loOf ta), .int .i64 tl, .int .i64 tv] A6 A8 A10 L ro ∧ (Blk w6 bt #[.pointer (some ⟨q, 0, none⟩)] 24 ∧ Blk w6 (bt + 1) #[.int .u64 (hiOf 0), .int .u64 (loOf 0), .int .i64 0] 51)) := by
          have e : Env w wr q r W #[.int .i64 uk, .int .u64 (hiOf ua), .int .u64 (loOf ua), .int .i64 ul, .int .i64 uv, .int .i64 stp, .int .i64 tk, .int .u64 (hiOf ta), .int .u64 (loOf ta), .int .i64 tl, .int .i64 tv] A6 A8 A10 L ro := ⟨HE.out.1, HE.out.2.1, HE.out.2.2.1, HE.out.2.2.2.1, HE.out.2.2.2.2.1, HE.out.2.2.2.2.2⟩
          exact ⟨e.below hw6, H6.out.1, H6.out.2.1⟩
        clear H6 hw6 HE
        have HN := one_new w6 #[clo bt] 48
        have HE7 : Hid (Env w (w6.alloc (.cells #[clo bt] 48)) q r W #[.int .i64 uk, .int .u64 (hiOf ua), .int .u64 (loOf ua), .int .i64 ul, .int .i64 uv, .int .i64 stp, .int .i64 tk, .int .u64 (hiOf ta), .int .u64 (loOf ta), .int .i64 tl, .int .i64 tv] A6 A8 A10 L ro ∧ Itr (w6.alloc (.cells #[clo bt] 48)) w6.heap.size bt q 0 0) := ⟨HE6.out.1.below HN.2.1, HN.1, HE6.out.2.1.below HN.2.1, HE6.out.2.2.below HN.2.1⟩
        clear HE6 HN
        gi_upto_region 13 with fail
        generalize (w6.alloc _) = w7 at HE7 ⊢
        generalize w6.heap.size = A14 at HE7 ⊢
        have u1 := HE7.out.1.b46.cell 1 (v := .int .u64 (hiOf ua)) rfl
        have u2 := HE7.out.1.b46.cell 2 (v := .int .u64 (loOf ua)) rfl
        have u3 := HE7.out.1.b46.cell 3 (v := .int .i64 ul) rfl
        have HN := one_new w7 #[.int .u64 (hiOf ua), .int .u64 (loOf ua), .int .i64 ul] 51
        have HE8 : Hid (Env w (w7.alloc (.cells #[.int .u64 (hiOf ua), .int .u64 (loOf ua), .int .i64 ul] 51)) q r W #[.int .i64 uk, .int .u64 (hiOf ua), .int .u64 (loOf ua), .int .i64 ul, .int .i64 uv, .int .i64 stp, .int .i64 tk, .int .u64 (hiOf ta), .int .u64 (loOf ta), .int .i64 tl, .int .i64 tv] A6 A8 A10 L ro ∧ Itr (w7.alloc (.cells #[.int .u64 (hiOf ua), .int .u64 (loOf ua), .int .i64 ul] 51)) A14 bt q 0 0 ∧ Blk (w7.alloc (.cells #[.int .u64 (hiOf ua), .int .u64 (loOf ua), .int .i64 ul] 51)) w7.heap.size #[.int .u64 (hiOf ua), .int .u64 (loOf ua), .int .i64 ul] 51) := ⟨HE7.out.1.below HN.2.1, HE7.out.2.below HN.2.1, HN.1⟩
        clear HE7 HN
        gi_upto_region 14 with fail
        clear u1 u2 u3
        generalize (w7.alloc _) = w8 at HE8 ⊢
        generalize w7.heap.size = A15 at HE8 ⊢
        have t0 := HE8.out.1.b8.cell 0 (v := .pointer (some ⟨q, 0, none⟩)) rfl
        have p0 := HE8.out.2.2.cell 0 (v := .int .u64 (hiOf ua)) rfl
        have p1 := HE8.out.2.2.cell 1 (v := .int .u64 (loOf ua)) rfl
        have p2 := HE8.out.2.2.cell 2 (v := .int .i64 ul) rfl
        gi_wp2_with fail
        refine ⟨trivial, no_depth _, ?_⟩
        refine (C19.out _).mono ?_
        rintro e w9 ⟨rfl, H9⟩
        clear C19 t0 p0 p1 p2
        generalize hbt2 : w8.heap.size = bt2 at H9 ⊢
        have hw9 : Below w8.heap.size w8 w9 := by rw [hbt2]; exact H9.out.2.2
        have HN := one_new w9 #[clo bt2] 48
        have HE10 : Hid (Env w (w9.alloc (.cells #[clo bt2] 48)) q r W #[.int .i64 uk, .int .u64 (hiOf ua), .int .u64 (loOf ua), .int .i64 ul, .int .i64 uv, .int .i64 stp, .int .i64 tk, .int .u64 (hiOf ta), .int .u64 (loOf ta), .int .i64 tl, .int .i64 tv] A6 A8 A10 L ro ∧ Itr (w9.alloc (.cells #[clo bt2] 48)) A14 bt q 0 0 ∧ Itr (w9.alloc (.cells #[clo bt2] 48)) w9.heap.size bt2 q ua ul) := ⟨(HE8.out.1.below hw9).below HN.2.1, (HE8.out.2.1.below hw9).below HN.2.1, HN.1, H9.out.1.below HN.2.1, H9.out.2.1.below HN.2.1⟩
        clear HE8 HN H9 hw9 hbt2
        gi_upto_region 15 with fail
        generalize (w9.alloc _) = w10 at HE10 ⊢
        generalize w9.heap.size = A16 at HE10 ⊢
        obtain ⟨baA, nA, bcA, hAr, hAt⟩ := told_all HE10.out.1.d h2 HE10.out.2.1.t HE10.out.2.1.p
        have CA : Hid (∀ z : Grown w10, CallsIn Fence.wide (m - 1) Try.prog 20 #[clo bt, .slice baA nA bcA, .int .i64 W] (gw z) fun e w' => e = .returned (.bool true) ∧ Below (gw z).heap.size (gw z) w') := fun z => callsIn_wide.2 (hAt _ (gw_below z))
        have qa := gw_cell (HE10.out.2.1.f.cell 0 (v := clo bt) rfl)
        have qx := gw_cell (HE10.out.1.b10.cell 0 (v := .pointer (some ⟨r, 0, none⟩)) rfl)
        have q0 := gw_cell (hAr.cell 0 (v := .int .i64 W) rfl)
        have q2 := gw_cell (hAr.cell 2 (v := .slice baA nA bcA) rfl)
        clear hAr hAt
        gi_upto_region 15 with fail
        refine grows_wide hmix (by kernel_rfl) ?_
        repeat (gi_big_quiet_step (fail))
        refine Go.BigFrame.wpQuietIn_want (fun _ _ _ _ => trivial) (by rfl) ?_
        intro K2 hK2
        gi_big_quiet_op
        apply Exists.intro
        refine ⟨fun _ => ?_, ?_⟩
        · exact ⟨no_depth _, calls_gwIn (CA.out _)⟩
        go_big_quiet_on
        repeat (gi_big_quiet_step (fail))
        refine wpQuietIn_nil ?_
        intro wq hwq
        obtain ⟨zq, rfl⟩ := hwq
        clear CA qa qx q0 q2
        have HE11 : Hid (Env w (gw zq) q r W #[.int .i64 uk, .int .u64 (hiOf ua), .int .u64 (loOf ua), .int .i64 ul, .int .i64 uv, .int .i64 stp, .int .i64 tk, .int .u64 (hiOf ta), .int .u64 (loOf ta), .int .i64 tl, .int .i64 tv] A6 A8 A10 L ro ∧ Itr (gw zq) A14 bt q 0 0 ∧ Itr (gw zq) A16 bt2 q ua ul) := ⟨HE10.out.1.below (gw_below zq), HE10.out.2.1.below (gw_below zq), HE10.out.2.2.below (gw_below zq)⟩
        clear HE10
        generalize gw zq = w11 at *
        gi_upto_region 16 with fail
        have HCU : Hid (∀ V, Below w11.heap.size w11 V → V.cell? ⟨A16, 0, none⟩ = some (clo bt2) ∧ V.cell? ⟨A10, 0, none⟩ = some (.pointer (some ⟨r, 0, none⟩)) ∧ V.cell? ⟨w.heap.size, 1, none⟩ = some (.int .u64 (hiOf ua)) ∧ V.cell? ⟨w.heap.size, 2, none⟩ = some (.int .u64 (loOf ua)) ∧ V.cell? ⟨w.heap.size, 3, none⟩ = some (.int .i64 ul) ∧ V.cell? ⟨r, 0, none⟩ = some (.int .i64 W)) := fun V hV =>
          ⟨(HE11.out.2.2.f.below hV).cell 0 rfl, (HE11.out.1.b10.below hV).cell 0 rfl, (HE11.out.1.b46.below hV).cell 1 rfl, (HE11.out.1.b46.below hV).cell 2 rfl, (HE11.out.1.b46.below hV).cell 3 rfl, by obtain ⟨⟨_, _, _, g, _⟩, _⟩ := HE11.out.1.d.ref; exact (g.below hV).cell 0 rfl⟩
        obtain ⟨nU, hU⟩ := told_under HE11.out.1.d h1 h2 ua HKW.out.1 ul HE11.out.2.2.t HE11.out.2.2.p
        have CU : Hid (∀ V, Below w11.heap.size w11 V → CallsIn Fence.wide (m - 1) Try.prog 21 #[.pointer (some ⟨r, 0, none⟩), .agg #[.int .u64 (hiOf ua), .int .u64 (loOf ua)], .int .i64 ul] V fun e w' => ∃ ba bc, e = .returned (.slice ba nU bc) ∧ Hid (Below V.heap.size V w' ∧ ∀ V2, Below w'.heap.size w' V2 → CallsIn Fence.wide (m - 1) Try.prog 20 #[clo bt2, .slice ba nU bc, .int .i64 W] V2 fun e w' => e = .returned (.bool true) ∧ Below V2.heap.size V2 w')) := fun V hV => callsIn_wide.2 ((hU V hV).mono (by
          rintro e w' ⟨ba, bc, rfl, H⟩
          exact ⟨ba, bc, rfl, H.out.1, fun V2 h => callsIn_wide.2 (H.out.2 V2 h)⟩))
        clear hU
        skip
        refine region_free1W hmix (by kernel_rfl) (by kernel_rfl) (VU W q r w.heap.size bt2 ua ul nU (m - 1)) VU_below ?hop ?hend
        case hop =>
          intro A U w4 hb hD hE
          obtain ⟨a0, x0, u1, u2, u3, g0⟩ := HCU.out w4 hb
          have E5 : A.eval (.tmp 5) = .pointer (some ⟨w.heap.size, 0, none⟩) := hE 5 (by kernel_rfl)
          have E10 : A.eval (.tmp 10) = .pointer (some ⟨A10, 0, none⟩) := hE 10 (by kernel_rfl)
          have E16 : A.eval (.tmp 16) = .pointer (some ⟨A16, 0, none⟩) := hE 16 (by kernel_rfl)
          have D0 := hD 105 0 (by kernel_rfl) (by kernel_rfl)
          have D1 := hD 106 1 (by kernel_rfl) (by kernel_rfl)
          have D2 := hD 107 2 (by kernel_rfl) (by kernel_rfl)
          have D3 := hD 108 3 (by kernel_rfl) (by kernel_rfl)
          have D4 := hD 109 4 (by kernel_rfl) (by kernel_rfl)
          have D5 := hD 110 5 (by kernel_rfl) (by kernel_rfl)
          have D6 := hD 111 6 (by kernel_rfl) (by kernel_rfl)
          have D7 := hD 112 7 (by kernel_rfl) (by kernel_rfl)
          have D8 := hD 113 8 (by kernel_rfl) (by kernel_rfl)
          have D9 := hD 114 9 (by kernel_rfl) (by kernel_rfl)
          have D10 := hD 115 10 (by kernel_rfl) (by kernel_rfl)
          have D11 := hD 116 11 (by kernel_rfl) (by kernel_rfl)
          have D12 := hD 117 12 (by kernel_rfl) (by kernel_rfl)
          have D13 := hD 118 13 (by kernel_rfl) (by kernel_rfl)
          clear hD hE
          intro i o ho hv
          match i, ho with
          | 0, ho =>
            obtain rfl := Option.some.inj ho
            refine ⟨fun _ _ => trivial, ?_⟩
            simp only [Oper.semAt, execOp, E16]
            go_simp
            exact ⟨_, rfl, Below.refl _ _, rfl⟩
          | 1, ho =>
            obtain rfl := Option.some.inj ho
            refine ⟨fun _ _ => trivial, ?_⟩
            simp only [Oper.semAt, execOp, E10]
            go_simp
            exact ⟨_, rfl, Below.refl _ _, rfl⟩
          | 2, ho =>
            obtain rfl := Option.some.inj ho
            refine ⟨fun _ _ => trivial, ?_⟩
            simp only [Oper.semAt, execOp, E5]
            go_simp
            exact ⟨_, rfl, Below.refl _ _, rfl⟩
          | 3, ho =>
            obtain rfl := Option.some.inj ho
            have h2 : U 2 = .pointer (some ⟨w.heap.size, 0, none⟩) := hv 2 (by kernel_rfl)
            rw [h2] at D2
            refine ⟨fun _ _ => trivial, ?_⟩
            simp only [Oper.semAt, execOp, D2]
            go_simp
            exact ⟨_, rfl, Below.refl _ _, rfl⟩
          | 4, ho =>
            obtain rfl := Option.some.inj ho
            have h3 : U 3 = .pointer (some ⟨w.heap.size, 1, none⟩) := hv 3 (by kernel_rfl)
            rw [h3] at D3
            refine ⟨fun _ _ => trivial, ?_⟩
            simp only [Oper.semAt, execOp, D3]
            go_simp
            exact ⟨_, rfl, Below.refl _ _, rfl⟩
          | 5, ho =>
            obtain rfl := Option.some.inj ho
            refine ⟨fun _ _ => trivial, ?_⟩
            simp only [Oper.semAt, execOp, E5]
            go_simp
            exact ⟨_, rfl, Below.refl _ _, rfl⟩
          | 6, ho =>
            obtain rfl := Option.some.inj ho
            have h5 : U 5 = .pointer (some ⟨w.heap.size, 0, none⟩) := hv 5 (by kernel_rfl)
            rw [h5] at D5
            refine ⟨fun _ _ => trivial, ?_⟩
            simp only [Oper.semAt, execOp, D5]
            go_simp
            exact ⟨_, rfl, Below.refl _ _, rfl⟩
          | 7, ho =>
            obtain rfl := Option.some.inj ho
            have h6 : U 6 = .pointer (some ⟨w.heap.size, 3, none⟩) := hv 6 (by kernel_rfl)
            rw [h6] at D6
            refine ⟨fun _ _ => trivial, ?_⟩
            simp only [Oper.semAt, execOp, D6]
            go_simp
            exact ⟨_, rfl, Below.refl _ _, rfl⟩
          | 8, ho =>
            obtain rfl := Option.some.inj ho
            have h1 : U 1 = .pointer (some ⟨r, 0, none⟩) := hv 1 (by kernel_rfl)
            rw [h1] at D1
            have h4 : U 4 = .agg #[.int .u64 (hiOf ua), .int .u64 (loOf ua)] := hv 4 (by kernel_rfl)
            rw [h4] at D4
            have h7 : U 7 = .int .i64 ul := hv 7 (by kernel_rfl)
            rw [h7] at D7
            have G1 : A.tmps[106]?.getD undef = _ := Array.getD_eq_getD_getElem?.symm.trans D1
            have G4 : A.tmps[109]?.getD undef = _ := Array.getD_eq_getD_getElem?.symm.trans D4
            have G7 : A.tmps[112]?.getD undef = _ := Array.getD_eq_getD_getElem?.symm.trans D7
            refine ⟨fun _ _ => trivial, ?_⟩
            simp only [Oper.semAt, execOp]
            go_simp
            refine ⟨no_depth _, ?_⟩
            refine (CU.out w4 hb).mono ?_
            rintro e w5 ⟨ba, bc, rfl, H⟩
            exact ⟨_, rfl, H.out.1, ba, bc, rfl, H.out.2⟩
          | 9, ho =>
            obtain rfl := Option.some.inj ho
            refine ⟨fun _ _ => trivial, ?_⟩
            simp only [Oper.semAt, execOp, E10]
            go_simp
            exact ⟨_, rfl, Below.refl _ _, rfl⟩
          | 10, ho =>
            obtain rfl := Option.some.inj ho
            have h9 : U 9 = .pointer (some ⟨r, 0, none⟩) := hv 9 (by kernel_rfl)
            rw [h9] at D9
            refine ⟨fun _ _ => trivial, ?_⟩
            simp only [Oper.semAt, execOp, D9]
            go_simp
            exact ⟨_, rfl, Below.refl _ _, rfl⟩
          | 11, ho =>
            obtain rfl := Option.some.inj ho
            have h10 : U 10 = .pointer (some ⟨r, 0, none⟩) := hv 10 (by kernel_rfl)
            rw [h10] at D10
            refine ⟨fun _ _ => trivial, ?_⟩
            simp only [Oper.semAt, execOp, D10]
            go_simp
            exact ⟨_, rfl, Below.refl _ _, rfl⟩
          | 12, ho =>
            obtain rfl := Option.some.inj ho
            have h11 : U 11 = .pointer (some ⟨r, 0, none⟩) := hv 11 (by kernel_rfl)
            rw [h11] at D11
            refine ⟨fun _ _ => trivial, ?_⟩
            simp only [Oper.semAt, execOp, D11]
            go_simp
            exact ⟨_, rfl, Below.refl _ _, rfl⟩
          | 13, ho =>
            obtain rfl := Option.some.inj ho
            have h0 : U 0 = clo bt2 := hv 0 (by kernel_rfl)
            have h8 : VU W q r w.heap.size bt2 ua ul nU (m - 1) 8 (U 8) w4 := hv 8 (by kernel_rfl)
            have h12 : U 12 = .int .i64 W := hv 12 (by kernel_rfl)
            obtain ⟨ba, bc, k8, T8⟩ := h8
            rw [h0] at D0
            rw [k8] at D8
            rw [h12] at D12
            have HT : Hid (∀ V2, Below w4.heap.size w4 V2 → CallsIn Fence.wide (m - 1) Try.prog 20 #[clo bt2, .slice ba nU bc, .int .i64 W] V2 fun e w' => e = .returned (.bool true) ∧ Below V2.heap.size V2 w') := T8
            clear T8
            have G0 : A.tmps[105]?.getD undef = _ := Array.getD_eq_getD_getElem?.symm.trans D0
            have G8 : A.tmps[113]?.getD undef = _ := Array.getD_eq_getD_getElem?.symm.trans D8
            have G12 : A.tmps[117]?.getD undef = _ := Array.getD_eq_getD_getElem?.symm.trans D12
            refine ⟨fun _ _ => trivial, ?_⟩
            simp only [Oper.semAt, execOp]
            go_simp
            refine ⟨no_depth _, ?_⟩
            refine (HT.out w4 (Below.refl _ _)).mono ?_
            rintro e w5 ⟨rfl, H⟩
            exact ⟨_, rfl, H, rfl⟩
          | 14, ho =>
            obtain rfl := Option.some.inj ho
            have h13 : U 13 = .bool true := hv 13 (by kernel_rfl)
            rw [h13] at D13
            refine ⟨fun _ _ => trivial, ?_⟩
            simp only [Oper.semAt, execOp, D13]
            go_simp
            exact ⟨_, rfl, Below.refl _ _, rfl⟩
          | i + 15, ho => cases ho
        case hend =>
          intro U w12 hb hv
          have h14 : U 14 = .bool true := hv 14 (by decide)
          clear hv
          have HE12 : Hid (Env w w12 q r W #[.int .i64 uk, .int .u64 (hiOf ua), .int .u64 (loOf ua), .int .i64 ul, .int .i64 uv, .int .i64 stp, .int .i64 tk, .int .u64 (hiOf ta), .int .u64 (loOf ta), .int .i64 tl, .int .i64 tv] A6 A8 A10 L ro ∧ Itr w12 A14 bt q 0 0 ∧ Itr w12 A16 bt2 q ua ul) := ⟨HE11.out.1.below hb, HE11.out.2.1.below hb, HE11.out.2.2.below hb⟩
          clear HE11 hb HCU CU
          simp only [putAll, Act.put, h14, List.setIfInBounds_toArray, List.set_cons_succ, List.set_cons_zero]
          clear h14
          have C16 : Hid (CallsIn Fence.wide (m - 1) Try.prog 16 #[.pointer (some ⟨r, 0, none⟩)] w12 fun e w' => ∃ r', e = .returned (.pointer (some ⟨r', 0, none⟩)) ∧ Hid (w12.heap.size ≤ r' ∧ (∃ ro', RefI w w' r' W 4096 L ro' ∧ ∀ k, ro' = some k → w12.heap.size ≤ k) ∧ Below w12.heap.size w12 w')) := callsIn_wide.2 (ref_copy HE12.out.1.d.ref HE12.out.1.d.own.be.size)
          have x0 := HE12.out.1.b10.cell 0 (v := .pointer (some ⟨r, 0, none⟩)) rfl
          gi_wp2_with fail
          refine ⟨trivial, no_depth _, ?_⟩
          refine C16.out.mono ?_
          rintro e w13 ⟨r2, rfl, H13⟩
          clear C16 x0
          obtain ⟨hr2, ⟨ro2, hR2, hro2⟩, hb13⟩ := H13.out
          have HNE : Hid (r2 ≠ r ∧ ∀ k, ro2 = some k → ro ≠ some k) := ⟨fun e => by have := HE12.out.1.d.tch r (.inr (.inl rfl)); omega, fun k e1 e2 => by have := HE12.out.1.d.tch k (.inr (.inr e2)); have := hro2 k e1; omega⟩
          have HN := one_new w13 #[.pointer (some ⟨r2, 0, none⟩)] 28
          have HE14 : Hid (Env w (w13.alloc (.cells #[.pointer (some ⟨r2, 0, none⟩)] 28)) q r W #[.int .i64 uk, .int .u64 (hiOf ua), .int .u64 (loOf ua), .int .i64 ul, .int .i64 uv, .int .i64 stp, .int .i64 tk, .int .u64 (hiOf ta), .int .u64 (loOf ta), .int .i64 tl, .int .i64 tv] A6 A8 A10 L ro ∧ Itr (w13.alloc (.cells #[.pointer (some ⟨r2, 0, none⟩)] 28)) A14 bt q 0 0 ∧ Itr (w13.alloc (.cells #[.pointer (some ⟨r2, 0, none⟩)] 28)) A16 bt2 q ua ul ∧ Blk (w13.alloc (.cells #[.pointer (some ⟨r2, 0, none⟩)] 28)) w13.heap.size #[.pointer (some ⟨r2, 0, none⟩)] 28 ∧ RefI w (w13.alloc (.cells #[.pointer (some ⟨r2, 0, none⟩)] 28)) r2 W 4096 L ro2) := ⟨(HE12.out.1.below hb13).below HN.2.1, (HE12.out.2.1.below hb13).below HN.2.1, (HE12.out.2.2.below hb13).below HN.2.1, HN.1, hR2.below HN.2.1⟩
          clear HE12 HN H13 hR2 hro2 hb13 hr2
          gi_upto_region 20 with fail
          generalize (w13.alloc _) = w14 at HE14 ⊢
          generalize w13.heap.size = A19 at HE14 ⊢
          have HN := one_new w14 #[.int .i64 0] 3
          have HT15 : Hid (Gp.TellsG Gp.Gd Try.prog 48 #[.pointer (some ⟨bt, 0, none⟩), .pointer (some ⟨bt + 1, 0, none⟩)] (fun y : List Bool × Int => #[Pf (valOf W y.1) y.1.length, .int .i64 y.2]) L (SW w14.heap.size q r ro) (w14.alloc (.cells #[.int .i64 0] 3))) := tells_gp HE14.out.1.d HN.2.1 (Nat.le_refl _) HN.2.2 (HE14.out.2.1.t.below HN.2.1) (HE14.out.2.1.p.below HN.2.1)
          have HX15 : Hid (OX (XA w14.heap.size) (w14.alloc (.cells #[.int .i64 0] 3)) q W 4096 L) := ox_new HE14.out.1.d.own HN.2.1 (Nat.le_refl _)
          have HE15 : Hid ((Env w (w14.alloc (.cells #[.int .i64 0] 3)) q r W #[.int .i64 uk, .int .u64 (hiOf ua), .int .u64 (loOf ua), .int .i64 ul, .int .i64 uv, .int .i64 stp, .int .i64 tk, .int .u64 (hiOf ta), .int .u64 (loOf ta), .int .i64 tl, .int .i64 tv] A6 A8 A10 L ro ∧ Itr (w14.alloc (.cells #[.int .i64 0] 3)) A14 bt q 0 0 ∧ Itr (w14.alloc (.cells #[.int .i64 0] 3)) A16 bt2 q ua ul ∧ Blk (w14.alloc (.cells #[.int .i64 0] 3)) A19 #[.pointer (some ⟨r2, 0, none⟩)] 28 ∧ RefI w (w14.alloc (.cells #[.int .i64 0] 3)) r2 W 4096 L ro2) ∧ Blk (w14.alloc (.cells #[.int .i64 0] 3)) w14.heap.size #[.int .i64 0] 3 ∧ w14.heap.size < (w14.alloc (.cells #[.int .i64 0] 3)).heap.size ∧ w.heap.size ≤ w14.heap.size) := ⟨⟨HE14.out.1.below HN.2.1, HE14.out.2.1.below HN.2.1, HE14.out.2.2.1.below HN.2.1, HE14.out.2.2.2.1.below HN.2.1, HE14.out.2.2.2.2.below HN.2.1⟩, HN.1, HN.2.2, HE14.out.1.d.own.be.size⟩
          clear HE14 HN
          gi_upto_region 21 with fail
          generalize (w14.alloc _) = w15 at HE15 HT15 HX15 ⊢
          generalize w14.heap.size = A20 at HE15 HT15 HX15 ⊢
          have a0 := HE15.out.1.2.1.f.cell 0 (v := clo bt) rfl
          gi_wp2_with fail
          clear a0
          have HS15 : Hid (∀ k, SW A20 q r ro k → k < w15.heap.size ∧ w.heap.size ≤ k) := fun k e => by
            rcases e with e | e
            · rw [e]; exact ⟨HE15.out.2.2.1, HE15.out.2.2.2⟩
            · exact ⟨HE15.out.1.1.d.tch k e, HE15.out.1.1.d.lo k e⟩
          have HST : Hid (∀ b cs t, Blk w15 b cs t → t ≠ 84 → t ≠ 40 → t ≠ 57 → t ≠ 3 → ¬ SW A20 q r ro b) := fun b cs t h n1 n2 n3 n4 e => by
            rcases e with e | e | e | e
            · rw [e] at h; exact ty_ne HE15.out.2.1 h (fun e => n4 e.symm)
            · obtain ⟨_, _, k⟩ := HE15.out.1.1.d.own.hdr; rw [← e] at k; exact ty_ne k h (fun e => n1 e.symm)
            · obtain ⟨_, _, k⟩ := HE15.out.1.1.d.ref.hdr; rw [← e] at k; exact ty_ne k h (fun e => n2 e.symm)
            · obtain ⟨_, _, _, k⟩ := HE15.out.1.1.d.ref.row b e; exact ty_ne k h (fun e => n3 e.symm)
          have hbe15 : w.heap.size ≤ w15.heap.size := HE15.out.1.1.d.own.be.size
          have hA15 : A20 < w15.heap.size := HE15.out.2.2.1
          have HXM : Hid (∀ V (n : Nat) L1 ro1, Duo w V q r W 4096 L1 ro1 → Blk V A20 #[.int .i64 n] 3 → Kept (SW A20 q r ro) w15 V → OX (XA A20) V q W 4096 L1 → RX w w15 V V q r W #[.int .i64 uk, .int .u64 (hiOf ua), .int .u64 (loOf ua), .int .i64 ul, .int .i64 uv, .int .i64 stp, .int .i64 tk, .int .u64 (hiOf ta), .int .u64 (loOf ta), .int .i64 tl, .int .i64 tv] A6 A8 A10 A14 A16 A19 A20 bt bt2 r2 ua ul n ro L L1 ro2 ro1) := fun V n L1 ro1 hD1 hb20 hkS hox1 => by
            have kb : ∀ {b : Nat} {cs : Array Value} {t : TypeId}, Blk w15 b cs t → t ≠ 84 → t ≠ 40 → t ≠ 57 → t ≠ 3 → Blk V b cs t := fun {b cs t} h n1 n2 n3 n4 => h.kept hkS (HST.out _ _ _ h n1 n2 n3 n4)
            obtain ⟨⟨e1, i1, i2, b19, was⟩, _⟩ := HE15.out
            refine ⟨⟨hD1, kb e1.b46 (by decide) (by decide) (by decide) (by decide), kb e1.b6 (by decide) (by decide) (by decide) (by decide), kb e1.b8 (by decide) (by decide) (by decide) (by decide), kb e1.b10 (by decide) (by decide) (by decide) (by decide), e1.lt⟩, ⟨kb i1.f (by decide) (by decide) (by decide) (by decide), kb i1.t (by decide) (by decide) (by decide) (by decide), kb i1.p (by decide) (by decide) (by decide) (by decide)⟩, ⟨kb i2.f (by decide) (by decide) (by decide) (by decide), kb i2.t (by decide) (by decide) (by decide) (by decide), kb i2.p (by decide) (by decide) (by decide) (by decide)⟩, kb b19 (by decide) (by decide) (by decide) (by decide), hb20, was.kept hkS ?_ ?_, hkS, Kept.refl _ _, HNE.out, hox1⟩
            · obtain ⟨_, _, gr⟩ := was.hdr
              rintro (e | e | e | e)
              · rw [e] at gr; exact ty_ne HE15.out.2.1 gr (by decide)
              · obtain ⟨_, _, k⟩ := e1.d.own.hdr; rw [← e] at k; exact ty_ne k gr (by decide)
              · exact HNE.out.1 e
              · obtain ⟨_, _, _, k⟩ := e1.d.ref.row _ e; exact ty_ne k gr (by decide)
            · rintro k e2 (e | e | e | e)
              · obtain ⟨_, _, _, g⟩ := was.row k e2; rw [e] at g; exact ty_ne HE15.out.2.1 g (by decide)
              · obtain ⟨_, _, _, g⟩ := was.row k e2; obtain ⟨_, _, g3⟩ := e1.d.own.hdr; rw [e] at g; exact ty_ne g3 g (by decide)
              · obtain ⟨_, _, _, g⟩ := was.row k e2; obtain ⟨_, _, g3⟩ := e1.d.ref.hdr; rw [e] at g; exact ty_ne g3 g (by decide)
              · exact HNE.out.2 k e2 e
          refine Gp.rangeG_outer (gt := Gp.Gd) (gf := 48) (lb := #[.pointer (some ⟨bt, 0, none⟩), .pointer (some ⟨bt + 1, 0, none⟩)]) (encs := fun y : List Bool × Int => #[Pf (valOf W y.1) y.1.length, .int .i64 y.2]) (xs := L) (S := SW A20 q r ro) rfl (enters_of Try.func48 (by kernel_rfl) rfl)
            (fun k e => (HS15.out k e).1) HT15.out (Below.refl _ _) (fun _ => rfl)
            (WX w w15 q r W A20 L ro) (fun c pre W' => c = .exit 2 ∧ WX w w15 q r W A20 L ro pre W' ∧ (pre.length : Int) = stp) (WX.low hbe15 hA15) (fun c s A C hk h => ⟨h.1, WX.low hbe15 hA15 s A C hk h.2.1, h.2.2⟩)
            ⟨L, ro, HE15.out.1.1.d, fun _ => rfl, HE15.out.2.1, Kept.refl _ _, HX15.out⟩ ?round ?done ?stop
          case stop =>
            rintro c pre W' hpre ⟨rfl, ⟨L1, ro1, hD1, hro1, hb20, hkS, hox1⟩, hst⟩ hks hD'
            obtain ⟨n, HR0, HNQ⟩ : ∃ n : Nat, Hid (RX w w15 W' W' q r W #[.int .i64 uk, .int .u64 (hiOf ua), .int .u64 (loOf ua), .int .i64 ul, .int .i64 uv, .int .i64 stp, .int .i64 tk, .int .u64 (hiOf ta), .int .u64 (loOf ta), .int .i64 tl, .int .i64 tv] A6 A8 A10 A14 A16 A19 A20 bt bt2 r2 ua ul n ro L L1 ro2 ro1) ∧ Hid ((n : Int) = (L.length : Int) ∨ (n : Int) = stp) := ⟨_, HXM.out W' _ L1 ro1 hD1 hb20 hkS hox1, (.inr hst : _ ∨ _)⟩
            clear hpre hD1 hro1 hb20 hkS hox1 hst hks HT15 HX15 HS15 HST HXM
            have HA6 : Hid (w.heap.size < A6 ∧ A6 < w15.heap.size ∧ w.heap.size ≤ w15.heap.size) := ⟨HE15.out.1.1.lt, HE15.out.1.1.b6.lt, hbe15⟩
            have HEV : Hid (∀ V, Below W'.heap.size W' V → RX w w15 W' V q r W #[.int .i64 uk, .int .u64 (hiOf ua), .int .u64 (loOf ua), .int .i64 ul, .int .i64 uv, .int .i64 stp, .int .i64 tk, .int .u64 (hiOf ta), .int .u64 (loOf ta), .int .i64 tl, .int .i64 tv] A6 A8 A10 A14 A16 A19 A20 bt bt2 r2 ua ul (n) ro L L1 ro2 ro1 ∧ V.heap[w15.heap.size]? = some (.deferred (some [])) ∧ Below w.heap.size w V) := fun V hV => ⟨HR0.out.below hV, (hV.block _ (Array.getElem?_eq_some_iff.1 hD').1).trans hD', bst HR0.out.e.d.own.be hV (Nat.le_refl _)⟩
            clear hD' HE15
            gi_upto_region 40 with fail
            obtain ⟨baA, nA, bcA, hAr, hAt⟩ := told_all HR0.out.e.d h2 HR0.out.i1.t HR0.out.i1.p
            have CA : Hid (∀ z : Grown W', CallsIn Fence.wide (m - 1) Try.prog 20 #[clo bt, .slice baA nA bcA, .int .i64 W] (gw z) fun e w' => e = .returned (.bool true) ∧ Below (gw z).heap.size (gw z) w') := fun z => callsIn_wide.2 (hAt _ (gw_below z))
            have qa := gw_cell (HR0.out.i1.f.cell 0 (v := clo bt) rfl)
            have qx := gw_cell (HR0.out.e.b10.cell 0 (v := .pointer (some ⟨r, 0, none⟩)) rfl)
            have q0 := gw_cell (hAr.cell 0 (v := .int .i64 W) rfl)
            have q2 := gw_cell (hAr.cell 2 (v := .slice baA nA bcA) rfl)
            clear hAr hAt
            refine grows_wide hmix (by kernel_rfl) ?_
            repeat (gi_big_quiet_step (fail))
            refine Go.BigFrame.wpQuietIn_want (fun _ _ _ _ => trivial) (by rfl) ?_
            intro K2 hK2
            gi_big_quiet_op
            apply Exists.intro
            refine ⟨fun _ => ?_, ?_⟩
            · exact ⟨no_depth _, calls_gwIn (CA.out _)⟩
            go_big_quiet_on
            repeat (gi_big_quiet_step (fail))
            refine wpQuietIn_nil ?_
            intro wq hwq
            obtain ⟨zq, rfl⟩ := hwq
            clear CA qa qx q0 q2
            have hbz : Below W'.heap.size W' (gw zq) := gw_below zq
            generalize gw zq = Wf at *
            gi_upto_region 41 with fail
            have HR1 : Hid (RX w w15 W' Wf q r W #[.int .i64 uk, .int .u64 (hiOf ua), .int .u64 (loOf ua), .int .i64 ul, .int .i64 uv, .int .i64 stp, .int .i64 tk, .int .u64 (hiOf ta), .int .u64 (loOf ta), .int .i64 tl, .int .i64 tv] A6 A8 A10 A14 A16 A19 A20 bt bt2 r2 ua ul (n) ro L L1 ro2 ro1) := (HEV.out Wf hbz).1
            clear HR0
            have HCU : Hid (∀ V, Below Wf.heap.size Wf V → V.cell? ⟨A16, 0, none⟩ = some (clo bt2) ∧ V.cell? ⟨A10, 0, none⟩ = some (.pointer (some ⟨r, 0, none⟩)) ∧ V.cell? ⟨w.heap.size, 1, none⟩ = some (.int .u64 (hiOf ua)) ∧ V.cell? ⟨w.heap.size, 2, none⟩ = some (.int .u64 (loOf ua)) ∧ V.cell? ⟨w.heap.size, 3, none⟩ = some (.int .i64 ul) ∧ V.cell? ⟨r, 0, none⟩ = some (.int .i64 W)) := fun V hV =>
              ⟨(HR1.out.i2.f.below hV).cell 0 rfl, (HR1.out.e.b10.below hV).cell 0 rfl, (HR1.out.e.b46.below hV).cell 1 rfl, (HR1.out.e.b46.below hV).cell 2 rfl, (HR1.out.e.b46.below hV).cell 3 rfl, by obtain ⟨⟨_, _, _, g, _⟩, _⟩ := HR1.out.e.d.ref; exact (g.below hV).cell 0 rfl⟩
            obtain ⟨nU, hU⟩ := told_under HR1.out.e.d h1 h2 ua HKW.out.1 ul HR1.out.i2.t HR1.out.i2.p
            have CU : Hid (∀ V, Below Wf.heap.size Wf V → CallsIn Fence.wide (m - 1) Try.prog 21 #[.pointer (some ⟨r, 0, none⟩), .agg #[.int .u64 (hiOf ua), .int .u64 (loOf ua)], .int .i64 ul] V fun e w' => ∃ ba bc, e = .returned (.slice ba nU bc) ∧ Hid (Below V.heap.size V w' ∧ ∀ V2, Below w'.heap.size w' V2 → CallsIn Fence.wide (m - 1) Try.prog 20 #[clo bt2, .slice ba nU bc, .int .i64 W] V2 fun e w' => e = .returned (.bool true) ∧ Below V2.heap.size V2 w')) := fun V hV => callsIn_wide.2 ((hU V hV).mono (by
              rintro e w' ⟨ba, bc, rfl, H⟩
              exact ⟨ba, bc, rfl, H.out.1, fun V2 h => callsIn_wide.2 (H.out.2 V2 h)⟩))
            clear hU
            skip
            refine region_free1W hmix (by kernel_rfl) (by kernel_rfl) (VU W q r w.heap.size bt2 ua ul nU (m - 1)) VU_below ?hop ?hend
            case hop =>
              intro A U w4 hb hD hE
              obtain ⟨a0, x0, u1, u2, u3, g0⟩ := HCU.out w4 hb
              have E5 : A.eval (.tmp 5) = .pointer (some ⟨w.heap.size, 0, none⟩) := hE 5 (by kernel_rfl)
              have E10 : A.eval (.tmp 10) = .pointer (some ⟨A10, 0, none⟩) := hE 10 (by kernel_rfl)
              have E16 : A.eval (.tmp 16) = .pointer (some ⟨A16, 0, none⟩) := hE 16 (by kernel_rfl)
              have D0 := hD 231 0 (by kernel_rfl) (by kernel_rfl)
              have D1 := hD 232 1 (by kernel_rfl) (by kernel_rfl)
              have D2 := hD 233 2 (by kernel_rfl) (by kernel_rfl)
              have D3 := hD 234 3 (by kernel_rfl) (by kernel_rfl)
              have D4 := hD 235 4 (by kernel_rfl) (by kernel_rfl)
              have D5 := hD 236 5 (by kernel_rfl) (by kernel_rfl)
              have D6 := hD 237 6 (by kernel_rfl) (by kernel_rfl)
              have D7 := hD 238 7 (by kernel_rfl) (by kernel_rfl)
              have D8 := hD 239 8 (by kernel_rfl) (by kernel_rfl)
              have D9 := hD 240 9 (by kernel_rfl) (by kernel_rfl)
              have D10 := hD 241 10 (by kernel_rfl) (by kernel_rfl)
              have D11 := hD 242 11 (by kernel_rfl) (by kernel_rfl)
              have D12 := hD 243 12 (by kernel_rfl) (by kernel_rfl)
              have D13 := hD 244 13 (by kernel_rfl) (by kernel_rfl)
              clear hD hE
              intro i o ho hv
              match i, ho with
              | 0, ho =>
                obtain rfl := Option.some.inj ho
                refine ⟨fun _ _ => trivial, ?_⟩
                simp only [Oper.semAt, execOp, E16]
                go_simp
                exact ⟨_, rfl, Below.refl _ _, rfl⟩
              | 1, ho =>
                obtain rfl := Option.some.inj ho
                refine ⟨fun _ _ => trivial, ?_⟩
                simp only [Oper.semAt, execOp, E10]
                go_simp
                exact ⟨_, rfl, Below.refl _ _, rfl⟩
              | 2, ho =>
                obtain rfl := Option.some.inj ho
                refine ⟨fun _ _ => trivial, ?_⟩
                simp only [Oper.semAt, execOp, E5]
                go_simp
                exact ⟨_, rfl, Below.refl _ _, rfl⟩
              | 3, ho =>
                obtain rfl := Option.some.inj ho
                have h2 : U 2 = .pointer (some ⟨w.heap.size, 0, none⟩) := hv 2 (by kernel_rfl)
                rw [h2] at D2
                refine ⟨fun _ _ => trivial, ?_⟩
                simp only [Oper.semAt, execOp, D2]
                go_simp
                exact ⟨_, rfl, Below.refl _ _, rfl⟩
              | 4, ho =>
                obtain rfl := Option.some.inj ho
                have h3 : U 3 = .pointer (some ⟨w.heap.size, 1, none⟩) := hv 3 (by kernel_rfl)
                rw [h3] at D3
                refine ⟨fun _ _ => trivial, ?_⟩
                simp only [Oper.semAt, execOp, D3]
                go_simp
                exact ⟨_, rfl, Below.refl _ _, rfl⟩
              | 5, ho =>
                obtain rfl := Option.some.inj ho
                refine ⟨fun _ _ => trivial, ?_⟩
                simp only [Oper.semAt, execOp, E5]
                go_simp
                exact ⟨_, rfl, Below.refl _ _, rfl⟩
              | 6, ho =>
                obtain rfl := Option.some.inj ho
                have h5 : U 5 = .pointer (some ⟨w.heap.size, 0, none⟩) := hv 5 (by kernel_rfl)
                rw [h5] at D5
                refine ⟨fun _ _ => trivial, ?_⟩
                simp only [Oper.semAt, execOp, D5]
                go_simp
                exact ⟨_, rfl, Below.refl _ _, rfl⟩
              | 7, ho =>
                obtain rfl := Option.some.inj ho
                have h6 : U 6 = .pointer (some ⟨w.heap.size, 3, none⟩) := hv 6 (by kernel_rfl)
                rw [h6] at D6
                refine ⟨fun _ _ => trivial, ?_⟩
                simp only [Oper.semAt, execOp, D6]
                go_simp
                exact ⟨_, rfl, Below.refl _ _, rfl⟩
              | 8, ho =>
                obtain rfl := Option.some.inj ho
                have h1 : U 1 = .pointer (some ⟨r, 0, none⟩) := hv 1 (by kernel_rfl)
                rw [h1] at D1
                have h4 : U 4 = .agg #[.int .u64 (hiOf ua), .int .u64 (loOf ua)] := hv 4 (by kernel_rfl)
                rw [h4] at D4
                have h7 : U 7 = .int .i64 ul := hv 7 (by kernel_rfl)
                rw [h7] at D7
                have G1 : A.tmps[232]?.getD undef = _ := Array.getD_eq_getD_getElem?.symm.trans D1
                have G4 : A.tmps[235]?.getD undef = _ := Array.getD_eq_getD_getElem?.symm.trans D4
                have G7 : A.tmps[238]?.getD undef = _ := Array.getD_eq_getD_getElem?.symm.trans D7
                refine ⟨fun _ _ => trivial, ?_⟩
                simp only [Oper.semAt, execOp]
                go_simp
                refine ⟨no_depth _, ?_⟩
                refine (CU.out w4 hb).mono ?_
                rintro e w5 ⟨ba, bc, rfl, H⟩
                exact ⟨_, rfl, H.out.1, ba, bc, rfl, H.out.2⟩
              | 9, ho =>
                obtain rfl := Option.some.inj ho
                refine ⟨fun _ _ => trivial, ?_⟩
                simp only [Oper.semAt, execOp, E10]
                go_simp
                exact ⟨_, rfl, Below.refl _ _, rfl⟩
              | 10, ho =>
                obtain rfl := Option.some.inj ho
                have h9 : U 9 = .pointer (some ⟨r, 0, none⟩) := hv 9 (by kernel_rfl)
                rw [h9] at D9
                refine ⟨fun _ _ => trivial, ?_⟩
                simp only [Oper.semAt, execOp, D9]
                go_simp
                exact ⟨_, rfl, Below.refl _ _, rfl⟩
              | 11, ho =>
                obtain rfl := Option.some.inj ho
                have h10 : U 10 = .pointer (some ⟨r, 0, none⟩) := hv 10 (by kernel_rfl)
                rw [h10] at D10
                refine ⟨fun _ _ => trivial, ?_⟩
                simp only [Oper.semAt, execOp, D10]
                go_simp
                exact ⟨_, rfl, Below.refl _ _, rfl⟩
              | 12, ho =>
                obtain rfl := Option.some.inj ho
                have h11 : U 11 = .pointer (some ⟨r, 0, none⟩) := hv 11 (by kernel_rfl)
                rw [h11] at D11
                refine ⟨fun _ _ => trivial, ?_⟩
                simp only [Oper.semAt, execOp, D11]
                go_simp
                exact ⟨_, rfl, Below.refl _ _, rfl⟩
              | 13, ho =>
                obtain rfl := Option.some.inj ho
                have h0 : U 0 = clo bt2 := hv 0 (by kernel_rfl)
                have h8 : VU W q r w.heap.size bt2 ua ul nU (m - 1) 8 (U 8) w4 := hv 8 (by kernel_rfl)
                have h12 : U 12 = .int .i64 W := hv 12 (by kernel_rfl)
                obtain ⟨ba, bc, k8, T8⟩ := h8
                rw [h0] at D0
                rw [k8] at D8
                rw [h12] at D12
                have HT : Hid (∀ V2, Below w4.heap.size w4 V2 → CallsIn Fence.wide (m - 1) Try.prog 20 #[clo bt2, .slice ba nU bc, .int .i64 W] V2 fun e w' => e = .returned (.bool true) ∧ Below V2.heap.size V2 w') := T8
                clear T8
                have G0 : A.tmps[231]?.getD undef = _ := Array.getD_eq_getD_getElem?.symm.trans D0
                have G8 : A.tmps[239]?.getD undef = _ := Array.getD_eq_getD_getElem?.symm.trans D8
                have G12 : A.tmps[243]?.getD undef = _ := Array.getD_eq_getD_getElem?.symm.trans D12
                refine ⟨fun _ _ => trivial, ?_⟩
                simp only [Oper.semAt, execOp]
                go_simp
                refine ⟨no_depth _, ?_⟩
                refine (HT.out w4 (Below.refl _ _)).mono ?_
                rintro e w5 ⟨rfl, H⟩
                exact ⟨_, rfl, H, rfl⟩
              | 14, ho =>
                obtain rfl := Option.some.inj ho
                have h13 : U 13 = .bool true := hv 13 (by kernel_rfl)
                rw [h13] at D13
                refine ⟨fun _ _ => trivial, ?_⟩
                simp only [Oper.semAt, execOp, D13]
                go_simp
                exact ⟨_, rfl, Below.refl _ _, rfl⟩
              | i + 15, ho => cases ho
            case hend =>
              intro U Wg hb hv
              have h14 : U 14 = .bool true := hv 14 (by decide)
              clear hv
              replace hbz : Below W'.heap.size W' Wg := bst hbz hb (Nat.le_refl _)
              clear HR1 hb HCU CU
              simp only [putAll, Act.put, h14, List.setIfInBounds_toArray, List.set_cons_succ, List.set_cons_zero]
              clear h14
              gi_upto_region 42 with fail
              obtain ⟨gR, _, _⟩ := HEV.out Wg hbz
              obtain ⟨⟨ba9, bc9, _, g2, _⟩, _⟩ := id gR.was
              have n0 := gw_cell (gR.b20.cell 0 (v := .int .i64 n) rfl)
              have x19 := gw_cell (gR.b19.cell 0 (v := .pointer (some ⟨r2, 0, none⟩)) rfl)
              have s0 := gw_cell (gR.e.b46.cell 5 (v := .int .i64 stp) rfl)
              have x2 := gw_cell (g2.cell 2 (v := .slice ba9 L.length bc9) rfl)
              have HQ := HNQ.out
              clear gR g2 HNQ
              generalize L.length = N at *
              by_cases hq : (n : Int) = (N : Int)
              · clear HQ
                have hq2 : decide ((n : Int) = (N : Int)) = true := decide_eq_true hq
                refine gate_wide 19 hmix (by kernel_rfl) (by kernel_rfl) (by kernel_rfl) ?_
                simp only [List.take_succ_cons, List.take_zero]
                repeat (gi_big_quiet_step (fail))
                refine wpQuietIn_nil ?_
                intro wq hwq
                obtain ⟨zq, rfl⟩ := hwq
                clear n0 x19 x2 s0
                replace hbz : Below W'.heap.size W' (gw zq) := bst hbz (gw_below zq) (Nat.le_refl _)
                generalize gw zq = W5 at *
                obtain ⟨gR, gD, gB⟩ := HEV.out W5 hbz
                have HZ4 : Hid (Blk W5 A6 #[.bool false] 4 ∧ W5.heap[w15.heap.size]? = some (.deferred (some [])) ∧ Below w.heap.size w W5) := ⟨gR.e.b6, gD, gB⟩
                clear gR gD gB HEV
                have f0 := HZ4.out.1.frozen 0
                have c0 := HZ4.out.1.cell 0 (v := .bool false) rfl
                change wpAnyIn _ _ _ _ _ _ 1 (upTo 19 1) _ _
                refine wpAnyIn_ready (rs := [19]) (by kernel_rfl) (by simp) ?_
                refine AllReadyIn.cons rfl (fun K5 hK5 => ?_) AllReadyIn.nil
                go_simp
                refine hK5 _ _ ?_
                clear hK5 K5
                refine wpAnyIn_done (by kernel_rfl) ?_ _
                have HF : Hid (Blk (W5.setCell ⟨A6, 0, none⟩ (.bool true)) A6 #[.bool true] 4 ∧ (W5.setCell ⟨A6, 0, none⟩ (.bool true)).heap[w15.heap.size]? = some (.deferred (some [])) ∧ Below w.heap.size w (W5.setCell ⟨A6, 0, none⟩ (.bool true))) := by
                  obtain ⟨h1, h10, h13⟩ := HZ4.out
                  have hb := HA6.out
                  have ks := (Kept.refl (fun k => k = A6) W5).set (p := ⟨A6, 0, none⟩) rfl (.bool true)
                  exact ⟨h1.set 0 _, (ks.block _ (Array.getElem?_eq_some_iff.1 h10).1 (by show ¬ _ = _; omega)).trans h10, h13.setCell (Nat.le_of_lt hb.1) _⟩
                clear f0 c0 HZ4
                gi_wp2_with fail
                generalize W5.setCell _ _ = W6 at HF ⊢
                have hb := HA6.out
                refine ⟨by simp, .inl ⟨_, _, rfl, run_takeDeferred HF.out.2.1, ?_⟩⟩
                have hkk := kept_putObj (fun k => k = w15.heap.size) W6 w15.heap.size (.deferred none) rfl
                have z1 := (HF.out.1.kept hkk (by show ¬ _ = _; omega)).cell 0 (v := .bool true) rfl
                refine ⟨.bool true, ?_, rfl, HF.out.2.2.trans (hkk.below HF.out.2.2.size (fun k e => by have e' : k = w15.heap.size := e; omega))⟩
                simp [results, Try.results4, go_sem, z1]
              · have hst : (n : Int) = stp := HQ.resolve_left hq
                simp only [hst] at n0
                rw [hst] at hq
                have hq2 : decide (stp = (N : Int)) = false := decide_eq_false hq
                have hq3 : (stp == (N : Int)) = false := beq_false_of_ne hq
                clear hst
                clear HQ
                refine gate_wide 19 hmix (by kernel_rfl) (by kernel_rfl) (by kernel_rfl) ?_
                simp only [List.take_succ_cons, List.take_zero]
                repeat (gi_big_quiet_step (fail))
                refine wpQuietIn_nil ?_
                intro wq hwq
                obtain ⟨zq, rfl⟩ := hwq
                clear n0 x19 x2 s0
                replace hbz : Below W'.heap.size W' (gw zq) := bst hbz (gw_below zq) (Nat.le_refl _)
                generalize gw zq = W5 at *
                obtain ⟨gR, gD, gB⟩ := HEV.out W5 hbz
                have HZ4 : Hid (Blk W5 A6 #[.bool false] 4 ∧ W5.heap[w15.heap.size]? = some (.deferred (some [])) ∧ Below w.heap.size w W5) := ⟨gR.e.b6, gD, gB⟩
                clear gR gD gB HEV
                have f0 := HZ4.out.1.frozen 0
                have c0 := HZ4.out.1.cell 0 (v := .bool false) rfl
                change wpAnyIn _ _ _ _ _ _ 1 (upTo 19 1) _ _
                refine wpAnyIn_ready (rs := [19]) (by kernel_rfl) (by simp) ?_
                refine AllReadyIn.cons rfl (fun K5 hK5 => ?_) AllReadyIn.nil
                go_simp
                refine hK5 _ _ ?_
                clear hK5 K5
                refine wpAnyIn_done (by kernel_rfl) ?_ _
                have HF : Hid (Blk (W5.setCell ⟨A6, 0, none⟩ (.bool true)) A6 #[.bool true] 4 ∧ (W5.setCell ⟨A6, 0, none⟩ (.bool true)).heap[w15.heap.size]? = some (.deferred (some [])) ∧ Below w.heap.size w (W5.setCell ⟨A6, 0, none⟩ (.bool true))) := by
                  obtain ⟨h1, h10, h13⟩ := HZ4.out
                  have hb := HA6.out
                  have ks := (Kept.refl (fun k => k = A6) W5).set (p := ⟨A6, 0, none⟩) rfl (.bool true)
                  exact ⟨h1.set 0 _, (ks.block _ (Array.getElem?_eq_some_iff.1 h10).1 (by show ¬ _ = _; omega)).trans h10, h13.setCell (Nat.le_of_lt hb.1) _⟩
                clear f0 c0 HZ4
                gi_wp2_with fail
                generalize W5.setCell _ _ = W6 at HF ⊢
                have hb := HA6.out
                refine ⟨by simp, .inl ⟨_, _, rfl, run_takeDeferred HF.out.2.1, ?_⟩⟩
                have hkk := kept_putObj (fun k => k = w15.heap.size) W6 w15.heap.size (.deferred none) rfl
                have z1 := (HF.out.1.kept hkk (by show ¬ _ = _; omega)).cell 0 (v := .bool true) rfl
                refine ⟨.bool true, ?_, rfl, HF.out.2.2.trans (hkk.below HF.out.2.2.size (fun k e => by have e' : k = w15.heap.size := e; omega))⟩
                simp [results, Try.results4, go_sem, z1]
          case done =>
            rintro W' ⟨L1, ro1, hD1, hro1, hb20, hkS, hox1⟩ hks hD'
            obtain ⟨n, HR0, HNQ⟩ : ∃ n : Nat, Hid (RX w w15 W' W' q r W #[.int .i64 uk, .int .u64 (hiOf ua), .int .u64 (loOf ua), .int .i64 ul, .int .i64 uv, .int .i64 stp, .int .i64 tk, .int .u64 (hiOf ta), .int .u64 (loOf ta), .int .i64 tl, .int .i64 tv] A6 A8 A10 A14 A16 A19 A20 bt bt2 r2 ua ul n ro L L1 ro2 ro1) ∧ Hid ((n : Int) = (L.length : Int) ∨ (n : Int) = stp) := ⟨_, HXM.out W' _ L1 ro1 hD1 hb20 hkS hox1, (.inl rfl : _ ∨ _)⟩
            clear hD1 hro1 hb20 hkS hox1 hks HT15 HX15 HS15 HST HXM
            have HA6 : Hid (w.heap.size < A6 ∧ A6 < w15.heap.size ∧ w.heap.size ≤ w15.heap.size) := ⟨HE15.out.1.1.lt, HE15.out.1.1.b6.lt, hbe15⟩
            have HEV : Hid (∀ V, Below W'.heap.size W' V → RX w w15 W' V q r W #[.int .i64 uk, .int .u64 (hiOf ua), .int .u64 (loOf ua), .int .i64 ul, .int .i64 uv, .int .i64 stp, .int .i64 tk, .int .u64 (hiOf ta), .int .u64 (loOf ta), .int .i64 tl, .int .i64 tv] A6 A8 A10 A14 A16 A19 A20 bt bt2 r2 ua ul (n) ro L L1 ro2 ro1 ∧ V.heap[w15.heap.size]? = some (.deferred (some [])) ∧ Below w.heap.size w V) := fun V hV => ⟨HR0.out.below hV, (hV.block _ (Array.getElem?_eq_some_iff.1 hD').1).trans hD', bst HR0.out.e.d.own.be hV (Nat.le_refl _)⟩
            clear hD' HE15
            gi_upto_region 40 with fail
            obtain ⟨baA, nA, bcA, hAr, hAt⟩ := told_all HR0.out.e.d h2 HR0.out.i1.t HR0.out.i1.p
            have CA : Hid (∀ z : Grown W', CallsIn Fence.wide (m - 1) Try.prog 20 #[clo bt, .slice baA nA bcA, .int .i64 W] (gw z) fun e w' => e = .returned (.bool true) ∧ Below (gw z).heap.size (gw z) w') := fun z => callsIn_wide.2 (hAt _ (gw_below z))
            have qa := gw_cell (HR0.out.i1.f.cell 0 (v := clo bt) rfl)
            have qx := gw_cell (HR0.out.e.b10.cell 0 (v := .pointer (some ⟨r, 0, none⟩)) rfl)
            have q0 := gw_cell (hAr.cell 0 (v := .int .i64 W) rfl)
            have q2 := gw_cell (hAr.cell 2 (v := .slice baA nA bcA) rfl)
            clear hAr hAt
            refine grows_wide hmix (by kernel_rfl) ?_
            repeat (gi_big_quiet_step (fail))
            refine Go.BigFrame.wpQuietIn_want (fun _ _ _ _ => trivial) (by rfl) ?_
            intro K2 hK2
            gi_big_quiet_op
            apply Exists.intro
            refine ⟨fun _ => ?_, ?_⟩
            · exact ⟨no_depth _, calls_gwIn (CA.out _)⟩
            go_big_quiet_on
            repeat (gi_big_quiet_step (fail))
            refine wpQuietIn_nil ?_
            intro wq hwq
            obtain ⟨zq, rfl⟩ := hwq
            clear CA qa qx q0 q2
            have hbz : Below W'.heap.size W' (gw zq) := gw_below zq
            generalize gw zq = Wf at *
            gi_upto_region 41 with fail
            have HR1 : Hid (RX w w15 W' Wf q r W #[.int .i64 uk, .int .u64 (hiOf ua), .int .u64 (loOf ua), .int .i64 ul, .int .i64 uv, .int .i64 stp, .int .i64 tk, .int .u64 (hiOf ta), .int .u64 (loOf ta), .int .i64 tl, .int .i64 tv] A6 A8 A10 A14 A16 A19 A20 bt bt2 r2 ua ul (n) ro L L1 ro2 ro1) := (HEV.out Wf hbz).1
            clear HR0
            have HCU : Hid (∀ V, Below Wf.heap.size Wf V → V.cell? ⟨A16, 0, none⟩ = some (clo bt2) ∧ V.cell? ⟨A10, 0, none⟩ = some (.pointer (some ⟨r, 0, none⟩)) ∧ V.cell? ⟨w.heap.size, 1, none⟩ = some (.int .u64 (hiOf ua)) ∧ V.cell? ⟨w.heap.size, 2, none⟩ = some (.int .u64 (loOf ua)) ∧ V.cell? ⟨w.heap.size, 3, none⟩ = some (.int .i64 ul) ∧ V.cell? ⟨r, 0, none⟩ = some (.int .i64 W)) := fun V hV =>
              ⟨(HR1.out.i2.f.below hV).cell 0 rfl, (HR1.out.e.b10.below hV).cell 0 rfl, (HR1.out.e.b46.below hV).cell 1 rfl, (HR1.out.e.b46.below hV).cell 2 rfl, (HR1.out.e.b46.below hV).cell 3 rfl, by obtain ⟨⟨_, _, _, g, _⟩, _⟩ := HR1.out.e.d.ref; exact (g.below hV).cell 0 rfl⟩
            obtain ⟨nU, hU⟩ := told_under HR1.out.e.d h1 h2 ua HKW.out.1 ul HR1.out.i2.t HR1.out.i2.p
            have CU : Hid (∀ V, Below Wf.heap.size Wf V → CallsIn Fence.wide (m - 1) Try.prog 21 #[.pointer (some ⟨r, 0, none⟩), .agg #[.int .u64 (hiOf ua), .int .u64 (loOf ua)], .int .i64 ul] V fun e w' => ∃ ba bc, e = .returned (.slice ba nU bc) ∧ Hid (Below V.heap.size V w' ∧ ∀ V2, Below w'.heap.size w' V2 → CallsIn Fence.wide (m - 1) Try.prog 20 #[clo bt2, .slice ba nU bc, .int .i64 W] V2 fun e w' => e = .returned (.bool true) ∧ Below V2.heap.size V2 w')) := fun V hV => callsIn_wide.2 ((hU V hV).mono (by
              rintro e w' ⟨ba, bc, rfl, H⟩
              exact ⟨ba, bc, rfl, H.out.1, fun V2 h => callsIn_wide.2 (H.out.2 V2 h)⟩))
            clear hU
            skip
            refine region_free1W hmix (by kernel_rfl) (by kernel_rfl) (VU W q r w.heap.size bt2 ua ul nU (m - 1)) VU_below ?hop ?hend
            case hop =>
              intro A U w4 hb hD hE
              obtain ⟨a0, x0, u1, u2, u3, g0⟩ := HCU.out w4 hb
              have E5 : A.eval (.tmp 5) = .pointer (some ⟨w.heap.size, 0, none⟩) := hE 5 (by kernel_rfl)
              have E10 : A.eval (.tmp 10) = .pointer (some ⟨A10, 0, none⟩) := hE 10 (by kernel_rfl)
              have E16 : A.eval (.tmp 16) = .pointer (some ⟨A16, 0, none⟩) := hE 16 (by kernel_rfl)
              have D0 := hD 231 0 (by kernel_rfl) (by kernel_rfl)
              have D1 := hD 232 1 (by kernel_rfl) (by kernel_rfl)
              have D2 := hD 233 2 (by kernel_rfl) (by kernel_rfl)
              have D3 := hD 234 3 (by kernel_rfl) (by kernel_rfl)
              have D4 := hD 235 4 (by kernel_rfl) (by kernel_rfl)
              have D5 := hD 236 5 (by kernel_rfl) (by kernel_rfl)
              have D6 := hD 237 6 (by kernel_rfl) (by kernel_rfl)
              have D7 := hD 238 7 (by kernel_rfl) (by kernel_rfl)
              have D8 := hD 239 8 (by kernel_rfl) (by kernel_rfl)
              have D9 := hD 240 9 (by kernel_rfl) (by kernel_rfl)
              have D10 := hD 241 10 (by kernel_rfl) (by kernel_rfl)
              have D11 := hD 242 11 (by kernel_rfl) (by kernel_rfl)
              have D12 := hD 243 12 (by kernel_rfl) (by kernel_rfl)
              have D13 := hD 244 13 (by kernel_rfl) (by kernel_rfl)
              clear hD hE
              intro i o ho hv
              match i, ho with
              | 0, ho =>
                obtain rfl := Option.some.inj ho
                refine ⟨fun _ _ => trivial, ?_⟩
                simp only [Oper.semAt, execOp, E16]
                go_simp
                exact ⟨_, rfl, Below.refl _ _, rfl⟩
              | 1, ho =>
                obtain rfl := Option.some.inj ho
                refine ⟨fun _ _ => trivial, ?_⟩
                simp only [Oper.semAt, execOp, E10]
                go_simp
                exact ⟨_, rfl, Below.refl _ _, rfl⟩
              | 2, ho =>
                obtain rfl := Option.some.inj ho
                refine ⟨fun _ _ => trivial, ?_⟩
                simp only [Oper.semAt, execOp, E5]
                go_simp
                exact ⟨_, rfl, Below.refl _ _, rfl⟩
              | 3, ho =>
                obtain rfl := Option.some.inj ho
                have h2 : U 2 = .pointer (some ⟨w.heap.size, 0, none⟩) := hv 2 (by kernel_rfl)
                rw [h2] at D2
                refine ⟨fun _ _ => trivial, ?_⟩
                simp only [Oper.semAt, execOp, D2]
                go_simp
                exact ⟨_, rfl, Below.refl _ _, rfl⟩
              | 4, ho =>
                obtain rfl := Option.some.inj ho
                have h3 : U 3 = .pointer (some ⟨w.heap.size, 1, none⟩) := hv 3 (by kernel_rfl)
                rw [h3] at D3
                refine ⟨fun _ _ => trivial, ?_⟩
                simp only [Oper.semAt, execOp, D3]
                go_simp
                exact ⟨_, rfl, Below.refl _ _, rfl⟩
              | 5, ho =>
                obtain rfl := Option.some.inj ho
                refine ⟨fun _ _ => trivial, ?_⟩
                simp only [Oper.semAt, execOp, E5]
                go_simp
                exact ⟨_, rfl, Below.refl _ _, rfl⟩
              | 6, ho =>
                obtain rfl := Option.some.inj ho
                have h5 : U 5 = .pointer (some ⟨w.heap.size, 0, none⟩) := hv 5 (by kernel_rfl)
                rw [h5] at D5
                refine ⟨fun _ _ => trivial, ?_⟩
                simp only [Oper.semAt, execOp, D5]
                go_simp
                exact ⟨_, rfl, Below.refl _ _, rfl⟩
              | 7, ho =>
                obtain rfl := Option.some.inj ho
                have h6 : U 6 = .pointer (some ⟨w.heap.size, 3, none⟩) := hv 6 (by kernel_rfl)
                rw [h6] at D6
                refine ⟨fun _ _ => trivial, ?_⟩
                simp only [Oper.semAt, execOp, D6]
                go_simp
                exact ⟨_, rfl, Below.refl _ _, rfl⟩
              | 8, ho =>
                obtain rfl := Option.some.inj ho
                have h1 : U 1 = .pointer (some ⟨r, 0, none⟩) := hv 1 (by kernel_rfl)
                rw [h1] at D1
                have h4 : U 4 = .agg #[.int .u64 (hiOf ua), .int .u64 (loOf ua)] := hv 4 (by kernel_rfl)
                rw [h4] at D4
                have h7 : U 7 = .int .i64 ul := hv 7 (by kernel_rfl)
                rw [h7] at D7
                have G1 : A.tmps[232]?.getD undef = _ := Array.getD_eq_getD_getElem?.symm.trans D1
                have G4 : A.tmps[235]?.getD undef = _ := Array.getD_eq_getD_getElem?.symm.trans D4
                have G7 : A.tmps[238]?.getD undef = _ := Array.getD_eq_getD_getElem?.symm.trans D7
                refine ⟨fun _ _ => trivial, ?_⟩
                simp only [Oper.semAt, execOp]
                go_simp
                refine ⟨no_depth _, ?_⟩
                refine (CU.out w4 hb).mono ?_
                rintro e w5 ⟨ba, bc, rfl, H⟩
                exact ⟨_, rfl, H.out.1, ba, bc, rfl, H.out.2⟩
              | 9, ho =>
                obtain rfl := Option.some.inj ho
                refine ⟨fun _ _ => trivial, ?_⟩
                simp only [Oper.semAt, execOp, E10]
                go_simp
                exact ⟨_, rfl, Below.refl _ _, rfl⟩
              | 10, ho =>
                obtain rfl := Option.some.inj ho
                have h9 : U 9 = .pointer (some ⟨r, 0, none⟩) := hv 9 (by kernel_rfl)
                rw [h9] at D9
                refine ⟨fun _ _ => trivial, ?_⟩
                simp only [Oper.semAt, execOp, D9]
                go_simp
                exact ⟨_, rfl, Below.refl _ _, rfl⟩
              | 11, ho =>
                obtain rfl := Option.some.inj ho
                have h10 : U 10 = .pointer (some ⟨r, 0, none⟩) := hv 10 (by kernel_rfl)
                rw [h10] at D10
                refine ⟨fun _ _ => trivial, ?_⟩
                simp only [Oper.semAt, execOp, D10]
                go_simp
                exact ⟨_, rfl, Below.refl _ _, rfl⟩
              | 12, ho =>
                obtain rfl := Option.some.inj ho
                have h11 : U 11 = .pointer (some ⟨r, 0, none⟩) := hv 11 (by kernel_rfl)
                rw [h11] at D11
                refine ⟨fun _ _ => trivial, ?_⟩
                simp only [Oper.semAt, execOp, D11]
                go_simp
                exact ⟨_, rfl, Below.refl _ _, rfl⟩
              | 13, ho =>
                obtain rfl := Option.some.inj ho
                have h0 : U 0 = clo bt2 := hv 0 (by kernel_rfl)
                have h8 : VU W q r w.heap.size bt2 ua ul nU (m - 1) 8 (U 8) w4 := hv 8 (by kernel_rfl)
                have h12 : U 12 = .int .i64 W := hv 12 (by kernel_rfl)
                obtain ⟨ba, bc, k8, T8⟩ := h8
                rw [h0] at D0
                rw [k8] at D8
                rw [h12] at D12
                have HT : Hid (∀ V2, Below w4.heap.size w4 V2 → CallsIn Fence.wide (m - 1) Try.prog 20 #[clo bt2, .slice ba nU bc, .int .i64 W] V2 fun e w' => e = .returned (.bool true) ∧ Below V2.heap.size V2 w') := T8
                clear T8
                have G0 : A.tmps[231]?.getD undef = _ := Array.getD_eq_getD_getElem?.symm.trans D0
                have G8 : A.tmps[239]?.getD undef = _ := Array.getD_eq_getD_getElem?.symm.trans D8
                have G12 : A.tmps[243]?.getD undef = _ := Array.getD_eq_getD_getElem?.symm.trans D12
                refine ⟨fun _ _ => trivial, ?_⟩
                simp only [Oper.semAt, execOp]
                go_simp
                refine ⟨no_depth _, ?_⟩
                refine (HT.out w4 (Below.refl _ _)).mono ?_
                rintro e w5 ⟨rfl, H⟩
                exact ⟨_, rfl, H, rfl⟩
              | 14, ho =>
                obtain rfl := Option.some.inj ho
                have h13 : U 13 = .bool true := hv 13 (by kernel_rfl)
                rw [h13] at D13
                refine ⟨fun _ _ => trivial, ?_⟩
                simp only [Oper.semAt, execOp, D13]
                go_simp
                exact ⟨_, rfl, Below.refl _ _, rfl⟩
              | i + 15, ho => cases ho
            case hend =>
              intro U Wg hb hv
              have h14 : U 14 = .bool true := hv 14 (by decide)
              clear hv
              replace hbz : Below W'.heap.size W' Wg := bst hbz hb (Nat.le_refl _)
              clear HR1 hb HCU CU
              simp only [putAll, Act.put, h14, List.setIfInBounds_toArray, List.set_cons_succ, List.set_cons_zero]
              clear h14
              gi_upto_region 42 with fail
              obtain ⟨gR, _, _⟩ := HEV.out Wg hbz
              obtain ⟨⟨ba9, bc9, _, g2, _⟩, _⟩ := id gR.was
              have n0 := gw_cell (gR.b20.cell 0 (v := .int .i64 n) rfl)
              have x19 := gw_cell (gR.b19.cell 0 (v := .pointer (some ⟨r2, 0, none⟩)) rfl)
              have s0 := gw_cell (gR.e.b46.cell 5 (v := .int .i64 stp) rfl)
              have x2 := gw_cell (g2.cell 2 (v := .slice ba9 L.length bc9) rfl)
              have HQ := HNQ.out
              clear gR g2 HNQ
              generalize L.length = N at *
              by_cases hq : (n : Int) = (N : Int)
              · clear HQ
                have hq2 : decide ((n : Int) = (N : Int)) = true := decide_eq_true hq
                refine gate_wide 19 hmix (by kernel_rfl) (by kernel_rfl) (by kernel_rfl) ?_
                simp only [List.take_succ_cons, List.take_zero]
                repeat (gi_big_quiet_step (fail))
                refine wpQuietIn_nil ?_
                intro wq hwq
                obtain ⟨zq, rfl⟩ := hwq
                clear n0 x19 x2 s0
                replace hbz : Below W'.heap.size W' (gw zq) := bst hbz (gw_below zq) (Nat.le_refl _)
                generalize gw zq = W5 at *
                obtain ⟨gR, gD, gB⟩ := HEV.out W5 hbz
                have HZ4 : Hid (Blk W5 A6 #[.bool false] 4 ∧ W5.heap[w15.heap.size]? = some (.deferred (some [])) ∧ Below w.heap.size w W5) := ⟨gR.e.b6, gD, gB⟩
                clear gR gD gB HEV
                have f0 := HZ4.out.1.frozen 0
                have c0 := HZ4.out.1.cell 0 (v := .bool false) rfl
                change wpAnyIn _ _ _ _ _ _ 1 (upTo 19 1) _ _
                refine wpAnyIn_ready (rs := [19]) (by kernel_rfl) (by simp) ?_
                refine AllReadyIn.cons rfl (fun K5 hK5 => ?_) AllReadyIn.nil
                go_simp
                refine hK5 _ _ ?_
                clear hK5 K5
                refine wpAnyIn_done (by kernel_rfl) ?_ _
                have HF : Hid (Blk (W5.setCell ⟨A6, 0, none⟩ (.bool true)) A6 #[.bool true] 4 ∧ (W5.setCell ⟨A6, 0, none⟩ (.bool true)).heap[w15.heap.size]? = some (.deferred (some [])) ∧ Below w.heap.size w (W5.setCell ⟨A6, 0, none⟩ (.bool true))) := by
                  obtain ⟨h1, h10, h13⟩ := HZ4.out
                  have hb := HA6.out
                  have ks := (Kept.refl (fun k => k = A6) W5).set (p := ⟨A6, 0, none⟩) rfl (.bool true)
                  exact ⟨h1.set 0 _, (ks.block _ (Array.getElem?_eq_some_iff.1 h10).1 (by show ¬ _ = _; omega)).trans h10, h13.setCell (Nat.le_of_lt hb.1) _⟩
                clear f0 c0 HZ4
                gi_wp2_with fail
                generalize W5.setCell _ _ = W6 at HF ⊢
                have hb := HA6.out
                refine ⟨by simp, .inl ⟨_, _, rfl, run_takeDeferred HF.out.2.1, ?_⟩⟩
                have hkk := kept_putObj (fun k => k = w15.heap.size) W6 w15.heap.size (.deferred none) rfl
                have z1 := (HF.out.1.kept hkk (by show ¬ _ = _; omega)).cell 0 (v := .bool true) rfl
                refine ⟨.bool true, ?_, rfl, HF.out.2.2.trans (hkk.below HF.out.2.2.size (fun k e => by have e' : k = w15.heap.size := e; omega))⟩
                simp [results, Try.results4, go_sem, z1]
              · have hst : (n : Int) = stp := HQ.resolve_left hq
                simp only [hst] at n0
                rw [hst] at hq
                have hq2 : decide (stp = (N : Int)) = false := decide_eq_false hq
                have hq3 : (stp == (N : Int)) = false := beq_false_of_ne hq
                clear hst
                clear HQ
                refine gate_wide 19 hmix (by kernel_rfl) (by kernel_rfl) (by kernel_rfl) ?_
                simp only [List.take_succ_cons, List.take_zero]
                repeat (gi_big_quiet_step (fail))
                refine wpQuietIn_nil ?_
                intro wq hwq
                obtain ⟨zq, rfl⟩ := hwq
                clear n0 x19 x2 s0
                replace hbz : Below W'.heap.size W' (gw zq) := bst hbz (gw_below zq) (Nat.le_refl _)
                generalize gw zq = W5 at *
                obtain ⟨gR, gD, gB⟩ := HEV.out W5 hbz
                have HZ4 : Hid (Blk W5 A6 #[.bool false] 4 ∧ W5.heap[w15.heap.size]? = some (.deferred (some [])) ∧ Below w.heap.size w W5) := ⟨gR.e.b6, gD, gB⟩
                clear gR gD gB HEV
                have f0 := HZ4.out.1.frozen 0
                have c0 := HZ4.out.1.cell 0 (v := .bool false) rfl
                change wpAnyIn _ _ _ _ _ _ 1 (upTo 19 1) _ _
                refine wpAnyIn_ready (rs := [19]) (by kernel_rfl) (by simp) ?_
                refine AllReadyIn.cons rfl (fun K5 hK5 => ?_) AllReadyIn.nil
                go_simp
                refine hK5 _ _ ?_
                clear hK5 K5
                refine wpAnyIn_done (by kernel_rfl) ?_ _
                have HF : Hid (Blk (W5.setCell ⟨A6, 0, none⟩ (.bool true)) A6 #[.bool true] 4 ∧ (W5.setCell ⟨A6, 0, none⟩ (.bool true)).heap[w15.heap.size]? = some (.deferred (some [])) ∧ Below w.heap.size w (W5.setCell ⟨A6, 0, none⟩ (.bool true))) := by
                  obtain ⟨h1, h10, h13⟩ := HZ4.out
                  have hb := HA6.out
                  have ks := (Kept.refl (fun k => k = A6) W5).set (p := ⟨A6, 0, none⟩) rfl (.bool true)
                  exact ⟨h1.set 0 _, (ks.block _ (Array.getElem?_eq_some_iff.1 h10).1 (by show ¬ _ = _; omega)).trans h10, h13.setCell (Nat.le_of_lt hb.1) _⟩
                clear f0 c0 HZ4
                gi_wp2_with fail
                generalize W5.setCell _ _ = W6 at HF ⊢
                have hb := HA6.out
                refine ⟨by simp, .inl ⟨_, _, rfl, run_takeDeferred HF.out.2.1, ?_⟩⟩
                have hkk := kept_putObj (fun k => k = w15.heap.size) W6 w15.heap.size (.deferred none) rfl
                have z1 := (HF.out.1.kept hkk (by show ¬ _ = _; omega)).cell 0 (v := .bool true) rfl
                refine ⟨.bool true, ?_, rfl, HF.out.2.2.trans (hkk.below HF.out.2.2.size (fun k e => by have e' : k = w15.heap.size := e; omega))⟩
                simp [results, Try.results4, go_sem, z1]
          case round =>
            rintro l' pre x W' K2 hl' ⟨rl, hlp⟩ hz hpre hJ hKK
            obtain ⟨c, v⟩ := x
            have hcM : (c, v) ∈ L := hpre.subset (by simp)
            have hc : c.length ≤ W := HE15.out.1.1.d.own.lens _ hcM
            have hcnt : pre.length + 1 ≤ L.length := by
              have g1 := hpre.length_le
              rw [List.length_append, List.length_singleton] at g1
              omega
            have hkey : L[pre.length]? = some (c, v) := by
              obtain ⟨t, ht⟩ := hpre
              rw [← ht]
              simp
            have hL4 : L.length ≤ 4096 := HE15.out.1.1.d.ref.few
            have hlp' := (Array.getElem?_eq_some_iff.1 hlp).1
            have HN1 := one_new W' #[.int .u64 (hiOf (valOf W c)), .int .u64 (loOf (valOf W c)), .int .i64 c.length] 51
            simp only [List.zip_toArray, List.zip_cons_cons, List.zip_nil_right, List.foldl_toArray', List.foldl_toArray, List.foldl_cons, List.foldl_nil, List.setIfInBounds_toArray, List.set_cons_succ, List.set_cons_zero]
            gi_wp2_with fail
            refine hKK _ _ (Kept.of_below HN1.2.1) ?_
            intro Wb hkb hrec
            have hJb : WX w w15 q r W A20 L ro pre Wb := WX.low hbe15 hA15 _ _ _ (⟨hkb.os, hkb.tape, hkb.output, hkb.size, fun k hk hs => hkb.block k hk (fun e => hs (by
              have e' : k = l' := e
              subst e'
              refine ⟨hl', ?_⟩
              rintro ⟨cs, f, g9, h9, _⟩
              have := (HN1.2.1.block k hlp').trans hlp
              rw [this] at h9; cases h9))⟩) (WX.low hbe15 hA15 _ _ _ (Kept.of_below HN1.2.1) hJ)
            have hbp : Blk Wb W'.heap.size #[.int .u64 (hiOf (valOf W c)), .int .u64 (loOf (valOf W c)), .int .i64 c.length] 51 := HN1.1.kept hkb (by show ¬ _ = _; omega)
            obtain ⟨L1, ro1, hD1, hro1, hb20, hkS, hox1⟩ := hJb
            have HRE : Hid (RX w w15 Wb Wb q r W #[.int .i64 uk, .int .u64 (hiOf ua), .int .u64 (loOf ua), .int .i64 ul, .int .i64 uv, .int .i64 stp, .int .i64 tk, .int .u64 (hiOf ta), .int .u64 (loOf ta), .int .i64 tl, .int .i64 tv] A6 A8 A10 A14 A16 A19 A20 bt bt2 r2 ua ul pre.length ro L L1 ro2 ro1 ∧ Blk Wb W'.heap.size #[.int .u64 (hiOf (valOf W c)), .int .u64 (loOf (valOf W c)), .int .i64 c.length] 51 ∧ (pre = [] → ro1 = ro)) := ⟨HXM.out Wb _ L1 ro1 hD1 hb20 hkS hox1, hbp, hro1⟩
            generalize hAp : W'.heap.size = Ap at *
            clear hbp hD1 hro1 hb20 hkS hox1 hKK hkb hrec HN1 hJ hpre hz hl' hlp hlp' rl hAp hcM
            obtain ⟨wb, wc, HWAS⟩ : ∃ wb wc, Hid (Blk Wb r2 #[.int .i64 W, .int .i64 4096, .slice (some ⟨wb, 0, none⟩) L.length wc] 40 ∧ Wb.cell? ⟨wb, pre.length * 2, none⟩ = some (.string (tx c)) ∧ Wb.cell? ⟨wb, pre.length * 2 + 1, none⟩ = some (.int .i64 v)) := by
              obtain ⟨⟨ba, bc, g1, g2, g3⟩, _⟩ := HRE.out.1.was
              obtain ⟨g, hba, hnb, hrow⟩ := rowR_at g3 rfl (by omega)
              subst hba
              have hr0 := hrow pre.length (c, v) hkey
              exact ⟨g, bc, g2, hr0.1, hr0.2⟩
            have HLO : Hid (w.heap.size ≤ A20) := HE15.out.2.2.2
            have HVB : Hid (∀ V, Below Wb.heap.size Wb V → RX w w15 Wb V q r W #[.int .i64 uk, .int .u64 (hiOf ua), .int .u64 (loOf ua), .int .i64 ul, .int .i64 uv, .int .i64 stp, .int .i64 tk, .int .u64 (hiOf ta), .int .u64 (loOf ta), .int .i64 tl, .int .i64 tv] A6 A8 A10 A14 A16 A19 A20 bt bt2 r2 ua ul (pre.length) ro L L1 ro2 ro1 ∧ Blk V Ap #[.int .u64 (hiOf (valOf W c)), .int .u64 (loOf (valOf W c)), .int .i64 c.length] 51 ∧ Blk V r2 #[.int .i64 W, .int .i64 4096, .slice (some ⟨wb, 0, none⟩) L.length wc] 40 ∧ V.cell? ⟨wb, pre.length * 2, none⟩ = some (.string (tx c)) ∧ V.cell? ⟨wb, pre.length * 2 + 1, none⟩ = some (.int .i64 v) ∧ ∃ s, Blk V r #[.int .i64 W, .int .i64 4096, s] 40) := fun V hV => by
              have hlt : wb < Wb.heap.size := World.block_lt_of_cell? Wb _ HWAS.out.2.1
              obtain ⟨⟨ba, bc, _, g2, _⟩, _⟩ := HRE.out.1.e.d.ref
              exact ⟨HRE.out.1.below hV, HRE.out.2.1.below hV, HWAS.out.1.below hV, (World.cell?_of_block (hV.block wb hlt)).trans HWAS.out.2.1, (World.cell?_of_block (hV.block wb hlt)).trans HWAS.out.2.2, _, g2.below hV⟩
            have HP0 : Hid (pre = [] → ro1 = ro) := HRE.out.2.2
            clear HRE HWAS
            generalize hN : L.length = N at *
            have hge : ¬ ((N : Nat) : Int) ≤ (pre.length : Int) := by omega
            have hge2 : decide (((N : Nat) : Int) ≤ (pre.length : Int)) = false := decide_eq_false hge
            have hlt2 : (pre.length : Int) < ((N : Nat) : Int) := by omega
            have hgn : ¬ N ≤ pre.length := by omega
            have hgn2 : decide (N ≤ pre.length) = false := decide_eq_false hgn
            have hgn3 : pre.length < N := by omega
            have hsm : pre.length + 1 ≤ 5000 := by omega
            have C22 : Hid (∀ mm w1, CallsIn Fence.wide mm Try.prog 22 #[Pf (valOf W c) c.length, .agg #[.string (tx c), .int .i64 v], .int .i64 W] w1 fun e w' => e = .returned (.bool true) ∧ Below w1.heap.size w1 w') := fun mm w1 => callsIn_wide.2 (same_yes w1 h2 hc v)
            generalize valOf W c = vc at *
            generalize tx c = tc at *
            gi_upto_region 24 with fail
            obtain ⟨gR, gP, gW, gK, gV, sr, gX⟩ := HVB.out Wb (Below.refl _ _)
            have n0 := gw_cell (gR.b20.cell 0 (v := .int .i64 pre.length) rfl)
            have x19 := gw_cell (gR.b19.cell 0 (v := .pointer (some ⟨r2, 0, none⟩)) rfl)
            have x2 := gw_cell (gW.cell 2 (v := .slice (some ⟨wb, 0, none⟩) N wc) rfl)
            clear gR gP gW gK gV gX
            refine grows_round hmix (by kernel_rfl) (by kernel_rfl) ?_
            repeat (gi_big_quiet_step (fail))
            refine wpQuietIn_nil ?_
            intro wq hwq
            obtain ⟨zq, rfl⟩ := hwq
            clear n0 x19 x2
            have hbz : Below Wb.heap.size Wb (gw zq) := gw_below zq
            generalize gw zq = Wc at *
            gi_upto_region 26 with fail
            obtain ⟨gR, gP, gW, gK, gV, sr, gX⟩ := HVB.out Wc hbz
            have n0 := gw_cell (gR.b20.cell 0 (v := .int .i64 pre.length) rfl)
            have x19 := gw_cell (gR.b19.cell 0 (v := .pointer (some ⟨r2, 0, none⟩)) rfl)
            have x2 := gw_cell (gW.cell 2 (v := .slice (some ⟨wb, 0, none⟩) N wc) rfl)
            have x10 := gw_cell (gR.e.b10.cell 0 (v := .pointer (some ⟨r, 0, none⟩)) rfl)
            have x0 := gw_cell (gX.cell 0 (v := .int .i64 W) rfl)
            have p0 := gw_cell (gP.cell 0 (v := .int .u64 (hiOf vc)) rfl)
            have p1 := gw_cell (gP.cell 1 (v := .int .u64 (loOf vc)) rfl)
            have p2 := gw_cell (gP.cell 2 (v := .int .i64 c.length) rfl)
            have r0 := gw_cell gK
            have r1 := gw_cell gV
            clear gR gP gW gK gV gX
            refine grows_round hmix (by kernel_rfl) (by kernel_rfl) ?_
            repeat (gi_big_quiet_step (fail))
            refine Go.BigFrame.wpQuietIn_want (fun _ _ _ _ => trivial) (by rfl) ?_
            intro K3 hK3
            gi_big_quiet_op
            apply Exists.intro
            refine ⟨fun _ => ?_, ?_⟩
            · exact ⟨no_depth _, calls_gwIn (C22.out _ _)⟩
            go_big_quiet_on
            repeat (gi_big_quiet_step (fail))
            refine wpQuietIn_nil ?_
            intro wq hwq
            obtain ⟨zq, rfl⟩ := hwq
            clear n0 x19 x2 x10 x0 p0 p1 p2 r0 r1 C22
            replace hbz : Below Wb.heap.size Wb (gw zq) := bst hbz (gw_below zq) (Nat.le_refl _)
            generalize gw zq = Wd at *
            gi_upto_region 27 with fail
            obtain ⟨gR, gP, gW, gK, gV, sr, gX⟩ := HVB.out Wd hbz
            have n0 := gw_cell (gR.b20.cell 0 (v := .int .i64 pre.length) rfl)
            have x19 := gw_cell (gR.b19.cell 0 (v := .pointer (some ⟨r2, 0, none⟩)) rfl)
            have x2 := gw_cell (gW.cell 2 (v := .slice (some ⟨wb, 0, none⟩) N wc) rfl)
            have r1 := gw_cell gV
            clear gR gP gW gK gV gX
            refine grows_round hmix (by kernel_rfl) (by kernel_rfl) ?_
            repeat (gi_big_quiet_step (fail))
            refine wpQuietIn_nil ?_
            intro wq hwq
            obtain ⟨zq, rfl⟩ := hwq
            clear n0 x19 x2 r1
            replace hbz : Below Wb.heap.size Wb (gw zq) := bst hbz (gw_below zq) (Nat.le_refl _)
            generalize gw zq = We at *
            have HR : Hid (RX w w15 Wb We q r W #[.int .i64 uk, .int .u64 (hiOf ua), .int .u64 (loOf ua), .int .i64 ul, .int .i64 uv, .int .i64 stp, .int .i64 tk, .int .u64 (hiOf ta), .int .u64 (loOf ta), .int .i64 tl, .int .i64 tv] A6 A8 A10 A14 A16 A19 A20 bt bt2 r2 ua ul (pre.length) ro L L1 ro2 ro1) := (HVB.out We hbz).1
            clear HVB hbz hge hge2 hlt2 hgn hgn2 hgn3
            have n0 := HR.out.b20.cell 0 (v := .int .i64 pre.length) rfl
            by_cases hp : pre = []
            · subst hp
              have e1 : ro = ro1 := (HP0.out rfl).symm
              subst e1
              have n0' : We.cell? ⟨A20, 0, none⟩ = some (.int .i64 0) := n0
              clear n0
              gi_upto_region 30 with fail
              clear n0'
              have HR : Hid (RX w w15 Wb We q r W #[.int .i64 uk, .int .u64 (hiOf ua), .int .u64 (loOf ua), .int .i64 ul, .int .i64 uv, .int .i64 stp, .int .i64 tk, .int .u64 (hiOf ta), .int .u64 (loOf ta), .int .i64 tl, .int .i64 tv] A6 A8 A10 A14 A16 A19 A20 bt bt2 r2 ua ul (0) ro L L1 ro2 ro) := HR.out
              have CP : Hid (CallsIn (Fence.wide.inRound l') (m - 1 - 1 - 1) Try.prog 13 #[.pointer (some ⟨q, 0, none⟩), .pointer (some ⟨r, 0, none⟩), .agg #[.int .i64 tk, .int .u64 (hiOf ta), .int .u64 (loOf ta), .int .i64 tl, .int .i64 tv]] We fun e w' => e = .returned (.bool true) ∧ ∃ L' ro', Hid (Duo w w' q r W 4096 L' ro' ∧ Kept (Tch q r ro) We w' ∧ NewRow We ro ro' ∧ OX (XA A20) w' q W 4096 L')) := CallsIn.inRound _ (callsIn_wide.2 (playX_any HR.out.ox (fun k e => by have e' : k = A20 := e; rw [e']; exact HR.out.b20.lt) HR.out.e.d h1 h2 ⟨tk, ta, tl, tv⟩ HKW.out.2))
              have t8 := HR.out.e.b8.cell 0 (v := .pointer (some ⟨q, 0, none⟩)) rfl
              have x10 := HR.out.e.b10.cell 0 (v := .pointer (some ⟨r, 0, none⟩)) rfl
              have c6 := HR.out.e.b46.cell 6 (v := .int .i64 tk) rfl
              have c7 := HR.out.e.b46.cell 7 (v := .int .u64 (hiOf ta)) rfl
              have c8 := HR.out.e.b46.cell 8 (v := .int .u64 (loOf ta)) rfl
              have c9 := HR.out.e.b46.cell 9 (v := .int .i64 tl) rfl
              have c10 := HR.out.e.b46.cell 10 (v := .int .i64 tv) rfl
              gi_wp2_with fail
              refine ⟨trivial, no_depth _, ?_⟩
              refine CP.out.mono ?_
              rintro e Wf ⟨rfl, L2, ro3, HM⟩
              clear CP t8 x10 c6 c7 c8 c9 c10
              have HRf : Hid (RX w w15 Wb Wf q r W #[.int .i64 uk, .int .u64 (hiOf ua), .int .u64 (loOf ua), .int .i64 ul, .int .i64 uv, .int .i64 stp, .int .i64 tk, .int .u64 (hiOf ta), .int .u64 (loOf ta), .int .i64 tl, .int .i64 tv] A6 A8 A10 A14 A16 A19 A20 bt bt2 r2 ua ul (0) ro L L2 ro2 ro3) := HR.out.step (S := Tch q r ro) (fun _ e => e) (fun _ e => e) (fun k e e2 => by
                obtain ⟨_, _, _, g⟩ := HR.out.was.row k e2
                rcases e with e | e | e
                · obtain ⟨_, _, g3⟩ := HR.out.e.d.own.hdr; rw [e] at g; exact ty_ne g3 g (by decide)
                · obtain ⟨_, _, g3⟩ := HR.out.e.d.ref.hdr; rw [e] at g; exact ty_ne g3 g (by decide)
                · exact HR.out.ne.2 k e2 e) HM.out.1 HM.out.2.2.2 HM.out.2.1
              clear HR HM
              gi_upto_region 31 with fail
              have HCU : Hid (∀ V, Below Wf.heap.size Wf V → V.cell? ⟨A16, 0, none⟩ = some (clo bt2) ∧ V.cell? ⟨A10, 0, none⟩ = some (.pointer (some ⟨r, 0, none⟩)) ∧ V.cell? ⟨w.heap.size, 1, none⟩ = some (.int .u64 (hiOf ua)) ∧ V.cell? ⟨w.heap.size, 2, none⟩ = some (.int .u64 (loOf ua)) ∧ V.cell? ⟨w.heap.size, 3, none⟩ = some (.int .i64 ul) ∧ V.cell? ⟨r, 0, none⟩ = some (.int .i64 W)) := fun V hV =>
                ⟨(HRf.out.i2.f.below hV).cell 0 rfl, (HRf.out.e.b10.below hV).cell 0 rfl, (HRf.out.e.b46.below hV).cell 1 rfl, (HRf.out.e.b46.below hV).cell 2 rfl, (HRf.out.e.b46.below hV).cell 3 rfl, by obtain ⟨⟨_, _, _, g, _⟩, _⟩ := HRf.out.e.d.ref; exact (g.below hV).cell 0 rfl⟩
              obtain ⟨nU, hU⟩ := told_under HRf.out.e.d h1 h2 ua HKW.out.1 ul HRf.out.i2.t HRf.out.i2.p
              have CU : Hid (∀ V, Below Wf.heap.size Wf V → CallsIn Fence.wide (m - 1 - 1 - 1) Try.prog 21 #[.pointer (some ⟨r, 0, none⟩), .agg #[.int .u64 (hiOf ua), .int .u64 (loOf ua)], .int .i64 ul] V fun e w' => ∃ ba bc, e = .returned (.slice ba nU bc) ∧ Hid (Below V.heap.size V w' ∧ ∀ V2, Below w'.heap.size w' V2 → CallsIn Fence.wide (m - 1 - 1 - 1) Try.prog 20 #[clo bt2, .slice ba nU bc, .int .i64 W] V2 fun e w' => e = .returned (.bool true) ∧ Below V2.heap.size V2 w')) := fun V hV => callsIn_wide.2 ((hU V hV).mono (by
                rintro e w' ⟨ba, bc, rfl, H⟩
                exact ⟨ba, bc, rfl, H.out.1, fun V2 h => callsIn_wide.2 (H.out.2 V2 h)⟩))
              clear hU
              skip
              refine region_free1R hmix (by kernel_rfl) (by kernel_rfl) (by kernel_rfl) (VU W q r w.heap.size bt2 ua ul nU (m - 1 - 1 - 1)) VU_below ?hop ?hend
              case hop =>
                intro A U w4 hb hD hE
                obtain ⟨a0, x0, u1, u2, u3, g0⟩ := HCU.out w4 hb
                have E5 : A.eval (.tmp 5) = .pointer (some ⟨w.heap.size, 0, none⟩) := hE 5 (by kernel_rfl)
                have E10 : A.eval (.tmp 10) = .pointer (some ⟨A10, 0, none⟩) := hE 10 (by kernel_rfl)
                have E16 : A.eval (.tmp 16) = .pointer (some ⟨A16, 0, none⟩) := hE 16 (by kernel_rfl)
                have D0 := hD 171 0 (by kernel_rfl) (by kernel_rfl)
                have D1 := hD 172 1 (by kernel_rfl) (by kernel_rfl)
                have D2 := hD 173 2 (by kernel_rfl) (by kernel_rfl)
                have D3 := hD 174 3 (by kernel_rfl) (by kernel_rfl)
                have D4 := hD 175 4 (by kernel_rfl) (by kernel_rfl)
                have D5 := hD 176 5 (by kernel_rfl) (by kernel_rfl)
                have D6 := hD 177 6 (by kernel_rfl) (by kernel_rfl)
                have D7 := hD 178 7 (by kernel_rfl) (by kernel_rfl)
                have D8 := hD 179 8 (by kernel_rfl) (by kernel_rfl)
                have D9 := hD 180 9 (by kernel_rfl) (by kernel_rfl)
                have D10 := hD 181 10 (by kernel_rfl) (by kernel_rfl)
                have D11 := hD 182 11 (by kernel_rfl) (by kernel_rfl)
                have D12 := hD 183 12 (by kernel_rfl) (by kernel_rfl)
                have D13 := hD 184 13 (by kernel_rfl) (by kernel_rfl)
                clear hD hE
                intro i o ho hv
                match i, ho with
                | 0, ho =>
                  obtain rfl := Option.some.inj ho
                  refine ⟨fun _ _ => trivial, ?_⟩
                  simp only [Oper.semAt, execOp, E16]
                  go_simp
                  exact ⟨_, rfl, Below.refl _ _, rfl⟩
                | 1, ho =>
                  obtain rfl := Option.some.inj ho
                  refine ⟨fun _ _ => trivial, ?_⟩
                  simp only [Oper.semAt, execOp, E10]
                  go_simp
                  exact ⟨_, rfl, Below.refl _ _, rfl⟩
                | 2, ho =>
                  obtain rfl := Option.some.inj ho
                  refine ⟨fun _ _ => trivial, ?_⟩
                  simp only [Oper.semAt, execOp, E5]
                  go_simp
                  exact ⟨_, rfl, Below.refl _ _, rfl⟩
                | 3, ho =>
                  obtain rfl := Option.some.inj ho
                  have h2 : U 2 = .pointer (some ⟨w.heap.size, 0, none⟩) := hv 2 (by kernel_rfl)
                  rw [h2] at D2
                  refine ⟨fun _ _ => trivial, ?_⟩
                  simp only [Oper.semAt, execOp, D2]
                  go_simp
                  exact ⟨_, rfl, Below.refl _ _, rfl⟩
                | 4, ho =>
                  obtain rfl := Option.some.inj ho
                  have h3 : U 3 = .pointer (some ⟨w.heap.size, 1, none⟩) := hv 3 (by kernel_rfl)
                  rw [h3] at D3
                  refine ⟨fun _ _ => trivial, ?_⟩
                  simp only [Oper.semAt, execOp, D3]
                  go_simp
                  exact ⟨_, rfl, Below.refl _ _, rfl⟩
                | 5, ho =>
                  obtain rfl := Option.some.inj ho
                  refine ⟨fun _ _ => trivial, ?_⟩
                  simp only [Oper.semAt, execOp, E5]
                  go_simp
                  exact ⟨_, rfl, Below.refl _ _, rfl⟩
                | 6, ho =>
                  obtain rfl := Option.some.inj ho
                  have h5 : U 5 = .pointer (some ⟨w.heap.size, 0, none⟩) := hv 5 (by kernel_rfl)
                  rw [h5] at D5
                  refine ⟨fun _ _ => trivial, ?_⟩
                  simp only [Oper.semAt, execOp, D5]
                  go_simp
                  exact ⟨_, rfl, Below.refl _ _, rfl⟩
                | 7, ho =>
                  obtain rfl := Option.some.inj ho
                  have h6 : U 6 = .pointer (some ⟨w.heap.size, 3, none⟩) := hv 6 (by kernel_rfl)
                  rw [h6] at D6
                  refine ⟨fun _ _ => trivial, ?_⟩
                  simp only [Oper.semAt, execOp, D6]
                  go_simp
                  exact ⟨_, rfl, Below.refl _ _, rfl⟩
                | 8, ho =>
                  obtain rfl := Option.some.inj ho
                  have h1 : U 1 = .pointer (some ⟨r, 0, none⟩) := hv 1 (by kernel_rfl)
                  rw [h1] at D1
                  have h4 : U 4 = .agg #[.int .u64 (hiOf ua), .int .u64 (loOf ua)] := hv 4 (by kernel_rfl)
                  rw [h4] at D4
                  have h7 : U 7 = .int .i64 ul := hv 7 (by kernel_rfl)
                  rw [h7] at D7
                  have G1 : A.tmps[172]?.getD undef = _ := Array.getD_eq_getD_getElem?.symm.trans D1
                  have G4 : A.tmps[175]?.getD undef = _ := Array.getD_eq_getD_getElem?.symm.trans D4
                  have G7 : A.tmps[178]?.getD undef = _ := Array.getD_eq_getD_getElem?.symm.trans D7
                  refine ⟨fun _ _ => trivial, ?_⟩
                  simp only [Oper.semAt, execOp]
                  go_simp
                  refine ⟨no_depth _, ?_⟩
                  refine (CU.out w4 hb).mono ?_
                  rintro e w5 ⟨ba, bc, rfl, H⟩
                  exact ⟨_, rfl, H.out.1, ba, bc, rfl, H.out.2⟩
                | 9, ho =>
                  obtain rfl := Option.some.inj ho
                  refine ⟨fun _ _ => trivial, ?_⟩
                  simp only [Oper.semAt, execOp, E10]
                  go_simp
                  exact ⟨_, rfl, Below.refl _ _, rfl⟩
                | 10, ho =>
                  obtain rfl := Option.some.inj ho
                  have h9 : U 9 = .pointer (some ⟨r, 0, none⟩) := hv 9 (by kernel_rfl)
                  rw [h9] at D9
                  refine ⟨fun _ _ => trivial, ?_⟩
                  simp only [Oper.semAt, execOp, D9]
                  go_simp
                  exact ⟨_, rfl, Below.refl _ _, rfl⟩
                | 11, ho =>
                  obtain rfl := Option.some.inj ho
                  have h10 : U 10 = .pointer (some ⟨r, 0, none⟩) := hv 10 (by kernel_rfl)
                  rw [h10] at D10
                  refine ⟨fun _ _ => trivial, ?_⟩
                  simp only [Oper.semAt, execOp, D10]
                  go_simp
                  exact ⟨_, rfl, Below.refl _ _, rfl⟩
                | 12, ho =>
                  obtain rfl := Option.some.inj ho
                  have h11 : U 11 = .pointer (some ⟨r, 0, none⟩) := hv 11 (by kernel_rfl)
                  rw [h11] at D11
                  refine ⟨fun _ _ => trivial, ?_⟩
                  simp only [Oper.semAt, execOp, D11]
                  go_simp
                  exact ⟨_, rfl, Below.refl _ _, rfl⟩
                | 13, ho =>
                  obtain rfl := Option.some.inj ho
                  have h0 : U 0 = clo bt2 := hv 0 (by kernel_rfl)
                  have h8 : VU W q r w.heap.size bt2 ua ul nU (m - 1 - 1 - 1) 8 (U 8) w4 := hv 8 (by kernel_rfl)
                  have h12 : U 12 = .int .i64 W := hv 12 (by kernel_rfl)
                  obtain ⟨ba, bc, k8, T8⟩ := h8
                  rw [h0] at D0
                  rw [k8] at D8
                  rw [h12] at D12
                  have HT : Hid (∀ V2, Below w4.heap.size w4 V2 → CallsIn Fence.wide (m - 1 - 1 - 1) Try.prog 20 #[clo bt2, .slice ba nU bc, .int .i64 W] V2 fun e w' => e = .returned (.bool true) ∧ Below V2.heap.size V2 w') := T8
                  clear T8
                  have G0 : A.tmps[171]?.getD undef = _ := Array.getD_eq_getD_getElem?.symm.trans D0
                  have G8 : A.tmps[179]?.getD undef = _ := Array.getD_eq_getD_getElem?.symm.trans D8
                  have G12 : A.tmps[183]?.getD undef = _ := Array.getD_eq_getD_getElem?.symm.trans D12
                  refine ⟨fun _ _ => trivial, ?_⟩
                  simp only [Oper.semAt, execOp]
                  go_simp
                  refine ⟨no_depth _, ?_⟩
                  refine (HT.out w4 (Below.refl _ _)).mono ?_
                  rintro e w5 ⟨rfl, H⟩
                  exact ⟨_, rfl, H, rfl⟩
                | 14, ho =>
                  obtain rfl := Option.some.inj ho
                  have h13 : U 13 = .bool true := hv 13 (by kernel_rfl)
                  rw [h13] at D13
                  refine ⟨fun _ _ => trivial, ?_⟩
                  simp only [Oper.semAt, execOp, D13]
                  go_simp
                  exact ⟨_, rfl, Below.refl _ _, rfl⟩
                | i + 15, ho => cases ho
              case hend =>
                intro U Wg hb hv
                have h14 : U 14 = .bool true := hv 14 (by decide)
                clear hv
                have HRg : Hid (RX w w15 Wb Wg q r W #[.int .i64 uk, .int .u64 (hiOf ua), .int .u64 (loOf ua), .int .i64 ul, .int .i64 uv, .int .i64 stp, .int .i64 tk, .int .u64 (hiOf ta), .int .u64 (loOf ta), .int .i64 tl, .int .i64 tv] A6 A8 A10 A14 A16 A19 A20 bt bt2 r2 ua ul (0) ro L L2 ro2 ro3) := HRf.out.below hb
                clear HRf hb HCU CU
                simp only [putAll, Act.put, h14, List.setIfInBounds_toArray, List.set_cons_succ, List.set_cons_zero]
                clear h14
                gi_upto_region 32 with fail
                obtain ⟨baA, nA, bcA, hAr, hAt⟩ := told_all HRg.out.e.d h2 HRg.out.i1.t HRg.out.i1.p
                have CA : Hid (∀ z : Grown Wg, CallsIn Fence.wide (m - 1 - 1 - 1) Try.prog 20 #[clo bt, .slice baA nA bcA, .int .i64 W] (gw z) fun e w' => e = .returned (.bool true) ∧ Below (gw z).heap.size (gw z) w') := fun z => callsIn_wide.2 (hAt _ (gw_below z))
                have qa := gw_cell (HRg.out.i1.f.cell 0 (v := clo bt) rfl)
                have qx := gw_cell (HRg.out.e.b10.cell 0 (v := .pointer (some ⟨r, 0, none⟩)) rfl)
                have q0 := gw_cell (hAr.cell 0 (v := .int .i64 W) rfl)
                have q2 := gw_cell (hAr.cell 2 (v := .slice baA nA bcA) rfl)
                clear hAr hAt
                refine grows_round hmix (by kernel_rfl) (by kernel_rfl) ?_
                repeat (gi_big_quiet_step (fail))
                refine Go.BigFrame.wpQuietIn_want (fun _ _ _ _ => trivial) (by rfl) ?_
                intro K2 hK2
                gi_big_quiet_op
                apply Exists.intro
                refine ⟨fun _ => ?_, ?_⟩
                · exact ⟨no_depth _, calls_gwIn (CA.out _)⟩
                go_big_quiet_on
                repeat (gi_big_quiet_step (fail))
                refine wpQuietIn_nil ?_
                intro wq hwq
                obtain ⟨zq, rfl⟩ := hwq
                clear CA qa qx q0 q2
                have HRh : Hid (RX w w15 Wb (gw zq) q r W #[.int .i64 uk, .int .u64 (hiOf ua), .int .u64 (loOf ua), .int .i64 ul, .int .i64 uv, .int .i64 stp, .int .i64 tk, .int .u64 (hiOf ta), .int .u64 (loOf ta), .int .i64 tl, .int .i64 tv] A6 A8 A10 A14 A16 A19 A20 bt bt2 r2 ua ul (0) ro L L2 ro2 ro3) := HRg.out.below (gw_below zq)
                clear HRg
                generalize gw zq = Wh at *
                have C12 : Hid (CallsIn (Fence.wide.inRound l') (m - 1 - 1 - 1) Try.prog 12 #[.int .i64 tk] Wh fun e w' => e = .returned (.int .i64 (tk % 12)) ∧ w' = Wh) := CallsIn.inRound _ (callsIn_wide.2 (rest_any tk Wh))
                have c6 := HRh.out.e.b46.cell 6 (v := .int .i64 tk) rfl
                gi_upto_region 35 with fail
                gi_wp2_with fail
                refine ⟨trivial, no_depth _, ?_⟩
                refine C12.out.mono ?_
                rintro e Wi ⟨rfl, rfl⟩
                clear C12 c6
                by_cases hk : tk % 12 = 11
                · gi_upto_region 36 with fail
                  have C14 : Hid (CallsIn (Fence.wide.inRound l') (m - 1 - 1 - 1) Try.prog 14 #[.pointer (some ⟨q, 0, none⟩)] Wi fun e w' => e = .returned (.tuple #[]) ∧ ∃ s, Blk w' r #[.int .i64 W, .int .i64 4096, s] 40 ∧ Hid (Kept (fun k => k = q) Wi w' ∧ Duo w (w'.setCell ⟨r, 2, none⟩ (.slice none 0 0)) q r W 4096 [] none ∧ OX (XA A20) (w'.setCell ⟨r, 2, none⟩ (.slice none 0 0)) q W 4096 [] ∧ Kept (fun k => k = q ∨ k = r) Wi (w'.setCell ⟨r, 2, none⟩ (.slice none 0 0)))) := CallsIn.inRound _ (callsIn_wide.2 (clearX HRh.out.e.d))
                  have t8 := HRh.out.e.b8.cell 0 (v := .pointer (some ⟨q, 0, none⟩)) rfl
                  gi_wp2_with fail
                  refine ⟨trivial, no_depth _, ?_⟩
                  refine C14.out.mono ?_
                  rintro e Wj ⟨rfl, s9, HS9, HM⟩
                  clear C14 t8
                  have x10 : Wj.cell? ⟨A10, 0, none⟩ = some (.pointer (some ⟨r, 0, none⟩)) := (HRh.out.e.b10.kept HM.out.1 (fun e => by
                    obtain ⟨_, _, g3⟩ := HRh.out.e.d.own.hdr
                    have g := HRh.out.e.b10
                    rw [e] at g
                    exact ty_ne g g3 (by decide))).cell 0 rfl
                  have f2 := HS9.frozen 2
                  have s2 := HS9.cell 2 (v := s9) rfl
                  have HR : Hid (RX w w15 Wb (Wj.setCell ⟨r, 2, none⟩ (.slice none 0 0)) q r W #[.int .i64 uk, .int .u64 (hiOf ua), .int .u64 (loOf ua), .int .i64 ul, .int .i64 uv, .int .i64 stp, .int .i64 tk, .int .u64 (hiOf ta), .int .u64 (loOf ta), .int .i64 tl, .int .i64 tv] A6 A8 A10 A14 A16 A19 A20 bt bt2 r2 ua ul (0) ro L [] ro2 none) := HRh.out.step (S := fun k => k = q ∨ k = r) (fun _ e => e.elim .inl fun e => .inr (.inl e)) (fun _ e => e.elim .inl fun e => .inr (.inl e)) (fun k e e2 => by
                    obtain ⟨_, _, _, g⟩ := HRh.out.was.row k e2
                    rcases e with e | e
                    · obtain ⟨_, _, g3⟩ := HRh.out.e.d.own.hdr; rw [e] at g; exact ty_ne g3 g (by decide)
                    · obtain ⟨_, _, g3⟩ := HRh.out.e.d.ref.hdr; rw [e] at g; exact ty_ne g3 g (by decide)) HM.out.2.1 HM.out.2.2.1 HM.out.2.2.2
                  clear HRh HM
                  gi_upto_region 38 with fail
                  clear x10 f2 s2 HS9
                  generalize Wj.setCell _ _ = Wk at HR ⊢
                  have n0 := HR.out.b20.cell 0 (v := .int .i64 0) rfl
                  have f0 := HR.out.b20.frozen 0
                  gi_upto_region 39 with fail
                  clear n0 f0
                  have HR2 : Hid (RX w w15 Wb (Wk.setCell ⟨A20, 0, none⟩ (.int .i64 1)) q r W #[.int .i64 uk, .int .u64 (hiOf ua), .int .u64 (loOf ua), .int .i64 ul, .int .i64 uv, .int .i64 stp, .int .i64 tk, .int .u64 (hiOf ta), .int .u64 (loOf ta), .int .i64 tl, .int .i64 tv] A6 A8 A10 A14 A16 A19 A20 bt bt2 r2 ua ul (0 + 1) ro L [] ro2 none) := HR.out.count HLO.out
                  clear HR
                  generalize Wk.setCell _ _ = V2 at HR2 ⊢
                  have HDN : Hid (Kept (Gp.Gst Gp.Gd w15.heap.size (SW A20 q r ro) Wb) Wb V2 ∧ WX w w15 q r W A20 L ro ([] ++ [(c, v)]) V2) := by
                    have h := HR2.out
                    refine ⟨h.kG.mono fun k _ e => .inl e, [], none, h.e.d, fun e => by simp at e, ?_, h.kS, h.ox⟩
                    have e1 : ([] ++ [(c, v)]).length = 0 + 1 := by simp
                    rw [e1]
                    exact h.b20
                  have n0 := HR2.out.b20.cell 0 (v := .int .i64 ((0 + 1 : Nat) : Int)) rfl
                  have s0 := HR2.out.e.b46.cell 5 (v := .int .i64 stp) rfl
                  have e1 : ((([] ++ [(c, v)]).length : Nat) : Int) = ((0 + 1 : Nat) : Int) := by simp
                  clear HR2
                  generalize ((0 + 1 : Nat) : Int) = nx at n0 e1 ⊢
                  by_cases hs : nx = stp
                  · gi_wp2_with fail
                    exact ⟨HDN.out.1, rfl, HDN.out.2, e1.trans hs⟩
                  · gi_wp2_with fail
                    exact HDN.out
                · gi_upto_region 38 with fail
                  have HR := HRh
                  clear HRh
                  have n0 := HR.out.b20.cell 0 (v := .int .i64 0) rfl
                  have f0 := HR.out.b20.frozen 0
                  gi_upto_region 39 with fail
                  clear n0 f0
                  have HR2 : Hid (RX w w15 Wb (Wi.setCell ⟨A20, 0, none⟩ (.int .i64 1)) q r W #[.int .i64 uk, .int .u64 (hiOf ua), .int .u64 (loOf ua), .int .i64 ul, .int .i64 uv, .int .i64 stp, .int .i64 tk, .int .u64 (hiOf ta), .int .u64 (loOf ta), .int .i64 tl, .int .i64 tv] A6 A8 A10 A14 A16 A19 A20 bt bt2 r2 ua ul (0 + 1) ro L L2 ro2 ro3) := HR.out.count HLO.out
                  clear HR
                  generalize Wi.setCell _ _ = V2 at HR2 ⊢
                  have HDN : Hid (Kept (Gp.Gst Gp.Gd w15.heap.size (SW A20 q r ro) Wb) Wb V2 ∧ WX w w15 q r W A20 L ro ([] ++ [(c, v)]) V2) := by
                    have h := HR2.out
                    refine ⟨h.kG.mono fun k _ e => .inl e, L2, ro3, h.e.d, fun e => by simp at e, ?_, h.kS, h.ox⟩
                    have e1 : ([] ++ [(c, v)]).length = 0 + 1 := by simp
                    rw [e1]
                    exact h.b20
                  have n0 := HR2.out.b20.cell 0 (v := .int .i64 ((0 + 1 : Nat) : Int)) rfl
                  have s0 := HR2.out.e.b46.cell 5 (v := .int .i64 stp) rfl
                  have e1 : ((([] ++ [(c, v)]).length : Nat) : Int) = ((0 + 1 : Nat) : Int) := by simp
                  clear HR2
                  generalize ((0 + 1 : Nat) : Int) = nx at n0 e1 ⊢
                  by_cases hs : nx = stp
                  · gi_wp2_with fail
                    exact ⟨HDN.out.1, rfl, HDN.out.2, e1.trans hs⟩
                  · gi_wp2_with fail
                    exact HDN.out
            · have hp0 : ¬ (pre.length : Int) = 0 := by have := List.length_pos_iff.2 hp; omega
              gi_upto_region 38 with fail
              clear n0
              have n0 := HR.out.b20.cell 0 (v := .int .i64 pre.length) rfl
              have f0 := HR.out.b20.frozen 0
              gi_upto_region 39 with fail
              clear n0 f0
              have HR2 : Hid (RX w w15 Wb (We.setCell ⟨A20, 0, none⟩ (.int .i64 (((pre.length : Nat) : Int) + 1))) q r W #[.int .i64 uk, .int .u64 (hiOf ua), .int .u64 (loOf ua), .int .i64 ul, .int .i64 uv, .int .i64 stp, .int .i64 tk, .int .u64 (hiOf ta), .int .u64 (loOf ta), .int .i64 tl, .int .i64 tv] A6 A8 A10 A14 A16 A19 A20 bt bt2 r2 ua ul (pre.length + 1) ro L L1 ro2 ro1) := HR.out.count HLO.out
              clear HR
              generalize We.setCell _ _ = V2 at HR2 ⊢
              have HDN : Hid (Kept (Gp.Gst Gp.Gd w15.heap.size (SW A20 q r ro) Wb) Wb V2 ∧ WX w w15 q r W A20 L ro (pre ++ [(c, v)]) V2) := by
                have h := HR2.out
                refine ⟨h.kG.mono fun k _ e => .inl e, L1, ro1, h.e.d, fun e => by simp at e, ?_, h.kS, h.ox⟩
                have e1 : (pre ++ [(c, v)]).length = pre.length + 1 := by simp
                rw [e1]
                exact h.b20
              have n0 := HR2.out.b20.cell 0 (v := .int .i64 ((pre.length + 1 : Nat) : Int)) rfl
              have s0 := HR2.out.e.b46.cell 5 (v := .int .i64 stp) rfl
              have e1 : (((pre ++ [(c, v)]).length : Nat) : Int) = ((pre.length + 1 : Nat) : Int) := by simp
              clear HR2
              generalize ((pre.length + 1 : Nat) : Int) = nx at n0 e1 ⊢
              by_cases hs : nx = stp
              · gi_wp2_with fail
                exact ⟨HDN.out.1, rfl, HDN.out.2, e1.trans hs⟩
              · gi_wp2_with fail
                exact HDN.out

end Go.Proofs.Ytgdpplipahhffaa
namespace Go.Proofs.Ytgdpplipahhffaa
open Go.ChangeShapes Go.WideShapes Go.ChangeAt Go.RowKit Go.Joins
set_option linter.unusedVariables false
set_option linter.unusedSimpArgs false

theorem cells46 : Try.prog.cellsOf 46 = 11 := by kernel_rfl
theorem list3 {α : Type} {l : List α} (h : l.length = 3) : ∃ a b c, l = [a, b, c] := by
  match l, h with
  | [a, b, c], _ => exact ⟨a, b, c, rfl⟩
theorem list11 {α : Type} {l : List α} (h : l.length = 11) : ∃ c0 c1 c2 c3 c4 c5 c6 c7 c8 c9 c10, l = [c0, c1, c2, c3, c4, c5, c6, c7, c8, c9, c10] := by
  match l, h with
  | [c0, c1, c2, c3, c4, c5, c6, c7, c8, c9, c10], _ => exact ⟨c0, c1, c2, c3, c4, c5, c6, c7, c8, c9, c10, rfl⟩
section
variable {H : Type} {enc : TypeId × Value → H} {W : World} {held : Bool}
theorem parts46 {fuel : Nat} {cs : List Value} (h : Reads enc W held fuel 46 cs) : ∃ c0 c1 c2 c3 c4 c5 c6 c7 c8 c9 c10 m, m < fuel ∧ cs = [c0, c1, c2, c3, c4, c5, c6, c7, c8, c9, c10] ∧ Reads enc W held m 35 [c0, c1, c2, c3, c4] ∧ Reads enc W held m 3 [c5] ∧ Reads enc W held m 35 [c6, c7, c8, c9, c10] := by
  obtain ⟨y, h, hw⟩ := h
  obtain ⟨xs, m, rfl, rfl, hl, hlen, hf⟩ := DataW.trod_struct Try.underlying46 h
  obtain ⟨c0, c1, c2, c3, c4, c5, c6, c7, c8, c9, c10, rfl⟩ := list11 (hl.trans cells46)
  obtain ⟨x0, x1, x2, rfl⟩ := list3 hlen
  refine ⟨_, _, _, _, _, _, _, _, _, _, _, m, by omega, rfl, ?_, ?_, ?_⟩
  · exact ⟨x0, by have := hf 0 _ rfl; simpa [cells35] using this, fun n hn => hw n (by simp [DataW.weights, DataW.weightsEach, Try.underlying46, hn])⟩
  · exact ⟨x1, by have := hf 1 _ rfl; simpa [cells3, cells35] using this, fun n hn => hw n (by simp [DataW.weights, DataW.weightsEach, Try.underlying46, hn])⟩
  · exact ⟨x2, by have := hf 2 _ rfl; simpa [cells3, cells35] using this, fun n hn => hw n (by simp [DataW.weights, DataW.weightsEach, Try.underlying46, hn])⟩
theorem open_walk {fuel : Nat} {cs : List Value} (h : Reads enc W held fuel 46 cs) : ∃ k : WalkD, cs = (walkC k).toList ∧ WalkOk k := by
  obtain ⟨c0, c1, c2, c3, c4, c5, c6, c7, c8, c9, c10, m, _, rfl, g0, g1, g2⟩ := parts46 h
  obtain ⟨o, e0, h0⟩ := open_op g0
  obtain ⟨n, e1, h1⟩ := open_int g1
  obtain ⟨u, e2, h2⟩ := open_op g2
  obtain ⟨k, a, l, v⟩ := o
  obtain ⟨k', a', l', v'⟩ := u
  cases e0; cases e1; cases e2
  exact ⟨⟨⟨k, a, l, v⟩, n, ⟨k', a', l', v'⟩⟩, rfl, h0.1, h2.1⟩
end
end Go.Proofs.Ytgdpplipahhffaa
namespace Go.Proofs.Ytgdpplipahhffaa
open Go.ChangeShapes Go.WideShapes Go.ChangeAt Go.RowKit Go.Joins
set_option linter.unusedVariables false

set_option maxRecDepth 100000 in
theorem walks_lifted (os : Os) (started : os.Started) (H : Type) (enc : TypeId × Value → H) :
    ReturnsInHanded {} Try.checked os 4 .any (Rows.trieWalksSpec.pre6 enc Try.prog Try.f4 Rows.trieWalksRow.domain false) (Rows.trieWalksSpec.post enc Try.prog Try.f4 false true false false) := by
  refine returnsInHanded_of_change_sized (C := Try.checked) knob started (by kernel_rfl) Try.func4
    (ChangeSpec.witness6 (enc := enc) (C := Try.checked) false ⟨#[], #[.int .i64 0, .slice none 0 0, .agg #[.int .i64 0, .int .u64 0, .int .u64 0, .int .i64 0, .int .i64 0, .int .i64 0, .int .i64 0, .int .u64 0, .int .u64 0, .int .i64 0, .int .i64 0]], []⟩ 8 (by kernel_rfl) (by kernel_rfl) (by kernel_rfl) (by kernel_rfl)) ?_
  intro W base args ds gs before hval0 hW _ hsz0 _
  have hsz : (DataW.weightsEach Try.prog (Try.f4.params.toList ++ Rows.trieWalksSpec.plain.varTypes Try.prog) (ds ++ gs)).all (· ≤ reachBytes) = true := hsz0
  have hval : ∀ (j : Nat) t v, Try.f4.params[j]? = some t → args[j]? = some v → Value.okWide Try.prog W .any base t v := hval0
  have hW' := hW
  obtain ⟨p, q, hA0, hV, rfl, _, _⟩ := hW
  have hA : DataW.TrodAll enc Try.prog W 0 (fun _ => true) true Try.f4.params.toList args.toList ds p := hA0
  rw [Try.params4] at hA hval hsz
  obtain ⟨v0, v1, v2, d0, d1, d2, p0, p1, p2, rfl, rfl, rfl, h0, h1, h2⟩ := trodAll_three hA
  obtain ⟨rfl, rfl⟩ := trodVars_none hV
  have hzz : ∀ (j : Nat) (t : TypeId) (d : DataW H), (#[3, 22, 46] : Array TypeId).toList[j]? = some t → [d0, d1, d2][j]? = some d → ∀ n ∈ d.weights Try.prog t, n ≤ reachBytes := fun j t d ht hd n hn => by
    have h9 := List.all_eq_true.1 hsz n (DataW.weights_mem_each (j := j) (t := t) (d := d) ?_ ?_ n hn)
    · exact of_decide_eq_true h9
    · have hj := (List.getElem?_eq_some_iff.1 ht).1
      rw [List.getElem?_append_left hj]; exact ht
    · have hj := (List.getElem?_eq_some_iff.1 hd).1
      rw [List.getElem?_append_left hj]; exact hd
  have hk0 := h0
  obtain ⟨f0, hf0⟩ := h0
  obtain ⟨n0, rfl⟩ := okWide_int Try.underlying3 (hval 0 3 v0 rfl rfl)
  obtain ⟨s0, e0, hs0⟩ := open_int (enc := enc) (W := W) (held := true) (fuel := f0) ⟨_, hf0, hzz 0 3 d0 rfl rfl⟩
  simp only [Value.cells, List.cons.injEq, Value.int.injEq, true_and, and_true] at e0
  subst e0
  have hk1 := h1
  obtain ⟨f1, hf1⟩ := h1
  obtain ⟨b1, len1, cap1, rfl⟩ := okWide_slice Try.underlying22 (hval 1 22 v1 rfl rfl)
  obtain ⟨u1, s1, e1, hs1⟩ := open_ops (enc := enc) (W := W) (held := true) (fuel := f1) ⟨_, hf1, hzz 1 22 d1 rfl rfl⟩
  simp only [Value.cells, List.cons.injEq, and_true] at e1
  subst e1
  have hk2 := h2
  obtain ⟨f2, hf2⟩ := h2
  obtain ⟨c2, rfl, _⟩ := okWide_struct Try.underlying46 (hval 2 46 v2 rfl rfl)
  obtain ⟨s2, e2, hs2⟩ := open_walk (enc := enc) (W := W) (held := true) (fuel := f2) (cs := c2.toList) ⟨_, hf2, hzz 2 46 d2 rfl rfl⟩
  have e2 : c2 = walkC s2 := Array.toList_inj.1 e2
  subst e2
  clear hA0 hval0 hsz0
  simp only [List.append_nil] at hW'
  have hlt : ∀ y ∈ p0 ++ p1 ++ p2, y.block < W.heap.size := fun y hy => by simpa using hW'.lt y hy
  refine (walks_walk n0 (.slice b1 len1 cap1) s1 s2 W hs0 hs1 hs2).mono fun e W' ⟨he, hb⟩ => ?_
  subst he
  have r0 := Below.trod laidOut (by kernel_rfl) (of_decide_eq_true (by kernel_rfl)) hk0 hb (fun y hy => hlt y (by simp [hy]))
  have r1 := Below.trod laidOut (by kernel_rfl) (of_decide_eq_true (by kernel_rfl)) hk1 hb (fun y hy => hlt y (by simp [hy]))
  have r2 := Below.trod laidOut (by kernel_rfl) (of_decide_eq_true (by kernel_rfl)) hk2 hb (fun y hy => hlt y (by simp [hy]))
  exact ⟨_, rfl, _, _, _, [], p0 ++ p1 ++ p2, [], hW', trodAll_mk1 (shut_bool Try.underlying4 true), (List.append_assoc p0 p1 p2 ▸ trodAll_mk3 r0 r1 r2), rfl, hb.frame _, fun h => by cases h⟩
theorem walks_holds : Rows.TrieWalksSaid :=
  OpenClaim.holds_of_wide 4 Try.f4 rfl rfl rfl rfl rfl rfl rfl ⟨rfl, rfl, rfl, rfl, rfl⟩ rfl rfl rfl rfl rfl (by kernel_rfl) Try.func4 (by kernel_rfl)
    (of_decide_eq_true (by kernel_rfl)) (by unfold Func.isWrapper; first | (rw [if_pos (by decide +kernel)]; kernel_rfl) | (rw [if_neg (by decide +kernel)]; exact ⟨rfl, rfl⟩))
    (fun os started H enc _ => walks_lifted os started H enc)
#print axioms walks_holds
end Go.Proofs.Ytgdpplipahhffaa
