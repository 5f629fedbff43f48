/- TrieWalks: what its walk leans on. A trie, and blocks that lie outside it: what each call does to both, once more. -/
import Derived.Test.YtgdpplipahhffaaGv
import Derived.Test.YtgdpplipahhffaaVj
import Derived.Test.YtgdpplipahhffaaGw
import Derived.Test.YtgdpplipahhffaaGk
namespace Go.Proofs.Ytgdpplipahhffaa
open Go.RowKit
set_option linter.unusedVariables false
set_option linter.unusedSimpArgs false

section
variable {w0 w : World} {q r W most : Nat} {L : List (List Bool × Int)} {ro : Option Nat}
theorem Own.keptT {w' : World} {S : Nat → Prop} (hO : Own w0 w q W most L) (hk : Kept S w w') (hq : ¬ S q) (hS : ∀ k, S k → ∀ cs t f, w.heap[k]? = some (.cells cs t f) → t ≠ 98 ∧ t ≠ 3) (hlo : ∀ k, S k → w0.heap.size ≤ k) : Own w0 w' q W most L := by
  obtain ⟨⟨a, n, N, hT, hkk⟩, hb, hl⟩ := hO
  have no : ∀ {b : Nat} {cs : Array Value} {t : TypeId}, Blk w b cs t → (t = 98 ∨ t = 3) → ¬ S b := fun {b cs t} h ht e => by
    obtain ⟨n1, n2⟩ := hS b e _ _ _ h
    exact ht.elim n1 n2
  refine ⟨⟨a, n, N, hT.kept' hk hq (fun x hx => ?_), hkk⟩, hb.trans (hk.below hb.size hlo), hl⟩
  obtain ⟨b0, b1, hn⟩ := hT.hang.thing x hx
  exact ⟨no hn.cells (.inl rfl), fun t v ht => no (hn.thing t v ht) (.inr rfl)⟩
/-- The classes of blocks that an iterator never writes over. -/
def Gp.Gd (t : TypeId) : Prop := t ≠ 121 ∧ t ≠ 90
theorem duo_low {A C : World} {m : Nat} (hD : Duo w0 A q r W most L ro) (hm : w0.heap.size ≤ m) (hk : Kept (fun k => m ≤ k ∧ ¬ Gp.IsRow Gp.Gd A k) A C) : Duo w0 C q r W most L ro := by
  have no : ∀ {b : Nat} {cs : Array Value} {t : TypeId} {f}, A.heap[b]? = some (.cells cs t f) → Gp.Gd t → ¬ (m ≤ b ∧ ¬ Gp.IsRow Gp.Gd A b) := fun {b cs t f} h ht e => e.2 ⟨_, _, _, h, ht⟩
  obtain ⟨_, _, h1⟩ := hD.own.hdr
  obtain ⟨_, _, h2⟩ := hD.ref.hdr
  refine ⟨hD.own.keptT hk (no h1 ⟨by decide, by decide⟩) (fun k e cs t f h => ⟨fun e2 => ?_, fun e2 => ?_⟩) (fun k e => Nat.le_trans hm e.1), hD.ref.kept hk (no h2 ⟨by decide, by decide⟩) (fun k e => ?_)⟩
  · subst e2; exact no h ⟨by decide, by decide⟩ e
  · subst e2; exact no h ⟨by decide, by decide⟩ e
  · obtain ⟨_, _, _, h3⟩ := hD.ref.row k e
    exact no h3 ⟨by decide, by decide⟩
/-- Blocks of other kinds stay. -/
def KT (V V' : World) : Prop := ∀ b cs t, Blk V b cs t → t ≠ 84 → t ≠ 40 → t ≠ 57 → Blk V' b cs t
theorem KT.refl (V : World) : KT V V := fun _ _ _ h _ _ _ => h
theorem KT.trans {A B C : World} (h : KT A B) (k : KT B C) : KT A C := fun b cs t g n1 n2 n3 => k b cs t (h b cs t g n1 n2 n3) n1 n2 n3
theorem KT.below {A B : World} (h : Below A.heap.size A B) : KT A B := fun _ _ _ g _ _ _ => g.below h
theorem Duo.kt {w' : World} (hD : Duo w0 w q r W most L ro) (hk : Kept (Tch q r ro) w w') : KT w w' := fun b cs t h n1 n2 n3 => by
  refine h.kept hk ?_
  rintro (e | e | e)
  · obtain ⟨_, _, k⟩ := hD.own.hdr; rw [← e] at k; exact ty_ne k h (fun e => n1 e.symm)
  · obtain ⟨_, _, k⟩ := hD.ref.hdr; rw [← e] at k; exact ty_ne k h (fun e => n2 e.symm)
  · obtain ⟨_, _, _, k⟩ := hD.ref.row b e; exact ty_ne k h (fun e => n3 e.symm)
theorem play_kt (hD : Duo w0 w q r W most L ro) (h1 : 1 ≤ W) (hW : W ≤ 128) (o : OpD) (ho : Is128 o.a) :
    Calls Try.prog 13 #[.pointer (some ⟨q, 0, none⟩), .pointer (some ⟨r, 0, none⟩), .agg (opC o)] w fun e w' => e = .returned (.bool true) ∧ Hid (∃ L' ro', Duo w0 w' q r W most L' ro' ∧ KT w w' ∧ Kept (Tch q r ro) w w') := by
  refine (play_any hD h1 hW o ho).mono ?_
  rintro e w' ⟨rfl, L', ro', H⟩
  exact ⟨rfl, (⟨L', ro', H.out.1, hD.kt H.out.2.1, H.out.2.1⟩ : ∃ _ _, _)⟩
/-- told over All, at any time. -/
theorem told_all {bt bp : Nat} (hD : Duo w0 w q r W most L ro) (hW : W ≤ 128) (hbt : Blk w bt #[.pointer (some ⟨q, 0, none⟩)] 24) (hbp : Blk w bp #[.int .u64 (hiOf 0), .int .u64 (loOf 0), .int .i64 0] 51) :
    ∃ ba n bc, Blk w r #[.int .i64 W, .int .i64 most, .slice ba n bc] 40 ∧ ∀ V, Below w.heap.size w V → Calls Try.prog 20 #[.func (.func 48) #[] #[.pointer (some ⟨bt, 0, none⟩), .pointer (some ⟨bp, 0, none⟩)], .slice ba n bc, .int .i64 W] V fun e w' => e = .returned (.bool true) ∧ Below V.heap.size V w' := by
  obtain ⟨⟨ba, bc, g1, g2, g3⟩, g4, g5, g6⟩ := id hD.ref
  refine ⟨ba, L.length, bc, g2, fun V hV => ?_⟩
  exact told_yes V hW L (fun y hy => hD.own.lens y hy) g5 _ ba bc (ownsRow_kept g3 (Kept.of_below (S := fun _ => False) hV) (fun _ _ => id)) bt bp (all_tells51 (hD.own.below hV) (hbt.below hV) (hbp.below hV))
/-- told over Under, at any time. -/
theorem told_under {bt bp : Nat} (hD : Duo w0 w q r W most L ro) (h1 : 1 ≤ W) (hW : W ≤ 128) (a : Nat) (ha : Is128 a) (l : Int) (hbt : Blk w bt #[.pointer (some ⟨q, 0, none⟩)] 24) (hbp : Blk w bp #[.int .u64 (hiOf a), .int .u64 (loOf a), .int .i64 l] 51) :
    ∃ n : Nat, (∀ V, Below w.heap.size w V → Calls Try.prog 21 #[.pointer (some ⟨r, 0, none⟩), B a, .int .i64 l] V fun e w' => ∃ ba bc, e = .returned (.slice ba n bc) ∧ Hid (Below V.heap.size V w' ∧ ∀ V2, Below w'.heap.size w' V2 → Calls Try.prog 20 #[.func (.func 48) #[] #[.pointer (some ⟨bt, 0, none⟩), .pointer (some ⟨bp, 0, none⟩)], .slice ba n bc, .int .i64 W] V2 fun e w' => e = .returned (.bool true) ∧ Below V2.heap.size V2 w')) := by
  obtain ⟨K, k1, k2, k3, k4⟩ := under_both (most := most) (L := L) h1 hW a ha l
  refine ⟨K.length, fun V hV => (k4 V _ r (hD.ref.below hV).at).mono ?_⟩
  rintro e w' ⟨ba, bc, rfl, H⟩
  refine ⟨ba, bc, rfl, (⟨H.out.2, fun V2 hV2 => ?_⟩ : _ ∧ _)⟩
  have hb : Below w.heap.size w V2 := bst (bst hV H.out.2) hV2
  exact told_yes V2 hW K (fun y hy => hD.own.lens y (k1 y hy)) (Nat.le_trans k2 hD.ref.few) _ ba bc (ownsRow_kept H.out.1 (Kept.of_below (S := fun _ => False) hV2) (fun _ _ => id)) bt bp (k3 w0 V2 q _ _ (hD.own.below hb) (hbt.below hb) (hbp.below hb))
end
/-- A walk, as plain data. -/
structure WalkD where
  un : OpD
  stop : Int
  th : OpD
abbrev walkC (k : WalkD) : Array Value := #[.int .i64 k.un.kind, .int .u64 (hiOf k.un.a), .int .u64 (loOf k.un.a), .int .i64 k.un.n, .int .i64 k.un.v, .int .i64 k.stop, .int .i64 k.th.kind, .int .u64 (hiOf k.th.a), .int .u64 (loOf k.th.a), .int .i64 k.th.n, .int .i64 k.th.v]
def WalkOk (k : WalkD) : Prop := Is128 k.un.a ∧ Is128 k.th.a
/-- What the walk holds: both tries, and the statement's own variables. -/
structure Env (w V : World) (q r W : Nat) (c46 : Array Value) (A6 A8 A10 : Nat) (L : List (List Bool × Int)) (ro : Option Nat) : Prop where
  d : Duo w V q r W 4096 L ro
  b46 : Blk V w.heap.size c46 46
  b6 : Blk V A6 #[.bool false] 4
  b8 : Blk V A8 #[.pointer (some ⟨q, 0, none⟩)] 24
  b10 : Blk V A10 #[.pointer (some ⟨r, 0, none⟩)] 28
  lt : w.heap.size < A6
theorem Env.below {w V V' : World} {q r W A6 A8 A10 : Nat} {c46 : Array Value} {L : List (List Bool × Int)} {ro : Option Nat} (h : Env w V q r W c46 A6 A8 A10 L ro) (hb : Below V.heap.size V V') : Env w V' q r W c46 A6 A8 A10 L ro :=
  ⟨h.d.below hb, h.b46.below hb, h.b6.below hb, h.b8.below hb, h.b10.below hb, h.lt⟩
/-- An iterator's closure, and what it holds. -/
abbrev clo (b : Nat) : Value := .func (.func 48) #[] #[.pointer (some ⟨b, 0, none⟩), .pointer (some ⟨b + 1, 0, none⟩)]
structure Itr (V : World) (A b q a : Nat) (l : Int) : Prop where
  f : Blk V A #[clo b] 48
  t : Blk V b #[.pointer (some ⟨q, 0, none⟩)] 24
  p : Blk V (b + 1) #[.int .u64 (hiOf a), .int .u64 (loOf a), .int .i64 l] 51
theorem Itr.below {V V' : World} {A b q a : Nat} {l : Int} (h : Itr V A b q a l) (hb : Below V.heap.size V V') : Itr V' A b q a l := ⟨h.f.below hb, h.t.below hb, h.p.below hb⟩
/-- What told over Under leaves, operation by operation. -/
def VU (W q r bx b : Nat) (a : Nat) (l : Int) (n m : Nat) : Nat → Value → World → Prop
  | 0, v, _ => v = clo b
  | 1, v, _ => v = .pointer (some ⟨r, 0, none⟩)
  | 2, v, _ => v = .pointer (some ⟨bx, 0, none⟩)
  | 3, v, _ => v = .pointer (some ⟨bx, 1, none⟩)
  | 4, v, _ => v = .agg #[.int .u64 (hiOf a), .int .u64 (loOf a)]
  | 5, v, _ => v = .pointer (some ⟨bx, 0, none⟩)
  | 6, v, _ => v = .pointer (some ⟨bx, 3, none⟩)
  | 7, v, _ => v = .int .i64 l
  | 8, v, w => ∃ ba bc, v = .slice ba n bc ∧ ∀ V2, Below w.heap.size w V2 → CallsIn Fence.wide m Try.prog 20 #[clo b, .slice ba n bc, .int .i64 W] V2 fun e w' => e = .returned (.bool true) ∧ Below V2.heap.size V2 w'
  | 9, v, _ => v = .pointer (some ⟨r, 0, none⟩)
  | 10, v, _ => v = .pointer (some ⟨r, 0, none⟩)
  | 11, v, _ => v = .pointer (some ⟨r, 0, none⟩)
  | 12, v, _ => v = .int .i64 W
  | 13, v, _ => v = .bool true
  | 14, v, _ => v = .bool true
  | _, _, _ => True
theorem VU_below {W q r bx b : Nat} {a : Nat} {l : Int} {n m : Nat} (i : Nat) (v : Value) (w w' : World) (h : VU W q r bx b a l n m i v w) (hb : Below w.heap.size w w') : VU W q r bx b a l n m i v w' := by
  match i, h with
  | 0, h => exact h
  | 1, h => exact h
  | 2, h => exact h
  | 3, h => exact h
  | 4, h => exact h
  | 5, h => exact h
  | 6, h => exact h
  | 7, h => exact h
  | 8, h => obtain ⟨ba, bc, h1, h2⟩ := h; exact ⟨ba, bc, h1, fun V2 hV => h2 V2 (bst hb hV (Nat.le_refl _))⟩
  | 9, h => exact h
  | 10, h => exact h
  | 11, h => exact h
  | 12, h => exact h
  | 13, h => exact h
  | 14, h => exact h
  | _ + 15, h => exact h
theorem not_gd121 : ¬ Gp.Gd 121 := fun h => h.1 rfl
theorem not_gd90 : ¬ Gp.Gd 90 := fun h => h.2 rfl
/-- What the rounds may touch. -/
def SW (A20 q r : Nat) (ro : Option Nat) (k : Nat) : Prop := k = A20 ∨ Tch q r ro k
theorem tells_gp {w V V' : World} {q r W bt A20 : Nat} {L : List (List Bool × Int)} {ro : Option Nat} (hD : Duo w V q r W 4096 L ro) (hb : Below V.heap.size V V') (hA : V.heap.size ≤ A20) (hlt : A20 < V'.heap.size) (hbt : Blk V' bt #[.pointer (some ⟨q, 0, none⟩)] 24) (hbp : Blk V' (bt + 1) #[.int .u64 (hiOf 0), .int .u64 (loOf 0), .int .i64 0] 51) :
    Gp.TellsG Gp.Gd Try.prog 48 #[.pointer (some ⟨bt, 0, none⟩), .pointer (some ⟨bt + 1, 0, none⟩)] (fun y : List Bool × Int => #[Pf (valOf W y.1) y.1.length, .int .i64 y.2]) L (SW A20 q r ro) V' := by
  obtain ⟨⟨a, n, N, hT, hk⟩, hbe, hlo⟩ := id hD.own
  have hbp' : Blk V' (bt + 1) #[.int .u64 (hiOf (valOf W [])), .int .u64 (loOf (valOf W [])), .int .i64 (([] : List Bool).length : Nat)] 51 := by rw [val_nil]; exact hbp
  have hoff : Off (SW A20 q r ro) N := fun x hx => by
    obtain ⟨b0, b1, hn⟩ := hT.hang.thing x hx
    have no : ∀ {b : Nat} {cs : Array Value} {t : TypeId}, Blk V b cs t → (t = 98 ∨ t = 3) → ¬ SW A20 q r ro b := fun {b cs t} h ht e => by
      rcases e with e | e
      · have := h.lt; omega
      · obtain ⟨_, _, _, g, n1, n2⟩ := hD.cells b e
        unfold Blk at h
        rw [h] at g
        cases g
        exact ht.elim n1 n2
    exact ⟨no hn.cells (.inl rfl), fun t v ht => no (hn.thing t v ht) (.inr rfl)⟩
  have := Gp.under_tellsG Gp.Gd not_gd121 not_gd90 (hT.below hb) (p := []) (Nat.zero_le _) bt (bt + 1) hbt hbp' (SW A20 q r ro) (fun k e => e.elim (fun e => by omega) (fun e => Nat.lt_of_lt_of_le (hD.tch k e) hb.size)) hoff
  rw [und_nil, hk] at this
  exact this
/-- What a round holds. -/
structure RE (w w15 Wb V : World) (q r W : Nat) (c46 : Array Value) (A6 A8 A10 A14 A16 A19 A20 bt bt2 r2 ua : Nat) (ul : Int) (n : Nat) (ro : Option Nat) (L0 L : List (List Bool × Int)) (ro2 ro' : Option Nat) : Prop where
  e : Env w V q r W c46 A6 A8 A10 L ro'
  i1 : Itr V A14 bt q 0 0
  i2 : Itr V A16 bt2 q ua ul
  b19 : Blk V A19 #[.pointer (some ⟨r2, 0, none⟩)] 28
  b20 : Blk V A20 #[.int .i64 n] 3
  was : RefI w V r2 W 4096 L0 ro2
  kS : Kept (SW A20 q r ro) w15 V
  kG : Kept (SW A20 q r ro) Wb V
  ne : r2 ≠ r ∧ ∀ k, ro2 = some k → ro ≠ some k
section
variable {w w15 Wb V V' : World} {q r W : Nat} {c46 : Array Value} {A6 A8 A10 A14 A16 A19 A20 bt bt2 r2 ua : Nat} {ul : Int} {n : Nat} {ro : Option Nat} {L0 L L' : List (List Bool × Int)} {ro2 ro' ro'' : Option Nat}
theorem RE.below (h : RE w w15 Wb V q r W c46 A6 A8 A10 A14 A16 A19 A20 bt bt2 r2 ua ul n ro L0 L ro2 ro') (hb : Below V.heap.size V V') : RE w w15 Wb V' q r W c46 A6 A8 A10 A14 A16 A19 A20 bt bt2 r2 ua ul n ro L0 L ro2 ro' :=
  ⟨h.e.below hb, h.i1.below hb, h.i2.below hb, h.b19.below hb, h.b20.below hb, h.was.below hb, h.kS.trans (Kept.of_below hb), h.kG.trans (Kept.of_below hb), h.ne⟩
/-- A call that touches the tries alone. -/
theorem RE.step (h : RE w w15 Wb V q r W c46 A6 A8 A10 A14 A16 A19 A20 bt bt2 r2 ua ul n ro L0 L ro2 ro) (hD : Duo w V' q r W 4096 L' ro'') (hk : Kept (Tch q r ro) V V') : RE w w15 Wb V' q r W c46 A6 A8 A10 A14 A16 A19 A20 bt bt2 r2 ua ul n ro L0 L' ro2 ro'' := by
  have kt := h.e.d.kt hk
  have k' : Kept (SW A20 q r ro) V V' := hk.mono fun k _ e => .inr e
  obtain ⟨_, _, gq⟩ := h.e.d.own.hdr
  obtain ⟨_, _, gr⟩ := h.was.hdr
  refine ⟨⟨hD, kt _ _ _ h.e.b46 (by decide) (by decide) (by decide), kt _ _ _ h.e.b6 (by decide) (by decide) (by decide), kt _ _ _ h.e.b8 (by decide) (by decide) (by decide), kt _ _ _ h.e.b10 (by decide) (by decide) (by decide), h.e.lt⟩, ⟨kt _ _ _ h.i1.f (by decide) (by decide) (by decide), kt _ _ _ h.i1.t (by decide) (by decide) (by decide), kt _ _ _ h.i1.p (by decide) (by decide) (by decide)⟩, ⟨kt _ _ _ h.i2.f (by decide) (by decide) (by decide), kt _ _ _ h.i2.t (by decide) (by decide) (by decide), kt _ _ _ h.i2.p (by decide) (by decide) (by decide)⟩, kt _ _ _ h.b19 (by decide) (by decide) (by decide), kt _ _ _ h.b20 (by decide) (by decide) (by decide), h.was.kept hk ?_ ?_, h.kS.trans k', h.kG.trans k', h.ne⟩
  · rintro (e | e | e)
    · rw [e] at gr; exact ty_ne gq gr (by decide)
    · exact h.ne.1 e
    · obtain ⟨_, _, _, g⟩ := h.e.d.ref.row _ e; exact ty_ne g gr (by decide)
  · rintro k e2 (e | e | e)
    · obtain ⟨_, _, _, g⟩ := h.was.row k e2; rw [e] at g; exact ty_ne gq g (by decide)
    · obtain ⟨_, _, _, g⟩ := h.was.row k e2; obtain ⟨_, _, g3⟩ := h.e.d.ref.hdr; rw [e] at g; exact ty_ne g3 g (by decide)
    · exact h.ne.2 k e2 e
/-- What the rounds keep. -/
def WJ (w w15 : World) (q r W A20 : Nat) (L0 : List (List Bool × Int)) (ro : Option Nat) (pre : List (List Bool × Int)) (V : World) : Prop :=
  ∃ L ro', Duo w V q r W 4096 L ro' ∧ (pre = [] → ro' = ro) ∧ Blk V A20 #[.int .i64 pre.length] 3 ∧ Kept (SW A20 q r ro) w15 V
theorem WJ.low (hm : w.heap.size ≤ w15.heap.size) (hA : A20 < w15.heap.size) : Gp.LowG Gp.Gd w15.heap.size (WJ w w15 q r W A20 L0 ro) := fun s A C hk ⟨L, ro', h1, h2, h3, h4⟩ =>
  ⟨L, ro', duo_low h1 hm hk, h2, h3.kept hk (fun e => by have := e.1; omega), ⟨hk.os.trans h4.os, hk.tape.trans h4.tape, hk.output.trans h4.output, Nat.le_trans h4.size hk.size, fun k hk1 hk2 => (hk.block k (Nat.lt_of_lt_of_le hk1 h4.size) (fun e => by have := e.1; omega)).trans (h4.block k hk1 hk2)⟩⟩
end
end Go.Proofs.Ytgdpplipahhffaa
namespace Go.Proofs.Ytgdpplipahhffaa
open Go.RowKit
set_option linter.unusedVariables false
set_option linter.unusedSimpArgs false

/-- A trie that keeps this, X outside it. -/
def OX (X : Nat → Prop) (w : World) (q W most : Nat) (L : List (List Bool × Int)) : Prop := ∃ a n N, TrieAt w q W most a n N ∧ kept N = L ∧ Off X N
section
variable {X : Nat → Prop} {w0 w w' : World} {q r W most : Nat} {L L' : List (List Bool × Int)} {ro : Option Nat}
theorem OX.below (h : OX X w q W most L) (hb : Below w.heap.size w w') : OX X w' q W most L := by
  obtain ⟨a, n, N, h1, h2, h3⟩ := h
  exact ⟨a, n, N, h1.below hb, h2, h3⟩
theorem OX.keptT {S : Nat → Prop} (h : OX X w q W most L) (hk : Kept S w w') (hq : ¬ S q) (hS : ∀ k, S k → X k ∨ ∀ cs t f, w.heap[k]? = some (.cells cs t f) → t ≠ 98 ∧ t ≠ 3) : OX X w' q W most L := by
  obtain ⟨a, n, N, hT, hkk, hX⟩ := h
  refine ⟨a, n, N, hT.kept' hk hq (fun x hx => ?_), hkk, hX⟩
  obtain ⟨b0, b1, hn⟩ := hT.hang.thing x hx
  refine ⟨fun e => ?_, fun t v ht e => ?_⟩
  · rcases hS _ e with h | h
    · exact (hX x hx).1 h
    · exact (h _ _ _ hn.cells).1 rfl
  · rcases hS _ e with h | h
    · exact (hX x hx).2 t v ht h
    · exact (h _ _ _ (hn.thing t v ht)).2 rfl
theorem OX.own (h : OX X w q W most L) (hb : Below w0.heap.size w0 w) (hl : w0.heap.size ≤ q) : Own w0 w q W most L := by
  obtain ⟨a, n, N, h1, h2, h3⟩ := h
  exact ⟨⟨a, n, N, h1, h2⟩, hb, hl⟩
theorem RefI.stepX (h : RefI w0 w r W most L ro) (hO : Own w0 w q W most L') (hX : OX X w q W most L') (hk : Kept (fun k => k = r ∨ ro = some k) w w') : OX X w' q W most L' := by
  obtain ⟨a1, a2, a3⟩ := hO.hdr
  obtain ⟨b1, b2, b3⟩ := h.hdr
  refine hX.keptT hk ?_ (fun k e => .inr fun cs t f h2 => ?_)
  · rintro (e | e)
    · rw [e] at a3; exact ty_ne b3 a3 (by decide)
    · obtain ⟨_, _, _, g⟩ := h.row _ e; exact ty_ne g a3 (by decide)
  · rcases e with rfl | e
    · rw [b3] at h2; cases h2; exact ⟨by decide, by decide⟩
    · obtain ⟨_, _, _, g⟩ := h.row _ e; rw [g] at h2; cases h2; exact ⟨by decide, by decide⟩
end
/-- A call on a trie, and the document's call: both answer c, and keep L' from now on; X stays outside. -/
def BothX (X : Nat → Prop) (W most : Nat) (L L' : List (List Bool × Int)) (f g : FuncId) (a b : Array Value) (c : Value) : Prop :=
  (∀ w0 w q, Own w0 w q W most L → OX X w q W most L → (∀ k, X k → k < w.heap.size) → Calls Try.prog f (#[.pointer (some ⟨q, 0, none⟩)] ++ a) w fun e w' => e = .returned c ∧ Hid (Own w0 w' q W most L' ∧ Kept (fun k => k = q) w w' ∧ OX X w' q W most L')) ∧
  (∀ w0 w r ro, RefI w0 w r W most L ro → w0.heap.size ≤ w.heap.size → Calls Try.prog g (#[.pointer (some ⟨r, 0, none⟩)] ++ b) w fun e w' => e = .returned c ∧ ∃ ro', Hid (RefI w0 w' r W most L' ro' ∧ Kept (fun k => k = r ∨ ro = some k) w w' ∧ NewRow w ro ro'))
section
variable {X : Nat → Prop} {W most : Nat} {L : List (List Bool × Int)}
theorem bothX_of_below {f g : FuncId} {a b : Array Value} {c : Value}
    (h1 : ∀ w0 w q, Own w0 w q W most L → Calls Try.prog f (#[.pointer (some ⟨q, 0, none⟩)] ++ a) w fun e w' => e = .returned c ∧ Below w.heap.size w w')
    (h2 : ∀ w B r, RefAt w B r W most L → Calls Try.prog g (#[.pointer (some ⟨r, 0, none⟩)] ++ b) w fun e w' => e = .returned c ∧ Below w.heap.size w w') : BothX X W most L L f g a b c := by
  refine ⟨fun w0 w q hO hX _ => (h1 w0 w q hO).mono ?_, fun w0 w r ro hR _ => (h2 w _ r hR.at).mono ?_⟩
  · rintro e w' ⟨rfl, h⟩
    exact ⟨rfl, (⟨hO.below h, Kept.of_below h, hX.below h⟩ : _ ∧ _ ∧ _)⟩
  · rintro e w' ⟨rfl, h⟩
    exact ⟨rfl, ro, (⟨hR.below h, Kept.of_below h, .inl rfl⟩ : _ ∧ _ ∧ _)⟩
theorem ownX_grow {w0 w w' : World} {q : Nat} {L' : List (List Bool × Int)} (hO : Own w0 w q W most L) {a : Option Nat} {n : Nat} {N : List (Nd Int)} (g1 : TrieAt w' q W most a n N) (g2 : kept N = L') (g3 : Kept (fun k => k = q) w w') (g4 : Off X N) : Own w0 w' q W most L' ∧ Kept (fun k => k = q) w w' ∧ OX X w' q W most L' :=
  ⟨own_grow hO g1 g2 g3, g3, a, n, N, g1, g2, g4⟩
theorem put_bothX (h1 : 1 ≤ W) (h2 : W ≤ 128) (hs : Srt L) (hm : L.length ≤ most) (hmm : most ≤ 4096) (v : Nat) (hv : Is128 v) (l u : Int) : ∃ (c : Int) (L' : List (List Bool × Int)), BothX X W most L L' 24 41 #[Pf v l, .int .i64 u] #[B v, .int .i64 l, .int .i64 u] (.int .i64 c) := by
  by_cases hP : isP W v l = true
  · obtain ⟨p, hp, rfl, rfl⟩ := isP_yes hP
    cases hl : look p L with
    | some x =>
      refine ⟨121, L, bothX_of_below (fun w0 w q hO => ?_) (fun w B r hR => rput_dup hR h1 h2 hp u hl)⟩
      obtain ⟨⟨a, n, N, hT, hk⟩, _⟩ := hO
      exact put_dup hT hp u (by rw [hk, hl]; simp)
    | none =>
      by_cases hc : L.length < most
      · refine ⟨0, upd p u L, fun w0 w q hO hX hXw => ?_, fun w0 w r ro hR hw => ?_⟩
        · obtain ⟨a, n, N, hT, hk, hO1⟩ := hX
          refine (put_okX X hXw hO1 hT hp u (by rw [hk]; exact hl) (by rw [hk]; exact hc)).mono ?_
          rintro e w' ⟨rfl, a', n', N', g1, g2, g3, g4⟩
          exact ⟨rfl, (ownX_grow hO g1 (by rw [g2, hk]) g3 g4 : _ ∧ _ ∧ _)⟩
        · obtain ⟨⟨ba, bc, g1, g2, g3⟩, g4, g5, g6⟩ := id hR
          refine (rput_ok g2 g3 hs g5 h1 h2 hp u hl hc).mono ?_
          rintro e w' ⟨rfl, ba', bc', H⟩
          have hlen := len_upd (p := p) (v := u) hs
          rw [hl] at hlen
          have hlen : (upd p u L).length = L.length + 1 := hlen
          refine ⟨rfl, _, (⟨hR.upd' hw H.out.1 H.out.2.1 (srt_upd hs) (by omega), H.out.2.2.mono fun k _ e => .inl e, .inr fun k e => ?_⟩ : _ ∧ _ ∧ _)⟩
          rcases H.out.2.1.2 with ⟨e1, _⟩ | ⟨b, cap, cur, e1, hb, hg, _⟩
          · rw [e1] at e; simp [Value.ownBlock] at e
          · rw [e1] at e
            simp [Value.ownBlock] at e
            omega
      · refine ⟨120, L, bothX_of_below (fun w0 w q hO => ?_) (fun w B r hR => rput_full hR h1 h2 hp u hl (by omega))⟩
        obtain ⟨⟨a, n, N, hT, hk⟩, _⟩ := hO
        exact put_full hT hp u (by rw [hk]; exact hl) (by rw [hk]; omega)
  · have hP : isP W v l = false := Bool.eq_false_iff.2 hP
    refine ⟨111, L, bothX_of_below (fun w0 w q hO => ?_) (fun w B r hR => rput_bad hR h1 h2 v hv l u hP)⟩
    obtain ⟨⟨a, n, N, hT, hk⟩, _⟩ := hO
    exact put_bad hT v hv l u hP
theorem set_bothX (h1 : 1 ≤ W) (h2 : W ≤ 128) (hs : Srt L) (v : Nat) (hv : Is128 v) (l u : Int) : ∃ (c : Int) (L' : List (List Bool × Int)), BothX X W most L L' 38 42 #[Pf v l, .int .i64 u] #[B v, .int .i64 l, .int .i64 u] (.int .i64 c) := by
  by_cases hP : isP W v l = true
  · obtain ⟨p, hp, rfl, rfl⟩ := isP_yes hP
    cases hl : look p L with
    | none =>
      refine ⟨122, L, bothX_of_below (fun w0 w q hO => ?_) (fun w B r hR => rset_none hR h1 h2 hp u hl)⟩
      obtain ⟨⟨a, n, N, hT, hk⟩, _⟩ := hO
      exact set_absent hT hp u (by rw [hk, hl])
    | some x =>
      refine ⟨0, upd p u L, fun w0 w q hO hX hXw => ?_, fun w0 w r ro hR hw => ?_⟩
      · obtain ⟨a, n, N, hT, hk, hO1⟩ := hX
        refine (set_okX X hXw hO1 hT hp u (by rw [hk, hl]; simp)).mono ?_
        rintro e w' ⟨rfl, a', n', N', g1, g2, g3, g4⟩
        exact ⟨rfl, (ownX_grow hO g1 (by rw [g2, hk]) g3 g4 : _ ∧ _ ∧ _)⟩
      · obtain ⟨⟨ba, bc, g1, g2, g3⟩, g4, g5, g6⟩ := id hR
        refine (rset_some g2 g3 hs g5 h1 h2 hp u hl).mono ?_
        rintro e w' ⟨rfl, H⟩
        have hlen := len_upd (p := p) (v := u) hs
        rw [hl] at hlen
        have hlen : (upd p u L).length = L.length := hlen
        refine ⟨rfl, _, (⟨hR.upd' (Nat.le_refl _) H.out.1 H.out.2.1 (srt_upd hs) (by omega), H.out.2.2.mono fun k _ e => .inr (by rw [g1]; exact e), .inl ?_⟩ : _ ∧ _ ∧ _)⟩
        rw [g1, hlen]
  · have hP : isP W v l = false := Bool.eq_false_iff.2 hP
    refine ⟨111, L, bothX_of_below (fun w0 w q hO => ?_) (fun w B r hR => rset_bad hR h1 h2 v hv l u hP)⟩
    obtain ⟨⟨a, n, N, hT, hk⟩, _⟩ := hO
    exact set_bad hT v hv l u hP
theorem drop_bothX (h1 : 1 ≤ W) (h2 : W ≤ 128) (hs : Srt L) (hm : L.length ≤ 4096) (v : Nat) (hv : Is128 v) (l : Int) : ∃ (o : Option Int) (L' : List (List Bool × Int)), BothX X W most L L' 39 43 #[Pf v l] #[B v, .int .i64 l] (okI o) := by
  by_cases hP : isP W v l = true
  · obtain ⟨p, hp, rfl, rfl⟩ := isP_yes hP
    cases hl : look p L with
    | none =>
      refine ⟨none, L, bothX_of_below (fun w0 w q hO => ?_) (fun w B r hR => ?_)⟩
      · obtain ⟨⟨a, n, N, hT, hk⟩, _⟩ := hO
        refine drop_none _ _ _ w fun w1 hb => ?_
        have := get_yes (hT.below hb) hp
        rw [hk, hl] at this
        exact this
      · refine rdrop_none hR _ _ fun w1 hb => ?_
        have := rget_yes (hR.below hb) h1 h2 hp
        rw [hl] at this
        exact this
    | some x =>
      refine ⟨some x, del p L, fun w0 w q hO hX hXw => ?_, fun w0 w r ro hR hw => ?_⟩
      · obtain ⟨a, n, N, hT, hk, hO1⟩ := hX
        refine (drop_someX X hXw hO1 hT hp x (by rw [hk, hl])).mono ?_
        rintro e w' ⟨rfl, a', n', N', g1, g2, g3, g4⟩
        exact ⟨rfl, (ownX_grow hO g1 (by rw [g2, hk]) g3 g4 : _ ∧ _ ∧ _)⟩
      · obtain ⟨⟨ba, bc, g1, g2, g3⟩, g4, g5, g6⟩ := id hR
        refine (rdrop_some g2 g3 hs g5 h1 h2 hp hl).mono ?_
        rintro e w' ⟨rfl, ba', bc', H⟩
        have hlen := len_del (p := p) hs (by rw [hl]; rfl)
        refine ⟨rfl, _, (⟨hR.upd' hw H.out.1 H.out.2.1 (srt_del hs) (by omega), H.out.2.2.mono fun k _ e => .inl e, .inr fun k e => ?_⟩ : _ ∧ _ ∧ _)⟩
        rcases H.out.2.1.2 with ⟨e1, _⟩ | ⟨b, cap, cur, e1, hb, hg, _⟩
        · rw [e1] at e; simp [Value.ownBlock] at e
        · rw [e1] at e
          simp [Value.ownBlock] at e
          omega
  · have hP : isP W v l = false := Bool.eq_false_iff.2 hP
    refine ⟨none, L, bothX_of_below (fun w0 w q hO => ?_) (fun w B r hR => ?_)⟩
    · obtain ⟨⟨a, n, N, hT, hk⟩, _⟩ := hO
      exact drop_none _ _ _ w fun w1 hb => get_no h1 h2 q v hv l hP w1 ((hT.below hb).hd.cell 0 rfl)
    · exact rdrop_none hR _ _ fun w1 hb => rget_bad (hR.below hb) h1 h2 v hv l hP
theorem get_bothX (h1 : 1 ≤ W) (h2 : W ≤ 128) (v : Nat) (hv : Is128 v) (l : Int) : ∃ o : Option Int, BothX X W most L L 28 44 #[Pf v l] #[B v, .int .i64 l] (okI o) := by
  by_cases hP : isP W v l = true
  · obtain ⟨p, hp, rfl, rfl⟩ := isP_yes hP
    refine ⟨look p L, bothX_of_below (fun w0 w q hO => ?_) (fun w B r hR => rget_yes hR h1 h2 hp)⟩
    obtain ⟨⟨a, n, N, hT, hk⟩, _⟩ := hO
    have := get_yes hT hp
    rw [hk] at this
    exact this
  · have hP : isP W v l = false := Bool.eq_false_iff.2 hP
    refine ⟨none, bothX_of_below (fun w0 w q hO => ?_) (fun w B r hR => rget_bad hR h1 h2 v hv l hP)⟩
    obtain ⟨⟨a, n, N, hT, hk⟩, _⟩ := hO
    exact get_no h1 h2 q v hv l hP w (hT.hd.cell 0 rfl)
end
end Go.Proofs.Ytgdpplipahhffaa
