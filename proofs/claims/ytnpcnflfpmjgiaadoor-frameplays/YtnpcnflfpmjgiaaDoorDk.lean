/- Disks in memory: what is kept beside one, the blocks of one, what a call leaves of it. -/
import Derived.Test.YtnpcnflfpmjgiaaDoorProg
import Derived.Test.YtnpcnflfpmjgiaaDoorMa
import Derived.WalkKit
import Derived.WalkSpells
import Derived.WalkLawsBesides
import Derived.Handy
import Derived.Laws.Pointers
import Derived.Laws.Externs
import Derived.Laws.StructEq
import Derived.Deep.RegionHeld3
import Derived.Deep.QuietTactic
import Derived.Deep.AppendLies
import Derived.BigQuiet
import Derived.RowKit3
import Derived.OwnWalk
import Derived.Below
namespace Go.Proofs.YtnpcnflfpmjgiaaDoor
open Go.RowKit
set_option linter.unusedVariables false
set_option linter.unusedSimpArgs false

/-- Of what was there nothing has turned but the blocks of S. -/
structure Kept (S : Nat → Prop) (w w' : World) : Prop where
  os : w'.os = w.os
  tape : w'.tape = w.tape
  output : w'.output = w.output
  size : w.heap.size ≤ w'.heap.size
  block : ∀ k, k < w.heap.size → ¬ S k → w'.heap[k]? = w.heap[k]?
theorem Kept.refl (S : Nat → Prop) (w : World) : Kept S w w := ⟨rfl, rfl, rfl, Nat.le_refl _, fun _ _ _ => rfl⟩
theorem Kept.trans {S : Nat → Prop} {a b c : World} (h : Kept S a b) (k : Kept S b c) : Kept S a c :=
  ⟨k.os.trans h.os, k.tape.trans h.tape, k.output.trans h.output, Nat.le_trans h.size k.size, fun i hi hs => (k.block i (Nat.lt_of_lt_of_le hi h.size) hs).trans (h.block i hi hs)⟩
theorem Kept.mono {S T : Nat → Prop} {a b : World} (h : Kept S a b) (hs : ∀ k, k < a.heap.size → S k → T k) : Kept T a b :=
  ⟨h.os, h.tape, h.output, h.size, fun i hi ht => h.block i hi (fun e => ht (hs i hi e))⟩
theorem Kept.of_below {S : Nat → Prop} {a b : World} (h : Below a.heap.size a b) : Kept S a b := ⟨h.os, h.tape, h.output, h.size, fun i hi _ => h.block i hi⟩
theorem Kept.below {S : Nat → Prop} {B : Nat} {a b : World} (h : Kept S a b) (hB : B ≤ a.heap.size) (hs : ∀ k, S k → B ≤ k) : Below B a b :=
  ⟨h.os, h.tape, h.output, h.size, fun i hi => h.block i (Nat.lt_of_lt_of_le hi hB) (fun e => by have := hs i e; omega)⟩
theorem Kept.cell {S : Nat → Prop} {a b : World} (h : Kept S a b) {p : Addr} {v : Value} (hc : a.cell? p = some v) (hs : ¬ S p.block) : b.cell? p = some v :=
  (World.cell?_of_block (h.block p.block (World.block_lt_of_cell? a p hc) hs)).trans hc
theorem Kept.frozen {S : Nat → Prop} {a b : World} (h : Kept S a b) {p : Addr} (hl : p.block < a.heap.size) (hs : ¬ S p.block) : b.frozen? p = a.frozen? p :=
  World.frozen?_of_block (h.block p.block hl hs)
theorem Kept.set {S : Nat → Prop} {a w : World} (h : Kept S a w) {p : Addr} (hp : S p.block) (u : Value) : Kept S a (w.setCell p u) :=
  h.trans ⟨rfl, rfl, rfl, by simp [World.setCell], fun k _ hk => Below.heap_setCell _ _ _ _ (fun e => hk (e ▸ hp))⟩
theorem Kept.grown {S : Nat → Prop} {a w w' : World} {row : Option Nat} (h : Kept S a w) (hg : w.grownBy w' row) (hr : ∀ k, row = some k → S k) : Kept S a w' :=
  h.trans ⟨hg.os, hg.tape, hg.output, hg.size, fun k hk hs => hg.block k hk (fun e => hs (hr k e.symm))⟩
theorem Kept.drewN {S : Nat → Prop} {a w : World} (h : Kept S a w) (n : Nat) : Kept S a (w.drewN n) := ⟨h.os, h.tape, h.output, h.size, h.block⟩
theorem Kept.drew {S : Nat → Prop} {a w : World} (h : Kept S a w) : Kept S a w.drew := ⟨h.os, h.tape, h.output, h.size, h.block⟩
theorem Kept.alloc {S : Nat → Prop} {a w : World} (h : Kept S a w) (o : Obj) : Kept S a (w.alloc o) := h.trans (Kept.of_below ((Below.refl _ _).alloc (Nat.le_refl _) _))
theorem bstep {B : Nat} {a b c : World} (h : Below B a b) (k : Below b.heap.size b c) (hB : B ≤ a.heap.size := by omega) : Below B a c := h.trans (k.mono (Nat.le_trans hB h.size))

/-- A block's cells. -/
def Blk (w : World) (b : Nat) (cs : Array Value) (t : TypeId) : Prop := w.heap[b]? = some (.cells cs t (0, 0))
theorem Blk.lt {w : World} {b : Nat} {cs : Array Value} {t : TypeId} (h : Blk w b cs t) : b < w.heap.size := (Array.getElem?_eq_some_iff.1 h).1
theorem Blk.cell {w : World} {b : Nat} {cs : Array Value} {t : TypeId} (h : Blk w b cs t) (i : Nat) {v : Value} (hv : cs[i]? = some v) : w.cell? ⟨b, i, none⟩ = some v := (cell_of_row w b i cs t (0, 0) h).trans hv
theorem Blk.frozen {w : World} {b : Nat} {cs : Array Value} {t : TypeId} (h : Blk w b cs t) (i : Nat) : w.frozen? ⟨b, i, none⟩ = false := frozen_of_row w b i cs t h
theorem Blk.kept {S : Nat → Prop} {w w' : World} {b : Nat} {cs : Array Value} {t : TypeId} (h : Blk w b cs t) (hk : Kept S w w') (hb : ¬ S b) : Blk w' b cs t := (hk.block b h.lt hb).trans h
theorem Blk.below {w w' : World} {b : Nat} {cs : Array Value} {t : TypeId} (h : Blk w b cs t) (hb : Below w.heap.size w w') : Blk w' b cs t := (hb.block b h.lt).trans h
theorem Blk.set {w : World} {b : Nat} {cs : Array Value} {t : TypeId} (h : Blk w b cs t) (i : Nat) (v : Value) : Blk (w.setCell ⟨b, i, none⟩ v) b (cs.setIfInBounds i v) t := heap_setCell_same w b i cs t v h
theorem Blk.new (w : World) (cs : Array Value) (t : TypeId) : Blk (w.alloc (.cells cs t)) w.heap.size cs t := heap_alloc_new w _
theorem ownsRow_kept {S : Nat → Prop} {w w' : World} {B e z : Nat} {v : Value} {n : Nat} {xs : List Value} (h : w.ownsRow B e z v n xs) (hk : Kept S w w') (hs : ∀ k, v.ownBlock = some k → ¬ S k) : w'.ownsRow B e z v n xs := by
  refine ⟨h.1, ?_⟩
  rcases h.2 with hn | ⟨g, cap, cur, rfl, hb, hgg, rest⟩
  · exact .inl hn
  · refine .inr ⟨g, cap, cur, rfl, hb, ?_, rest⟩
    rw [hk.block g (Array.getElem?_eq_some_iff.1 hgg).1 (hs g rfl)]
    exact hgg
theorem ownsRow_slice {w : World} {B e z : Nat} {v : Value} {n : Nat} {xs : List Value} (h : w.ownsRow B e z v n xs) : ∃ ba bc, v = .slice ba n bc := by
  rcases h.2 with ⟨rfl, rfl⟩ | ⟨g, cap, cur, rfl, _⟩
  · exact ⟨_, _, rfl⟩
  · exact ⟨_, _, rfl⟩

def strs (l : List ByteArray) : List Value := l.map Value.string
theorem strs_set (l : List ByteArray) (n : Nat) (s : ByteArray) : (strs l).set n (.string s) = strs (l.set n s) := by simp [strs, List.map_set]
theorem strs_at (l : List ByteArray) (n : Nat) (hn : n < l.length) : (strs l)[n]? = some (.string (l.getD n ByteArray.empty)) := by
  simp [strs, List.getD_eq_getElem?_getD, List.getElem?_eq_getElem hn]
/-- The function that lays a write down, with its boxes. -/
def clo (x : Nat × Nat) : Value := .func (.func 94) #[] #[.pointer (some ⟨x.1, 0, none⟩), .pointer (some ⟨x.2, 0, none⟩)]
/-- The blocks of a disk. -/
def FP (b g h : Nat) (pv : Value) (bx : List (Nat × Nat)) : Nat → Prop := fun k => k = b ∨ k = g ∨ k = h ∨ pv.ownBlock = some k ∨ ∃ x ∈ bx, k = x.1 ∨ k = x.2
/-- A disk's own block. -/
def body (g h cg ch : Nat) (pv : Value) (S : DS) : Array Value :=
  #[.slice (some ⟨g, 0, none⟩) S.safe.length cg, .slice (some ⟨h, 0, none⟩) S.safe.length ch, pv, .bool S.off, .int .i64 S.cut, .int .i64 S.rd, .int .i64 S.wr, .int .i64 S.fl]
structure Dv (B : Nat) (w : World) (b g h cg ch : Nat) (pv : Value) (bx : List (Nat × Nat)) (S : DS) (shown : List ByteArray) : Prop where
  ok : S.Ok
  blk : Blk w b (body g h cg ch pv S) 90
  rowG : w.ownsRow B 9 1 (.slice (some ⟨g, 0, none⟩) S.safe.length cg) S.safe.length (strs S.safe)
  rowH : w.ownsRow B 9 1 (.slice (some ⟨h, 0, none⟩) S.safe.length ch) S.safe.length (strs shown)
  rowP : w.ownsRow B 92 1 pv S.wait.length (bx.map clo)
  hlen : shown.length = S.safe.length
  blen : bx.length = S.wait.length
  box : ∀ (i : Nat) (x : Nat × Nat) (p : Nat × ByteArray), bx[i]? = some x → S.wait[i]? = some p → Blk w x.1 #[.string p.2] 9 ∧ Blk w x.2 #[.int .i64 p.1] 3
  bg : b ≠ g
  bh : b ≠ h
  gh : g ≠ h
  pb : ∀ k, pv.ownBlock = some k → k ≠ b ∧ k ≠ g ∧ k ≠ h
  xb : ∀ x ∈ bx, (B ≤ x.1 ∧ x.1 ≠ b ∧ x.1 ≠ g ∧ x.1 ≠ h ∧ pv.ownBlock ≠ some x.1) ∧ (B ≤ x.2 ∧ x.2 ≠ b ∧ x.2 ≠ g ∧ x.2 ≠ h ∧ pv.ownBlock ≠ some x.2)
  low : B ≤ b
section
variable {B : Nat} {w : World} {b g h cg ch : Nat} {pv : Value} {bx : List (Nat × Nat)} {S : DS} {shown : List ByteArray}
theorem Dv.fp (d : Dv B w b g h cg ch pv bx S shown) : ∀ k, FP b g h pv bx k → B ≤ k ∧ k < w.heap.size := by
  rintro k (rfl | rfl | rfl | hk | ⟨x, hx, hk⟩)
  · exact ⟨d.low, d.blk.lt⟩
  · exact d.rowG.lt _ rfl
  · exact d.rowH.lt _ rfl
  · exact d.rowP.lt k hk
  · obtain ⟨i, hi, hxi⟩ := List.getElem_of_mem hx
    have hiw : i < S.wait.length := by have := d.blen; omega
    have := d.box i x (S.wait[i]) (by rw [List.getElem?_eq_getElem hi, hxi]) (List.getElem?_eq_getElem hiw)
    rcases hk with rfl | rfl
    · exact ⟨(d.xb x hx).1.1, this.1.lt⟩
    · exact ⟨(d.xb x hx).2.1, this.2.lt⟩
theorem Dv.kept {T : Nat → Prop} {w' : World} (d : Dv B w b g h cg ch pv bx S shown) (hk : Kept T w w') (hn : ∀ k, FP b g h pv bx k → ¬ T k) : Dv B w' b g h cg ch pv bx S shown where
  ok := d.ok
  blk := d.blk.kept hk (hn b (.inl rfl))
  rowG := ownsRow_kept d.rowG hk (fun k e => by simp [Value.ownBlock] at e; subst e; exact hn _ (.inr (.inl rfl)))
  rowH := ownsRow_kept d.rowH hk (fun k e => by simp [Value.ownBlock] at e; subst e; exact hn _ (.inr (.inr (.inl rfl))))
  rowP := ownsRow_kept d.rowP hk (fun k e => hn k (.inr (.inr (.inr (.inl e)))))
  hlen := d.hlen
  blen := d.blen
  box := fun i x p hx hp => by
    have hm : x ∈ bx := List.mem_of_getElem? hx
    exact ⟨(d.box i x p hx hp).1.kept hk (hn _ (.inr (.inr (.inr (.inr ⟨x, hm, .inl rfl⟩))))), (d.box i x p hx hp).2.kept hk (hn _ (.inr (.inr (.inr (.inr ⟨x, hm, .inr rfl⟩)))))⟩
  bg := d.bg
  bh := d.bh
  gh := d.gh
  pb := d.pb
  xb := d.xb
  low := d.low
theorem Dv.below {w' : World} (d : Dv B w b g h cg ch pv bx S shown) (hb : Below w.heap.size w w') : Dv B w' b g h cg ch pv bx S shown := d.kept (T := fun _ => False) (Kept.of_below hb) (fun _ _ => id)
/-- A cell of the disk's own block is written: one of the numbers. -/
theorem Dv.upd {w' : World} {S' : DS} (d : Dv B w b g h cg ch pv bx S shown) (hk : Kept (fun k => k = b) w w') (hb : Blk w' b (body g h cg ch pv S') 90) (hok : S'.Ok) (hs : S'.safe = S.safe) (hw : S'.wait = S.wait) : Dv B w' b g h cg ch pv bx S' shown where
  ok := hok
  blk := hb
  rowG := by rw [hs]; exact ownsRow_kept d.rowG hk (fun k e => by simp [Value.ownBlock] at e; subst e; exact d.bg.symm)
  rowH := by rw [hs]; exact ownsRow_kept d.rowH hk (fun k e => by simp [Value.ownBlock] at e; subst e; exact d.bh.symm)
  rowP := by rw [hw]; exact ownsRow_kept d.rowP hk (fun k e => (d.pb k e).1)
  hlen := by rw [hs]; exact d.hlen
  blen := by rw [hw]; exact d.blen
  box := fun i x p hx hp => by
    rw [hw] at hp
    have hm : x ∈ bx := List.mem_of_getElem? hx
    exact ⟨(d.box i x p hx hp).1.kept hk (d.xb x hm).1.2.1, (d.box i x p hx hp).2.kept hk (d.xb x hm).2.2.1⟩
  bg := d.bg
  bh := d.bh
  gh := d.gh
  pb := d.pb
  xb := d.xb
  low := d.low
/-- A sector of the safe bytes is written. -/
theorem Dv.setG (d : Dv B w b g h cg ch pv bx S shown) (n : Nat) (s : ByteArray) (hs : s.size = 512) : Dv B (w.setCell ⟨g, n, none⟩ (.string s)) b g h cg ch pv bx { S with safe := S.safe.set n s } shown := by
  have hk : Kept (fun k => k = g) w (w.setCell ⟨g, n, none⟩ (.string s)) := Kept.set (S := fun k => k = g) (Kept.refl _ _) rfl _
  exact {
    ok := ⟨by simpa using d.ok.one, by simpa using d.ok.most, mem_set d.ok.size hs, by simpa using d.ok.num, d.ok.len, d.ok.cut0, d.ok.cut1, d.ok.idle⟩
    blk := by have := d.blk.kept hk d.bg; simpa [body] using this
    rowG := by have := (d.rowG.stored n (.string s)).1; rw [strs_set] at this; simpa using this
    rowH := by have := ownsRow_kept d.rowH hk (fun k e => by simp [Value.ownBlock] at e; subst e; exact d.gh.symm); simpa using this
    rowP := ownsRow_kept d.rowP hk (fun k e => (d.pb k e).2.1)
    hlen := by simpa using d.hlen
    blen := d.blen
    box := fun i x p hx hp => by
      have hm : x ∈ bx := List.mem_of_getElem? hx
      exact ⟨(d.box i x p hx hp).1.kept hk (d.xb x hm).1.2.2.1, (d.box i x p hx hp).2.kept hk (d.xb x hm).2.2.2.1⟩
    bg := d.bg
    bh := d.bh
    gh := d.gh
    pb := d.pb
    xb := d.xb
    low := d.low }
/-- A sector of what is read is written. -/
theorem Dv.setH (d : Dv B w b g h cg ch pv bx S shown) (n : Nat) (s : ByteArray) : Dv B (w.setCell ⟨h, n, none⟩ (.string s)) b g h cg ch pv bx S (shown.set n s) := by
  have hk : Kept (fun k => k = h) w (w.setCell ⟨h, n, none⟩ (.string s)) := Kept.set (S := fun k => k = h) (Kept.refl _ _) rfl _
  exact {
    ok := d.ok
    blk := d.blk.kept hk d.bh
    rowG := ownsRow_kept d.rowG hk (fun k e => by simp [Value.ownBlock] at e; subst e; exact d.gh)
    rowH := by have := (d.rowH.stored n (.string s)).1; rw [strs_set] at this; simpa using this
    rowP := ownsRow_kept d.rowP hk (fun k e => (d.pb k e).2.2)
    hlen := by simpa using d.hlen
    blen := d.blen
    box := fun i x p hx hp => by
      have hm : x ∈ bx := List.mem_of_getElem? hx
      exact ⟨(d.box i x p hx hp).1.kept hk (d.xb x hm).1.2.2.2.1, (d.box i x p hx hp).2.kept hk (d.xb x hm).2.2.2.2.1⟩
    bg := d.bg
    bh := d.bh
    gh := d.gh
    pb := d.pb
    xb := d.xb
    low := d.low }
end
/-- A disk in memory. -/
def Dk (B : Nat) (w : World) (b : Nat) (fp : Nat → Prop) (S : DS) : Prop := ∃ g h cg ch pv bx, fp = FP b g h pv bx ∧ Dv B w b g h cg ch pv bx S S.shown
theorem Dk.ok {B : Nat} {w : World} {b : Nat} {fp : Nat → Prop} {S : DS} (d : Dk B w b fp S) : S.Ok := by obtain ⟨g, h, cg, ch, pv, bx, rfl, d⟩ := d; exact d.ok
theorem Dk.fp {B : Nat} {w : World} {b : Nat} {fp : Nat → Prop} {S : DS} (d : Dk B w b fp S) : ∀ k, fp k → B ≤ k ∧ k < w.heap.size := by obtain ⟨g, h, cg, ch, pv, bx, rfl, d⟩ := d; exact d.fp
theorem Dk.own {B : Nat} {w : World} {b : Nat} {fp : Nat → Prop} {S : DS} (d : Dk B w b fp S) : fp b := by obtain ⟨g, h, cg, ch, pv, bx, rfl, d⟩ := d; exact .inl rfl
theorem Dk.kept {T : Nat → Prop} {B : Nat} {w w' : World} {b : Nat} {fp : Nat → Prop} {S : DS} (d : Dk B w b fp S) (hk : Kept T w w') (hn : ∀ k, fp k → ¬ T k) : Dk B w' b fp S := by
  obtain ⟨g, h, cg, ch, pv, bx, rfl, d⟩ := d
  exact ⟨g, h, cg, ch, pv, bx, rfl, d.kept hk hn⟩
theorem Dk.below {B : Nat} {w w' : World} {b : Nat} {fp : Nat → Prop} {S : DS} (d : Dk B w b fp S) (hb : Below w.heap.size w w') : Dk B w' b fp S := d.kept (T := fun _ => False) (Kept.of_below hb) (fun _ _ => id)
/-- What a call on a disk leaves. -/
def Left (B b : Nat) (fp : Nat → Prop) (w : World) (S : DS) (w' : World) : Prop := ∃ fp', Dk B w' b fp' S ∧ Kept fp w w' ∧ ∀ k, fp' k → fp k ∨ w.heap.size ≤ k
theorem Left.refl {B b : Nat} {fp : Nat → Prop} {w : World} {S : DS} (d : Dk B w b fp S) : Left B b fp w S w := ⟨fp, d, Kept.refl _ _, fun k h => .inl h⟩
theorem Left.same {B b : Nat} {fp : Nat → Prop} {w w' : World} {S : DS} (d : Dk B w b fp S) (hb : Below w.heap.size w w') : Left B b fp w S w' := ⟨fp, d.below hb, Kept.of_below hb, fun k h => .inl h⟩
theorem Left.trans {B b : Nat} {fp : Nat → Prop} {w w1 w2 : World} {S : DS} (hk : Kept fp w w1) {fp1 : Nat → Prop} (hn : ∀ k, fp1 k → fp k ∨ w.heap.size ≤ k) (h : Left B b fp1 w1 S w2) : Left B b fp w S w2 := by
  obtain ⟨fp2, d2, k2, n2⟩ := h
  refine ⟨fp2, d2, ⟨k2.os.trans hk.os, k2.tape.trans hk.tape, k2.output.trans hk.output, Nat.le_trans hk.size k2.size, fun i hi hs => ?_⟩, fun k h => ?_⟩
  · refine (k2.block i (Nat.lt_of_lt_of_le hi hk.size) (fun e => ?_)).trans (hk.block i hi hs)
    rcases hn i e with q | q
    · exact hs q
    · omega
  · rcases n2 k h with q | q
    · exact hn k q
    · exact .inr (Nat.le_trans hk.size q)
theorem Left.then {B b : Nat} {fp : Nat → Prop} {w w1 w2 : World} {S : DS} (h : Left B b fp w S w1) (hb : Below w1.heap.size w1 w2) : Left B b fp w S w2 := by
  obtain ⟨fp1, d1, k1, n1⟩ := h
  exact ⟨fp1, d1.below hb, k1.trans (Kept.of_below hb), n1⟩
/-- Another disk is as it was. -/
theorem Dk.beside {B b c : Nat} {fp fq : Nat → Prop} {w w' : World} {S S' : DS} (d : Dk B w c fq S) (h : Left B b fp w S' w') (hn : ∀ k, fq k → ¬ fp k) : Dk B w' c fq S := by
  obtain ⟨fp1, d1, k1, n1⟩ := h
  exact d.kept k1 hn
end Go.Proofs.YtnpcnflfpmjgiaaDoor
