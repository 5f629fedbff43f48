/- A range over a function whose iterator keeps things in memory of its own: the iterator's word, and the caller's law. No condition on the program. A region that draws its order and only reads, within a round. Package lex: walk, over a loop's rounds: it tells a text's words. Package lex: Each, and what its iterator tells. The walk of LexEach. -/
import Derived.Test.YtlgfpjaomiomjaaGreatDoorKe
import Derived.RangeFuncNested
import Derived.RangeFuncLeaves
import Derived.Sort.BigQuietIn
import Derived.Test.YtlgfpjaomiomjaaGreatDoorLn
import Derived.Shelf.RegionOpen
import Derived.Sort.CutIn
import Derived.OwnWalkIn
import Derived.TacticsInMore
import Derived.LoopNIn
import Derived.LoopIn
import Derived.Test.YtlgfpjaomiomjaaGreatDoorYi
import Derived.Test.YtlgfpjaomiomjaaGreatDoorYj
import Derived.Test.YtlgfpjaomiomjaaGreatDoorLq
import Derived.Laws.EntriesVeiled
namespace Go.Proofs.YtlgfpjaomiomjaaGreatDoor
open Go.RowKit
set_option linter.unusedVariables false
set_option linter.unusedSimpArgs false

/-- It speaks of what lies below m alone. -/
def Low {β : Type} (m : Nat) (J : β → World → Prop) : Prop := ∀ s A C, Kept (fun k => m ≤ k) A C → J s A → J s C
theorem Low.mono {β : Type} {m m' : Nat} {J : β → World → Prop} (h : Low m J) (hm : m ≤ m') : Low m' J := fun s A C hk hj => h s A C (hk.mono (fun k _ e => Nat.le_trans hm e)) hj
theorem Low.and {β : Type} {m : Nat} {I J : β → World → Prop} (h : Low m I) (h' : Low m J) : Low m (fun s W => I s W ∧ J s W) := fun s A C hk hj => ⟨h s A C hk hj.1, h' s A C hk hj.2⟩
theorem low_blk {β : Type} (m b : Nat) (cs : β → Array Value) (t : TypeId) (hb : b < m) : Low m (fun s W => Blk W b (cs s) t) := fun s A C hk hj => hj.kept hk (by omega)
theorem low_pure {β : Type} (m : Nat) (p : β → Prop) : Low m (fun s (_ : World) => p s) := fun _ _ _ _ h => h
theorem low_kept {β : Type} (m : Nat) (S : Nat → Prop) (w : World) (hm : w.heap.size ≤ m) : Low m (fun (_ : β) W => Kept S w W) := fun _ A C hk hj =>
  ⟨hk.os.trans hj.os, hk.tape.trans hj.tape, hk.output.trans hj.output, Nat.le_trans hj.size hk.size, fun k hk' hs => (hk.block k (Nat.lt_of_lt_of_le hk' hj.size) (by omega)).trans (hj.block k hk' hs)⟩
theorem low_heap {β : Type} (m l : Nat) (o : Obj) (hl : l < m) : Low m (fun (_ : β) (W : World) => W.heap[l]? = some o) := fun _ A C hk hj =>
  (hk.block l (Array.getElem?_eq_some_iff.1 hj).1 (by omega)).trans hj

/-- The iterator's word: it tells xs, one behind the other, as long as it is asked to go on; a round that goes on leaves all as it was but the blocks of S. -/
def Tells {α : Type} (P : Program) (g : Nat) (lb : Array Value) (encs : α → Array Value) (xs : List α) (S : Nat → Prop) (w : World) : Prop :=
  ∀ (n l : Nat) (J Jx : List α → World → Prop) (W : World), Below w.heap.size w W → l < W.heap.size → Low W.heap.size J → Low W.heap.size Jx →
    (∀ pre x W1, pre ++ [x] <+: xs → J pre W1 → YieldAt Fence.wide (n - 1) P l (encs x) W1 fun e W' =>
      (e = .returned (.bool true) ∧ J (pre ++ [x]) W' ∧ Kept S W1 W') ∨ (e = .returned (.bool false) ∧ Jx (pre ++ [x]) W' ∧ Kept (fun k => S k ∨ k = l) W1 W')) →
    J [] W →
    CallsIn Fence.wide n P g (#[.func (.yield l) #[] #[]] ++ lb) W fun e W' => (∃ v, e = .returned v) ∧ (J xs W' ∨ ∃ pre, pre <+: xs ∧ Jx pre W')

/-- How the body of a round may be left. -/
def roundOf {α : Type} (S : Nat → Prop) (I : List α → World → Prop) (Ix : Code → List α → World → Prop) (xs : List α) (W : World) : Exit → Act → World → Prop
  | .normal, _, W' => Kept S W W' ∧ I xs W'
  | .ret, _, W' => Kept S W W' ∧ Ix .ret xs W'
  | .exit id, _, W' => Kept S W W' ∧ Ix (.exit id) xs W'
  | .goto t, _, W' => Kept S W W' ∧ Ix (.goto t) xs W'
  | .panic _, _, _ => False
  | .outgrown, _, _ => False

theorem kept_putObj (S : Nat → Prop) (W : World) (l : Nat) (o : Obj) (hl : S l) : Kept S W (W.putObj l o) :=
  have h := grownBy_putObj' W l o
  ⟨h.os, h.tape, h.output, h.size, fun k hk hs => h.block k hk (fun e => hs (by cases e; exact hl))⟩

/-- The caller's law, over what entering the loop has laid. -/
theorem range_core {α : Type} {ro : Option Nat} {n : Nat} {P : Program} {g : Operand} {ps : Array Tmp} {assign body : Code} {Q : Exit → Act → World → Prop} {a : Act} {w : World}
    {gf : Nat} {lb : Array Value} (hg : a.eval g = .func (.func gf) #[] lb) (eg : ∀ args w, (callFunc gf args).run P w = .ok (.enter gf args) w)
    {l dB : Nat} {mark : List Deferred} {W1 : FuncId → World}
    (he : ∀ fn, (Instr.enterLoop fn a.tmps ps assign body ro).run P w = .ok (l, mark) (W1 fn))
    (hb1 : ∀ fn, Below w.heap.size w (W1 fn)) (hl1 : ∀ fn, (W1 fn).heap[l]? = some (.loop { state := .ready, pending := none, fn, tmps := a.tmps, params := ps, assign, body, defers := dB }))
    (hlw : w.heap.size ≤ l)
    {encs : α → Array Value} {xs : List α} {S : Nat → Prop} (hS : ∀ k, S k → k < w.heap.size) {w0 : World} (hseq : Tells P gf lb encs xs S w0) (hw0 : Below w0.heap.size w0 w) (hps : ∀ x, (encs x).size = ps.size)
    (I : List α → World → Prop) (Ix : Code → List α → World → Prop) (hI : Low w.heap.size I) (hIx : ∀ c, Low w.heap.size (Ix c)) (h0 : I [] w)
    (hround : ∀ (l : Nat) (pre : List α) (x : α) (W : World) (K : Act → World → Prop), w.heap.size ≤ l → l < W.heap.size → w.heap.size ≤ W.heap.size → pre ++ [x] <+: xs → I pre W →
      (∀ a' Wa, Kept (fun _ => False) W Wa → (∀ Wb, Kept (fun k => k = l) Wa Wb → (∃ r, Wb.heap[l]? = some (.loop r)) → body.wpIn ({ Fence.wide with round := some l }) (n - 1 - 1) P (roundOf S I Ix (pre ++ [x]) Wb) a' Wb) → K a' Wa) →
      assign.wpIn ({ Fence.wide with round := some l }) (n - 1 - 1) P (Exit.then K (fun _ _ _ => False)) { tmps := (ps.zip (encs x)).foldl (fun t (p, v) => t.setIfInBounds p v) a.tmps, defers := [] } W)
    (hdone : ∀ (fn : FuncId) (W : World), I xs W → Kept (fun k => S k ∨ k = l) (W1 fn) W → Q .normal { a with defers := mark ++ a.defers } W)
    (hstop : ∀ (fn : FuncId) (c : Code) (pre : List α) (W : World), pre <+: xs → Ix c pre W → Kept (fun k => S k ∨ k = l) (W1 fn) W → c.wpIn { Fence.wide with round := ro } n P Q { a with defers := mark ++ a.defers } W) :
    (Code.rangeFunc g ps assign body).wpIn { Fence.wide with round := ro } n P Q a w := by
  refine wpIn_rangeFunc ?_
  intro fn hfn
  have hls : l < (W1 fn).heap.size := (Array.getElem?_eq_some_iff.1 (hl1 fn)).1
  obtain ⟨rec, hrec⟩ : ∃ rec : LoopState → Option Code → Loop, rec = fun st pe => { state := st, pending := pe, fn, tmps := a.tmps, params := ps, assign, body, defers := dB } := ⟨_, rfl⟩
  have hl1' : (W1 fn).heap[l]? = some (.loop (rec .ready none)) := by rw [hrec]; exact hl1 fn
  have hbw := hb1 fn
  have hnS : ¬ S l := fun e => by have := hS l e; omega
  refine ⟨l, mark, W1 fn, { target := .fn (.func gf) lb, args := #[.func (.yield l) #[] #[]] }, W1 fn, gf, #[.func (.yield l) #[] #[]] ++ lb, W1 fn, he fn, ?_, fun _ _ => trivial, ?_, fun h => by simp [Fence.wide] at h, ?_⟩
  · simp only [resolve, hg]
    simp [go_sem]
  · simp [invoke, go_sem, eg]
  have hIW : I [] (W1 fn) := hI _ _ _ (⟨hbw.os, hbw.tape, hbw.output, hbw.size, fun k hk hs => hbw.block k (by omega)⟩) h0
  have hlow : ∀ s, Low (W1 fn).heap.size (fun (pre : List α) W => I pre W ∧ W.heap[l]? = some (.loop s) ∧ Kept (fun k => S k ∨ k = l) (W1 fn) W) := fun s =>
    (hI.mono hbw.size).and ((low_heap _ l _ hls).and (low_kept _ _ _ (Nat.le_refl _)))
  refine CallsIn.mono (R := fun e W' => (∃ v, e = .returned v) ∧ ((I xs W' ∧ W'.heap[l]? = some (.loop (rec .ready none)) ∧ Kept (fun k => S k ∨ k = l) (W1 fn) W') ∨ ∃ pre, pre <+: xs ∧ ∃ c, Ix c pre W' ∧ W'.heap[l]? = some (.loop (rec .done (some c))) ∧ Kept (fun k => S k ∨ k = l) (W1 fn) W')) ?_ ?_
  · refine hseq (n - 1) l (fun pre W => I pre W ∧ W.heap[l]? = some (.loop (rec .ready none)) ∧ Kept (fun k => S k ∨ k = l) (W1 fn) W)
      (fun pre W => ∃ c, Ix c pre W ∧ W.heap[l]? = some (.loop (rec .done (some c))) ∧ Kept (fun k => S k ∨ k = l) (W1 fn) W)
      (W1 fn) (hw0.trans (hbw.mono hw0.size)) hls (hlow _)
      (fun s A C hk hj => by
        obtain ⟨c, h1, h2, h3⟩ := hj
        exact ⟨c, ((hIx c).mono hbw.size) s A C hk h1, low_heap (β := Unit) _ l _ hls () A C hk h2, low_kept (β := Unit) _ _ _ (Nat.le_refl _) () A C hk h3⟩)
      ?_ ⟨hIW, hl1', Kept.refl _ _⟩
    rintro pre x W hpre ⟨hi, hl, hkW⟩
    have hlt : l < W.heap.size := (Array.getElem?_eq_some_iff.1 hl).1
    have hy := run_yield (P := P) (args := encs x) hl (by rw [hrec]; exact hps x)
    rw [hrec] at hy
    refine ⟨fn, _, assign, body, hy, roundIn_of_wpIn hfn (hround l pre x W _ hlw hlt (Nat.le_trans hbw.size hkW.size) hpre hi ?_)⟩
    clear hy
    intro a' Wa hka hbody
    have hla : Wa.heap[l]? = some (.loop (rec .ready none)) := (hka.block l hlt id).trans hl
    have hlta : l < Wa.heap.size := (Array.getElem?_eq_some_iff.1 hla).1
    refine ⟨_, run_beginRound hla (by rw [hrec]), ?_⟩
    obtain ⟨Wb, hWb⟩ : ∃ Wb, Wa.putObj l (.loop { rec .ready none with state := .busy }) = Wb := ⟨_, rfl⟩
    have hgb := grownBy_putObj' Wa l (.loop { rec .ready none with state := .busy })
    rw [hWb] at hgb
    have hlb : Wb.heap[l]? = some (.loop { rec .ready none with state := .busy }) := by rw [← hWb]; exact World.putObj_heap_same hlta
    rw [hWb]
    refine wpIn_mono (hbody Wb ⟨hgb.os, hgb.tape, hgb.output, hgb.size, fun k hk hs => hgb.block k hk (fun e => hs (by cases e; rfl))⟩ ⟨_, hlb⟩) ?_
    have fin : ∀ (jump : Option Code) (W3 : World), Kept S Wb W3 →
        (Instr.endRound l jump).run P W3 = .ok (.bool jump.isNone) (W3.putObj l (.loop (rec (if jump.isNone then .ready else .done) jump))) ∧
        (W3.putObj l (.loop (rec (if jump.isNone then .ready else .done) jump))).heap[l]? = some (.loop (rec (if jump.isNone then .ready else .done) jump)) ∧
        Kept (fun k => S k ∨ k = l) W (W3.putObj l (.loop (rec (if jump.isNone then .ready else .done) jump))) ∧
        Kept (fun k => w.heap.size ≤ k) W3 (W3.putObj l (.loop (rec (if jump.isNone then .ready else .done) jump))) := fun jump W3 hk3 => by
      have hl3 : W3.heap[l]? = some (.loop { rec .ready none with state := .busy }) := (hk3.block l (Array.getElem?_eq_some_iff.1 hlb).1 hnS).trans hlb
      have hr := run_endRound (P := P) jump hl3
      have hk4 := kept_putObj (fun k => S k ∨ k = l) W3 l (.loop (rec (if jump.isNone then .ready else .done) jump)) (.inr rfl)
      refine ⟨by rw [hrec] at hr ⊢; exact hr, World.putObj_heap_same (Array.getElem?_eq_some_iff.1 hl3).1, ?_, kept_putObj _ W3 l _ hlw⟩
      have s1 : Kept (fun k => S k ∨ k = l) W Wa := hka.mono (fun k _ e => e.elim)
      have s2 : Kept (fun k => S k ∨ k = l) Wa Wb := ⟨hgb.os, hgb.tape, hgb.output, hgb.size, fun k hk hs => hgb.block k hk (fun e => hs (.inr (by cases e; rfl)))⟩
      have s3 : Kept (fun k => S k ∨ k = l) Wb W3 := hk3.mono (fun k _ e => .inl e)
      exact ((s1.trans s2).trans s3).trans hk4
    rintro e a3 W3 hp
    cases e with
    | normal =>
      obtain ⟨hk3, hi3⟩ := hp
      obtain ⟨hr, hl4, hk4, hk5⟩ := fin none W3 hk3
      refine ⟨_, _, hr, .inl ⟨rfl, ⟨hI _ _ _ hk5 hi3, hl4, hkW.trans hk4⟩, ?_⟩⟩
      refine ⟨hk4.os, hk4.tape, hk4.output, hk4.size, fun k hk hs => ?_⟩
      by_cases e : k = l
      · subst e; exact hl4.trans hl.symm
      · exact hk4.block k hk (fun e' => e'.elim hs e)
    | ret =>
      obtain ⟨hk3, hi3⟩ := hp
      obtain ⟨hr, hl4, hk4, hk5⟩ := fin (some .ret) W3 hk3
      exact ⟨_, _, hr, .inr ⟨rfl, ⟨.ret, (hIx _) _ _ _ hk5 hi3, hl4, hkW.trans hk4⟩, hk4⟩⟩
    | exit id =>
      obtain ⟨hk3, hi3⟩ := hp
      obtain ⟨hr, hl4, hk4, hk5⟩ := fin (some (.exit id)) W3 hk3
      exact ⟨_, _, hr, .inr ⟨rfl, ⟨.exit id, (hIx _) _ _ _ hk5 hi3, hl4, hkW.trans hk4⟩, hk4⟩⟩
    | goto t =>
      obtain ⟨hk3, hi3⟩ := hp
      obtain ⟨hr, hl4, hk4, hk5⟩ := fin (some (.goto t)) W3 hk3
      exact ⟨_, _, hr, .inr ⟨rfl, ⟨.goto t, (hIx _) _ _ _ hk5 hi3, hl4, hkW.trans hk4⟩, hk4⟩⟩
    | panic ch => exact hp.elim
    | outgrown => exact hp.elim
  · rintro e W2 ⟨⟨v, rfl⟩, (⟨hi, hl, hk⟩ | ⟨pre, hpre, c, hi, hl, hk⟩)⟩
    · refine ⟨none, _, by have := run_endLoop (P := P) hl (by rw [hrec]; simp); rw [hrec] at this; exact this, hdone fn _ (hI _ _ _ (kept_putObj _ W2 l _ hlw) hi) (hk.trans (kept_putObj _ W2 l _ (.inr rfl)))⟩
    · refine ⟨some c, _, by have := run_endLoop (P := P) hl (by rw [hrec]; simp); rw [hrec] at this; exact this, hstop fn c pre _ hpre ((hIx c) _ _ _ (kept_putObj _ W2 l _ hlw) hi) (hk.trans (kept_putObj _ W2 l _ (.inr rfl)))⟩
/-- An outermost loop. -/
theorem range_outer {α : Type} {n : Nat} {P : Program} {g : Operand} {ps : Array Tmp} {assign body : Code} {Q : Exit → Act → World → Prop} {a : Act} {w : World}
    {gf : Nat} {lb : Array Value} (hg : a.eval g = .func (.func gf) #[] lb) (eg : ∀ args w, (callFunc gf args).run P w = .ok (.enter gf args) w)
    {encs : α → Array Value} {xs : List α} {S : Nat → Prop} (hS : ∀ k, S k → k < w.heap.size) {w0 : World} (hseq : Tells P gf lb encs xs S w0) (hw0 : Below w0.heap.size w0 w) (hps : ∀ x, (encs x).size = ps.size)
    (I : List α → World → Prop) (Ix : Code → List α → World → Prop) (hI : Low w.heap.size I) (hIx : ∀ c, Low w.heap.size (Ix c)) (h0 : I [] w)
    (hround : ∀ (l : Nat) (pre : List α) (x : α) (W : World) (K : Act → World → Prop), w.heap.size ≤ l → l < W.heap.size → w.heap.size ≤ W.heap.size → pre ++ [x] <+: xs → I pre W →
      (∀ a' Wa, Kept (fun _ => False) W Wa → (∀ Wb, Kept (fun k => k = l) Wa Wb → (∃ r, Wb.heap[l]? = some (.loop r)) → body.wpIn (Fence.wide.inRound l) (n - 1 - 1) P (roundOf S I Ix (pre ++ [x]) Wb) a' Wb) → K a' Wa) →
      assign.wpIn (Fence.wide.inRound l) (n - 1 - 1) P (Exit.then K (fun _ _ _ => False)) { tmps := (ps.zip (encs x)).foldl (fun t (p, v) => t.setIfInBounds p v) a.tmps, defers := [] } W)
    (hdone : ∀ (W : World), I xs W → Kept S w W → W.heap[w.heap.size]? = some (.deferred (some [])) → Q .normal { a with defers := { target := .collected w.heap.size, args := #[] } :: a.defers } W)
    (hstop : ∀ (c : Code) (pre : List α) (W : World), pre <+: xs → Ix c pre W → Kept S w W → W.heap[w.heap.size]? = some (.deferred (some [])) → c.wpIn Fence.wide n P Q { a with defers := { target := .collected w.heap.size, args := #[] } :: a.defers } W) :
    (Code.rangeFunc g ps assign body).wpIn Fence.wide n P Q a w := by
  have hb1 : ∀ o1 o2, Below w.heap.size w ((w.alloc o1).alloc o2) := fun o1 o2 => ((Below.refl _ w).alloc (Nat.le_refl _) _).alloc (by simp) _
  have back : ∀ (o : Obj) (W : World), Kept (fun k => S k ∨ k = w.heap.size + 1) ((w.alloc (.deferred (some []))).alloc o) W → Kept S w W ∧ W.heap[w.heap.size]? = some (.deferred (some [])) := fun o W hk => by
    have hb := hb1 (.deferred (some [])) o
    have hd : ((w.alloc (.deferred (some []))).alloc o).heap[w.heap.size]? = some (.deferred (some [])) := (Below.heap_alloc _ _ _ (by simp)).trans (World.alloc_heap_new w _)
    refine ⟨⟨hk.os.trans hb.os, hk.tape.trans hb.tape, hk.output.trans hb.output, Nat.le_trans hb.size hk.size, fun k hk' hs => (hk.block k (Nat.lt_of_lt_of_le hk' hb.size) (fun e => e.elim hs (fun e => by omega))).trans (hb.block k hk')⟩, ?_⟩
    exact (hk.block _ (by simp; omega) (fun e => e.elim (fun e => by have := hS _ e; omega) (fun e => by omega))).trans hd
  exact range_core (ro := none) (W1 := fun fn => (w.alloc (.deferred (some []))).alloc (.loop { state := .ready, pending := none, fn, tmps := a.tmps, params := ps, assign, body, defers := w.heap.size })) (l := w.heap.size + 1) (dB := w.heap.size) hg eg (fun fn => run_enterLoop_outer _ _ _ _ _) (fun fn => hb1 _ _)
    (fun fn => by have := World.alloc_heap_new (w.alloc (.deferred (some []))) (.loop { state := .ready, pending := none, fn, tmps := a.tmps, params := ps, assign, body, defers := w.heap.size }); rwa [World.size_alloc] at this)
    (by omega) hS hseq hw0 hps I Ix hI hIx h0 hround
    (fun fn W hi hk => hdone W hi (back _ W hk).1 (back _ W hk).2) (fun fn c pre W hp hi hk => hstop c pre W hp hi (back _ W hk).1 (back _ W hk).2)
/-- A loop within a round. -/
theorem range_inner {α : Type} {n : Nat} {P : Program} {g : Operand} {ps : Array Tmp} {assign body : Code} {Q : Exit → Act → World → Prop} {a : Act} {w : World}
    {l₀ : Nat} (hl₀ : ∃ r₀, w.heap[l₀]? = some (.loop r₀))
    {gf : Nat} {lb : Array Value} (hg : a.eval g = .func (.func gf) #[] lb) (eg : ∀ args w, (callFunc gf args).run P w = .ok (.enter gf args) w)
    {encs : α → Array Value} {xs : List α} {S : Nat → Prop} (hS : ∀ k, S k → k < w.heap.size) {w0 : World} (hseq : Tells P gf lb encs xs S w0) (hw0 : Below w0.heap.size w0 w) (hps : ∀ x, (encs x).size = ps.size)
    (I : List α → World → Prop) (Ix : Code → List α → World → Prop) (hI : Low w.heap.size I) (hIx : ∀ c, Low w.heap.size (Ix c)) (h0 : I [] w)
    (hround : ∀ (l : Nat) (pre : List α) (x : α) (W : World) (K : Act → World → Prop), w.heap.size ≤ l → l < W.heap.size → w.heap.size ≤ W.heap.size → pre ++ [x] <+: xs → I pre W →
      (∀ a' Wa, Kept (fun _ => False) W Wa → (∀ Wb, Kept (fun k => k = l) Wa Wb → (∃ r, Wb.heap[l]? = some (.loop r)) → body.wpIn (Fence.wide.inRound l) (n - 1 - 1) P (roundOf S I Ix (pre ++ [x]) Wb) a' Wb) → K a' Wa) →
      assign.wpIn (Fence.wide.inRound l) (n - 1 - 1) P (Exit.then K (fun _ _ _ => False)) { tmps := (ps.zip (encs x)).foldl (fun t (p, v) => t.setIfInBounds p v) a.tmps, defers := [] } W)
    (hdone : ∀ (W : World), I xs W → Kept S w W → Q .normal a W)
    (hstop : ∀ (c : Code) (pre : List α) (W : World), pre <+: xs → Ix c pre W → Kept S w W → c.wpIn (Fence.wide.inRound l₀) n P Q a W) :
    (Code.rangeFunc g ps assign body).wpIn (Fence.wide.inRound l₀) n P Q a w := by
  obtain ⟨r₀, hl₀⟩ := hl₀
  have hb1 : ∀ o, Below w.heap.size w (w.alloc o) := fun o => (Below.refl _ w).alloc (Nat.le_refl _) _
  have back : ∀ (o : Obj) (W : World), Kept (fun k => S k ∨ k = w.heap.size) (w.alloc o) W → Kept S w W := fun o W hk => by
    have hb := hb1 o
    exact ⟨hk.os.trans hb.os, hk.tape.trans hb.tape, hk.output.trans hb.output, Nat.le_trans hb.size hk.size, fun k hk' hs => (hk.block k (Nat.lt_of_lt_of_le hk' hb.size) (fun e => e.elim hs (fun e => by omega))).trans (hb.block k hk')⟩
  exact range_core (ro := some l₀) (mark := []) (W1 := fun fn => w.alloc (.loop { state := .ready, pending := none, fn, tmps := a.tmps, params := ps, assign, body, defers := r₀.defers })) (l := w.heap.size) (dB := r₀.defers) hg eg (fun fn => run_enterLoop_inner hl₀ _ _ _ _ _) (fun fn => hb1 _)
    (fun fn => World.alloc_heap_new w _) (Nat.le_refl _) hS hseq hw0 hps I Ix hI hIx h0 hround
    (fun fn W hi hk => hdone W hi (back _ W hk)) (fun fn c pre W hp hi hk => hstop c pre W hp hi (back _ W hk))
end Go.Proofs.YtlgfpjaomiomjaaGreatDoor
namespace Go.Proofs.YtlgfpjaomiomjaaGreatDoor
open Go.RowKit
set_option linter.unusedVariables false

def noDefer (l : List Oper) : Bool := l.all fun o => match o.op with | .defer _ => false | _ => true
theorem upon_round {l n : Nat} {P : Program} {o : Oper} {a : Act} {next : Act → World → Prop} {Q : Exit → Act → World → Prop} {r : Result Next} (h : o.uponIn Fence.wide n P a next Q r) : o.uponIn (Fence.wide.inRound l) n P a next Q r := h
theorem oper_round {l n : Nat} {P : Program} {o : Oper} {a : Act} {w : World} {K : Act → World → Prop} {Q : Exit → Act → World → Prop} (hd : ∀ c, o.op ≠ .defer c) (h : o.wpIn Fence.wide n P a w K Q) : o.wpIn (Fence.wide.inRound l) n P a w K Q := by
  obtain ⟨h1, h2⟩ := h
  refine ⟨h1, ?_⟩
  rw [show (Fence.wide.inRound l).round = some l from rfl, Oper.semAt_some l a.eval o hd]
  rw [show Fence.wide.round = none from rfl, Oper.semAt_none] at h2
  exact upon_round h2
theorem any_round {l n : Nat} {P : Program} {md : Region.Mode} {ops : List Oper} {Q : Exit → Act → World → Prop} (hd : noDefer ops = true) : ∀ (fuel : Nat) (listed : Array Bool) (a : Act) (w : World),
    wpAnyIn Fence.wide n P md ops.toArray Q fuel listed a w → wpAnyIn (Fence.wide.inRound l) n P md ops.toArray Q fuel listed a w
  | 0, _, _, _, h => h
  | fuel + 1, listed, a, w, h => by
    refine ⟨h.1, fun i hi => ?_⟩
    have h2 := h.2 i hi
    unfold wpOpIn at h2 ⊢
    split
    · rename_i ho; rw [ho] at h2; exact any_round hd fuel _ _ _ h2
    · rename_i o ho
      rw [ho] at h2
      have hno : ∀ c, o.op ≠ .defer c := fun c e => by
        have hm : o ∈ ops := by
          have := Array.mem_of_getElem? ho
          simpa using this
        have := List.all_eq_true.1 hd o hm
        rw [e] at this
        cases this
      simp only at h2 ⊢
      split
      · rename_i hw
        rw [if_pos hw] at h2
        exact Oper.wpIn_mono (fun a w h => any_round hd fuel _ a w h) (oper_round hno h2)
      · rename_i hw
        rw [if_neg hw] at h2
        exact ⟨h2.1, any_round hd fuel _ _ _ h2.2⟩
theorem quiet_round {l n : Nat} {P : Program} {id : Nat} {Q : Exit → Act → World → Prop} {a : Act} {w : World} {ops : List Oper} (hm : P.follows .mixedOrders = true) (hB : Region.lexB .any ops.toArray = true) (hd : noDefer ops = true)
    (h : wpQuietIn Fence.wide n P ops.toArray (fun w' => ∃ n, w' = w.drewN n) (fun a' => ∀ w', (∃ n, w' = w.drewN n) → Q .normal a' w') ops a) : (Code.region id ops.toArray true).wpIn (Fence.wide.inRound l) n P Q a w := by
  simp only [Region.lexB, Bool.and_eq_true] at hB
  refine wpIn_region_any hm (any_round hd _ _ _ _ (wpAnyIn_of_quiet (C := fun w' => ∃ n, w' = w.drewN n) (Q := fun a' => ∀ w', (∃ n, w' = w.drewN n) → Q .normal a' w') rfl (fun _ w' hw' h => h w' hw') _ _ _ _ ⟨1, rfl⟩ ?_))
  have := wpAnyQIn_lex (F := Fence.wide) (n := n) (C := fun w' => ∃ n, w' = w.drewN n) (md := .any) hB.1 ops 0 (Array.replicate ops.toArray.size false) a (by simp) (by simpa using hB.2) (by simpa using h)
  simpa using this
end Go.Proofs.YtlgfpjaomiomjaaGreatDoor
namespace Go.Proofs.YtlgfpjaomiomjaaGreatDoor
open Go.RowKit
set_option linter.unusedVariables false
set_option linter.unusedSimpArgs false

/-- The boxes of the walk, and the caller's word. -/
structure MidY (S : Nat → Prop) (J : List Tk → World → Prop) (w wr : World) (q : Nat × Nat) (done : List Tk) : Prop where
  res : Blk wr w.heap.size (fltA (0, 0, 0)) 28
  at' : Blk wr (w.heap.size + 1) (plA q) 26
  kept : Kept S w wr
  inv : J done wr
theorem kept_up {m : Nat} {a b : World} (h : Below a.heap.size a b) : Kept (fun k => m ≤ k) a b := Kept.of_below h
theorem no_depth (n : Nat) : Fence.wide.depth.isSome = true → 1 ≤ n := fun h => absurd h (by simp [Fence.wide])
theorem MidY.below {S : Nat → Prop} {J : List Tk → World → Prop} {w wr wx : World} {q : Nat × Nat} {done : List Tk} (hJ : Low w.heap.size J) (h : MidY S J w wr q done) (hb : Below wr.heap.size wr wx) : MidY S J w wx q done :=
  ⟨h.res.below hb, h.at'.below hb, h.kept.trans (Kept.of_below hb), hJ _ _ _ (kept_up hb) h.inv⟩
theorem MidY.keep {S T : Nat → Prop} {J : List Tk → World → Prop} {w wr wx : World} {q : Nat × Nat} {done : List Tk} (hJ : Low w.heap.size J) (h : MidY S J w wr q done) (hk : Kept T wr wx) (hT : ∀ k, T k → w.heap.size + 2 ≤ k) : MidY S J w wx q done :=
  ⟨h.res.kept hk (fun e => by have := hT _ e; omega), h.at'.kept hk (fun e => by have := hT _ e; omega),
    ⟨hk.os.trans h.kept.os, hk.tape.trans h.kept.tape, hk.output.trans h.kept.output, Nat.le_trans h.kept.size hk.size, fun i hi hs => (hk.block i (Nat.lt_of_lt_of_le hi h.kept.size) (fun e => by have := hT _ e; omega)).trans (h.kept.block i hi hs)⟩,
    hJ _ _ _ (hk.mono (fun k _ e => by have := hT _ e; omega)) h.inv⟩
theorem MidY.size {S : Nat → Prop} {J : List Tk → World → Prop} {w wr : World} {q : Nat × Nat} {done : List Tk} (h : MidY S J w wr q done) : w.heap.size + 2 ≤ wr.heap.size := h.at'.lt
theorem MidY.place {S : Nat → Prop} {J : List Tk → World → Prop} {w wr : World} {q : Nat × Nat} {done : List Tk} (hJ : Low w.heap.size J) (h : MidY S J w wr q done) (x y : Nat) : MidY S J w ((wr.setCell ⟨w.heap.size + 1, 0, none⟩ (.int .i64 (x : Int))).setCell ⟨w.heap.size + 1, 1, none⟩ (.int .i64 (y : Int))) (x, y) done := by
  have hk : Kept (fun k => k = w.heap.size + 1) wr ((wr.setCell ⟨w.heap.size + 1, 0, none⟩ (.int .i64 (x : Int))).setCell ⟨w.heap.size + 1, 1, none⟩ (.int .i64 (y : Int))) := Kept.set (S := fun k => k = w.heap.size + 1) (Kept.set (S := fun k => k = w.heap.size + 1) (Kept.refl _ _) rfl _) rfl _
  refine ⟨h.res.kept hk (by omega), (h.at'.set 0 _).set 1 _, ?_, hJ _ _ _ (hk.mono (fun k _ e => by omega)) h.inv⟩
  exact ⟨hk.os.trans h.kept.os, hk.tape.trans h.kept.tape, hk.output.trans h.kept.output, Nat.le_trans h.kept.size hk.size, fun i hi hs => (hk.block i (Nat.lt_of_lt_of_le hi h.kept.size) (by omega)).trans (h.kept.block i hi hs)⟩
/-- What stands at the head of each round. -/
structure WalkY (S : Nat → Prop) (J : List Tk → World → Prop) (w : World) (T : List Tk × (Nat × Nat × Nat)) (n : Nat) (wr : World) (r : ByteArray) (p : Nat × Nat) (done : List Tk) : Prop where
  eq1 : done ++ (lexF (r.size + 1) p r.data.toList).1 = T.1
  len : r.size ≤ n
  place : p.1 + r.size ≤ n + 1 ∧ p.2 + r.size ≤ n + 1
  mid : MidY S J w wr p done
/-- A fault written into its box. -/
theorem put3 {w : World} {b : Nat} (h : Blk w b (fltA (0, 0, 0)) 28) (x y z : Int) : Blk (((w.setCell ⟨b, 0, none⟩ (.int .i64 x)).setCell ⟨b, 1, none⟩ (.int .i64 y)).setCell ⟨b, 2, none⟩ (.int .i64 z)) b #[.int .i64 x, .int .i64 y, .int .i64 z] 28 := ((h.set 0 _).set 1 _).set 2 _
theorem put3_up (m : Nat) {b : Nat} (hb : m ≤ b) (w : World) (x y z : Value) : Kept (fun k => m ≤ k) w (((w.setCell ⟨b, 0, none⟩ x).setCell ⟨b, 1, none⟩ y).setCell ⟨b, 2, none⟩ z) := (((Kept.refl (fun k => m ≤ k) w).set hb _).set hb _).set hb _
set_option maxHeartbeats 4000000 in
set_option maxRecDepth 100000 in
theorem walk_tells (s : ByteArray) (hs : s.size ≤ 65536) (w : World) (hT : Tabs w) (S : Nat → Prop) (hS : ∀ k, S k → 4 < k ∧ k < w.heap.size) (m l : Nat) (J Jx : List Tk → World → Prop) (hJ : Low w.heap.size J) (hJx : Low w.heap.size Jx)
    (hY : ∀ pre x W1, pre ++ [x] <+: (lexL s.data.toList).1 → J pre W1 → YieldAt Fence.wide (m - 1) Tryz.prog l #[.agg (tkA x)] W1 fun e W' =>
      (e = .returned (.bool true) ∧ J (pre ++ [x]) W' ∧ Kept S W1 W') ∨ (e = .returned (.bool false) ∧ Jx (pre ++ [x]) W' ∧ Kept (fun k => S k ∨ k = l) W1 W')) (h0 : J [] w) (h4 : 4 < w.heap.size) (hlw : l < w.heap.size) :
    CallsIn Fence.wide m Tryz.prog 12 #[.string s, .func (.yield l) #[] #[]] w fun e w' => (∃ v, e = .returned v) ∧ (J (lexL s.data.toList).1 w' ∨ ∃ pre, pre <+: (lexL s.data.toList).1 ∧ Jx pre w') := by
  have hlen : s.data.toList.length = s.size := by simp
  have hTl : lexL s.data.toList = lexF (s.size + 1) (1, 1) s.data.toList := by unfold lexL; rw [hlen]
  have HS : Hid (WalkY S J w (lexL s.data.toList) s.size ((w.alloc (.cells (fltA (0, 0, 0)) 28)).alloc (.cells (plA (1, 1)) 26)) s (1, 1) []) := by
    have hb : Below w.heap.size w ((w.alloc (.cells (fltA (0, 0, 0)) 28)).alloc (.cells (plA (1, 1)) 26)) := ((Below.refl _ _).alloc (Nat.le_refl _) _).alloc (by simp) _
    refine ⟨?_, Nat.le_refl _, ⟨by show 1 + _ ≤ _; omega, by show 1 + _ ≤ _; omega⟩, ⟨?_, ?_, ?_, ?_⟩⟩
    · rw [hTl]; rfl
    · exact (Blk.new w _ _).below ((Below.refl _ _).alloc (Nat.le_refl _) _)
    · simpa using Blk.new (w.alloc (.cells (fltA (0, 0, 0)) 28)) (plA (1, 1)) 26
    · exact Kept.of_below hb
    · exact hJ _ _ _ (kept_up hb) h0
  generalize lexL s.data.toList = TL at *
  have HT : Hid (Tabs w) := hT
  have HJ : Hid (Low w.heap.size J) := hJ
  have HJx : Hid (Low w.heap.size Jx) := hJx
  have HY : Hid (∀ pre x W1, pre ++ [x] <+: TL.1 → J pre W1 → YieldAt Fence.wide (m - 1) Tryz.prog l #[.agg (tkA x)] W1 fun e W' => (e = .returned (.bool true) ∧ J (pre ++ [x]) W' ∧ Kept S W1 W') ∨ (e = .returned (.bool false) ∧ Jx (pre ++ [x]) W' ∧ Kept (fun k => S k ∨ k = l) W1 W')) := hY
  have HSS : Hid (∀ k, S k → 4 < k ∧ k < w.heap.size) := hS
  clear hT hTl hlen hJ hJx hY h0 hS
  refine callsIn_of_wp Tryz.func12 rfl trivial ?_ rfl
  simp only [Tryz.ntmps12, List.size_toArray, List.length_cons, List.length_nil, Nat.reduceAdd, Nat.reduceSub, Array.replicate_succ, Array.replicate_zero, List.push_toArray, List.append_toArray, List.nil_append, List.cons_append]
  gi_wp2
  gi_loopw [0] (fun t wr => ∃ r p done, t = .string r ∧ WalkY S J w TL s.size wr r p done) (fun t _ => szOf t)
  case atStart => exact ⟨s, (1, 1), [], rfl, HS.out⟩
  case round =>
    obtain ⟨r, p, done, rfl, hW⟩ := hrel
    obtain ⟨eq1, hlenr, ⟨hp1, hp2⟩, hM⟩ := hW
    have HEQ1 : Hid (done ++ (lexF (r.size + 1) p r.data.toList).1 = TL.1) := eq1
    have HM : Hid (MidY S J w wr p done) := hM
    have HTr : Hid (∀ wx q dn, MidY S J w wx q dn → Tabs wx) := fun wx q dn h => HT.out.kept h.kept (fun k hk e => by have := HSS.out k e; omega)
    have CG : Hid (CallsIn Fence.wide (m - 1) Tryz.prog 19 #[.string r] wr fun e w' => e = .returned (.int .i64 (gapL false r.data.toList)) ∧ Below wr.heap.size wr w') := callsIn_wide.2 (gap_any r (by unfold maxLen; omega) wr)
    have hgl := gap_le r.data.toList false
    have hrl : r.data.toList.length = r.size := by simp
    rw [hrl] at hgl
    obtain ⟨g, hg⟩ : ∃ g, g = gapL false r.data.toList := ⟨_, rfl⟩
    rw [← hg] at CG hgl
    have HG : Hid (g = gapL false r.data.toList) := hg
    clear eq1 hM hg HS
    gi_wp2_with fail
    refine ⟨trivial, no_depth _, ?_⟩
    refine CG.out.mono ?_
    rintro e w1 ⟨rfl, hb1⟩
    have HM1 : Hid (MidY S J w w1 p done) := HM.out.below HJ.out hb1
    clear HM CG hb1
    have hq := past_le (r.data.toList.take g) p
    have htl : (r.data.toList.take g).length = g := by rw [List.length_take]; omega
    rw [htl] at hq
    obtain ⟨q, hqe⟩ : ∃ q, q = past p (r.data.toList.take g) := ⟨_, rfl⟩
    have CB : Hid (CallsIn Fence.wide (m - 1) Tryz.prog 20 #[Pl p, .string (r.extract 0 g)] w1.drew fun e w'' => e = .returned (Pl q) ∧ w''.cell? ⟨w.heap.size + 1, 0, none⟩ = some (.int .i64 (p.1 : Int)) ∧ w''.cell? ⟨w.heap.size + 1, 1, none⟩ = some (.int .i64 (p.2 : Int)) ∧ w''.frozen? ⟨w.heap.size + 1, 0, none⟩ = false ∧ w''.frozen? ⟨w.heap.size + 1, 1, none⟩ = false ∧ Hid (MidY S J w w'' p done)) := by
      show CallsIn _ _ _ _ _ _ _
      have hbw : Below w1.heap.size w1 w1.drew := (Below.refl _ _).drew
      have := behind_any p (r.extract 0 g) (by omega) (by omega) (by simp; omega) w1.drew
      rw [ext_list, List.drop_zero, ← hqe] at this
      refine (callsIn_wide.2 this).mono ?_
      rintro e w'' ⟨rfl, hb⟩
      have hm := (HM1.out.below HJ.out hbw).below HJ.out hb
      exact ⟨rfl, hm.at'.cell 0 rfl, hm.at'.cell 1 rfl, hm.at'.frozen 0, hm.at'.frozen 1, hm⟩
    rw [← hqe] at hq
    have HQ : Hid (q = past p (r.data.toList.take g)) := hqe
    clear hqe htl
    have a0 := HM1.out.at'.cell 0 (v := .int .i64 (p.1 : Int)) rfl
    have a1 := HM1.out.at'.cell 1 (v := .int .i64 (p.2 : Int)) rfl
    gi_wp2_with fail
    gi_cut [] from 10 (fun wx => Hid (MidY S J w wx q done))
    case first =>
      gi_region_with (refine ⟨trivial, no_depth _, ?_⟩; gi_at_call 20; refine CB.out.mono ?_; rintro e w2 ⟨rfl, d0, d1, f0, f1, HM2⟩)
      all_goals (gi_wp2_with fail; go_meet; exact HM2.out.place HJ.out q.1 q.2)
    case rest =>
      have hlen2 : r.data.toList.length = r.size := by simp
      obtain ⟨R, hRe⟩ : ∃ R, r.extract g r.size = R := ⟨_, rfl⟩
      have hRl : R.data.toList = r.data.toList.drop g := by rw [← hRe, ext_list, List.take_of_length_le (by omega)]
      have hRs : R.size = r.size - g := by rw [← hRe]; simp
      have HRl : Hid (r.data.toList.drop (gapL false r.data.toList) = R.data.toList) := by show _ = _; rw [hRl, ← HG.out]
      have HQ2 : Hid (past p (r.data.toList.take (gapL false r.data.toList)) = q) := by show _ = _; rw [HQ.out, ← HG.out]
      clear hRl a0 a1 HM1 CB HG HQ hlen2
      cases h0 : R.data.toList.isEmpty
      · have q0 : R.toList.isEmpty = false := by rw [ByteArray.toList_eq]; exact h0
        have hne : R.data.toList ≠ [] := List.isEmpty_eq_false_iff.1 h0
        have HNE : Hid (R.data.toList ≠ []) := hne
        have CF : Hid (CallsIn Fence.wide (m - 1) Tryz.prog 21 #[.string R] wc fun e w' => e = .returned (wdV (firstW R.data.toList)) ∧ Below wc.heap.size wc w') := callsIn_wide.2 (first_any R (by omega) wc (HTr.out _ _ _ hcut.out))
        have HTX : Hid ((firstW R.data.toList).e = 0 → 1 ≤ (firstW R.data.toList).text.length ∧ (firstW R.data.toList).text.length ≤ R.size) := fun h => by
          have h1 := firstW_text _ h
          have h2 := firstW_len _ h
          have h3 : R.data.toList.length = R.size := by simp
          omega
        obtain ⟨x, hx⟩ : ∃ x, firstW R.data.toList = x := ⟨_, rfl⟩
        have HX : Hid (firstW R.data.toList = x) := hx
        rw [hx] at CF HTX
        obtain ⟨kd, tx, vl, er⟩ := x
        clear h0 hne hx
        gi_wp2_with fail
        refine ⟨trivial, no_depth _, ?_⟩
        refine CF.out.mono ?_
        rintro e w3 ⟨rfl, hb3⟩
        have HM3 : Hid (MidY S J w (w3.alloc (.cells #[.int .i64 (kd : Int), .string ⟨tx.toArray⟩, .int .u64 (hiOf vl), .int .u64 (loOf vl), .int .i64 0, .int .i64 0] 39)) q done) := (hcut.out.below HJ.out hb3).below HJ.out ((Below.refl _ _).alloc (Nat.le_refl _) _)
        have HW3 : Hid (Blk (w3.alloc (.cells #[.int .i64 (kd : Int), .string ⟨tx.toArray⟩, .int .u64 (hiOf vl), .int .u64 (loOf vl), .int .i64 0, .int .i64 0] 39)) w3.heap.size #[.int .i64 (kd : Int), .string ⟨tx.toArray⟩, .int .u64 (hiOf vl), .int .u64 (loOf vl), .int .i64 0, .int .i64 0] 39) := Blk.new _ _ _
        have hz3 : w.heap.size + 2 ≤ w3.heap.size := Nat.le_trans hcut.out.size hb3.size
        unfold wdV
        clear CF hb3
        by_cases he : er = 0
        · subst he
          obtain ⟨n1, n2⟩ := HTX.out rfl
          have m1 : 1 ≤ tx.length := n1
          have m2 : tx.length ≤ R.size := n2
          clear n1 n2
          obtain ⟨tb, htb⟩ : ∃ tb : ByteArray, tb = ⟨tx.toArray⟩ := ⟨_, rfl⟩
          have htbs : tb.size = tx.length := by rw [htb]; show tx.toArray.size = _; simp
          have HTB : Hid (tb.data.toList = tx) := by show _ = _; rw [htb]
          have HTB2 : Hid (tb = ⟨tx.toArray⟩) := htb
          rw [← htb] at HM3 HW3 ⊢
          clear htb
          gi_wp2_with fail
          refine ⟨trivial, no_depth _, ?_⟩
          refine (callsIn_wide.2 (clone_any tb _ (by omega))).mono ?_
          rintro e w5 ⟨rfl, hb5⟩
          have HM5 : Hid (MidY S J w w5 q done) := HM3.out.below HJ.out hb5
          have HW5 : Hid (Blk w5 w3.heap.size #[.int .i64 (kd : Int), .string tb, .int .u64 (hiOf vl), .int .u64 (loOf vl), .int .i64 0, .int .i64 0] 39) := HW3.out.below hb5
          have hz5 : w3.heap.size < w5.heap.size := HW5.out.lt
          clear HM3 HW3 hb5
          have a0 := HM5.out.at'.cell 0 (v := .int .i64 (q.1 : Int)) rfl
          have a1 := HM5.out.at'.cell 1 (v := .int .i64 (q.2 : Int)) rfl
          have k0 := HW5.out.cell 0 (v := .int .i64 (kd : Int)) rfl
          have k1 := HW5.out.cell 1 (v := .string tb) rfl
          have k2 := HW5.out.cell 2 (v := .int .u64 (hiOf vl)) rfl
          have k3 := HW5.out.cell 3 (v := .int .u64 (loOf vl)) rfl
          have k4 := HW5.out.cell 4 (v := .int .i64 0) rfl
          have k5 := HW5.out.cell 5 (v := .int .i64 0) rfl
          have f1 := HW5.out.frozen 1
          have f4 := HW5.out.frozen 4
          have f5 := HW5.out.frozen 5
          have ne1 : ¬ (w3.heap.size = w.heap.size + 1) := by omega
          have ne2 : ¬ (w.heap.size + 1 = w3.heap.size) := by omega
          have HW6 : Hid (Blk (((w5.setCell ⟨w3.heap.size, 1, none⟩ (.string tb)).setCell ⟨w3.heap.size, 4, none⟩ (.int .i64 (q.1 : Int))).setCell ⟨w3.heap.size, 5, none⟩ (.int .i64 (q.2 : Int))) w3.heap.size #[.int .i64 (kd : Int), .string tb, .int .u64 (hiOf vl), .int .u64 (loOf vl), .int .i64 (q.1 : Int), .int .i64 (q.2 : Int)] 39) := ((HW5.out.set 1 (.string tb)).set 4 (.int .i64 (q.1 : Int))).set 5 (.int .i64 (q.2 : Int))
          have HM6 : Hid (MidY S J w (((w5.setCell ⟨w3.heap.size, 1, none⟩ (.string tb)).setCell ⟨w3.heap.size, 4, none⟩ (.int .i64 (q.1 : Int))).setCell ⟨w3.heap.size, 5, none⟩ (.int .i64 (q.2 : Int))) q done) := by
            refine HM5.out.keep (T := fun k => k = w3.heap.size) HJ.out (Kept.set (S := fun k => k = w3.heap.size) (Kept.set (S := fun k => k = w3.heap.size) (Kept.set (S := fun k => k = w3.heap.size) (Kept.refl _ _) rfl _) rfl _) rfl _) (fun k e => by omega)
          obtain ⟨w6, hw6⟩ : ∃ w6, ((w5.setCell ⟨w3.heap.size, 1, none⟩ (.string tb)).setCell ⟨w3.heap.size, 4, none⟩ (.int .i64 (q.1 : Int))).setCell ⟨w3.heap.size, 5, none⟩ (.int .i64 (q.2 : Int)) = w6 := ⟨_, rfl⟩
          have E0 : Hid (∃ hs2 : (R.extract tx.length (r.size - g)).size = r.size - g - tx.length, (done ++ [⟨kd, tx, vl, q.1, q.2⟩]) ++ (lexF ((R.extract tx.length (r.size - g)).size + 1) (past q tx) (R.extract tx.length (r.size - g)).data.toList).1 = TL.1) := by
            have hs2 : (R.extract tx.length (r.size - g)).size = r.size - g - tx.length := by simp; omega
            have hl2 : (R.extract tx.length (r.size - g)).data.toList = R.data.toList.drop tx.length := by
              have h3 : R.data.toList.length = R.size := by simp
              rw [ext_list, List.take_of_length_le (by omega)]
            have e1 := HEQ1.out
            have hf := lex_word (f := r.size) (p := p) HRl.out HNE.out HX.out rfl HQ2.out
            simp only at hf
            rw [hf] at e1
            simp only at e1
            refine ⟨hs2, ?_⟩
            have h3 : R.data.toList.length = R.size := by simp
            rw [hs2, hl2, lex_fuel (r.size - g - tx.length + 1) r.size _ _ (by rw [List.length_drop]; omega) (by rw [List.length_drop]; omega)]
            rw [← e1, List.append_assoc]; rfl
          have CT : Hid (∃ fn tmps assign body, (Instr.yield l #[.agg #[.int .i64 (kd : Int), .string tb, .int .u64 (hiOf vl), .int .u64 (loOf vl), .int .i64 (q.1 : Int), .int .i64 (q.2 : Int)]]).run Tryz.prog (((w5.setCell ⟨w3.heap.size, 1, none⟩ (.string tb)).setCell ⟨w3.heap.size, 4, none⟩ (.int .i64 (q.1 : Int))).setCell ⟨w3.heap.size, 5, none⟩ (.int .i64 (q.2 : Int))) = .ok (.round l fn tmps assign body) (((w5.setCell ⟨w3.heap.size, 1, none⟩ (.string tb)).setCell ⟨w3.heap.size, 4, none⟩ (.int .i64 (q.1 : Int))).setCell ⟨w3.heap.size, 5, none⟩ (.int .i64 (q.2 : Int))) ∧ Hid (RoundIn Fence.wide (m - 1) Tryz.prog l fn tmps assign body (((w5.setCell ⟨w3.heap.size, 1, none⟩ (.string tb)).setCell ⟨w3.heap.size, 4, none⟩ (.int .i64 (q.1 : Int))).setCell ⟨w3.heap.size, 5, none⟩ (.int .i64 (q.2 : Int))) fun e w' =>
              (e = .returned (.bool true) ∧ Hid (MidY S J w w' q (done ++ [⟨kd, tx, vl, q.1, q.2⟩]) ∧ Blk w' w3.heap.size #[.int .i64 (kd : Int), .string tb, .int .u64 (hiOf vl), .int .u64 (loOf vl), .int .i64 (q.1 : Int), .int .i64 (q.2 : Int)] 39)) ∨ (e = .returned (.bool false) ∧ Hid (Jx (done ++ [⟨kd, tx, vl, q.1, q.2⟩]) w' ∧ Blk w' w.heap.size (fltA (0, 0, 0)) 28)))) := by
            obtain ⟨hs2, hpf⟩ := E0.out
            have hy := HY.out done ⟨kd, tx, vl, q.1, q.2⟩ w6 (by rw [← hpf]; exact List.prefix_append _ _) (by rw [← hw6]; exact HM6.out.inv)
            unfold tkA at hy
            simp only [← HTB2.out] at hy
            obtain ⟨fn, tmps, assign, body, h1, h2⟩ := hy
            rw [hw6]
            refine ⟨fn, tmps, assign, body, h1, h2.mono ?_⟩
            rintro e w' (⟨rfl, hj, hk⟩ | ⟨rfl, hj, hk⟩)
            · left
              rw [hw6] at HM6 HW6
              have hno : ∀ k, w.heap.size ≤ k → ¬ S k := fun k hk' e => by have := HSS.out k e; omega
              refine ⟨rfl, ⟨HM6.out.res.kept hk (hno _ (Nat.le_refl _)), HM6.out.at'.kept hk (hno _ (by omega)), HM6.out.kept.trans hk, hj⟩, HW6.out.kept hk (hno _ (by omega))⟩
            · rw [hw6] at HM6
              exact .inr ⟨rfl, hj, HM6.out.res.kept hk (fun e => by rcases e with e | e; (have := HSS.out _ e; omega); omega)⟩
          obtain ⟨fn, tmps, assign, body, hy, HR⟩ := CT.out
          clear HM6 HW6 CT hw6
          gi_wp2_with fail
          refine ⟨no_depth _, ?_⟩
          refine HR.out.mono ?_
          rintro e w7 (⟨rfl, HM7⟩ | ⟨rfl, HJ7⟩)
          · clear hy HR a0 a1 k0 k1 k2 k3 k4 k5 f1 f4 f5
            have a0 := HM7.out.1.at'.cell 0 (v := .int .i64 (q.1 : Int)) rfl
            have a1 := HM7.out.1.at'.cell 1 (v := .int .i64 (q.2 : Int)) rfl
            have k1 := HM7.out.2.cell 1 (v := .string tb) rfl
            have CB2 : Hid (CallsIn Fence.wide (m - 1) Tryz.prog 20 #[Pl q, .string tb] w7 fun e w'' => e = .returned (Pl (past q tx)) ∧ Below w7.heap.size w7 w'') := by
              have := behind_any q tb (by omega) (by omega) (by omega) w7
              rw [HTB.out] at this
              exact callsIn_wide.2 this
            have hq3 := past_le tx q
            obtain ⟨q2, hq2⟩ : ∃ q2, q2 = past q tx := ⟨_, rfl⟩
            rw [← hq2] at CB2 hq3 E0
            clear hq2
            gi_wp2_with fail
            refine ⟨trivial, no_depth _, ?_⟩
            refine CB2.out.mono ?_
            rintro e w8 ⟨rfl, hb8⟩
            have HM8 : Hid (MidY S J w w8 q (done ++ [⟨kd, tx, vl, q.1, q.2⟩])) := HM7.out.1.below HJ.out hb8
            clear CB2 hb8 a0 a1 k1 HM7
            have a0 := HM8.out.at'.cell 0 (v := .int .i64 (q.1 : Int)) rfl
            have a1 := HM8.out.at'.cell 1 (v := .int .i64 (q.2 : Int)) rfl
            have f0 := HM8.out.at'.frozen 0
            have f1 := HM8.out.at'.frozen 1
            gi_wp2_with fail
            obtain ⟨hs2, E1⟩ := E0.out
            go_roundw
            case rel => exact ⟨_, q2, _, rfl, ⟨E1, by rw [hs2]; omega, ⟨by rw [hs2]; omega, by rw [hs2]; omega⟩, HM8.out.place HJ.out q2.1 q2.2⟩⟩
            case measure => simp only [szOf]; rw [hs2]; omega
          · clear hy HR a0 a1 k0 k1 k2 k3 k4 k5 f1 f4 f5
            obtain ⟨hs2, E1⟩ := E0.out
            have HP : Hid (done ++ [⟨kd, tx, vl, q.1, q.2⟩] <+: TL.1) := by show _ <+: _; rw [← E1]; exact List.prefix_append _ _
            clear E1 hs2
            have r0 := HJ7.out.2.cell 0 (v := .int .i64 0) rfl
            have r1 := HJ7.out.2.cell 1 (v := .int .i64 0) rfl
            have r2 := HJ7.out.2.cell 2 (v := .int .i64 0) rfl
            have g0 := HJ7.out.2.frozen 0
            have g1 := HJ7.out.2.frozen 1
            have g2 := HJ7.out.2.frozen 2
            gi_wp2_with fail
            have c0 := (put3 HJ7.out.2 0 0 0).cell 0 (v := .int .i64 0) rfl
            have c1 := (put3 HJ7.out.2 0 0 0).cell 1 (v := .int .i64 0) rfl
            have c2 := (put3 HJ7.out.2 0 0 0).cell 2 (v := .int .i64 0) rfl
            refine bodyPost_ret (v := .agg (fltA (0, 0, 0))) ?_ rfl ⟨⟨_, rfl⟩, .inr ⟨_, HP.out, HJx.out _ _ _ (put3_up _ (Nat.le_refl _) _ _ _ _) HJ7.out.1⟩⟩
            simp [results, Tryz.results12, go_sem, c0, c1, c2]
        · have he' : ((er : Int) != 0) = true := by simp [he]
          have E : Hid (TL.1 = done) := by
            show _ = _
            have e1 := HEQ1.out
            have hf := lex_fault (f := r.size) (p := p) HRl.out HNE.out (by rw [HX.out]; exact he)
            rw [hf] at e1
            simp only [List.append_nil] at e1
            exact e1.symm
          have a0 := HM3.out.at'.cell 0 (v := .int .i64 (q.1 : Int)) rfl
          have a1 := HM3.out.at'.cell 1 (v := .int .i64 (q.2 : Int)) rfl
          clear he
          have r0 := HM3.out.res.cell 0 (v := .int .i64 0) rfl
          have r1 := HM3.out.res.cell 1 (v := .int .i64 0) rfl
          have r2 := HM3.out.res.cell 2 (v := .int .i64 0) rfl
          have g0 := HM3.out.res.frozen 0
          have g1 := HM3.out.res.frozen 1
          have g2 := HM3.out.res.frozen 2
          gi_wp2_with fail
          have c0 := (put3 HM3.out.res (er : Int) (q.1 : Int) (q.2 : Int)).cell 0 (v := .int .i64 (er : Int)) rfl
          have c1 := (put3 HM3.out.res (er : Int) (q.1 : Int) (q.2 : Int)).cell 1 (v := .int .i64 (q.1 : Int)) rfl
          have c2 := (put3 HM3.out.res (er : Int) (q.1 : Int) (q.2 : Int)).cell 2 (v := .int .i64 (q.2 : Int)) rfl
          refine bodyPost_ret (v := .agg (fltA (er, q.1, q.2))) ?_ rfl ⟨⟨_, rfl⟩, .inl ?_⟩
          · simp [results, Tryz.results12, go_sem, c0, c1, c2]
          · rw [E.out]; exact HJ.out _ _ _ (put3_up _ (Nat.le_refl _) _ _ _ _) HM3.out.inv
      · have q0 : R.toList.isEmpty = true := by rw [ByteArray.toList_eq]; exact h0
        have E : Hid (TL.1 = done) := by
          show _ = _
          have e1 := HEQ1.out
          have hf := lex_end (f := r.size) (p := p) (HRl.out.trans (List.isEmpty_iff.1 h0))
          rw [hf] at e1
          simp only [List.append_nil] at e1
          exact e1.symm
        clear h0
        have r0 := hcut.out.res.cell 0 (v := .int .i64 0) rfl
        have r1 := hcut.out.res.cell 1 (v := .int .i64 0) rfl
        have r2 := hcut.out.res.cell 2 (v := .int .i64 0) rfl
        have g0 := hcut.out.res.frozen 0
        have g1 := hcut.out.res.frozen 1
        have g2 := hcut.out.res.frozen 2
        gi_wp2_with fail
        have c0 := (put3 hcut.out.res 0 0 0).cell 0 (v := .int .i64 0) rfl
        have c1 := (put3 hcut.out.res 0 0 0).cell 1 (v := .int .i64 0) rfl
        have c2 := (put3 hcut.out.res 0 0 0).cell 2 (v := .int .i64 0) rfl
        refine bodyPost_ret (v := .agg (fltA (0, 0, 0))) ?_ rfl ⟨⟨_, rfl⟩, .inl ?_⟩
        · simp [results, Tryz.results12, go_sem, c0, c1, c2]
        · rw [E.out]; exact HJ.out _ _ _ (put3_up _ (Nat.le_refl _) _ _ _ _) hcut.out.inv
end Go.Proofs.YtlgfpjaomiomjaaGreatDoor
namespace Go.Proofs.YtlgfpjaomiomjaaGreatDoor
open Go.RowKit
set_option linter.unusedVariables false
set_option linter.unusedSimpArgs false

theorem yield_any {m m' : Nat} {P : Program} {l : Nat} {args : Array Value} {W : World} {R : Ending → World → Prop} (h : YieldAt Fence.wide m P l args W R) : YieldAt Fence.wide m' P l args W R := by
  obtain ⟨fn, tmps, assign, body, h1, h2⟩ := h
  exact ⟨fn, tmps, assign, body, h1, h2.1, fun c cs _ => h2.2 c cs (room_wide _)⟩
/-- The text that the iterator goes over. -/
def eachT (s : ByteArray) : ByteArray := if 65536 < s.size then ⟨#[]⟩ else s
theorem eachT_le (s : ByteArray) : (eachT s).size ≤ 65536 := by unfold eachT; split; exact Nat.zero_le _; omega
theorem eachT_some (s : ByteArray) : (lexL (eachT s).data.toList).1 = (someR s.data.toList).1 := by
  have hlen : s.data.toList.length = s.size := by simp
  unfold eachT someR
  rw [hlen]
  by_cases h : 65536 < s.size
  · rw [if_pos h, if_pos h]; rfl
  · rw [if_neg h, if_neg h]
set_option maxHeartbeats 1000000 in
theorem each_any (s : ByteArray) (hs : s.size ≤ maxLen) (w : World) :
    Calls Tryz.prog 10 #[.string s] w fun e w' => e = .returned (.func (.func 18) #[] #[.pointer (some ⟨w.heap.size, 0, none⟩)]) ∧ Blk w' w.heap.size #[.string (eachT s)] 9 ∧ Below w.heap.size w w' := by
  unfold maxLen at hs
  have hmf : ∀ (fn : Fn) (first cap : Array Value) (w : World), (Instr.makeFunc fn first cap).run Tryz.prog w = .ok (.func fn first cap) w := fun _ _ _ _ => rfl
  by_cases h0 : 65536 < s.size
  · have q0 : (65536 : Int) < (s.size : Int) := by omega
    have E : Hid (eachT s = ⟨#[]⟩) := by show _ = _; unfold eachT; rw [if_pos h0]
    generalize eachT s = T at *
    have C : Hid (Calls Tryz.prog 17 #[.string ⟨#[]⟩] (w.alloc (.cells #[.string ⟨#[]⟩] 9)) fun e w' => e = .returned (.string ⟨#[]⟩) ∧ w'.cell? ⟨w.heap.size, 0, none⟩ = some (.string ⟨#[]⟩) ∧ w'.frozen? ⟨w.heap.size, 0, none⟩ = false ∧ Hid (Blk w' w.heap.size #[.string ⟨#[]⟩] 9 ∧ Below w.heap.size w w')) := by
      refine (clone_any ⟨#[]⟩ _ (by decide)).mono ?_
      rintro e w' ⟨rfl, hb⟩
      have b2 := (Blk.new w #[.string ⟨#[]⟩] 9).below hb
      refine ⟨rfl, b2.cell 0 rfl, b2.frozen 0, b2, ?_⟩
      have hk : Below w.heap.size w (w.alloc (.cells #[.string ⟨#[]⟩] 9)) := (Below.refl _ _).alloc (Nat.le_refl _) _
      exact hk.trans (hb.mono hk.size)
    clear h0
    go_enter Tryz.func10, Tryz.ntmps10
    go_wp2_with fail
    refine C.out.mono ?_
    rintro e w1 ⟨rfl, c0, f0, H⟩
    go_wp2
    go_ret
    refine ⟨rfl, ?_, H.out.2.setCell (Nat.le_refl _) _⟩
    rw [E.out]
    exact H.out.1.set 0 _
  · have q0 : decide ((65536 : Int) < (s.size : Int)) = false := by simp; omega
    have E : Hid (eachT s = s) := by show _ = _; unfold eachT; rw [if_neg h0]
    generalize eachT s = T at *
    have C : Hid (Calls Tryz.prog 17 #[.string s] (w.alloc (.cells #[.string s] 9)) fun e w' => e = .returned (.string s) ∧ w'.cell? ⟨w.heap.size, 0, none⟩ = some (.string s) ∧ w'.frozen? ⟨w.heap.size, 0, none⟩ = false ∧ Hid (Blk w' w.heap.size #[.string s] 9 ∧ Below w.heap.size w w')) := by
      refine (clone_any s _ (by omega)).mono ?_
      rintro e w' ⟨rfl, hb⟩
      have b2 := (Blk.new w #[.string s] 9).below hb
      refine ⟨rfl, b2.cell 0 rfl, b2.frozen 0, b2, ?_⟩
      have hk : Below w.heap.size w (w.alloc (.cells #[.string s] 9)) := (Below.refl _ _).alloc (Nat.le_refl _) _
      exact hk.trans (hb.mono hk.size)
    clear h0
    go_enter Tryz.func10, Tryz.ntmps10
    go_wp2_with fail
    refine C.out.mono ?_
    rintro e w1 ⟨rfl, c0, f0, H⟩
    go_wp2
    go_ret
    refine ⟨rfl, ?_, H.out.2.setCell (Nat.le_refl _) _⟩
    rw [E.out]
    exact H.out.1.set 0 _
set_option maxHeartbeats 1000000 in
/-- Each's iterator tells the words that the document's Some has. -/
theorem each_tells (s : ByteArray) (w : World) (hT : Tabs w) (h4 : 4 < w.heap.size) (bx : Nat) (hbx : Blk w bx #[.string (eachT s)] 9) (S : Nat → Prop) (hS : ∀ k, S k → 4 < k ∧ k < w.heap.size) :
    Tells Tryz.prog 18 #[.pointer (some ⟨bx, 0, none⟩)] (fun t : Tk => #[Value.agg (tkA t)]) (someR s.data.toList).1 S w := by
  intro n l J Jx W hW hl hJ hJx hY h0
  have hbW := hbx.below hW
  have hz := hW.size
  rw [← eachT_some] at hY ⊢
  have C : Hid (CallsIn Fence.wide (n - 1) Tryz.prog 12 #[.string (eachT s), .func (.yield l) #[] #[]] W fun e w' => (∃ v, e = .returned v) ∧ (J (lexL (eachT s).data.toList).1 w' ∨ ∃ pre, pre <+: (lexL (eachT s).data.toList).1 ∧ Jx pre w')) := by
    refine walk_tells (eachT s) (eachT_le s) W (hT.below hW) S (fun k hk => by have := hS k hk; omega) (n - 1) l J Jx hJ hJx ?_ h0 (by omega) hl
    intro pre x W1 hp hj
    exact yield_any (hY pre x W1 hp hj)
  have c0 := hbW.cell 0 (v := .string (eachT s)) rfl
  generalize (lexL (eachT s).data.toList).1 = T at *
  generalize eachT s = u at *
  clear hY hbW hbx h0
  refine callsIn_of_wp Tryz.func18 rfl trivial ?_ rfl
  simp only [Tryz.ntmps18, List.size_toArray, List.length_cons, List.length_nil, Nat.reduceAdd, Nat.reduceSub, Array.replicate_succ, Array.replicate_zero, List.push_toArray, List.append_toArray, List.nil_append, List.cons_append]
  gi_wp2_with fail
  refine ⟨trivial, no_depth _, ?_⟩
  refine C.out.mono ?_
  rintro e w1 ⟨⟨v, rfl⟩, H⟩
  have HH : Hid (J T w1 ∨ ∃ pre, pre <+: T ∧ Jx pre w1) := H
  clear H
  gi_wp2_with fail
  go_end0
  exact ⟨⟨_, rfl⟩, HH.out⟩
end Go.Proofs.YtlgfpjaomiomjaaGreatDoor
namespace Go.Proofs.YtlgfpjaomiomjaaGreatDoor
open Go.RowKit
set_option linter.unusedVariables false
set_option linter.unusedSimpArgs false
attribute [local go_sem] Oper.semAt_some

/-- What stands when the loops begin: stop, the answer, the words that are wanted, the iterator and its text, the count. -/
structure Ready (w : World) (stop : Int) (ws : List Tk) (T : ByteArray) (sb rb wb ab bx nb : Nat) (ad : Option Addr) (cap : Nat) (W : World) : Prop where
  stop : Blk W sb #[.int .i64 stop] 3
  res : Blk W rb #[.bool false] 4
  want : Blk W wb #[.slice ad ws.length cap] 23
  all : Blk W ab #[.func (.func 18) #[] #[.pointer (some ⟨bx, 0, none⟩)]] 44
  text : Blk W bx #[.string T] 9
  num : Blk W nb #[.int .i64 0] 3
  words : Tok6 W ad ws
  tabs : Tabs W
  four : 4 < w.heap.size
  below : Below w.heap.size w W
  ge : w.heap.size ≤ sb ∧ w.heap.size ≤ rb ∧ w.heap.size ≤ nb
  apart : rb ≠ sb ∧ rb ≠ wb ∧ rb ≠ ab ∧ rb ≠ bx ∧ nb ≠ sb ∧ nb ≠ wb ∧ nb ≠ ab ∧ nb ≠ bx ∧ rb ≠ nb
  adr : ∀ k, ad.map (·.block) = some k → k ≠ rb ∧ k ≠ nb ∧ k < W.heap.size
/-- What does not change: stop, the words that are wanted, the iterator and its text, the tables. -/
structure Cst (w : World) (stop : Int) (ws : List Tk) (T : ByteArray) (wb ab : Nat) (ad : Option Addr) (cap : Nat) (W : World) : Prop where
  stop : Blk W w.heap.size #[.int .i64 stop] 3
  want : Blk W wb #[.slice ad ws.length cap] 23
  all : Blk W ab #[.func (.func 18) #[] #[.pointer (some ⟨wb + 1 + 1 + 1, 0, none⟩)]] 44
  text : Blk W (wb + 1 + 1 + 1) #[.string T] 9
  words : Tok6 W ad ws
  tabs : Tabs W
theorem Ready.cst {w : World} {stop : Int} {ws : List Tk} {T : ByteArray} {wb ab : Nat} {ad : Option Addr} {cap : Nat} {W0 V : World} (h : Ready w stop ws T w.heap.size (w.heap.size + 1) wb ab (wb + 1 + 1 + 1) (ab + 1) ad cap W0) (hk : Kept (fun k => k = w.heap.size + 1 ∨ k = ab + 1 ∨ W0.heap.size ≤ k) W0 V) : Cst w stop ws T wb ab ad cap V := by
  have a1 := h.apart
  have g1 := h.ge
  have i1 := h.stop.lt
  have i4 := h.want.lt
  have i5 := h.all.lt
  have i6 := h.text.lt
  have i7 := h.four
  have i8 := h.below.size
  refine ⟨h.stop.kept hk (by omega), h.want.kept hk (by omega), h.all.kept hk (by omega), h.text.kept hk (by omega), fun i t hi => ?_, h.tabs.kept hk (fun k hk e => by omega)⟩
  obtain ⟨g, hg, h6⟩ := h.words i t hi
  have := h.adr g (by rw [hg]; rfl)
  exact ⟨g, hg, h6.kept hk (by omega)⟩
theorem some_count (l : List UInt8) : (someR l).1.length ≤ 65536 := by
  unfold someR
  split
  · simp
  · have := lex_count (l.length + 1) (1, 1) l
    show (lexF (l.length + 1) (1, 1) l).1.length ≤ _
    omega
theorem func_nil (cap : Array Value) (W : World) : (binOp .eql 44 (.func (.func 18) #[] cap) .nilFunc).run Tryz.prog W = .ok (.bool false) W := by kernel_rfl
set_option maxHeartbeats 4000000 in
set_option maxRecDepth 100000 in
theorem lexEach_any (s : ByteArray) (stop : Int) (hs : s.size ≤ maxLen) (w : World) (hT : Tabs w) (h4 : 4 < w.heap.size) :
    Calls Tryz.prog 4 #[.string s, .int .i64 stop] w fun e w' => e = .returned (.bool true) ∧ Below w.heap.size w w' := by
  suffices h : ∀ m, CallsIn Fence.wide m Tryz.prog 4 #[.string s, .int .i64 stop] w fun e w' => e = .returned (.bool true) ∧ Below w.heap.size w w' from callsIn_wide.1 (h 0)
  intro m
  have C9 : Hid (∀ w, CallsIn Fence.wide (m - 1) Tryz.prog 9 #[.string s] w fun e w' => ∃ sv p, e = .returned (.tuple #[sv, .agg (fltA (someR s.data.toList).2), Pl p]) ∧ w'.ownsRow w.heap.size 47 6 sv (someR s.data.toList).1.length (tcells (someR s.data.toList).1) ∧ Below w.heap.size w w') := fun w => callsIn_wide.2 (rsome_all s hs w)
  have C10 : Hid (∀ w, CallsIn Fence.wide (m - 1) Tryz.prog 10 #[.string s] w fun e w' => e = .returned (.func (.func 18) #[] #[.pointer (some ⟨w.heap.size, 0, none⟩)]) ∧ Blk w' w.heap.size #[.string (eachT s)] 9 ∧ Below w.heap.size w w') := fun w => callsIn_wide.2 (each_any s hs w)
  have HET : Hid (∀ (w : World) (hT : Tabs w) (h4 : 4 < w.heap.size) (bx : Nat) (hbx : Blk w bx #[.string (eachT s)] 9) (S : Nat → Prop) (hS : ∀ k, S k → 4 < k ∧ k < w.heap.size), Tells Tryz.prog 18 #[.pointer (some ⟨bx, 0, none⟩)] (fun t : Tk => #[Value.agg (tkA t)]) (someR s.data.toList).1 S w) := fun w hT h4 bx hbx S hS => each_tells s w hT h4 bx hbx S hS
  have CL : Hid (∀ w, Tabs w → CallsIn Fence.wide (m - 1) Tryz.prog 5 #[] w fun e w' => e = .returned (.bool true) ∧ Below w.heap.size w w') := fun w h => callsIn_wide.2 (live_any w h)
  have HCN : Hid ((someR s.data.toList).1.length ≤ 65536) := some_count _
  have HT : Hid (Tabs w) := hT
  generalize someR s.data.toList = SR at *
  obtain ⟨ws, fl⟩ := SR
  generalize eachT s = T at *
  have hcnt : ws.length ≤ 65536 := HCN.out
  clear hT hs HCN
  refine callsIn_of_wp_marks Tryz.func4 rfl trivial ?_ rfl
  simp only [Tryz.ntmps4, List.size_toArray, List.length_cons, List.length_nil, Nat.reduceAdd, Nat.reduceSub, Array.replicate_succ, Array.replicate_zero, List.push_toArray, List.append_toArray, List.nil_append, List.cons_append]
  gi_wp2_with fail
  have hba : Below w.heap.size w ((w.alloc (.cells #[.int .i64 stop] 3)).alloc (.cells #[.bool false] 4)) := ((Below.refl _ _).alloc (Nat.le_refl _) _).alloc (by simp) _
  refine ⟨trivial, no_depth _, ?_⟩
  refine (CL.out _ (HT.out.below hba)).mono ?_
  rintro e w1 ⟨rfl, hb1⟩
  have S1 : Hid (Blk w1 w.heap.size #[.int .i64 stop] 3 ∧ Blk w1 (w.heap.size + 1) #[.bool false] 4 ∧ Below w.heap.size w w1 ∧ Tabs w1) := by
    refine ⟨((Blk.new w _ _).below ((Below.refl _ _).alloc (Nat.le_refl _) _)).below hb1, ?_, hba.trans (hb1.mono hba.size), (HT.out.below hba).below hb1⟩
    have := (Blk.new (w.alloc (.cells #[.int .i64 stop] 3)) #[.bool false] 4).below hb1
    simpa using this
  clear hb1 CL hba
  gi_wp2_with fail
  refine ⟨trivial, no_depth _, ?_⟩
  refine (C9.out _).mono ?_
  rintro e w2 ⟨sv, pp, rfl, hr2, hb2⟩
  obtain ⟨ad, cap, rfl, hw6⟩ := rtok6_of_row hr2
  have hadr : ∀ k, ad.map (·.block) = some k → w1.heap.size ≤ k ∧ k < w2.heap.size := fun k e => by
    cases ad with
    | none => cases e
    | some a => exact hr2.lt k (by simpa [Value.ownBlock] using e)
  have S2 : Hid (Blk w2 w.heap.size #[.int .i64 stop] 3 ∧ Blk w2 (w.heap.size + 1) #[.bool false] 4 ∧ Below w.heap.size w w2 ∧ Tabs w2 ∧ Tok6 w2 ad ws ∧ (∀ k, ad.map (·.block) = some k → w.heap.size + 2 ≤ k ∧ k < w2.heap.size)) := by
    have hz := S1.out.2.1.lt
    exact ⟨S1.out.1.below hb2, S1.out.2.1.below hb2, bst S1.out.2.2.1 hb2 (Nat.le_refl _), S1.out.2.2.2.below hb2, hw6, fun k e => by have := hadr k e; omega⟩
  clear hb2 S1 hr2 hw6 hadr C9
  gi_wp2_with fail
  refine ⟨trivial, no_depth _, ?_⟩
  refine (C10.out _).mono ?_
  rintro e w3 ⟨rfl, hbx, hb3⟩
  have hz3 : w2.heap.size + 1 + 1 + 1 ≤ w3.heap.size := by have := hb3.size; simpa using this
  have S3 : Hid (Ready w stop ws T w.heap.size (w.heap.size + 1) w2.heap.size w3.heap.size (w2.heap.size + 1 + 1 + 1) (w3.heap.size + 1) ad cap ((w3.alloc (.cells #[.func (.func 18) #[] #[.pointer (some ⟨w2.heap.size + 1 + 1 + 1, 0, none⟩)]] 44)).alloc (.cells #[.int .i64 0] 3))) := by
    obtain ⟨s1, s2, s3, s4, s5, s6⟩ := S2.out
    have ba : Below w2.heap.size w2 ((((w2.alloc (.cells #[.slice ad ws.length cap] 23)).alloc (.cells #[.int .i64 (fl.1 : Int), .int .i64 (fl.2.1 : Int), .int .i64 (fl.2.2 : Int)] 28)).alloc (.cells #[.int .i64 (pp.1 : Int), .int .i64 (pp.2 : Int)] 26))) := (((Below.refl _ _).alloc (Nat.le_refl _) _).alloc (by simp) _).alloc (by simp; omega) _
    have bb : Below w3.heap.size w3 ((w3.alloc (.cells #[.func (.func 18) #[] #[.pointer (some ⟨w2.heap.size + 1 + 1 + 1, 0, none⟩)]] 44)).alloc (.cells #[.int .i64 0] 3)) := ((Below.refl _ _).alloc (Nat.le_refl _) _).alloc (by simp) _
    have b23 : Below w2.heap.size w2 w3 := ba.trans (hb3.mono ba.size)
    have bw : Blk ((((w2.alloc (.cells #[.slice ad ws.length cap] 23)).alloc (.cells #[.int .i64 (fl.1 : Int), .int .i64 (fl.2.1 : Int), .int .i64 (fl.2.2 : Int)] 28)).alloc (.cells #[.int .i64 (pp.1 : Int), .int .i64 (pp.2 : Int)] 26))) w2.heap.size #[.slice ad ws.length cap] 23 := ((Blk.new w2 _ _).below ((Below.refl _ _).alloc (Nat.le_refl _) _)).below ((Below.refl _ _).alloc (Nat.le_refl _) _)
    have l1 := s1.lt
    have l2 := s2.lt
    have hbx' : Blk w3 (w2.heap.size + 1 + 1 + 1) #[.string T] 9 := by simpa using hbx
    refine ⟨(s1.below b23).below bb, (s2.below b23).below bb, (bw.below hb3).below bb, ?_, hbx'.below bb, ?_, (s5.below b23).below bb, (s4.below b23).below bb, h4, bst (bst s3 b23 (Nat.le_refl _)) bb (Nat.le_refl _), by omega, by omega, fun k e => ?_⟩
    · exact (Blk.new w3 _ _).below ((Below.refl _ _).alloc (Nat.le_refl _) _)
    · simpa using Blk.new (w3.alloc (.cells #[.func (.func 18) #[] #[.pointer (some ⟨w2.heap.size + 1 + 1 + 1, 0, none⟩)]] 44)) #[.int .i64 0] 3
    · have := s6 k e
      have := b23.size
      refine ⟨by omega, by omega, by simp; omega⟩
  clear hb3 hbx S2 C10
  have hfn := func_nil
  gi_wp2_with fail
  generalize hwb : w2.heap.size = wb at *
  generalize hab : w3.heap.size = ab at *
  obtain ⟨W0, hW0⟩ : ∃ W0, (w3.alloc (.cells #[.func (.func 18) #[] #[.pointer (some ⟨wb + 1 + 1 + 1, 0, none⟩)]] 44)).alloc (.cells #[.int .i64 0] 3) = W0 := ⟨_, rfl⟩
  rw [hW0] at S3 ⊢
  clear hW0 hwb hab
  have hS0 : ∀ k, (k = w.heap.size + 1 ∨ k = ab + 1) → 4 < k ∧ k < W0.heap.size := fun k e => by
    have l1 := S3.out.res.lt
    have l2 := S3.out.num.lt
    have := S3.out.ge
    rcases e with e | e <;> omega
  have hap : w.heap.size + 1 ≠ ab + 1 := by have := S3.out.apart; omega
  have hap2 : ab + 1 ≠ w.heap.size := by have := S3.out.apart; omega
  refine range_outer (gf := 18) (lb := #[.pointer (some ⟨wb + 1 + 1 + 1, 0, none⟩)]) (encs := fun t : Tk => #[Value.agg (tkA t)]) (xs := ws) (S := (fun k => k = w.heap.size + 1 ∨ k = ab + 1)) rfl (enters_of Tryz.func18 (by kernel_rfl) rfl)
    (fun k e => (hS0 k e).2) (HET.out W0 S3.out.tabs (by have := S3.out.below.size; omega) _ S3.out.text _ hS0) (Below.refl _ _) (fun _ => rfl)
    (fun pre W => (Blk W (ab + 1) #[.int .i64 ((pre.length : Nat) : Int)] 3 ∧ Blk W (w.heap.size + 1) #[.bool false] 4) ∧ Kept (fun k => k = w.heap.size + 1 ∨ k = ab + 1) W0 W)
    (fun c pre W => (c = .exit 0 ∧ ((pre.length : Nat) : Int) = stop) ∧ (Blk W (ab + 1) #[.int .i64 ((pre.length : Nat) : Int)] 3 ∧ Blk W (w.heap.size + 1) #[.bool false] 4) ∧ Kept (fun k => k = w.heap.size + 1 ∨ k = ab + 1) W0 W)
    (((low_blk _ _ _ _ (hS0 _ (.inr rfl)).2).and (low_blk _ _ (fun _ => _) _ (hS0 _ (.inl rfl)).2)).and (low_kept _ _ _ (Nat.le_refl _)))
    (fun c => (low_pure _ _).and (((low_blk _ _ _ _ (hS0 _ (.inr rfl)).2).and (low_blk _ _ (fun _ => _) _ (hS0 _ (.inl rfl)).2)).and (low_kept _ _ _ (Nat.le_refl _))))
    ⟨⟨S3.out.num, S3.out.res⟩, Kept.refl _ _⟩ ?round ?done ?stop
  case round =>
    rintro l pre x W K hl hlt hz hpre ⟨⟨bN, bR⟩, hK⟩ hKK
    gi_wp2_with fail
    refine hKK _ _ ((Kept.refl _ _).alloc _) ?_
    intro Wb hkb hrec
    have hll : pre.length < ws.length := by have := hpre.length_le; rw [List.length_append] at this; simp at this; omega
    have hx : ws[pre.length]? = some x := by
      obtain ⟨r, hr⟩ := hpre
      rw [← hr, List.getElem?_append_left (by simp), List.getElem?_append_right (Nat.le_refl _)]; simp
    have hk1 : Kept (fun k => k = l) W Wb := ((Kept.refl (fun k => k = l) W).alloc _).trans hkb
    have hk3 : Kept (fun k => k = w.heap.size + 1 ∨ k = ab + 1 ∨ W0.heap.size ≤ k) W0 Wb := (hK.mono (fun k _ e => e.elim .inl (fun e => .inr (.inl e)))).trans (hk1.mono (fun k _ e => .inr (.inr (by omega))))
    have hk4 : Kept (fun k => (k = w.heap.size + 1 ∨ k = ab + 1) ∨ k = l) W0 Wb := (hK.mono (fun k _ e => .inl e)).trans (hk1.mono (fun k _ e => .inr e))
    have hcs := S3.out.cst hk3
    have hlS := hS0 _ (.inl rfl)
    have hlN := hS0 _ (.inr rfl)
    have bN1 : Blk Wb (ab + 1) #[.int .i64 ((pre.length : Nat) : Int)] 3 := bN.kept hk1 (by omega)
    have bR1 : Blk Wb (w.heap.size + 1) #[.bool false] 4 := bR.kept hk1 (by omega)
    have bX1 : Blk Wb W.heap.size (tkA x) 39 := (Blk.new W (tkA x) 39).kept hkb (by omega)
    obtain ⟨g, hg, h6⟩ := hcs.words pre.length x hx
    subst hg
    have CS : Hid (CallsIn Fence.wide (m - 1 - 1 - 1) Tryz.prog 11 #[.agg (tkA x), .agg (tkA x)] Wb.drew fun e w' => e = .returned (.bool true) ∧ Below Wb.heap.size Wb w') := callsIn_wide.2 ((same_any x Wb.drew).mono (fun e w' h => ⟨h.1, ((Below.refl _ _).drew).trans h.2⟩))
    have n0 := bN1.cell 0 (v := .int .i64 (pre.length : Int)) rfl
    have n1 := hcs.want.cell 0 (v := .slice (some ⟨g, 0, none⟩) ws.length cap) rfl
    have t0 := bX1.cell 0 (v := .int .i64 (x.kind : Int)) rfl
    have t1 := bX1.cell 1 (v := .string ⟨x.text.toArray⟩) rfl
    have t2 := bX1.cell 2 (v := .int .u64 (hiOf x.val)) rfl
    have t3 := bX1.cell 3 (v := .int .u64 (loOf x.val)) rfl
    have t4 := bX1.cell 4 (v := .int .i64 (x.line : Int)) rfl
    have t5 := bX1.cell 5 (v := .int .i64 (x.col : Int)) rfl
    have d0 := h6.c0
    have d1 := h6.c1
    have d2 := h6.c2
    have d3 := h6.c3
    have d4 := h6.c4
    have d5 := h6.c5
    have hmix : Tryz.prog.follows .mixedOrders = true := by kernel_rfl
    obtain ⟨n, hn⟩ : ∃ n, n = pre.length := ⟨_, rfl⟩
    have hlt' : (n : Int) < (ws.length : Int) := by omega
    have hgeq : decide ((ws.length : Int) ≤ (n : Int)) = false := by simp; omega
    have HN : Hid (n = pre.length) := hn
    have RD : Hid (Cst w stop ws T wb ab (some ⟨g, 0, none⟩) cap Wb ∧ Blk Wb (ab + 1) #[.int .i64 (n : Int)] 3 ∧ Blk Wb (w.heap.size + 1) #[.bool false] 4 ∧ Kept (fun k => k = w.heap.size + 1 ∨ k = ab + 1 ∨ W0.heap.size ≤ k) W0 Wb ∧ Kept (fun k => (k = w.heap.size + 1 ∨ k = ab + 1) ∨ k = l) W0 Wb ∧ (∃ r, Wb.heap[l]? = some (.loop r))) := by
      rw [hn]; exact ⟨hcs, bN1, bR1, hk3, hk4, hrec⟩
    rw [← hn] at n0 d0 d1 d2 d3 d4 d5 hll
    clear hKK h6 hx hpre bN bR hK hkb hrec hn hk1 hk3 hk4 hcs bN1 bR1 bX1
    gi_wp2_with fail
    gi_cut [12] from 31 (fun t wx => t = .bool true ∧ Hid (Below Wb.heap.size Wb wx))
    case first =>
      gi_region_with_o (refine ⟨trivial, no_depth _, ?_⟩; gi_at_call 11; refine (CallsIn.inRound l CS.out).mono ?_; rintro e w2 ⟨rfl, hb2⟩)
      all_goals (gi_wp2_with fail; go_meet; exact ⟨rfl, hb2⟩)
    case rest =>
      obtain ⟨rfl, HB⟩ := hcut
      have RC : Hid (Cst w stop ws T wb ab (some ⟨g, 0, none⟩) cap wc ∧ Blk wc (ab + 1) #[.int .i64 (n : Int)] 3 ∧ Blk wc (w.heap.size + 1) #[.bool false] 4) :=
        ⟨S3.out.cst (RD.out.2.2.2.1.trans (Kept.of_below HB.out)), RD.out.2.1.below HB.out, RD.out.2.2.1.below HB.out⟩
      clear n0 n1 t0 t1 t2 t3 t4 t5 d0 d1 d2 d3 d4 d5 CS
      have n0 := RC.out.2.1.cell 0 (v := .int .i64 (n : Int)) rfl
      have f0 := RC.out.2.1.frozen 0
      have s0 := RC.out.1.stop.cell 0 (v := .int .i64 stop) rfl
      have nz : ¬ (w.heap.size = ab + 1) := fun e => hap2 e.symm
      have HLEN : Hid (((pre ++ [x]).length : Nat) = n + 1) := by show _ = _; rw [List.length_append, HN.out]; rfl
      have KS : Hid (∀ v, Kept (fun k => k = w.heap.size + 1 ∨ k = ab + 1) Wb (wc.setCell ⟨ab + 1, 0, none⟩ v)) := fun v => Kept.set (S := (fun k => k = w.heap.size + 1 ∨ k = ab + 1)) (Kept.of_below HB.out) (.inr rfl) v
      have FIN : Hid (∀ V, Kept (fun k => k = w.heap.size + 1 ∨ k = ab + 1) Wb V → Blk V (ab + 1) #[.int .i64 ((n + 1 : Nat) : Int)] 3 → Blk V (w.heap.size + 1) #[.bool false] 4 → (Blk V (ab + 1) #[.int .i64 ((pre ++ [x]).length : Int)] 3 ∧ Blk V (w.heap.size + 1) #[.bool false] 4) ∧ Kept (fun k => k = w.heap.size + 1 ∨ k = ab + 1) W0 V) := fun V k1 k2 k3 => by
        rw [HLEN.out]
        refine ⟨⟨k2, k3⟩, ?_⟩
        have h1 := RD.out.2.2.2.2.1
        exact ⟨k1.os.trans h1.os, k1.tape.trans h1.tape, k1.output.trans h1.output, Nat.le_trans h1.size k1.size, fun k hk hs => (k1.block k (Nat.lt_of_lt_of_le hk h1.size) hs).trans (h1.block k hk (fun e => e.elim hs (fun e => by omega)))⟩
      have SET : Hid (∀ v, Blk (wc.setCell ⟨ab + 1, 0, none⟩ v) (ab + 1) #[v] 3 ∧ Blk (wc.setCell ⟨ab + 1, 0, none⟩ v) (w.heap.size + 1) #[.bool false] 4) := fun v =>
        ⟨RC.out.2.1.set 0 _, RC.out.2.2.kept (Kept.set (S := fun k => k = ab + 1) (Kept.refl _ _) rfl _) hap⟩
      by_cases hst : ((n + 1 : Nat) : Int) = stop
      · have hst' : (n : Int) + 1 = stop := by omega
        have HST : Hid (((n + 1 : Nat) : Int) = stop) := hst
        clear hst
        gi_wp2_with fail
        refine ⟨KS.out _, ⟨rfl, ?_⟩, FIN.out _ (KS.out _) ?_ (SET.out _).2⟩
        · rw [HLEN.out]; exact HST.out
        · rw [HST.out]; exact (SET.out _).1
      · have hst' : ¬ ((n : Int) + 1 = stop) := by omega
        have hst2 : (((n : Int) + 1) == stop) = false := by simpa using hst'
        clear hst
        have SET1 : Hid (Blk (wc.setCell ⟨ab + 1, 0, none⟩ (.int .i64 ((n : Int) + 1))) (ab + 1) #[.int .i64 ((n + 1 : Nat) : Int)] 3) := (SET.out (.int .i64 ((n : Int) + 1))).1
        by_cases h2 : n = 1
        · have h2' : (((n : Int) + 1) == 2) = true := by simp; omega
          have CV : Hid (Cst w stop ws T wb ab (some ⟨g, 0, none⟩) cap (wc.setCell ⟨ab + 1, 0, none⟩ (.int .i64 ((n : Int) + 1)))) := S3.out.cst ((RD.out.2.2.2.1.trans (Kept.of_below HB.out)).set (.inr (.inl rfl)) _)
          have a0 := CV.out.all.cell 0 (v := .func (.func 18) #[] #[.pointer (some ⟨wb + 1 + 1 + 1, 0, none⟩)]) rfl
          have hab : ab < wc.heap.size := RC.out.1.all.lt
          clear h2
          gi_wp2_with fail
          have RV : Hid (Blk ((wc.setCell ⟨ab + 1, 0, none⟩ (.int .i64 ((n : Int) + 1))).alloc (.cells #[.int .i64 0] 3)) wc.heap.size #[.int .i64 0] 3 ∧ Blk ((wc.setCell ⟨ab + 1, 0, none⟩ (.int .i64 ((n : Int) + 1))).alloc (.cells #[.int .i64 0] 3)) (ab + 1) #[.int .i64 ((n + 1 : Nat) : Int)] 3 ∧ Blk ((wc.setCell ⟨ab + 1, 0, none⟩ (.int .i64 ((n : Int) + 1))).alloc (.cells #[.int .i64 0] 3)) (w.heap.size + 1) #[.bool false] 4
              ∧ Kept (fun k => k = w.heap.size + 1 ∨ k = ab + 1) Wb ((wc.setCell ⟨ab + 1, 0, none⟩ (.int .i64 ((n : Int) + 1))).alloc (.cells #[.int .i64 0] 3)) ∧ Kept (fun k => k = w.heap.size + 1 ∨ k = ab + 1 ∨ W0.heap.size ≤ k) W0 ((wc.setCell ⟨ab + 1, 0, none⟩ (.int .i64 ((n : Int) + 1))).alloc (.cells #[.int .i64 0] 3)) ∧ W0.heap.size ≤ wc.heap.size ∧ Wb.heap.size ≤ wc.heap.size ∧ (∃ r, ((wc.setCell ⟨ab + 1, 0, none⟩ (.int .i64 ((n : Int) + 1))).alloc (.cells #[.int .i64 0] 3)).heap[l]? = some (.loop r))) := by
            have hb := (Below.refl _ (wc.setCell ⟨ab + 1, 0, none⟩ (.int .i64 ((n : Int) + 1)))).alloc (Nat.le_refl _) (.cells #[.int .i64 0] 3)
            obtain ⟨r, hr⟩ := RD.out.2.2.2.2.2
            have hkw := ((KS.out (.int .i64 ((n : Int) + 1))).alloc (.cells #[.int .i64 0] 3))
            refine ⟨by simpa using Blk.new (wc.setCell ⟨ab + 1, 0, none⟩ (.int .i64 ((n : Int) + 1))) #[.int .i64 0] 3, SET1.out.below hb, (SET.out _).2.below hb, hkw, ?_, ?_, HB.out.size, ⟨r, (hkw.block l (Array.getElem?_eq_some_iff.1 hr).1 (by omega)).trans hr⟩⟩
            · exact RD.out.2.2.2.1.trans (hkw.mono (fun k _ e => e.elim .inl (fun e => .inr (.inl e))))
            · exact Nat.le_trans RD.out.2.2.2.1.size HB.out.size
          obtain ⟨V, hV⟩ : ∃ V, (wc.setCell ⟨ab + 1, 0, none⟩ (.int .i64 ((n : Int) + 1))).alloc (.cells #[.int .i64 0] 3) = V := ⟨_, rfl⟩
          rw [hV] at RV ⊢
          clear hV a0 n0 f0 s0 SET SET1 CV KS RC HB
          obtain ⟨kb, hkb⟩ : ∃ kb, wc.heap.size = kb := ⟨_, rfl⟩
          rw [hkb] at RV hab ⊢
          clear hkb
          have hv1 := RV.out.1.lt
          have hv3 := RV.out.2.2.1.lt
          have hv4 := RV.out.2.2.2.2.2.1
          have hv5 := RV.out.2.2.2.2.2.2.1
          have hS2 : ∀ k, (k = w.heap.size + 1 ∨ k = kb) → 4 < k ∧ k < V.heap.size := fun k e => by
            rcases e with e | e
            · have := hS0 k (.inl e); omega
            · have := hS0 _ (.inl rfl); omega
          have hne : w.heap.size + 1 ≠ kb := by have := hS0 _ (.inl rfl); omega
          have hvz : W0.heap.size ≤ V.heap.size := RV.out.2.2.2.2.1.size
          refine range_inner (l₀ := l) RV.out.2.2.2.2.2.2.2 (gf := 18) (lb := #[.pointer (some ⟨wb + 1 + 1 + 1, 0, none⟩)]) (encs := fun t : Tk => #[Value.agg (tkA t)]) (xs := ws) (S := fun k => k = w.heap.size + 1 ∨ k = kb) rfl (enters_of Tryz.func18 (by kernel_rfl) rfl)
            (fun k e => (hS2 k e).2) (HET.out V (S3.out.cst RV.out.2.2.2.2.1).tabs (by have := hS2 _ (.inl rfl); omega) _ (S3.out.cst RV.out.2.2.2.2.1).text _ hS2) (Below.refl _ _) (fun _ => rfl)
            (fun pre W => (Blk W kb #[.int .i64 ((pre.length : Nat) : Int)] 3 ∧ Blk W (w.heap.size + 1) #[.bool false] 4) ∧ Kept (fun k => k = w.heap.size + 1 ∨ k = kb) V W)
            (fun _ _ _ => False)
            (((low_blk _ _ _ _ (hS2 _ (.inr rfl)).2).and (low_blk _ _ (fun _ => _) _ (hS2 _ (.inl rfl)).2)).and (low_kept _ _ _ (Nat.le_refl _)))
            (fun c => low_pure _ _)
            ⟨⟨RV.out.1, RV.out.2.2.1⟩, Kept.refl _ _⟩ ?round2 ?done2 ?stop2
          case round2 =>
            rintro l2 pre2 x2 W2 K2 hl2 hlt2 hz2 hpre2 ⟨⟨bK, bR2⟩, hK2⟩ hKK2
            gi_wp2_with fail
            refine hKK2 _ _ ((Kept.refl _ _).alloc _) ?_
            intro Wd hkd hrec2
            have hll2 : pre2.length < ws.length := by have := hpre2.length_le; rw [List.length_append] at this; simp at this; omega
            have hx2 : ws[pre2.length]? = some x2 := by
              obtain ⟨r, hr⟩ := hpre2
              rw [← hr, List.getElem?_append_left (by simp), List.getElem?_append_right (Nat.le_refl _)]; simp
            have hk1 : Kept (fun k => k = l2) W2 Wd := ((Kept.refl (fun k => k = l2) W2).alloc _).trans hkd
            have hk3 : Kept (fun k => k = w.heap.size + 1 ∨ k = ab + 1 ∨ W0.heap.size ≤ k) W0 Wd := (RV.out.2.2.2.2.1.trans (hK2.mono (fun k _ e => e.elim .inl (fun e => .inr (.inr (by omega)))))).trans (hk1.mono (fun k _ e => .inr (.inr (by omega))))
            have hcs := S3.out.cst hk3
            have bK1 : Blk Wd kb #[.int .i64 ((pre2.length : Nat) : Int)] 3 := bK.kept hk1 (by omega)
            have bR1 : Blk Wd (w.heap.size + 1) #[.bool false] 4 := bR2.kept hk1 (by have := (hS2 _ (.inl rfl)).2; omega)
            have bX1 : Blk Wd W2.heap.size (tkA x2) 39 := (Blk.new W2 (tkA x2) 39).kept hkd (by omega)
            obtain ⟨g2, hg2, h6⟩ := hcs.words pre2.length x2 hx2
            simp only [Option.some.injEq, Addr.mk.injEq, and_true, true_and] at hg2
            subst hg2
            have k0 := bK1.cell 0 (v := .int .i64 (pre2.length : Int)) rfl
            have kf := bK1.frozen 0
            have n1 := hcs.want.cell 0 (v := .slice (some ⟨g, 0, none⟩) ws.length cap) rfl
            have t1 := bX1.cell 1 (v := .string ⟨x2.text.toArray⟩) rfl
            have t4 := bX1.cell 4 (v := .int .i64 (x2.line : Int)) rfl
            have t5 := bX1.cell 5 (v := .int .i64 (x2.col : Int)) rfl
            have d1 := h6.c1
            have d4 := h6.c4
            have d5 := h6.c5
            obtain ⟨n2, hn2⟩ : ∃ n2, n2 = pre2.length := ⟨_, rfl⟩
            have HF : Hid (∀ V', Kept (fun k => k = w.heap.size + 1 ∨ k = kb) Wd V' → Blk V' kb #[.int .i64 ((n2 + 1 : Nat) : Int)] 3 → Blk V' (w.heap.size + 1) #[.bool false] 4 → Kept (fun k => k = w.heap.size + 1 ∨ k = kb) Wd V' ∧ (Blk V' kb #[.int .i64 ((pre2 ++ [x2]).length : Int)] 3 ∧ Blk V' (w.heap.size + 1) #[.bool false] 4) ∧ Kept (fun k => k = w.heap.size + 1 ∨ k = kb) V V') := fun V' k1 k2 k3 => by
              have e : ((pre2 ++ [x2]).length : Nat) = n2 + 1 := by rw [List.length_append, hn2]; rfl
              rw [e]
              refine ⟨k1, ⟨k2, k3⟩, ?_⟩
              have h1 : Kept (fun k => (k = w.heap.size + 1 ∨ k = kb) ∨ k = l2) V Wd := (hK2.mono (fun k _ e => .inl e)).trans (hk1.mono (fun k _ e => .inr e))
              exact ⟨k1.os.trans h1.os, k1.tape.trans h1.tape, k1.output.trans h1.output, Nat.le_trans h1.size k1.size, fun k hk hs => (k1.block k (Nat.lt_of_lt_of_le hk h1.size) hs).trans (h1.block k hk (fun e => e.elim hs (fun e => by omega)))⟩
            have BB : Hid (Blk Wd kb #[.int .i64 (n2 : Int)] 3 ∧ Blk Wd (w.heap.size + 1) #[.bool false] 4) := by rw [hn2]; exact ⟨bK1, bR1⟩
            rw [← hn2] at k0 d1 d4 d5 hll2
            have hlt3 : (n2 : Int) < (ws.length : Int) := by omega
            have hgeq2 : decide ((ws.length : Int) ≤ (n2 : Int)) = false := by simp; omega
            have hgeq3 : decide (ws.length ≤ n2) = false := by simp; omega
            have hwr : ((n2 + 1 : Nat) : Int) = (n2 : Int) + 1 := by omega
            have HWR : Hid (((n2 + 1 : Nat) : Int) = (n2 : Int) + 1) := hwr
            clear hKK2 h6 hx2 hpre2 bK bR2 hK2 hkd hrec2 hn2 hk1 hk3 hcs bK1 bR1 bX1 hwr
            gi_wp2_with fail
            refine quiet_round hmix (by kernel_rfl) (by kernel_rfl) ?_
            repeat (gi_big_quiet_step (fail))
            refine wpQuietIn_nil ?_
            intro _ hw'
            obtain ⟨nq, hw''⟩ := hw'
            subst hw''
            gi_wp2_with fail
            refine HF.out _ (((Kept.refl _ Wd).drewN nq).set (.inr rfl) _) ?_ ?_
            · rw [HWR.out]
              exact Blk.set (w := Wd.drewN nq) BB.out.1 0 _
            · exact BB.out.2.kept (S := fun k => k = kb) (Kept.set (S := fun k => k = kb) (p := ⟨kb, 0, none⟩) ((Kept.refl _ Wd).drewN nq) rfl _) hne
          case done2 =>
            rintro W' ⟨⟨bK, bR2⟩, hK'⟩ hks
            have hcs := S3.out.cst (RV.out.2.2.2.2.1.trans (hks.mono (fun k _ e => e.elim .inl (fun e => .inr (.inr (by omega))))))
            have k0 := bK.cell 0 (v := .int .i64 (ws.length : Int)) rfl
            have n1 := hcs.want.cell 0 (v := .slice (some ⟨g, 0, none⟩) ws.length cap) rfl
            have hw1 := (hS0 _ (.inr rfl)).2
            have E1 : Hid (Kept (fun k => k = w.heap.size + 1 ∨ k = ab + 1) Wb W' ∧ Blk W' (ab + 1) #[.int .i64 ((n + 1 : Nat) : Int)] 3 ∧ Blk W' (w.heap.size + 1) #[.bool false] 4) := by
              have h1 := RV.out.2.2.2.1
              refine ⟨⟨hks.os.trans h1.os, hks.tape.trans h1.tape, hks.output.trans h1.output, Nat.le_trans h1.size hks.size, fun k hk hs => (hks.block k (Nat.lt_of_lt_of_le hk h1.size) (fun e => e.elim (fun e => hs (.inl e)) (fun e => by omega))).trans (h1.block k hk hs)⟩, RV.out.2.1.kept hks (by omega), bR2⟩
            clear hK' hks bK bR2 hcs
            gi_wp2_with fail
            exact ⟨E1.out.1, FIN.out _ E1.out.1 E1.out.2.1 E1.out.2.2⟩
          case stop2 =>
            rintro c pre2 W' _ hf
            exact hf.elim
        · have h2' : (((n : Int) + 1) == 2) = false := by simp; omega
          gi_wp2_with fail
          exact ⟨KS.out _, FIN.out _ (KS.out _) SET1.out (SET.out _).2⟩
  case done =>
    rintro W ⟨⟨bN, bR⟩, _⟩ hks hD
    obtain ⟨nv, hnv⟩ : ∃ nv : Int, ((ws.length : Nat) : Int) = nv := ⟨_, rfl⟩
    have HNV : Hid (nv = (ws.length : Int) ∨ nv = stop) := .inl hnv.symm
    rw [hnv] at bN
    clear hnv
    have hcs := S3.out.cst (hks.mono (fun k _ e => e.elim .inl (fun e => .inr (.inl e))))
    have a0 := hcs.all.cell 0 (v := .func (.func 18) #[] #[.pointer (some ⟨wb + 1 + 1 + 1, 0, none⟩)]) rfl
    have hab : ab < W.heap.size := hcs.all.lt
    have hWz : W0.heap.size < W.heap.size := (Array.getElem?_eq_some_iff.1 hD).1
    have RT : Hid (Blk (W.alloc (.cells #[.int .i64 0] 3)) W.heap.size #[.int .i64 0] 3 ∧ Blk (W.alloc (.cells #[.int .i64 0] 3)) (ab + 1) #[.int .i64 nv] 3 ∧ Blk (W.alloc (.cells #[.int .i64 0] 3)) (w.heap.size + 1) #[.bool false] 4 ∧ Kept (fun k => k = w.heap.size + 1 ∨ k = ab + 1 ∨ W0.heap.size ≤ k) W0 (W.alloc (.cells #[.int .i64 0] 3)) ∧ (W.alloc (.cells #[.int .i64 0] 3)).heap[W0.heap.size]? = some (.deferred (some []))) := by
      have hb := (Below.refl _ W).alloc (Nat.le_refl _) (.cells #[.int .i64 0] 3)
      exact ⟨Blk.new _ _ _, bN.below hb, bR.below hb, (hks.mono (fun k _ e => e.elim .inl (fun e => .inr (.inl e)))).alloc _, (hb.block _ (Array.getElem?_eq_some_iff.1 hD).1).trans hD⟩
    clear bN bR hks hD hcs
    gi_wp2_with fail
    obtain ⟨V, hV⟩ : ∃ V, W.alloc (.cells #[.int .i64 0] 3) = V := ⟨_, rfl⟩
    rw [hV] at RT ⊢
    clear hV a0
    obtain ⟨kb, hkb⟩ : ∃ kb, W.heap.size = kb := ⟨_, rfl⟩
    rw [hkb] at RT hab hWz ⊢
    clear hkb
    have hv1 := RT.out.1.lt
    have hv5 := (Array.getElem?_eq_some_iff.1 RT.out.2.2.2.2).1
    have hS2 : ∀ k, (k = w.heap.size + 1 ∨ k = kb) → 4 < k ∧ k < V.heap.size := fun k e => by
      rcases e with e | e
      · have := hS0 k (.inl e); omega
      · have := hS0 _ (.inl rfl); omega
    have hne : w.heap.size + 1 ≠ kb := by have := hS0 _ (.inl rfl); omega
    refine range_outer (gf := 18) (lb := #[.pointer (some ⟨wb + 1 + 1 + 1, 0, none⟩)]) (encs := fun t : Tk => #[Value.agg (tkA t)]) (xs := ws) (S := fun k => k = w.heap.size + 1 ∨ k = kb) rfl (enters_of Tryz.func18 (by kernel_rfl) rfl)
      (fun k e => (hS2 k e).2) (HET.out V (S3.out.cst RT.out.2.2.2.1).tabs (by have := hS2 _ (.inl rfl); omega) _ (S3.out.cst RT.out.2.2.2.1).text _ hS2) (Below.refl _ _) (fun _ => rfl)
      (fun pre W => (Blk W kb #[.int .i64 ((pre.length : Nat) : Int)] 3 ∧ Blk W (w.heap.size + 1) #[.bool false] 4) ∧ Kept (fun k => k = w.heap.size + 1 ∨ k = kb) V W)
      (fun _ _ _ => False)
      (((low_blk _ _ _ _ (hS2 _ (.inr rfl)).2).and (low_blk _ _ (fun _ => _) _ (hS2 _ (.inl rfl)).2)).and (low_kept _ _ _ (Nat.le_refl _)))
      (fun c => low_pure _ _)
      ⟨⟨RT.out.1, RT.out.2.2.1⟩, Kept.refl _ _⟩ ?round3 ?done3 ?stop3
    case round3 =>
      rintro l pre x W2 K hl hlt hz hpre ⟨⟨bN, bR⟩, hK⟩ hKK
      gi_wp2_with fail
      refine hKK _ _ ((Kept.refl _ _).alloc _) ?_
      intro Wb hkb hrec
      have hll : pre.length < ws.length := by have := hpre.length_le; rw [List.length_append] at this; simp at this; omega
      have hx : ws[pre.length]? = some x := by
        obtain ⟨r, hr⟩ := hpre
        rw [← hr, List.getElem?_append_left (by simp), List.getElem?_append_right (Nat.le_refl _)]; simp
      have hk1 : Kept (fun k => k = l) W2 Wb := ((Kept.refl (fun k => k = l) W2).alloc _).trans hkb
      have hk4 : Kept (fun k => (k = w.heap.size + 1 ∨ k = kb) ∨ k = l) V Wb := (hK.mono (fun k _ e => .inl e)).trans (hk1.mono (fun k _ e => .inr e))
      have hk3 : Kept (fun k => k = w.heap.size + 1 ∨ k = ab + 1 ∨ W0.heap.size ≤ k) W0 Wb := RT.out.2.2.2.1.trans (hk4.mono (fun k _ e => e.elim (fun e => e.elim .inl (fun e => .inr (.inr (by omega)))) (fun e => .inr (.inr (by omega)))))
      have hcs := S3.out.cst hk3
      have hlS := hS2 _ (.inl rfl)
      have bN1 : Blk Wb kb #[.int .i64 ((pre.length : Nat) : Int)] 3 := bN.kept hk1 (by omega)
      have bR1 : Blk Wb (w.heap.size + 1) #[.bool false] 4 := bR.kept hk1 (by omega)
      have bX1 : Blk Wb W2.heap.size (tkA x) 39 := (Blk.new W2 (tkA x) 39).kept hkb (by omega)
      obtain ⟨g, hg, h6⟩ := hcs.words pre.length x hx
      subst hg
      have CS : Hid (CallsIn Fence.wide (m - 1 - 1 - 1) Tryz.prog 11 #[.agg (tkA x), .agg (tkA x)] Wb.drew fun e w' => e = .returned (.bool true) ∧ Below Wb.heap.size Wb w') := callsIn_wide.2 ((same_any x Wb.drew).mono (fun e w' h => ⟨h.1, ((Below.refl _ _).drew).trans h.2⟩))
      have n0 := bN1.cell 0 (v := .int .i64 (pre.length : Int)) rfl
      have n1 := hcs.want.cell 0 (v := .slice (some ⟨g, 0, none⟩) ws.length cap) rfl
      have t0 := bX1.cell 0 (v := .int .i64 (x.kind : Int)) rfl
      have t1 := bX1.cell 1 (v := .string ⟨x.text.toArray⟩) rfl
      have t2 := bX1.cell 2 (v := .int .u64 (hiOf x.val)) rfl
      have t3 := bX1.cell 3 (v := .int .u64 (loOf x.val)) rfl
      have t4 := bX1.cell 4 (v := .int .i64 (x.line : Int)) rfl
      have t5 := bX1.cell 5 (v := .int .i64 (x.col : Int)) rfl
      have d0 := h6.c0
      have d1 := h6.c1
      have d2 := h6.c2
      have d3 := h6.c3
      have d4 := h6.c4
      have d5 := h6.c5
      have hmix : Tryz.prog.follows .mixedOrders = true := by kernel_rfl
      obtain ⟨n, hn⟩ : ∃ n, n = pre.length := ⟨_, rfl⟩
      have hlt' : (n : Int) < (ws.length : Int) := by omega
      have hgeq : decide ((ws.length : Int) ≤ (n : Int)) = false := by simp; omega
      have RD : Hid (Blk Wb kb #[.int .i64 (n : Int)] 3 ∧ Blk Wb (w.heap.size + 1) #[.bool false] 4) := by rw [hn]; exact ⟨bN1, bR1⟩
      have HF : Hid (∀ V', Kept (fun k => k = w.heap.size + 1 ∨ k = kb) Wb V' → Blk V' kb #[.int .i64 ((n + 1 : Nat) : Int)] 3 → Blk V' (w.heap.size + 1) #[.bool false] 4 → Kept (fun k => k = w.heap.size + 1 ∨ k = kb) Wb V' ∧ (Blk V' kb #[.int .i64 ((pre ++ [x]).length : Int)] 3 ∧ Blk V' (w.heap.size + 1) #[.bool false] 4) ∧ Kept (fun k => k = w.heap.size + 1 ∨ k = kb) V V') := fun V' k1 k2 k3 => by
        have e : ((pre ++ [x]).length : Nat) = n + 1 := by rw [List.length_append, hn]; rfl
        rw [e]
        refine ⟨k1, ⟨k2, k3⟩, ?_⟩
        exact ⟨k1.os.trans hk4.os, k1.tape.trans hk4.tape, k1.output.trans hk4.output, Nat.le_trans hk4.size k1.size, fun k hk hs => (k1.block k (Nat.lt_of_lt_of_le hk hk4.size) hs).trans (hk4.block k hk (fun e => e.elim hs (fun e => by omega)))⟩
      rw [← hn] at n0 d0 d1 d2 d3 d4 d5 hll
      clear hKK h6 hx hpre bN bR hK hkb hrec hn hk1 hk3 hk4 hcs bN1 bR1 bX1
      gi_wp2_with fail
      gi_cut [17] from 84 (fun t wx => t = .bool true ∧ Hid (Below Wb.heap.size Wb wx))
      case first =>
        gi_region_with_o (refine ⟨trivial, no_depth _, ?_⟩; gi_at_call 11; refine (CallsIn.inRound l CS.out).mono ?_; rintro e w2 ⟨rfl, hb2⟩)
        all_goals (gi_wp2_with fail; go_meet; exact ⟨rfl, hb2⟩)
      case rest =>
        obtain ⟨rfl, HB⟩ := hcut
        have b1 := RD.out.1.below HB.out
        have b2 := RD.out.2.below HB.out
        clear n0 n1 t0 t1 t2 t3 t4 t5 d0 d1 d2 d3 d4 d5 CS
        have n0 := b1.cell 0 (v := .int .i64 (n : Int)) rfl
        have f0 := b1.frozen 0
        have B1 : Hid (Blk (wc.setCell ⟨kb, 0, none⟩ (.int .i64 ((n : Int) + 1))) kb #[.int .i64 ((n + 1 : Nat) : Int)] 3 ∧ Blk (wc.setCell ⟨kb, 0, none⟩ (.int .i64 ((n : Int) + 1))) (w.heap.size + 1) #[.bool false] 4) := ⟨b1.set 0 _, b2.kept (S := fun k => k = kb) (Kept.set (S := fun k => k = kb) (p := ⟨kb, 0, none⟩) (Kept.refl _ wc) rfl _) hne⟩
        clear b1 b2
        gi_wp2_with fail
        exact HF.out _ ((Kept.of_below HB.out).set (.inr rfl) _) B1.out.1 B1.out.2
    case done3 =>
      rintro W2 ⟨⟨bK, bR⟩, _⟩ hks hD2
      have hks2 : Kept (fun k => k = w.heap.size + 1 ∨ k = ab + 1 ∨ W0.heap.size ≤ k) V W2 := hks.mono (fun k _ e => e.elim .inl (fun e => .inr (.inr (by omega))))
      have hcs := S3.out.cst (RT.out.2.2.2.1.trans hks2)
      have hlN := (hS0 _ (.inr rfl)).2
      have hlR := (hS0 _ (.inl rfl)).2
      have b2 : Blk W2 (ab + 1) #[.int .i64 nv] 3 := RT.out.2.1.kept hks (by omega)
      have hD1 : W2.heap[W0.heap.size]? = some (.deferred (some [])) := (hks.block _ hv5 (by omega)).trans RT.out.2.2.2.2
      have n0 := b2.cell 0 (v := .int .i64 nv) rfl
      have n1 := hcs.want.cell 0 (v := .slice ad ws.length cap) rfl
      have s0 := hcs.stop.cell 0 (v := .int .i64 stop) rfl
      have k0 := bK.cell 0 (v := .int .i64 (ws.length : Int)) rfl
      have r0 := bR.cell 0 (v := .bool false) rfl
      have rf := bR.frozen 0
      have EN : Hid (Blk (W2.setCell ⟨w.heap.size + 1, 0, none⟩ (.bool true)) (w.heap.size + 1) #[.bool true] 4 ∧ (W2.setCell ⟨w.heap.size + 1, 0, none⟩ (.bool true)).heap[V.heap.size]? = some (.deferred (some [])) ∧ (W2.setCell ⟨w.heap.size + 1, 0, none⟩ (.bool true)).heap[W0.heap.size]? = some (.deferred (some [])) ∧ Below w.heap.size w (W2.setCell ⟨w.heap.size + 1, 0, none⟩ (.bool true)) ∧ W0.heap.size ≠ V.heap.size) := by
        have hk := Kept.set (S := fun k => k = w.heap.size + 1) (p := ⟨w.heap.size + 1, 0, none⟩) (Kept.refl _ W2) rfl (.bool true)
        have l1 := (Array.getElem?_eq_some_iff.1 hD2).1
        have l2 := (Array.getElem?_eq_some_iff.1 hD1).1
        have hz0 := S3.out.below.size
        have hg := S3.out.ge
        have hbW : Below w.heap.size w W2 := S3.out.below.trans ((RT.out.2.2.2.1.trans hks2).below hz0 (fun k e => by omega))
        exact ⟨bR.set 0 _, (hk.block _ l1 (by omega)).trans hD2, (hk.block _ l2 (by omega)).trans hD1, hbW.setCell (by show _ ≤ w.heap.size + 1; omega) _, by omega⟩
      clear bK bR hks hks2 hcs b2 hD1 hD2
      by_cases hq : nv = (ws.length : Int)
      · subst hq
        gi_wp2_with fail
        refine ⟨by simp, .inl ⟨_, _, rfl, run_takeDeferred EN.out.2.1, ?_⟩⟩
        refine ⟨by simp, .inl ⟨_, _, rfl, run_takeDeferred ((World.putObj_heap_other EN.out.2.2.2.2).trans EN.out.2.2.1), ?_⟩⟩
        have hz0 := S3.out.below.size
        have hkk := (kept_putObj (fun k => W0.heap.size ≤ k) (W2.setCell ⟨w.heap.size + 1, 0, none⟩ (.bool true)) V.heap.size (.deferred none) (by show _ ≤ _; omega)).trans (kept_putObj (fun k => W0.heap.size ≤ k) _ W0.heap.size (.deferred none) (Nat.le_refl _))
        have hc5 := (EN.out.1.kept hkk (by have := (hS0 _ (.inl rfl)).2; omega)).cell 0 (v := .bool true) rfl
        refine ⟨.bool true, ?_, rfl, EN.out.2.2.2.1.trans (hkk.below EN.out.2.2.2.1.size (fun k e => by omega))⟩
        simp [results, Tryz.results4, go_sem, hc5]
      · have hq1 : (nv == (ws.length : Int)) = false := by simpa using hq
        have hq2 : nv = stop := HNV.out.resolve_left hq
        subst hq2
        clear hq
        gi_wp2_with fail
        refine ⟨by simp, .inl ⟨_, _, rfl, run_takeDeferred EN.out.2.1, ?_⟩⟩
        refine ⟨by simp, .inl ⟨_, _, rfl, run_takeDeferred ((World.putObj_heap_other EN.out.2.2.2.2).trans EN.out.2.2.1), ?_⟩⟩
        have hz0 := S3.out.below.size
        have hkk := (kept_putObj (fun k => W0.heap.size ≤ k) (W2.setCell ⟨w.heap.size + 1, 0, none⟩ (.bool true)) V.heap.size (.deferred none) (by show _ ≤ _; omega)).trans (kept_putObj (fun k => W0.heap.size ≤ k) _ W0.heap.size (.deferred none) (Nat.le_refl _))
        have hc5 := (EN.out.1.kept hkk (by have := (hS0 _ (.inl rfl)).2; omega)).cell 0 (v := .bool true) rfl
        refine ⟨.bool true, ?_, rfl, EN.out.2.2.2.1.trans (hkk.below EN.out.2.2.2.1.size (fun k e => by omega))⟩
        simp [results, Tryz.results4, go_sem, hc5]
    case stop3 =>
      rintro c pre2 W' _ hf
      exact hf.elim
  case stop =>
    rintro c pre W hpre ⟨⟨rfl, hst⟩, ⟨bN, bR⟩, _⟩ hks hD
    obtain ⟨nv, hnv⟩ : ∃ nv : Int, ((pre.length : Nat) : Int) = nv := ⟨_, rfl⟩
    have HNV : Hid (nv = (ws.length : Int) ∨ nv = stop) := .inr (hnv.symm.trans hst)
    rw [hnv] at bN
    clear hnv hst hpre
    have hcs := S3.out.cst (hks.mono (fun k _ e => e.elim .inl (fun e => .inr (.inl e))))
    have a0 := hcs.all.cell 0 (v := .func (.func 18) #[] #[.pointer (some ⟨wb + 1 + 1 + 1, 0, none⟩)]) rfl
    have hab : ab < W.heap.size := hcs.all.lt
    have hWz : W0.heap.size < W.heap.size := (Array.getElem?_eq_some_iff.1 hD).1
    have RT : Hid (Blk (W.alloc (.cells #[.int .i64 0] 3)) W.heap.size #[.int .i64 0] 3 ∧ Blk (W.alloc (.cells #[.int .i64 0] 3)) (ab + 1) #[.int .i64 nv] 3 ∧ Blk (W.alloc (.cells #[.int .i64 0] 3)) (w.heap.size + 1) #[.bool false] 4 ∧ Kept (fun k => k = w.heap.size + 1 ∨ k = ab + 1 ∨ W0.heap.size ≤ k) W0 (W.alloc (.cells #[.int .i64 0] 3)) ∧ (W.alloc (.cells #[.int .i64 0] 3)).heap[W0.heap.size]? = some (.deferred (some []))) := by
      have hb := (Below.refl _ W).alloc (Nat.le_refl _) (.cells #[.int .i64 0] 3)
      exact ⟨Blk.new _ _ _, bN.below hb, bR.below hb, (hks.mono (fun k _ e => e.elim .inl (fun e => .inr (.inl e)))).alloc _, (hb.block _ (Array.getElem?_eq_some_iff.1 hD).1).trans hD⟩
    clear bN bR hks hD hcs
    gi_wp2_with fail
    obtain ⟨V, hV⟩ : ∃ V, W.alloc (.cells #[.int .i64 0] 3) = V := ⟨_, rfl⟩
    rw [hV] at RT ⊢
    clear hV a0
    obtain ⟨kb, hkb⟩ : ∃ kb, W.heap.size = kb := ⟨_, rfl⟩
    rw [hkb] at RT hab hWz ⊢
    clear hkb
    have hv1 := RT.out.1.lt
    have hv5 := (Array.getElem?_eq_some_iff.1 RT.out.2.2.2.2).1
    have hS2 : ∀ k, (k = w.heap.size + 1 ∨ k = kb) → 4 < k ∧ k < V.heap.size := fun k e => by
      rcases e with e | e
      · have := hS0 k (.inl e); omega
      · have := hS0 _ (.inl rfl); omega
    have hne : w.heap.size + 1 ≠ kb := by have := hS0 _ (.inl rfl); omega
    refine range_outer (gf := 18) (lb := #[.pointer (some ⟨wb + 1 + 1 + 1, 0, none⟩)]) (encs := fun t : Tk => #[Value.agg (tkA t)]) (xs := ws) (S := fun k => k = w.heap.size + 1 ∨ k = kb) rfl (enters_of Tryz.func18 (by kernel_rfl) rfl)
      (fun k e => (hS2 k e).2) (HET.out V (S3.out.cst RT.out.2.2.2.1).tabs (by have := hS2 _ (.inl rfl); omega) _ (S3.out.cst RT.out.2.2.2.1).text _ hS2) (Below.refl _ _) (fun _ => rfl)
      (fun pre W => (Blk W kb #[.int .i64 ((pre.length : Nat) : Int)] 3 ∧ Blk W (w.heap.size + 1) #[.bool false] 4) ∧ Kept (fun k => k = w.heap.size + 1 ∨ k = kb) V W)
      (fun _ _ _ => False)
      (((low_blk _ _ _ _ (hS2 _ (.inr rfl)).2).and (low_blk _ _ (fun _ => _) _ (hS2 _ (.inl rfl)).2)).and (low_kept _ _ _ (Nat.le_refl _)))
      (fun c => low_pure _ _)
      ⟨⟨RT.out.1, RT.out.2.2.1⟩, Kept.refl _ _⟩ ?round3 ?done3 ?stop3
    case round3 =>
      rintro l pre x W2 K hl hlt hz hpre ⟨⟨bN, bR⟩, hK⟩ hKK
      gi_wp2_with fail
      refine hKK _ _ ((Kept.refl _ _).alloc _) ?_
      intro Wb hkb hrec
      have hll : pre.length < ws.length := by have := hpre.length_le; rw [List.length_append] at this; simp at this; omega
      have hx : ws[pre.length]? = some x := by
        obtain ⟨r, hr⟩ := hpre
        rw [← hr, List.getElem?_append_left (by simp), List.getElem?_append_right (Nat.le_refl _)]; simp
      have hk1 : Kept (fun k => k = l) W2 Wb := ((Kept.refl (fun k => k = l) W2).alloc _).trans hkb
      have hk4 : Kept (fun k => (k = w.heap.size + 1 ∨ k = kb) ∨ k = l) V Wb := (hK.mono (fun k _ e => .inl e)).trans (hk1.mono (fun k _ e => .inr e))
      have hk3 : Kept (fun k => k = w.heap.size + 1 ∨ k = ab + 1 ∨ W0.heap.size ≤ k) W0 Wb := RT.out.2.2.2.1.trans (hk4.mono (fun k _ e => e.elim (fun e => e.elim .inl (fun e => .inr (.inr (by omega)))) (fun e => .inr (.inr (by omega)))))
      have hcs := S3.out.cst hk3
      have hlS := hS2 _ (.inl rfl)
      have bN1 : Blk Wb kb #[.int .i64 ((pre.length : Nat) : Int)] 3 := bN.kept hk1 (by omega)
      have bR1 : Blk Wb (w.heap.size + 1) #[.bool false] 4 := bR.kept hk1 (by omega)
      have bX1 : Blk Wb W2.heap.size (tkA x) 39 := (Blk.new W2 (tkA x) 39).kept hkb (by omega)
      obtain ⟨g, hg, h6⟩ := hcs.words pre.length x hx
      subst hg
      have CS : Hid (CallsIn Fence.wide (m - 1 - 1 - 1) Tryz.prog 11 #[.agg (tkA x), .agg (tkA x)] Wb.drew fun e w' => e = .returned (.bool true) ∧ Below Wb.heap.size Wb w') := callsIn_wide.2 ((same_any x Wb.drew).mono (fun e w' h => ⟨h.1, ((Below.refl _ _).drew).trans h.2⟩))
      have n0 := bN1.cell 0 (v := .int .i64 (pre.length : Int)) rfl
      have n1 := hcs.want.cell 0 (v := .slice (some ⟨g, 0, none⟩) ws.length cap) rfl
      have t0 := bX1.cell 0 (v := .int .i64 (x.kind : Int)) rfl
      have t1 := bX1.cell 1 (v := .string ⟨x.text.toArray⟩) rfl
      have t2 := bX1.cell 2 (v := .int .u64 (hiOf x.val)) rfl
      have t3 := bX1.cell 3 (v := .int .u64 (loOf x.val)) rfl
      have t4 := bX1.cell 4 (v := .int .i64 (x.line : Int)) rfl
      have t5 := bX1.cell 5 (v := .int .i64 (x.col : Int)) rfl
      have d0 := h6.c0
      have d1 := h6.c1
      have d2 := h6.c2
      have d3 := h6.c3
      have d4 := h6.c4
      have d5 := h6.c5
      have hmix : Tryz.prog.follows .mixedOrders = true := by kernel_rfl
      obtain ⟨n, hn⟩ : ∃ n, n = pre.length := ⟨_, rfl⟩
      have hlt' : (n : Int) < (ws.length : Int) := by omega
      have hgeq : decide ((ws.length : Int) ≤ (n : Int)) = false := by simp; omega
      have RD : Hid (Blk Wb kb #[.int .i64 (n : Int)] 3 ∧ Blk Wb (w.heap.size + 1) #[.bool false] 4) := by rw [hn]; exact ⟨bN1, bR1⟩
      have HF : Hid (∀ V', Kept (fun k => k = w.heap.size + 1 ∨ k = kb) Wb V' → Blk V' kb #[.int .i64 ((n + 1 : Nat) : Int)] 3 → Blk V' (w.heap.size + 1) #[.bool false] 4 → Kept (fun k => k = w.heap.size + 1 ∨ k = kb) Wb V' ∧ (Blk V' kb #[.int .i64 ((pre ++ [x]).length : Int)] 3 ∧ Blk V' (w.heap.size + 1) #[.bool false] 4) ∧ Kept (fun k => k = w.heap.size + 1 ∨ k = kb) V V') := fun V' k1 k2 k3 => by
        have e : ((pre ++ [x]).length : Nat) = n + 1 := by rw [List.length_append, hn]; rfl
        rw [e]
        refine ⟨k1, ⟨k2, k3⟩, ?_⟩
        exact ⟨k1.os.trans hk4.os, k1.tape.trans hk4.tape, k1.output.trans hk4.output, Nat.le_trans hk4.size k1.size, fun k hk hs => (k1.block k (Nat.lt_of_lt_of_le hk hk4.size) hs).trans (hk4.block k hk (fun e => e.elim hs (fun e => by omega)))⟩
      rw [← hn] at n0 d0 d1 d2 d3 d4 d5 hll
      clear hKK h6 hx hpre bN bR hK hkb hrec hn hk1 hk3 hk4 hcs bN1 bR1 bX1
      gi_wp2_with fail
      gi_cut [17] from 84 (fun t wx => t = .bool true ∧ Hid (Below Wb.heap.size Wb wx))
      case first =>
        gi_region_with_o (refine ⟨trivial, no_depth _, ?_⟩; gi_at_call 11; refine (CallsIn.inRound l CS.out).mono ?_; rintro e w2 ⟨rfl, hb2⟩)
        all_goals (gi_wp2_with fail; go_meet; exact ⟨rfl, hb2⟩)
      case rest =>
        obtain ⟨rfl, HB⟩ := hcut
        have b1 := RD.out.1.below HB.out
        have b2 := RD.out.2.below HB.out
        clear n0 n1 t0 t1 t2 t3 t4 t5 d0 d1 d2 d3 d4 d5 CS
        have n0 := b1.cell 0 (v := .int .i64 (n : Int)) rfl
        have f0 := b1.frozen 0
        have B1 : Hid (Blk (wc.setCell ⟨kb, 0, none⟩ (.int .i64 ((n : Int) + 1))) kb #[.int .i64 ((n + 1 : Nat) : Int)] 3 ∧ Blk (wc.setCell ⟨kb, 0, none⟩ (.int .i64 ((n : Int) + 1))) (w.heap.size + 1) #[.bool false] 4) := ⟨b1.set 0 _, b2.kept (S := fun k => k = kb) (Kept.set (S := fun k => k = kb) (p := ⟨kb, 0, none⟩) (Kept.refl _ wc) rfl _) hne⟩
        clear b1 b2
        gi_wp2_with fail
        exact HF.out _ ((Kept.of_below HB.out).set (.inr rfl) _) B1.out.1 B1.out.2
    case done3 =>
      rintro W2 ⟨⟨bK, bR⟩, _⟩ hks hD2
      have hks2 : Kept (fun k => k = w.heap.size + 1 ∨ k = ab + 1 ∨ W0.heap.size ≤ k) V W2 := hks.mono (fun k _ e => e.elim .inl (fun e => .inr (.inr (by omega))))
      have hcs := S3.out.cst (RT.out.2.2.2.1.trans hks2)
      have hlN := (hS0 _ (.inr rfl)).2
      have hlR := (hS0 _ (.inl rfl)).2
      have b2 : Blk W2 (ab + 1) #[.int .i64 nv] 3 := RT.out.2.1.kept hks (by omega)
      have hD1 : W2.heap[W0.heap.size]? = some (.deferred (some [])) := (hks.block _ hv5 (by omega)).trans RT.out.2.2.2.2
      have n0 := b2.cell 0 (v := .int .i64 nv) rfl
      have n1 := hcs.want.cell 0 (v := .slice ad ws.length cap) rfl
      have s0 := hcs.stop.cell 0 (v := .int .i64 stop) rfl
      have k0 := bK.cell 0 (v := .int .i64 (ws.length : Int)) rfl
      have r0 := bR.cell 0 (v := .bool false) rfl
      have rf := bR.frozen 0
      have EN : Hid (Blk (W2.setCell ⟨w.heap.size + 1, 0, none⟩ (.bool true)) (w.heap.size + 1) #[.bool true] 4 ∧ (W2.setCell ⟨w.heap.size + 1, 0, none⟩ (.bool true)).heap[V.heap.size]? = some (.deferred (some [])) ∧ (W2.setCell ⟨w.heap.size + 1, 0, none⟩ (.bool true)).heap[W0.heap.size]? = some (.deferred (some [])) ∧ Below w.heap.size w (W2.setCell ⟨w.heap.size + 1, 0, none⟩ (.bool true)) ∧ W0.heap.size ≠ V.heap.size) := by
        have hk := Kept.set (S := fun k => k = w.heap.size + 1) (p := ⟨w.heap.size + 1, 0, none⟩) (Kept.refl _ W2) rfl (.bool true)
        have l1 := (Array.getElem?_eq_some_iff.1 hD2).1
        have l2 := (Array.getElem?_eq_some_iff.1 hD1).1
        have hz0 := S3.out.below.size
        have hg := S3.out.ge
        have hbW : Below w.heap.size w W2 := S3.out.below.trans ((RT.out.2.2.2.1.trans hks2).below hz0 (fun k e => by omega))
        exact ⟨bR.set 0 _, (hk.block _ l1 (by omega)).trans hD2, (hk.block _ l2 (by omega)).trans hD1, hbW.setCell (by show _ ≤ w.heap.size + 1; omega) _, by omega⟩
      clear bK bR hks hks2 hcs b2 hD1 hD2
      by_cases hq : nv = (ws.length : Int)
      · subst hq
        gi_wp2_with fail
        refine ⟨by simp, .inl ⟨_, _, rfl, run_takeDeferred EN.out.2.1, ?_⟩⟩
        refine ⟨by simp, .inl ⟨_, _, rfl, run_takeDeferred ((World.putObj_heap_other EN.out.2.2.2.2).trans EN.out.2.2.1), ?_⟩⟩
        have hz0 := S3.out.below.size
        have hkk := (kept_putObj (fun k => W0.heap.size ≤ k) (W2.setCell ⟨w.heap.size + 1, 0, none⟩ (.bool true)) V.heap.size (.deferred none) (by show _ ≤ _; omega)).trans (kept_putObj (fun k => W0.heap.size ≤ k) _ W0.heap.size (.deferred none) (Nat.le_refl _))
        have hc5 := (EN.out.1.kept hkk (by have := (hS0 _ (.inl rfl)).2; omega)).cell 0 (v := .bool true) rfl
        refine ⟨.bool true, ?_, rfl, EN.out.2.2.2.1.trans (hkk.below EN.out.2.2.2.1.size (fun k e => by omega))⟩
        simp [results, Tryz.results4, go_sem, hc5]
      · have hq1 : (nv == (ws.length : Int)) = false := by simpa using hq
        have hq2 : nv = stop := HNV.out.resolve_left hq
        subst hq2
        clear hq
        gi_wp2_with fail
        refine ⟨by simp, .inl ⟨_, _, rfl, run_takeDeferred EN.out.2.1, ?_⟩⟩
        refine ⟨by simp, .inl ⟨_, _, rfl, run_takeDeferred ((World.putObj_heap_other EN.out.2.2.2.2).trans EN.out.2.2.1), ?_⟩⟩
        have hz0 := S3.out.below.size
        have hkk := (kept_putObj (fun k => W0.heap.size ≤ k) (W2.setCell ⟨w.heap.size + 1, 0, none⟩ (.bool true)) V.heap.size (.deferred none) (by show _ ≤ _; omega)).trans (kept_putObj (fun k => W0.heap.size ≤ k) _ W0.heap.size (.deferred none) (Nat.le_refl _))
        have hc5 := (EN.out.1.kept hkk (by have := (hS0 _ (.inl rfl)).2; omega)).cell 0 (v := .bool true) rfl
        refine ⟨.bool true, ?_, rfl, EN.out.2.2.2.1.trans (hkk.below EN.out.2.2.2.1.size (fun k e => by omega))⟩
        simp [results, Tryz.results4, go_sem, hc5]
    case stop3 =>
      rintro c pre2 W' _ hf
      exact hf.elim
end Go.Proofs.YtlgfpjaomiomjaaGreatDoor
