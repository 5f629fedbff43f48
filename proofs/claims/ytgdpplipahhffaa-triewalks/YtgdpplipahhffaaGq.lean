/- A range over a function whose iterator keeps things in memory of its own: the iterator's word, and the caller's law. No condition on the program. A region that draws its order and only reads, within a round. -/
import Derived.Test.YtgdpplipahhffaaKe
import Derived.RangeFuncNested
import Derived.RangeFuncLeaves
import Derived.Sort.BigQuietIn
namespace Go.Proofs.Ytgdpplipahhffaa
open Go.RowKit
set_option linter.unusedVariables false
set_option linter.unusedSimpArgs false

/-- It speaks of what lies below m alone. -/
def Low {β : Type} (m : Nat) (J : β → World → Prop) : Prop := ∀ s A C, Kept (fun k => m ≤ k) A C → J s A → J s C
theorem Low.mono {β : Type} {m m' : Nat} {J : β → World → Prop} (h : Low m J) (hm : m ≤ m') : Low m' J := fun s A C hk hj => h s A C (hk.mono (fun k _ e => Nat.le_trans hm e)) hj
theorem Low.and {β : Type} {m : Nat} {I J : β → World → Prop} (h : Low m I) (h' : Low m J) : Low m (fun s W => I s W ∧ J s W) := fun s A C hk hj => ⟨h s A C hk hj.1, h' s A C hk hj.2⟩
theorem low_blk {β : Type} (m b : Nat) (cs : β → Array Value) (t : TypeId) (hb : b < m) : Low m (fun s W => Blk W b (cs s) t) := fun s A C hk hj => hj.kept hk (by omega)
theorem low_pure {β : Type} (m : Nat) (p : β → Prop) : Low m (fun s (_ : World) => p s) := fun _ _ _ _ h => h
theorem low_kept {β : Type} (m : Nat) (S : Nat → Prop) (w : World) (hm : w.heap.size ≤ m) : Low m (fun (_ : β) W => Kept S w W) := fun _ A C hk hj =>
  ⟨hk.os.trans hj.os, hk.tape.trans hj.tape, hk.output.trans hj.output, Nat.le_trans hj.size hk.size, fun k hk' hs => (hk.block k (Nat.lt_of_lt_of_le hk' hj.size) (by omega)).trans (hj.block k hk' hs)⟩
theorem low_heap {β : Type} (m l : Nat) (o : Obj) (hl : l < m) : Low m (fun (_ : β) (W : World) => W.heap[l]? = some o) := fun _ A C hk hj =>
  (hk.block l (Array.getElem?_eq_some_iff.1 hj).1 (by omega)).trans hj

/-- The iterator's word: it tells xs, one behind the other, as long as it is asked to go on; a round that goes on leaves all as it was but the blocks of S. -/
def Tells {α : Type} (P : Program) (g : Nat) (lb : Array Value) (encs : α → Array Value) (xs : List α) (S : Nat → Prop) (w : World) : Prop :=
  ∀ (n l : Nat) (J Jx : List α → World → Prop) (W : World), Below w.heap.size w W → l < W.heap.size → Low W.heap.size J → Low W.heap.size Jx →
    (∀ pre x W1, pre ++ [x] <+: xs → J pre W1 → YieldAt Fence.wide (n - 1) P l (encs x) W1 fun e W' =>
      (e = .returned (.bool true) ∧ J (pre ++ [x]) W' ∧ Kept S W1 W') ∨ (e = .returned (.bool false) ∧ Jx (pre ++ [x]) W' ∧ Kept (fun k => S k ∨ k = l) W1 W')) →
    J [] W →
    CallsIn Fence.wide n P g (#[.func (.yield l) #[] #[]] ++ lb) W fun e W' => (∃ v, e = .returned v) ∧ (J xs W' ∨ ∃ pre, pre <+: xs ∧ Jx pre W')

/-- How the body of a round may be left. -/
def roundOf {α : Type} (S : Nat → Prop) (I : List α → World → Prop) (Ix : Code → List α → World → Prop) (xs : List α) (W : World) : Exit → Act → World → Prop
  | .normal, _, W' => Kept S W W' ∧ I xs W'
  | .ret, _, W' => Kept S W W' ∧ Ix .ret xs W'
  | .exit id, _, W' => Kept S W W' ∧ Ix (.exit id) xs W'
  | .goto t, _, W' => Kept S W W' ∧ Ix (.goto t) xs W'
  | .panic _, _, _ => False
  | .outgrown, _, _ => False

theorem kept_putObj (S : Nat → Prop) (W : World) (l : Nat) (o : Obj) (hl : S l) : Kept S W (W.putObj l o) :=
  have h := grownBy_putObj' W l o
  ⟨h.os, h.tape, h.output, h.size, fun k hk hs => h.block k hk (fun e => hs (by cases e; exact hl))⟩

/-- The caller's law, over what entering the loop has laid. -/
theorem range_core {α : Type} {ro : Option Nat} {n : Nat} {P : Program} {g : Operand} {ps : Array Tmp} {assign body : Code} {Q : Exit → Act → World → Prop} {a : Act} {w : World}
    {gf : Nat} {lb : Array Value} (hg : a.eval g = .func (.func gf) #[] lb) (eg : ∀ args w, (callFunc gf args).run P w = .ok (.enter gf args) w)
    {l dB : Nat} {mark : List Deferred} {W1 : FuncId → World}
    (he : ∀ fn, (Instr.enterLoop fn a.tmps ps assign body ro).run P w = .ok (l, mark) (W1 fn))
    (hb1 : ∀ fn, Below w.heap.size w (W1 fn)) (hl1 : ∀ fn, (W1 fn).heap[l]? = some (.loop { state := .ready, pending := none, fn, tmps := a.tmps, params := ps, assign, body, defers := dB }))
    (hlw : w.heap.size ≤ l)
    {encs : α → Array Value} {xs : List α} {S : Nat → Prop} (hS : ∀ k, S k → k < w.heap.size) {w0 : World} (hseq : Tells P gf lb encs xs S w0) (hw0 : Below w0.heap.size w0 w) (hps : ∀ x, (encs x).size = ps.size)
    (I : List α → World → Prop) (Ix : Code → List α → World → Prop) (hI : Low w.heap.size I) (hIx : ∀ c, Low w.heap.size (Ix c)) (h0 : I [] w)
    (hround : ∀ (l : Nat) (pre : List α) (x : α) (W : World) (K : Act → World → Prop), w.heap.size ≤ l → l < W.heap.size → w.heap.size ≤ W.heap.size → pre ++ [x] <+: xs → I pre W →
      (∀ a' Wa, Kept (fun _ => False) W Wa → (∀ Wb, Kept (fun k => k = l) Wa Wb → (∃ r, Wb.heap[l]? = some (.loop r)) → body.wpIn ({ Fence.wide with round := some l }) (n - 1 - 1) P (roundOf S I Ix (pre ++ [x]) Wb) a' Wb) → K a' Wa) →
      assign.wpIn ({ Fence.wide with round := some l }) (n - 1 - 1) P (Exit.then K (fun _ _ _ => False)) { tmps := (ps.zip (encs x)).foldl (fun t (p, v) => t.setIfInBounds p v) a.tmps, defers := [] } W)
    (hdone : ∀ (fn : FuncId) (W : World), I xs W → Kept (fun k => S k ∨ k = l) (W1 fn) W → Q .normal { a with defers := mark ++ a.defers } W)
    (hstop : ∀ (fn : FuncId) (c : Code) (pre : List α) (W : World), pre <+: xs → Ix c pre W → Kept (fun k => S k ∨ k = l) (W1 fn) W → c.wpIn { Fence.wide with round := ro } n P Q { a with defers := mark ++ a.defers } W) :
    (Code.rangeFunc g ps assign body).wpIn { Fence.wide with round := ro } n P Q a w := by
  refine wpIn_rangeFunc ?_
  intro fn hfn
  have hls : l < (W1 fn).heap.size := (Array.getElem?_eq_some_iff.1 (hl1 fn)).1
  obtain ⟨rec, hrec⟩ : ∃ rec : LoopState → Option Code → Loop, rec = fun st pe => { state := st, pending := pe, fn, tmps := a.tmps, params := ps, assign, body, defers := dB } := ⟨_, rfl⟩
  have hl1' : (W1 fn).heap[l]? = some (.loop (rec .ready none)) := by rw [hrec]; exact hl1 fn
  have hbw := hb1 fn
  have hnS : ¬ S l := fun e => by have := hS l e; omega
  refine ⟨l, mark, W1 fn, { target := .fn (.func gf) lb, args := #[.func (.yield l) #[] #[]] }, W1 fn, gf, #[.func (.yield l) #[] #[]] ++ lb, W1 fn, he fn, ?_, fun _ _ => trivial, ?_, fun h => by simp [Fence.wide] at h, ?_⟩
  · simp only [resolve, hg]
    simp [go_sem]
  · simp [invoke, go_sem, eg]
  have hIW : I [] (W1 fn) := hI _ _ _ (⟨hbw.os, hbw.tape, hbw.output, hbw.size, fun k hk hs => hbw.block k (by omega)⟩) h0
  have hlow : ∀ s, Low (W1 fn).heap.size (fun (pre : List α) W => I pre W ∧ W.heap[l]? = some (.loop s) ∧ Kept (fun k => S k ∨ k = l) (W1 fn) W) := fun s =>
    (hI.mono hbw.size).and ((low_heap _ l _ hls).and (low_kept _ _ _ (Nat.le_refl _)))
  refine CallsIn.mono (R := fun e W' => (∃ v, e = .returned v) ∧ ((I xs W' ∧ W'.heap[l]? = some (.loop (rec .ready none)) ∧ Kept (fun k => S k ∨ k = l) (W1 fn) W') ∨ ∃ pre, pre <+: xs ∧ ∃ c, Ix c pre W' ∧ W'.heap[l]? = some (.loop (rec .done (some c))) ∧ Kept (fun k => S k ∨ k = l) (W1 fn) W')) ?_ ?_
  · refine hseq (n - 1) l (fun pre W => I pre W ∧ W.heap[l]? = some (.loop (rec .ready none)) ∧ Kept (fun k => S k ∨ k = l) (W1 fn) W)
      (fun pre W => ∃ c, Ix c pre W ∧ W.heap[l]? = some (.loop (rec .done (some c))) ∧ Kept (fun k => S k ∨ k = l) (W1 fn) W)
      (W1 fn) (hw0.trans (hbw.mono hw0.size)) hls (hlow _)
      (fun s A C hk hj => by
        obtain ⟨c, h1, h2, h3⟩ := hj
        exact ⟨c, ((hIx c).mono hbw.size) s A C hk h1, low_heap (β := Unit) _ l _ hls () A C hk h2, low_kept (β := Unit) _ _ _ (Nat.le_refl _) () A C hk h3⟩)
      ?_ ⟨hIW, hl1', Kept.refl _ _⟩
    rintro pre x W hpre ⟨hi, hl, hkW⟩
    have hlt : l < W.heap.size := (Array.getElem?_eq_some_iff.1 hl).1
    have hy := run_yield (P := P) (args := encs x) hl (by rw [hrec]; exact hps x)
    rw [hrec] at hy
    refine ⟨fn, _, assign, body, hy, roundIn_of_wpIn hfn (hround l pre x W _ hlw hlt (Nat.le_trans hbw.size hkW.size) hpre hi ?_)⟩
    clear hy
    intro a' Wa hka hbody
    have hla : Wa.heap[l]? = some (.loop (rec .ready none)) := (hka.block l hlt id).trans hl
    have hlta : l < Wa.heap.size := (Array.getElem?_eq_some_iff.1 hla).1
    refine ⟨_, run_beginRound hla (by rw [hrec]), ?_⟩
    obtain ⟨Wb, hWb⟩ : ∃ Wb, Wa.putObj l (.loop { rec .ready none with state := .busy }) = Wb := ⟨_, rfl⟩
    have hgb := grownBy_putObj' Wa l (.loop { rec .ready none with state := .busy })
    rw [hWb] at hgb
    have hlb : Wb.heap[l]? = some (.loop { rec .ready none with state := .busy }) := by rw [← hWb]; exact World.putObj_heap_same hlta
    rw [hWb]
    refine wpIn_mono (hbody Wb ⟨hgb.os, hgb.tape, hgb.output, hgb.size, fun k hk hs => hgb.block k hk (fun e => hs (by cases e; rfl))⟩ ⟨_, hlb⟩) ?_
    have fin : ∀ (jump : Option Code) (W3 : World), Kept S Wb W3 →
        (Instr.endRound l jump).run P W3 = .ok (.bool jump.isNone) (W3.putObj l (.loop (rec (if jump.isNone then .ready else .done) jump))) ∧
        (W3.putObj l (.loop (rec (if jump.isNone then .ready else .done) jump))).heap[l]? = some (.loop (rec (if jump.isNone then .ready else .done) jump)) ∧
        Kept (fun k => S k ∨ k = l) W (W3.putObj l (.loop (rec (if jump.isNone then .ready else .done) jump))) ∧
        Kept (fun k => w.heap.size ≤ k) W3 (W3.putObj l (.loop (rec (if jump.isNone then .ready else .done) jump))) := fun jump W3 hk3 => by
      have hl3 : W3.heap[l]? = some (.loop { rec .ready none with state := .busy }) := (hk3.block l (Array.getElem?_eq_some_iff.1 hlb).1 hnS).trans hlb
      have hr := run_endRound (P := P) jump hl3
      have hk4 := kept_putObj (fun k => S k ∨ k = l) W3 l (.loop (rec (if jump.isNone then .ready else .done) jump)) (.inr rfl)
      refine ⟨by rw [hrec] at hr ⊢; exact hr, World.putObj_heap_same (Array.getElem?_eq_some_iff.1 hl3).1, ?_, kept_putObj _ W3 l _ hlw⟩
      have s1 : Kept (fun k => S k ∨ k = l) W Wa := hka.mono (fun k _ e => e.elim)
      have s2 : Kept (fun k => S k ∨ k = l) Wa Wb := ⟨hgb.os, hgb.tape, hgb.output, hgb.size, fun k hk hs => hgb.block k hk (fun e => hs (.inr (by cases e; rfl)))⟩
      have s3 : Kept (fun k => S k ∨ k = l) Wb W3 := hk3.mono (fun k _ e => .inl e)
      exact ((s1.trans s2).trans s3).trans hk4
    rintro e a3 W3 hp
    cases e with
    | normal =>
      obtain ⟨hk3, hi3⟩ := hp
      obtain ⟨hr, hl4, hk4, hk5⟩ := fin none W3 hk3
      refine ⟨_, _, hr, .inl ⟨rfl, ⟨hI _ _ _ hk5 hi3, hl4, hkW.trans hk4⟩, ?_⟩⟩
      refine ⟨hk4.os, hk4.tape, hk4.output, hk4.size, fun k hk hs => ?_⟩
      by_cases e : k = l
      · subst e; exact hl4.trans hl.symm
      · exact hk4.block k hk (fun e' => e'.elim hs e)
    | ret =>
      obtain ⟨hk3, hi3⟩ := hp
      obtain ⟨hr, hl4, hk4, hk5⟩ := fin (some .ret) W3 hk3
      exact ⟨_, _, hr, .inr ⟨rfl, ⟨.ret, (hIx _) _ _ _ hk5 hi3, hl4, hkW.trans hk4⟩, hk4⟩⟩
    | exit id =>
      obtain ⟨hk3, hi3⟩ := hp
      obtain ⟨hr, hl4, hk4, hk5⟩ := fin (some (.exit id)) W3 hk3
      exact ⟨_, _, hr, .inr ⟨rfl, ⟨.exit id, (hIx _) _ _ _ hk5 hi3, hl4, hkW.trans hk4⟩, hk4⟩⟩
    | goto t =>
      obtain ⟨hk3, hi3⟩ := hp
      obtain ⟨hr, hl4, hk4, hk5⟩ := fin (some (.goto t)) W3 hk3
      exact ⟨_, _, hr, .inr ⟨rfl, ⟨.goto t, (hIx _) _ _ _ hk5 hi3, hl4, hkW.trans hk4⟩, hk4⟩⟩
    | panic ch => exact hp.elim
    | outgrown => exact hp.elim
  · rintro e W2 ⟨⟨v, rfl⟩, (⟨hi, hl, hk⟩ | ⟨pre, hpre, c, hi, hl, hk⟩)⟩
    · refine ⟨none, _, by have := run_endLoop (P := P) hl (by rw [hrec]; simp); rw [hrec] at this; exact this, hdone fn _ (hI _ _ _ (kept_putObj _ W2 l _ hlw) hi) (hk.trans (kept_putObj _ W2 l _ (.inr rfl)))⟩
    · refine ⟨some c, _, by have := run_endLoop (P := P) hl (by rw [hrec]; simp); rw [hrec] at this; exact this, hstop fn c pre _ hpre ((hIx c) _ _ _ (kept_putObj _ W2 l _ hlw) hi) (hk.trans (kept_putObj _ W2 l _ (.inr rfl)))⟩
/-- An outermost loop. -/
theorem range_outer {α : Type} {n : Nat} {P : Program} {g : Operand} {ps : Array Tmp} {assign body : Code} {Q : Exit → Act → World → Prop} {a : Act} {w : World}
    {gf : Nat} {lb : Array Value} (hg : a.eval g = .func (.func gf) #[] lb) (eg : ∀ args w, (callFunc gf args).run P w = .ok (.enter gf args) w)
    {encs : α → Array Value} {xs : List α} {S : Nat → Prop} (hS : ∀ k, S k → k < w.heap.size) {w0 : World} (hseq : Tells P gf lb encs xs S w0) (hw0 : Below w0.heap.size w0 w) (hps : ∀ x, (encs x).size = ps.size)
    (I : List α → World → Prop) (Ix : Code → List α → World → Prop) (hI : Low w.heap.size I) (hIx : ∀ c, Low w.heap.size (Ix c)) (h0 : I [] w)
    (hround : ∀ (l : Nat) (pre : List α) (x : α) (W : World) (K : Act → World → Prop), w.heap.size ≤ l → l < W.heap.size → w.heap.size ≤ W.heap.size → pre ++ [x] <+: xs → I pre W →
      (∀ a' Wa, Kept (fun _ => False) W Wa → (∀ Wb, Kept (fun k => k = l) Wa Wb → (∃ r, Wb.heap[l]? = some (.loop r)) → body.wpIn (Fence.wide.inRound l) (n - 1 - 1) P (roundOf S I Ix (pre ++ [x]) Wb) a' Wb) → K a' Wa) →
      assign.wpIn (Fence.wide.inRound l) (n - 1 - 1) P (Exit.then K (fun _ _ _ => False)) { tmps := (ps.zip (encs x)).foldl (fun t (p, v) => t.setIfInBounds p v) a.tmps, defers := [] } W)
    (hdone : ∀ (W : World), I xs W → Kept S w W → W.heap[w.heap.size]? = some (.deferred (some [])) → Q .normal { a with defers := { target := .collected w.heap.size, args := #[] } :: a.defers } W)
    (hstop : ∀ (c : Code) (pre : List α) (W : World), pre <+: xs → Ix c pre W → Kept S w W → W.heap[w.heap.size]? = some (.deferred (some [])) → c.wpIn Fence.wide n P Q { a with defers := { target := .collected w.heap.size, args := #[] } :: a.defers } W) :
    (Code.rangeFunc g ps assign body).wpIn Fence.wide n P Q a w := by
  have hb1 : ∀ o1 o2, Below w.heap.size w ((w.alloc o1).alloc o2) := fun o1 o2 => ((Below.refl _ w).alloc (Nat.le_refl _) _).alloc (by simp) _
  have back : ∀ (o : Obj) (W : World), Kept (fun k => S k ∨ k = w.heap.size + 1) ((w.alloc (.deferred (some []))).alloc o) W → Kept S w W ∧ W.heap[w.heap.size]? = some (.deferred (some [])) := fun o W hk => by
    have hb := hb1 (.deferred (some [])) o
    have hd : ((w.alloc (.deferred (some []))).alloc o).heap[w.heap.size]? = some (.deferred (some [])) := (Below.heap_alloc _ _ _ (by simp)).trans (World.alloc_heap_new w _)
    refine ⟨⟨hk.os.trans hb.os, hk.tape.trans hb.tape, hk.output.trans hb.output, Nat.le_trans hb.size hk.size, fun k hk' hs => (hk.block k (Nat.lt_of_lt_of_le hk' hb.size) (fun e => e.elim hs (fun e => by omega))).trans (hb.block k hk')⟩, ?_⟩
    exact (hk.block _ (by simp; omega) (fun e => e.elim (fun e => by have := hS _ e; omega) (fun e => by omega))).trans hd
  exact range_core (ro := none) (W1 := fun fn => (w.alloc (.deferred (some []))).alloc (.loop { state := .ready, pending := none, fn, tmps := a.tmps, params := ps, assign, body, defers := w.heap.size })) (l := w.heap.size + 1) (dB := w.heap.size) hg eg (fun fn => run_enterLoop_outer _ _ _ _ _) (fun fn => hb1 _ _)
    (fun fn => by have := World.alloc_heap_new (w.alloc (.deferred (some []))) (.loop { state := .ready, pending := none, fn, tmps := a.tmps, params := ps, assign, body, defers := w.heap.size }); rwa [World.size_alloc] at this)
    (by omega) hS hseq hw0 hps I Ix hI hIx h0 hround
    (fun fn W hi hk => hdone W hi (back _ W hk).1 (back _ W hk).2) (fun fn c pre W hp hi hk => hstop c pre W hp hi (back _ W hk).1 (back _ W hk).2)
/-- A loop within a round. -/
theorem range_inner {α : Type} {n : Nat} {P : Program} {g : Operand} {ps : Array Tmp} {assign body : Code} {Q : Exit → Act → World → Prop} {a : Act} {w : World}
    {l₀ : Nat} (hl₀ : ∃ r₀, w.heap[l₀]? = some (.loop r₀))
    {gf : Nat} {lb : Array Value} (hg : a.eval g = .func (.func gf) #[] lb) (eg : ∀ args w, (callFunc gf args).run P w = .ok (.enter gf args) w)
    {encs : α → Array Value} {xs : List α} {S : Nat → Prop} (hS : ∀ k, S k → k < w.heap.size) {w0 : World} (hseq : Tells P gf lb encs xs S w0) (hw0 : Below w0.heap.size w0 w) (hps : ∀ x, (encs x).size = ps.size)
    (I : List α → World → Prop) (Ix : Code → List α → World → Prop) (hI : Low w.heap.size I) (hIx : ∀ c, Low w.heap.size (Ix c)) (h0 : I [] w)
    (hround : ∀ (l : Nat) (pre : List α) (x : α) (W : World) (K : Act → World → Prop), w.heap.size ≤ l → l < W.heap.size → w.heap.size ≤ W.heap.size → pre ++ [x] <+: xs → I pre W →
      (∀ a' Wa, Kept (fun _ => False) W Wa → (∀ Wb, Kept (fun k => k = l) Wa Wb → (∃ r, Wb.heap[l]? = some (.loop r)) → body.wpIn (Fence.wide.inRound l) (n - 1 - 1) P (roundOf S I Ix (pre ++ [x]) Wb) a' Wb) → K a' Wa) →
      assign.wpIn (Fence.wide.inRound l) (n - 1 - 1) P (Exit.then K (fun _ _ _ => False)) { tmps := (ps.zip (encs x)).foldl (fun t (p, v) => t.setIfInBounds p v) a.tmps, defers := [] } W)
    (hdone : ∀ (W : World), I xs W → Kept S w W → Q .normal a W)
    (hstop : ∀ (c : Code) (pre : List α) (W : World), pre <+: xs → Ix c pre W → Kept S w W → c.wpIn (Fence.wide.inRound l₀) n P Q a W) :
    (Code.rangeFunc g ps assign body).wpIn (Fence.wide.inRound l₀) n P Q a w := by
  obtain ⟨r₀, hl₀⟩ := hl₀
  have hb1 : ∀ o, Below w.heap.size w (w.alloc o) := fun o => (Below.refl _ w).alloc (Nat.le_refl _) _
  have back : ∀ (o : Obj) (W : World), Kept (fun k => S k ∨ k = w.heap.size) (w.alloc o) W → Kept S w W := fun o W hk => by
    have hb := hb1 o
    exact ⟨hk.os.trans hb.os, hk.tape.trans hb.tape, hk.output.trans hb.output, Nat.le_trans hb.size hk.size, fun k hk' hs => (hk.block k (Nat.lt_of_lt_of_le hk' hb.size) (fun e => e.elim hs (fun e => by omega))).trans (hb.block k hk')⟩
  exact range_core (ro := some l₀) (mark := []) (W1 := fun fn => w.alloc (.loop { state := .ready, pending := none, fn, tmps := a.tmps, params := ps, assign, body, defers := r₀.defers })) (l := w.heap.size) (dB := r₀.defers) hg eg (fun fn => run_enterLoop_inner hl₀ _ _ _ _ _) (fun fn => hb1 _)
    (fun fn => World.alloc_heap_new w _) (Nat.le_refl _) hS hseq hw0 hps I Ix hI hIx h0 hround
    (fun fn W hi hk => hdone W hi (back _ W hk)) (fun fn c pre W hp hi hk => hstop c pre W hp hi (back _ W hk))
end Go.Proofs.Ytgdpplipahhffaa
namespace Go.Proofs.Ytgdpplipahhffaa
open Go.RowKit
set_option linter.unusedVariables false

def noDefer (l : List Oper) : Bool := l.all fun o => match o.op with | .defer _ => false | _ => true
theorem upon_round {l n : Nat} {P : Program} {o : Oper} {a : Act} {next : Act → World → Prop} {Q : Exit → Act → World → Prop} {r : Result Next} (h : o.uponIn Fence.wide n P a next Q r) : o.uponIn (Fence.wide.inRound l) n P a next Q r := h
theorem oper_round {l n : Nat} {P : Program} {o : Oper} {a : Act} {w : World} {K : Act → World → Prop} {Q : Exit → Act → World → Prop} (hd : ∀ c, o.op ≠ .defer c) (h : o.wpIn Fence.wide n P a w K Q) : o.wpIn (Fence.wide.inRound l) n P a w K Q := by
  obtain ⟨h1, h2⟩ := h
  refine ⟨h1, ?_⟩
  rw [show (Fence.wide.inRound l).round = some l from rfl, Oper.semAt_some l a.eval o hd]
  rw [show Fence.wide.round = none from rfl, Oper.semAt_none] at h2
  exact upon_round h2
theorem any_round {l n : Nat} {P : Program} {md : Region.Mode} {ops : List Oper} {Q : Exit → Act → World → Prop} (hd : noDefer ops = true) : ∀ (fuel : Nat) (listed : Array Bool) (a : Act) (w : World),
    wpAnyIn Fence.wide n P md ops.toArray Q fuel listed a w → wpAnyIn (Fence.wide.inRound l) n P md ops.toArray Q fuel listed a w
  | 0, _, _, _, h => h
  | fuel + 1, listed, a, w, h => by
    refine ⟨h.1, fun i hi => ?_⟩
    have h2 := h.2 i hi
    unfold wpOpIn at h2 ⊢
    split
    · rename_i ho; rw [ho] at h2; exact any_round hd fuel _ _ _ h2
    · rename_i o ho
      rw [ho] at h2
      have hno : ∀ c, o.op ≠ .defer c := fun c e => by
        have hm : o ∈ ops := by
          have := Array.mem_of_getElem? ho
          simpa using this
        have := List.all_eq_true.1 hd o hm
        rw [e] at this
        cases this
      simp only at h2 ⊢
      split
      · rename_i hw
        rw [if_pos hw] at h2
        exact Oper.wpIn_mono (fun a w h => any_round hd fuel _ a w h) (oper_round hno h2)
      · rename_i hw
        rw [if_neg hw] at h2
        exact ⟨h2.1, any_round hd fuel _ _ _ h2.2⟩
theorem quiet_round {l n : Nat} {P : Program} {id : Nat} {Q : Exit → Act → World → Prop} {a : Act} {w : World} {ops : List Oper} (hm : P.follows .mixedOrders = true) (hB : Region.lexB .any ops.toArray = true) (hd : noDefer ops = true)
    (h : wpQuietIn Fence.wide n P ops.toArray (fun w' => ∃ n, w' = w.drewN n) (fun a' => ∀ w', (∃ n, w' = w.drewN n) → Q .normal a' w') ops a) : (Code.region id ops.toArray true).wpIn (Fence.wide.inRound l) n P Q a w := by
  simp only [Region.lexB, Bool.and_eq_true] at hB
  refine wpIn_region_any hm (any_round hd _ _ _ _ (wpAnyIn_of_quiet (C := fun w' => ∃ n, w' = w.drewN n) (Q := fun a' => ∀ w', (∃ n, w' = w.drewN n) → Q .normal a' w') rfl (fun _ w' hw' h => h w' hw') _ _ _ _ ⟨1, rfl⟩ ?_))
  have := wpAnyQIn_lex (F := Fence.wide) (n := n) (C := fun w' => ∃ n, w' = w.drewN n) (md := .any) hB.1 ops 0 (Array.replicate ops.toArray.size false) a (by simp) (by simpa using hB.2) (by simpa using h)
  simpa using this
end Go.Proofs.Ytgdpplipahhffaa
