/- A range over a function whose rounds keep things in memory of their own: rows of one element type, made in the rounds. Package trie: each's iterator, to rounds that keep rows of their own. Package trie: Under's iterator. -/
import Derived.Test.YtgdpplipahhffaaGg
import Derived.Laws.EntriesVeiled
namespace Go.Proofs.Ytgdpplipahhffaa.Gp
open Go.RowKit
set_option linter.unusedVariables false
set_option linter.unusedSimpArgs false

/-- A block of rows of type g. -/
def IsRow (g : TypeId → Prop) (A : World) (k : Nat) : Prop := ∃ cs f g9, A.heap[k]? = some (.cells cs g9 f) ∧ g g9
/-- What a round may touch: the blocks of S, and the rows of type g that were made since. -/
def Gst (g : TypeId → Prop) (m : Nat) (S : Nat → Prop) (A : World) (k : Nat) : Prop := S k ∨ (m ≤ k ∧ IsRow g A k)
/-- It stands as long as what lies below m and the rows of type g do. -/
def LowG {β : Type} (g : TypeId → Prop) (m : Nat) (J : β → World → Prop) : Prop := ∀ s A C, Kept (fun k => m ≤ k ∧ ¬ IsRow g A k) A C → J s A → J s C
theorem LowG.mono {β : Type} {g : TypeId → Prop} {m m' : Nat} {J : β → World → Prop} (h : LowG g m J) (hm : m ≤ m') : LowG g m' J := fun s A C hk hj => h s A C (hk.mono (fun k _ e => ⟨Nat.le_trans hm e.1, e.2⟩)) hj
theorem LowG.and {β : Type} {g : TypeId → Prop} {m : Nat} {I J : β → World → Prop} (h : LowG g m I) (h' : LowG g m J) : LowG g m (fun s W => I s W ∧ J s W) := fun s A C hk hj => ⟨h s A C hk hj.1, h' s A C hk hj.2⟩
theorem LowG.ex {β γ : Type} {g : TypeId → Prop} {m : Nat} {I : γ → β → World → Prop} (h : ∀ c, LowG g m (I c)) : LowG g m (fun s W => ∃ c, I c s W) := fun s A C hk ⟨c, hj⟩ => ⟨c, h c s A C hk hj⟩
theorem _root_.Go.Proofs.Ytgdpplipahhffaa.Low.gp {β : Type} {g : TypeId → Prop} {m : Nat} {J : β → World → Prop} (h : Low m J) : LowG g m J := fun s A C hk hj => h s A C (hk.mono fun k _ e => e.1) hj
/-- A row of type g stands. -/
theorem lowG_row {β : Type} (g : TypeId → Prop) (g9 : TypeId) (h9 : g g9) (m B z : Nat) (v : β → Value) (n : β → Nat) (xs : β → List Value) : LowG g m (fun s W => W.ownsRow B g9 z (v s) (n s) (xs s)) := fun s A C hk hj =>
  ownsRow_kept hj hk fun k hk' e => by
    rcases hj.2 with ⟨e1, _⟩ | ⟨b, cap, cur, e1, _, hg, _⟩
    · rw [e1] at hk'; simp [Value.ownBlock] at hk'
    · rw [e1] at hk'
      simp [Value.ownBlock] at hk'
      subst hk'
      exact e.2 ⟨_, _, _, hg, h9⟩
/-- The iterator's word, to rounds that keep rows of type g. -/
def TellsG {α : Type} (gt : TypeId → Prop) (P : Program) (g : Nat) (lb : Array Value) (encs : α → Array Value) (xs : List α) (S : Nat → Prop) (w : World) : Prop :=
  ∀ (n l : Nat) (J Jx : List α → World → Prop) (W : World), Below w.heap.size w W → l < W.heap.size → LowG gt W.heap.size J → LowG gt W.heap.size Jx →
    (∀ pre x W1, pre ++ [x] <+: xs → J pre W1 → YieldAt Fence.wide (n - 1) P l (encs x) W1 fun e W' =>
      (e = .returned (.bool true) ∧ J (pre ++ [x]) W' ∧ Kept (Gst gt W.heap.size S W1) W1 W') ∨ (e = .returned (.bool false) ∧ Jx (pre ++ [x]) W' ∧ Kept (fun k => Gst gt W.heap.size S W1 k ∨ k = l) W1 W')) →
    J [] W →
    CallsIn Fence.wide n P g (#[.func (.yield l) #[] #[]] ++ lb) W fun e W' => (∃ v, e = .returned v) ∧ (J xs W' ∨ ∃ pre, pre <+: xs ∧ Jx pre W')

theorem not_rows1 {gt : TypeId → Prop} (w : World) (o : Obj) (h1 : ∀ cs g f, o ≠ .cells cs g f) (k : Nat) (hk : w.heap.size ≤ k) : ¬ IsRow gt (w.alloc o) k := by
  rintro ⟨cs, f, g9, e, h9⟩
  have hlt := (Array.getElem?_eq_some_iff.1 e).1
  rw [World.size_alloc] at hlt
  obtain rfl : k = w.heap.size := by omega
  rw [World.alloc_heap_new] at e
  exact h1 _ _ _ (Option.some.inj e)
theorem not_rows2 {gt : TypeId → Prop} (w : World) (o o2 : Obj) (h1 : ∀ cs g f, o ≠ .cells cs g f) (h2 : ∀ cs g f, o2 ≠ .cells cs g f) (k : Nat) (hk : w.heap.size ≤ k) : ¬ IsRow gt ((w.alloc o).alloc o2) k := by
  by_cases h : (w.alloc o).heap.size ≤ k
  · exact not_rows1 _ o2 h2 k h
  · rintro ⟨cs, f, g9, e, h9⟩
    rw [heap_alloc_old _ _ (Nat.lt_of_not_le h)] at e
    exact not_rows1 w o h1 k hk ⟨cs, f, g9, e, h9⟩
/-- How the body of a round may be left. -/
def roundG {α : Type} (gt : TypeId → Prop) (m : Nat) (S : Nat → Prop) (I : List α → World → Prop) (Ix : Code → List α → World → Prop) (xs : List α) (W : World) : Exit → Act → World → Prop
  | .normal, _, W' => Kept (Gst gt m S W) W W' ∧ I xs W'
  | .ret, _, W' => Kept (Gst gt m S W) W W' ∧ Ix .ret xs W'
  | .exit id, _, W' => Kept (Gst gt m S W) W W' ∧ Ix (.exit id) xs W'
  | .goto t, _, W' => Kept (Gst gt m S W) W W' ∧ Ix (.goto t) xs W'
  | .panic _, _, _ => False
  | .outgrown, _, _ => False

/-- The caller's law, over what entering the loop has laid. -/
theorem rangeG_core {α : Type} {ro : Option Nat} {n : Nat} {P : Program} {g : Operand} {ps : Array Tmp} {assign body : Code} {Q : Exit → Act → World → Prop} {a : Act} {w : World}
    {gt : TypeId → Prop} {gf : Nat} {lb : Array Value} (hg : a.eval g = .func (.func gf) #[] lb) (eg : ∀ args w, (callFunc gf args).run P w = .ok (.enter gf args) w)
    {l dB : Nat} {mark : List Deferred} {W1 : FuncId → World}
    (he : ∀ fn, (Instr.enterLoop fn a.tmps ps assign body ro).run P w = .ok (l, mark) (W1 fn))
    (hb1 : ∀ fn, Below w.heap.size w (W1 fn)) (hl1 : ∀ fn, (W1 fn).heap[l]? = some (.loop { state := .ready, pending := none, fn, tmps := a.tmps, params := ps, assign, body, defers := dB }))
    (hlw : w.heap.size ≤ l) (hnew : ∀ fn k, w.heap.size ≤ k → ¬ IsRow gt (W1 fn) k)
    {encs : α → Array Value} {xs : List α} {S : Nat → Prop} (hS : ∀ k, S k → k < w.heap.size) {w0 : World} (hseq : TellsG gt P gf lb encs xs S w0) (hw0 : Below w0.heap.size w0 w) (hps : ∀ x, (encs x).size = ps.size)
    (I : List α → World → Prop) (Ix : Code → List α → World → Prop) (hI : LowG gt w.heap.size I) (hIx : ∀ c, LowG gt w.heap.size (Ix c)) (h0 : I [] w)
    (hround : ∀ (l : Nat) (pre : List α) (x : α) (W : World) (K : Act → World → Prop), w.heap.size ≤ l → (∃ r, W.heap[l]? = some (.loop r)) → w.heap.size ≤ W.heap.size → pre ++ [x] <+: xs → I pre W →
      (∀ a' Wa, Kept (fun _ => False) W Wa → (∀ Wb, Kept (fun k => k = l) Wa Wb → (∃ r, Wb.heap[l]? = some (.loop r)) → body.wpIn ({ Fence.wide with round := some l }) (n - 1 - 1) P (roundG gt w.heap.size S I Ix (pre ++ [x]) Wb) a' Wb) → K a' Wa) →
      assign.wpIn ({ Fence.wide with round := some l }) (n - 1 - 1) P (Exit.then K (fun _ _ _ => False)) { tmps := (ps.zip (encs x)).foldl (fun t (p, v) => t.setIfInBounds p v) a.tmps, defers := [] } W)
    (hdone : ∀ (fn : FuncId) (W : World), I xs W → Kept (fun k => S k ∨ k = l) (W1 fn) W → Q .normal { a with defers := mark ++ a.defers } W)
    (hstop : ∀ (fn : FuncId) (c : Code) (pre : List α) (W : World), pre <+: xs → Ix c pre W → Kept (fun k => S k ∨ k = l) (W1 fn) W → c.wpIn { Fence.wide with round := ro } n P Q { a with defers := mark ++ a.defers } W) :
    (Code.rangeFunc g ps assign body).wpIn { Fence.wide with round := ro } n P Q a w := by
  refine wpIn_rangeFunc ?_
  intro fn hfn
  have hls : l < (W1 fn).heap.size := (Array.getElem?_eq_some_iff.1 (hl1 fn)).1
  obtain ⟨rec, hrec⟩ : ∃ rec : LoopState → Option Code → Loop, rec = fun st pe => { state := st, pending := pe, fn, tmps := a.tmps, params := ps, assign, body, defers := dB } := ⟨_, rfl⟩
  have hl1' : (W1 fn).heap[l]? = some (.loop (rec .ready none)) := by rw [hrec]; exact hl1 fn
  have hbw := hb1 fn
  have hnS : ¬ S l := fun e => by have := hS l e; omega
  refine ⟨l, mark, W1 fn, { target := .fn (.func gf) lb, args := #[.func (.yield l) #[] #[]] }, W1 fn, gf, #[.func (.yield l) #[] #[]] ++ lb, W1 fn, he fn, ?_, fun _ _ => trivial, ?_, fun h => by simp [Fence.wide] at h, ?_⟩
  · simp only [resolve, hg]
    simp [go_sem]
  · simp [invoke, go_sem, eg]
  have hIW : I [] (W1 fn) := hI _ _ _ (⟨hbw.os, hbw.tape, hbw.output, hbw.size, fun k hk hs => hbw.block k (by omega)⟩) h0
  have hlow : ∀ s, LowG gt (W1 fn).heap.size (fun (pre : List α) W => I pre W ∧ W.heap[l]? = some (.loop s) ∧ Kept (fun k => S k ∨ k = l) (W1 fn) W) := fun s =>
    (hI.mono hbw.size).and ((low_heap _ l _ hls).and (low_kept _ _ _ (Nat.le_refl _))).gp
  refine CallsIn.mono (R := fun e W' => (∃ v, e = .returned v) ∧ ((I xs W' ∧ W'.heap[l]? = some (.loop (rec .ready none)) ∧ Kept (fun k => S k ∨ k = l) (W1 fn) W') ∨ ∃ pre, pre <+: xs ∧ ∃ c, Ix c pre W' ∧ W'.heap[l]? = some (.loop (rec .done (some c))) ∧ Kept (fun k => S k ∨ k = l) (W1 fn) W')) ?_ ?_
  · refine hseq (n - 1) l (fun pre W => I pre W ∧ W.heap[l]? = some (.loop (rec .ready none)) ∧ Kept (fun k => S k ∨ k = l) (W1 fn) W)
      (fun pre W => ∃ c, Ix c pre W ∧ W.heap[l]? = some (.loop (rec .done (some c))) ∧ Kept (fun k => S k ∨ k = l) (W1 fn) W)
      (W1 fn) (hw0.trans (hbw.mono hw0.size)) hls (hlow _)
      (fun s A C hk hj => by
        obtain ⟨c, h1, h2, h3⟩ := hj
        exact ⟨c, ((hIx c).mono hbw.size) s A C hk h1, (low_heap (β := Unit) _ l _ hls).gp () A C hk h2, (low_kept (β := Unit) _ _ _ (Nat.le_refl _)).gp () A C hk h3⟩)
      ?_ ⟨hIW, hl1', Kept.refl _ _⟩
    rintro pre x W hpre ⟨hi, hl, hkW⟩
    have hlt : l < W.heap.size := (Array.getElem?_eq_some_iff.1 hl).1
    have hy := run_yield (P := P) (args := encs x) hl (by rw [hrec]; exact hps x)
    rw [hrec] at hy
    refine ⟨fn, _, assign, body, hy, roundIn_of_wpIn hfn (hround l pre x W _ hlw ⟨_, hl⟩ (Nat.le_trans hbw.size hkW.size) hpre hi ?_)⟩
    clear hy
    intro a' Wa hka hbody
    have hla : Wa.heap[l]? = some (.loop (rec .ready none)) := (hka.block l hlt id).trans hl
    have hlta : l < Wa.heap.size := (Array.getElem?_eq_some_iff.1 hla).1
    refine ⟨_, run_beginRound hla (by rw [hrec]), ?_⟩
    obtain ⟨Wb, hWb⟩ : ∃ Wb, Wa.putObj l (.loop { rec .ready none with state := .busy }) = Wb := ⟨_, rfl⟩
    have hgb := grownBy_putObj' Wa l (.loop { rec .ready none with state := .busy })
    rw [hWb] at hgb
    have hlb : Wb.heap[l]? = some (.loop { rec .ready none with state := .busy }) := by rw [← hWb]; exact World.putObj_heap_same hlta
    rw [hWb]
    refine wpIn_mono (hbody Wb ⟨hgb.os, hgb.tape, hgb.output, hgb.size, fun k hk hs => hgb.block k hk (fun e => hs (by cases e; rfl))⟩ ⟨_, hlb⟩) ?_
    have fin : ∀ (jump : Option Code) (W3 : World), Kept (Gst gt w.heap.size S Wb) Wb W3 →
        (Instr.endRound l jump).run P W3 = .ok (.bool jump.isNone) (W3.putObj l (.loop (rec (if jump.isNone then .ready else .done) jump))) ∧
        (W3.putObj l (.loop (rec (if jump.isNone then .ready else .done) jump))).heap[l]? = some (.loop (rec (if jump.isNone then .ready else .done) jump)) ∧
        Kept (fun k => Gst gt (W1 fn).heap.size S W k ∨ k = l) W (W3.putObj l (.loop (rec (if jump.isNone then .ready else .done) jump))) ∧
        Kept (fun k => S k ∨ k = l) (W1 fn) (W3.putObj l (.loop (rec (if jump.isNone then .ready else .done) jump))) ∧
        Kept (fun k => w.heap.size ≤ k ∧ ¬ IsRow gt W3 k) W3 (W3.putObj l (.loop (rec (if jump.isNone then .ready else .done) jump))) := fun jump W3 hk3 => by
      have hnG : ¬ Gst gt w.heap.size S Wb l := fun e => e.elim hnS fun e => by
        obtain ⟨cs, f, g9, e, h9⟩ := e.2
        rw [hlb] at e; cases e
      have hl3 : W3.heap[l]? = some (.loop { rec .ready none with state := .busy }) := (hk3.block l (Array.getElem?_eq_some_iff.1 hlb).1 hnG).trans hlb
      have hr := run_endRound (P := P) jump hl3
      have hk4 := kept_putObj (fun k => k = l) W3 l (.loop (rec (if jump.isNone then .ready else .done) jump)) rfl
      have h5 : Kept (fun k => Gst gt (W1 fn).heap.size S W k ∨ k = l) W (W3.putObj l (.loop (rec (if jump.isNone then .ready else .done) jump))) := by
        refine ⟨hk4.os.trans (hk3.os.trans (hgb.os.trans hka.os)), hk4.tape.trans (hk3.tape.trans (hgb.tape.trans hka.tape)), hk4.output.trans (hk3.output.trans (hgb.output.trans hka.output)), Nat.le_trans hka.size (Nat.le_trans hgb.size (Nat.le_trans hk3.size hk4.size)), fun k hk hs => ?_⟩
        have hne : k ≠ l := fun e => hs (.inr e)
        have ea : Wa.heap[k]? = W.heap[k]? := hka.block k hk id
        have eb : Wb.heap[k]? = W.heap[k]? := (hgb.block k (Nat.lt_of_lt_of_le hk hka.size) (fun e => hne (by cases e; rfl))).trans ea
        have e3 : W3.heap[k]? = W.heap[k]? := by
          refine (hk3.block k (Nat.lt_of_lt_of_le hk (Nat.le_trans hka.size hgb.size)) fun e => ?_).trans eb
          rcases e with e | ⟨h1, cs, f, g9, h2, h9⟩
          · exact hs (.inl (.inl e))
          · rw [eb] at h2
            by_cases hm : (W1 fn).heap.size ≤ k
            · exact hs (.inl (.inr ⟨hm, cs, f, g9, h2, h9⟩))
            · have := hkW.block k (Nat.lt_of_not_le hm) (fun e => hs (e.elim (fun e => .inl (.inl e)) .inr))
              exact hnew fn k h1 ⟨cs, f, g9, this.symm.trans h2, h9⟩
        exact (hk4.block k (Nat.lt_of_lt_of_le hk (Nat.le_trans hka.size (Nat.le_trans hgb.size hk3.size))) hne).trans e3
      refine ⟨by rw [hrec] at hr ⊢; exact hr, World.putObj_heap_same (Array.getElem?_eq_some_iff.1 hl3).1, h5, ?_, kept_putObj _ W3 l _ ⟨hlw, fun ⟨_, _, _, e, _⟩ => by rw [hl3] at e; cases e⟩⟩
      refine ⟨h5.os.trans hkW.os, h5.tape.trans hkW.tape, h5.output.trans hkW.output, Nat.le_trans hkW.size h5.size, fun k hk hs => ?_⟩
      exact (h5.block k (Nat.lt_of_lt_of_le hk hkW.size) (fun e => hs (e.elim (fun e => e.elim .inl (fun e => absurd e.1 (by omega))) .inr))).trans (hkW.block k hk hs)
    rintro e a3 W3 hp
    cases e with
    | normal =>
      obtain ⟨hk3, hi3⟩ := hp
      obtain ⟨hr, hl4, hk4, hk6, hk5⟩ := fin none W3 hk3
      refine ⟨_, _, hr, .inl ⟨rfl, ⟨hI _ _ _ hk5 hi3, hl4, hk6⟩, ?_⟩⟩
      refine ⟨hk4.os, hk4.tape, hk4.output, hk4.size, fun k hk hs => ?_⟩
      by_cases e : k = l
      · subst e; exact hl4.trans hl.symm
      · exact hk4.block k hk (fun e' => e'.elim hs e)
    | ret =>
      obtain ⟨hk3, hi3⟩ := hp
      obtain ⟨hr, hl4, hk4, hk6, hk5⟩ := fin (some .ret) W3 hk3
      exact ⟨_, _, hr, .inr ⟨rfl, ⟨.ret, (hIx _) _ _ _ hk5 hi3, hl4, hk6⟩, hk4⟩⟩
    | exit id =>
      obtain ⟨hk3, hi3⟩ := hp
      obtain ⟨hr, hl4, hk4, hk6, hk5⟩ := fin (some (.exit id)) W3 hk3
      exact ⟨_, _, hr, .inr ⟨rfl, ⟨.exit id, (hIx _) _ _ _ hk5 hi3, hl4, hk6⟩, hk4⟩⟩
    | goto t =>
      obtain ⟨hk3, hi3⟩ := hp
      obtain ⟨hr, hl4, hk4, hk6, hk5⟩ := fin (some (.goto t)) W3 hk3
      exact ⟨_, _, hr, .inr ⟨rfl, ⟨.goto t, (hIx _) _ _ _ hk5 hi3, hl4, hk6⟩, hk4⟩⟩
    | panic ch => exact hp.elim
    | outgrown => exact hp.elim
  · rintro e W2 ⟨⟨v, rfl⟩, (⟨hi, hl, hk⟩ | ⟨pre, hpre, c, hi, hl, hk⟩)⟩
    · refine ⟨none, _, by have := run_endLoop (P := P) hl (by rw [hrec]; simp); rw [hrec] at this; exact this, hdone fn _ (hI _ _ _ (kept_putObj _ W2 l _ ⟨hlw, fun ⟨_, _, _, e, _⟩ => by rw [hl] at e; cases e⟩) hi) (hk.trans (kept_putObj _ W2 l _ (.inr rfl)))⟩
    · refine ⟨some c, _, by have := run_endLoop (P := P) hl (by rw [hrec]; simp); rw [hrec] at this; exact this, hstop fn c pre _ hpre ((hIx c) _ _ _ (kept_putObj _ W2 l _ ⟨hlw, fun ⟨_, _, _, e, _⟩ => by rw [hl] at e; cases e⟩) hi) (hk.trans (kept_putObj _ W2 l _ (.inr rfl)))⟩
/-- An outermost loop. -/
theorem rangeG_outer {α : Type} {n : Nat} {P : Program} {g : Operand} {ps : Array Tmp} {assign body : Code} {Q : Exit → Act → World → Prop} {a : Act} {w : World}
    {gt : TypeId → Prop} {gf : Nat} {lb : Array Value} (hg : a.eval g = .func (.func gf) #[] lb) (eg : ∀ args w, (callFunc gf args).run P w = .ok (.enter gf args) w)
    {encs : α → Array Value} {xs : List α} {S : Nat → Prop} (hS : ∀ k, S k → k < w.heap.size) {w0 : World} (hseq : TellsG gt P gf lb encs xs S w0) (hw0 : Below w0.heap.size w0 w) (hps : ∀ x, (encs x).size = ps.size)
    (I : List α → World → Prop) (Ix : Code → List α → World → Prop) (hI : LowG gt w.heap.size I) (hIx : ∀ c, LowG gt w.heap.size (Ix c)) (h0 : I [] w)
    (hround : ∀ (l : Nat) (pre : List α) (x : α) (W : World) (K : Act → World → Prop), w.heap.size ≤ l → (∃ r, W.heap[l]? = some (.loop r)) → w.heap.size ≤ W.heap.size → pre ++ [x] <+: xs → I pre W →
      (∀ a' Wa, Kept (fun _ => False) W Wa → (∀ Wb, Kept (fun k => k = l) Wa Wb → (∃ r, Wb.heap[l]? = some (.loop r)) → body.wpIn (Fence.wide.inRound l) (n - 1 - 1) P (roundG gt w.heap.size S I Ix (pre ++ [x]) Wb) a' Wb) → K a' Wa) →
      assign.wpIn (Fence.wide.inRound l) (n - 1 - 1) P (Exit.then K (fun _ _ _ => False)) { tmps := (ps.zip (encs x)).foldl (fun t (p, v) => t.setIfInBounds p v) a.tmps, defers := [] } W)
    (hdone : ∀ (W : World), I xs W → Kept S w W → W.heap[w.heap.size]? = some (.deferred (some [])) → Q .normal { a with defers := { target := .collected w.heap.size, args := #[] } :: a.defers } W)
    (hstop : ∀ (c : Code) (pre : List α) (W : World), pre <+: xs → Ix c pre W → Kept S w W → W.heap[w.heap.size]? = some (.deferred (some [])) → c.wpIn Fence.wide n P Q { a with defers := { target := .collected w.heap.size, args := #[] } :: a.defers } W) :
    (Code.rangeFunc g ps assign body).wpIn Fence.wide n P Q a w := by
  have hb1 : ∀ o1 o2, Below w.heap.size w ((w.alloc o1).alloc o2) := fun o1 o2 => ((Below.refl _ w).alloc (Nat.le_refl _) _).alloc (by simp) _
  have back : ∀ (o : Obj) (W : World), Kept (fun k => S k ∨ k = w.heap.size + 1) ((w.alloc (.deferred (some []))).alloc o) W → Kept S w W ∧ W.heap[w.heap.size]? = some (.deferred (some [])) := fun o W hk => by
    have hb := hb1 (.deferred (some [])) o
    have hd : ((w.alloc (.deferred (some []))).alloc o).heap[w.heap.size]? = some (.deferred (some [])) := (Below.heap_alloc _ _ _ (by simp)).trans (World.alloc_heap_new w _)
    refine ⟨⟨hk.os.trans hb.os, hk.tape.trans hb.tape, hk.output.trans hb.output, Nat.le_trans hb.size hk.size, fun k hk' hs => (hk.block k (Nat.lt_of_lt_of_le hk' hb.size) (fun e => e.elim hs (fun e => by omega))).trans (hb.block k hk')⟩, ?_⟩
    exact (hk.block _ (by simp; omega) (fun e => e.elim (fun e => by have := hS _ e; omega) (fun e => by omega))).trans hd
  exact rangeG_core (ro := none) (W1 := fun fn => (w.alloc (.deferred (some []))).alloc (.loop { state := .ready, pending := none, fn, tmps := a.tmps, params := ps, assign, body, defers := w.heap.size })) (l := w.heap.size + 1) (dB := w.heap.size) hg eg (fun fn => run_enterLoop_outer _ _ _ _ _) (fun fn => hb1 _ _)
    (fun fn => by have := World.alloc_heap_new (w.alloc (.deferred (some []))) (.loop { state := .ready, pending := none, fn, tmps := a.tmps, params := ps, assign, body, defers := w.heap.size }); rwa [World.size_alloc] at this)
    (by omega) (fun fn k hk => not_rows2 w _ _ (fun _ _ _ e => by cases e) (fun _ _ _ e => by cases e) k hk) hS hseq hw0 hps I Ix hI hIx h0 hround
    (fun fn W hi hk => hdone W hi (back _ W hk).1 (back _ W hk).2) (fun fn c pre W hp hi hk => hstop c pre W hp hi (back _ W hk).1 (back _ W hk).2)
/-- A loop within a round. -/
theorem rangeG_inner {α : Type} {n : Nat} {P : Program} {g : Operand} {ps : Array Tmp} {assign body : Code} {Q : Exit → Act → World → Prop} {a : Act} {w : World}
    {l₀ : Nat} (hl₀ : ∃ r₀, w.heap[l₀]? = some (.loop r₀))
    {gt : TypeId → Prop} {gf : Nat} {lb : Array Value} (hg : a.eval g = .func (.func gf) #[] lb) (eg : ∀ args w, (callFunc gf args).run P w = .ok (.enter gf args) w)
    {encs : α → Array Value} {xs : List α} {S : Nat → Prop} (hS : ∀ k, S k → k < w.heap.size) {w0 : World} (hseq : TellsG gt P gf lb encs xs S w0) (hw0 : Below w0.heap.size w0 w) (hps : ∀ x, (encs x).size = ps.size)
    (I : List α → World → Prop) (Ix : Code → List α → World → Prop) (hI : LowG gt w.heap.size I) (hIx : ∀ c, LowG gt w.heap.size (Ix c)) (h0 : I [] w)
    (hround : ∀ (l : Nat) (pre : List α) (x : α) (W : World) (K : Act → World → Prop), w.heap.size ≤ l → (∃ r, W.heap[l]? = some (.loop r)) → w.heap.size ≤ W.heap.size → pre ++ [x] <+: xs → I pre W →
      (∀ a' Wa, Kept (fun _ => False) W Wa → (∀ Wb, Kept (fun k => k = l) Wa Wb → (∃ r, Wb.heap[l]? = some (.loop r)) → body.wpIn (Fence.wide.inRound l) (n - 1 - 1) P (roundG gt w.heap.size S I Ix (pre ++ [x]) Wb) a' Wb) → K a' Wa) →
      assign.wpIn (Fence.wide.inRound l) (n - 1 - 1) P (Exit.then K (fun _ _ _ => False)) { tmps := (ps.zip (encs x)).foldl (fun t (p, v) => t.setIfInBounds p v) a.tmps, defers := [] } W)
    (hdone : ∀ (W : World), I xs W → Kept S w W → Q .normal a W)
    (hstop : ∀ (c : Code) (pre : List α) (W : World), pre <+: xs → Ix c pre W → Kept S w W → c.wpIn (Fence.wide.inRound l₀) n P Q a W) :
    (Code.rangeFunc g ps assign body).wpIn (Fence.wide.inRound l₀) n P Q a w := by
  obtain ⟨r₀, hl₀⟩ := hl₀
  have hb1 : ∀ o, Below w.heap.size w (w.alloc o) := fun o => (Below.refl _ w).alloc (Nat.le_refl _) _
  have back : ∀ (o : Obj) (W : World), Kept (fun k => S k ∨ k = w.heap.size) (w.alloc o) W → Kept S w W := fun o W hk => by
    have hb := hb1 o
    exact ⟨hk.os.trans hb.os, hk.tape.trans hb.tape, hk.output.trans hb.output, Nat.le_trans hb.size hk.size, fun k hk' hs => (hk.block k (Nat.lt_of_lt_of_le hk' hb.size) (fun e => e.elim hs (fun e => by omega))).trans (hb.block k hk')⟩
  exact rangeG_core (ro := some l₀) (mark := []) (W1 := fun fn => w.alloc (.loop { state := .ready, pending := none, fn, tmps := a.tmps, params := ps, assign, body, defers := r₀.defers })) (l := w.heap.size) (dB := r₀.defers) hg eg (fun fn => run_enterLoop_inner hl₀ _ _ _ _ _) (fun fn => hb1 _)
    (fun fn => World.alloc_heap_new w _) (Nat.le_refl _) (fun fn k hk => not_rows1 w _ (fun _ _ _ e => by cases e) k hk) hS hseq hw0 hps I Ix hI hIx h0 hround
    (fun fn W hi hk => hdone W hi (back _ W hk)) (fun fn c pre W hp hi hk => hstop c pre W hp hi (back _ W hk))
end Go.Proofs.Ytgdpplipahhffaa.Gp
namespace Go.Proofs.Ytgdpplipahhffaa.Gp
open Go.RowKit
set_option linter.unusedVariables false
set_option linter.unusedSimpArgs false

set_option maxHeartbeats 4000000 in
set_option maxRecDepth 100000 in
theorem each_tellsG {W : Nat} (gt : TypeId → Prop) (hgt : ¬ gt 121) (w : World) {k : Nat} {a : Option Nat} {N : List (Nd Int)} (hH : HangI W w k a N) (bn : Nat) (hbn : Blk w bn #[pt a] 82) (S : Nat → Prop) (hS : ∀ k, S k → k < w.heap.size) (hSN : Off S N) :
    TellsG gt Try.prog 67 #[.pointer (some ⟨bn, 0, none⟩)] (fun x : Nd Int => #[Value.pointer (some ⟨x.blk, 0, none⟩)]) N S w := by
  intro n l J Jx w1 hW hl hJ hJx hY h0
  have hs := hW.size
  obtain ⟨S', hS'⟩ : ∃ S' : Nat → Prop, S' = fun k => S k ∨ (w1.heap.size ≤ k ∧ k ≠ w1.heap.size ∧ k ≠ w1.heap.size + 1) := ⟨_, rfl⟩
  have hn1 : ¬ S' w1.heap.size := by rw [hS']; exact fun e => e.elim (fun e => by have := hS _ e; omega) (fun e => e.2.1 rfl)
  have hn2 : ¬ S' (w1.heap.size + 1) := by rw [hS']; exact fun e => e.elim (fun e => by have := hS _ e; omega) (fun e => e.2.2 rfl)
  have hoff : Off S' N := fun x hx => by
    rw [hS']
    exact ⟨fun e => e.elim (hSN x hx).1 (by have := (hH.blks x hx).1; omega), fun t v ht e => e.elim ((hSN x hx).2 t v ht) (by have := (hH.blks x hx).2 t v ht; omega)⟩
  have CW : Hid (∀ w3, Below w1.heap.size w1 w3 → Blk w3 w1.heap.size #[.func (.yield l) #[] #[]] 121 → Blk w3 (w1.heap.size + 1) #[.func (.func 68) #[] #[.pointer (some ⟨w1.heap.size, 0, none⟩), .pointer (some ⟨w1.heap.size + 1, 0, none⟩)]] 121 →
      CallsIn Fence.wide (n - 1) Try.prog 68 #[pt a, .pointer (some ⟨w1.heap.size, 0, none⟩), .pointer (some ⟨w1.heap.size + 1, 0, none⟩)] w3 fun e w' => ∃ bb : Bool, e = .returned (.bool bb) ∧ Hid (J N w' ∨ ∃ pre, pre <+: N ∧ Jx pre w')) := fun w3 h3 b1 b2 => by
    have hJb : ∀ s A C, Below A.heap.size A C → J s A → J s C := fun s A C hb hj => hJ s A C (Kept.of_below hb) hj
    have := walk_core (W := W) w1.heap.size (w1.heap.size + 1) l N S' hn1 hn2
      (fun pre V => J pre V ∧ Blk V w1.heap.size #[.func (.yield l) #[] #[]] 121 ∧ Blk V (w1.heap.size + 1) #[.func (.func 68) #[] #[.pointer (some ⟨w1.heap.size, 0, none⟩), .pointer (some ⟨w1.heap.size + 1, 0, none⟩)]] 121) Jx
      (fun s A C hb hj => ⟨hJb s A C hb hj.1, hj.2.1.below hb, hj.2.2.below hb⟩)
      (fun m pre x W1 hpre hj => by
        obtain ⟨fn, tmps, assign, body, g1, g2⟩ := yield_any (m' := m) (hY pre x W1 hpre hj.1)
        have hk : ∀ k, k < W1.heap.size → Gst gt w1.heap.size S W1 k → S' k := fun k _ e => by
          rw [hS']
          rcases e with e | ⟨e, cs, f, g9, hr, h9⟩
          · exact .inl e
          · refine .inr ⟨e, ?_, ?_⟩
            · rintro rfl
              have := hj.2.1
              unfold Blk at this
              rw [this] at hr
              cases hr; exact hgt h9
            · rintro rfl
              have := hj.2.2
              unfold Blk at this
              rw [this] at hr
              cases hr; exact hgt h9
        refine ⟨fn, tmps, assign, body, g1, g2.mono ?_⟩
        rintro e W' (⟨rfl, k1, k2⟩ | ⟨rfl, k1, k2⟩)
        · have k3 := k2.mono hk
          exact .inl ⟨rfl, ⟨k1, hj.2.1.kept k3 hn1, hj.2.2.kept k3 hn2⟩, k3⟩
        · exact .inr ⟨rfl, k1, k2.mono fun k hk' e => e.elim (fun e => .inl (hk k hk' e)) .inr⟩)
      k (n - 1) a N [] w3 ((hH.below hW).below h3) hoff (by simp) ⟨hJb _ _ _ h3 h0, b1, b2⟩ b1 b2
    refine this.mono ?_
    rintro e w' (⟨rfl, H⟩ | ⟨rfl, H⟩)
    · exact ⟨true, rfl, .inl H.out.1.1⟩
    · exact ⟨false, rfl, .inr H.out⟩
  have HB : Hid _ := two_new' w1 #[.func (.yield l) #[] #[]] #[.func (.func 68) #[] #[.pointer (some ⟨w1.heap.size, 0, none⟩), .pointer (some ⟨w1.heap.size + 1, 0, none⟩)]] 121 121
  have HN : Hid (Blk w1 bn #[pt a] 82) := hbn.below hW
  have hbl := hbn.lt
  have hbl1 := HN.out.lt
  clear hH hbn hY hJ hJx hoff hn1 hn2 h0 hSN hS hS'
  generalize pt a = P0 at *
  refine callsIn_of_wp Try.func67 rfl trivial ?_ rfl
  simp only [Try.ntmps67, List.size_toArray, List.length_cons, List.length_nil, Nat.reduceAdd, Nat.reduceSub, Array.replicate_succ, Array.replicate_zero, List.push_toArray, List.append_toArray, List.nil_append, List.cons_append]
  gi_upto_region 3 with fail
  generalize ((w1.alloc _).alloc _) = w2 at HB ⊢
  have x1 := HB.out.2.1.cell 0 (v := .func (.func 68) #[] #[.pointer (some ⟨w1.heap.size, 0, none⟩), .pointer (some ⟨w1.heap.size + 1, 0, none⟩)]) rfl
  have x0 := (HN.out.below HB.out.2.2.1).cell 0 (v := P0) rfl
  gi_wp2_with fail
  refine ⟨trivial, no_depth _, ?_⟩
  refine (CW.out _ HB.out.2.2.1 HB.out.1 HB.out.2.1).mono ?_
  rintro e w3 ⟨bb, rfl, H3⟩
  clear CW HB HN x0 x1
  gi_wp2_with fail
  go_end0
  exact ⟨⟨_, rfl⟩, H3.out⟩
end Go.Proofs.Ytgdpplipahhffaa.Gp
namespace Go.Proofs.Ytgdpplipahhffaa.Gp
open Go.RowKit
set_option linter.unusedVariables false
set_option linter.unusedSimpArgs false

attribute [local go_sem] Oper.semAt_some
set_option maxHeartbeats 4000000 in
set_option maxRecDepth 100000 in
theorem under_tellsG (gt : TypeId → Prop) (hg1 : ¬ gt 121) (hg2 : ¬ gt 90) {w : World} {q W most : Nat} {a : Option Nat} {n : Nat} {N : List (Nd Int)} (hT : TrieAt w q W most a n N) {p : List Bool} (hp : p.length ≤ W)
    (bt bp : Nat) (hbt : Blk w bt #[.pointer (some ⟨q, 0, none⟩)] 24) (hbp : Blk w bp #[.int .u64 (hiOf (valOf W p)), .int .u64 (loOf (valOf W p)), .int .i64 p.length] 51) (S : Nat → Prop) (hS : ∀ k, S k → k < w.heap.size) (hSN : Off S N) :
    TellsG gt Try.prog 48 #[.pointer (some ⟨bt, 0, none⟩), .pointer (some ⟨bp, 0, none⟩)] (fun y : List Bool × Int => #[Pf (valOf W y.1) y.1.length, .int .i64 y.2]) (kept (undN p N)) S w := by
  intro m l J Jx W1 hW hl hJ hJx hY h0
  obtain ⟨h1, h2⟩ := hT.wd
  have hs := hW.size
  have HT : Hid (TrieAt W1 q W most a n N) := hT.below hW
  have HBT : Hid (Blk W1 bt #[.pointer (some ⟨q, 0, none⟩)] 24) := hbt.below hW
  have HBP : Hid (Blk W1 bp #[.int .u64 (hiOf (valOf W p)), .int .u64 (loOf (valOf W p)), .int .i64 p.length] 51) := hbp.below hW
  have HJ : Hid (LowG gt W1.heap.size J ∧ LowG gt W1.heap.size Jx) := ⟨hJ, hJx⟩
  have H0 : Hid (J [] W1) := h0
  have HY : Hid (∀ pre x W2, pre ++ [x] <+: kept (undN p N) → J pre W2 → YieldAt Fence.wide (m - 1) Try.prog l #[Pf (valOf W x.1) x.1.length, .int .i64 x.2] W2 fun e W' =>
      (e = .returned (.bool true) ∧ J (pre ++ [x]) W' ∧ Kept (Gst gt W1.heap.size S W2) W2 W') ∨ (e = .returned (.bool false) ∧ Jx (pre ++ [x]) W' ∧ Kept (fun k => Gst gt W1.heap.size S W2 k ∨ k = l) W2 W')) := hY
  have HMN : Hid (∀ x ∈ undN p N, x ∈ N) := fun x hx => (List.mem_filter.1 hx).1
  have HNB : Hid (∀ x ∈ N, x.blk < w.heap.size ∧ ∀ t v, x.th = some (t, v) → t < w.heap.size) := hT.hang.blks
  have HSN : Hid (Off S N) := hSN
  have CU : Hid (∀ w2, Below W1.heap.size W1 w2 → CallsIn Fence.wide (m - 1) Try.prog 51 #[.pointer (some ⟨q, 0, none⟩), Pf (valOf W p) p.length] w2 fun e w' => ∃ a', e = .returned (pt a') ∧ Hid ((∃ n', HangI W w' n' a' (undN p N)) ∧ Below w2.heap.size w2 w')) := fun w2 hb => callsIn_wide.2 (under51 h1 h2 hp q w2 _ _ a (HT.out.below hb).hd (HT.out.below hb).hang)
  have C49 : Hid (∀ w1, CallsIn Fence.wide (m - 1) Try.prog 49 #[Pf (valOf W p) p.length, .int .i64 W] w1 fun e w' => e = .returned (.bool true) ∧ Below w1.heap.size w1 w') := fun w1 => callsIn_wide.2 (by
    have := isPrefix_any (valOf W p) (val_is h2 hp) p.length W h1 h2 w1
    rw [isP_mk hp] at this; exact this)
  have C50 : Hid (∀ (a : Option Nat) w1, CallsIn Fence.wide (m - 1) Try.prog 50 #[pt a] w1 fun e w' => e = .returned (.func (.func 67) #[] #[.pointer (some ⟨w1.heap.size, 0, none⟩)]) ∧ Hid (Blk w' w1.heap.size #[pt a] 82 ∧ Below w1.heap.size w1 w')) := fun a w1 => callsIn_wide.2 (each_any a w1)
  have HL : Hid (∀ x ∈ undN p N, x.blk ≠ l ∧ ∀ t v, x.th = some (t, v) → t ≠ l) := by
    by_cases hM : undN p N = []
    · exact fun x hx => by rw [hM] at hx; cases hx
    · obtain ⟨a', hU⟩ : ∃ y ys, kept (undN p N) = y :: ys := by
        obtain ⟨n', a', hh⟩ := HT.out.hang.und p
        exact List.exists_cons_of_ne_nil (hh.kept_ne hM)
      obtain ⟨ys, hU⟩ := hU
      obtain ⟨fn, tmps, assign, body, g1, _⟩ := hY [] a' W1 (by rw [hU]; exact ⟨ys, rfl⟩) h0
      obtain ⟨r, hr⟩ := yield_loop g1
      intro x hx
      obtain ⟨b0, b1, hn⟩ := HT.out.hang.thing x (HMN.out x hx)
      refine ⟨fun e => ?_, fun t v ht e => ?_⟩
      · have := hn.cells
        unfold Blk at this
        rw [e, hr] at this; cases this
      · have := hn.thing t v ht
        unfold Blk at this
        rw [e, hr] at this; cases this
  have hmix : Try.prog.follows .mixedOrders = true := by kernel_rfl
  have HB : Hid _ := one_new W1 #[.func (.yield l) #[] #[]] 90
  have lq := HT.out.hd.lt
  clear hT hbt hbp hJ hJx h0 hY hSN
  refine callsIn_of_wp_marks Try.func48 rfl trivial ?_ rfl
  simp only [Try.ntmps48, List.size_toArray, List.length_cons, List.length_nil, Nat.reduceAdd, Nat.reduceSub, Array.replicate_succ, Array.replicate_zero, List.push_toArray, List.append_toArray, List.nil_append, List.cons_append]
  gi_upto_region 1 with fail
  generalize (W1.alloc _) = w0 at HB ⊢
  have x0 := two_cells (HBP.out.below HB.out.2.1) (i := 0) (v := .int .u64 (hiOf (valOf W p))) rfl
  have x1 := two_cells (HBP.out.below HB.out.2.1) (i := 1) (v := .int .u64 (loOf (valOf W p))) rfl
  have x2 := two_cells (HBP.out.below HB.out.2.1) (i := 2) (v := .int .i64 p.length) rfl
  have z0 := two_cells (HT.out.hd.below HB.out.2.1) (i := 0) (v := .int .i64 W) rfl
  have v0 := two_cells (HBT.out.below HB.out.2.1) (i := 0) (v := .pointer (some ⟨q, 0, none⟩)) rfl
  refine grows_wide hmix (by kernel_rfl) ?_
  repeat (gi_big_quiet_step (fail))
  refine Go.BigFrame.wpQuietIn_want (fun _ _ _ _ => trivial) (by rfl) ?_
  intro K2 hK2
  gi_big_quiet_op
  apply Exists.intro
  refine ⟨fun _ => ?_, ?_⟩
  · exact ⟨no_depth _, calls_gwIn (C49.out _)⟩
  go_big_quiet_on
  repeat (gi_big_quiet_step (fail))
  refine wpQuietIn_nil ?_
  intro wq hwq
  obtain ⟨zq, rfl⟩ := hwq
  have HC : Hid (Blk (gw zq) W1.heap.size #[.func (.yield l) #[] #[]] 90 ∧ Below W1.heap.size W1 (gw zq)) := ⟨HB.out.1.below (gw_below zq), bst HB.out.2.1 (gw_below zq)⟩
  clear x0 x1 x2 z0 v0 C49 HB
  generalize gw zq = w2 at *
  have y0 := (HBP.out.below HC.out.2).cell 0 (v := .int .u64 (hiOf (valOf W p))) rfl
  have y1 := (HBP.out.below HC.out.2).cell 1 (v := .int .u64 (loOf (valOf W p))) rfl
  have y2 := (HBP.out.below HC.out.2).cell 2 (v := .int .i64 p.length) rfl
  have v0 := (HBT.out.below HC.out.2).cell 0 (v := .pointer (some ⟨q, 0, none⟩)) rfl
  gi_wp2_with fail
  refine ⟨trivial, no_depth _, ?_⟩
  refine (CU.out _ HC.out.2).mono ?_
  rintro e w3 ⟨a', rfl, H3⟩
  have C50' := C50.out a'
  obtain ⟨P0, hP0⟩ : ∃ P0, pt a' = P0 := ⟨_, rfl⟩
  rw [hP0] at C50' ⊢
  have C5 : Hid (∀ w1, CallsIn Fence.wide (m - 1) Try.prog 50 #[P0] w1 fun e w' => e = .returned (.func (.func 67) #[] #[.pointer (some ⟨w1.heap.size, 0, none⟩)]) ∧ Hid (Blk w' w1.heap.size #[P0] 82 ∧ Below w1.heap.size w1 w')) := C50'
  clear y0 y1 y2 v0 CU C50 C50'
  gi_wp2_with fail
  refine ⟨trivial, no_depth _, ?_⟩
  refine (C5.out _).mono ?_
  rintro e w4 ⟨rfl, H4⟩
  clear C5
  obtain ⟨n', hh3⟩ := H3.out.1
  have HD : Hid (HangI W w4 n' a' (undN p N) ∧ Blk w4 w3.heap.size #[pt a'] 82 ∧ Blk w4 W1.heap.size #[.func (.yield l) #[] #[]] 90 ∧ Below W1.heap.size W1 w4) := ⟨hh3.below H4.out.2, by rw [hP0]; exact H4.out.1, (HC.out.1.below H3.out.2).below H4.out.2, bst (bst HC.out.2 H3.out.2) H4.out.2⟩
  clear H3 H4 hh3 HC hP0
  generalize w3.heap.size = bn at *
  have hwl := HD.out.2.2.2.size
  have hw1 := HD.out.2.2.1.lt
  obtain ⟨S', hS'⟩ : ∃ S' : Nat → Prop, S' = fun k => S k ∨ k = l ∨ (W1.heap.size ≤ k ∧ k < w4.heap.size ∧ IsRow gt w4 k) := ⟨_, rfl⟩
  have hS4 : ∀ k, S' k → k < w4.heap.size := fun k e => by
    rw [hS'] at e
    rcases e with e | e | e
    · have := hS k e; omega
    · omega
    · exact e.2.1
  have hoff : Off S' (undN p N) := fun x hx => by
    rw [hS']
    have g1 := HNB.out x (HMN.out x hx)
    have g2 := HSN.out x (HMN.out x hx)
    have g3 := HL.out x hx
    exact ⟨fun e => e.elim g2.1 (fun e => e.elim g3.1 (fun e => by have := e.1; have := g1.1; omega)), fun t v ht e => e.elim (g2.2 t v ht) (fun e => e.elim (g3.2 t v ht) (fun e => by have := e.1; have := g1.2 t v ht; omega))⟩
  have hy1 : ¬ S' W1.heap.size := fun e => by
    rw [hS'] at e
    rcases e with e | e | ⟨_, _, cs, f, g9, e, h9⟩
    · have := hS _ e; omega
    · omega
    · have := HD.out.2.2.1
      unfold Blk at this
      rw [this] at e; cases e; exact hg2 h9
  have HO : Hid (Off S' (undN p N) ∧ ¬ S' W1.heap.size) := ⟨hoff, hy1⟩
  have HS' : Hid (S' = fun k => S k ∨ k = l ∨ (W1.heap.size ≤ k ∧ k < w4.heap.size ∧ IsRow gt w4 k)) := hS'
  have HG : Hid (∀ Wb W2, Kept S' w4 Wb → Below Wb.heap.size Wb W2 → ∀ k, k < Wb.heap.size → Gst gt W1.heap.size S W2 k → Gst gt w4.heap.size S' Wb k) := fun Wb W2 hk hb k hkb e => by
    rcases e with e | ⟨e1, cs, f, g9, e2, h9⟩
    · exact .inl (by rw [HS'.out]; exact .inl e)
    · rw [hb.block k hkb] at e2
      by_cases h : k < w4.heap.size
      · refine .inl ?_
        by_cases hs' : S' k
        · exact hs'
        · rw [hk.block k h hs'] at e2
          rw [HS'.out]; exact .inr (.inr ⟨e1, h, cs, f, g9, e2, h9⟩)
      · exact .inr ⟨by omega, cs, f, g9, e2, h9⟩
  have HJ2 : Hid (∀ s A k o, w4.heap.size ≤ k → ¬ IsRow gt A k → J s A → J s (A.putObj k o)) := fun s A k o h1 h2 hj => HJ.out.1 s A _ (kept_putObj _ A k o ⟨by omega, h2⟩) hj
  have HJ3 : Hid (∀ s A k o, w4.heap.size ≤ k → ¬ IsRow gt A k → Jx s A → Jx s (A.putObj k o)) := fun s A k o h1 h2 hj => HJ.out.2 s A _ (kept_putObj _ A k o ⟨by omega, h2⟩) hj
  have hI : LowG gt w4.heap.size (fun (pre : List (Nd Int)) W' => J (kept pre) W' ∧ Kept S' w4 W') := fun s A C hk hj => ⟨HJ.out.1 (kept s) A C (hk.mono fun k _ e => ⟨by omega, e.2⟩) hj.1, (low_kept (β := Unit) _ S' w4 (Nat.le_refl _)).gp () A C hk hj.2⟩
  have hIx : ∀ c, LowG gt w4.heap.size (fun (pre : List (Nd Int)) W' => c = Code.ret ∧ ∃ pre', pre' <+: kept (undN p N) ∧ Jx pre' W') := fun c s A C hk ⟨e, pre', e1, hj⟩ => ⟨e, pre', e1, HJ.out.2 pre' A C (hk.mono fun k _ e => ⟨by omega, e.2⟩) hj⟩
  clear hS'
  have h04 : J (kept ([] : List (Nd Int))) w4 := HJ.out.1 _ _ _ (Kept.of_below HD.out.2.2.2) H0.out
  gi_wp2_with fail
  refine rangeG_outer (gt := gt) (gf := 67) (lb := #[.pointer (some ⟨bn, 0, none⟩)]) (encs := fun x : Nd Int => #[Value.pointer (some ⟨x.blk, 0, none⟩)]) (xs := undN p N) (S := S') rfl (enters_of Try.func67 (by kernel_rfl) rfl)
    hS4 (each_tellsG gt hg1 w4 HD.out.1 bn HD.out.2.1 S' hS4 hoff) (Below.refl _ _) (fun _ => rfl)
    (fun pre W' => J (kept pre) W' ∧ Kept S' w4 W') (fun c pre W' => c = .ret ∧ ∃ pre', pre' <+: kept (undN p N) ∧ Jx pre' W') hI hIx ⟨h04, Kept.refl _ _⟩ ?round ?done ?stop
  case stop =>
    rintro c pre W' _ ⟨rfl, pre', hp', hj⟩ hks hD'
    have HF : Hid (W'.heap[w4.heap.size]? = some (.deferred (some [])) ∧ Jx pre' (W'.putObj w4.heap.size (.deferred none))) := ⟨hD', HJ3.out _ _ _ _ (Nat.le_refl _) (fun ⟨_, _, _, e, _⟩ => by rw [hD'] at e; cases e) hj⟩
    have HP' : Hid (pre' <+: kept (undN p N)) := hp'
    clear hj hks hD' hp'
    gi_wp2_with fail
    refine ⟨by simp, .inl ⟨_, _, rfl, run_takeDeferred HF.out.1, ?_⟩⟩
    refine ⟨.tuple #[], ?_, ⟨_, rfl⟩, .inr ⟨pre', HP'.out, HF.out.2⟩⟩
    simp [results, Try.results48, go_sem]
  case done =>
    rintro W' ⟨hj, hK⟩ hks hD'
    have HF : Hid (W'.heap[w4.heap.size]? = some (.deferred (some [])) ∧ J (kept (undN p N)) (W'.putObj w4.heap.size (.deferred none))) := ⟨hD', HJ2.out _ _ _ _ (Nat.le_refl _) (fun ⟨_, _, _, e, _⟩ => by rw [hD'] at e; cases e) hj⟩
    clear hj hks hD' hK
    gi_wp2_with fail
    refine ⟨by simp, .inl ⟨_, _, rfl, run_takeDeferred HF.out.1, ?_⟩⟩
    refine ⟨.tuple #[], ?_, ⟨_, rfl⟩, .inl HF.out.2⟩
    simp [results, Try.results48, go_sem]
  case round =>
    rintro l' pre x W' K hl' ⟨rl, hlp⟩ hz hpre ⟨hj, hK⟩ hKK
    have hx : x ∈ undN p N := hpre.subset (by simp)
    obtain ⟨b0', b1', hnd⟩ := HD.out.1.thing x hx
    obtain ⟨A4, hA4⟩ : ∃ A : Value, A = pt b0' := ⟨_, rfl⟩
    obtain ⟨A5, hA5⟩ : ∃ A : Value, A = pt b1' := ⟨_, rfl⟩
    gi_wp2_with fail
    refine hKK _ _ (Kept.refl _ _) ?_
    intro Wb hkb hrec
    have hlt' := (Array.getElem?_eq_some_iff.1 hlp).1
    have hjb : J (kept pre) Wb := HJ.out.1 _ _ _ (hkb.mono fun k hk e => by
      have e' : k = l' := e
      subst e'
      exact ⟨by omega, fun ⟨_, _, _, e, _⟩ => by rw [hlp] at e; cases e⟩) hj
    have hKb : Kept S' w4 Wb := ⟨hkb.os.trans hK.os, hkb.tape.trans hK.tape, hkb.output.trans hK.output, Nat.le_trans hK.size hkb.size, fun k hk hs => (hkb.block k (Nat.lt_of_lt_of_le hk hK.size) (fun e => by have e' : k = l' := e; omega)).trans (hK.block k hk hs)⟩
    have eX : Blk Wb x.blk #[.int .u64 (hiOf (valOf W x.key)), .int .u64 (loOf (valOf W x.key)), .int .i64 x.key.length, pt (x.th.map (·.1)), A4, A5] 98 := by
      rw [hA4, hA5]
      exact hnd.cells.kept hKb (HO.out.1 x hx).1
    have eT : ∀ t v, x.th = some (t, v) → Blk Wb t #[encV v] 3 := fun t v ht => (hnd.thing t v ht).kept hKb ((HO.out.1 x hx).2 t v ht)
    have eY : Blk Wb W1.heap.size #[.func (.yield l) #[] #[]] 90 := HD.out.2.2.1.kept hKb HO.out.2
    have HE : Hid (J (kept pre) Wb ∧ Kept S' w4 Wb) := ⟨hjb, hKb⟩
    have HPre : Hid (kept pre ++ ownK x <+: kept (undN p N)) := by rw [← kept_snoc]; exact kept_pre hpre
    clear hA4 hA5 hnd hj hK hKK hkb hrec hpre hx hjb hlp
    cases ht : x.th with
    | none =>
      rw [ht] at eX
      have x3 := two_cells eX (i := 3) (v := .pointer none) rfl
      have HF : Hid (∀ z : Grown Wb, Kept (Gst gt w4.heap.size S' Wb) Wb (gw z) ∧ J (kept (pre ++ [x])) (gw z) ∧ Kept S' w4 (gw z)) := fun z => by
        have e : kept (pre ++ [x]) = kept pre := by rw [kept_snoc]; unfold ownK; rw [ht]; simp
        rw [e]
        exact ⟨Kept.of_below (gw_below z), HJ.out.1 _ _ _ (Kept.of_below (gw_below z)) HE.out.1, HE.out.2.trans (Kept.of_below (gw_below z))⟩
      clear eX ht eT eY
      gi_wp2_with fail
      refine grows_round hmix (by kernel_rfl) (by kernel_rfl) ?_
      repeat (gi_big_quiet_step (fail))
      refine Go.BigFrame.wpQuietIn_skip (fun _ _ _ _ => trivial) (by rfl) ?_
      go_simp
      repeat (gi_big_quiet_step (fail))
      refine wpQuietIn_nil ?_
      intro zq
      gi_wp2_with fail
      exact HF.out zq
    | some t =>
      obtain ⟨t, u⟩ := t
      rw [ht] at eX
      have eT' := eT t u ht
      have x0 := eX.cell 0 (v := .int .u64 (hiOf (valOf W x.key))) rfl
      have x1 := eX.cell 1 (v := .int .u64 (loOf (valOf W x.key))) rfl
      have x2 := eX.cell 2 (v := .int .i64 x.key.length) rfl
      have x3 := eX.cell 3 (v := .pointer (some ⟨t, 0, none⟩)) rfl
      have t0 := eT'.cell 0 (v := .int .i64 u) rfl
      have y0 := eY.cell 0 (v := .func (.yield l) #[] #[]) rfl
      have hown : ownK x = [(x.key, u)] := by unfold ownK; rw [ht]
      have HK : Hid (kept (pre ++ [x]) = kept pre ++ [(x.key, u)] ∧ kept pre ++ [(x.key, u)] <+: kept (undN p N)) := ⟨by rw [kept_snoc, hown], by rw [← hown]; exact HPre.out⟩
      have CT : Hid (∀ W2, Below Wb.heap.size Wb W2 → ∃ fn tmps assign body, (Instr.yield l #[Pf (valOf W x.key) x.key.length, .int .i64 u]).run Try.prog W2 = .ok (.round l fn tmps assign body) W2 ∧ Hid (∀ m', RoundIn Fence.wide m' Try.prog l fn tmps assign body W2 fun e w' => ∃ bb : Bool, e = .returned (.bool bb) ∧ Hid ((bb = true → Kept (Gst gt w4.heap.size S' Wb) Wb w' ∧ J (kept (pre ++ [x])) w' ∧ Kept S' w4 w') ∧ (bb = false → Kept (Gst gt w4.heap.size S' Wb) Wb w' ∧ ∃ pre', pre' <+: kept (undN p N) ∧ Jx pre' w')))) := fun W2 hb2 => by
        obtain ⟨fn, tmps, assign, body, g1, g2⟩ := HY.out (kept pre) (x.key, u) W2 HK.out.2 (HJ.out.1 _ _ _ (Kept.of_below hb2) HE.out.1)
        refine ⟨fn, tmps, assign, body, g1, (fun m' => ?_ : ∀ m', _)⟩
        obtain ⟨fn', tmps', assign', body', g1', g2'⟩ := yield_any (m' := m') ⟨fn, tmps, assign, body, g1, g2⟩
        rw [g1] at g1'
        cases g1'
        refine g2'.mono ?_
        have hgo : ∀ w', Kept (Gst gt W1.heap.size S W2) W2 w' → Kept (Gst gt w4.heap.size S' Wb) Wb w' := fun w' hk => ⟨hk.os.trans hb2.os, hk.tape.trans hb2.tape, hk.output.trans hb2.output, Nat.le_trans hb2.size hk.size, fun k hk' hs => (hk.block k (Nat.lt_of_lt_of_le hk' hb2.size) (fun e => hs (HG.out Wb W2 HE.out.2 hb2 k hk' e))).trans (hb2.block k hk')⟩
        have hgx : ∀ w', Kept (fun k => Gst gt W1.heap.size S W2 k ∨ k = l) W2 w' → Kept (Gst gt w4.heap.size S' Wb) Wb w' := fun w' hk => ⟨hk.os.trans hb2.os, hk.tape.trans hb2.tape, hk.output.trans hb2.output, Nat.le_trans hb2.size hk.size, fun k hk' hs => (hk.block k (Nat.lt_of_lt_of_le hk' hb2.size) (fun e => e.elim (fun e => hs (HG.out Wb W2 HE.out.2 hb2 k hk' e)) (fun e => hs (.inl (by rw [HS'.out]; exact .inr (.inl e)))))).trans (hb2.block k hk')⟩
        have hk4 : ∀ w', Kept (Gst gt w4.heap.size S' Wb) Wb w' → Kept S' w4 w' := fun w' hk => ⟨hk.os.trans HE.out.2.os, hk.tape.trans HE.out.2.tape, hk.output.trans HE.out.2.output, Nat.le_trans HE.out.2.size hk.size, fun k hk' hs => (hk.block k (Nat.lt_of_lt_of_le hk' HE.out.2.size) (fun e => e.elim hs (fun e => by have := e.1; omega))).trans (HE.out.2.block k hk' hs)⟩
        rintro e w' (⟨rfl, hj, hk⟩ | ⟨rfl, hj, hk⟩)
        · exact ⟨true, rfl, (⟨fun _ => ⟨hgo _ hk, by rw [HK.out.1]; exact hj, hk4 _ (hgo _ hk)⟩, fun e => (nomatch e)⟩ : _ ∧ _)⟩
        · exact ⟨false, rfl, (⟨fun e => (nomatch e), fun _ => ⟨hgx _ hk, _, HK.out.2, hj⟩⟩ : _ ∧ _)⟩
      clear eX ht eT eY eT' hown
      gi_wp2_with fail
      gi_cut [40] from 21 (fun t wx => ∃ bb : Bool, t = .bool (!bb) ∧ Hid ((bb = true → Kept (Gst gt w4.heap.size S' Wb) Wb wx ∧ J (kept (pre ++ [x])) wx ∧ Kept S' w4 wx) ∧ (bb = false → Kept (Gst gt w4.heap.size S' Wb) Wb wx ∧ ∃ pre', pre' <+: kept (undN p N) ∧ Jx pre' wx)))
      case first =>
        have x0' := gw_cell x0
        have x1' := gw_cell x1
        have x2' := gw_cell x2
        have x3' := gw_cell x3
        have t0' := gw_cell t0
        have y0' := gw_cell y0
        clear HT HBT HBP HJ H0 HY HMN HNB HSN HL HD HO HG HJ2 HJ3 hI hIx h04 HE HPre HK HS' hS4 hoff hy1 hKb hS hW hs hwl hw1 hz hl' hlt' rl x0 x1 x2 x3 t0 y0
        refine gate_round 17 hmix (by kernel_rfl) (by kernel_rfl) (by kernel_rfl) (by kernel_rfl) ?_
        simp only [List.take_succ_cons, List.take_zero]
        repeat (gi_big_quiet_step (fail))
        refine wpQuietIn_nil ?_
        intro wq hwq
        obtain ⟨zq, rfl⟩ := hwq
        obtain ⟨fn, tmps, assign, body, hyi, HRd⟩ := CT.out (gw zq) (gw_below zq)
        clear CT x0' x1' x2' x3' t0' y0'
        generalize gw zq = w5 at *
        change wpAnyIn _ _ _ _ _ _ 3 (upTo 17 3) _ _
        refine wpAnyIn_ready (rs := [17]) (by kernel_rfl) (by simp) ?_
        refine AllReadyIn.cons rfl (fun K5 hK5 => ?_) AllReadyIn.nil
        go_simp
        refine ⟨no_depth _, ?_⟩
        refine (HRd.out _).mono ?_
        rintro e w7 ⟨bb, rfl, HM7⟩
        refine hK5 _ _ ?_
        clear hK5 K5
        refine wpAnyIn_ready (rs := [18]) (by kernel_rfl) (by simp) ?_
        refine AllReadyIn.cons rfl (fun K5 hK5 => ?_) AllReadyIn.nil
        go_simp
        refine hK5 _ _ ?_
        clear hK5 K5
        refine wpAnyIn_ready (rs := [19]) (by kernel_rfl) (by simp) ?_
        refine AllReadyIn.cons rfl (fun K5 hK5 => ?_) AllReadyIn.nil
        go_simp
        refine hK5 _ _ ?_
        clear hK5 K5
        refine wpAnyIn_done (by kernel_rfl) ?_ _
        gi_wp2_with fail
        go_meet
        exact ⟨bb, rfl, HM7⟩
      case rest =>
        obtain ⟨bb, rfl, HM7⟩ := hcut
        cases bb
        · have HF : Hid (Kept (Gst gt w4.heap.size S' Wb) Wb wc ∧ ∃ pre', pre' <+: kept (undN p N) ∧ Jx pre' wc) := HM7.out.2 rfl
          gi_wp2_with fail
          exact ⟨HF.out.1, rfl, HF.out.2⟩
        · have HF := HM7.out.1 rfl
          gi_wp2_with fail
          exact HF
end Go.Proofs.Ytgdpplipahhffaa.Gp
