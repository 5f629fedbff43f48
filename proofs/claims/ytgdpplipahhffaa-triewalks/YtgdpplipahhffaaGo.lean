/- A range over a function whose rounds keep things in memory of their own: rows of one element type, made in the rounds. Package trie: way, told to rounds that keep rows of their own. -/
import Derived.Test.YtgdpplipahhffaaGq
import Derived.Test.YtgdpplipahhffaaWy
namespace Go.Proofs.Ytgdpplipahhffaa
open Go.RowKit
set_option linter.unusedVariables false
set_option linter.unusedSimpArgs false

/-- append by a name of its own: so that what is known of a run of it is met. -/
def appd (ats : Array TypeId) (ty : TypeId) (args : Array Value) : Sem Value := Builtin.append_ ats ty args
theorem append_appd {ats : Array TypeId} {ty : TypeId} {args : Array Value} : Builtin.append_ ats ty args = appd ats ty args := rfl
/-- A block of rows of type g. -/
def IsRow (g : TypeId) (A : World) (k : Nat) : Prop := ∃ cs f, A.heap[k]? = some (.cells cs g f)
/-- What a round may touch: the blocks of S, and the rows of type g that were made since. -/
def Gst (g : TypeId) (m : Nat) (S : Nat → Prop) (A : World) (k : Nat) : Prop := S k ∨ (m ≤ k ∧ IsRow g A k)
/-- It stands as long as what lies below m and the rows of type g do. -/
def LowG {β : Type} (g : TypeId) (m : Nat) (J : β → World → Prop) : Prop := ∀ s A C, Kept (fun k => m ≤ k ∧ ¬ IsRow g A k) A C → J s A → J s C
theorem LowG.mono {β : Type} {g : TypeId} {m m' : Nat} {J : β → World → Prop} (h : LowG g m J) (hm : m ≤ m') : LowG g m' J := fun s A C hk hj => h s A C (hk.mono (fun k _ e => ⟨Nat.le_trans hm e.1, e.2⟩)) hj
theorem LowG.and {β : Type} {g : TypeId} {m : Nat} {I J : β → World → Prop} (h : LowG g m I) (h' : LowG g m J) : LowG g m (fun s W => I s W ∧ J s W) := fun s A C hk hj => ⟨h s A C hk hj.1, h' s A C hk hj.2⟩
theorem LowG.ex {β γ : Type} {g : TypeId} {m : Nat} {I : γ → β → World → Prop} (h : ∀ c, LowG g m (I c)) : LowG g m (fun s W => ∃ c, I c s W) := fun s A C hk ⟨c, hj⟩ => ⟨c, h c s A C hk hj⟩
theorem Low.g {β : Type} {g : TypeId} {m : Nat} {J : β → World → Prop} (h : Low m J) : LowG g m J := fun s A C hk hj => h s A C (hk.mono fun k _ e => e.1) hj
/-- A row of type g stands. -/
theorem lowG_row {β : Type} (g : TypeId) (m B z : Nat) (v : β → Value) (n : β → Nat) (xs : β → List Value) : LowG g m (fun s W => W.ownsRow B g z (v s) (n s) (xs s)) := fun s A C hk hj =>
  ownsRow_kept hj hk fun k hk' e => by
    rcases hj.2 with ⟨e1, _⟩ | ⟨b, cap, cur, e1, _, hg, _⟩
    · rw [e1] at hk'; simp [Value.ownBlock] at hk'
    · rw [e1] at hk'
      simp [Value.ownBlock] at hk'
      subst hk'
      exact e.2 ⟨_, _, hg⟩
/-- The iterator's word, to rounds that keep rows of type g. -/
def TellsG {α : Type} (gt : TypeId) (P : Program) (g : Nat) (lb : Array Value) (encs : α → Array Value) (xs : List α) (S : Nat → Prop) (w : World) : Prop :=
  ∀ (n l : Nat) (J Jx : List α → World → Prop) (W : World), Below w.heap.size w W → l < W.heap.size → LowG gt W.heap.size J → LowG gt W.heap.size Jx →
    (∀ pre x W1, pre ++ [x] <+: xs → J pre W1 → YieldAt Fence.wide (n - 1) P l (encs x) W1 fun e W' =>
      (e = .returned (.bool true) ∧ J (pre ++ [x]) W' ∧ Kept (Gst gt W.heap.size S W1) W1 W') ∨ (e = .returned (.bool false) ∧ Jx (pre ++ [x]) W' ∧ Kept (fun k => Gst gt W.heap.size S W1 k ∨ k = l) W1 W')) →
    J [] W →
    CallsIn Fence.wide n P g (#[.func (.yield l) #[] #[]] ++ lb) W fun e W' => (∃ v, e = .returned v) ∧ (J xs W' ∨ ∃ pre, pre <+: xs ∧ Jx pre W')
theorem tells_of {α : Type} {gt : TypeId} {P : Program} {g : Nat} {lb : Array Value} {encs : α → Array Value} {xs : List α} {S : Nat → Prop} {w : World} (h : TellsG gt P g lb encs xs S w) : Tells P g lb encs xs S w := by
  intro n l J Jx W h1 h2 h3 h4 h5 h6
  refine h n l J Jx W h1 h2 h3.g h4.g (fun pre x W1 a b => ?_) h6
  obtain ⟨fn, tmps, assign, body, g1, g2⟩ := h5 pre x W1 a b
  refine ⟨fn, tmps, assign, body, g1, g2.mono ?_⟩
  rintro e W' (⟨rfl, k1, k2⟩ | ⟨rfl, k1, k2⟩)
  · exact .inl ⟨rfl, k1, k2.mono fun k _ e => .inl e⟩
  · exact .inr ⟨rfl, k1, k2.mono fun k _ e => e.elim (fun e => .inl (.inl e)) .inr⟩

theorem not_rows1 {gt : TypeId} (w : World) (o : Obj) (h1 : ∀ cs g f, o ≠ .cells cs g f) (k : Nat) (hk : w.heap.size ≤ k) : ¬ IsRow gt (w.alloc o) k := by
  rintro ⟨cs, f, e⟩
  have hlt := (Array.getElem?_eq_some_iff.1 e).1
  rw [World.size_alloc] at hlt
  obtain rfl : k = w.heap.size := by omega
  rw [World.alloc_heap_new] at e
  exact h1 _ _ _ (Option.some.inj e)
theorem not_rows2 {gt : TypeId} (w : World) (o o2 : Obj) (h1 : ∀ cs g f, o ≠ .cells cs g f) (h2 : ∀ cs g f, o2 ≠ .cells cs g f) (k : Nat) (hk : w.heap.size ≤ k) : ¬ IsRow gt ((w.alloc o).alloc o2) k := by
  by_cases h : (w.alloc o).heap.size ≤ k
  · exact not_rows1 _ o2 h2 k h
  · rintro ⟨cs, f, e⟩
    rw [heap_alloc_old _ _ (Nat.lt_of_not_le h)] at e
    exact not_rows1 w o h1 k hk ⟨cs, f, e⟩
/-- How the body of a round may be left. -/
def roundG {α : Type} (gt : TypeId) (m : Nat) (S : Nat → Prop) (I : List α → World → Prop) (Ix : Code → List α → World → Prop) (xs : List α) (W : World) : Exit → Act → World → Prop
  | .normal, _, W' => Kept (Gst gt m S W) W W' ∧ I xs W'
  | .ret, _, W' => Kept (Gst gt m S W) W W' ∧ Ix .ret xs W'
  | .exit id, _, W' => Kept (Gst gt m S W) W W' ∧ Ix (.exit id) xs W'
  | .goto t, _, W' => Kept (Gst gt m S W) W W' ∧ Ix (.goto t) xs W'
  | .panic _, _, _ => False
  | .outgrown, _, _ => False

/-- The caller's law, over what entering the loop has laid. -/
theorem rangeG_core {α : Type} {ro : Option Nat} {n : Nat} {P : Program} {g : Operand} {ps : Array Tmp} {assign body : Code} {Q : Exit → Act → World → Prop} {a : Act} {w : World}
    {gt : TypeId} {gf : Nat} {lb : Array Value} (hg : a.eval g = .func (.func gf) #[] lb) (eg : ∀ args w, (callFunc gf args).run P w = .ok (.enter gf args) w)
    {l dB : Nat} {mark : List Deferred} {W1 : FuncId → World}
    (he : ∀ fn, (Instr.enterLoop fn a.tmps ps assign body ro).run P w = .ok (l, mark) (W1 fn))
    (hb1 : ∀ fn, Below w.heap.size w (W1 fn)) (hl1 : ∀ fn, (W1 fn).heap[l]? = some (.loop { state := .ready, pending := none, fn, tmps := a.tmps, params := ps, assign, body, defers := dB }))
    (hlw : w.heap.size ≤ l) (hnew : ∀ fn k, w.heap.size ≤ k → ¬ IsRow gt (W1 fn) k)
    {encs : α → Array Value} {xs : List α} {S : Nat → Prop} (hS : ∀ k, S k → k < w.heap.size) {w0 : World} (hseq : TellsG gt P gf lb encs xs S w0) (hw0 : Below w0.heap.size w0 w) (hps : ∀ x, (encs x).size = ps.size)
    (I : List α → World → Prop) (Ix : Code → List α → World → Prop) (hI : LowG gt w.heap.size I) (hIx : ∀ c, LowG gt w.heap.size (Ix c)) (h0 : I [] w)
    (hround : ∀ (l : Nat) (pre : List α) (x : α) (W : World) (K : Act → World → Prop), w.heap.size ≤ l → (∃ r, W.heap[l]? = some (.loop r)) → w.heap.size ≤ W.heap.size → pre ++ [x] <+: xs → I pre W →
      (∀ a' Wa, Kept (fun _ => False) W Wa → (∀ Wb, Kept (fun k => k = l) Wa Wb → (∃ r, Wb.heap[l]? = some (.loop r)) → body.wpIn ({ Fence.wide with round := some l }) (n - 1 - 1) P (roundG gt w.heap.size S I Ix (pre ++ [x]) Wb) a' Wb) → K a' Wa) →
      assign.wpIn ({ Fence.wide with round := some l }) (n - 1 - 1) P (Exit.then K (fun _ _ _ => False)) { tmps := (ps.zip (encs x)).foldl (fun t (p, v) => t.setIfInBounds p v) a.tmps, defers := [] } W)
    (hdone : ∀ (fn : FuncId) (W : World), I xs W → Kept (fun k => S k ∨ k = l) (W1 fn) W → Q .normal { a with defers := mark ++ a.defers } W)
    (hstop : ∀ (fn : FuncId) (c : Code) (pre : List α) (W : World), pre <+: xs → Ix c pre W → Kept (fun k => S k ∨ k = l) (W1 fn) W → c.wpIn { Fence.wide with round := ro } n P Q { a with defers := mark ++ a.defers } W) :
    (Code.rangeFunc g ps assign body).wpIn { Fence.wide with round := ro } n P Q a w := by
  refine wpIn_rangeFunc ?_
  intro fn hfn
  have hls : l < (W1 fn).heap.size := (Array.getElem?_eq_some_iff.1 (hl1 fn)).1
  obtain ⟨rec, hrec⟩ : ∃ rec : LoopState → Option Code → Loop, rec = fun st pe => { state := st, pending := pe, fn, tmps := a.tmps, params := ps, assign, body, defers := dB } := ⟨_, rfl⟩
  have hl1' : (W1 fn).heap[l]? = some (.loop (rec .ready none)) := by rw [hrec]; exact hl1 fn
  have hbw := hb1 fn
  have hnS : ¬ S l := fun e => by have := hS l e; omega
  refine ⟨l, mark, W1 fn, { target := .fn (.func gf) lb, args := #[.func (.yield l) #[] #[]] }, W1 fn, gf, #[.func (.yield l) #[] #[]] ++ lb, W1 fn, he fn, ?_, fun _ _ => trivial, ?_, fun h => by simp [Fence.wide] at h, ?_⟩
  · simp only [resolve, hg]
    simp [go_sem]
  · simp [invoke, go_sem, eg]
  have hIW : I [] (W1 fn) := hI _ _ _ (⟨hbw.os, hbw.tape, hbw.output, hbw.size, fun k hk hs => hbw.block k (by omega)⟩) h0
  have hlow : ∀ s, LowG gt (W1 fn).heap.size (fun (pre : List α) W => I pre W ∧ W.heap[l]? = some (.loop s) ∧ Kept (fun k => S k ∨ k = l) (W1 fn) W) := fun s =>
    (hI.mono hbw.size).and ((low_heap _ l _ hls).and (low_kept _ _ _ (Nat.le_refl _))).g
  refine CallsIn.mono (R := fun e W' => (∃ v, e = .returned v) ∧ ((I xs W' ∧ W'.heap[l]? = some (.loop (rec .ready none)) ∧ Kept (fun k => S k ∨ k = l) (W1 fn) W') ∨ ∃ pre, pre <+: xs ∧ ∃ c, Ix c pre W' ∧ W'.heap[l]? = some (.loop (rec .done (some c))) ∧ Kept (fun k => S k ∨ k = l) (W1 fn) W')) ?_ ?_
  · refine hseq (n - 1) l (fun pre W => I pre W ∧ W.heap[l]? = some (.loop (rec .ready none)) ∧ Kept (fun k => S k ∨ k = l) (W1 fn) W)
      (fun pre W => ∃ c, Ix c pre W ∧ W.heap[l]? = some (.loop (rec .done (some c))) ∧ Kept (fun k => S k ∨ k = l) (W1 fn) W)
      (W1 fn) (hw0.trans (hbw.mono hw0.size)) hls (hlow _)
      (fun s A C hk hj => by
        obtain ⟨c, h1, h2, h3⟩ := hj
        exact ⟨c, ((hIx c).mono hbw.size) s A C hk h1, (low_heap (β := Unit) _ l _ hls).g () A C hk h2, (low_kept (β := Unit) _ _ _ (Nat.le_refl _)).g () A C hk h3⟩)
      ?_ ⟨hIW, hl1', Kept.refl _ _⟩
    rintro pre x W hpre ⟨hi, hl, hkW⟩
    have hlt : l < W.heap.size := (Array.getElem?_eq_some_iff.1 hl).1
    have hy := run_yield (P := P) (args := encs x) hl (by rw [hrec]; exact hps x)
    rw [hrec] at hy
    refine ⟨fn, _, assign, body, hy, roundIn_of_wpIn hfn (hround l pre x W _ hlw ⟨_, hl⟩ (Nat.le_trans hbw.size hkW.size) hpre hi ?_)⟩
    clear hy
    intro a' Wa hka hbody
    have hla : Wa.heap[l]? = some (.loop (rec .ready none)) := (hka.block l hlt id).trans hl
    have hlta : l < Wa.heap.size := (Array.getElem?_eq_some_iff.1 hla).1
    refine ⟨_, run_beginRound hla (by rw [hrec]), ?_⟩
    obtain ⟨Wb, hWb⟩ : ∃ Wb, Wa.putObj l (.loop { rec .ready none with state := .busy }) = Wb := ⟨_, rfl⟩
    have hgb := grownBy_putObj' Wa l (.loop { rec .ready none with state := .busy })
    rw [hWb] at hgb
    have hlb : Wb.heap[l]? = some (.loop { rec .ready none with state := .busy }) := by rw [← hWb]; exact World.putObj_heap_same hlta
    rw [hWb]
    refine wpIn_mono (hbody Wb ⟨hgb.os, hgb.tape, hgb.output, hgb.size, fun k hk hs => hgb.block k hk (fun e => hs (by cases e; rfl))⟩ ⟨_, hlb⟩) ?_
    have fin : ∀ (jump : Option Code) (W3 : World), Kept (Gst gt w.heap.size S Wb) Wb W3 →
        (Instr.endRound l jump).run P W3 = .ok (.bool jump.isNone) (W3.putObj l (.loop (rec (if jump.isNone then .ready else .done) jump))) ∧
        (W3.putObj l (.loop (rec (if jump.isNone then .ready else .done) jump))).heap[l]? = some (.loop (rec (if jump.isNone then .ready else .done) jump)) ∧
        Kept (fun k => Gst gt (W1 fn).heap.size S W k ∨ k = l) W (W3.putObj l (.loop (rec (if jump.isNone then .ready else .done) jump))) ∧
        Kept (fun k => S k ∨ k = l) (W1 fn) (W3.putObj l (.loop (rec (if jump.isNone then .ready else .done) jump))) ∧
        Kept (fun k => w.heap.size ≤ k ∧ ¬ IsRow gt W3 k) W3 (W3.putObj l (.loop (rec (if jump.isNone then .ready else .done) jump))) := fun jump W3 hk3 => by
      have hnG : ¬ Gst gt w.heap.size S Wb l := fun e => e.elim hnS fun e => by
        obtain ⟨cs, f, e⟩ := e.2
        rw [hlb] at e; cases e
      have hl3 : W3.heap[l]? = some (.loop { rec .ready none with state := .busy }) := (hk3.block l (Array.getElem?_eq_some_iff.1 hlb).1 hnG).trans hlb
      have hr := run_endRound (P := P) jump hl3
      have hk4 := kept_putObj (fun k => k = l) W3 l (.loop (rec (if jump.isNone then .ready else .done) jump)) rfl
      have h5 : Kept (fun k => Gst gt (W1 fn).heap.size S W k ∨ k = l) W (W3.putObj l (.loop (rec (if jump.isNone then .ready else .done) jump))) := by
        refine ⟨hk4.os.trans (hk3.os.trans (hgb.os.trans hka.os)), hk4.tape.trans (hk3.tape.trans (hgb.tape.trans hka.tape)), hk4.output.trans (hk3.output.trans (hgb.output.trans hka.output)), Nat.le_trans hka.size (Nat.le_trans hgb.size (Nat.le_trans hk3.size hk4.size)), fun k hk hs => ?_⟩
        have hne : k ≠ l := fun e => hs (.inr e)
        have ea : Wa.heap[k]? = W.heap[k]? := hka.block k hk id
        have eb : Wb.heap[k]? = W.heap[k]? := (hgb.block k (Nat.lt_of_lt_of_le hk hka.size) (fun e => hne (by cases e; rfl))).trans ea
        have e3 : W3.heap[k]? = W.heap[k]? := by
          refine (hk3.block k (Nat.lt_of_lt_of_le hk (Nat.le_trans hka.size hgb.size)) fun e => ?_).trans eb
          rcases e with e | ⟨h1, cs, f, h2⟩
          · exact hs (.inl (.inl e))
          · rw [eb] at h2
            by_cases hm : (W1 fn).heap.size ≤ k
            · exact hs (.inl (.inr ⟨hm, cs, f, h2⟩))
            · have := hkW.block k (Nat.lt_of_not_le hm) (fun e => hs (e.elim (fun e => .inl (.inl e)) .inr))
              exact hnew fn k h1 ⟨cs, f, this.symm.trans h2⟩
        exact (hk4.block k (Nat.lt_of_lt_of_le hk (Nat.le_trans hka.size (Nat.le_trans hgb.size hk3.size))) hne).trans e3
      refine ⟨by rw [hrec] at hr ⊢; exact hr, World.putObj_heap_same (Array.getElem?_eq_some_iff.1 hl3).1, h5, ?_, kept_putObj _ W3 l _ ⟨hlw, fun ⟨_, _, e⟩ => by rw [hl3] at e; cases e⟩⟩
      refine ⟨h5.os.trans hkW.os, h5.tape.trans hkW.tape, h5.output.trans hkW.output, Nat.le_trans hkW.size h5.size, fun k hk hs => ?_⟩
      exact (h5.block k (Nat.lt_of_lt_of_le hk hkW.size) (fun e => hs (e.elim (fun e => e.elim .inl (fun e => absurd e.1 (by omega))) .inr))).trans (hkW.block k hk hs)
    rintro e a3 W3 hp
    cases e with
    | normal =>
      obtain ⟨hk3, hi3⟩ := hp
      obtain ⟨hr, hl4, hk4, hk6, hk5⟩ := fin none W3 hk3
      refine ⟨_, _, hr, .inl ⟨rfl, ⟨hI _ _ _ hk5 hi3, hl4, hk6⟩, ?_⟩⟩
      refine ⟨hk4.os, hk4.tape, hk4.output, hk4.size, fun k hk hs => ?_⟩
      by_cases e : k = l
      · subst e; exact hl4.trans hl.symm
      · exact hk4.block k hk (fun e' => e'.elim hs e)
    | ret =>
      obtain ⟨hk3, hi3⟩ := hp
      obtain ⟨hr, hl4, hk4, hk6, hk5⟩ := fin (some .ret) W3 hk3
      exact ⟨_, _, hr, .inr ⟨rfl, ⟨.ret, (hIx _) _ _ _ hk5 hi3, hl4, hk6⟩, hk4⟩⟩
    | exit id =>
      obtain ⟨hk3, hi3⟩ := hp
      obtain ⟨hr, hl4, hk4, hk6, hk5⟩ := fin (some (.exit id)) W3 hk3
      exact ⟨_, _, hr, .inr ⟨rfl, ⟨.exit id, (hIx _) _ _ _ hk5 hi3, hl4, hk6⟩, hk4⟩⟩
    | goto t =>
      obtain ⟨hk3, hi3⟩ := hp
      obtain ⟨hr, hl4, hk4, hk6, hk5⟩ := fin (some (.goto t)) W3 hk3
      exact ⟨_, _, hr, .inr ⟨rfl, ⟨.goto t, (hIx _) _ _ _ hk5 hi3, hl4, hk6⟩, hk4⟩⟩
    | panic ch => exact hp.elim
    | outgrown => exact hp.elim
  · rintro e W2 ⟨⟨v, rfl⟩, (⟨hi, hl, hk⟩ | ⟨pre, hpre, c, hi, hl, hk⟩)⟩
    · refine ⟨none, _, by have := run_endLoop (P := P) hl (by rw [hrec]; simp); rw [hrec] at this; exact this, hdone fn _ (hI _ _ _ (kept_putObj _ W2 l _ ⟨hlw, fun ⟨_, _, e⟩ => by rw [hl] at e; cases e⟩) hi) (hk.trans (kept_putObj _ W2 l _ (.inr rfl)))⟩
    · refine ⟨some c, _, by have := run_endLoop (P := P) hl (by rw [hrec]; simp); rw [hrec] at this; exact this, hstop fn c pre _ hpre ((hIx c) _ _ _ (kept_putObj _ W2 l _ ⟨hlw, fun ⟨_, _, e⟩ => by rw [hl] at e; cases e⟩) hi) (hk.trans (kept_putObj _ W2 l _ (.inr rfl)))⟩
/-- An outermost loop. -/
theorem rangeG_outer {α : Type} {n : Nat} {P : Program} {g : Operand} {ps : Array Tmp} {assign body : Code} {Q : Exit → Act → World → Prop} {a : Act} {w : World}
    {gt : TypeId} {gf : Nat} {lb : Array Value} (hg : a.eval g = .func (.func gf) #[] lb) (eg : ∀ args w, (callFunc gf args).run P w = .ok (.enter gf args) w)
    {encs : α → Array Value} {xs : List α} {S : Nat → Prop} (hS : ∀ k, S k → k < w.heap.size) {w0 : World} (hseq : TellsG gt P gf lb encs xs S w0) (hw0 : Below w0.heap.size w0 w) (hps : ∀ x, (encs x).size = ps.size)
    (I : List α → World → Prop) (Ix : Code → List α → World → Prop) (hI : LowG gt w.heap.size I) (hIx : ∀ c, LowG gt w.heap.size (Ix c)) (h0 : I [] w)
    (hround : ∀ (l : Nat) (pre : List α) (x : α) (W : World) (K : Act → World → Prop), w.heap.size ≤ l → (∃ r, W.heap[l]? = some (.loop r)) → w.heap.size ≤ W.heap.size → pre ++ [x] <+: xs → I pre W →
      (∀ a' Wa, Kept (fun _ => False) W Wa → (∀ Wb, Kept (fun k => k = l) Wa Wb → (∃ r, Wb.heap[l]? = some (.loop r)) → body.wpIn (Fence.wide.inRound l) (n - 1 - 1) P (roundG gt w.heap.size S I Ix (pre ++ [x]) Wb) a' Wb) → K a' Wa) →
      assign.wpIn (Fence.wide.inRound l) (n - 1 - 1) P (Exit.then K (fun _ _ _ => False)) { tmps := (ps.zip (encs x)).foldl (fun t (p, v) => t.setIfInBounds p v) a.tmps, defers := [] } W)
    (hdone : ∀ (W : World), I xs W → Kept S w W → W.heap[w.heap.size]? = some (.deferred (some [])) → Q .normal { a with defers := { target := .collected w.heap.size, args := #[] } :: a.defers } W)
    (hstop : ∀ (c : Code) (pre : List α) (W : World), pre <+: xs → Ix c pre W → Kept S w W → W.heap[w.heap.size]? = some (.deferred (some [])) → c.wpIn Fence.wide n P Q { a with defers := { target := .collected w.heap.size, args := #[] } :: a.defers } W) :
    (Code.rangeFunc g ps assign body).wpIn Fence.wide n P Q a w := by
  have hb1 : ∀ o1 o2, Below w.heap.size w ((w.alloc o1).alloc o2) := fun o1 o2 => ((Below.refl _ w).alloc (Nat.le_refl _) _).alloc (by simp) _
  have back : ∀ (o : Obj) (W : World), Kept (fun k => S k ∨ k = w.heap.size + 1) ((w.alloc (.deferred (some []))).alloc o) W → Kept S w W ∧ W.heap[w.heap.size]? = some (.deferred (some [])) := fun o W hk => by
    have hb := hb1 (.deferred (some [])) o
    have hd : ((w.alloc (.deferred (some []))).alloc o).heap[w.heap.size]? = some (.deferred (some [])) := (Below.heap_alloc _ _ _ (by simp)).trans (World.alloc_heap_new w _)
    refine ⟨⟨hk.os.trans hb.os, hk.tape.trans hb.tape, hk.output.trans hb.output, Nat.le_trans hb.size hk.size, fun k hk' hs => (hk.block k (Nat.lt_of_lt_of_le hk' hb.size) (fun e => e.elim hs (fun e => by omega))).trans (hb.block k hk')⟩, ?_⟩
    exact (hk.block _ (by simp; omega) (fun e => e.elim (fun e => by have := hS _ e; omega) (fun e => by omega))).trans hd
  exact rangeG_core (ro := none) (W1 := fun fn => (w.alloc (.deferred (some []))).alloc (.loop { state := .ready, pending := none, fn, tmps := a.tmps, params := ps, assign, body, defers := w.heap.size })) (l := w.heap.size + 1) (dB := w.heap.size) hg eg (fun fn => run_enterLoop_outer _ _ _ _ _) (fun fn => hb1 _ _)
    (fun fn => by have := World.alloc_heap_new (w.alloc (.deferred (some []))) (.loop { state := .ready, pending := none, fn, tmps := a.tmps, params := ps, assign, body, defers := w.heap.size }); rwa [World.size_alloc] at this)
    (by omega) (fun fn k hk => not_rows2 w _ _ (fun _ _ _ e => by cases e) (fun _ _ _ e => by cases e) k hk) hS hseq hw0 hps I Ix hI hIx h0 hround
    (fun fn W hi hk => hdone W hi (back _ W hk).1 (back _ W hk).2) (fun fn c pre W hp hi hk => hstop c pre W hp hi (back _ W hk).1 (back _ W hk).2)
/-- A loop within a round. -/
theorem rangeG_inner {α : Type} {n : Nat} {P : Program} {g : Operand} {ps : Array Tmp} {assign body : Code} {Q : Exit → Act → World → Prop} {a : Act} {w : World}
    {l₀ : Nat} (hl₀ : ∃ r₀, w.heap[l₀]? = some (.loop r₀))
    {gt : TypeId} {gf : Nat} {lb : Array Value} (hg : a.eval g = .func (.func gf) #[] lb) (eg : ∀ args w, (callFunc gf args).run P w = .ok (.enter gf args) w)
    {encs : α → Array Value} {xs : List α} {S : Nat → Prop} (hS : ∀ k, S k → k < w.heap.size) {w0 : World} (hseq : TellsG gt P gf lb encs xs S w0) (hw0 : Below w0.heap.size w0 w) (hps : ∀ x, (encs x).size = ps.size)
    (I : List α → World → Prop) (Ix : Code → List α → World → Prop) (hI : LowG gt w.heap.size I) (hIx : ∀ c, LowG gt w.heap.size (Ix c)) (h0 : I [] w)
    (hround : ∀ (l : Nat) (pre : List α) (x : α) (W : World) (K : Act → World → Prop), w.heap.size ≤ l → (∃ r, W.heap[l]? = some (.loop r)) → w.heap.size ≤ W.heap.size → pre ++ [x] <+: xs → I pre W →
      (∀ a' Wa, Kept (fun _ => False) W Wa → (∀ Wb, Kept (fun k => k = l) Wa Wb → (∃ r, Wb.heap[l]? = some (.loop r)) → body.wpIn (Fence.wide.inRound l) (n - 1 - 1) P (roundG gt w.heap.size S I Ix (pre ++ [x]) Wb) a' Wb) → K a' Wa) →
      assign.wpIn (Fence.wide.inRound l) (n - 1 - 1) P (Exit.then K (fun _ _ _ => False)) { tmps := (ps.zip (encs x)).foldl (fun t (p, v) => t.setIfInBounds p v) a.tmps, defers := [] } W)
    (hdone : ∀ (W : World), I xs W → Kept S w W → Q .normal a W)
    (hstop : ∀ (c : Code) (pre : List α) (W : World), pre <+: xs → Ix c pre W → Kept S w W → c.wpIn (Fence.wide.inRound l₀) n P Q a W) :
    (Code.rangeFunc g ps assign body).wpIn (Fence.wide.inRound l₀) n P Q a w := by
  obtain ⟨r₀, hl₀⟩ := hl₀
  have hb1 : ∀ o, Below w.heap.size w (w.alloc o) := fun o => (Below.refl _ w).alloc (Nat.le_refl _) _
  have back : ∀ (o : Obj) (W : World), Kept (fun k => S k ∨ k = w.heap.size) (w.alloc o) W → Kept S w W := fun o W hk => by
    have hb := hb1 o
    exact ⟨hk.os.trans hb.os, hk.tape.trans hb.tape, hk.output.trans hb.output, Nat.le_trans hb.size hk.size, fun k hk' hs => (hk.block k (Nat.lt_of_lt_of_le hk' hb.size) (fun e => e.elim hs (fun e => by omega))).trans (hb.block k hk')⟩
  exact rangeG_core (ro := some l₀) (mark := []) (W1 := fun fn => w.alloc (.loop { state := .ready, pending := none, fn, tmps := a.tmps, params := ps, assign, body, defers := r₀.defers })) (l := w.heap.size) (dB := r₀.defers) hg eg (fun fn => run_enterLoop_inner hl₀ _ _ _ _ _) (fun fn => hb1 _)
    (fun fn => World.alloc_heap_new w _) (Nat.le_refl _) (fun fn k hk => not_rows1 w _ (fun _ _ _ e => by cases e) k hk) hS hseq hw0 hps I Ix hI hIx h0 hround
    (fun fn W hi hk => hdone W hi (back _ W hk)) (fun fn c pre W hp hi hk => hstop c pre W hp hi (back _ W hk))
end Go.Proofs.Ytgdpplipahhffaa
namespace Go.Proofs.Ytgdpplipahhffaa
open Go.RowKit
set_option linter.unusedVariables false
set_option linter.unusedSimpArgs false

set_option maxHeartbeats 4000000 in
set_option maxRecDepth 100000 in
/-- The walk itself, over what a round may touch. -/
theorem way_core {W : Nat} (h1 : 1 ≤ W) (h2 : W ≤ 128) {p : List Bool} (hp : p.length ≤ W) (q : Nat) (w1 : World) (cnt most : Value) (a : Option Nat) (hq : Blk w1 q #[.int .i64 W, most, cnt, pt a] 84) {n0 : Nat} {N : List (Nd Int)} (hH : Hang 98 3 encV W w1 n0 a N)
    (bt bp : Nat) (hbt : Blk w1 bt #[.pointer (some ⟨q, 0, none⟩)] 24) (hbp : Blk w1 bp #[.int .u64 (hiOf (valOf W p)), .int .u64 (loOf (valOf W p)), .int .i64 p.length] 51) (S : Nat → Prop) (hSq : ¬ S q) (hSt : ¬ S bt) (hSp : ¬ S bp) (hSN : Off S N)
    (n l : Nat) (J Jx : List (Nd Int) → World → Prop) (hJ : ∀ s A C, Below A.heap.size A C → J s A → J s C)
    (hY : ∀ (pre : List (Nd Int)) x W1, pre ++ [x] <+: wayN p N → J pre W1 → YieldAt Fence.wide (n - 1) Try.prog l #[Value.pointer (some ⟨x.blk, 0, none⟩)] W1 fun e W' => (e = .returned (.bool true) ∧ J (pre ++ [x]) W' ∧ Kept S W1 W') ∨ (e = .returned (.bool false) ∧ Jx (pre ++ [x]) W' ∧ Kept (fun k => S k ∨ k = l) W1 W'))
    (h0 : J [] w1) :
    CallsIn Fence.wide n Try.prog 85 #[.func (.yield l) #[] #[], .pointer (some ⟨bt, 0, none⟩), .pointer (some ⟨bp, 0, none⟩)] w1 fun e W' => (∃ v, e = .returned v) ∧ (J (wayN p N) W' ∨ ∃ pre, pre <+: wayN p N ∧ Jx pre W') := by
  have HQ : Hid (Blk w1 q #[.int .i64 W, most, cnt, pt a] 84) := hq
  have HT : Hid (Blk w1 bt #[.pointer (some ⟨q, 0, none⟩)] 24) := hbt
  have HP : Hid (Blk w1 bp #[.int .u64 (hiOf (valOf W p)), .int .u64 (loOf (valOf W p)), .int .i64 p.length] 51) := hbp
  have HH : Hid (Hang 98 3 encV W w1 n0 a N) := hH
  have HS : Hid (¬ S q ∧ ¬ S bt ∧ ¬ S bp) := ⟨hSq, hSt, hSp⟩
  have HO : Hid (Off S N) := hSN
  have HY : Hid (∀ (pre : List (Nd Int)) x W1, pre ++ [x] <+: wayN p N → J pre W1 → YieldAt Fence.wide (n - 1) Try.prog l #[Value.pointer (some ⟨x.blk, 0, none⟩)] W1 fun e W' => (e = .returned (.bool true) ∧ J (pre ++ [x]) W' ∧ Kept S W1 W') ∨ (e = .returned (.bool false) ∧ Jx (pre ++ [x]) W' ∧ Kept (fun k => S k ∨ k = l) W1 W')) := hY
  have HJ : Hid (∀ s A C, Below A.heap.size A C → J s A → J s C) := hJ
  have H0 : Hid (J [] w1) := h0
  have t0 := HT.out.cell 0 (v := .pointer (some ⟨q, 0, none⟩)) rfl
  have C70 : Hid (∀ c : List Bool, c.length ≤ W → ∀ w1, CallsIn Fence.wide (n - 1) Try.prog 70 #[Pf (valOf W c) c.length, Pf (valOf W p) p.length, .int .i64 W] w1 fun e w' => e = .returned (.bool (decide (c <+: p))) ∧ Below w1.heap.size w1 w') := fun c hc w1 => callsIn_wide.2 (begins_any h1 h2 hc hp w1)
  have C69 : Hid (∀ k : Nat, ∀ w1, CallsIn Fence.wide (n - 1) Try.prog 69 #[B (valOf W p), .int .i64 W, .int .i64 k] w1 fun e w' => e = .returned (.int .i64 (if p[k]?.getD false = true then 1 else 0)) ∧ Below w1.heap.size w1 w') := fun k w1 => callsIn_wide.2 (by
    have := side_any h1 h2 hp k w1
    unfold sideN at this
    cases hb : p[k]?.getD false <;> rw [hb] at this <;> exact this)
  obtain ⟨A, hA⟩ : ∃ A : Option Addr, A = a.map fun b => ⟨b, 0, none⟩ := ⟨_, rfl⟩
  have HA : Hid (A = a.map fun b => (⟨b, 0, none⟩ : Addr)) := hA
  have HQA : Hid (Blk w1 q #[.int .i64 W, most, cnt, .pointer A] 84) := by rw [hA]; exact HQ.out
  have q3 := HQA.out.cell 3 (v := .pointer A) rfl
  clear hA hq hH hbt hbp hSq hSt hSp hSN hJ hY h0 HQ
  refine callsIn_of_wp Try.func85 rfl trivial ?_ rfl
  simp only [Try.ntmps85, List.size_toArray, List.length_cons, List.length_nil, Nat.reduceAdd, Nat.reduceSub, Array.replicate_succ, Array.replicate_zero, List.push_toArray, List.append_toArray, List.nil_append, List.cons_append]
  gi_wp2
  gi_loopw [4] (fun t wr => ∃ a' n' N' pre, t = pt a' ∧ Hid (Hang 98 3 encV W wr n' a' N' ∧ Off S N' ∧ pre ++ wayN p N' = wayN p N ∧ J pre wr ∧ Kept S w1 wr)) (fun t wr => msr W t wr)
  case atStart => exact ⟨a, n0, N, [], by rw [HA.out], HH.out, HO.out, rfl, H0.out, Kept.refl _ _⟩
  case round =>
    obtain ⟨a', n', N', pre, rfl, HR⟩ := hrel
    cases a' with
    | none =>
      rw [show pt none = Value.pointer none from rfl]
      have HF : Hid (J (wayN p N) wr) := by
        obtain ⟨g1, g2, g3, g4, g5⟩ := HR.out
        rw [g1.of_none] at g3
        have e : pre = wayN p N := by rw [← g3]; exact (List.append_nil _).symm
        rw [← e]; exact g4
      clear HR H0 HH HO C70 C69
      have hmix : Try.prog.follows .mixedOrders = true := by kernel_rfl
      gi_wp2_with fail
      refine grows_wide hmix (by kernel_rfl) ?_
      repeat (gi_big_quiet_step (fail))
      refine Go.BigFrame.wpQuietIn_skip (fun _ _ _ _ => trivial) (by rfl) ?_
      go_simp
      repeat (gi_big_quiet_step (fail))
      refine Go.BigFrame.wpQuietIn_skip (fun _ _ _ _ => trivial) (by rfl) ?_
      go_simp
      repeat (gi_big_quiet_step (fail))
      refine wpQuietIn_nil ?_
      intro zq
      have HF2 : Hid (J (wayN p N) (gw zq)) := HJ.out _ _ _ (gw_below zq) HF.out
      gi_wp2_with fail
      go_end0
      exact ⟨⟨_, rfl⟩, .inl HF2.out⟩
    | some b =>
      rw [show pt (some b) = Value.pointer (some ⟨b, 0, none⟩) from rfl]
      obtain ⟨m, x, a0, a1, N0, N1, hn', hbx, hN', hR, hf⟩ := HR.out.1.root
      subst hbx
      have HX : Hid (Root 98 3 encV W wr m x a0 a1 N0 N1 ∧ Off S N' ∧ N' = x :: (N0 ++ N1) ∧ pre ++ wayN p N' = wayN p N ∧ J pre wr ∧ Kept S w1 wr) := ⟨hR, HR.out.2.1, hN', HR.out.2.2.1, HR.out.2.2.2.1, HR.out.2.2.2.2⟩
      have hl := hR.node.len
      obtain ⟨A3, hA3⟩ : ∃ A : Option Addr, A = (x.th.map (·.1)).map fun b => ⟨b, 0, none⟩ := ⟨_, rfl⟩
      obtain ⟨A4, hA4⟩ : ∃ A : Option Addr, A = a0.map fun b => ⟨b, 0, none⟩ := ⟨_, rfl⟩
      obtain ⟨A5, hA5⟩ : ∃ A : Option Addr, A = a1.map fun b => ⟨b, 0, none⟩ := ⟨_, rfl⟩
      have HXA : Hid (A4 = (a0.map fun b => (⟨b, 0, none⟩ : Addr)) ∧ A5 = (a1.map fun b => (⟨b, 0, none⟩ : Addr))) := ⟨hA4, hA5⟩
      have xb0 : Blk wr x.blk #[.int .u64 (hiOf (valOf W x.key)), .int .u64 (loOf (valOf W x.key)), .int .i64 x.key.length, .pointer A3, .pointer A4, .pointer A5] 98 := by rw [hA3, hA4, hA5]; exact hR.node.cells
      have HXB : Hid (Blk wr x.blk #[.int .u64 (hiOf (valOf W x.key)), .int .u64 (loOf (valOf W x.key)), .int .i64 x.key.length, .pointer A3, .pointer A4, .pointer A5] 98) := xb0
      have HW : Hid (Blk wr q #[.int .i64 W, most, cnt, .pointer A] 84 ∧ Blk wr bt #[.pointer (some ⟨q, 0, none⟩)] 24 ∧ Blk wr bp #[.int .u64 (hiOf (valOf W p)), .int .u64 (loOf (valOf W p)), .int .i64 p.length] 51) := ⟨HQA.out.kept HX.out.2.2.2.2.2 HS.out.1, HT.out.kept HX.out.2.2.2.2.2 HS.out.2.1, HP.out.kept HX.out.2.2.2.2.2 HS.out.2.2⟩
      have hmix : Try.prog.follows .mixedOrders = true := by kernel_rfl
      clear hA3 hA4 hA5 xb0 hf hN' hR HR H0 HH q3 t0 hn'
      by_cases hx : x.key <+: p
      · have HE : Hid (pre ++ [x] <+: wayN p N ∧ pre ++ [x] ++ wayN p (if p[x.key.length]?.getD false = true then N1 else N0) = wayN p N) := by
          obtain ⟨g1, g2, g3, g4, g5, g6⟩ := HX.out
          rw [g3, way_on g1 hx] at g4
          have e : pre ++ [x] ++ wayN p (if p[x.key.length]?.getD false = true then N1 else N0) = wayN p N := by rw [← g4]; simp
          exact ⟨⟨_, e⟩, e⟩
        have C1 : Hid (∀ w1, Below wr.heap.size wr w1 → CallsIn Fence.wide (n - 1) Try.prog 70 #[Pf (valOf W x.key) x.key.length, Pf (valOf W p) p.length, .int .i64 W] w1 fun e w' => e = .returned (.bool true) ∧ Below wr.heap.size wr w') := fun w1 hb => by
          have := C70.out x.key hl w1
          rw [decide_eq_true hx] at this
          exact this.mono fun e w' h => ⟨h.1, bst hb h.2⟩
        have CT : Hid (∀ W2, Below wr.heap.size wr W2 → ∃ fn tmps assign body, (Instr.yield l #[.pointer (some ⟨x.blk, 0, none⟩)]).run Try.prog W2 = .ok (.round l fn tmps assign body) W2 ∧ Hid (RoundIn Fence.wide (n - 1) Try.prog l fn tmps assign body W2 fun e w' => ∃ bb : Bool, e = .returned (.bool bb) ∧ Hid ((bb = true → J (pre ++ [x]) w' ∧ Kept S wr w') ∧ (bb = false → Jx (pre ++ [x]) w')))) := fun W2 h2 => by
          obtain ⟨fn, tmps, assign, body, g1, g2⟩ := HY.out pre x W2 HE.out.1 (HJ.out _ _ _ h2 HX.out.2.2.2.2.1)
          refine ⟨fn, tmps, assign, body, g1, g2.mono ?_⟩
          rintro e w' (⟨rfl, hj, hk⟩ | ⟨rfl, hj, hk⟩)
          · exact ⟨true, rfl, (⟨fun _ => ⟨hj, (Kept.of_below h2).trans hk⟩, fun e => (nomatch e)⟩ : _ ∧ _)⟩
          · exact ⟨false, rfl, (⟨fun e => (nomatch e), fun _ => hj⟩ : _ ∧ _)⟩
        have x0 := HXB.out.cell 0 (v := .int .u64 (hiOf (valOf W x.key))) rfl
        have x1 := HXB.out.cell 1 (v := .int .u64 (loOf (valOf W x.key))) rfl
        have x2 := HXB.out.cell 2 (v := .int .i64 x.key.length) rfl
        have y0 := HW.out.2.2.cell 0 (v := .int .u64 (hiOf (valOf W p))) rfl
        have y1 := HW.out.2.2.cell 1 (v := .int .u64 (loOf (valOf W p))) rfl
        have y2 := HW.out.2.2.cell 2 (v := .int .i64 p.length) rfl
        have z0 := HW.out.1.cell 0 (v := .int .i64 W) rfl
        have v0 := HW.out.2.1.cell 0 (v := .pointer (some ⟨q, 0, none⟩)) rfl
        clear hx C70 HA
        gi_wp2_with fail
        gi_cut [27] from 9 (fun t wx => ∃ bb : Bool, t = .bool bb ∧ Hid ((bb = true → J (pre ++ [x]) wx ∧ Kept S wr wx) ∧ (bb = false → Jx (pre ++ [x]) wx)))
        case first =>
          gi_region_with (first
            | (refine ⟨trivial, no_depth _, ?_⟩; gi_at_call 70; refine (C1.out _ (by exact ⟨rfl, rfl, rfl, Nat.le_refl _, fun _ _ => rfl⟩)).mono ?_; rintro e W2 ⟨rfl, hb2⟩; obtain ⟨fn, tmps, assign, body, hyi, HRd⟩ := CT.out W2 hb2)
            | (refine ⟨no_depth _, ?_⟩; refine HRd.out.mono ?_; rintro e w7 ⟨bb, rfl, HM7⟩))
          all_goals (gi_wp2_with fail; go_meet; exact ⟨bb, rfl, HM7⟩)
        case rest =>
          obtain ⟨bb, rfl, HM7⟩ := hcut
          cases bb
          · have HJ7 : Hid (Jx (pre ++ [x]) wc) := HM7.out.2 rfl
            gi_wp2_with fail
            first | go_end0 | refine bodyPost_ret (results_none rfl _ _ _) rfl ?_
            exact ⟨⟨_, rfl⟩, .inr ⟨_, HE.out.1, HJ7.out⟩⟩
          · have HM8 : Hid (J (pre ++ [x]) wc ∧ Kept S wr wc) := HM7.out.1 rfl
            have hxN : x ∈ N' := by rw [HX.out.2.2.1]; simp
            have hkc := HM8.out.2
            have XC : Blk wc x.blk _ 98 := HXB.out.kept hkc (HX.out.2.1 x hxN).1
            have QC : Blk wc q _ 84 := HW.out.1.kept hkc HS.out.1
            have TC : Blk wc bt _ 24 := HW.out.2.1.kept hkc HS.out.2.1
            have PC : Blk wc bp _ 51 := HW.out.2.2.kept hkc HS.out.2.2
            have x2 := two_cells XC (i := 2) (v := .int .i64 x.key.length) rfl
            have x4 := two_cells XC (i := 4) (v := .pointer A4) rfl
            have x5 := two_cells XC (i := 5) (v := .pointer A5) rfl
            have y0 := two_cells PC (i := 0) (v := .int .u64 (hiOf (valOf W p))) rfl
            have y1 := two_cells PC (i := 1) (v := .int .u64 (loOf (valOf W p))) rfl
            have z0 := two_cells QC (i := 0) (v := .int .i64 W) rfl
            have v0 := two_cells TC (i := 0) (v := .pointer (some ⟨q, 0, none⟩)) rfl
            have xc2 : wc.cell? ⟨x.blk, 2, none⟩ = some (.int .i64 x.key.length) := XC.cell 2 rfl
            have hms : msr W (.pointer (some ⟨x.blk, 0, none⟩)) wr = W + 1 - x.key.length := msr_at (HXB.out.cell 2 rfl)
            have C2 : Hid (∀ w1, CallsIn Fence.wide (n - 1) Try.prog 69 #[B (valOf W p), .int .i64 W, .int .i64 x.key.length] w1 fun e w' => e = .returned (.int .i64 (if p[x.key.length]?.getD false = true then 1 else 0)) ∧ Below w1.heap.size w1 w') := C69.out x.key.length
            have HN : Hid (∀ w9, Below wc.heap.size wc w9 → ∀ (bit : Bool), p[x.key.length]?.getD false = bit → ∃ n', Hid (Hang 98 3 encV W w9 n' (if bit then a1 else a0) (if bit then N1 else N0) ∧ Off S (if bit then N1 else N0) ∧ (pre ++ [x]) ++ wayN p (if bit then N1 else N0) = wayN p N ∧ J (pre ++ [x]) w9 ∧ Kept S w1 w9) ∧ msr W (pt (if bit then a1 else a0)) w9 < W + 1 - x.key.length) := fun w9 h9 bit hbit => by
              have hk9 : Kept S wr w9 := hkc.trans (Kept.of_below h9)
              have ho : Off S N' := HX.out.2.1
              have e2 := HE.out.2
              rw [hbit] at e2
              have hh : Hang 98 3 encV W w9 m (if bit then a1 else a0) (if bit then N1 else N0) := by
                cases bit
                · exact HX.out.1.h0.keptW hk9 (fun y hy => ho y (by rw [HX.out.2.2.1]; simp at hy ⊢; exact .inr (.inl hy)))
                · exact HX.out.1.h1.keptW hk9 (fun y hy => ho y (by rw [HX.out.2.2.1]; simp at hy ⊢; exact .inr (.inr hy)))
              refine ⟨m, (⟨hh, fun y hy => ho y (by rw [HX.out.2.2.1]; cases bit <;> simp at hy ⊢ <;> simp [hy]), e2, HJ.out _ _ _ h9 HM8.out.1, HX.out.2.2.2.2.2.trans hk9⟩ : _ ∧ _), ?_⟩
              have hpr : ∀ y ∈ (if bit then N1 else N0), x.key ++ [bit] <+: y.key := by
                cases bit
                · exact HX.out.1.pre0
                · exact HX.out.1.pre1
              generalize (if bit = true then a1 else a0) = ac at *
              generalize (if bit = true then N1 else N0) = Nc at *
              cases ac with
              | none => show 0 < _; omega
              | some c =>
                obtain ⟨m2, y, b0, b1, M0, M1, _, rfl, rfl, hR2, _⟩ := hh.root
                rw [show pt (some y.blk) = Value.pointer (some ⟨y.blk, 0, none⟩) from rfl, msr_at (hR2.node.cells.cell 2 rfl)]
                have := (hpr y (by simp)).length_le
                simp at this
                have := hR2.node.len
                omega
            clear C69 HX HW HXB HM7 HM8 XC QC TC PC hkc hxN
            gi_wp2_with fail
            refine grows_wide hmix (by kernel_rfl) ?_
            repeat (gi_big_quiet_step (fail))
            refine Go.BigFrame.wpQuietIn_want (fun _ _ _ _ => trivial) (by rfl) ?_
            intro K2 hK2
            gi_big_quiet_op
            apply Exists.intro
            refine ⟨fun _ => ?_, ?_⟩
            · exact ⟨no_depth _, calls_gwIn (C2.out _)⟩
            obtain ⟨bit, hbit⟩ : ∃ bit, p[x.key.length]?.getD false = bit := ⟨_, rfl⟩
            have HBit : Hid (p[x.key.length]?.getD false = bit) := hbit
            rw [hbit]
            clear hbit C2
            cases bit
            all_goals
              go_big_quiet_on
              repeat (gi_big_quiet_step (fail))
              refine wpQuietIn_nil ?_
              intro wq hwq
              obtain ⟨zq, rfl⟩ := hwq
              obtain ⟨n2, H2, hm2⟩ := HN.out (gw zq) (gw_below zq) _ HBit.out
              have e4 := HXA.out.1
              have e5 := HXA.out.2
              have HM2 : Hid (msr W _ (gw zq) < W + 1 - x.key.length) := hm2
              have H4 : Hid (A4 = (a0.map fun b => (⟨b, 0, none⟩ : Addr)) ∧ A5 = (a1.map fun b => (⟨b, 0, none⟩ : Addr))) := ⟨e4, e5⟩
              clear e4 e5 hm2 HN
              gi_wp2_with fail
              go_roundw
              case rel => exact ⟨_, n2, _, pre ++ [x], by first | rw [H4.out.1]; rfl | rw [H4.out.2]; rfl, H2⟩
              case measure => rw [hms]; first | (rw [H4.out.1]; exact HM2.out) | (rw [H4.out.2]; exact HM2.out)
      · have HF : Hid (J (wayN p N) wr) := by
          obtain ⟨g1, g2, g3, g4, g5, g6⟩ := HX.out
          rw [g3, way_off g1 hx, List.append_nil] at g4
          rw [← g4]; exact g5
        have C1 : Hid (∀ w1, CallsIn Fence.wide (n - 1) Try.prog 70 #[Pf (valOf W x.key) x.key.length, Pf (valOf W p) p.length, .int .i64 W] w1 fun e w' => e = .returned (.bool false) ∧ Below w1.heap.size w1 w') := fun w1 => by
          have := C70.out x.key hl w1
          rw [decide_eq_false hx] at this; exact this
        have x0 := two_cells HXB.out (i := 0) (v := .int .u64 (hiOf (valOf W x.key))) rfl
        have x1 := two_cells HXB.out (i := 1) (v := .int .u64 (loOf (valOf W x.key))) rfl
        have x2 := two_cells HXB.out (i := 2) (v := .int .i64 x.key.length) rfl
        have y0 := two_cells HW.out.2.2 (i := 0) (v := .int .u64 (hiOf (valOf W p))) rfl
        have y1 := two_cells HW.out.2.2 (i := 1) (v := .int .u64 (loOf (valOf W p))) rfl
        have y2 := two_cells HW.out.2.2 (i := 2) (v := .int .i64 p.length) rfl
        have z0 := two_cells HW.out.1 (i := 0) (v := .int .i64 W) rfl
        have v0 := two_cells HW.out.2.1 (i := 0) (v := .pointer (some ⟨q, 0, none⟩)) rfl
        clear hx HX HW C69 C70 HXB
        gi_wp2_with fail
        refine grows_wide hmix (by kernel_rfl) ?_
        repeat (gi_big_quiet_step (fail))
        refine Go.BigFrame.wpQuietIn_want (fun _ _ _ _ => trivial) (by rfl) ?_
        intro K2 hK2
        gi_big_quiet_op
        apply Exists.intro
        refine ⟨fun _ => ?_, ?_⟩
        · exact ⟨no_depth _, calls_gwIn (C1.out _)⟩
        go_big_quiet_on
        repeat (gi_big_quiet_step (fail))
        refine Go.BigFrame.wpQuietIn_skip (fun _ _ _ _ => trivial) (by rfl) ?_
        go_simp
        repeat (gi_big_quiet_step (fail))
        refine wpQuietIn_nil ?_
        intro zq
        have HF2 : Hid (J (wayN p N) (gw zq)) := HJ.out _ _ _ (gw_below zq) HF.out
        gi_wp2_with fail
        go_end0
        exact ⟨⟨_, rfl⟩, .inl HF2.out⟩

theorem Hang.blks {nt vt : TypeId} {V : Type} {enc : V → Value} {W : Nat} {w : World} {n a} {N : List (Nd V)} (h : Hang nt vt enc W w n a N) : ∀ x ∈ N, x.blk < w.heap.size ∧ ∀ t v, x.th = some (t, v) → t < w.heap.size := fun x hx => by
  obtain ⟨a0, a1, hn⟩ := h.thing x hx
  exact ⟨hn.cells.lt, fun t v ht => (hn.thing t v ht).lt⟩
theorem way_tellsG {W : Nat} (gt : TypeId) (h1 : 1 ≤ W) (h2 : W ≤ 128) {p : List Bool} (hp : p.length ≤ W) (q : Nat) (w : World) (cnt most : Value) (a : Option Nat) (hq : Blk w q #[.int .i64 W, most, cnt, pt a] 84) {n0 : Nat} {N : List (Nd Int)} (hH : Hang 98 3 encV W w n0 a N)
    (bt bp : Nat) (hbt : Blk w bt #[.pointer (some ⟨q, 0, none⟩)] 24) (hbp : Blk w bp #[.int .u64 (hiOf (valOf W p)), .int .u64 (loOf (valOf W p)), .int .i64 p.length] 51) (S : Nat → Prop) (hSq : ¬ S q) (hSt : ¬ S bt) (hSp : ¬ S bp) (hSN : Off S N) :
    TellsG gt Try.prog 85 #[.pointer (some ⟨bt, 0, none⟩), .pointer (some ⟨bp, 0, none⟩)] (fun x : Nd Int => #[Value.pointer (some ⟨x.blk, 0, none⟩)]) (wayN p N) S w := by
  intro n l J Jx w1 hW hl hJ hJx hY h0
  have hs := hW.size
  have l1 := hq.lt
  have l2 := hbt.lt
  have l3 := hbp.lt
  refine way_core h1 h2 hp q w1 cnt most a (hq.below hW) (hH.below hW) bt bp (hbt.below hW) (hbp.below hW) (fun k => S k ∨ w1.heap.size ≤ k) (fun e => e.elim hSq (by omega)) (fun e => e.elim hSt (by omega)) (fun e => e.elim hSp (by omega))
    (fun x hx => ⟨fun e => e.elim (hSN x hx).1 (by have := (hH.blks x hx).1; omega), fun t v ht e => e.elim ((hSN x hx).2 t v ht) (by have := (hH.blks x hx).2 t v ht; omega)⟩) n l J Jx (fun s A C hb hj => hJ s A C (Kept.of_below hb) hj) (fun pre x W1 a b => ?_) h0
  obtain ⟨fn, tmps, assign, body, g1, g2⟩ := hY pre x W1 a b
  refine ⟨fn, tmps, assign, body, g1, g2.mono ?_⟩
  rintro e W' (⟨rfl, k1, k2⟩ | ⟨rfl, k1, k2⟩)
  · exact .inl ⟨rfl, k1, k2.mono fun k _ e => e.elim .inl fun e => .inr e.1⟩
  · exact .inr ⟨rfl, k1, k2.mono fun k _ e => e.elim (fun e => .inl (e.elim .inl fun e => .inr e.1)) .inr⟩
end Go.Proofs.Ytgdpplipahhffaa
