/- The statement's same and sames, of words that are the same. -/
import Derived.Test.YtlgfpjaomiomjaaGreatDoorYi
import Derived.Test.YtlgfpjaomiomjaaGreatDoorJb
namespace Go.Proofs.YtlgfpjaomiomjaaGreatDoor
open Go.RowKit
set_option linter.unusedVariables false
set_option linter.unusedSimpArgs false

theorem rtok6_of_row {w : World} {B : Nat} {sv : Value} {ts : List Tk} (h : w.ownsRow B 47 6 sv ts.length (tcells ts)) : ∃ ad cap, sv = .slice ad ts.length cap ∧ Tok6 w ad ts := by
  rcases h.2 with ⟨rfl, h0⟩ | ⟨g, cap, cur, e, _⟩
  · have : ts = [] := List.length_eq_zero_iff.1 h0
    subst this
    exact ⟨none, 0, rfl, fun i t hi => by simp at hi⟩
  · refine ⟨some ⟨g, 0, none⟩, cap, e, fun i t hi => ⟨g, rfl, ?_⟩⟩
    subst e
    have hi' := (List.getElem?_eq_some_iff.1 hi).1
    have key : ∀ j v, j < 6 → (tkV t)[j]? = some v → w.cell? ⟨g, i * 6 + j, none⟩ = some v := fun j v hj hv => by
      rw [h.cellAt (i * 6 + j) (by omega)]
      exact tcells_at ts i j t v hi hv
    exact ⟨key 0 _ (by omega) rfl, key 1 _ (by omega) rfl, key 2 _ (by omega) rfl, key 3 _ (by omega) rfl, key 4 _ (by omega) rfl, key 5 _ (by omega) rfl⟩
theorem same_any (t : Tk) (w : World) : Calls Tryz.prog 11 #[.agg (tkA t), .agg (tkA t)] w fun e w' => e = .returned (.bool true) ∧ Below w.heap.size w w' := by
  obtain ⟨kd, tx, vl, l, c⟩ := t
  generalize htb : (⟨tx.toArray⟩ : ByteArray) = tb at *
  unfold tkA
  simp only [htb]
  generalize hiOf vl = hi
  generalize loOf vl = lo
  clear htb
  go_enter Tryz.func11, Tryz.ntmps11
  go_wp2
  go_ret
  refine ⟨by simp, ?_⟩
  go_grown
set_option maxHeartbeats 2000000 in
set_option maxRecDepth 100000 in
theorem sames_any (ts : List Tk) (ad bd : Option Addr) (c1 c2 : Nat) (hn : ts.length ≤ 65536) (w : World) (h1 : Tok6 w ad ts) (h2 : Tok6 w bd ts) :
    Calls Tryz.prog 8 #[.slice ad ts.length c1, .slice bd ts.length c2] w fun e w' => e = .returned (.bool true) ∧ Below w.heap.size w w' := by
  have H1 : Hid (Tok6 w ad ts) := h1
  have H2 : Hid (Tok6 w bd ts) := h2
  have HG : Hid (∀ i, i < ts.length → ∃ t, ts[i]? = some t) := fun i hi => ⟨ts[i], List.getElem?_eq_getElem hi⟩
  obtain ⟨n, hN⟩ : ∃ n, n = ts.length := ⟨_, rfl⟩
  rw [← hN] at HG hn ⊢
  clear h1 h2 hN
  go_enter Tryz.func8, Tryz.ntmps8
  go_wp2
  go_loopw [5] (fun i wr => ∃ (k : Nat), k ≤ n ∧ i = .int .i64 k ∧ Below w.heap.size w wr) (fun i _ => n - (intOf i).toNat)
  case atStart => exact ⟨0, by omega, rfl, Below.refl _ _⟩
  case round =>
    obtain ⟨k, hk, rfl, hB⟩ := hrel
    have HB : Hid (Below w.heap.size w wr) := hB
    by_cases hlt : k < n
    · obtain ⟨t, ht⟩ := HG.out k hlt
      obtain ⟨g, rfl, s6⟩ := H1.out k t ht
      obtain ⟨g2, rfl, r6⟩ := H2.out k t ht
      have hkp : Kept (fun j => w.heap.size ≤ j) w wr := ⟨hB.os, hB.tape, hB.output, hB.size, fun i hi hs => hB.block i (by omega)⟩
      have s6' := s6.kept hkp (by have := s6.lt; omega)
      have r6' := r6.kept hkp (by have := r6.lt; omega)
      have CS : Hid (Calls Tryz.prog 11 #[.agg (tkA t), .agg (tkA t)] wr.drew fun e w' => e = .returned (.bool true) ∧ Below wr.heap.size wr w') := (same_any t wr.drew).mono (fun e w' h => ⟨h.1, ((Below.refl _ _).drew).trans h.2⟩)
      have b0 := s6'.c0
      have b1 := s6'.c1
      have b2 := s6'.c2
      have b3 := s6'.c3
      have b4 := s6'.c4
      have b5 := s6'.c5
      have d0 := r6'.c0
      have d1 := r6'.c1
      have d2 := r6'.c2
      have d3 := r6'.c3
      have d4 := r6'.c4
      have d5 := r6'.c5
      clear s6 r6 s6' r6' hkp hB ht H1 H2 HG
      go_wp2
      go_cut [6] from 12 to 28 (fun t wx => t = .bool true ∧ Hid (Below w.heap.size w wx))
      case first =>
        go_region_with (go_at_call 11; refine CS.out.mono ?_; rintro e w2 ⟨rfl, hb2⟩)
        all_goals (go_wp2_with fail; go_meet; exact ⟨rfl, bst HB.out hb2 (Nat.le_refl _)⟩)
      case rest =>
        obtain ⟨rfl, HBc⟩ := hcut
        clear b0 b1 b2 b3 b4 b5 d0 d1 d2 d3 d4 d5
        go_wp2
        exact ⟨⟨k + 1, by omega, by go_num, HBc.out⟩, by simp only [intOf]; omega⟩
    · have e : k = n := by omega
      subst e
      clear hB
      go_wp2
      go_ret
      exact ⟨rfl, HB.out⟩
/-- The world in which a word was written over. -/
def overW (w : World) (g o : Nat) (v : Int) : World :=
  (((((w.setCell ⟨g, o, none⟩ (.int .i64 v)).setCell ⟨g, o + 1, none⟩ (.string ⟨#[]⟩)).setCell ⟨g, o + 2, none⟩ (.int .u64 0)).setCell ⟨g, o + 3, none⟩ (.int .u64 0)).setCell ⟨g, o + 4, none⟩ (.int .i64 0)).setCell ⟨g, o + 5, none⟩ (.int .i64 0)
theorem overW_kept (w : World) (g o : Nat) (v : Int) : Kept (fun j => j = g) w (overW w g o v) := by
  unfold overW
  exact ((((((Kept.refl (fun j => j = g) w).set rfl _).set rfl _).set rfl _).set rfl _).set rfl _).set rfl _
theorem row_over {w : World} {B e g cap n : Nat} {xs : List Value} (h : w.ownsRow B e 6 (.slice (some ⟨g, 0, none⟩) n cap) n xs) (i : Nat) (hi : i < n) (v : Int) :
    ∃ ys, (overW w g (i * 6) v).ownsRow B e 6 (.slice (some ⟨g, 0, none⟩) n cap) n ys ∧ ys[i * 6]? = some (.int .i64 v) ∧ ∀ j, j ≠ i → ys[j * 6]? = xs[j * 6]? := by
  have hl : xs.length = n * 6 := h.1
  have s0 := (h.stored (i * 6) (.int .i64 v)).1
  have s1 := (s0.stored (i * 6 + 1) (.string ⟨#[]⟩)).1
  have s2 := (s1.stored (i * 6 + 2) (.int .u64 0)).1
  have s3 := (s2.stored (i * 6 + 3) (.int .u64 0)).1
  have s4 := (s3.stored (i * 6 + 4) (.int .i64 0)).1
  have s5 := (s4.stored (i * 6 + 5) (.int .i64 0)).1
  refine ⟨_, s5, ?_, fun j hj => ?_⟩
  · rw [List.getElem?_set_ne (by omega), List.getElem?_set_ne (by omega), List.getElem?_set_ne (by omega), List.getElem?_set_ne (by omega), List.getElem?_set_ne (by omega), List.getElem?_set_self (by omega)]
  · rw [List.getElem?_set_ne (by omega), List.getElem?_set_ne (by omega), List.getElem?_set_ne (by omega), List.getElem?_set_ne (by omega), List.getElem?_set_ne (by omega), List.getElem?_set_ne (by omega)]
/-- A word's six cells are there. -/
theorem row_cells {w : World} {B e g cap n : Nat} {xs : List Value} (h : w.ownsRow B e 6 (.slice (some ⟨g, 0, none⟩) n cap) n xs) (i : Nat) (hi : i < n) (j : Nat) (hj : j < 6) : ∃ u, xs[i * 6 + j]? = some u ∧ w.cell? ⟨g, i * 6 + j, none⟩ = some u := by
  have hl : xs.length = n * 6 := h.1
  have hlt : i * 6 + j < xs.length := by omega
  exact ⟨xs[i * 6 + j], List.getElem?_eq_getElem hlt, by rw [h.cellAt (i * 6 + j) (by omega), List.getElem?_eq_getElem hlt]⟩
/-- What the statement holds: the document's words, its own three lists. -/
structure Hold (w wr : World) (TA TB : List Tk × (Nat × Nat × Nat)) (wad : Option Addr) (be bf bg Bb Bc Bd : Nat) (va vb vc : Value) (xa xb xc : List Value) : Prop where
  want : Tok6 wr wad TA.1
  wlow : ∀ k, wad.map (·.block) = some k → k < be
  fe : Blk wr be (fltA TA.2) 28
  ff : Blk wr bf (fltA TA.2) 28
  fg : Blk wr bg (fltA TA.2) 28
  ra : wr.ownsRow (be + 1) 39 6 va TA.1.length xa
  la : ∀ k, va.ownBlock = some k → k < bf
  rb : wr.ownsRow Bb 39 6 vb TB.1.length xb
  lb : ∀ k, vb.ownBlock = some k → k < Bc
  rc : wr.ownsRow Bc 39 6 vc TA.1.length xc
  lc : ∀ k, vc.ownBlock = some k → k < bg
  ord : w.heap.size ≤ be ∧ be < bf ∧ bf < Bb ∧ Bb ≤ Bc ∧ Bc ≤ bg ∧ bg < Bd ∧ Bd ≤ wr.heap.size
  bel : Below w.heap.size w wr
variable {w wr w' : World} {TA TB : List Tk × (Nat × Nat × Nat)} {wad : Option Addr} {be bf bg Bb Bc Bd : Nat} {va vb vc : Value} {xa xb xc xa' xb' xc' : List Value}
theorem Hold.turn {S : Nat → Prop} (h : Hold w wr TA TB wad be bf bg Bb Bc Bd va vb vc xa xb xc) (hk : Kept S wr w') (hs : ∀ k, S k → be < k ∧ k ≠ bf ∧ k ≠ bg)
    (ra : w'.ownsRow (be + 1) 39 6 va TA.1.length xa') (rb : w'.ownsRow Bb 39 6 vb TB.1.length xb') (rc : w'.ownsRow Bc 39 6 vc TA.1.length xc') : Hold w w' TA TB wad be bf bg Bb Bc Bd va vb vc xa' xb' xc' := by
  obtain ⟨o1, o2, o3, o4, o5, o6, o7⟩ := h.ord
  refine ⟨fun i t hi => ?_, h.wlow, h.fe.kept hk (fun e => by have := (hs _ e).1; omega), h.ff.kept hk (fun e => (hs _ e).2.1 rfl), h.fg.kept hk (fun e => (hs _ e).2.2 rfl), ra, h.la, rb, h.lb, rc, h.lc, ⟨o1, o2, o3, o4, o5, o6, Nat.le_trans o7 hk.size⟩, h.bel.trans (hk.below h.bel.size (fun k e => by have := (hs _ e).1; omega))⟩
  obtain ⟨g, e, h6⟩ := h.want i t hi
  refine ⟨g, e, h6.kept hk (fun e2 => ?_)⟩
  have h1 := h.wlow g (by rw [e]; rfl)
  have h2 := (hs g e2).1
  omega
theorem Hold.keep {S : Nat → Prop} (h : Hold w wr TA TB wad be bf bg Bb Bc Bd va vb vc xa xb xc) (hk : Kept S wr w') (hs : ∀ k, S k → Bd ≤ k) : Hold w w' TA TB wad be bf bg Bb Bc Bd va vb vc xa xb xc := by
  obtain ⟨o1, o2, o3, o4, o5, o6, o7⟩ := h.ord
  refine h.turn hk (fun k e => by have := hs k e; omega) (ownsRow_kept h.ra hk fun k e e2 => ?_) (ownsRow_kept h.rb hk fun k e e2 => ?_) (ownsRow_kept h.rc hk fun k e e2 => ?_)
  · have := hs k e2; have := h.la k e; omega
  · have := hs k e2; have := h.lb k e; omega
  · have := hs k e2; have := h.lc k e; omega
theorem Hold.below (h : Hold w wr TA TB wad be bf bg Bb Bc Bd va vb vc xa xb xc) (hb : Below wr.heap.size wr w') : Hold w w' TA TB wad be bf bg Bb Bc Bd va vb vc xa xb xc := h.keep (S := fun _ => False) (Kept.of_below hb) (fun _ e => e.elim)
theorem Hold.overA {g cap : Nat} (h : Hold w wr TA TB wad be bf bg Bb Bc Bd (.slice (some ⟨g, 0, none⟩) TA.1.length cap) vb vc xa xb xc) (i : Nat) (hi : i < TA.1.length) (v : Int) :
    ∃ ys, Hold w (overW wr g (i * 6) v) TA TB wad be bf bg Bb Bc Bd (.slice (some ⟨g, 0, none⟩) TA.1.length cap) vb vc ys xb xc ∧ ys[i * 6]? = some (.int .i64 v) ∧ ∀ j, j ≠ i → ys[j * 6]? = xa[j * 6]? := by
  obtain ⟨ys, h1, h2, h3⟩ := row_over h.ra i hi v
  obtain ⟨o1, o2, o3, o4, o5, o6, o7⟩ := h.ord
  have l1 := h.la g rfl
  have l2 := (h.ra.lt g rfl).1
  refine ⟨ys, h.turn (overW_kept wr g (i * 6) v) (fun k e => by omega) h1 (ownsRow_kept h.rb (overW_kept wr g (i * 6) v) fun k e e2 => ?_) (ownsRow_kept h.rc (overW_kept wr g (i * 6) v) fun k e e2 => ?_), h2, h3⟩
  · have := (h.rb.lt k e).1; omega
  · have := (h.rc.lt k e).1; omega
theorem Hold.overB {g cap : Nat} (h : Hold w wr TA TB wad be bf bg Bb Bc Bd va (.slice (some ⟨g, 0, none⟩) TB.1.length cap) vc xa xb xc) (i : Nat) (hi : i < TB.1.length) (v : Int) :
    ∃ ys, Hold w (overW wr g (i * 6) v) TA TB wad be bf bg Bb Bc Bd va (.slice (some ⟨g, 0, none⟩) TB.1.length cap) vc xa ys xc ∧ ys[i * 6]? = some (.int .i64 v) ∧ ∀ j, j ≠ i → ys[j * 6]? = xb[j * 6]? := by
  obtain ⟨ys, h1, h2, h3⟩ := row_over h.rb i hi v
  obtain ⟨o1, o2, o3, o4, o5, o6, o7⟩ := h.ord
  have l1 := h.lb g rfl
  have l2 := (h.rb.lt g rfl).1
  refine ⟨ys, h.turn (overW_kept wr g (i * 6) v) (fun k e => by omega) (ownsRow_kept h.ra (overW_kept wr g (i * 6) v) fun k e e2 => ?_) h1 (ownsRow_kept h.rc (overW_kept wr g (i * 6) v) fun k e e2 => ?_), h2, h3⟩
  · have := h.la k e; omega
  · have := (h.rc.lt k e).1; omega
theorem Hold.overC {g cap : Nat} (h : Hold w wr TA TB wad be bf bg Bb Bc Bd va vb (.slice (some ⟨g, 0, none⟩) TA.1.length cap) xa xb xc) (i : Nat) (hi : i < TA.1.length) (v : Int) :
    ∃ ys, Hold w (overW wr g (i * 6) v) TA TB wad be bf bg Bb Bc Bd va vb (.slice (some ⟨g, 0, none⟩) TA.1.length cap) xa xb ys ∧ ys[i * 6]? = some (.int .i64 v) ∧ ∀ j, j ≠ i → ys[j * 6]? = xc[j * 6]? := by
  obtain ⟨ys, h1, h2, h3⟩ := row_over h.rc i hi v
  obtain ⟨o1, o2, o3, o4, o5, o6, o7⟩ := h.ord
  have l1 := h.lc g rfl
  have l2 := (h.rc.lt g rfl).1
  refine ⟨ys, h.turn (overW_kept wr g (i * 6) v) (fun k e => by omega) (ownsRow_kept h.ra (overW_kept wr g (i * 6) v) fun k e e2 => ?_) (ownsRow_kept h.rb (overW_kept wr g (i * 6) v) fun k e e2 => ?_) h1, h2, h3⟩
  · have := h.la k e; omega
  · have := h.lb k e; omega
end Go.Proofs.YtlgfpjaomiomjaaGreatDoor
