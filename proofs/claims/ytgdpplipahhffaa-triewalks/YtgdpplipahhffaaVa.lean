/- A trie and the document's one beside one another, both made since: what each call does to both, in all cases. -/
import Derived.Test.YtgdpplipahhffaaGc
namespace Go.Proofs.Ytgdpplipahhffaa
open Go.RowKit
set_option linter.unusedVariables false
set_option linter.unusedSimpArgs false

/-- The document's trie, made since; ro is the block of its row. -/
structure RefI (w0 w : World) (r W most : Nat) (L : List (List Bool × Int)) (ro : Option Nat) : Prop where
  hd : ∃ ba bc, ro = (Value.slice ba L.length bc).ownBlock ∧ Blk w r #[.int .i64 W, .int .i64 most, .slice ba L.length bc] 40 ∧ w.ownsRow w0.heap.size 57 2 (.slice ba L.length bc) L.length (rowR L)
  srt : Srt L
  few : L.length ≤ 4096
  lo : w0.heap.size ≤ r
section
variable {w0 w : World} {q r W most : Nat} {L : List (List Bool × Int)} {ro : Option Nat}
theorem RefI.at (h : RefI w0 w r W most L ro) : RefAt w w0.heap.size r W most L := by
  obtain ⟨⟨ba, bc, h1, h2, h3⟩, h4, h5, h6⟩ := h
  exact ⟨⟨ba, bc, h2, h3⟩, h4, h5⟩
theorem RefI.row (h : RefI w0 w r W most L ro) : ∀ k, ro = some k → w0.heap.size ≤ k ∧ ∃ cs f, w.heap[k]? = some (.cells cs 57 f) := by
  obtain ⟨⟨ba, bc, h1, h2, h3⟩, h4, h5, h6⟩ := h
  intro k e
  rw [h1] at e
  rcases h3.2 with ⟨e1, _⟩ | ⟨b, cap, cur, e1, hb, hg, _⟩
  · rw [e1] at e; simp [Value.ownBlock] at e
  · rw [e1] at e
    simp [Value.ownBlock] at e
    subst e
    exact ⟨hb, _, _, hg⟩
theorem RefI.hdr (h : RefI w0 w r W most L ro) : ∃ cs f, w.heap[r]? = some (.cells cs 40 f) := by
  obtain ⟨⟨ba, bc, h1, h2, h3⟩, h4, h5, h6⟩ := h
  exact ⟨_, _, h2⟩
theorem RefI.kept {w' : World} {S : Nat → Prop} (h : RefI w0 w r W most L ro) (hk : Kept S w w') (h1 : ¬ S r) (h2 : ∀ k, ro = some k → ¬ S k) : RefI w0 w' r W most L ro := by
  obtain ⟨⟨ba, bc, g1, g2, g3⟩, h4, h5, h6⟩ := h
  exact ⟨⟨ba, bc, g1, g2.kept hk h1, ownsRow_kept g3 hk (fun k e => h2 k (by rw [g1]; exact e))⟩, h4, h5, h6⟩
theorem RefI.below {w' : World} (h : RefI w0 w r W most L ro) (hk : Below w.heap.size w w') : RefI w0 w' r W most L ro := h.kept (S := fun _ => False) (Kept.of_below hk) id (fun _ _ => id)
theorem Own.keptS {w' : World} {S : Nat → Prop} (hO : Own w0 w q W most L) (hk : Kept S w w') (hq : ¬ S q) (hS : ∀ k, S k → w.heap.size ≤ k ∨ ∃ cs t f, w.heap[k]? = some (.cells cs t f) ∧ t ≠ 98 ∧ t ≠ 3) (hlo : ∀ k, S k → w0.heap.size ≤ k) : Own w0 w' q W most L := by
  obtain ⟨⟨a, n, N, hT, hkk⟩, hb, hl⟩ := hO
  have no : ∀ {b : Nat} {cs : Array Value} {t : TypeId}, Blk w b cs t → (t = 98 ∨ t = 3) → ¬ S b := fun {b cs t} h ht e => by
    rcases hS b e with e2 | ⟨cs', t', f', e2, n1, n2⟩
    · have := h.lt; omega
    · unfold Blk at h
      rw [h] at e2
      cases e2
      exact ht.elim n1 n2
  refine ⟨⟨a, n, N, hT.kept' hk hq (fun x hx => ?_), hkk⟩, hb.trans (hk.below hb.size hlo), hl⟩
  obtain ⟨b0, b1, hn⟩ := hT.hang.thing x hx
  exact ⟨no hn.cells (.inl rfl), fun t v ht => no (hn.thing t v ht) (.inr rfl)⟩
theorem Own.hdr (hO : Own w0 w q W most L) : ∃ cs f, w.heap[q]? = some (.cells cs 84 f) := by
  obtain ⟨⟨a, n, N, hT, hkk⟩, hb, hl⟩ := hO
  exact ⟨_, _, hT.hd⟩
/-- Both, keeping the same. -/
structure Duo (w0 w : World) (q r W most : Nat) (L : List (List Bool × Int)) (ro : Option Nat) : Prop where
  own : Own w0 w q W most L
  ref : RefI w0 w r W most L ro
/-- What a call on both may touch. -/
def Tch (q r : Nat) (ro : Option Nat) (k : Nat) : Prop := k = q ∨ k = r ∨ ro = some k
def Apart (q r : Nat) (ro : Option Nat) (q2 r2 : Nat) (ro2 : Option Nat) : Prop := q ≠ q2 ∧ r ≠ r2 ∧ ∀ k, ro = some k → ro2 ≠ some k
theorem Apart.symm {q2 r2 : Nat} {ro2 : Option Nat} (h : Apart q r ro q2 r2 ro2) : Apart q2 r2 ro2 q r ro := ⟨fun e => h.1 e.symm, fun e => h.2.1 e.symm, fun k e1 e2 => h.2.2 k e2 e1⟩
theorem Duo.below {w' : World} (h : Duo w0 w q r W most L ro) (hk : Below w.heap.size w w') : Duo w0 w' q r W most L ro := ⟨h.own.below hk, h.ref.below hk⟩
theorem Duo.lo (h : Duo w0 w q r W most L ro) : ∀ k, Tch q r ro k → w0.heap.size ≤ k := by
  rintro k (rfl | rfl | e)
  · exact h.own.lo
  · exact h.ref.lo
  · exact (h.ref.row k e).1
theorem Duo.tch (h : Duo w0 w q r W most L ro) : ∀ k, Tch q r ro k → k < w.heap.size := by
  rintro k (rfl | rfl | e)
  · obtain ⟨cs, f, h⟩ := h.own.hdr; exact (Array.getElem?_eq_some_iff.1 h).1
  · obtain ⟨cs, f, h⟩ := h.ref.hdr; exact (Array.getElem?_eq_some_iff.1 h).1
  · obtain ⟨_, cs, f, h⟩ := h.ref.row k e; exact (Array.getElem?_eq_some_iff.1 h).1
theorem Duo.cells (h : Duo w0 w q r W most L ro) : ∀ k, Tch q r ro k → ∃ cs t f, w.heap[k]? = some (.cells cs t f) ∧ t ≠ 98 ∧ t ≠ 3 := by
  rintro k (rfl | rfl | e)
  · obtain ⟨cs, f, h⟩ := h.own.hdr; exact ⟨_, _, _, h, by decide, by decide⟩
  · obtain ⟨cs, f, h⟩ := h.ref.hdr; exact ⟨_, _, _, h, by decide, by decide⟩
  · obtain ⟨_, cs, f, h⟩ := h.ref.row k e; exact ⟨_, _, _, h, by decide, by decide⟩
theorem ty_ne {k : Nat} {cs cs' : Array Value} {t t' : TypeId} {f f' : Nat × Nat} (h : w.heap[k]? = some (.cells cs t f)) (h' : w.heap[k]? = some (.cells cs' t' f')) (hne : t ≠ t') : False := by
  rw [h] at h'; cases h'; exact hne rfl
/-- It stands while another pair is written over. -/
theorem Duo.other {w' : World} {q2 r2 W2 most2 : Nat} {L2 : List (List Bool × Int)} {ro2 : Option Nat} (h : Duo w0 w q r W most L ro) (h2 : Duo w0 w q2 r2 W2 most2 L2 ro2) (ha : Apart q r ro q2 r2 ro2) (hk : Kept (Tch q r ro) w w') : Duo w0 w' q2 r2 W2 most2 L2 ro2 := by
  obtain ⟨a1, a2, a3⟩ := h.own.hdr
  obtain ⟨b1, b2, b3⟩ := h.ref.hdr
  obtain ⟨c1, c2, c3⟩ := h2.own.hdr
  obtain ⟨d1, d2, d3⟩ := h2.ref.hdr
  refine ⟨h2.own.keptS hk ?_ (fun k e => .inr (h.cells k e)) h.lo, h2.ref.kept hk ?_ ?_⟩
  · rintro (e | e | e)
    · exact ha.1 e.symm
    · rw [e] at c3; exact ty_ne b3 c3 (by decide)
    · obtain ⟨_, _, _, g⟩ := h.ref.row _ e; exact ty_ne g c3 (by decide)
  · rintro (e | e | e)
    · rw [e] at d3; exact ty_ne a3 d3 (by decide)
    · exact ha.2.1 e.symm
    · obtain ⟨_, _, _, g⟩ := h.ref.row _ e; exact ty_ne g d3 (by decide)
  · rintro k e2 (e | e | e)
    · obtain ⟨_, _, _, g⟩ := h2.ref.row _ e2; rw [e] at g; exact ty_ne a3 g (by decide)
    · obtain ⟨_, _, _, g⟩ := h2.ref.row _ e2; rw [e] at g; exact ty_ne b3 g (by decide)
    · exact ha.2.2 k e e2
/-- The trie's own call has touched its head alone. -/
theorem Duo.step1 {w' : World} {L' : List (List Bool × Int)} (h : Duo w0 w q r W most L ro) (hO : Own w0 w' q W most L') (hk : Kept (fun k => k = q) w w') : RefI w0 w' r W most L ro := by
  obtain ⟨a1, a2, a3⟩ := h.own.hdr
  obtain ⟨b1, b2, b3⟩ := h.ref.hdr
  refine h.ref.kept hk (fun e => ?_) (fun k e2 e => ?_)
  · have e : r = q := e
    rw [e] at b3; exact ty_ne a3 b3 (by decide)
  · have e : k = q := e
    obtain ⟨_, _, _, g⟩ := h.ref.row _ e2; rw [e] at g; exact ty_ne a3 g (by decide)
/-- The document's call has touched its head and its row alone. -/
theorem RefI.step2 {w' : World} {L' : List (List Bool × Int)} (h : RefI w0 w r W most L ro) (hO : Own w0 w q W most L') (hk : Kept (fun k => k = r ∨ ro = some k) w w') : Own w0 w' q W most L' := by
  obtain ⟨a1, a2, a3⟩ := hO.hdr
  obtain ⟨b1, b2, b3⟩ := h.hdr
  refine hO.keptS hk ?_ ?_ ?_
  · rintro (e | e)
    · rw [e] at a3; exact ty_ne b3 a3 (by decide)
    · obtain ⟨_, _, _, g⟩ := h.row _ e; exact ty_ne g a3 (by decide)
  · rintro k (rfl | e)
    · exact .inr ⟨_, _, _, b3, by decide, by decide⟩
    · obtain ⟨_, _, _, g⟩ := h.row _ e; exact .inr ⟨_, _, _, g, by decide, by decide⟩
  · rintro k (rfl | e)
    · exact h.lo
    · exact (h.row _ e).1
theorem RefI.upd' (h : RefI w0 w r W most L ro) {w' : World} {L' : List (List Bool × Int)} {ba : Option Addr} {bc : Nat} {B : Nat} (hB : w0.heap.size ≤ B) (h1 : Blk w' r #[.int .i64 W, .int .i64 most, .slice ba L'.length bc] 40) (h2 : w'.ownsRow B 57 2 (.slice ba L'.length bc) L'.length (rowR L')) (hs : Srt L') (hf : L'.length ≤ 4096) : RefI w0 w' r W most L' (Value.slice ba L'.length bc).ownBlock :=
  ⟨⟨ba, bc, rfl, h1, h2.1, h2.2.imp id (fun ⟨g, cap, cur, e, hb, rest⟩ => ⟨g, cap, cur, e, Nat.le_trans hB hb, rest⟩)⟩, hs, hf, h.lo⟩
end
/-- A row's block is the old one, or a new one. -/
def NewRow (w : World) (ro ro' : Option Nat) : Prop := ro' = ro ∨ ∀ k, ro' = some k → w.heap.size ≤ k
/-- A call on a trie, and the document's call: both answer c, and keep L' from now on. -/
def Both (W most : Nat) (L L' : List (List Bool × Int)) (f g : FuncId) (a b : Array Value) (c : Value) : Prop :=
  (∀ w0 w q, Own w0 w q W most L → Calls Try.prog f (#[.pointer (some ⟨q, 0, none⟩)] ++ a) w fun e w' => e = .returned c ∧ Hid (Own w0 w' q W most L' ∧ Kept (fun k => k = q) w w')) ∧
  (∀ w0 w r ro, RefI w0 w r W most L ro → w0.heap.size ≤ w.heap.size → Calls Try.prog g (#[.pointer (some ⟨r, 0, none⟩)] ++ b) w fun e w' => e = .returned c ∧ ∃ ro', Hid (RefI w0 w' r W most L' ro' ∧ Kept (fun k => k = r ∨ ro = some k) w w' ∧ NewRow w ro ro'))
section
variable {W most : Nat} {L : List (List Bool × Int)}
theorem both_of_below {f g : FuncId} {a b : Array Value} {c : Value}
    (h1 : ∀ w0 w q, Own w0 w q W most L → Calls Try.prog f (#[.pointer (some ⟨q, 0, none⟩)] ++ a) w fun e w' => e = .returned c ∧ Below w.heap.size w w')
    (h2 : ∀ w B r, RefAt w B r W most L → Calls Try.prog g (#[.pointer (some ⟨r, 0, none⟩)] ++ b) w fun e w' => e = .returned c ∧ Below w.heap.size w w') : Both W most L L f g a b c := by
  refine ⟨fun w0 w q hO => (h1 w0 w q hO).mono ?_, fun w0 w r ro hR _ => (h2 w _ r hR.at).mono ?_⟩
  · rintro e w' ⟨rfl, h⟩
    exact ⟨rfl, (⟨hO.below h, Kept.of_below h⟩ : _ ∧ _)⟩
  · rintro e w' ⟨rfl, h⟩
    exact ⟨rfl, ro, (⟨hR.below h, Kept.of_below h, .inl rfl⟩ : _ ∧ _ ∧ _)⟩
theorem own_grow {w0 w w' : World} {q : Nat} {L' : List (List Bool × Int)} (hO : Own w0 w q W most L) {a : Option Nat} {n : Nat} {N : List (Nd Int)} (g1 : TrieAt w' q W most a n N) (g2 : kept N = L') (g3 : Kept (fun k => k = q) w w') : Own w0 w' q W most L' :=
  ⟨⟨a, n, N, g1, g2⟩, hO.be.trans (g3.below hO.be.size (fun k e => by have e' : k = q := e; rw [e']; exact hO.lo)), hO.lo⟩
theorem put_both (h1 : 1 ≤ W) (h2 : W ≤ 128) (hs : Srt L) (hm : L.length ≤ most) (hmm : most ≤ 4096) (v : Nat) (hv : Is128 v) (l u : Int) : ∃ (c : Int) (L' : List (List Bool × Int)), Both W most L L' 24 41 #[Pf v l, .int .i64 u] #[B v, .int .i64 l, .int .i64 u] (.int .i64 c) := by
  by_cases hP : isP W v l = true
  · obtain ⟨p, hp, rfl, rfl⟩ := isP_yes hP
    cases hl : look p L with
    | some x =>
      refine ⟨121, L, both_of_below (fun w0 w q hO => ?_) (fun w B r hR => rput_dup hR h1 h2 hp u hl)⟩
      obtain ⟨⟨a, n, N, hT, hk⟩, _⟩ := hO
      exact put_dup hT hp u (by rw [hk, hl]; simp)
    | none =>
      by_cases hc : L.length < most
      · refine ⟨0, upd p u L, fun w0 w q hO => ?_, fun w0 w r ro hR hw => ?_⟩
        · obtain ⟨⟨a, n, N, hT, hk⟩, _⟩ := id hO
          refine (put_ok hT hp u (by rw [hk]; exact hl) (by rw [hk]; exact hc)).mono ?_
          rintro e w' ⟨rfl, a', n', N', g1, g2, g3⟩
          exact ⟨rfl, (⟨own_grow hO g1 (by rw [g2, hk]) g3, g3⟩ : _ ∧ _)⟩
        · obtain ⟨⟨ba, bc, g1, g2, g3⟩, g4, g5, g6⟩ := id hR
          refine (rput_ok g2 g3 hs g5 h1 h2 hp u hl hc).mono ?_
          rintro e w' ⟨rfl, ba', bc', H⟩
          have hlen := len_upd (p := p) (v := u) hs
          rw [hl] at hlen
          have hlen : (upd p u L).length = L.length + 1 := hlen
          refine ⟨rfl, _, (⟨hR.upd' hw H.out.1 H.out.2.1 (srt_upd hs) (by omega), H.out.2.2.mono fun k _ e => .inl e, .inr fun k e => ?_⟩ : _ ∧ _ ∧ _)⟩
          rcases H.out.2.1.2 with ⟨e1, _⟩ | ⟨b, cap, cur, e1, hb, hg, _⟩
          · rw [e1] at e; simp [Value.ownBlock] at e
          · rw [e1] at e
            simp [Value.ownBlock] at e
            omega
      · refine ⟨120, L, both_of_below (fun w0 w q hO => ?_) (fun w B r hR => rput_full hR h1 h2 hp u hl (by omega))⟩
        obtain ⟨⟨a, n, N, hT, hk⟩, _⟩ := hO
        exact put_full hT hp u (by rw [hk]; exact hl) (by rw [hk]; omega)
  · have hP : isP W v l = false := Bool.eq_false_iff.2 hP
    refine ⟨111, L, both_of_below (fun w0 w q hO => ?_) (fun w B r hR => rput_bad hR h1 h2 v hv l u hP)⟩
    obtain ⟨⟨a, n, N, hT, hk⟩, _⟩ := hO
    exact put_bad hT v hv l u hP
theorem set_both (h1 : 1 ≤ W) (h2 : W ≤ 128) (hs : Srt L) (v : Nat) (hv : Is128 v) (l u : Int) : ∃ (c : Int) (L' : List (List Bool × Int)), Both W most L L' 38 42 #[Pf v l, .int .i64 u] #[B v, .int .i64 l, .int .i64 u] (.int .i64 c) := by
  by_cases hP : isP W v l = true
  · obtain ⟨p, hp, rfl, rfl⟩ := isP_yes hP
    cases hl : look p L with
    | none =>
      refine ⟨122, L, both_of_below (fun w0 w q hO => ?_) (fun w B r hR => rset_none hR h1 h2 hp u hl)⟩
      obtain ⟨⟨a, n, N, hT, hk⟩, _⟩ := hO
      exact set_absent hT hp u (by rw [hk, hl])
    | some x =>
      refine ⟨0, upd p u L, fun w0 w q hO => ?_, fun w0 w r ro hR hw => ?_⟩
      · obtain ⟨⟨a, n, N, hT, hk⟩, _⟩ := id hO
        refine (set_ok hT hp u (by rw [hk, hl]; simp)).mono ?_
        rintro e w' ⟨rfl, a', n', N', g1, g2, g3⟩
        exact ⟨rfl, (⟨own_grow hO g1 (by rw [g2, hk]) g3, g3⟩ : _ ∧ _)⟩
      · obtain ⟨⟨ba, bc, g1, g2, g3⟩, g4, g5, g6⟩ := id hR
        refine (rset_some g2 g3 hs g5 h1 h2 hp u hl).mono ?_
        rintro e w' ⟨rfl, H⟩
        have hlen := len_upd (p := p) (v := u) hs
        rw [hl] at hlen
        have hlen : (upd p u L).length = L.length := hlen
        refine ⟨rfl, _, (⟨hR.upd' (Nat.le_refl _) H.out.1 H.out.2.1 (srt_upd hs) (by omega), H.out.2.2.mono fun k _ e => .inr (by rw [g1]; exact e), .inl ?_⟩ : _ ∧ _ ∧ _)⟩
        rw [g1, hlen]
  · have hP : isP W v l = false := Bool.eq_false_iff.2 hP
    refine ⟨111, L, both_of_below (fun w0 w q hO => ?_) (fun w B r hR => rset_bad hR h1 h2 v hv l u hP)⟩
    obtain ⟨⟨a, n, N, hT, hk⟩, _⟩ := hO
    exact set_bad hT v hv l u hP
theorem get_both (h1 : 1 ≤ W) (h2 : W ≤ 128) (v : Nat) (hv : Is128 v) (l : Int) : ∃ o : Option Int, Both W most L L 28 44 #[Pf v l] #[B v, .int .i64 l] (okI o) := by
  by_cases hP : isP W v l = true
  · obtain ⟨p, hp, rfl, rfl⟩ := isP_yes hP
    refine ⟨look p L, both_of_below (fun w0 w q hO => ?_) (fun w B r hR => rget_yes hR h1 h2 hp)⟩
    obtain ⟨⟨a, n, N, hT, hk⟩, _⟩ := hO
    have := get_yes hT hp
    rw [hk] at this
    exact this
  · have hP : isP W v l = false := Bool.eq_false_iff.2 hP
    refine ⟨none, both_of_below (fun w0 w q hO => ?_) (fun w B r hR => rget_bad hR h1 h2 v hv l hP)⟩
    obtain ⟨⟨a, n, N, hT, hk⟩, _⟩ := hO
    exact get_no h1 h2 q v hv l hP w (hT.hd.cell 0 rfl)
theorem drop_both (h1 : 1 ≤ W) (h2 : W ≤ 128) (hs : Srt L) (hm : L.length ≤ 4096) (v : Nat) (hv : Is128 v) (l : Int) : ∃ (o : Option Int) (L' : List (List Bool × Int)), Both W most L L' 39 43 #[Pf v l] #[B v, .int .i64 l] (okI o) := by
  by_cases hP : isP W v l = true
  · obtain ⟨p, hp, rfl, rfl⟩ := isP_yes hP
    cases hl : look p L with
    | none =>
      refine ⟨none, L, both_of_below (fun w0 w q hO => ?_) (fun w B r hR => ?_)⟩
      · obtain ⟨⟨a, n, N, hT, hk⟩, _⟩ := hO
        refine drop_none _ _ _ w fun w1 hb => ?_
        have := get_yes (hT.below hb) hp
        rw [hk, hl] at this
        exact this
      · refine rdrop_none hR _ _ fun w1 hb => ?_
        have := rget_yes (hR.below hb) h1 h2 hp
        rw [hl] at this
        exact this
    | some x =>
      refine ⟨some x, del p L, fun w0 w q hO => ?_, fun w0 w r ro hR hw => ?_⟩
      · obtain ⟨⟨a, n, N, hT, hk⟩, _⟩ := id hO
        refine (drop_some hT hp x (by rw [hk, hl])).mono ?_
        rintro e w' ⟨rfl, a', n', N', g1, g2, g3⟩
        exact ⟨rfl, (⟨own_grow hO g1 (by rw [g2, hk]) g3, g3⟩ : _ ∧ _)⟩
      · obtain ⟨⟨ba, bc, g1, g2, g3⟩, g4, g5, g6⟩ := id hR
        refine (rdrop_some g2 g3 hs g5 h1 h2 hp hl).mono ?_
        rintro e w' ⟨rfl, ba', bc', H⟩
        have hlen := len_del (p := p) hs (by rw [hl]; rfl)
        refine ⟨rfl, _, (⟨hR.upd' hw H.out.1 H.out.2.1 (srt_del hs) (by omega), H.out.2.2.mono fun k _ e => .inl e, .inr fun k e => ?_⟩ : _ ∧ _ ∧ _)⟩
        rcases H.out.2.1.2 with ⟨e1, _⟩ | ⟨b, cap, cur, e1, hb, hg, _⟩
        · rw [e1] at e; simp [Value.ownBlock] at e
        · rw [e1] at e
          simp [Value.ownBlock] at e
          omega
  · have hP : isP W v l = false := Bool.eq_false_iff.2 hP
    refine ⟨none, L, both_of_below (fun w0 w q hO => ?_) (fun w B r hR => ?_)⟩
    · obtain ⟨⟨a, n, N, hT, hk⟩, _⟩ := hO
      exact drop_none _ _ _ w fun w1 hb => get_no h1 h2 q v hv l hP w1 ((hT.below hb).hd.cell 0 rfl)
    · exact rdrop_none hR _ _ fun w1 hb => rget_bad (hR.below hb) h1 h2 v hv l hP
end
end Go.Proofs.Ytgdpplipahhffaa
