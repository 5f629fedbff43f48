/- every: what Every answers is its owner's; written over and grown, it is as it should be. every: the walk. play: the calls that may change both, Every, Nodes, and those that do nothing. -/
import Derived.Test.YtgdpplipahhffaaHc
import Derived.Laws.OwnMore
import Derived.Deep.AppendLies
namespace Go.Proofs.Ytgdpplipahhffaa
open Go.RowKit
set_option linter.unusedVariables false
set_option linter.unusedSimpArgs false

/-- A prefix of nothing but a length. -/
def sp (k : Int) : List Value := [.int .u64 0, .int .u64 0, .int .i64 k]
/-- The world in which a prefix was written over. -/
def over3 (w : World) (g o : Nat) (k : Int) : World := ((w.setCell ⟨g, o, none⟩ (.int .u64 0)).setCell ⟨g, o + 1, none⟩ (.int .u64 0)).setCell ⟨g, o + 2, none⟩ (.int .i64 k)
theorem over3_kept (w : World) (g o : Nat) (k : Int) : Kept (fun j => j = g) w (over3 w g o k) := by
  unfold over3
  exact (((Kept.refl (fun j => j = g) w).set rfl _).set rfl _).set rfl _
theorem row3_over {w : World} {B e g cap n : Nat} {xs : List Value} (h : w.ownsRow B e 3 (.slice (some ⟨g, 0, none⟩) n cap) n xs) (i : Nat) (hi : i < n) (k : Int) :
    ∃ ys, (over3 w g (i * 3) k).ownsRow B e 3 (.slice (some ⟨g, 0, none⟩) n cap) n ys ∧ ys[i * 3 + 2]? = some (.int .i64 k) ∧ ∀ j t, j ≠ i → t < 3 → ys[j * 3 + t]? = xs[j * 3 + t]? := by
  have hl : xs.length = n * 3 := h.1
  have s0 := (h.stored (i * 3) (.int .u64 0)).1
  have s1 := (s0.stored (i * 3 + 1) (.int .u64 0)).1
  have s2 := (s1.stored (i * 3 + 2) (.int .i64 k)).1
  refine ⟨_, s2, ?_, fun j t hj ht => ?_⟩
  · rw [List.getElem?_set_self (by simp; omega)]
  · rw [List.getElem?_set_ne (by omega), List.getElem?_set_ne (by omega), List.getElem?_set_ne (by omega)]
theorem row3_cells {w : World} {B e g cap n : Nat} {xs : List Value} (h : w.ownsRow B e 3 (.slice (some ⟨g, 0, none⟩) n cap) n xs) (i : Nat) (hi : i < n) (j : Nat) (hj : j < 3) : ∃ u, xs[i * 3 + j]? = some u ∧ w.cell? ⟨g, i * 3 + j, none⟩ = some u := by
  have hl : xs.length = n * 3 := h.1
  have hlt : i * 3 + j < xs.length := by omega
  exact ⟨xs[i * 3 + j], List.getElem?_eq_getElem hlt, by rw [h.cellAt (i * 3 + j) (by omega), List.getElem?_eq_getElem hlt]⟩
theorem app_two (w : World) (B : Nat) (s : Value) (n : Nat) (xs : List Value) (k1 k2 : Int) (hown : w.ownsRow B 51 3 s n xs) (hB : B ≤ w.heap.size) (hn : n + 2 ≤ 1000000) :
    ∃ ba bc W2, Sem.run Try.prog (appd #[65, 65] 65 #[s, .slice (some ⟨w.heap.size, 0, none⟩) 2 2]) (w.alloc (.cells #[.int .u64 0, .int .u64 0, .int .i64 k1, .int .u64 0, .int .u64 0, .int .i64 k2] 51)) = .ok (.slice ba (n + 2) bc) W2 ∧
      W2.ownsRow B 51 3 (.slice ba (n + 2) bc) (n + 2) (xs ++ (sp k1 ++ sp k2)) ∧ Kept (fun k => s.ownBlock = some k) w W2 ∧ ((Value.slice ba (n + 2) bc).ownBlock = s.ownBlock ∨ ∃ g, (Value.slice ba (n + 2) bc).ownBlock = some g ∧ w.heap.size ≤ g) := by
  obtain ⟨i0, hi, hz0, hz1, hz2⟩ := info_parts info51
  have hA := Blk.new w #[.int .u64 0, .int .u64 0, .int .i64 k1, .int .u64 0, .int .u64 0, .int .i64 k2] 51
  have hb : Below w.heap.size w (w.alloc (.cells #[.int .u64 0, .int .u64 0, .int .i64 k1, .int .u64 0, .int .u64 0, .int .i64 k2] 51)) := (Below.refl _ _).alloc (Nat.le_refl _) _
  obtain ⟨s', W2, hr, ho2, hg2, _, hat⟩ := run_append_own_at (P := Try.prog) (w := w.alloc (.cells #[.int .u64 0, .int .u64 0, .int .i64 k1, .int .u64 0, .int .u64 0, .int .i64 k2] 51)) B 65 65 51 i0 _ 3 24 Try.underlying65 hi hz0 hz1 hz2 rfl (by decide) s _ _
    (ownsRow_kept hown (Kept.of_below (S := fun _ => False) hb) (fun k _ e => e)) ⟨w.heap.size, 0, none⟩ 2 2 (sp k1 ++ sp k2) rfl (fun j u hu => by
      rw [Addr.add_mid, Nat.zero_add]
      rw [← List.getElem?_toArray] at hu
      exact hA.cell j hu) (fun u hu => by
      simp only [sp, List.mem_cons, List.not_mem_nil, or_false, List.cons_append, List.nil_append] at hu
      rcases hu with rfl | rfl | rfl | rfl | rfl | rfl <;> rfl) (by unfold maxLen; omega) (by omega) (Nat.le_trans hB hb.size)
  obtain ⟨ba, bc, rfl⟩ := ownsRow_slice ho2
  refine ⟨ba, bc, W2, hr, ho2, (Kept.of_below hb).trans ⟨hg2.os, hg2.tape, hg2.output, hg2.size, fun k hk hs => hg2.block k hk (fun e => hs e.symm)⟩, ?_⟩
  rcases hat with h | h
  · exact .inl h
  · exact .inr ⟨_, h, by have := hb.size; omega⟩
/-- What every holds: the document's row, its own two rows. -/
structure Hold (w wr : World) (r W most m : Nat) (bx : Option Addr) (cx : Nat) (K : List (List Bool × Int)) (vw va vb : Value) (na nb : Nat) (xa xb : List Value) : Prop where
  hd : Blk wr r #[.int .i64 W, .int .i64 most, .slice bx m cx] 40
  want : wr.ownsRow w.heap.size 57 2 vw K.length (rowR K)
  ra : wr.ownsRow w.heap.size 51 3 va na xa
  rb : wr.ownsRow w.heap.size 51 3 vb nb xb
  dj : ∀ k, va.ownBlock = some k → vb.ownBlock ≠ some k
  rlt : r < w.heap.size
  be : Below w.heap.size w wr
section
variable {w wr w' : World} {r W most m : Nat} {bx : Option Addr} {cx : Nat} {K : List (List Bool × Int)} {vw va vb : Value} {na nb : Nat} {xa xb : List Value}
theorem row_block {A : World} {B e z n : Nat} {s : Value} {xs : List Value} (ho : A.ownsRow B e z s n xs) {k : Nat} (hk : s.ownBlock = some k) : B ≤ k ∧ ∃ cs f, A.heap[k]? = some (.cells cs e f) := by
  rcases ho.2 with ⟨e1, _⟩ | ⟨b, cap, cur, e1, hb, hg, _⟩
  · rw [e1] at hk; simp [Value.ownBlock] at hk
  · rw [e1] at hk
    simp [Value.ownBlock] at hk
    subst hk
    exact ⟨hb, _, _, hg⟩
theorem Hold.swap (h : Hold w wr r W most m bx cx K vw va vb na nb xa xb) : Hold w wr r W most m bx cx K vw vb va nb na xb xa := ⟨h.hd, h.want, h.rb, h.ra, fun k e1 e2 => h.dj k e2 e1, h.rlt, h.be⟩
theorem Hold.below (h : Hold w wr r W most m bx cx K vw va vb na nb xa xb) (hb : Below wr.heap.size wr w') : Hold w w' r W most m bx cx K vw va vb na nb xa xb :=
  ⟨h.hd.below hb, ownsRow_kept h.want (Kept.of_below (S := fun _ => False) hb) (fun _ _ => id), ownsRow_kept h.ra (Kept.of_below (S := fun _ => False) hb) (fun _ _ => id), ownsRow_kept h.rb (Kept.of_below (S := fun _ => False) hb) (fun _ _ => id), h.dj, h.rlt, bst h.be hb (Nat.le_refl _)⟩
/-- The first row has changed. -/
theorem Hold.turn {va' : Value} {na' : Nat} {xa' : List Value} (h : Hold w wr r W most m bx cx K vw va vb na nb xa xb) (hk : Kept (fun k => va.ownBlock = some k) wr w') (ho : w'.ownsRow w.heap.size 51 3 va' na' xa') (hat : va'.ownBlock = va.ownBlock ∨ ∃ g, va'.ownBlock = some g ∧ wr.heap.size ≤ g) : Hold w w' r W most m bx cx K vw va' vb na' nb xa' xb := by
  have hne : ∀ k, va.ownBlock = some k → w.heap.size ≤ k := fun k e => (row_block h.ra e).1
  refine ⟨h.hd.kept hk (fun e => by have := hne _ e; have := h.rlt; omega), ownsRow_kept h.want hk (fun k e1 e2 => ?_), ho, ownsRow_kept h.rb hk (fun k e1 e2 => h.dj k e2 e1), fun k e1 e2 => ?_, h.rlt, h.be.trans (hk.below h.be.size hne)⟩
  · obtain ⟨_, _, _, g1⟩ := row_block h.want e1
    obtain ⟨_, _, _, g2⟩ := row_block h.ra e2
    exact ty_ne g1 g2 (by decide)
  · rcases hat with h1 | ⟨g, h1, h2⟩
    · rw [h1] at e1; exact h.dj k e1 e2
    · rw [h1] at e1
      cases e1
      obtain ⟨_, _, _, g2⟩ := row_block h.rb e2
      have := (Array.getElem?_eq_some_iff.1 g2).1
      omega
theorem Hold.overA {g cap : Nat} (h : Hold w wr r W most m bx cx K vw (.slice (some ⟨g, 0, none⟩) na cap) vb na nb xa xb) (i : Nat) (hi : i < na) (k : Int) :
    ∃ ys, Hold w (over3 wr g (i * 3) k) r W most m bx cx K vw (.slice (some ⟨g, 0, none⟩) na cap) vb na nb ys xb ∧ ys[i * 3 + 2]? = some (.int .i64 k) ∧ ∀ j t, j ≠ i → t < 3 → ys[j * 3 + t]? = xa[j * 3 + t]? := by
  obtain ⟨ys, h1, h2, h3⟩ := row3_over h.ra i hi k
  exact ⟨ys, h.turn ((over3_kept wr g (i * 3) k).mono fun j _ e => by have e' : j = g := e; rw [e']; simp [Value.ownBlock]) h1 (.inl rfl), h2, h3⟩
theorem Hold.app (h : Hold w wr r W most m bx cx K vw va vb na nb xa xb) (k1 k2 : Int) (hn : na + 2 ≤ 1000000) :
    ∃ ba bc W2, Sem.run Try.prog (appd #[65, 65] 65 #[va, .slice (some ⟨wr.heap.size, 0, none⟩) 2 2]) (wr.alloc (.cells #[.int .u64 0, .int .u64 0, .int .i64 k1, .int .u64 0, .int .u64 0, .int .i64 k2] 51)) = .ok (.slice ba (na + 2) bc) W2 ∧
      Hold w W2 r W most m bx cx K vw (.slice ba (na + 2) bc) vb (na + 2) nb (xa ++ (sp k1 ++ sp k2)) xb := by
  obtain ⟨ba, bc, W2, hr, ho, hk, hat⟩ := app_two wr w.heap.size va na xa k1 k2 h.ra h.be.size hn
  exact ⟨ba, bc, W2, hr, h.turn hk ho hat⟩
end
end Go.Proofs.Ytgdpplipahhffaa
namespace Go.Proofs.Ytgdpplipahhffaa
open Go.RowKit
set_option linter.unusedVariables false
set_option linter.unusedSimpArgs false

theorem own_mono {w : World} {B B' e z n : Nat} {s : Value} {xs : List Value} (h : w.ownsRow B e z s n xs) (hB : B' ≤ B) : w.ownsRow B' e z s n xs :=
  ⟨h.1, h.2.imp id fun ⟨g, cap, cur, e, hb, rest⟩ => ⟨g, cap, cur, e, Nat.le_trans hB hb, rest⟩⟩
theorem rowK_at {W : Nat} {p : List Bool} {j : Nat} {u : Value} (hu : (pfC W p)[j]? = some u) : ∀ {K : List (List Bool)} {i : Nat}, K[i]? = some p → (rowK W K)[i * 3 + j]? = some u
  | [], i, h => by simp at h
  | y :: K, 0, h => by
    have hj : j < 3 := (List.getElem?_eq_some_iff.1 hu).1
    simp at h; subst h
    rw [show rowK W (y :: K) = pfC W y ++ rowK W K from rfl, Nat.zero_mul, Nat.zero_add, List.getElem?_append_left (by exact hj)]
    exact hu
  | y :: K, i + 1, h => by
    rw [show rowK W (y :: K) = pfC W y ++ rowK W K from rfl, List.getElem?_append_right (by show (3 : Nat) ≤ _; omega), show (pfC W y).length = 3 from rfl, show (i + 1) * 3 + j - 3 = i * 3 + j by omega]
    exact rowK_at hu (by simpa using h)
section
variable {w0 w : World} {q r W most : Nat} {L : List (List Bool × Int)} {ro : Option Nat}
attribute [local go_sem ↓] append_appd
set_option maxHeartbeats 4000000 in
theorem every46 (hD : Duo w0 w q r W most L ro) (h1 : 1 ≤ W) (hW : W ≤ 128) (a : Nat) (ha : Is128 a) :
    Calls Try.prog 46 #[.pointer (some ⟨q, 0, none⟩), .pointer (some ⟨r, 0, none⟩), B a] w fun e w' => e = .returned (.bool true) ∧ Below w.heap.size w w' := by
  obtain ⟨⟨bx, cx, g1, g2, g3⟩, g4, g5, g6⟩ := id hD.ref
  have HB := one_new w #[.int .u64 (hiOf a), .int .u64 (loOf a)] 33
  have hKl : (hitsL W a L).length ≤ 4096 := by
    unfold hitsL; split
    · exact Nat.le_trans (List.length_filter_le _ _) g5
    · simp
  have HKW : Hid (∀ y ∈ hitsL W a L, y.1.length ≤ W) := fun y hy => hD.own.lens y (hits_mem hy)
  have C65 : Hid (∀ V, Below w.heap.size w V → Calls Try.prog 65 #[.pointer (some ⟨r, 0, none⟩), B a] V fun e w' => ∃ ba bc, e = .returned (.slice ba (hitsL W a L).length bc) ∧ Hid (w'.ownsRow V.heap.size 57 2 (.slice ba (hitsL W a L).length bc) (hitsL W a L).length (rowR (hitsL W a L)) ∧ Below V.heap.size V w')) := fun V hV => (every_both h1 hW g5 a ha).2 V _ r (hD.ref.below hV).at
  have C27 : Hid (∀ V, Below w.heap.size w V → Calls Try.prog 27 #[.pointer (some ⟨q, 0, none⟩), B a] V fun e w' => ∃ ba bc, e = .returned (.slice ba (hitsL W a L).length bc) ∧ Hid (w'.ownsRow V.heap.size 51 3 (.slice ba (hitsL W a L).length bc) (hitsL W a L).length (rowK W (keys (hitsL W a L))) ∧ Below V.heap.size V w')) := fun V hV => (every_both h1 hW g5 a ha).1 _ V q (hD.own.below hV)
  have HX : Hid (Blk w r #[.int .i64 W, .int .i64 most, .slice bx L.length cx] 40 ∧ r < w.heap.size) := ⟨g2, g2.lt⟩
  generalize L.length = m at *
  generalize hitsL W a L = K at *
  obtain ⟨n, hn⟩ : ∃ n, K.length = n := ⟨_, rfl⟩
  rw [hn] at C65 C27 hKl
  have HN : Hid (K.length = n) := hn
  clear g1 g2 g3 g4 g5 g6 hD hn
  go_enter Try.func46, Try.ntmps46
  go_upto_region 1 with fail
  generalize (w.alloc _) = w1 at HB ⊢
  have HA1 : Hid (Blk w1 w.heap.size #[.int .u64 (hiOf a), .int .u64 (loOf a)] 33 ∧ Below w.heap.size w w1) := ⟨HB.1, HB.2.1⟩
  clear HB
  have x0 := HA1.out.1.cell 0 (v := .int .u64 (hiOf a)) rfl
  have x1 := HA1.out.1.cell 1 (v := .int .u64 (loOf a)) rfl
  go_wp2_with fail
  refine (C65.out _ HA1.out.2).mono ?_
  rintro e w2 ⟨wa, wc', rfl, H2⟩
  have HA2 : Hid (Blk w2 w.heap.size #[.int .u64 (hiOf a), .int .u64 (loOf a)] 33 ∧ Below w.heap.size w w2) := ⟨HA1.out.1.below H2.out.2, bst HA1.out.2 H2.out.2⟩
  clear x0 x1
  have x0 := HA2.out.1.cell 0 (v := .int .u64 (hiOf a)) rfl
  have x1 := HA2.out.1.cell 1 (v := .int .u64 (loOf a)) rfl
  go_wp2_with fail
  refine (C27.out _ HA2.out.2).mono ?_
  rintro e w3 ⟨b1, c1, rfl, H3⟩
  have HA3 : Hid (Blk w3 w.heap.size #[.int .u64 (hiOf a), .int .u64 (loOf a)] 33 ∧ Below w.heap.size w w3) := ⟨HA2.out.1.below H3.out.2, bst HA2.out.2 H3.out.2⟩
  clear x0 x1
  have x0 := HA3.out.1.cell 0 (v := .int .u64 (hiOf a)) rfl
  have x1 := HA3.out.1.cell 1 (v := .int .u64 (loOf a)) rfl
  go_wp2_with fail
  refine (C27.out _ HA3.out.2).mono ?_
  rintro e w4 ⟨b2, c2, rfl, H4⟩
  have H5 : Hid (Hold w w4 r W most m bx cx K (.slice wa n wc') (.slice b1 n c1) (.slice b2 n c2) n n (rowK W (keys K)) (rowK W (keys K))) := by
    have z1 := HA1.out.2.size
    have z2 := HA2.out.2.size
    have z3 := HA3.out.2.size
    have hw4 : Below w2.heap.size w2 w4 := bst H3.out.2 H4.out.2 (Nat.le_refl _)
    refine ⟨HX.out.1.below (bst HA3.out.2 H4.out.2 (Nat.le_refl _)), ?_, own_mono (ownsRow_kept H3.out.1 (Kept.of_below (S := fun _ => False) H4.out.2) (fun _ _ => id)) z2, own_mono H4.out.1 z3, fun k e1 e2 => ?_, HX.out.2, bst HA3.out.2 H4.out.2⟩
    · have := own_mono (ownsRow_kept H2.out.1 (Kept.of_below (S := fun _ => False) hw4) (fun _ _ => id)) z1
      rw [HN.out]; exact this
    · obtain ⟨_, _, _, g1⟩ := row_block H3.out.1 e1
      have := (row_block H4.out.1 e2).1
      have := (Array.getElem?_eq_some_iff.1 g1).1
      omega
  clear x0 x1 HA1 HA2 HA3 H2 H3 H4 C65 C27 HX
  go_wp2
  go_loopw [10] (fun i wr => ∃ (k : Nat) (xs : List Value), k ≤ n ∧ i = .int .i64 k ∧ Hid (Hold w wr r W most m bx cx K (.slice wa n wc') (.slice b1 n c1) (.slice b2 n c2) n n xs (rowK W (keys K)) ∧ ∀ j, j < k → xs[j * 3 + 2]? = some (.int .i64 (-5)))) (fun i _ => 5000 - (intOf i).toNat)
  case atStart => exact ⟨0, _, Nat.zero_le _, rfl, (⟨H5.out, fun j hj => by omega⟩ : _ ∧ _)⟩
  case round =>
    obtain ⟨k, xs, hk, rfl, hA⟩ := hrel
    by_cases hlt : k < n
    · have hlt' : (k : Int) < n := by omega
      obtain ⟨g, cap, e, _⟩ := hA.out.1.ra.form (by omega)
      injection e with e1 e2 e3
      subst e1
      obtain ⟨ys, hy, hy1, hy2⟩ := hA.out.1.overA k hlt (-5)
      have HY : Hid (Hold w (over3 wr g (k * 3) (-5)) r W most m bx cx K (.slice wa n wc') (.slice (some ⟨g, 0, none⟩) n c1) (.slice b2 n c2) n n ys (rowK W (keys K)) ∧ ∀ j, j < k + 1 → ys[j * 3 + 2]? = some (.int .i64 (-5))) := ⟨hy, fun j hj => by
        by_cases e : j = k
        · subst e; exact hy1
        · rw [hy2 j 2 e (by omega)]; exact hA.out.2 j (by omega)⟩
      obtain ⟨u0, _, c0⟩ := row3_cells hA.out.1.ra k hlt 0 (by omega)
      obtain ⟨u1, _, c1'⟩ := row3_cells hA.out.1.ra k hlt 1 (by omega)
      obtain ⟨u2, _, c2'⟩ := row3_cells hA.out.1.ra k hlt 2 (by omega)
      rw [Nat.add_zero] at c0
      have f0 := hA.out.1.ra.frozenAt (k * 3)
      have f1 := hA.out.1.ra.frozenAt (k * 3 + 1)
      have f2 := hA.out.1.ra.frozenAt (k * 3 + 2)
      clear hA hy hy1 hy2 H5
      go_wp2
      go_roundw
      case rel => exact ⟨k + 1, ys, by omega, by go_num, HY⟩
      case measure => simp [intOf]; omega
    · have hlt' : ¬ (k : Int) < n := by omega
      have e : n = k := by omega
      subst e
      obtain ⟨ba3, bc3, w5, hr5, h5⟩ := hA.out.1.app (-6) (-7) (by omega)
      have H6 : Hid (Hold w w5 r W most m bx cx K (.slice wa n wc') (.slice ba3 (n + 2) bc3) (.slice b2 n c2) (n + 2) n (xs ++ (sp (-6) ++ sp (-7))) (rowK W (keys K)) ∧ xs.length = n * 3 ∧ ∀ j, j < n → xs[j * 3 + 2]? = some (.int .i64 (-5))) := ⟨h5, hA.out.1.ra.1, hA.out.2⟩
      clear hA h5 H5 hk hlt
      go_wp2_with fail
      clear hr5
      obtain ⟨wo, hwo⟩ : ∃ wo, wo = wr := ⟨_, rfl⟩
      subst hwo
      go_loopw [12] (fun i wr => ∃ (k : Nat) (ys : List Value), k ≤ n ∧ i = .int .i64 k ∧ Hid (Hold w wr r W most m bx cx K (.slice wa n wc') (.slice ba3 (n + 2) bc3) (.slice b2 n c2) (n + 2) n (xs ++ (sp (-6) ++ sp (-7))) ys ∧ (∀ j, j < k → ys[j * 3 + 2]? = some (.int .i64 (-8))) ∧ ∀ j t, k ≤ j → t < 3 → ys[j * 3 + t]? = (rowK W (keys K))[j * 3 + t]?)) (fun i _ => 5000 - (intOf i).toNat)
      case atStart => exact ⟨0, _, Nat.zero_le _, rfl, (⟨H6.out.1, fun j hj => by omega, fun j t _ _ => rfl⟩ : _ ∧ _ ∧ _)⟩
      case round =>
        obtain ⟨k, ys, hk, rfl, hA⟩ := hrel
        by_cases hlt : k < n
        · have hlt'' : (k : Int) < n := by omega
          obtain ⟨y, hy⟩ : ∃ y, K[k]? = some y := ⟨_, List.getElem?_eq_getElem (by have := HN.out; omega)⟩
          have hyW : y.1.length ≤ W := HKW.out y (List.mem_of_getElem? hy)
          have hky : (keys K)[k]? = some y.1 := by rw [List.getElem?_map, hy]; rfl
          obtain ⟨g, cap, e, _⟩ := hA.out.1.rb.form (by omega)
          injection e with e1 e2 e3
          subst e1
          obtain ⟨gw', hba, hnb, hrow⟩ := rowR_at (by have := hA.out.1.want; rw [HN.out] at this; exact this) HN.out (by omega)
          obtain ⟨r0, r1⟩ := hrow k y hy
          subst hba
          have cell3 : ∀ j u, j < 3 → (pfC W y.1)[j]? = some u → wr.cell? ⟨g, k * 3 + j, none⟩ = some u := fun j u hj hu => by
            rw [hA.out.1.rb.cellAt (k * 3 + j) (by omega), hA.out.2.2 k j (Nat.le_refl _) hj]
            exact rowK_at hu hky
          have d0 := cell3 0 _ (by omega) rfl
          have d1 := cell3 1 _ (by omega) rfl
          have d2 := cell3 2 _ (by omega) rfl
          rw [Nat.add_zero] at d0
          have x0 := hA.out.1.hd.cell 0 (v := .int .i64 W) rfl
          have C22 : Hid (∀ w1, Calls Try.prog 22 #[Pf (valOf W y.1) y.1.length, .agg #[.string (tx y.1), .int .i64 y.2], .int .i64 W] w1 fun e w' => e = .returned (.bool true) ∧ Below w1.heap.size w1 w') := fun w1 => same_yes w1 hW hyW y.2
          generalize valOf W y.1 = vy at *
          generalize tx y.1 = ty at *
          clear hrow hnb hky hy hyW cell3
          go_upto_region 14 with fail
          have d0' := gw_cell d0
          have d1' := gw_cell d1
          have d2' := gw_cell d2
          have x0' := gw_cell x0
          have r0' := gw_cell r0
          have r1' := gw_cell r1
          clear d0 d1 d2 x0 r0 r1
          refine region_grows (by kernel_rfl) (by kernel_rfl) ?_
          repeat (go_big_quiet_step ((go_at_call 22; exact calls_gw (C22.out _))))
          refine wpQuiet_nil ?_
          intro wq hwq
          obtain ⟨zq, rfl⟩ := hwq
          have hH := hA.out.1.below (gw_below zq)
          obtain ⟨zs, hz, hz1, hz2⟩ := hH.swap.overA k hlt (-8)
          have HY : Hid (Hold w (over3 (gw zq) g (k * 3) (-8)) r W most m bx cx K (.slice (some ⟨gw', 0, none⟩) n wc') (.slice ba3 (n + 2) bc3) (.slice (some ⟨g, 0, none⟩) n c2) (n + 2) n (xs ++ (sp (-6) ++ sp (-7))) zs ∧ (∀ j, j < k + 1 → zs[j * 3 + 2]? = some (.int .i64 (-8))) ∧ ∀ j t, k + 1 ≤ j → t < 3 → zs[j * 3 + t]? = (rowK W (keys K))[j * 3 + t]?) := ⟨hz.swap, fun j hj => by
            by_cases e : j = k
            · subst e; exact hz1
            · rw [hz2 j 2 e (by omega)]; exact hA.out.2.1 j (by omega), fun j t hj ht => by rw [hz2 j t (by omega) ht]; exact hA.out.2.2 j t (by omega) ht⟩
          obtain ⟨u0, _, c0⟩ := row3_cells hH.rb k hlt 0 (by omega)
          obtain ⟨u1, _, c1'⟩ := row3_cells hH.rb k hlt 1 (by omega)
          obtain ⟨u2, _, c2'⟩ := row3_cells hH.rb k hlt 2 (by omega)
          rw [Nat.add_zero] at c0
          have f0 := hH.rb.frozenAt (k * 3)
          have f1 := hH.rb.frozenAt (k * 3 + 1)
          have f2 := hH.rb.frozenAt (k * 3 + 2)
          clear hA hH hz hz1 hz2 H6 d0' d1' d2' x0' r0' r1' C22
          generalize gw zq = w6 at *
          go_wp2
          go_roundw
          case rel => exact ⟨k + 1, zs, by omega, by go_num, HY⟩
          case measure => simp [intOf]; omega
        · have hlt'' : ¬ (k : Int) < n := by omega
          have e : n = k := by omega
          subst e
          obtain ⟨ba4, bc4, w7, hr7, h7⟩ := hA.out.1.swap.app (-9) (-9) (by omega)
          have H7 : Hid (Hold w w7 r W most m bx cx K (.slice wa n wc') (.slice ba3 (n + 2) bc3) (.slice ba4 (n + 2) bc4) (n + 2) (n + 2) (xs ++ (sp (-6) ++ sp (-7))) (ys ++ (sp (-9) ++ sp (-9))) ∧ (xs.length = n * 3 ∧ ys.length = n * 3) ∧ (∀ j, j < n → xs[j * 3 + 2]? = some (.int .i64 (-5))) ∧ (∀ j, j < n → ys[j * 3 + 2]? = some (.int .i64 (-8)))) := ⟨h7.swap, ⟨H6.out.2.1, hA.out.1.rb.1⟩, H6.out.2.2, hA.out.2.1⟩
          clear hA h7 H6 hk hlt
          go_wp2_with fail
          clear hr7
          obtain ⟨g3, cap3, e3, _⟩ := H7.out.1.ra.form (by omega)
          injection e3 with e31 e32 e33
          subst e31
          obtain ⟨g4, cap4, e4, _⟩ := H7.out.1.rb.form (by omega)
          injection e4 with e41 e42 e43
          subst e41
          have A3 : ∀ j u, j < (n + 2) * 3 → (xs ++ (sp (-6) ++ sp (-7)))[j]? = some u → w7.cell? ⟨g3, j, none⟩ = some u := fun j u hj hu => by
            rw [H7.out.1.ra.cellAt j hj]; exact hu
          have A4 : ∀ j u, j < (n + 2) * 3 → (ys ++ (sp (-9) ++ sp (-9)))[j]? = some u → w7.cell? ⟨g4, j, none⟩ = some u := fun j u hj hu => by
            rw [H7.out.1.rb.cellAt j hj]; exact hu
          have HC : Hid ((∀ j, j < n → w7.cell? ⟨g3, j * 3 + 2, none⟩ = some (.int .i64 (-5)) ∧ w7.cell? ⟨g4, j * 3 + 2, none⟩ = some (.int .i64 (-8))) ∧ w7.cell? ⟨g3, n * 3 + 2, none⟩ = some (.int .i64 (-6)) ∧ w7.cell? ⟨g3, (n + 1) * 3 + 2, none⟩ = some (.int .i64 (-7)) ∧ w7.cell? ⟨g4, n * 3 + 2, none⟩ = some (.int .i64 (-9)) ∧ Below w.heap.size w w7) := by
            obtain ⟨l1, l2⟩ := H7.out.2.1
            refine ⟨fun j hj => ⟨A3 _ _ (by omega) ?_, A4 _ _ (by omega) ?_⟩, A3 _ _ (by omega) ?_, A3 _ _ (by omega) ?_, A4 _ _ (by omega) ?_, H7.out.1.be⟩
            · rw [List.getElem?_append_left (by omega)]; exact H7.out.2.2.1 j hj
            · rw [List.getElem?_append_left (by omega)]; exact H7.out.2.2.2 j hj
            · rw [List.getElem?_append_right (by omega), show n * 3 + 2 - xs.length = 2 by omega]; rfl
            · rw [List.getElem?_append_right (by omega), show (n + 1) * 3 + 2 - xs.length = 5 by omega]; rfl
            · rw [List.getElem?_append_right (by omega), show n * 3 + 2 - ys.length = 2 by omega]; rfl
          clear A3 A4 H7 e32 e33 e42 e43
          go_loopw [16] (fun i wr => ∃ k : Nat, k ≤ n ∧ i = .int .i64 k ∧ wr = w7) (fun i _ => 5000 - (intOf i).toNat)
          case atStart => exact ⟨0, Nat.zero_le _, rfl, rfl⟩
          case round =>
            obtain ⟨k, hk, rfl, rfl⟩ := hrel
            by_cases hlt : k < n
            · have hlt3 : (k : Int) < n := by omega
              obtain ⟨d3, d4⟩ := HC.out.1 k hlt
              have hi1 : (k : Int) < ((n + 2 : Nat) : Int) := by omega
              have hi2 : k < n + 2 := by omega
              go_wp2
              go_roundw
              case rel => exact ⟨k + 1, by omega, by go_num, trivial⟩
              case measure => simp [intOf]; omega
            · have hlt3 : ¬ (k : Int) < n := by omega
              obtain ⟨_, d3, d3', d4, hb⟩ := HC.out
              have HF : Hid (Below w.heap.size w wr) := hb
              clear HC hb
              go_wp2
              go_ret
              exact ⟨rfl, HF.out⟩
end
end Go.Proofs.Ytgdpplipahhffaa
namespace Go.Proofs.Ytgdpplipahhffaa
open Go.RowKit
set_option linter.unusedVariables false
set_option linter.unusedSimpArgs false

section
variable {w0 w : World} {q r W most : Nat} {L : List (List Bool × Int)} {ro : Option Nat}
theorem Own.room (hO : Own w0 w q W most L) : 1 ≤ most ∧ most ≤ 4096 := by
  obtain ⟨⟨a, n, N, hT, hk⟩, _⟩ := hO
  exact hT.most.2
theorem both_mid {w2 w4 : World} {L' : List (List Bool × Int)} (hD : Duo w0 w q r W most L ro) (hb : Below w.heap.size w w2) (h4 : Own w0 w4 q W most L' ∧ Kept (fun k => k = q) w2 w4) : RefI w0 w4 r W most L ro ∧ w0.heap.size ≤ w4.heap.size :=
  ⟨(hD.below hb).step1 h4.1 h4.2, h4.1.be.size⟩
theorem both_fin {w2 w4 w5 : World} {L' : List (List Bool × Int)} {ro' : Option Nat} (hD : Duo w0 w q r W most L ro) (hb : Below w.heap.size w w2) (h4 : Own w0 w4 q W most L' ∧ Kept (fun k => k = q) w2 w4) (h5 : RefI w0 w5 r W most L' ro' ∧ Kept (fun k => k = r ∨ ro = some k) w4 w5 ∧ NewRow w4 ro ro') :
    Duo w0 w5 q r W most L' ro' ∧ Kept (Tch q r ro) w w5 ∧ NewRow w ro ro' := by
  have hm := (both_mid hD hb h4).1
  refine ⟨⟨hm.step2 h4.1 h5.2.1, h5.1⟩, ((Kept.of_below hb).trans (h4.2.mono fun k _ e => .inl e)).trans (h5.2.1.mono fun k _ e => .inr e), ?_⟩
  rcases h5.2.2 with h | h
  · exact .inl h
  · exact .inr fun k e => by have := h k e; have := h4.2.size; have := hb.size; omega
set_option maxHeartbeats 4000000 in
set_option maxRecDepth 100000 in
theorem play_put (hD : Duo w0 w q r W most L ro) (h1 : 1 ≤ W) (hW : W ≤ 128) (k l u : Int) (a : Nat) (ha : Is128 a) (hk : k % 12 = 0) :
    Calls Try.prog 13 #[.pointer (some ⟨q, 0, none⟩), .pointer (some ⟨r, 0, none⟩), .agg #[.int .i64 k, .int .u64 (hiOf a), .int .u64 (loOf a), .int .i64 l, .int .i64 u]] w fun e w' => e = .returned (.bool true) ∧ ∃ L' ro', Hid (Duo w0 w' q r W most L' ro' ∧ Kept (Tch q r ro) w w' ∧ NewRow w ro ro') := by
  have hm := hD.own.room
  have HD : Hid (Duo w0 w q r W most L ro) := hD
  obtain ⟨c, L', hB1, hB2⟩ := put_both (W := W) (most := most) (L := L) h1 hW hD.own.srt hD.own.cap.1 hm.2 a ha l u
  have CT : Hid (∀ V, Below w.heap.size w V → Calls Try.prog 24 #[.pointer (some ⟨q, 0, none⟩), Pf a l, .int .i64 u] V fun e w' => e = .returned (.int .i64 c) ∧ Hid (Own w0 w' q W most L' ∧ Kept (fun k => k = q) V w')) := fun V hV => hB1 _ V q (hD.own.below hV)
  have CR : Hid (∀ V, RefI w0 V r W most L ro → w0.heap.size ≤ V.heap.size → Calls Try.prog 41 #[.pointer (some ⟨r, 0, none⟩), B a, .int .i64 l, .int .i64 u] V fun e w' => e = .returned (.int .i64 c) ∧ ∃ ro', Hid (RefI w0 w' r W most L' ro' ∧ Kept (fun k => k = r ∨ ro = some k) V w' ∧ NewRow V ro ro')) := fun V h h' => hB2 _ V r ro h h'
  clear hB1 hB2
  have HQ : Hid (q < w.heap.size ∧ r < w.heap.size) := ⟨hD.tch q (.inl rfl), hD.tch r (.inr (.inl rfl))⟩
  have HB := one_new w #[.int .i64 k, .int .u64 (hiOf a), .int .u64 (loOf a), .int .i64 l, .int .i64 u] 35
  have C12 : Hid (∀ V, Calls Try.prog 12 #[.int .i64 k] V fun e w' => e = .returned (.int .i64 0) ∧ w' = V) := fun V => by
    have := rest_any k V
    rw [hk] at this
    exact this
  clear hD hm hk
  go_enter Try.func13, Try.ntmps13
  go_upto_region 1 with fail
  generalize (w.alloc _) = w1 at HB ⊢
  have c0 := HB.1.cell 0 (v := .int .i64 k) rfl
  have c1 := HB.1.cell 1 (v := .int .u64 (hiOf a)) rfl
  have c2 := HB.1.cell 2 (v := .int .u64 (loOf a)) rfl
  have c3 := HB.1.cell 3 (v := .int .i64 l) rfl
  have HB2 := one_new w1 #[.int .u64 (hiOf a), .int .u64 (loOf a), .int .i64 l] 51
  go_upto_region 2 with fail
  have HA : Hid (Blk (w1.alloc (.cells #[.int .u64 (hiOf a), .int .u64 (loOf a), .int .i64 l] 51)) w.heap.size #[.int .i64 k, .int .u64 (hiOf a), .int .u64 (loOf a), .int .i64 l, .int .i64 u] 35 ∧ Blk (w1.alloc (.cells #[.int .u64 (hiOf a), .int .u64 (loOf a), .int .i64 l] 51)) w1.heap.size #[.int .u64 (hiOf a), .int .u64 (loOf a), .int .i64 l] 51 ∧ Below w.heap.size w (w1.alloc (.cells #[.int .u64 (hiOf a), .int .u64 (loOf a), .int .i64 l] 51)) ∧ w.heap.size < w1.heap.size) :=
    ⟨HB.1.below HB2.2.1, HB2.1, bst HB.2.1 HB2.2.1, HB.2.2⟩
  clear c0 c1 c2 c3 HB HB2
  generalize (w1.alloc _) = w2 at HA ⊢
  generalize w1.heap.size = A1 at HA ⊢
  have c0 := HA.out.1.cell 0 (v := .int .i64 k) rfl
  have c1 := HA.out.1.cell 1 (v := .int .u64 (hiOf a)) rfl
  have c2 := HA.out.1.cell 2 (v := .int .u64 (loOf a)) rfl
  have c3 := HA.out.1.cell 3 (v := .int .i64 l) rfl
  have c4 := HA.out.1.cell 4 (v := .int .i64 u) rfl
  have d0 := HA.out.2.1.cell 0 (v := .int .u64 (hiOf a)) rfl
  have d1 := HA.out.2.1.cell 1 (v := .int .u64 (loOf a)) rfl
  have d2 := HA.out.2.1.cell 2 (v := .int .i64 l) rfl
  go_wp2_with fail
  refine (C12.out _).mono ?_
  rintro e w3 ⟨rfl, rfl⟩
  clear C12
  go_wp2_with fail
  refine (CT.out _ HA.out.2.2.1).mono ?_
  rintro e w4 ⟨rfl, H4⟩
  have HM := both_mid HD.out HA.out.2.2.1 H4.out
  have hbx : Blk w4 w.heap.size #[.int .i64 k, .int .u64 (hiOf a), .int .u64 (loOf a), .int .i64 l, .int .i64 u] 35 := HA.out.1.kept H4.out.2 (by have := HQ.out.1; show ¬ _ = _; omega)
  clear c0 c1 c2 c3 c4 d0 d1 d2 CT
  have c1 := hbx.cell 1 (v := .int .u64 (hiOf a)) rfl
  have c2 := hbx.cell 2 (v := .int .u64 (loOf a)) rfl
  have c3 := hbx.cell 3 (v := .int .i64 l) rfl
  have c4 := hbx.cell 4 (v := .int .i64 u) rfl
  clear hbx
  go_wp2_with fail
  refine (CR.out _ HM.1 HM.2).mono ?_
  rintro e w5 ⟨rfl, ro', H5⟩
  have HF : Hid (Duo w0 w5 q r W most L' ro' ∧ Kept (Tch q r ro) w w5 ∧ NewRow w ro ro') := both_fin HD.out HA.out.2.2.1 H4.out H5.out
  clear c1 c2 c3 c4 CR HM H4 H5
  go_wp2
  go_ret
  exact ⟨rfl, L', ro', HF⟩
set_option maxHeartbeats 4000000 in
set_option maxRecDepth 100000 in
theorem play_set (hD : Duo w0 w q r W most L ro) (h1 : 1 ≤ W) (hW : W ≤ 128) (k l u : Int) (a : Nat) (ha : Is128 a) (hk : k % 12 = 1) :
    Calls Try.prog 13 #[.pointer (some ⟨q, 0, none⟩), .pointer (some ⟨r, 0, none⟩), .agg #[.int .i64 k, .int .u64 (hiOf a), .int .u64 (loOf a), .int .i64 l, .int .i64 u]] w fun e w' => e = .returned (.bool true) ∧ ∃ L' ro', Hid (Duo w0 w' q r W most L' ro' ∧ Kept (Tch q r ro) w w' ∧ NewRow w ro ro') := by
  have hm := hD.own.room
  have HD : Hid (Duo w0 w q r W most L ro) := hD
  obtain ⟨c, L', hB1, hB2⟩ := set_both (W := W) (most := most) (L := L) h1 hW hD.own.srt a ha l u
  have CT : Hid (∀ V, Below w.heap.size w V → Calls Try.prog 38 #[.pointer (some ⟨q, 0, none⟩), Pf a l, .int .i64 u] V fun e w' => e = .returned (.int .i64 c) ∧ Hid (Own w0 w' q W most L' ∧ Kept (fun k => k = q) V w')) := fun V hV => hB1 _ V q (hD.own.below hV)
  have CR : Hid (∀ V, RefI w0 V r W most L ro → w0.heap.size ≤ V.heap.size → Calls Try.prog 42 #[.pointer (some ⟨r, 0, none⟩), B a, .int .i64 l, .int .i64 u] V fun e w' => e = .returned (.int .i64 c) ∧ ∃ ro', Hid (RefI w0 w' r W most L' ro' ∧ Kept (fun k => k = r ∨ ro = some k) V w' ∧ NewRow V ro ro')) := fun V h h' => hB2 _ V r ro h h'
  clear hB1 hB2
  have HQ : Hid (q < w.heap.size ∧ r < w.heap.size) := ⟨hD.tch q (.inl rfl), hD.tch r (.inr (.inl rfl))⟩
  have HB := one_new w #[.int .i64 k, .int .u64 (hiOf a), .int .u64 (loOf a), .int .i64 l, .int .i64 u] 35
  have C12 : Hid (∀ V, Calls Try.prog 12 #[.int .i64 k] V fun e w' => e = .returned (.int .i64 1) ∧ w' = V) := fun V => by
    have := rest_any k V
    rw [hk] at this
    exact this
  clear hD hm hk
  go_enter Try.func13, Try.ntmps13
  go_upto_region 1 with fail
  generalize (w.alloc _) = w1 at HB ⊢
  have c0 := HB.1.cell 0 (v := .int .i64 k) rfl
  have c1 := HB.1.cell 1 (v := .int .u64 (hiOf a)) rfl
  have c2 := HB.1.cell 2 (v := .int .u64 (loOf a)) rfl
  have c3 := HB.1.cell 3 (v := .int .i64 l) rfl
  have HB2 := one_new w1 #[.int .u64 (hiOf a), .int .u64 (loOf a), .int .i64 l] 51
  go_upto_region 2 with fail
  have HA : Hid (Blk (w1.alloc (.cells #[.int .u64 (hiOf a), .int .u64 (loOf a), .int .i64 l] 51)) w.heap.size #[.int .i64 k, .int .u64 (hiOf a), .int .u64 (loOf a), .int .i64 l, .int .i64 u] 35 ∧ Blk (w1.alloc (.cells #[.int .u64 (hiOf a), .int .u64 (loOf a), .int .i64 l] 51)) w1.heap.size #[.int .u64 (hiOf a), .int .u64 (loOf a), .int .i64 l] 51 ∧ Below w.heap.size w (w1.alloc (.cells #[.int .u64 (hiOf a), .int .u64 (loOf a), .int .i64 l] 51)) ∧ w.heap.size < w1.heap.size) :=
    ⟨HB.1.below HB2.2.1, HB2.1, bst HB.2.1 HB2.2.1, HB.2.2⟩
  clear c0 c1 c2 c3 HB HB2
  generalize (w1.alloc _) = w2 at HA ⊢
  generalize w1.heap.size = A1 at HA ⊢
  have c0 := HA.out.1.cell 0 (v := .int .i64 k) rfl
  have c1 := HA.out.1.cell 1 (v := .int .u64 (hiOf a)) rfl
  have c2 := HA.out.1.cell 2 (v := .int .u64 (loOf a)) rfl
  have c3 := HA.out.1.cell 3 (v := .int .i64 l) rfl
  have c4 := HA.out.1.cell 4 (v := .int .i64 u) rfl
  have d0 := HA.out.2.1.cell 0 (v := .int .u64 (hiOf a)) rfl
  have d1 := HA.out.2.1.cell 1 (v := .int .u64 (loOf a)) rfl
  have d2 := HA.out.2.1.cell 2 (v := .int .i64 l) rfl
  go_wp2_with fail
  refine (C12.out _).mono ?_
  rintro e w3 ⟨rfl, rfl⟩
  clear C12
  go_wp2_with fail
  refine (CT.out _ HA.out.2.2.1).mono ?_
  rintro e w4 ⟨rfl, H4⟩
  have HM := both_mid HD.out HA.out.2.2.1 H4.out
  have hbx : Blk w4 w.heap.size #[.int .i64 k, .int .u64 (hiOf a), .int .u64 (loOf a), .int .i64 l, .int .i64 u] 35 := HA.out.1.kept H4.out.2 (by have := HQ.out.1; show ¬ _ = _; omega)
  clear c0 c1 c2 c3 c4 d0 d1 d2 CT
  have c1 := hbx.cell 1 (v := .int .u64 (hiOf a)) rfl
  have c2 := hbx.cell 2 (v := .int .u64 (loOf a)) rfl
  have c3 := hbx.cell 3 (v := .int .i64 l) rfl
  have c4 := hbx.cell 4 (v := .int .i64 u) rfl
  clear hbx
  go_wp2_with fail
  refine (CR.out _ HM.1 HM.2).mono ?_
  rintro e w5 ⟨rfl, ro', H5⟩
  have HF : Hid (Duo w0 w5 q r W most L' ro' ∧ Kept (Tch q r ro) w w5 ∧ NewRow w ro ro') := both_fin HD.out HA.out.2.2.1 H4.out H5.out
  clear c1 c2 c3 c4 CR HM H4 H5
  go_wp2
  go_ret
  exact ⟨rfl, L', ro', HF⟩
set_option maxHeartbeats 4000000 in
set_option maxRecDepth 100000 in
theorem play_drop (hD : Duo w0 w q r W most L ro) (h1 : 1 ≤ W) (hW : W ≤ 128) (k l u : Int) (a : Nat) (ha : Is128 a) (hk : k % 12 = 2) :
    Calls Try.prog 13 #[.pointer (some ⟨q, 0, none⟩), .pointer (some ⟨r, 0, none⟩), .agg #[.int .i64 k, .int .u64 (hiOf a), .int .u64 (loOf a), .int .i64 l, .int .i64 u]] w fun e w' => e = .returned (.bool true) ∧ ∃ L' ro', Hid (Duo w0 w' q r W most L' ro' ∧ Kept (Tch q r ro) w w' ∧ NewRow w ro ro') := by
  have hm := hD.own.room
  have HD : Hid (Duo w0 w q r W most L ro) := hD
  obtain ⟨o, L', hB1, hB2⟩ := drop_both (W := W) (most := most) (L := L) h1 hW hD.own.srt hD.ref.few a ha l
  have CT : Hid (∀ V, Below w.heap.size w V → Calls Try.prog 39 #[.pointer (some ⟨q, 0, none⟩), Pf a l] V fun e w' => e = .returned (.tuple #[.int .i64 (o.getD 0), .bool o.isSome]) ∧ Hid (Own w0 w' q W most L' ∧ Kept (fun k => k = q) V w')) := fun V hV => hB1 _ V q (hD.own.below hV)
  have CR : Hid (∀ V, RefI w0 V r W most L ro → w0.heap.size ≤ V.heap.size → Calls Try.prog 43 #[.pointer (some ⟨r, 0, none⟩), B a, .int .i64 l] V fun e w' => e = .returned (.tuple #[.int .i64 (o.getD 0), .bool o.isSome]) ∧ ∃ ro', Hid (RefI w0 w' r W most L' ro' ∧ Kept (fun k => k = r ∨ ro = some k) V w' ∧ NewRow V ro ro')) := fun V h h' => hB2 _ V r ro h h'
  clear hB1 hB2
  have HQ : Hid (q < w.heap.size ∧ r < w.heap.size) := ⟨hD.tch q (.inl rfl), hD.tch r (.inr (.inl rfl))⟩
  have HB := one_new w #[.int .i64 k, .int .u64 (hiOf a), .int .u64 (loOf a), .int .i64 l, .int .i64 u] 35
  have C12 : Hid (∀ V, Calls Try.prog 12 #[.int .i64 k] V fun e w' => e = .returned (.int .i64 2) ∧ w' = V) := fun V => by
    have := rest_any k V
    rw [hk] at this
    exact this
  clear hD hm hk
  go_enter Try.func13, Try.ntmps13
  go_upto_region 1 with fail
  generalize (w.alloc _) = w1 at HB ⊢
  have c0 := HB.1.cell 0 (v := .int .i64 k) rfl
  have c1 := HB.1.cell 1 (v := .int .u64 (hiOf a)) rfl
  have c2 := HB.1.cell 2 (v := .int .u64 (loOf a)) rfl
  have c3 := HB.1.cell 3 (v := .int .i64 l) rfl
  have HB2 := one_new w1 #[.int .u64 (hiOf a), .int .u64 (loOf a), .int .i64 l] 51
  go_upto_region 2 with fail
  have HA : Hid (Blk (w1.alloc (.cells #[.int .u64 (hiOf a), .int .u64 (loOf a), .int .i64 l] 51)) w.heap.size #[.int .i64 k, .int .u64 (hiOf a), .int .u64 (loOf a), .int .i64 l, .int .i64 u] 35 ∧ Blk (w1.alloc (.cells #[.int .u64 (hiOf a), .int .u64 (loOf a), .int .i64 l] 51)) w1.heap.size #[.int .u64 (hiOf a), .int .u64 (loOf a), .int .i64 l] 51 ∧ Below w.heap.size w (w1.alloc (.cells #[.int .u64 (hiOf a), .int .u64 (loOf a), .int .i64 l] 51)) ∧ w.heap.size < w1.heap.size) :=
    ⟨HB.1.below HB2.2.1, HB2.1, bst HB.2.1 HB2.2.1, HB.2.2⟩
  clear c0 c1 c2 c3 HB HB2
  generalize (w1.alloc _) = w2 at HA ⊢
  generalize w1.heap.size = A1 at HA ⊢
  have c0 := HA.out.1.cell 0 (v := .int .i64 k) rfl
  have c1 := HA.out.1.cell 1 (v := .int .u64 (hiOf a)) rfl
  have c2 := HA.out.1.cell 2 (v := .int .u64 (loOf a)) rfl
  have c3 := HA.out.1.cell 3 (v := .int .i64 l) rfl
  have c4 := HA.out.1.cell 4 (v := .int .i64 u) rfl
  have d0 := HA.out.2.1.cell 0 (v := .int .u64 (hiOf a)) rfl
  have d1 := HA.out.2.1.cell 1 (v := .int .u64 (loOf a)) rfl
  have d2 := HA.out.2.1.cell 2 (v := .int .i64 l) rfl
  go_wp2_with fail
  refine (C12.out _).mono ?_
  rintro e w3 ⟨rfl, rfl⟩
  clear C12
  go_wp2_with fail
  refine (CT.out _ HA.out.2.2.1).mono ?_
  rintro e w4 ⟨rfl, H4⟩
  have HM := both_mid HD.out HA.out.2.2.1 H4.out
  have hbx : Blk w4 w.heap.size #[.int .i64 k, .int .u64 (hiOf a), .int .u64 (loOf a), .int .i64 l, .int .i64 u] 35 := HA.out.1.kept H4.out.2 (by have := HQ.out.1; show ¬ _ = _; omega)
  clear c0 c1 c2 c3 c4 d0 d1 d2 CT
  have c1 := hbx.cell 1 (v := .int .u64 (hiOf a)) rfl
  have c2 := hbx.cell 2 (v := .int .u64 (loOf a)) rfl
  have c3 := hbx.cell 3 (v := .int .i64 l) rfl
  have c4 := hbx.cell 4 (v := .int .i64 u) rfl
  clear hbx
  go_wp2_with fail
  refine (CR.out _ HM.1 HM.2).mono ?_
  rintro e w5 ⟨rfl, ro', H5⟩
  have HF : Hid (Duo w0 w5 q r W most L' ro' ∧ Kept (Tch q r ro) w w5 ∧ NewRow w ro ro') := both_fin HD.out HA.out.2.2.1 H4.out H5.out
  clear c1 c2 c3 c4 CR HM H4 H5
  generalize o.getD 0 = x at *
  cases o.isSome <;> (go_wp2; go_ret; exact ⟨rfl, L', ro', HF⟩)
set_option maxHeartbeats 4000000 in
set_option maxRecDepth 100000 in
theorem play_get (hD : Duo w0 w q r W most L ro) (h1 : 1 ≤ W) (hW : W ≤ 128) (k l u : Int) (a : Nat) (ha : Is128 a) (hk : k % 12 = 3) :
    Calls Try.prog 13 #[.pointer (some ⟨q, 0, none⟩), .pointer (some ⟨r, 0, none⟩), .agg #[.int .i64 k, .int .u64 (hiOf a), .int .u64 (loOf a), .int .i64 l, .int .i64 u]] w fun e w' => e = .returned (.bool true) ∧ ∃ L' ro', Hid (Duo w0 w' q r W most L' ro' ∧ Kept (Tch q r ro) w w' ∧ NewRow w ro ro') := by
  have hm := hD.own.room
  have HD : Hid (Duo w0 w q r W most L ro) := hD
  obtain ⟨o, hB1, hB2⟩ := get_both (W := W) (most := most) (L := L) h1 hW a ha l
  have CT : Hid (∀ V, Below w.heap.size w V → Calls Try.prog 28 #[.pointer (some ⟨q, 0, none⟩), Pf a l] V fun e w' => e = .returned (.tuple #[.int .i64 (o.getD 0), .bool o.isSome]) ∧ Hid (Own w0 w' q W most L ∧ Kept (fun k => k = q) V w')) := fun V hV => hB1 _ V q (hD.own.below hV)
  have CR : Hid (∀ V, RefI w0 V r W most L ro → w0.heap.size ≤ V.heap.size → Calls Try.prog 44 #[.pointer (some ⟨r, 0, none⟩), B a, .int .i64 l] V fun e w' => e = .returned (.tuple #[.int .i64 (o.getD 0), .bool o.isSome]) ∧ ∃ ro', Hid (RefI w0 w' r W most L ro' ∧ Kept (fun k => k = r ∨ ro = some k) V w' ∧ NewRow V ro ro')) := fun V h h' => hB2 _ V r ro h h'
  clear hB1 hB2
  have HQ : Hid (q < w.heap.size ∧ r < w.heap.size) := ⟨hD.tch q (.inl rfl), hD.tch r (.inr (.inl rfl))⟩
  have HB := one_new w #[.int .i64 k, .int .u64 (hiOf a), .int .u64 (loOf a), .int .i64 l, .int .i64 u] 35
  have C12 : Hid (∀ V, Calls Try.prog 12 #[.int .i64 k] V fun e w' => e = .returned (.int .i64 3) ∧ w' = V) := fun V => by
    have := rest_any k V
    rw [hk] at this
    exact this
  clear hD hm hk
  go_enter Try.func13, Try.ntmps13
  go_upto_region 1 with fail
  generalize (w.alloc _) = w1 at HB ⊢
  have c0 := HB.1.cell 0 (v := .int .i64 k) rfl
  have c1 := HB.1.cell 1 (v := .int .u64 (hiOf a)) rfl
  have c2 := HB.1.cell 2 (v := .int .u64 (loOf a)) rfl
  have c3 := HB.1.cell 3 (v := .int .i64 l) rfl
  have HB2 := one_new w1 #[.int .u64 (hiOf a), .int .u64 (loOf a), .int .i64 l] 51
  go_upto_region 2 with fail
  have HA : Hid (Blk (w1.alloc (.cells #[.int .u64 (hiOf a), .int .u64 (loOf a), .int .i64 l] 51)) w.heap.size #[.int .i64 k, .int .u64 (hiOf a), .int .u64 (loOf a), .int .i64 l, .int .i64 u] 35 ∧ Blk (w1.alloc (.cells #[.int .u64 (hiOf a), .int .u64 (loOf a), .int .i64 l] 51)) w1.heap.size #[.int .u64 (hiOf a), .int .u64 (loOf a), .int .i64 l] 51 ∧ Below w.heap.size w (w1.alloc (.cells #[.int .u64 (hiOf a), .int .u64 (loOf a), .int .i64 l] 51)) ∧ w.heap.size < w1.heap.size) :=
    ⟨HB.1.below HB2.2.1, HB2.1, bst HB.2.1 HB2.2.1, HB.2.2⟩
  clear c0 c1 c2 c3 HB HB2
  generalize (w1.alloc _) = w2 at HA ⊢
  generalize w1.heap.size = A1 at HA ⊢
  have c0 := HA.out.1.cell 0 (v := .int .i64 k) rfl
  have c1 := HA.out.1.cell 1 (v := .int .u64 (hiOf a)) rfl
  have c2 := HA.out.1.cell 2 (v := .int .u64 (loOf a)) rfl
  have c3 := HA.out.1.cell 3 (v := .int .i64 l) rfl
  have c4 := HA.out.1.cell 4 (v := .int .i64 u) rfl
  have d0 := HA.out.2.1.cell 0 (v := .int .u64 (hiOf a)) rfl
  have d1 := HA.out.2.1.cell 1 (v := .int .u64 (loOf a)) rfl
  have d2 := HA.out.2.1.cell 2 (v := .int .i64 l) rfl
  go_wp2_with fail
  refine (C12.out _).mono ?_
  rintro e w3 ⟨rfl, rfl⟩
  clear C12
  go_wp2_with fail
  refine (CT.out _ HA.out.2.2.1).mono ?_
  rintro e w4 ⟨rfl, H4⟩
  have HM := both_mid HD.out HA.out.2.2.1 H4.out
  have hbx : Blk w4 w.heap.size #[.int .i64 k, .int .u64 (hiOf a), .int .u64 (loOf a), .int .i64 l, .int .i64 u] 35 := HA.out.1.kept H4.out.2 (by have := HQ.out.1; show ¬ _ = _; omega)
  clear c0 c1 c2 c3 c4 d0 d1 d2 CT
  have c1 := hbx.cell 1 (v := .int .u64 (hiOf a)) rfl
  have c2 := hbx.cell 2 (v := .int .u64 (loOf a)) rfl
  have c3 := hbx.cell 3 (v := .int .i64 l) rfl
  have c4 := hbx.cell 4 (v := .int .i64 u) rfl
  clear hbx
  go_wp2_with fail
  refine (CR.out _ HM.1 HM.2).mono ?_
  rintro e w5 ⟨rfl, ro', H5⟩
  have HF : Hid (Duo w0 w5 q r W most L ro' ∧ Kept (Tch q r ro) w w5 ∧ NewRow w ro ro') := both_fin HD.out HA.out.2.2.1 H4.out H5.out
  clear c1 c2 c3 c4 CR HM H4 H5
  generalize o.getD 0 = x at *
  cases o.isSome <;> (go_wp2; go_ret; exact ⟨rfl, L, ro', HF⟩)
set_option maxHeartbeats 4000000 in
set_option maxRecDepth 100000 in
theorem play_every (hD : Duo w0 w q r W most L ro) (h1 : 1 ≤ W) (hW : W ≤ 128) (k l u : Int) (a : Nat) (ha : Is128 a) (hk : k % 12 = 5) :
    Calls Try.prog 13 #[.pointer (some ⟨q, 0, none⟩), .pointer (some ⟨r, 0, none⟩), .agg #[.int .i64 k, .int .u64 (hiOf a), .int .u64 (loOf a), .int .i64 l, .int .i64 u]] w fun e w' => e = .returned (.bool true) ∧ ∃ L' ro', Hid (Duo w0 w' q r W most L' ro' ∧ Kept (Tch q r ro) w w' ∧ NewRow w ro ro') := by
  have hm := hD.own.room
  have HD : Hid (Duo w0 w q r W most L ro) := hD
  have CE : Hid (∀ V, Below w.heap.size w V → Calls Try.prog 46 #[.pointer (some ⟨q, 0, none⟩), .pointer (some ⟨r, 0, none⟩), B a] V fun e w' => e = .returned (.bool true) ∧ Below V.heap.size V w') := fun V hV => every46 (hD.below hV) h1 hW a ha
  have HF : Hid (∀ w', Below w.heap.size w w' → Duo w0 w' q r W most L ro ∧ Kept (Tch q r ro) w w' ∧ NewRow w ro ro) := fun w' hb => ⟨HD.out.below hb, Kept.of_below hb, .inl rfl⟩
  have HQ : Hid (q < w.heap.size ∧ r < w.heap.size) := ⟨hD.tch q (.inl rfl), hD.tch r (.inr (.inl rfl))⟩
  have HB := one_new w #[.int .i64 k, .int .u64 (hiOf a), .int .u64 (loOf a), .int .i64 l, .int .i64 u] 35
  have C12 : Hid (∀ V, Calls Try.prog 12 #[.int .i64 k] V fun e w' => e = .returned (.int .i64 5) ∧ w' = V) := fun V => by
    have := rest_any k V
    rw [hk] at this
    exact this
  clear hD hm hk
  go_enter Try.func13, Try.ntmps13
  go_upto_region 1 with fail
  generalize (w.alloc _) = w1 at HB ⊢
  have c0 := HB.1.cell 0 (v := .int .i64 k) rfl
  have c1 := HB.1.cell 1 (v := .int .u64 (hiOf a)) rfl
  have c2 := HB.1.cell 2 (v := .int .u64 (loOf a)) rfl
  have c3 := HB.1.cell 3 (v := .int .i64 l) rfl
  have HB2 := one_new w1 #[.int .u64 (hiOf a), .int .u64 (loOf a), .int .i64 l] 51
  go_upto_region 2 with fail
  have HA : Hid (Blk (w1.alloc (.cells #[.int .u64 (hiOf a), .int .u64 (loOf a), .int .i64 l] 51)) w.heap.size #[.int .i64 k, .int .u64 (hiOf a), .int .u64 (loOf a), .int .i64 l, .int .i64 u] 35 ∧ Blk (w1.alloc (.cells #[.int .u64 (hiOf a), .int .u64 (loOf a), .int .i64 l] 51)) w1.heap.size #[.int .u64 (hiOf a), .int .u64 (loOf a), .int .i64 l] 51 ∧ Below w.heap.size w (w1.alloc (.cells #[.int .u64 (hiOf a), .int .u64 (loOf a), .int .i64 l] 51)) ∧ w.heap.size < w1.heap.size) :=
    ⟨HB.1.below HB2.2.1, HB2.1, bst HB.2.1 HB2.2.1, HB.2.2⟩
  clear c0 c1 c2 c3 HB HB2
  generalize (w1.alloc _) = w2 at HA ⊢
  generalize w1.heap.size = A1 at HA ⊢
  have c0 := HA.out.1.cell 0 (v := .int .i64 k) rfl
  have c1 := HA.out.1.cell 1 (v := .int .u64 (hiOf a)) rfl
  have c2 := HA.out.1.cell 2 (v := .int .u64 (loOf a)) rfl
  have c3 := HA.out.1.cell 3 (v := .int .i64 l) rfl
  have c4 := HA.out.1.cell 4 (v := .int .i64 u) rfl
  have d0 := HA.out.2.1.cell 0 (v := .int .u64 (hiOf a)) rfl
  have d1 := HA.out.2.1.cell 1 (v := .int .u64 (loOf a)) rfl
  have d2 := HA.out.2.1.cell 2 (v := .int .i64 l) rfl
  go_wp2_with fail
  refine (C12.out _).mono ?_
  rintro e w3 ⟨rfl, rfl⟩
  clear C12
  go_wp2_with fail
  refine (CE.out _ HA.out.2.2.1).mono ?_
  rintro e w4 ⟨rfl, H4⟩
  have HG : Hid _ := HF.out w4 (bst HA.out.2.2.1 H4)
  clear H4
  go_wp2
  go_ret
  exact ⟨rfl, L, ro, HG⟩
set_option maxHeartbeats 4000000 in
set_option maxRecDepth 100000 in
theorem play_nodes (hD : Duo w0 w q r W most L ro) (h1 : 1 ≤ W) (hW : W ≤ 128) (k l u : Int) (a : Nat) (ha : Is128 a) (hk : k % 12 = 6) :
    Calls Try.prog 13 #[.pointer (some ⟨q, 0, none⟩), .pointer (some ⟨r, 0, none⟩), .agg #[.int .i64 k, .int .u64 (hiOf a), .int .u64 (loOf a), .int .i64 l, .int .i64 u]] w fun e w' => e = .returned (.bool true) ∧ ∃ L' ro', Hid (Duo w0 w' q r W most L' ro' ∧ Kept (Tch q r ro) w w' ∧ NewRow w ro ro') := by
  have hm := hD.own.room
  have HD : Hid (Duo w0 w q r W most L ro) := hD
  obtain ⟨⟨bx, cx, g1, g2, g3⟩, g4, g5, g6⟩ := id hD.ref
  have HX : Hid (Blk w r #[.int .i64 W, .int .i64 most, .slice bx L.length cx] 40) := g2
  have CN : Hid (∀ V, Below w.heap.size w V → Calls Try.prog 40 #[.pointer (some ⟨q, 0, none⟩)] V fun e w' => e = .returned (.int .i64 (nodesR L)) ∧ Below V.heap.size V w') := fun V hV => nodes_both (HD.out.own.below hV) HD.out.ref.few
  have CM : Hid (∀ V, Below w.heap.size w V → Calls Try.prog 47 #[.pointer (some ⟨r, 0, none⟩)] V fun e w' => e = .returned (.int .i64 (nodesR L)) ∧ Below V.heap.size V w') := fun V hV => rnodes_any (HD.out.ref.below hV).at (fun y hy => Nat.le_trans (HD.out.own.lens y hy) hW)
  have CL : Hid (∀ V, Below w.heap.size w V → Calls Try.prog 37 #[.pointer (some ⟨q, 0, none⟩)] V fun e w' => e = .returned (.int .i64 L.length) ∧ w' = V) := fun V hV => len_both (HD.out.own.below hV)
  clear g1 g2 g3 g4 g5 g6
  have HF : Hid (∀ w', Below w.heap.size w w' → Duo w0 w' q r W most L ro ∧ Kept (Tch q r ro) w w' ∧ NewRow w ro ro) := fun w' hb => ⟨HD.out.below hb, Kept.of_below hb, .inl rfl⟩
  generalize L.length = n at HX CL
  generalize nodesR L = nn at CN CM
  have HQ : Hid (q < w.heap.size ∧ r < w.heap.size) := ⟨hD.tch q (.inl rfl), hD.tch r (.inr (.inl rfl))⟩
  have HB := one_new w #[.int .i64 k, .int .u64 (hiOf a), .int .u64 (loOf a), .int .i64 l, .int .i64 u] 35
  have C12 : Hid (∀ V, Calls Try.prog 12 #[.int .i64 k] V fun e w' => e = .returned (.int .i64 6) ∧ w' = V) := fun V => by
    have := rest_any k V
    rw [hk] at this
    exact this
  clear hD hm hk
  go_enter Try.func13, Try.ntmps13
  go_upto_region 1 with fail
  generalize (w.alloc _) = w1 at HB ⊢
  have c0 := HB.1.cell 0 (v := .int .i64 k) rfl
  have c1 := HB.1.cell 1 (v := .int .u64 (hiOf a)) rfl
  have c2 := HB.1.cell 2 (v := .int .u64 (loOf a)) rfl
  have c3 := HB.1.cell 3 (v := .int .i64 l) rfl
  have HB2 := one_new w1 #[.int .u64 (hiOf a), .int .u64 (loOf a), .int .i64 l] 51
  go_upto_region 2 with fail
  have HA : Hid (Blk (w1.alloc (.cells #[.int .u64 (hiOf a), .int .u64 (loOf a), .int .i64 l] 51)) w.heap.size #[.int .i64 k, .int .u64 (hiOf a), .int .u64 (loOf a), .int .i64 l, .int .i64 u] 35 ∧ Blk (w1.alloc (.cells #[.int .u64 (hiOf a), .int .u64 (loOf a), .int .i64 l] 51)) w1.heap.size #[.int .u64 (hiOf a), .int .u64 (loOf a), .int .i64 l] 51 ∧ Below w.heap.size w (w1.alloc (.cells #[.int .u64 (hiOf a), .int .u64 (loOf a), .int .i64 l] 51)) ∧ w.heap.size < w1.heap.size) :=
    ⟨HB.1.below HB2.2.1, HB2.1, bst HB.2.1 HB2.2.1, HB.2.2⟩
  clear c0 c1 c2 c3 HB HB2
  generalize (w1.alloc _) = w2 at HA ⊢
  generalize w1.heap.size = A1 at HA ⊢
  have c0 := HA.out.1.cell 0 (v := .int .i64 k) rfl
  have c1 := HA.out.1.cell 1 (v := .int .u64 (hiOf a)) rfl
  have c2 := HA.out.1.cell 2 (v := .int .u64 (loOf a)) rfl
  have c3 := HA.out.1.cell 3 (v := .int .i64 l) rfl
  have c4 := HA.out.1.cell 4 (v := .int .i64 u) rfl
  have d0 := HA.out.2.1.cell 0 (v := .int .u64 (hiOf a)) rfl
  have d1 := HA.out.2.1.cell 1 (v := .int .u64 (loOf a)) rfl
  have d2 := HA.out.2.1.cell 2 (v := .int .i64 l) rfl
  go_wp2_with fail
  refine (C12.out _).mono ?_
  rintro e w3 ⟨rfl, rfl⟩
  clear C12
  have CN' : Hid (∀ z : Grown w3, Calls Try.prog 40 #[.pointer (some ⟨q, 0, none⟩)] (gw z) fun e w' => e = .returned (.int .i64 nn) ∧ Below (gw z).heap.size (gw z) w') := fun z => CN.out _ (bst HA.out.2.2.1 (gw_below z))
  have CM' : Hid (∀ z : Grown w3, Calls Try.prog 47 #[.pointer (some ⟨r, 0, none⟩)] (gw z) fun e w' => e = .returned (.int .i64 nn) ∧ Below (gw z).heap.size (gw z) w') := fun z => CM.out _ (bst HA.out.2.2.1 (gw_below z))
  have CL' : Hid (∀ z : Grown w3, Calls Try.prog 37 #[.pointer (some ⟨q, 0, none⟩)] (gw z) fun e w' => e = .returned (.int .i64 n) ∧ w' = gw z) := fun z => CL.out _ (bst HA.out.2.2.1 (gw_below z))
  go_upto_region 29 with fail
  have y2 := gw_cell ((HX.out.below HA.out.2.2.1).cell 2 (v := .slice bx n cx) rfl)
  clear CN CM CL HX c0 c1 c2 c3 c4 d0 d1 d2
  refine region_grows (by kernel_rfl) (by kernel_rfl) ?_
  repeat (go_big_quiet_step (first | (go_at_call 37; exact calls_gw_same (CL'.out _)) | (go_at_call 40; exact calls_gw (CN'.out _)) | (go_at_call 47; exact calls_gw (CM'.out _))))
  refine wpQuiet_nil ?_
  intro wq hwq
  obtain ⟨zq, rfl⟩ := hwq
  have HG : Hid _ := HF.out (gw zq) (bst HA.out.2.2.1 (gw_below zq))
  go_wp2
  go_ret
  exact ⟨rfl, L, ro, HG⟩
set_option maxHeartbeats 4000000 in
set_option maxRecDepth 100000 in
theorem play_9 (hD : Duo w0 w q r W most L ro) (h1 : 1 ≤ W) (hW : W ≤ 128) (k l u : Int) (a : Nat) (ha : Is128 a) (hk : k % 12 = 9) :
    Calls Try.prog 13 #[.pointer (some ⟨q, 0, none⟩), .pointer (some ⟨r, 0, none⟩), .agg #[.int .i64 k, .int .u64 (hiOf a), .int .u64 (loOf a), .int .i64 l, .int .i64 u]] w fun e w' => e = .returned (.bool true) ∧ ∃ L' ro', Hid (Duo w0 w' q r W most L' ro' ∧ Kept (Tch q r ro) w w' ∧ NewRow w ro ro') := by
  have hm := hD.own.room
  have HD : Hid (Duo w0 w q r W most L ro) := hD
  have HF : Hid (∀ w', Below w.heap.size w w' → Duo w0 w' q r W most L ro ∧ Kept (Tch q r ro) w w' ∧ NewRow w ro ro) := fun w' hb => ⟨HD.out.below hb, Kept.of_below hb, .inl rfl⟩
  have HQ : Hid (q < w.heap.size ∧ r < w.heap.size) := ⟨hD.tch q (.inl rfl), hD.tch r (.inr (.inl rfl))⟩
  have HB := one_new w #[.int .i64 k, .int .u64 (hiOf a), .int .u64 (loOf a), .int .i64 l, .int .i64 u] 35
  have C12 : Hid (∀ V, Calls Try.prog 12 #[.int .i64 k] V fun e w' => e = .returned (.int .i64 9) ∧ w' = V) := fun V => by
    have := rest_any k V
    rw [hk] at this
    exact this
  clear hD hm hk
  go_enter Try.func13, Try.ntmps13
  go_upto_region 1 with fail
  generalize (w.alloc _) = w1 at HB ⊢
  have c0 := HB.1.cell 0 (v := .int .i64 k) rfl
  have c1 := HB.1.cell 1 (v := .int .u64 (hiOf a)) rfl
  have c2 := HB.1.cell 2 (v := .int .u64 (loOf a)) rfl
  have c3 := HB.1.cell 3 (v := .int .i64 l) rfl
  have HB2 := one_new w1 #[.int .u64 (hiOf a), .int .u64 (loOf a), .int .i64 l] 51
  go_upto_region 2 with fail
  have HA : Hid (Blk (w1.alloc (.cells #[.int .u64 (hiOf a), .int .u64 (loOf a), .int .i64 l] 51)) w.heap.size #[.int .i64 k, .int .u64 (hiOf a), .int .u64 (loOf a), .int .i64 l, .int .i64 u] 35 ∧ Blk (w1.alloc (.cells #[.int .u64 (hiOf a), .int .u64 (loOf a), .int .i64 l] 51)) w1.heap.size #[.int .u64 (hiOf a), .int .u64 (loOf a), .int .i64 l] 51 ∧ Below w.heap.size w (w1.alloc (.cells #[.int .u64 (hiOf a), .int .u64 (loOf a), .int .i64 l] 51)) ∧ w.heap.size < w1.heap.size) :=
    ⟨HB.1.below HB2.2.1, HB2.1, bst HB.2.1 HB2.2.1, HB.2.2⟩
  clear c0 c1 c2 c3 HB HB2
  generalize (w1.alloc _) = w2 at HA ⊢
  generalize w1.heap.size = A1 at HA ⊢
  have c0 := HA.out.1.cell 0 (v := .int .i64 k) rfl
  have c1 := HA.out.1.cell 1 (v := .int .u64 (hiOf a)) rfl
  have c2 := HA.out.1.cell 2 (v := .int .u64 (loOf a)) rfl
  have c3 := HA.out.1.cell 3 (v := .int .i64 l) rfl
  have c4 := HA.out.1.cell 4 (v := .int .i64 u) rfl
  have d0 := HA.out.2.1.cell 0 (v := .int .u64 (hiOf a)) rfl
  have d1 := HA.out.2.1.cell 1 (v := .int .u64 (loOf a)) rfl
  have d2 := HA.out.2.1.cell 2 (v := .int .i64 l) rfl
  go_wp2_with fail
  refine (C12.out _).mono ?_
  rintro e w3 ⟨rfl, rfl⟩
  clear C12
  have HG : Hid _ := HF.out w3 HA.out.2.2.1
  go_wp2
  go_ret
  exact ⟨rfl, L, ro, HG⟩
set_option maxHeartbeats 4000000 in
set_option maxRecDepth 100000 in
theorem play_10 (hD : Duo w0 w q r W most L ro) (h1 : 1 ≤ W) (hW : W ≤ 128) (k l u : Int) (a : Nat) (ha : Is128 a) (hk : k % 12 = 10) :
    Calls Try.prog 13 #[.pointer (some ⟨q, 0, none⟩), .pointer (some ⟨r, 0, none⟩), .agg #[.int .i64 k, .int .u64 (hiOf a), .int .u64 (loOf a), .int .i64 l, .int .i64 u]] w fun e w' => e = .returned (.bool true) ∧ ∃ L' ro', Hid (Duo w0 w' q r W most L' ro' ∧ Kept (Tch q r ro) w w' ∧ NewRow w ro ro') := by
  have hm := hD.own.room
  have HD : Hid (Duo w0 w q r W most L ro) := hD
  have HF : Hid (∀ w', Below w.heap.size w w' → Duo w0 w' q r W most L ro ∧ Kept (Tch q r ro) w w' ∧ NewRow w ro ro) := fun w' hb => ⟨HD.out.below hb, Kept.of_below hb, .inl rfl⟩
  have HQ : Hid (q < w.heap.size ∧ r < w.heap.size) := ⟨hD.tch q (.inl rfl), hD.tch r (.inr (.inl rfl))⟩
  have HB := one_new w #[.int .i64 k, .int .u64 (hiOf a), .int .u64 (loOf a), .int .i64 l, .int .i64 u] 35
  have C12 : Hid (∀ V, Calls Try.prog 12 #[.int .i64 k] V fun e w' => e = .returned (.int .i64 10) ∧ w' = V) := fun V => by
    have := rest_any k V
    rw [hk] at this
    exact this
  clear hD hm hk
  go_enter Try.func13, Try.ntmps13
  go_upto_region 1 with fail
  generalize (w.alloc _) = w1 at HB ⊢
  have c0 := HB.1.cell 0 (v := .int .i64 k) rfl
  have c1 := HB.1.cell 1 (v := .int .u64 (hiOf a)) rfl
  have c2 := HB.1.cell 2 (v := .int .u64 (loOf a)) rfl
  have c3 := HB.1.cell 3 (v := .int .i64 l) rfl
  have HB2 := one_new w1 #[.int .u64 (hiOf a), .int .u64 (loOf a), .int .i64 l] 51
  go_upto_region 2 with fail
  have HA : Hid (Blk (w1.alloc (.cells #[.int .u64 (hiOf a), .int .u64 (loOf a), .int .i64 l] 51)) w.heap.size #[.int .i64 k, .int .u64 (hiOf a), .int .u64 (loOf a), .int .i64 l, .int .i64 u] 35 ∧ Blk (w1.alloc (.cells #[.int .u64 (hiOf a), .int .u64 (loOf a), .int .i64 l] 51)) w1.heap.size #[.int .u64 (hiOf a), .int .u64 (loOf a), .int .i64 l] 51 ∧ Below w.heap.size w (w1.alloc (.cells #[.int .u64 (hiOf a), .int .u64 (loOf a), .int .i64 l] 51)) ∧ w.heap.size < w1.heap.size) :=
    ⟨HB.1.below HB2.2.1, HB2.1, bst HB.2.1 HB2.2.1, HB.2.2⟩
  clear c0 c1 c2 c3 HB HB2
  generalize (w1.alloc _) = w2 at HA ⊢
  generalize w1.heap.size = A1 at HA ⊢
  have c0 := HA.out.1.cell 0 (v := .int .i64 k) rfl
  have c1 := HA.out.1.cell 1 (v := .int .u64 (hiOf a)) rfl
  have c2 := HA.out.1.cell 2 (v := .int .u64 (loOf a)) rfl
  have c3 := HA.out.1.cell 3 (v := .int .i64 l) rfl
  have c4 := HA.out.1.cell 4 (v := .int .i64 u) rfl
  have d0 := HA.out.2.1.cell 0 (v := .int .u64 (hiOf a)) rfl
  have d1 := HA.out.2.1.cell 1 (v := .int .u64 (loOf a)) rfl
  have d2 := HA.out.2.1.cell 2 (v := .int .i64 l) rfl
  go_wp2_with fail
  refine (C12.out _).mono ?_
  rintro e w3 ⟨rfl, rfl⟩
  clear C12
  have HG : Hid _ := HF.out w3 HA.out.2.2.1
  go_wp2
  go_ret
  exact ⟨rfl, L, ro, HG⟩
set_option maxHeartbeats 4000000 in
set_option maxRecDepth 100000 in
theorem play_11 (hD : Duo w0 w q r W most L ro) (h1 : 1 ≤ W) (hW : W ≤ 128) (k l u : Int) (a : Nat) (ha : Is128 a) (hk : k % 12 = 11) :
    Calls Try.prog 13 #[.pointer (some ⟨q, 0, none⟩), .pointer (some ⟨r, 0, none⟩), .agg #[.int .i64 k, .int .u64 (hiOf a), .int .u64 (loOf a), .int .i64 l, .int .i64 u]] w fun e w' => e = .returned (.bool true) ∧ ∃ L' ro', Hid (Duo w0 w' q r W most L' ro' ∧ Kept (Tch q r ro) w w' ∧ NewRow w ro ro') := by
  have hm := hD.own.room
  have HD : Hid (Duo w0 w q r W most L ro) := hD
  have HF : Hid (∀ w', Below w.heap.size w w' → Duo w0 w' q r W most L ro ∧ Kept (Tch q r ro) w w' ∧ NewRow w ro ro) := fun w' hb => ⟨HD.out.below hb, Kept.of_below hb, .inl rfl⟩
  have HQ : Hid (q < w.heap.size ∧ r < w.heap.size) := ⟨hD.tch q (.inl rfl), hD.tch r (.inr (.inl rfl))⟩
  have HB := one_new w #[.int .i64 k, .int .u64 (hiOf a), .int .u64 (loOf a), .int .i64 l, .int .i64 u] 35
  have C12 : Hid (∀ V, Calls Try.prog 12 #[.int .i64 k] V fun e w' => e = .returned (.int .i64 11) ∧ w' = V) := fun V => by
    have := rest_any k V
    rw [hk] at this
    exact this
  clear hD hm hk
  go_enter Try.func13, Try.ntmps13
  go_upto_region 1 with fail
  generalize (w.alloc _) = w1 at HB ⊢
  have c0 := HB.1.cell 0 (v := .int .i64 k) rfl
  have c1 := HB.1.cell 1 (v := .int .u64 (hiOf a)) rfl
  have c2 := HB.1.cell 2 (v := .int .u64 (loOf a)) rfl
  have c3 := HB.1.cell 3 (v := .int .i64 l) rfl
  have HB2 := one_new w1 #[.int .u64 (hiOf a), .int .u64 (loOf a), .int .i64 l] 51
  go_upto_region 2 with fail
  have HA : Hid (Blk (w1.alloc (.cells #[.int .u64 (hiOf a), .int .u64 (loOf a), .int .i64 l] 51)) w.heap.size #[.int .i64 k, .int .u64 (hiOf a), .int .u64 (loOf a), .int .i64 l, .int .i64 u] 35 ∧ Blk (w1.alloc (.cells #[.int .u64 (hiOf a), .int .u64 (loOf a), .int .i64 l] 51)) w1.heap.size #[.int .u64 (hiOf a), .int .u64 (loOf a), .int .i64 l] 51 ∧ Below w.heap.size w (w1.alloc (.cells #[.int .u64 (hiOf a), .int .u64 (loOf a), .int .i64 l] 51)) ∧ w.heap.size < w1.heap.size) :=
    ⟨HB.1.below HB2.2.1, HB2.1, bst HB.2.1 HB2.2.1, HB.2.2⟩
  clear c0 c1 c2 c3 HB HB2
  generalize (w1.alloc _) = w2 at HA ⊢
  generalize w1.heap.size = A1 at HA ⊢
  have c0 := HA.out.1.cell 0 (v := .int .i64 k) rfl
  have c1 := HA.out.1.cell 1 (v := .int .u64 (hiOf a)) rfl
  have c2 := HA.out.1.cell 2 (v := .int .u64 (loOf a)) rfl
  have c3 := HA.out.1.cell 3 (v := .int .i64 l) rfl
  have c4 := HA.out.1.cell 4 (v := .int .i64 u) rfl
  have d0 := HA.out.2.1.cell 0 (v := .int .u64 (hiOf a)) rfl
  have d1 := HA.out.2.1.cell 1 (v := .int .u64 (loOf a)) rfl
  have d2 := HA.out.2.1.cell 2 (v := .int .i64 l) rfl
  go_wp2_with fail
  refine (C12.out _).mono ?_
  rintro e w3 ⟨rfl, rfl⟩
  clear C12
  have HG : Hid _ := HF.out w3 HA.out.2.2.1
  go_wp2
  go_ret
  exact ⟨rfl, L, ro, HG⟩
end
end Go.Proofs.Ytgdpplipahhffaa
