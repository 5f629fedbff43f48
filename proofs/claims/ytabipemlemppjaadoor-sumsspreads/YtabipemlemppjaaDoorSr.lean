/- The document's search in a sorted list (stands), and sameInts of two like lists. -/
import Derived.Test.YtabipemlemppjaaDoorSb
namespace Go.Proofs.YtabipemlemppjaaDoor
open Go.RowKit Go.Maps
set_option linter.unusedVariables false
set_option linter.unusedSimpArgs false

/-- p is the place of n in a sorted list. -/
def PosOf (S : List Nat) (n p : Nat) : Prop := p ≤ S.length ∧ ∀ (i x : Nat), S[i]? = some x → (i < p ↔ x < n)
theorem row_val {w : World} {B : Nat} {v : Value} {a : List Nat} (h : w.ownsRow B 3 1 v a.length (intsV a)) : ∃ (ad : Option Addr) (c : Nat), v = .slice ad a.length c ∧ (0 < a.length → ∃ g, ad = some ⟨g, 0, none⟩ ∧ Ints w g a) := by
  rcases h.2 with ⟨rfl, h0⟩ | ⟨g, cap, cur, rfl, h1, hg, rest⟩
  · exact ⟨none, 0, by rw [h0], fun h => by omega⟩
  · refine ⟨_, _, rfl, fun hp => ?_⟩
    obtain ⟨g', c', e, hi⟩ := ints_of_own h hp
    simp at e
    obtain ⟨rfl, rfl⟩ := e
    exact ⟨_, rfl, hi⟩
theorem sorted_lt {S : List Nat} (h : S.Pairwise (· < ·)) {i j x y : Nat} (hij : i < j) (hx : S[i]? = some x) (hy : S[j]? = some y) : x < y := by
  obtain ⟨h1, rfl⟩ := List.getElem?_eq_some_iff.1 hx
  obtain ⟨h2, rfl⟩ := List.getElem?_eq_some_iff.1 hy
  exact List.pairwise_iff_getElem.1 h i j h1 h2 hij
theorem pos_mem {S : List Nat} (h : S.Pairwise (· < ·)) {n p : Nat} (hp : PosOf S n p) : n ∈ S ↔ S[p]? = some n := by
  constructor
  · intro hm
    obtain ⟨i, hi⟩ := List.mem_iff_getElem?.1 hm
    have h1 := hp.2 i n hi
    have hip : ¬ i < p := fun e => by have := h1.1 e; omega
    rcases Nat.lt_or_ge p i with hlt | hge
    · have hpl : p < S.length := by have := (List.getElem?_eq_some_iff.1 hi).1; omega
      have h2 := hp.2 p S[p] (List.getElem?_eq_getElem hpl)
      have h3 := sorted_lt h hlt (List.getElem?_eq_getElem hpl) hi
      have := h2.2 h3
      omega
    · obtain rfl : i = p := by omega
      exact hi
  · intro e; exact List.mem_of_getElem? e
set_option maxHeartbeats 4000000 in
set_option maxRecDepth 100000 in
theorem stands_any (S : List Nat) (hS : S.Pairwise (· < ·)) (hl : S.length ≤ 100000) (n : Nat) (hn : n < 9223372036854775808) (B : Nat) (v : Value) (w : World) (hv : w.ownsRow B 3 1 v S.length (intsV S)) :
    Calls Tryd.prog 39 #[v, .int .i64 n] w fun e w' => (∃ p : Nat, e = .returned (.tuple #[.int .i64 p, .bool (decide (n ∈ S))]) ∧ PosOf S n p) ∧ w'.heap = w.heap ∧ Below w.heap.size w w' := by
  obtain ⟨ad, c, rfl, hI⟩ := row_val hv
  have HI : Hid (0 < S.length → ∃ g, ad = some ⟨g, 0, none⟩ ∧ Ints w g S) := hI
  have HS : Hid (S.Pairwise (· < ·)) := hS
  clear hv hI hS
  go_enter Tryd.func39, Tryd.ntmps39
  go_wp2_with fail
  go_loopw [6, 7] (fun lv hv wr => ∃ lo hi : Nat, lv = .int .i64 lo ∧ hv = .int .i64 hi ∧ lo ≤ hi ∧ hi ≤ S.length ∧ (∀ i x : Nat, S[i]? = some x → i < lo → x < n) ∧ (∀ i x : Nat, S[i]? = some x → hi ≤ i → n ≤ x) ∧ wr = w) (fun lv hv _ => (intOf hv - intOf lv).toNat)
  case atStart => exact ⟨0, S.length, rfl, rfl, by omega, by omega, fun i x _ h => by omega, fun i x hx h => by have := (List.getElem?_eq_some_iff.1 hx).1; omega, rfl⟩
  case round =>
    obtain ⟨lo, hi, rfl, rfl, hle, hhi, h1, h2, rfl⟩ := hrel
    have H1 : Hid (∀ i x : Nat, S[i]? = some x → i < lo → x < n) := h1
    have H2 : Hid (∀ i x : Nat, S[i]? = some x → hi ≤ i → n ≤ x) := h2
    clear h1 h2
    by_cases hlt : lo < hi
    · obtain ⟨g, rfl, hint⟩ := HI.out (by omega)
      obtain ⟨q, hq⟩ : ∃ q, (lo + hi) / 2 = q := ⟨_, rfl⟩
      have hq0 : lo ≤ q := by omega
      have hq1 : q < hi := by omega
      obtain ⟨x, hx⟩ : ∃ x, S[q]? = some x := ⟨_, List.getElem?_eq_getElem (by omega)⟩
      have hc := hint.2 q x hx
      have hd : ((lo : Int) + hi) / 2 = q := by omega
      have hd2 : Int.tdiv ((lo : Int) + hi) 2 = q := by rw [Int.tdiv_eq_ediv_of_nonneg (by omega)]; exact hd
      have HX : Hid (S[q]? = some x) := hx
      have hlt' : (lo : Int) < hi := by omega
      have hql : (q : Int) < S.length := by omega
      clear hq hx hint
      by_cases hxn : x < n
      · have hxn' : (x : Int) < n := by omega
        go_wp2_with fail
        refine ⟨⟨q + 1, hi, by go_num, rfl, by omega, hhi, fun i y hy hi' => ?_, H2.out, trivial⟩, by simp only [intOf]; omega⟩
        rcases Nat.lt_or_ge i q with h | h
        · have := sorted_lt HS.out h hy HX.out; omega
        · obtain rfl : i = q := by omega
          have := HX.out; rw [hy] at this; cases this; exact hxn
      · have hxn' : ¬ (x : Int) < n := by omega
        go_wp2_with fail
        refine ⟨⟨lo, q, rfl, rfl, by omega, by omega, H1.out, fun i y hy hi' => ?_, trivial⟩, by simp only [intOf]; omega⟩
        rcases Nat.lt_or_ge q i with h | h
        · have := sorted_lt HS.out h HX.out hy; omega
        · obtain rfl : i = q := by omega
          have := HX.out; rw [hy] at this; cases this; omega
    · obtain rfl : hi = lo := by omega
      have hpos : PosOf S n hi := ⟨hhi, fun i x hx => ⟨fun h => H1.out i x hx h, fun h => by
        rcases Nat.lt_or_ge i hi with h' | h'
        · exact h'
        · have := H2.out i x hx h'; omega⟩⟩
      have hmem := pos_mem HS.out hpos
      have HP : Hid (PosOf S n hi) := hpos
      clear hpos
      by_cases hlen : hi < S.length
      · obtain ⟨g, rfl, hint⟩ := HI.out (by omega)
        obtain ⟨x, hx⟩ : ∃ x, S[hi]? = some x := ⟨_, List.getElem?_eq_getElem (by omega)⟩
        have hc := hint.2 hi x hx
        rw [hx] at hmem
        have hlen' : (hi : Int) < S.length := by omega
        clear hint hx
        by_cases hxn : x = n
        · subst hxn
          have hm : x ∈ S := hmem.2 rfl
          have HM : Hid (decide (x ∈ S) = true) := by show _ = _; simpa using hm
          clear hmem hm
          go_wp2_with fail
          go_quiet (fail)
          go_wp2_with fail
          go_ret2
          exact ⟨⟨hi, by rw [HM.out]; rfl, HP.out⟩, rfl, ⟨rfl, rfl, rfl, Nat.le_refl _, fun _ _ => rfl⟩⟩
        · have hm : ¬ n ∈ S := fun h => hxn (by have := hmem.1 h; simpa using this)
          have HM : Hid (decide (n ∈ S) = false) := by show _ = _; simpa using hm
          have hxn1 : ((x : Int) == (n : Int)) = false := beq_eq_false_iff_ne.2 (by omega)
          have hxn2 : ¬ (x : Int) = n := by omega
          clear hmem hm
          go_wp2_with fail
          go_quiet (fail)
          go_wp2_with fail
          go_ret2
          exact ⟨⟨hi, by rw [HM.out]; rfl, HP.out⟩, rfl, ⟨rfl, rfl, rfl, Nat.le_refl _, fun _ _ => rfl⟩⟩
      · have hm : ¬ n ∈ S := fun h => by
          have := (List.getElem?_eq_some_iff.1 (hmem.1 h)).1; omega
        have HM : Hid (decide (n ∈ S) = false) := by show _ = _; simpa using hm
        have hlen' : ¬ (hi : Int) < S.length := by omega
        clear hmem hm
        go_wp2_with fail
        go_quiet (fail)
        go_wp2_with fail
        go_ret2
        exact ⟨⟨hi, by rw [HM.out]; rfl, HP.out⟩, rfl, ⟨rfl, rfl, rfl, Nat.le_refl _, fun _ _ => rfl⟩⟩
set_option maxHeartbeats 4000000 in
set_option maxRecDepth 100000 in
theorem sameInts_any (A : List Nat) (hl : A.length ≤ 100000) (B1 B2 : Nat) (v1 v2 : Value) (w : World) (h1 : w.ownsRow B1 3 1 v1 A.length (intsV A)) (h2 : w.ownsRow B2 3 1 v2 A.length (intsV A)) :
    Calls Tryd.prog 28 #[v1, v2] w fun e w' => e = .returned (.bool true) ∧ w'.heap = w.heap ∧ Below w.heap.size w w' := by
  obtain ⟨a1, c1, rfl, hI1⟩ := row_val h1
  obtain ⟨a2, c2, rfl, hI2⟩ := row_val h2
  have H1 : Hid (0 < A.length → ∃ g, a1 = some ⟨g, 0, none⟩ ∧ Ints w g A) := hI1
  have H2 : Hid (0 < A.length → ∃ g, a2 = some ⟨g, 0, none⟩ ∧ Ints w g A) := hI2
  clear h1 h2 hI1 hI2
  go_enter Tryd.func28, Tryd.ntmps28
  go_wp2_with fail
  go_loopw [5] (fun iv wr => ∃ p : Nat, iv = .int .i64 p ∧ p ≤ A.length ∧ wr.heap = w.heap ∧ Below w.heap.size w wr) (fun iv _ => A.length - (intOf iv).toNat)
  case atStart => exact ⟨0, rfl, by omega, rfl, Below.refl _ _⟩
  case round =>
    obtain ⟨p, rfl, hp, hh, hB⟩ := hrel
    by_cases hlt : p < A.length
    · obtain ⟨g1, rfl, hi1⟩ := H1.out (by omega)
      obtain ⟨g2, rfl, hi2⟩ := H2.out (by omega)
      obtain ⟨x, hx⟩ : ∃ x, A[p]? = some x := ⟨_, List.getElem?_eq_getElem (by omega)⟩
      have k1 : wr.cell? ⟨g1, p, none⟩ = some (.int .i64 (x : Int)) := by rw [World.cell?_of_block (w := w) (by rw [hh])]; exact hi1.2 p x hx
      have k2 : wr.cell? ⟨g2, p, none⟩ = some (.int .i64 (x : Int)) := by rw [World.cell?_of_block (w := w) (by rw [hh])]; exact hi2.2 p x hx
      have HH : Hid (wr.heap = w.heap) := hh
      have hlt' : (p : Int) < A.length := by omega
      clear hh hi1 hi2 hx
      go_wp2_with fail
      go_quiet (fail)
      go_wp2_with fail
      exact ⟨⟨p + 1, by go_num, by omega, HH.out, ⟨hB.os, hB.tape, hB.output, hB.size, hB.block⟩⟩, by simp only [intOf]; omega⟩
    · obtain rfl : p = A.length := by omega
      have HH : Hid (wr.heap = w.heap) := hh
      clear hh
      go_wp2_with fail
      go_ret
      exact ⟨rfl, HH.out, hB⟩
end Go.Proofs.YtabipemlemppjaaDoor
