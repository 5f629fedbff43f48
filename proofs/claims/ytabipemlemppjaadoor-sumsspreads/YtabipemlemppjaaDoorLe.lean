/- The statements' lent and back: texts in memory of their own, a marked one behind them. -/
import Derived.Test.YtabipemlemppjaaDoorSp
import Derived.OwnWalk
import Derived.Laws.AppendOwn
import Derived.BigQuiet
namespace Go.Proofs.YtabipemlemppjaaDoor
open Go.RowKit
set_option linter.unusedVariables false
set_option linter.unusedSimpArgs false

theorem info9 : (Tryd.prog.info? 9).map (fun i => (i.zero, i.size, i.bytes)) = some (some (.string ⟨#[]⟩), 1, 16) := by kernel_rfl
def strV (l : List ByteArray) : List Value := l.map Value.string
theorem strV_length (l : List ByteArray) : (strV l).length = l.length := by simp [strV]
theorem one_str (w : World) (x : Value) (t : TypeId) : ∀ j u, [x][j]? = some u → (w.alloc (.cells #[x] t)).cell? ((⟨w.heap.size, 0, none⟩ : Addr).add j) = some u := by
  intro j u hj
  match j, hj with
  | 0, hj => simp at hj; subst hj; simp [Addr.add]
  | j + 1, hj => simp at hj
/-- The mark behind lent texts. -/
abbrev mark : ByteArray := ⟨#[98, 101, 104, 105, 110, 100, 32, 105, 116]⟩
/-- A slice of texts: nil, or a row of them. -/
inductive SL (w : World) : Value → List ByteArray → Prop
  | nil : SL w (.slice none 0 0) []
  | row (b o cap : Nat) (l : List ByteArray) (h : Strs w b o l) (hb : b < w.heap.size) : SL w (.slice (some ⟨b, o, none⟩) l.length cap) l
  | empty (a : Option Addr) (cap : Nat) : SL w (.slice a 0 cap) []
theorem Strs.below {w w' : World} {b o : Nat} {l : List ByteArray} {B : Nat} (h : Strs w b o l) (hB : Below B w w') (hb : b < B) : Strs w' b o l := fun i hi => by
  rw [hB.cell (p := ⟨b, o + i, none⟩) hb]; exact h i hi

set_option maxHeartbeats 2000000 in
theorem lent_row (b o cap : Nat) (l : List ByteArray) (hl : l.length * 16 ≤ 140737488351232) (w : World) (hS : Strs w b o l) (hb : b < w.heap.size) :
    Calls Tryd.prog 10 #[.slice (some ⟨b, o, none⟩) l.length cap] w fun e w' => ∃ v, e = .returned v ∧ w'.ownsRow w.heap.size 9 1 v (l.length + 1) (strV (l ++ [mark])) ∧ Below w.heap.size w w' := by
  obtain ⟨i0, hi, hz0, hz1, hz2⟩ := info_parts info9
  go_enter Tryd.func10, Tryd.ntmps10
  go_wp2
  go_loopw [3, 4] (fun v i wr => ∃ p : Nat, i = .int .i64 p ∧ p ≤ l.length ∧ wr.ownsRow w.heap.size 9 1 v p (strV (l.take p)) ∧ Below w.heap.size w wr) (fun _ i _ => (l.length - intOf i).toNat)
  case atStart => exact ⟨0, rfl, by omega, World.ownsRow_nil _ _ _ _, Below.refl _ _⟩
  case round =>
    obtain ⟨p, rfl, hp, hown, hB⟩ := hrel
    have HO : Hid (wr.ownsRow w.heap.size 9 1 u3 p (strV (l.take p))) := hown
    have HL : Hid (∀ k, Value.ownBlock u3 = some k → w.heap.size ≤ k ∧ k < wr.heap.size) := hown.lt
    have hsz := hB.size
    clear hown
    by_cases h : p < l.length
    · have hc : wr.cell? ⟨b, o + p, none⟩ = some (.string l[p]) := (hS.below hB hb) p h
      have HT : Hid (strV (l.take (p + 1)) = strV (l.take p) ++ [.string l[p]]) := by
        show _ = _
        unfold strV; rw [List.take_succ_eq_append_getElem h, List.map_append]; rfl
      generalize l[p] = s at *
      go_wp2_with (at_builtin; refine wpList_append_own _ rfl _ _ 22 rfl w.heap.size 9 i0 (.string ⟨#[]⟩) 1 16 Tryd.underlying22 hi hz0 hz1 hz2 rfl (by decide) _ _ _ rfl (HO.out.alloc (.cells #[.string s] 9)) ⟨wr.heap.size, 0, none⟩ 1 1 [.string s] rfl rfl (one_str wr _ 9) (by intro u hu; simp at hu; subst hu; rfl) (by unfold maxLen; omega) (by omega) (by simp; omega) ?_)
      intro v6 w6 hown6 hgrow6 _
      have B6 : Below w.heap.size w w6 := Below.grown (hB.alloc hB.size _) hgrow6 (by simp; omega) fun g hg => (HL.out g hg).1
      have R6 : Hid (w6.ownsRow w.heap.size 9 1 v6 (p + 1) (strV (l.take (p + 1)))) := by show World.ownsRow _ _ _ _ _ _ _; rw [HT.out]; exact hown6
      clear hown6 hgrow6 HO HL
      go_wp2
      exact ⟨⟨p + 1, rfl, by omega, R6.out, B6⟩, by simp only [intOf]; omega⟩
    · obtain rfl : p = l.length := by omega
      have HT : Hid (strV (l ++ [mark]) = strV l ++ [.string mark]) := by
        show _ = _
        simp [strV]
      go_wp2_with (at_builtin; refine wpList_append_own _ rfl _ _ 22 rfl w.heap.size 9 i0 (.string ⟨#[]⟩) 1 16 Tryd.underlying22 hi hz0 hz1 hz2 rfl (by decide) _ _ _ rfl (HO.out.alloc (.cells #[.string mark] 9)) ⟨wr.heap.size, 0, none⟩ 1 1 [.string mark] rfl rfl (one_str wr _ 9) (by intro u hu; simp at hu; subst hu; rfl) (by unfold maxLen; omega) (by omega) (by simp; omega) ?_)
      intro v6 w6 hown6 hgrow6 _
      have B6 : Below w.heap.size w w6 := Below.grown (hB.alloc hB.size _) hgrow6 (by simp; omega) fun g hg => (HL.out g hg).1
      have R6 : Hid (w6.ownsRow w.heap.size 9 1 v6 (l.length + 1) (strV (l ++ [mark]))) := by show World.ownsRow _ _ _ _ _ _ _; rw [HT.out]; exact hown6
      clear hown6 hgrow6 HO HL
      go_wp2
      go_ret
      exact ⟨v6, rfl, R6.out, B6⟩
set_option maxHeartbeats 2000000 in
theorem lent_none (a : Option Addr) (cap : Nat) (w : World) :
    Calls Tryd.prog 10 #[.slice a 0 cap] w fun e w' => ∃ v, e = .returned v ∧ w'.ownsRow w.heap.size 9 1 v 1 (strV [mark]) ∧ Below w.heap.size w w' := by
  obtain ⟨i0, hi, hz0, hz1, hz2⟩ := info_parts info9
  have HO : Hid (w.ownsRow w.heap.size 9 1 (.slice none 0 0) 0 []) := World.ownsRow_nil _ _ _ _
  go_enter Tryd.func10, Tryd.ntmps10
  go_wp2
  refine wp_loop_rounds 1 ?_
  rw [rounds_succ]
  go_wp2_with (at_builtin; refine wpList_append_own _ rfl _ _ 22 rfl w.heap.size 9 i0 (.string ⟨#[]⟩) 1 16 Tryd.underlying22 hi hz0 hz1 hz2 rfl (by decide) _ _ _ rfl (HO.out.alloc (.cells #[.string mark] 9)) ⟨w.heap.size, 0, none⟩ 1 1 [.string mark] rfl rfl (one_str w _ 9) (by intro u hu; simp at hu; subst hu; rfl) (by decide) (by decide) (by simp) ?_)
  intro v6 w6 hown6 hgrow6 _
  have B6 : Below w.heap.size w w6 := Below.grown ((Below.refl _ _).alloc (Nat.le_refl _) _) hgrow6 (by simp) fun g hg => by cases hg
  have R6 : Hid (w6.ownsRow w.heap.size 9 1 v6 1 (strV [mark])) := hown6
  clear hown6 hgrow6 HO
  go_wp2
  go_ret
  exact ⟨v6, rfl, R6.out, B6⟩

/-- A row of one's own, as texts in memory. -/
theorem strs_of_own {w : World} {base n : Nat} {v : Value} {l : List ByteArray} (h : w.ownsRow base 9 1 v n (strV l)) (hn : n = l.length) (hp : 0 < n) : ∃ g cap, v = .slice (some ⟨g, 0, none⟩) n cap ∧ base ≤ g ∧ g < w.heap.size ∧ n ≤ cap ∧ cap ≤ maxLen ∧ Strs w g 0 l := by
  obtain ⟨_, (⟨_, h0⟩ | ⟨g, kc, cur, rfl, hbg, hcur, hle, hmx, hcs, htk⟩)⟩ := h
  · omega
  refine ⟨g, kc, rfl, hbg, (Array.getElem?_eq_some_iff.1 hcur).1, hle, hmx, fun i hi => ?_⟩
  have h1 : (cur.toList.take (n * 1))[i]? = some (.string l[i]) := by rw [htk, strV, List.getElem?_map, List.getElem?_eq_getElem hi]; rfl
  have h2 : cur[i]? = some (.string l[i]) := by
    rw [List.getElem?_take_of_lt (by omega)] at h1
    simpa using h1
  simp [World.cell?, hcur, h2]

set_option maxHeartbeats 2000000 in
theorem back_row (g k b o cap : Nat) (l : List ByteArray) (hl : l.length * 16 ≤ 140737488351232) (w : World) (hS : Strs w b o l) (hG : Strs w g 0 (l ++ [mark])) :
    Calls Tryd.prog 13 #[.slice (some ⟨g, 0, none⟩) (l.length + 1) k, .slice (some ⟨b, o, none⟩) l.length cap] w fun e w' => e = .returned (.bool true) ∧ w'.heap = w.heap ∧ Below w.heap.size w w' := by
  go_enter Tryd.func13, Tryd.ntmps13
  go_wp2
  go_loopw [5] (fun i wr => ∃ p : Nat, i = .int .i64 p ∧ p ≤ l.length ∧ wr.heap = w.heap ∧ Below w.heap.size w wr) (fun i _ => (l.length - intOf i).toNat)
  case atStart => exact ⟨0, rfl, by omega, rfl, Below.refl _ _⟩
  case round =>
    obtain ⟨p, rfl, hp, hh, hB⟩ := hrel
    have HH : Hid (wr.heap = w.heap) := hh
    by_cases h : p < l.length
    · have hc : wr.cell? ⟨b, o + p, none⟩ = some (.string l[p]) := by rw [World.cell?_of_block (w := w) (by rw [hh])]; exact hS p h
      have hg : wr.cell? ⟨g, p, none⟩ = some (.string l[p]) := by
        rw [World.cell?_of_block (w := w) (by rw [hh])]
        have := hG p (by simp; omega)
        rw [Nat.zero_add, List.getElem_append_left h] at this
        exact this
      clear hh
      generalize l[p] = s at *
      go_wp2_with fail
      go_region
      all_goals
        go_wp2
        exact ⟨⟨p + 1, rfl, by omega, HH.out, hB.drew⟩, by simp only [intOf]; omega⟩
    · obtain rfl : p = l.length := by omega
      have hg : wr.cell? ⟨g, l.length, none⟩ = some (.string mark) := by
        rw [World.cell?_of_block (w := w) (by rw [hh])]
        have := hG l.length (by simp)
        rw [Nat.zero_add, List.getElem_append_right (Nat.le_refl _)] at this
        simpa using this
      clear hh
      go_wp2
      go_ret
      exact ⟨by simp, HH.out, hB⟩
set_option maxHeartbeats 2000000 in
theorem back_none (g k : Nat) (a : Option Addr) (cap : Nat) (w : World) (hG : Strs w g 0 [mark]) :
    Calls Tryd.prog 13 #[.slice (some ⟨g, 0, none⟩) 1 k, .slice a 0 cap] w fun e w' => e = .returned (.bool true) ∧ w'.heap = w.heap ∧ Below w.heap.size w w' := by
  have hg : w.cell? ⟨g, 0, none⟩ = some (.string mark) := hG 0 (by decide)
  go_enter Tryd.func13, Tryd.ntmps13
  go_wp2
  refine wp_loop_rounds 1 ?_
  rw [rounds_succ]
  go_wp2
  go_ret
  exact ⟨by simp, rfl, Below.refl _ _⟩
end Go.Proofs.YtabipemlemppjaaDoor
