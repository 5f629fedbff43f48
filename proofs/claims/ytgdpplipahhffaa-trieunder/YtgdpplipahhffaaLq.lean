/- TrieLongest: what its loop keeps. -/
import Derived.Test.YtgdpplipahhffaaEv
import Derived.Test.YtgdpplipahhffaaLp
import Derived.Test.YtgdpplipahhffaaRt
import Derived.Test.YtgdpplipahhffaaTn
namespace Go.Proofs.Ytgdpplipahhffaa
open Go.RowKit
set_option linter.unusedVariables false
set_option linter.unusedSimpArgs false

/-- What begins a number, of what is kept. -/
def hitsL (W a : Nat) (L : List (List Bool × Int)) : List (List Bool × Int) := if fitsN a W then L.filter fun y => decide (y.1 <+: bitsOf W a) else []
theorem hits_srt {W a : Nat} {L : List (List Bool × Int)} (h : Srt L) : Srt (hitsL W a L) := by
  unfold hitsL; split
  · exact h.filter _
  · exact List.Pairwise.nil
theorem hits_pre {W a : Nat} {L : List (List Bool × Int)} : ∀ y ∈ hitsL W a L, y.1 <+: bitsOf W a := by
  intro y hy
  unfold hitsL at hy
  split at hy
  · have := (List.mem_filter.1 hy).2
    exact of_decide_eq_true this
  · cases hy
theorem hits_put {W a : Nat} {L : List (List Bool × Int)} {p : List Bool} {v : Int} (hs : Srt L) (hn : look p L = none) (hf : fitsN a W = true) (hp : p <+: bitsOf W a) :
    (hitsL W a (upd p v L)).length = (hitsL W a L).length + 1 ∧ bestOf (hitsL W a (upd p v L)).getLast? = if (bestOf (hitsL W a L).getLast?).1 < p.length then ((p.length : Int), v) else bestOf (hitsL W a L).getLast? := by
  have e : hitsL W a (upd p v L) = upd p v (hitsL W a L) := by
    unfold hitsL
    rw [if_pos hf, if_pos hf, filter_upd hs hn (fun k => decide (k <+: bitsOf W a)), if_pos (by simpa using hp)]
  have hne : ∀ y ∈ hitsL W a L, y.1 ≠ p := fun y hy => by
    unfold hitsL at hy
    rw [if_pos hf] at hy
    exact look_none.1 hn y (List.mem_filter.1 hy).1
  rw [e]
  refine ⟨?_, best_put (hits_srt hs) hits_pre hp hne⟩
  rw [len_upd (hits_srt hs), look_none.2 hne]
  rfl
theorem hits_off {W a : Nat} {L : List (List Bool × Int)} {p : List Bool} {v : Int} (hs : Srt L) (hn : look p L = none) (h : ¬ (fitsN a W = true ∧ p <+: bitsOf W a)) : hitsL W a (upd p v L) = hitsL W a L := by
  unfold hitsL
  by_cases hf : fitsN a W = true
  · rw [if_pos hf, if_pos hf, filter_upd hs hn (fun k => decide (k <+: bitsOf W a)), if_neg (by simpa using fun e => h ⟨hf, e⟩)]
  · rw [if_neg hf, if_neg hf]
/-- Put, in all cases: its word tells which. -/
theorem put_all {w0 w : World} {q W : Nat} {L : List (List Bool × Int)} (hO : Own w0 w q W 4096 L) (hW : 1 ≤ W ∧ W ≤ 128) (hlen : L.length < 4096) (v : Nat) (hv : Is128 v) (l u : Int) :
    Calls Try.prog 24 #[.pointer (some ⟨q, 0, none⟩), Pf v l, .int .i64 u] w fun e w' => ∃ c : Int, e = .returned (.int .i64 c) ∧ Hid (∃ L', Own w0 w' q W 4096 L' ∧ ((c = 111 ∧ isP W v l = false ∧ L' = L) ∨ (c = 121 ∧ isP W v l = true ∧ L' = L) ∨ (c = 0 ∧ ∃ p : List Bool, p.length ≤ W ∧ v = valOf W p ∧ l = p.length ∧ look p L = none ∧ L' = upd p u L)) ∧ Kept (fun k => k = q) w w') := by
  obtain ⟨⟨a, n, N, hT, hk⟩, hb, hlo⟩ := hO
  have hq := hT.hd.lt
  by_cases hP : isP W v l = true
  · obtain ⟨p, h1, rfl, rfl⟩ := isP_yes hP
    by_cases hl : look p (kept N) = none
    · refine (put_ok hT h1 u hl (by rw [hk]; exact hlen)).mono ?_
      rintro e w' ⟨rfl, a', n', N', g1, g2, g3⟩
      exact ⟨0, rfl, (⟨_, ⟨⟨a', n', N', g1, g2⟩, hb.trans (g3.below hb.size (fun k e => by have e' : k = q := e; omega)), hlo⟩, .inr (.inr ⟨rfl, p, h1, rfl, rfl, by rw [← hk]; exact hl, by rw [hk]⟩), g3⟩ : ∃ _, _)⟩
    · refine (put_dup hT h1 u hl).mono ?_
      rintro e w' ⟨rfl, h⟩
      exact ⟨121, rfl, (⟨_, ⟨⟨a, n, N, hT.below h, hk⟩, bst hb h, hlo⟩, .inr (.inl ⟨rfl, hP, rfl⟩), Kept.of_below h⟩ : ∃ _, _)⟩
  · have hP : isP W v l = false := Bool.eq_false_iff.2 hP
    refine (put_bad hT v hv l u hP).mono ?_
    rintro e w' ⟨rfl, h⟩
    exact ⟨111, rfl, (⟨_, ⟨⟨a, n, N, hT.below h, hk⟩, bst hb h, hlo⟩, .inl ⟨rfl, hP, rfl⟩, Kept.of_below h⟩ : ∃ _, _)⟩
end Go.Proofs.Ytgdpplipahhffaa
