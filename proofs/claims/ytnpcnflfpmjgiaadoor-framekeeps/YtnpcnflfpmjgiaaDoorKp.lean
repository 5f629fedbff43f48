/- Frames put, flushed, put over and lost: plain facts. -/
import Derived.Test.YtnpcnflfpmjgiaaDoorHp
namespace Go.Proofs.YtnpcnflfpmjgiaaDoor
open Go.RowKit
set_option linter.unusedVariables false
set_option linter.unusedSimpArgs false

/-- The first m of some frames stand in sectors. -/
def Stand (t : List ByteArray) (l : List Fr) (m : Nat) : Prop := ∀ (j : Nat) (f : Fr), j < m → l[j]? = some f → openE (t.getD j ByteArray.empty) = 0 ∧ openR (t.getD j ByteArray.empty) = rightF f
theorem Live.len {S : DS} (h : Live S) : S.shown.length = S.safe.length := by unfold DS.shown; exact length_over _ _
theorem stand_put {S : DS} (h : Live S) {l : List Fr} {m : Nat} (hs : Stand S.shown l m) (hm : m < S.safe.length) {f : Fr} (hf : l[m]? = some f) (hn : f.num < 18446744073709551616) : Stand (putD S (m : Int) (rightF f)).shown l (m + 1) := by
  rw [h.put_shown hm (rightF_wrong f)]
  obtain ⟨b1, b2, _, _⟩ := h.putB hm (rightF_wrong f) (show (rightF f).num < _ from hn)
  intro j g hj hg
  by_cases e : j = m
  · subst e
    rw [hf] at hg
    obtain rfl := Option.some.inj hg
    rw [List.getD_eq_getElem?_getD, List.getElem?_set_self (by rw [h.len]; exact hm), Option.getD_some]
    exact ⟨b1, b2⟩
  · rw [List.getD_eq_getElem?_getD, List.getElem?_set_ne (fun q => e q.symm), ← List.getD_eq_getElem?_getD]
    exact hs j g (by omega) hg
/-- A Flush. -/
theorem Live.flush {S : DS} (h : Live S) : flushE S = 0 ∧ Live (flushD S) ∧ (flushD S).safe = S.shown ∧ (flushD S).wait = [] := by
  have hst := h.step
  have e1 : flushE S = 0 := by unfold flushE; rw [hst, h.on]; rfl
  have e2 : flushD S = { S with safe := S.shown, wait := [], fl := wrap64 (S.fl + 1) } := by unfold flushD; rw [hst, if_neg (by rw [h.on]; simp)]
  have hl := h.len
  refine ⟨e1, ?_, by rw [e2], by rw [e2]⟩
  rw [e2]
  exact ⟨⟨by show 1 ≤ S.shown.length; rw [hl]; exact h.ok.one, by show S.shown.length ≤ _; rw [hl]; exact h.ok.most, size_over h.ok.size h.ok.len, (fun p hp => by cases hp), (fun p hp => by cases hp), h.ok.cut0, h.ok.cut1, h.ok.idle⟩, h.on, h.cut⟩
/-- All is lost. -/
theorem Live.lost {S : DS} (h : Live S) : Live (crashD S []) ∧ (crashD S []).safe = S.safe ∧ (crashD S []).shown = S.safe := by
  have e : (crashD S []).safe = S.safe := by
    rw [crashD_safe]
    exact settle_none (fun j _ => rfl) h.ok.size h.ok.num
  exact ⟨live_crash h.ok [], e, (crashD_shown S []).trans e⟩
end Go.Proofs.YtnpcnflfpmjgiaaDoor
