/- A region's end, where what is left of it is passed over, or picked: by one reckoning. -/
import Derived.Test.YtgdpplipahhffaaGi
namespace Go.Proofs.Ytgdpplipahhffaa
open Go.RowKit
set_option linter.unusedVariables false

/-- What an operation yields that reads no memory. -/
def easyV (o : Oper) (a : Act) : Option Value := match o.op with
  | .move x => some (a.eval x)
  | .assign x => some (a.eval x)
  | .pick c x y => match a.eval c with
    | .bool b => some (if b then a.eval x else a.eval y)
    | _ => none
  | _ => none
def isCall (o : Oper) : Bool := match o.op with
  | .call _ => true
  | _ => false
/-- The frame at the region's end, if all that is left is easy. -/
def finish (md : Region.Mode) (ops : Array Oper) : Nat → Array Bool → Act → Option Act
  | 0, listed, a => match Region.ready md ops listed with
    | [] => some a
    | _ => none
  | k + 1, listed, a => match Region.ready md ops listed with
    | [] => some a
    | i :: rest => match ops[i]? with
      | none => none
      | some o => match o.dst.isSome, Region.wanted o (yielded ops a.tmps) with
        | false, _ => none
        | true, true => match easyV o a with
          | some v => match Region.free md ops listed i with
            | true => finish md ops k (listed.setIfInBounds i true) (a.put o.dst v)
            | false => none
          | none => none
        | true, false => match isCall o with
          | true => match rest with
            | [] => finish md ops k (listed.setIfInBounds i true) (a.put o.dst undef)
            | _ => none
          | false => match Region.free md ops listed i with
            | true => finish md ops k (listed.setIfInBounds i true) (a.put o.dst undef)
            | false => none
theorem easy_run {P : Program} {o : Oper} {a : Act} {v : Value} (h : easyV o a = some v) : (∀ w, (execOp a.eval o).run P w = .ok (.value v) w) ∧ ∀ w, o.about P w a.eval = none := by
  unfold easyV at h
  split at h
  · rename_i x e
    cases h
    exact ⟨fun w => by unfold execOp; rw [e]; rfl, fun w => by unfold Oper.about; rw [e]⟩
  · rename_i x e
    cases h
    exact ⟨fun w => by unfold execOp; rw [e]; rfl, fun w => by unfold Oper.about; rw [e]⟩
  · rename_i c x y e
    split at h
    · rename_i b hb
      cases h
      refine ⟨fun w => ?_, fun w => by unfold Oper.about; rw [e]⟩
      unfold execOp
      rw [e]
      simp only [hb]
      cases b <;> rfl
    · cases h
  · cases h
theorem about_plain {P : Program} {o : Oper} (h : isCall o = false) (w : World) (ρ : Operand → Value) : o.about P w ρ = none := by
  unfold Oper.about
  unfold isCall at h
  split
  · rename_i c e; rw [e] at h; cases h
  · rfl
theorem finish_any {n : Nat} {P : Program} {md : Region.Mode} {ops : Array Oper} {Q : Exit → Act → World → Prop} (hs : Region.noSelect ops = true) (hQ : ∀ c d v a w, Q (.panic c) (a.put (some d) v) w → Q (.panic c) a w) : ∀ (k : Nat) (listed : Array Bool) (a : Act) {a' : Act} (w : World), finish md ops k listed a = some a' → Q .normal a' w → wpAnyIn Fence.wide n P md ops Q k listed a w
  | 0, listed, a, a', w, h, hq => by
    unfold finish at h
    split at h
    · rename_i e; cases h; exact wpAnyIn_done e hq _
    · cases h
  | k + 1, listed, a, a', w, h, hq => by
    unfold finish at h
    split at h
    · rename_i e; cases h; exact wpAnyIn_done e hq _
    · rename_i i rest e
      split at h
      · cases h
      · rename_i o ho
        have hc : (Region.ready md ops listed).contains i = true := by rw [e]; simp
        split at h
        · cases h
        · rename_i hd hw
          obtain ⟨d, hd⟩ := Option.isSome_iff_exists.1 hd
          split at h
          · rename_i v hv
            split at h
            · rename_i hf
              obtain ⟨g1, g2⟩ := easy_run (P := P) hv
              exact wpAnyIn_take rfl ho hs hf hc (fun c a w g => hQ c d v a w (by rw [← hd]; exact g)) ⟨.inl ⟨hw, g1⟩, g2⟩ (finish_any hs hQ k _ _ w h hq)
            · cases h
          · cases h
        · rename_i hd hw
          obtain ⟨d, hd⟩ := Option.isSome_iff_exists.1 hd
          split at h
          · rename_i hcall
            split at h
            · exact wpAnyIn_ready (rs := [i]) e (by simp) (AllReadyIn.cons ho (fun K' hK => by rw [hw, if_neg (by simp)]; exact ⟨fun f _ => trivial, hK _ _ (finish_any hs hQ k _ _ w h hq)⟩) AllReadyIn.nil)
            · cases h
          · rename_i hcall
            split at h
            · rename_i hf
              exact wpAnyIn_take rfl ho hs hf hc (fun c a w g => hQ c d undef a w (by rw [← hd]; exact g)) ⟨.inr ⟨hw, rfl⟩, fun w => about_plain hcall w _⟩ (finish_any hs hQ k _ _ w h hq)
            · cases h
end Go.Proofs.Ytgdpplipahhffaa
