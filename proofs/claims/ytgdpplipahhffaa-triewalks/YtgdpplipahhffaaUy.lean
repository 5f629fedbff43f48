/- Two rows of prefixes that a round may append to. -/
import Derived.Test.YtgdpplipahhffaaGg
namespace Go.Proofs.Ytgdpplipahhffaa
open Go.RowKit
set_option linter.unusedVariables false
set_option linter.unusedSimpArgs false

theorem own_below {A C : World} {B n : Nat} {s : Value} {xs : List Value} (ho : A.ownsRow B 51 3 s n xs) (hb : Below A.heap.size A C) : C.ownsRow B 51 3 s n xs := ownsRow_kept ho (Kept.of_below (S := fun _ => False) hb) (fun k _ e => e)
theorem own_block {A : World} {B n : Nat} {s : Value} {xs : List Value} (ho : A.ownsRow B 51 3 s n xs) {k : Nat} (hk : s.ownBlock = some k) : B ≤ k ∧ IsRow 51 A k := by
  rcases ho.2 with ⟨e1, _⟩ | ⟨b, cap, cur, e1, hb, hg, _⟩
  · rw [e1] at hk; simp [Value.ownBlock] at hk
  · rw [e1] at hk
    simp [Value.ownBlock] at hk
    subst hk
    exact ⟨hb, _, _, hg⟩
theorem own_loop {A C : World} {B n l : Nat} {r : Loop} {s : Value} {xs : List Value} (ho : A.ownsRow B 51 3 s n xs) (hk : Kept (fun k => k = l) A C) (hl : A.heap[l]? = some (.loop r)) : C.ownsRow B 51 3 s n xs :=
  ownsRow_kept ho hk fun k hk' e => by
    have e' : k = l := e
    subst e'
    obtain ⟨_, _, _, h⟩ := own_block ho hk'
    rw [hl] at h; cases h
/-- One of two rows grows by a prefix. -/
theorem row_step {W : Nat} {V : World} {B A A' : Nat} {s s' : Value} {K K' : List (List Bool)} (p : List Bool) (hA : A < B) (hA' : A' < B) (hne : A ≠ A') (hBV : B ≤ V.heap.size)
    (h1 : Blk V A #[s] 65) (o1 : V.ownsRow B 51 3 s K.length (rowK W K)) (h2 : Blk V A' #[s'] 65) (o2 : V.ownsRow B 51 3 s' K'.length (rowK W K')) (hd : ∀ k, s.ownBlock = some k → s'.ownBlock ≠ some k) (hK : K.length + 1 ≤ 1000000) :
    ∃ ba bc W2, Sem.run Try.prog (appd #[65, 65] 65 #[s, .slice (some ⟨V.heap.size, 0, none⟩) 1 1]) (V.alloc (.cells #[.int .u64 (hiOf (valOf W p)), .int .u64 (loOf (valOf W p)), .int .i64 p.length] 51)) = .ok (.slice ba (K.length + 1) bc) W2 ∧
      W2.frozen? ⟨A, 0, none⟩ = false ∧ W2.cell? ⟨A, 0, none⟩ = some s ∧
      Hid (Blk (W2.setCell ⟨A, 0, none⟩ (.slice ba (K.length + 1) bc)) A #[.slice ba (K.length + 1) bc] 65 ∧ (W2.setCell ⟨A, 0, none⟩ (.slice ba (K.length + 1) bc)).ownsRow B 51 3 (.slice ba (K.length + 1) bc) (K ++ [p]).length (rowK W (K ++ [p])) ∧
        Blk (W2.setCell ⟨A, 0, none⟩ (.slice ba (K.length + 1) bc)) A' #[s'] 65 ∧ (W2.setCell ⟨A, 0, none⟩ (.slice ba (K.length + 1) bc)).ownsRow B 51 3 s' K'.length (rowK W K') ∧
        (∀ k, (Value.slice ba (K.length + 1) bc).ownBlock = some k → s'.ownBlock ≠ some k) ∧ Kept (fun k => k = A ∨ s.ownBlock = some k) V (W2.setCell ⟨A, 0, none⟩ (.slice ba (K.length + 1) bc))) := by
  obtain ⟨s1, W2, hr, ho, ⟨ba, bc, rfl⟩, hk, hat⟩ := app_pf V B s K p o1 hBV hK
  have k1 : Kept (fun k => k = A ∨ s.ownBlock = some k) V W2 := hk.mono fun k _ e => .inr e
  have hnA : ¬ s.ownBlock = some A := fun e => by have := (own_block o1 e).1; omega
  have hnA' : ¬ s.ownBlock = some A' := fun e => by have := (own_block o1 e).1; omega
  have b1 : Blk W2 A #[s] 65 := h1.kept hk hnA
  have b2 : Blk W2 A' #[s'] 65 := h2.kept hk hnA'
  have o2' : W2.ownsRow B 51 3 s' K'.length (rowK W K') := ownsRow_kept o2 hk fun k hk' e => hd k e hk'
  have ks := (Kept.refl (fun k => k = A) W2).set (p := ⟨A, 0, none⟩) rfl (.slice ba (K.length + 1) bc)
  refine ⟨ba, bc, W2, hr, b1.frozen 0, b1.cell 0 rfl, (⟨b1.set 0 _, ?_, b2.kept ks (fun e => hne e.symm), ?_, ?_, ?_⟩ : _ ∧ _)⟩
  · exact ownsRow_kept ho ks fun k hk' e => by have e' : k = A := e; have := (own_block ho hk').1; omega
  · exact ownsRow_kept o2' ks fun k hk' e => by have e' : k = A := e; have := (own_block o2' hk').1; omega
  · intro k hk' e
    rcases hat with h | ⟨g, h, hg⟩
    · rw [h] at hk'; exact hd k hk' e
    · rw [h] at hk'
      cases hk'
      obtain ⟨_, _, _, h5⟩ := own_block o2 e
      have := (Array.getElem?_eq_some_iff.1 h5).1
      omega
  · exact k1.trans (ks.mono fun k _ e => .inl e)
/-- The rows of all and of some: what the first range has told so far. -/
def TwoR (W : Nat) (f : List Bool → Bool) (w9 : World) (Aw Ae : Nat) (pre : List (List Bool × Int)) (W' : World) : Prop :=
  ∃ s1 s2, Blk W' Ae #[s1] 65 ∧ W'.ownsRow w9.heap.size 51 3 s1 (keys pre).length (rowK W (keys pre)) ∧ Blk W' Aw #[s2] 65 ∧ W'.ownsRow w9.heap.size 51 3 s2 (keys (pre.filter fun y => f y.1)).length (rowK W (keys (pre.filter fun y => f y.1))) ∧ (∀ k, s1.ownBlock = some k → s2.ownBlock ≠ some k) ∧ Kept (fun k => k = Aw ∨ k = Ae) w9 W'
theorem two_low {W : Nat} {f : List Bool → Bool} {w9 : World} {Aw Ae : Nat} (h1 : Aw < w9.heap.size) (h2 : Ae < w9.heap.size) : LowG 51 w9.heap.size (TwoR W f w9 Aw Ae) :=
  LowG.ex fun s1 => LowG.ex fun s2 => (low_blk _ _ (fun pre : List (List Bool × Int) => #[s1]) _ h2).g.and ((lowG_row _ _ _ _ _ _ _).and ((low_blk _ _ (fun pre : List (List Bool × Int) => #[s2]) _ h1).g.and ((lowG_row _ _ _ _ _ _ _).and ((low_pure _ _).g.and (low_kept _ _ _ (Nat.le_refl _)).g))))
/-- A count of what has been told. -/
def Cnt (w10 : World) (An : Nat) (pre : List (List Bool × Int)) (W' : World) : Prop := Blk W' An #[.int .i64 pre.length] 3 ∧ Kept (fun k => k = An) w10 W'
theorem cnt_low {w10 : World} {An : Nat} (h : An < w10.heap.size) : LowG 51 w10.heap.size (Cnt w10 An) :=
  (low_blk _ _ (fun pre : List (List Bool × Int) => #[.int .i64 pre.length]) _ h).g.and (low_kept _ _ _ (Nat.le_refl _)).g
theorem neK {W : Nat} {c : List Bool} (hc : c.length ≤ W) (w : World) : (binOp .neq 51 (Pf (valOf W c) c.length) (Pf (valOf W c) c.length)).run Try.prog w = .ok (.bool false) w := by
  simp only [binOp]
  simp [Op.equal, Op.maxDepth, eqIn51 9997]
end Go.Proofs.Ytgdpplipahhffaa
