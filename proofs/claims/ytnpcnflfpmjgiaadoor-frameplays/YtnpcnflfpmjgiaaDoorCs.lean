/- What DiskKept asks, plain; rows of fates in memory. -/
import Derived.Test.YtnpcnflfpmjgiaaDoorCq
namespace Go.Proofs.YtnpcnflfpmjgiaaDoor
open Go.RowKit
set_option linter.unusedVariables false
set_option linter.unusedSimpArgs false

theorem info59 : (Tryd.prog.info? 72).map (fun i => (i.zero, i.size, i.bytes)) = some (some (.agg #[.int .i64 0, .int .i64 0]), 2, 16) := by kernel_rfl
/-- So many times one fate, in memory. -/
def fcells (kd t : Int) : Nat → List Value
  | 0 => []
  | k + 1 => fcells kd t k ++ [.int .i64 kd, .int .i64 t]
theorem fcells_length (kd t : Int) (k : Nat) : (fcells kd t k).length = k * 2 := by
  induction k with
  | zero => rfl
  | succ k ih => show (fcells kd t k ++ _).length = _; rw [List.length_append, ih]; simp; omega
theorem fcells_at (kd t : Int) (k i : Nat) (h : i < k) : (fcells kd t k)[i * 2]? = some (.int .i64 kd) ∧ (fcells kd t k)[i * 2 + 1]? = some (.int .i64 t) := by
  induction k with
  | zero => omega
  | succ k ih =>
    show (fcells kd t k ++ [.int .i64 kd, .int .i64 t])[i * 2]? = _ ∧ (fcells kd t k ++ [.int .i64 kd, .int .i64 t])[i * 2 + 1]? = _
    have hl := fcells_length kd t k
    by_cases e : i < k
    · rw [List.getElem?_append_left (by omega), List.getElem?_append_left (by omega)]; exact ih e
    · have : i = k := by omega
      subst this
      rw [List.getElem?_append_right (by omega), List.getElem?_append_right (by omega), hl]
      simp
/-- A row of fates as an argument. -/
theorem fts_of {w : World} {B : Nat} {v : Value} {k : Nat} {kd t : Int} (h : w.ownsRow B 72 2 v k (fcells kd t k)) : ∃ a c, v = .slice a (List.replicate k (kd, t)).length c ∧ FtsV w (List.replicate k (kd, t)) a ∧ ∀ fb off, a = some ⟨fb, off, none⟩ → v.ownBlock = some fb := by
  rcases h.2 with ⟨rfl, rfl⟩ | ⟨g, cap, cur, rfl, hb, hg, rest⟩
  · exact ⟨none, 0, rfl, .inl rfl, fun fb off e => by cases e⟩
  · refine ⟨some ⟨g, 0, none⟩, cap, by simp, .inr ⟨g, 0, rfl, fun i kd' t' hi => ?_⟩, fun fb off e => by injection e with e; injection e with e1 e2; subst e1; rfl⟩
    obtain ⟨hil, he⟩ := List.getElem?_eq_some_iff.1 hi
    simp at hil he
    obtain ⟨rfl, rfl⟩ := he
    obtain ⟨e1, e2⟩ := fcells_at kd t k i hil
    rw [Nat.zero_add]
    exact ⟨(h.cellAt (i * 2) (by omega)).trans e1, (h.cellAt (i * 2 + 1) (by omega)).trans e2⟩
/-- All kept; all torn at 512 or above; all torn at 0 or below. -/
theorem fateK_rep (m : Nat) (kd t : Int) (j : Nat) (h : j < m) : fateK (List.replicate m (kd, t)) j = keptK kd t := by
  unfold fateK; simp [h]
theorem crash_all {S : DS} (hok : ∀ p ∈ S.wait, p.2.size = 512) (m : Nat) (kd t : Int) (hm : S.wait.length ≤ m) (hk : keptK kd t = 512) : (crashD S (List.replicate m (kd, t))).safe = S.shown :=
  settle_full (fun j hj => by rw [Nat.zero_add, fateK_rep _ _ _ _ (by omega), hk]) hok
theorem crash_lost {S : DS} (hok : S.Ok) (m : Nat) (kd t : Int) (hm : S.wait.length ≤ m) (hk : keptK kd t = 0) : (crashD S (List.replicate m (kd, t))).safe = S.safe :=
  settle_none (fun j hj => by rw [Nat.zero_add, fateK_rep _ _ _ _ (by omega), hk]) hok.size hok.num
theorem crash_without {S : DS} (hok : S.Ok) : (crashD S []).safe = S.safe :=
  settle_none (fun j hj => rfl) hok.size hok.num
theorem kept_one (t : Int) : keptK 1 t = 512 := by unfold keptK; rfl
theorem kept_torn (t : Int) (h : 512 ≤ t) : keptK 2 t = 512 := by unfold keptK; simp; omega
theorem kept_none (t : Int) (h : t ≤ 0) : keptK 2 t = 0 := by unfold keptK; simp; omega
theorem flush_safe {S : DS} (ho : S.off = false) (hc : S.cut = 0) : flushE S = 0 ∧ (flushD S).safe = S.shown := by
  have := flush_live ho hc
  exact ⟨this.1, by rw [this.2]⟩
/-- Three rows that grow beside one another. -/
structure R3 (B : Nat) (w : World) (u v x : Value) (k1 k2 k3 : Nat) (t1 t2 t3 : Int) : Prop where
  r1 : w.ownsRow B 72 2 u k1 (fcells 1 t1 k1)
  r2 : w.ownsRow B 72 2 v k2 (fcells 2 t2 k2)
  r3 : w.ownsRow B 72 2 x k3 (fcells 2 t3 k3)
  d12 : ∀ j, u.ownBlock = some j → v.ownBlock ≠ some j
  d13 : ∀ j, u.ownBlock = some j → x.ownBlock ≠ some j
  d23 : ∀ j, v.ownBlock = some j → x.ownBlock ≠ some j
theorem R3.push1 {B : Nat} {w w' : World} {u v x : Value} {k1 k2 k3 : Nat} {t1 t2 t3 : Int} (h : R3 B w u v x k1 k2 k3 t1 t2 t3) (o : Obj) {g cap : Nat} (hown : w'.ownsRow B 72 2 (.slice (some ⟨g, 0, none⟩) (k1 + 1) cap) (k1 + 1) (fcells 1 t1 k1 ++ [.int .i64 1, .int .i64 t1])) (hg : (w.alloc o).grownBy w' u.ownBlock) (hwh : u.ownBlock = some g ∨ g = w.heap.size + 1) : R3 B w' (.slice (some ⟨g, 0, none⟩) (k1 + 1) cap) v x (k1 + 1) k2 k3 t1 t2 t3 :=
  ⟨hown, (h.r2.alloc o).kept hg (by cases hq : v.ownBlock with | none => exact .inl rfl | some j => exact .inr (fun e => h.d12 j e.symm hq)), (h.r3.alloc o).kept hg (by cases hq : x.ownBlock with | none => exact .inl rfl | some j => exact .inr (fun e => h.d13 j e.symm hq)), fun j e => by simp [Value.ownBlock] at e; subst e; rcases hwh with q | q; exact h.d12 _ q; exact fun e2 => by have := (h.r2.lt _ e2).2; omega, fun j e => by simp [Value.ownBlock] at e; subst e; rcases hwh with q | q; exact h.d13 _ q; exact fun e2 => by have := (h.r3.lt _ e2).2; omega, h.d23⟩
theorem R3.push2 {B : Nat} {w w' : World} {u v x : Value} {k1 k2 k3 : Nat} {t1 t2 t3 : Int} (h : R3 B w u v x k1 k2 k3 t1 t2 t3) (o : Obj) {g cap : Nat} (hown : w'.ownsRow B 72 2 (.slice (some ⟨g, 0, none⟩) (k2 + 1) cap) (k2 + 1) (fcells 2 t2 k2 ++ [.int .i64 2, .int .i64 t2])) (hg : (w.alloc o).grownBy w' v.ownBlock) (hwh : v.ownBlock = some g ∨ g = w.heap.size + 1) : R3 B w' u (.slice (some ⟨g, 0, none⟩) (k2 + 1) cap) x k1 (k2 + 1) k3 t1 t2 t3 :=
  ⟨(h.r1.alloc o).kept hg (by cases hq : u.ownBlock with | none => exact .inl rfl | some j => exact .inr (fun e => h.d12 j hq e.symm)), hown, (h.r3.alloc o).kept hg (by cases hq : x.ownBlock with | none => exact .inl rfl | some j => exact .inr (fun e => h.d23 j e.symm hq)), fun j e e2 => by simp [Value.ownBlock] at e2; subst e2; rcases hwh with q | q; exact h.d12 _ e q; exact absurd (h.r1.lt _ e).2 (by omega), h.d13, fun j e => by simp [Value.ownBlock] at e; subst e; rcases hwh with q | q; exact h.d23 _ q; exact fun e2 => by have := (h.r3.lt _ e2).2; omega⟩
theorem R3.push3 {B : Nat} {w w' : World} {u v x : Value} {k1 k2 k3 : Nat} {t1 t2 t3 : Int} (h : R3 B w u v x k1 k2 k3 t1 t2 t3) (o : Obj) {g cap : Nat} (hown : w'.ownsRow B 72 2 (.slice (some ⟨g, 0, none⟩) (k3 + 1) cap) (k3 + 1) (fcells 2 t3 k3 ++ [.int .i64 2, .int .i64 t3])) (hg : (w.alloc o).grownBy w' x.ownBlock) (hwh : x.ownBlock = some g ∨ g = w.heap.size + 1) : R3 B w' u v (.slice (some ⟨g, 0, none⟩) (k3 + 1) cap) k1 k2 (k3 + 1) t1 t2 t3 :=
  ⟨(h.r1.alloc o).kept hg (by cases hq : u.ownBlock with | none => exact .inl rfl | some j => exact .inr (fun e => h.d13 j hq e.symm)), (h.r2.alloc o).kept hg (by cases hq : v.ownBlock with | none => exact .inl rfl | some j => exact .inr (fun e => h.d23 j hq e.symm)), hown, h.d12, fun j e e2 => by simp [Value.ownBlock] at e2; subst e2; rcases hwh with q | q; exact h.d13 _ e q; exact absurd (h.r1.lt _ e).2 (by omega), fun j e e2 => by simp [Value.ownBlock] at e2; subst e2; rcases hwh with q | q; exact h.d23 _ e q; exact absurd (h.r2.lt _ e).2 (by omega)⟩
end Go.Proofs.YtnpcnflfpmjgiaaDoor
