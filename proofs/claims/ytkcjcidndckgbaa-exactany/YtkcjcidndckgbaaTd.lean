/- Plain: the distinct keys; a list put in order. -/
import Derived.Test.YtkcjcidndckgbaaTa
import Derived.Test.YtkcjcidndckgbaaWe
import Derived.DeepKeys
namespace Go.Proofs.Ytkcjcidndckgbaa
open Go.RowKit Go.Sort
set_option linter.unusedVariables false
set_option linter.unusedSimpArgs false

theorem mem_addK (D : List ByteArray) (k x : ByteArray) : x ∈ addK D k ↔ x ∈ D ∨ x = k := by
  unfold addK
  split
  · rename_i h; exact ⟨.inl, fun e => e.elim id fun e => e ▸ h⟩
  · rw [List.mem_cons]; exact or_comm
theorem nodup_addK {D : List ByteArray} (h : D.Nodup) (k : ByteArray) : (addK D k).Nodup := by
  unfold addK
  split
  · exact h
  · rename_i hn; exact List.nodup_cons.2 ⟨hn, h⟩
theorem len_addK (D : List ByteArray) (k : ByteArray) : (addK D k).length ≤ D.length + 1 := by
  unfold addK; split <;> simp
/-- The distinct keys among the first m. -/
def dk (xs : List ByteArray) (m : Nat) : List ByteArray := (xs.take m).foldl addK []
theorem dk_succ {xs : List ByteArray} {m : Nat} {x : ByteArray} (h : xs[m]? = some x) : dk xs (m + 1) = addK (dk xs m) x := by
  unfold dk
  rw [List.take_add_one, h, List.foldl_append]; rfl
theorem dk_ok (xs : List ByteArray) : ∀ m, m ≤ xs.length → (dk xs m).Nodup ∧ (dk xs m).length ≤ m ∧ ∀ x, x ∈ dk xs m ↔ x ∈ xs.take m
  | 0, _ => ⟨by simp [dk], by simp [dk], by simp [dk]⟩
  | m + 1, h => by
    obtain ⟨h1, h2, h3⟩ := dk_ok xs m (by omega)
    have hx : xs[m]? = some (xs[m]'(by omega)) := List.getElem?_eq_getElem _
    rw [dk_succ hx]
    refine ⟨nodup_addK h1 _, Nat.le_trans (len_addK _ _) (by omega), fun x => ?_⟩
    have e : xs.take (m + 1) = xs.take m ++ [xs[m]'(by omega)] := by rw [List.take_add_one, hx]; rfl
    rw [mem_addK, h3, e, List.mem_append, List.mem_singleton]
theorem order_of {V : Type} : ∀ (l : List (ByteArray × V)), (l.Pairwise fun a b => a.1 ≠ b.1) → ∃ ys, ys.Perm l ∧ Srt ys
  | [], _ => ⟨[], .refl _, List.Pairwise.nil⟩
  | x :: l, h => by
    obtain ⟨h1, h2⟩ := List.pairwise_cons.1 h
    obtain ⟨ys, g1, g2⟩ := order_of l h2
    exact ⟨ins ys x, (ins_perm ys x).trans (g1.cons x), ins_srt g2 fun y hy e => h1 y (g1.mem_iff.1 hy) e.symm⟩
theorem map_keys {D : List ByteArray} (h : D.Nodup) : (D.map fS).Pairwise fun a b => a.1 ≠ b.1 := by
  rw [List.pairwise_map]
  exact h.imp fun h => h
theorem txt_eq (a b : ByteArray) : (a.toList == b.toList) = decide (a = b) := by
  rw [ByteArray.toList_eq, ByteArray.toList_eq, Bool.eq_iff_iff]
  simp only [beq_iff_eq, decide_eq_true_eq]
  constructor
  · intro h; obtain ⟨⟨x⟩⟩ := a; obtain ⟨⟨y⟩⟩ := b; simp only at h; rw [h]
  · intro h; rw [h]
theorem Two.rises {w W : World} {q1 q2 : Nat} {E E2 : List ByteArray} (h : Two w W q1 q2 E E2) (hd : E.Nodup) (hok : ∀ x ∈ E, x.size ≤ 281474976710656) (V : World) (hV : Below W.heap.size W V) (bx : Nat) (hbx : Blk V bx #[.pointer (some ⟨q1, 0, none⟩)] 48) :
    Calls Try.prog 23 #[.func (.func 55) #[] #[.pointer (some ⟨bx, 0, none⟩)], .int .i64 E.length] V fun e w' => e = .returned (.bool true) ∧ Below V.heap.size V w' := by
  obtain ⟨b1, c1, r1, b2, c2, r2, h⟩ := h
  obtain ⟨ys, g1, g2⟩ := order_of (E.map fS) (map_keys hd)
  have hl : E.length = ys.length := by rw [g1.length_eq, List.length_map]
  rw [hl]
  refine rises_any q1 b1 4096 c1 r1 ys (g1.trans h.p1.symm) g2 (fun x hx => ?_) (fun x hx => ?_) V (h.m1.below hV) bx hbx
  · obtain ⟨k, hk, rfl⟩ := List.mem_map.1 (g1.mem_iff.1 hx)
    exact hok k hk
  · obtain ⟨k, hk, rfl⟩ := List.mem_map.1 (g1.mem_iff.1 hx)
    rfl
theorem eqIn54 (d : Nat) (b c : Int) (w : World) : (Op.equalIn (d + 2) 54 (.agg #[.int .i64 b, .int .i64 c]) (.agg #[.int .i64 b, .int .i64 c])).run Try.prog w = .ok true w := by
  have u := Try.underlying3
  have hi : (Try.prog.info? 3).map (·.size) = some 1 := by kernel_rfl
  obtain ⟨i0, h1, h2⟩ := Option.map_eq_some_iff.1 hi
  rw [run_equalIn_array w (d + 1) _ _ Try.underlying54 h1, cells3]
  have e : List.range 2 = [0, 1] := rfl
  rw [e]
  simp only [Op.eqItems]
  go_simp
theorem eqIn56 (d : Nat) (a : ByteArray) (b c : Int) (w : World) : (Op.equalIn (d + 3) 56 (.agg #[.string a, .int .i64 b, .int .i64 c]) (.agg #[.string a, .int .i64 b, .int .i64 c])).run Try.prog w = .ok true w := by
  have hS : Try.prog.underlying 56 = some (.struct (Try.prog.fieldsOf 56)) := by kernel_rfl
  have hp : Try.prog.stoodInHeld 56 = false := by kernel_rfl
  have u9 := Try.underlying9
  have u54 := Try.underlying54
  have e0 := eqIn54 d b c
  rw [run_equalIn_struct w (d + 2) 56 _ _ hS hp]
  simp only [Program.fieldsOf, Try.underlying56]
  go_simp
theorem neT (a : ByteArray) (b c : Int) (w : World) : (binOp .neq 56 (.agg #[.string a, .int .i64 b, .int .i64 c]) (.agg #[.string a, .int .i64 b, .int .i64 c])).run Try.prog w = .ok (.bool false) w := by
  simp [binOp, Op.equal, Op.maxDepth, eqIn56 9997]
end Go.Proofs.Ytkcjcidndckgbaa
