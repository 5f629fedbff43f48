/- The calls that the law makes, by what it knows of the map. -/
import Derived.Test.YtkcjcidndckgbaaDoorKr
namespace Go.Proofs.YtkcjcidndckgbaaDoor
open Go.RowKit
set_option linter.unusedVariables false
set_option linter.unusedSimpArgs false

section
variable {tail : ByteArray} {w W : World} {q b g N cap : Nat} {r hs : List (Pl Int)}
theorem KS.frz (h : KS tail w W q b g N r cap hs) (i : Nat) : W.frozen? ⟨g, i, none⟩ = false := h.row.frozen i
theorem put_ks (h : KS tail w W q b g N r cap hs) (ht : tail.size ≤ 64) {i : Nat} (hi10 : i < 10000) (hi : hs[i]? = some none) (v : Int) (hv : v ≠ 0) :
    Calls Tryd.prog 6 #[.pointer (some ⟨q, 0, none⟩), .string (keyB i tail), .int .i64 v] W fun e w' => e = .returned (.int .i64 0) ∧ w'.cell? ⟨g, i, none⟩ = some (.int .i64 0) ∧ w'.frozen? ⟨g, i, none⟩ = false ∧ ∃ b2 r2 cap2, Hid (KS tail w (w'.setCell ⟨g, i, none⟩ (.int .i64 v)) q b2 g N r2 cap2 (hs.set i (some (keyB i tail, v)))) := by
  have hs1 := keyB_size i hi10 tail ht
  refine (putI_ok q b N cap r (keyB i tail) v (by omega) W h.at_ (h.new hi) (h.room hi)).mono ?_
  rintro e w' ⟨rfl, b2, cap2, r2, h1, h2, h3, h4⟩
  have hrow : RowOf 3 1 encH w' g hs := h.row.kept h3 (fun e => by have := h.gq; have := h.gb; rcases e with e | e <;> omega)
  have hc := hrow.cell hi 0 (v := .int .i64 0) rfl
  rw [Nat.mul_one, Nat.add_zero] at hc
  exact ⟨rfl, hc, hrow.frozen i, b2, r2, cap2, h.store h1 h3 h4 _ (List.getElem?_eq_some_iff.1 hi).1 ((h2.trans (h.con.cons _)).trans (cont_lay _ hi).symm) (fun y hy => by injection hy with hy; subst hy; exact ⟨rfl, hv⟩) rfl⟩
theorem drop_ks (h : KS tail w W q b g N r cap hs) (ht : tail.size ≤ 64) {i : Nat} (hi10 : i < 10000) {v : Int} (hi : hs[i]? = some (some (keyB i tail, v))) :
    Calls Tryd.prog 8 #[.pointer (some ⟨q, 0, none⟩), .string (keyB i tail)] W fun e w' => e = .returned (.tuple #[.int .i64 v, .bool true]) ∧ w'.cell? ⟨g, i, none⟩ = some (.int .i64 v) ∧ w'.frozen? ⟨g, i, none⟩ = false ∧ ∃ r2, Hid (KS tail w (w'.setCell ⟨g, i, none⟩ (.int .i64 0)) q b g N r2 cap (hs.set i none)) := by
  have hs1 := keyB_size i hi10 tail ht
  refine (dropI_some q b N cap r (keyB i tail) v (by omega) W h.at_ (h.mem hi)).mono ?_
  rintro e w' ⟨rfl, r2, h1, h2, h3⟩
  have hrow : RowOf 3 1 encH w' g hs := h.row.kept h3 (fun e => by have := h.gq; have := h.gb; rcases e with e | e <;> omega)
  have hc := hrow.cell hi 0 (v := .int .i64 v) rfl
  rw [Nat.mul_one, Nat.add_zero] at hc
  have hp : (cont r2).Perm (cont (hs.set i none)) := List.perm_cons (keyB i tail, v) |>.1 ((h2.symm.trans h.con).trans (cont_take hi))
  exact ⟨rfl, hc, hrow.frozen i, r2, h.store h1 h3 (.inl rfl) none (List.getElem?_eq_some_iff.1 hi).1 hp (fun y hy => by cases hy) rfl⟩
theorem get_ks_none (h : KS tail w W q b g N r cap hs) (ht : tail.size ≤ 64) {i : Nat} (hi10 : i < 10000) (hi : hs[i]? = some none) :
    Calls Tryd.prog 9 #[.pointer (some ⟨q, 0, none⟩), .string (keyB i tail)] W fun e w' => e = .returned (.tuple #[.int .i64 0, .bool false]) ∧ w'.cell? ⟨g, i, none⟩ = some (.int .i64 0) ∧ Hid (KS tail w w' q b g N r cap hs) := by
  have hs1 := keyB_size i hi10 tail ht
  refine (getI_none q b N cap r (keyB i tail) (by omega) W h.at_ (h.new hi)).mono ?_
  rintro e w' ⟨rfl, hb⟩
  exact ⟨rfl, (h.below hb).cell0 hi, h.below hb⟩
theorem get_ks_some (h : KS tail w W q b g N r cap hs) (ht : tail.size ≤ 64) {i : Nat} (hi10 : i < 10000) {v : Int} (hi : hs[i]? = some (some (keyB i tail, v))) :
    Calls Tryd.prog 9 #[.pointer (some ⟨q, 0, none⟩), .string (keyB i tail)] W fun e w' => e = .returned (.tuple #[.int .i64 v, .bool true]) ∧ w'.cell? ⟨g, i, none⟩ = some (.int .i64 v) ∧ Hid (KS tail w w' q b g N r cap hs) := by
  have hs1 := keyB_size i hi10 tail ht
  refine (getI_some q b N cap r (keyB i tail) v (by omega) W h.at_ (h.mem hi)).mono ?_
  rintro e w' ⟨rfl, hb⟩
  exact ⟨rfl, (h.below hb).cellv hi, h.below hb⟩
theorem KS.more (h : KS tail w W q b g N r cap hs) : ∀ x ∈ cont r, x.1 ≠ oneMore := fun x hx e => by
  obtain ⟨j, hj⟩ := mem_cont.1 (h.con.mem_iff.1 hx)
  rw [(h.key j x hj).1] at e
  exact keyB_more j tail e
theorem KS.le (h : KS tail w W q b g N r cap hs) : (cont hs).length ≤ N := by have := cont_len_le hs; rw [h.len] at this; exact this
theorem more_full (h : KS tail w W q b g N r cap hs) (hf : (cont hs).length = N) :
    Calls Tryd.prog 6 #[.pointer (some ⟨q, 0, none⟩), .string oneMore, .int .i64 1] W fun e w' => e = .returned (.int .i64 120) ∧ Hid (KS tail w w' q b g N r cap hs) := by
  refine (putI_full q b N cap r oneMore 1 (by decide) W h.at_ h.more (by rw [h.con.length_eq, hf])).mono ?_
  rintro e w' ⟨rfl, hb⟩
  exact ⟨rfl, h.below hb⟩
theorem len_ks (h : KS tail w W q b g N r cap hs) : Calls Tryd.prog 10 #[.pointer (some ⟨q, 0, none⟩)] W fun e w' => e = .returned (.int .i64 (cont hs).length) ∧ w' = W := by
  have := lenI_any q b N cap r W h.at_
  rwa [h.con.length_eq] at this
theorem more_room (h : KS tail w W q b g N r cap hs) (hf : (cont hs).length < N) :
    Calls Tryd.prog 6 #[.pointer (some ⟨q, 0, none⟩), .string oneMore, .int .i64 1] W fun e w' => e = .returned (.int .i64 0) ∧ Below w.heap.size w w' ∧ Calls Tryd.prog 10 #[.pointer (some ⟨q, 0, none⟩)] w' fun e w'' => e = .returned (.int .i64 ((cont hs).length + 1)) ∧ w'' = w' := by
  refine (putI_ok q b N cap r oneMore 1 (by decide) W h.at_ h.more (by rw [h.con.length_eq]; exact hf)).mono ?_
  rintro e w' ⟨rfl, b2, cap2, r2, h1, h2, h3, h4⟩
  refine ⟨rfl, h.bel.trans (h3.below h.bel.size (fun k e => by have := h.lq; have := h.lb; rcases e with e | e <;> omega)), ?_⟩
  have := lenI_any q b2 N cap2 r2 w' h1
  rw [h2.length_eq, List.length_cons, h.con.length_eq] at this
  exact this
end
end Go.Proofs.YtkcjcidndckgbaaDoor
