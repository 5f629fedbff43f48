/- Package exact: a row of places with room for so many. -/
import Derived.Test.YtkcjcidndckgbaaTk
import Derived.Laws.OwnMore
import Derived.OwnWalk
import Derived.OwnWalkIn
namespace Go.Proofs.Ytkcjcidndckgbaa
open Go.RowKit
set_option linter.unusedVariables false
set_option linter.unusedSimpArgs false

section
variable {V : Type}
theorem cont_keys {H : ByteArray → Nat} {r : List (Pl V)} (h : Rw H r) : (cont r).Pairwise fun a b => a.1 ≠ b.1 := by
  unfold cont
  rw [List.pairwise_filterMap, List.pairwise_iff_getElem]
  intro i j hi hj hij x hx y hy e
  have h1 : r[i]? = some (some x) := by rw [List.getElem?_eq_getElem hi]; exact congrArg some hx
  have h2 : r[j]? = some (some y) := by rw [List.getElem?_eq_getElem hj]; exact congrArg some hy
  have := h.one i j x y h1 h2 e
  omega
theorem told_new {l pre : List (ByteArray × V)} {x : ByteArray × V} (h : l.Pairwise fun a b => a.1 ≠ b.1) (hp : pre ++ [x] <+: l) : ∀ y ∈ pre, y.1 ≠ x.1 := by
  obtain ⟨t, rfl⟩ := hp
  rw [List.append_assoc] at h
  intro y hy
  exact (List.pairwise_append.1 h).2.2 y hy x (by simp)
theorem low_row {α β : Type} {E K : Nat} {enc : α → List Value} (m b : Nat) (P : β → List α → Prop) (hb : b < m) : Low m (fun s W => ∃ xs, RowOf E K enc W b xs ∧ P s xs) := fun s A C hk hj => by
  obtain ⟨xs, h1, h2⟩ := hj
  exact ⟨xs, h1.kept hk (by omega), h2⟩
end
theorem info89 : (Try.prog.info? 89).map (fun i => (i.zero, i.size, i.bytes)) = some (some (.agg #[.bool false, .int .u32 0, .string ⟨#[]⟩, .int .i64 0]), 4, 32) := by kernel_rfl
theorem made_get {z : Array Value} {n i : Nat} (h : i < n) : (madeCells z n)[i]? = some z[i % z.size]! := by
  unfold madeCells; rw [Array.getElem?_map, Array.getElem?_range, if_pos h]; rfl
/-- A new row of free places. -/
theorem RowOf.made {w1 : World} {base g n cap : Nat} (hown : w1.ownsRow base 89 4 (.slice (some ⟨g, 0, none⟩) n cap) n (madeCells (Value.agg #[.bool false, .int .u32 0, .string ⟨#[]⟩, .int .i64 0]).cells (n * 4)).toList) : RowOf 89 4 encI w1 g (List.replicate n none) := by
  rcases hown.2 with ⟨e, _⟩ | ⟨g', cap', cur, e, _, hb, _, _, hs, ht⟩
  · cases e
  · simp only [Value.slice.injEq, Option.some.injEq, Addr.mk.injEq, and_true, true_and] at e
    obtain ⟨rfl, rfl⟩ := e
    have h4 : n ≤ cap := by assumption
    refine ⟨cur, hb, by rw [List.length_replicate]; omega, fun i x hx j v hv => ?_⟩
    rw [List.getElem?_replicate] at hx
    split at hx
    · next hi =>
      injection hx with hx; subst hx
      have hj : j < 4 := (List.getElem?_eq_some_iff.1 hv).1
      have hlt : i * 4 + j < n * 4 := by omega
      have e1 : (cur.toList.take (n * 4))[i * 4 + j]? = (madeCells (Value.agg #[.bool false, .int .u32 0, .string ⟨#[]⟩, .int .i64 0]).cells (n * 4)).toList[i * 4 + j]? := by rw [ht]
      rw [List.getElem?_take_of_lt hlt, Array.getElem?_toList, Array.getElem?_toList, made_get hlt] at e1
      rw [e1]
      have e2 : (Value.agg #[.bool false, .int .u32 0, .string ⟨#[]⟩, .int .i64 0]).cells = #[.bool false, .int .u32 0, .string ⟨#[]⟩, .int .i64 0] := rfl
      rw [e2, show #[Value.bool false, .int .u32 0, .string ⟨#[]⟩, .int .i64 0].size = 4 from rfl, show (i * 4 + j) % 4 = j by omega]
      have : j = 0 ∨ j = 1 ∨ j = 2 ∨ j = 3 := by omega
      rcases this with rfl | rfl | rfl | rfl <;> exact hv
    · cases hx
theorem wpListIn_make_full {F : Fence} {n : Nat} {P : Program} (w : World) {ops : Array Oper} {rest : List Oper} {o : Oper} {a : Act} {Q : Exit → Act → World → Prop}
    (hg : o.guard = none) (l c : Operand) (t : TypeId) (hop : o.op = Op.makeSlice t l c)
    (base : Nat) (e : TypeId) (i : TypeInfo) (z : Value) (size : Nat) (h1 : P.underlying t = some (.slice e)) (h2 : P.info? e = some i) (h3 : i.zero = some z) (h4 : i.size = size)
    (kl kc : IntKind) (L C : Int) (m : Nat) (hl : a.eval l = .int kl L) (hc : a.eval c = .int kc C) (hL : L = (m : Int)) (hC : C = (m : Int)) (b2 : i.bytes * m ≤ 281474976710656) (b3 : m ≤ maxLen) (b4 : base ≤ w.heap.size)
    (hK : ∀ w', w'.ownsRow base e size (.slice (some ⟨w.heap.size, 0, none⟩) m m) m (madeCells z.cells (m * size)).toList → w.grownBy w' none → wpListIn F n P ops Q rest (a.put o.dst (.slice (some ⟨w.heap.size, 0, none⟩) m m)) w') :
    wpListIn F n P ops Q (o :: rest) a w := by
  refine wpListIn_plain hg fun K hK' => ?_
  obtain ⟨w', hrun, r1, r2⟩ := run_make_full (P := P) w base t e i z size h1 h2 h3 h4 kl kc m b2 b3 b4
  subst hL
  subst hC
  unfold Oper.wpIn
  refine ⟨?_, ?_⟩
  · simp [Oper.about, hop]
  · rw [Oper.semAt_plain F _ _ (by rw [hop]; intro c hc'; cases hc')]
    simp [execOp, hop, hl, hc, hrun, Result.andThen]
    exact hK' _ _ (hK w' r1 r2)
end Go.Proofs.Ytkcjcidndckgbaa
