/- Two maps of the same keys: what each call does to both. -/
import Derived.Test.YtkcjcidndckgbaaVc
import Derived.Test.YtkcjcidndckgbaaRi
namespace Go.Proofs.Ytkcjcidndckgbaa
open Go.RowKit Go.Sort
set_option linter.unusedVariables false
set_option linter.unusedSimpArgs false

instance decBA : DecidableEq ByteArray := fun a b => decidable_of_iff (a.data = b.data) ⟨fun h => by cases a; cases b; simp_all, fun h => h ▸ rfl⟩
instance (priority := 2000) beqBA : BEq ByteArray := instBEqOfDecidableEq
instance (priority := 2000) lawBA : @LawfulBEq ByteArray beqBA := inferInstanceAs (@LawfulBEq ByteArray instBEqOfDecidableEq)
def fS (k : ByteArray) : ByteArray × ByteArray := (k, under ++ k)
def fT (k : ByteArray) : ByteArray × Th := (k, (k, (k.size : Int), 7))
def addK (D : List ByteArray) (k : ByteArray) : List ByteArray := if k ∈ D then D else k :: D
structure TwoM (w W : World) (q1 q2 : Nat) (D1 D2 : List ByteArray) (b1 c1 : Nat) (r1 : List (Pl ByteArray)) (b2 c2 : Nat) (r2 : List (Pl Th)) : Prop where
  m1 : MapAtS W q1 b1 4096 r1 c1
  m2 : MapAtT W q2 b2 4096 r2 c2
  p1 : (cont r1).Perm (D1.map fS)
  p2 : (cont r2).Perm (D2.map fT)
  ne : q1 ≠ q2 ∧ q1 ≠ b2 ∧ b1 ≠ q2 ∧ b1 ≠ b2
  lo : w.heap.size ≤ q1 ∧ w.heap.size ≤ b1 ∧ w.heap.size ≤ q2 ∧ w.heap.size ≤ b2
  be : Below w.heap.size w W
def Two (w W : World) (q1 q2 : Nat) (D1 D2 : List ByteArray) : Prop := ∃ b1 c1 r1 b2 c2 r2, TwoM w W q1 q2 D1 D2 b1 c1 r1 b2 c2 r2
theorem Two.below {w W W' : World} {q1 q2 : Nat} {D1 D2 : List ByteArray} (h : Two w W q1 q2 D1 D2) (hb : Below W.heap.size W W') : Two w W' q1 q2 D1 D2 := by
  obtain ⟨b1, c1, r1, b2, c2, r2, h⟩ := h
  exact ⟨b1, c1, r1, b2, c2, r2, h.m1.below hb, h.m2.below hb, h.p1, h.p2, h.ne, h.lo, bst h.be hb⟩
theorem Two.be {w W : World} {q1 q2 : Nat} {D1 D2 : List ByteArray} (h : Two w W q1 q2 D1 D2) : Below w.heap.size w W := by
  obtain ⟨b1, c1, r1, b2, c2, r2, h⟩ := h
  exact h.be
theorem perm_in {V : Type} {f : ByteArray → ByteArray × V} {l : List (ByteArray × V)} {D : List ByteArray} (p : l.Perm (D.map f)) {k : ByteArray} (h : k ∈ D) : f k ∈ l := p.mem_iff.2 (List.mem_map.2 ⟨k, h, rfl⟩)
theorem perm_out {V : Type} {f : ByteArray → ByteArray × V} (hf : ∀ k, (f k).1 = k) {l : List (ByteArray × V)} {D : List ByteArray} (p : l.Perm (D.map f)) {k : ByteArray} (h : k ∉ D) : ∀ x ∈ l, x.1 ≠ k := by
  intro x hx e
  obtain ⟨k', h1, rfl⟩ := List.mem_map.1 (p.mem_iff.1 hx)
  rw [hf] at e
  exact h (e ▸ h1)
theorem perm_erase {V : Type} {f : ByteArray → ByteArray × V} {l l2 : List (ByteArray × V)} {D : List ByteArray} (p : l.Perm (D.map f)) {k : ByteArray} (h : k ∈ D) (q : l.Perm (f k :: l2)) : l2.Perm ((D.erase k).map f) := by
  have h1 : (D.map f).Perm (f k :: (D.erase k).map f) := (List.perm_cons_erase h).map f
  exact ((q.symm.trans p).trans h1).cons_inv
section
variable {w W : World} {q1 q2 : Nat} {D1 D2 : List ByteArray}
theorem Two.put1 (h : Two w W q1 q2 D1 D2) (k : ByteArray) (hk : k.size ≤ 281474976710656) (hl : D1.length < 4096) :
    Calls Try.prog 17 #[.pointer (some ⟨q1, 0, none⟩), .string k, .string (under ++ k)] W fun e w' => e = .returned (.int .i64 (if k ∈ D1 then 121 else 0)) ∧ Two w w' q1 q2 (addK D1 k) D2 := by
  obtain ⟨b1, c1, r1, b2, c2, r2, h⟩ := h
  by_cases hm : k ∈ D1
  · refine (putS_dup q1 b1 4096 c1 r1 k (under ++ k) (under ++ k) (by omega) W h.m1 (perm_in h.p1 hm)).mono ?_
    rintro e w' ⟨rfl, hb⟩
    rw [if_pos hm, addK, if_pos hm]
    exact ⟨rfl, Two.below ⟨b1, c1, r1, b2, c2, r2, h⟩ hb⟩
  · refine (putS_ok q1 b1 4096 c1 r1 k (under ++ k) hk W h.m1 (perm_out (fun _ => rfl) h.p1 hm) (by rw [h.p1.length_eq, List.length_map]; exact hl)).mono ?_
    rintro e w' ⟨rfl, b3, c3, r3, g1, g2, g3, g4⟩
    rw [if_neg hm, addK, if_neg hm]
    have z1 := h.m2.hd.lt
    have z2 := h.m2.row.lt
    have z3 := h.be.size
    obtain ⟨n1, n2, n3, n4⟩ := h.ne
    obtain ⟨l1, l2, l3, l4⟩ := h.lo
    exact ⟨rfl, b3, c3, r3, b2, c2, r2, g1, h.m2.kept g3 (by omega) (by omega), g2.trans (h.p1.cons _), h.p2, ⟨n1, n2, by rcases g4 with e | e <;> omega, by rcases g4 with e | e <;> omega⟩, ⟨l1, by rcases g4 with e | e <;> omega, l3, l4⟩, h.be.trans (g3.below h.be.size (fun k e => by rcases e with e | e <;> omega))⟩
theorem Two.put2 (h : Two w W q1 q2 D1 D2) (k : ByteArray) (hk : k.size ≤ 281474976710656) (hl : D2.length < 4096) :
    Calls Try.prog 18 #[.pointer (some ⟨q2, 0, none⟩), .string k, .agg #[.string k, .int .i64 k.size, .int .i64 7]] W fun e w' => e = .returned (.int .i64 (if k ∈ D2 then 121 else 0)) ∧ Two w w' q1 q2 D1 (addK D2 k) := by
  obtain ⟨b1, c1, r1, b2, c2, r2, h⟩ := h
  by_cases hm : k ∈ D2
  · refine (putT_dup q2 b2 4096 c2 r2 k (k, (k.size : Int), 7) (k, (k.size : Int), 7) (by omega) W h.m2 (perm_in h.p2 hm)).mono ?_
    rintro e w' ⟨rfl, hb⟩
    rw [if_pos hm, addK, if_pos hm]
    exact ⟨rfl, Two.below ⟨b1, c1, r1, b2, c2, r2, h⟩ hb⟩
  · refine (putT_ok q2 b2 4096 c2 r2 k (k, (k.size : Int), 7) hk W h.m2 (perm_out (fun _ => rfl) h.p2 hm) (by rw [h.p2.length_eq, List.length_map]; exact hl)).mono ?_
    rintro e w' ⟨rfl, b3, c3, r3, g1, g2, g3, g4⟩
    rw [if_neg hm, addK, if_neg hm]
    have z1 := h.m1.hd.lt
    have z2 := h.m1.row.lt
    have z3 := h.be.size
    obtain ⟨n1, n2, n3, n4⟩ := h.ne
    obtain ⟨l1, l2, l3, l4⟩ := h.lo
    exact ⟨rfl, b1, c1, r1, b3, c3, r3, h.m1.kept g3 (by omega) (by omega), g1, h.p1, g2.trans (h.p2.cons _), ⟨n1, by rcases g4 with e | e <;> omega, n3, by rcases g4 with e | e <;> omega⟩, ⟨l1, l2, l3, by rcases g4 with e | e <;> omega⟩, h.be.trans (g3.below h.be.size (fun k e => by rcases e with e | e <;> omega))⟩
theorem Two.drop1 (h : Two w W q1 q2 D1 D2) (k : ByteArray) (hk : k.size ≤ 281474976710656) :
    Calls Try.prog 19 #[.pointer (some ⟨q1, 0, none⟩), .string k] W fun e w' => e = .returned (.tuple #[.string (if k ∈ D1 then under ++ k else ⟨#[]⟩), .bool (decide (k ∈ D1))]) ∧ Two w w' q1 q2 (D1.erase k) D2 := by
  obtain ⟨b1, c1, r1, b2, c2, r2, h⟩ := h
  by_cases hm : k ∈ D1
  · refine (dropS_some q1 b1 4096 c1 r1 k (under ++ k) (by omega) W h.m1 (perm_in h.p1 hm)).mono ?_
    rintro e w' ⟨rfl, r3, g1, g2, g3⟩
    rw [if_pos hm, decide_eq_true hm]
    obtain ⟨n1, n2, n3, n4⟩ := h.ne
    obtain ⟨l1, l2, l3, l4⟩ := h.lo
    exact ⟨rfl, b1, c1, r3, b2, c2, r2, g1, h.m2.kept g3 (by omega) (by omega), perm_erase h.p1 hm g2, h.p2, h.ne, h.lo, h.be.trans (g3.below h.be.size (fun k e => by rcases e with e | e <;> omega))⟩
  · refine (dropS_none q1 b1 4096 c1 r1 k (by omega) W h.m1 (perm_out (fun _ => rfl) h.p1 hm)).mono ?_
    rintro e w' ⟨rfl, hb⟩
    rw [if_neg hm, decide_eq_false hm, List.erase_of_not_mem hm]
    exact ⟨rfl, Two.below ⟨b1, c1, r1, b2, c2, r2, h⟩ hb⟩
theorem Two.drop2 (h : Two w W q1 q2 D1 D2) (k : ByteArray) (hk : k.size ≤ 281474976710656) :
    Calls Try.prog 20 #[.pointer (some ⟨q2, 0, none⟩), .string k] W fun e w' => e = .returned (.tuple #[.agg #[.string (if k ∈ D2 then k else ⟨#[]⟩), .int .i64 (if k ∈ D2 then (k.size : Int) else 0), .int .i64 (if k ∈ D2 then 7 else 0)], .bool (decide (k ∈ D2))]) ∧ Two w w' q1 q2 D1 (D2.erase k) := by
  obtain ⟨b1, c1, r1, b2, c2, r2, h⟩ := h
  by_cases hm : k ∈ D2
  · refine (dropT_some q2 b2 4096 c2 r2 k (k, (k.size : Int), 7) (by omega) W h.m2 (perm_in h.p2 hm)).mono ?_
    rintro e w' ⟨rfl, r3, g1, g2, g3⟩
    rw [if_pos hm, if_pos hm, if_pos hm, decide_eq_true hm]
    obtain ⟨n1, n2, n3, n4⟩ := h.ne
    obtain ⟨l1, l2, l3, l4⟩ := h.lo
    exact ⟨rfl, b1, c1, r1, b2, c2, r3, h.m1.kept g3 (by omega) (by omega), g1, h.p1, perm_erase h.p2 hm g2, h.ne, h.lo, h.be.trans (g3.below h.be.size (fun k e => by rcases e with e | e <;> omega))⟩
  · refine (dropT_none q2 b2 4096 c2 r2 k (by omega) W h.m2 (perm_out (fun _ => rfl) h.p2 hm)).mono ?_
    rintro e w' ⟨rfl, hb⟩
    rw [if_neg hm, if_neg hm, if_neg hm, decide_eq_false hm, List.erase_of_not_mem hm]
    exact ⟨rfl, Two.below ⟨b1, c1, r1, b2, c2, r2, h⟩ hb⟩
theorem Two.get1 (h : Two w W q1 q2 D1 D2) (k : ByteArray) (hk : k.size ≤ 281474976710656) :
    Calls Try.prog 21 #[.pointer (some ⟨q1, 0, none⟩), .string k] W fun e w' => e = .returned (.tuple #[.string (if k ∈ D1 then under ++ k else ⟨#[]⟩), .bool (decide (k ∈ D1))]) ∧ Below W.heap.size W w' := by
  obtain ⟨b1, c1, r1, b2, c2, r2, h⟩ := h
  by_cases hm : k ∈ D1
  · rw [if_pos hm, decide_eq_true hm]
    exact getS_some q1 b1 4096 c1 r1 k (under ++ k) (by omega) W h.m1 (perm_in h.p1 hm)
  · rw [if_neg hm, decide_eq_false hm]
    exact getS_none q1 b1 4096 c1 r1 k (by omega) W h.m1 (perm_out (fun _ => rfl) h.p1 hm)
theorem Two.get2 (h : Two w W q1 q2 D1 D2) (k : ByteArray) (hk : k.size ≤ 281474976710656) :
    Calls Try.prog 22 #[.pointer (some ⟨q2, 0, none⟩), .string k] W fun e w' => e = .returned (.tuple #[.agg #[.string (if k ∈ D2 then k else ⟨#[]⟩), .int .i64 (if k ∈ D2 then (k.size : Int) else 0), .int .i64 (if k ∈ D2 then 7 else 0)], .bool (decide (k ∈ D2))]) ∧ Below W.heap.size W w' := by
  obtain ⟨b1, c1, r1, b2, c2, r2, h⟩ := h
  by_cases hm : k ∈ D2
  · rw [if_pos hm, if_pos hm, if_pos hm, decide_eq_true hm]
    exact getT_some q2 b2 4096 c2 r2 k (k, (k.size : Int), 7) (by omega) W h.m2 (perm_in h.p2 hm)
  · rw [if_neg hm, if_neg hm, if_neg hm, decide_eq_false hm]
    exact getT_none q2 b2 4096 c2 r2 k (by omega) W h.m2 (perm_out (fun _ => rfl) h.p2 hm)
theorem Two.len1 (h : Two w W q1 q2 D1 D2) : Calls Try.prog 25 #[.pointer (some ⟨q1, 0, none⟩)] W fun e w' => e = .returned (.int .i64 D1.length) ∧ w' = W := by
  obtain ⟨b1, c1, r1, b2, c2, r2, h⟩ := h
  have := lenS_any q1 b1 4096 c1 r1 W h.m1
  rw [h.p1.length_eq, List.length_map] at this
  exact this
theorem Two.len2 (h : Two w W q1 q2 D1 D2) : Calls Try.prog 26 #[.pointer (some ⟨q2, 0, none⟩)] W fun e w' => e = .returned (.int .i64 D2.length) ∧ w' = W := by
  obtain ⟨b1, c1, r1, b2, c2, r2, h⟩ := h
  have := lenT_any q2 b2 4096 c2 r2 W h.m2
  rw [h.p2.length_eq, List.length_map] at this
  exact this
theorem two_new (w W : World) (hw : Below w.heap.size w W) : Calls Try.prog 15 #[.int .i64 4096] W fun e w1 => ∃ q1, e = .returned (.tuple #[.pointer (some ⟨q1, 0, none⟩), .int .i64 0]) ∧ Hid (Below w.heap.size w w1 ∧ ∀ V, Below w1.heap.size w1 V → Calls Try.prog 16 #[.int .i64 4096] V fun e w2 => ∃ q2, e = .returned (.tuple #[.pointer (some ⟨q2, 0, none⟩), .int .i64 0]) ∧ Two w w2 q1 q2 [] []) := by
  refine (newS_ok 4096 (by omega) (by omega) W).mono ?_
  rintro e w1 ⟨q1, b1, r1, c1, rfl, h1, h2, h3, h4, h5⟩
  refine ⟨q1, rfl, bst hw h3, fun V hV => ?_⟩
  refine (newT_ok 4096 (by omega) (by omega) V).mono ?_
  rintro e w2 ⟨q2, b2, r2, c2, rfl, g1, g2, g3, g4, g5⟩
  have z1 := hw.size
  have z2 := hV.size
  have z3 := h1.hd.lt
  have z4 := h1.row.lt
  have z5 := h3.size
  exact ⟨q2, rfl, b1, c1, r1, b2, c2, r2, (h1.below hV).below g3, g1, by rw [h2]; exact .refl _, by rw [g2]; exact .refl _, ⟨by omega, by omega, by omega, by omega⟩, ⟨by omega, by omega, by omega, by omega⟩, bst (bst (bst hw h3) hV) g3⟩
end
end Go.Proofs.Ytkcjcidndckgbaa
