/- Maps of the call's own, as functions. -/
import Derived.Test.YtabipemlemppjaaDoorSp
import Derived.StringKeys
namespace Go.Proofs.YtabipemlemppjaaDoor
open Go.RowKit Go.Maps
set_option linter.unusedVariables false
set_option linter.unusedSimpArgs false

/-- A map from ints to ints, of n keys. -/
def MapI (w : World) (b n : Nat) (f : Int → Option Int) : Prop :=
  ∃ D : DataW Unit, OwnI w b n D ∧ size D = n ∧ (∀ k, has D (.int .i64 k) = (f k).isSome) ∧ ∀ k c z, f k = some c → D.atKey (.int .i64 k) z = .lit (.int .i64 c)
/-- A map from texts to ints, of m keys. -/
def MapS (w : World) (b m : Nat) (f : List UInt8 → Option Int) : Prop :=
  ∃ D : DataW Unit, OwnS w b m D ∧ size D = m ∧ (∀ k, has D (.string k) = (f k).isSome) ∧ ∀ k c z, f k = some c → D.atKey (.string k) z = .lit (.int .i64 c)
theorem MapI.new (w : World) : MapI (w.alloc (.map #[] 0)) w.heap.size 0 (fun _ => none) :=
  ⟨.map [], World.ownsMap_made w _ _ _, rfl, fun _ => rfl, fun _ _ _ h => by cases h⟩
theorem MapS.new (w : World) : MapS (w.alloc (.map #[] 0)) w.heap.size 0 (fun _ => none) :=
  ⟨.map [], World.ownsMap_made w _ _ _, rfl, fun _ => rfl, fun _ _ _ h => by cases h⟩
theorem MapI.lt {w : World} {b n : Nat} {f : Int → Option Int} (h : MapI w b n f) : b < w.heap.size := by obtain ⟨D, h, _⟩ := h; exact h.lt
theorem MapS.lt {w : World} {b m : Nat} {f : List UInt8 → Option Int} (h : MapS w b m f) : b < w.heap.size := by obtain ⟨D, h, _⟩ := h; exact h.lt
theorem MapI.kept {w w' : World} {b n : Nat} {f : Int → Option Int} {row : Option Nat} (h : MapI w b n f) (hg : w.grownBy w' row) (hne : some b ≠ row) : MapI w' b n f := by
  obtain ⟨D, h, h1⟩ := h; exact ⟨D, h.kept hg hne, h1⟩
theorem MapS.kept {w w' : World} {b m : Nat} {f : List UInt8 → Option Int} {row : Option Nat} (h : MapS w b m f) (hg : w.grownBy w' row) (hne : some b ≠ row) : MapS w' b m f := by
  obtain ⟨D, h, h1⟩ := h; exact ⟨D, h.kept hg hne, h1⟩
theorem MapI.alloc {w : World} {b n : Nat} {f : Int → Option Int} (h : MapI w b n f) (o : Obj) : MapI (w.alloc o) b n f := by
  obtain ⟨D, h, h1⟩ := h; exact ⟨D, h.alloc o, h1⟩
theorem MapS.alloc {w : World} {b m : Nat} {f : List UInt8 → Option Int} (h : MapS w b m f) (o : Obj) : MapS (w.alloc o) b m f := by
  obtain ⟨D, h, h1⟩ := h; exact ⟨D, h.alloc o, h1⟩
theorem MapI.drew {w : World} {b n : Nat} {f : Int → Option Int} (h : MapI w b n f) : MapI w.drew b n f := h
theorem MapS.drew {w : World} {b m : Nat} {f : List UInt8 → Option Int} (h : MapS w b m f) : MapS w.drew b m f := h
theorem look_val {f : Option Int} {D : DataW Unit} {kl : Lit} {v : Value} {ps : List MemPlace} (hh : has D kl = f.isSome) (ha : ∀ c z, f = some c → D.atKey kl z = .lit (.int .i64 c))
    (hv : plainElem (H := Unit) Tryd.prog 3 v = some (D.atKey kl (.lit (.int .i64 0)), ps)) : v = .int .i64 (f.getD 0) := by
  obtain ⟨c, rfl, hc, _⟩ := plainElem_int_inv Tryd.underlying3 hv
  have hc1 := congrArg Prod.fst hc
  simp only at hc1
  cases f with
  | none =>
    rw [atKey_of_not_has (by rw [hh]; rfl)] at hc1
    simp at hc1
    rw [← hc1]; rfl
  | some d =>
    rw [ha d _ rfl] at hc1
    simp at hc1
    rw [← hc1]; rfl
theorem tight {w : World} {k b n : Nat} {R : Value → Option (DataW Unit × List MemPlace)} {D : DataW Unit} (h : w.ownsMap Tryd.prog k R b n D) : w.ownsMap Tryd.prog k R b (size D) D := by
  obtain ⟨es, clock, hb, F, hs, rfl⟩ := h
  exact ⟨es, clock, hb, F, by simp [Maps.size, length_sorted], rfl⟩
theorem MapI.look {w : World} {b n : Nat} {f : Int → Option Int} (h : MapI w b n f) {k : Int} (hk : (Lit.int .i64 k).wf = true) :
    (Instr.lookup 64 (.map (some b)) (.int .i64 k) true).run Tryd.prog w = .ok (.tuple #[.int .i64 ((f k).getD 0), .bool (f k).isSome]) w := by
  obtain ⟨D, h, _, h1, h2⟩ := h
  obtain ⟨v, ps, hrun, hv⟩ := h.look_ok (t := 64) (e := 3) law3 Tryd.underlying64 (zero3 w) (plainElem_int Tryd.underlying3 (a := 0) (by decide)) (keyOf_int_mk Tryd.underlying3 hk)
  rw [hrun, look_val (f := f k) (h1 k) (fun c z hc => h2 k c z hc) hv, h1 k]
theorem MapS.look {w : World} {b m : Nat} {f : List UInt8 → Option Int} (h : MapS w b m f) {s : ByteArray} (hs : s.size ≤ maxLen) :
    (Instr.lookup 63 (.map (some b)) (.string s) true).run Tryd.prog w = .ok (.tuple #[.int .i64 ((f s.data.toList).getD 0), .bool (f s.data.toList).isSome]) w := by
  obtain ⟨D, h, _, h1, h2⟩ := h
  obtain ⟨v, ps, hrun, hv⟩ := h.look_ok (t := 63) (e := 3) law9 Tryd.underlying63 (zero3 w) (plainElem_int Tryd.underlying3 (a := 0) (by decide)) (Go.WideMaps.keyOf_string_mk Tryd.underlying9 hs)
  rw [hrun, look_val (f := f s.data.toList) (h1 _) (fun c z hc => h2 _ c z hc) hv, h1]
theorem MapI.put {w : World} {b n : Nat} {f : Int → Option Int} (h : MapI w b n f) (hn : n < maxLen) {k c : Int} (hk : (Lit.int .i64 k).wf = true) (hc : (Lit.int .i64 c).wf = true) :
    ∃ w', (Instr.mapUpdate 64 (.map (some b)) (.int .i64 k) (.int .i64 c)).run Tryd.prog w = .ok () w' ∧ MapI w' b (if (f k).isSome = true then n else n + 1) (fun x => if x = k then some c else f x) ∧ w.grownBy w' (some b) := by
  obtain ⟨D, h, hm, h1, h2⟩ := h
  obtain ⟨w', hrun, hown, hg⟩ := h.update (t := 64) (e := 3) law3 Tryd.underlying64 hn (keyOf_int_mk Tryd.underlying3 hk) (plainElem_int Tryd.underlying3 hc)
  have hsz := size_put (h.tidy law3) (k := .int .i64 k) (DataW.lit (.int .i64 c))
  rw [h1, hm] at hsz
  refine ⟨w', hrun, ⟨_, ?_, hsz, fun x => ?_, fun x d z hx => ?_⟩, hg⟩
  · rw [← hsz]; exact tight hown
  · dsimp only
    by_cases e : x = k
    · subst e; rw [if_pos rfl, has_put_same h.isMap (by simp [WideAt.IsKeyLit])]; rfl
    · rw [if_neg e, has_put_other (by simpa using e), h1]
  · dsimp only at hx
    by_cases e : x = k
    · subst e; rw [if_pos rfl] at hx; injection hx with hx; subst hx; exact atKey_put_same h.isMap (by simp [WideAt.IsKeyLit]) _ _
    · rw [if_neg e] at hx; rw [atKey_put_other (by simpa using e)]; exact h2 x d z hx
theorem MapS.put {w : World} {b m : Nat} {f : List UInt8 → Option Int} (h : MapS w b m f) (hn : m < maxLen) {s : ByteArray} {c : Int} (hs : s.size ≤ maxLen) (hc : (Lit.int .i64 c).wf = true) (hf : f s.data.toList = none) :
    ∃ w', (Instr.mapUpdate 63 (.map (some b)) (.string s) (.int .i64 c)).run Tryd.prog w = .ok () w' ∧ MapS w' b (m + 1) (fun x => if x = s.data.toList then some c else f x) ∧ w.grownBy w' (some b) := by
  obtain ⟨D, h, hm, h1, h2⟩ := h
  obtain ⟨w', hrun, hown, hg⟩ := h.update (t := 63) (e := 3) law9 Tryd.underlying63 hn (Go.WideMaps.keyOf_string_mk Tryd.underlying9 hs) (plainElem_int Tryd.underlying3 hc)
  have hsz : size (D.put (.string s.data.toList) (DataW.lit (.int .i64 c))) = m + 1 := by rw [size_put (h.tidy law9), h1, hf, hm]; rfl
  refine ⟨w', hrun, ⟨_, hown, hsz, fun x => ?_, fun x d z hx => ?_⟩, hg⟩
  · dsimp only
    by_cases e : x = s.data.toList
    · subst e; rw [if_pos rfl, has_put_same h.isMap (by simp [WideAt.IsKeyLit])]; rfl
    · rw [if_neg e, has_put_other (by simpa using e), h1]
  · dsimp only at hx
    by_cases e : x = s.data.toList
    · subst e; rw [if_pos rfl] at hx; injection hx with hx; subst hx; exact atKey_put_same h.isMap (by simp [WideAt.IsKeyLit]) _ _
    · rw [if_neg e] at hx; rw [atKey_put_other (by simpa using e)]; exact h2 x d z hx
theorem MapS.len {w : World} {b m : Nat} {f : List UInt8 → Option Int} (h : MapS w b m f) (ty : TypeId) : (Builtin.len_ #[63] ty #[.map (some b)]).run Tryd.prog w = .ok (.int .i64 (m : Int)) w := by
  obtain ⟨D, h, hm, _⟩ := h
  rw [h.len (t := 63) (e := 3) Tryd.underlying63 ty, hm]
end Go.Proofs.YtabipemlemppjaaDoor
