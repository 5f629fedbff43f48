/- Package sums' Slots: a bad number of slots; no texts; texts in a row of our own. -/
import Derived.Test.YtabipemlemppjabDoorOi
import Derived.Deep.AppendLies
namespace Go.Proofs.YtabipemlemppjabDoor
open Go.RowKit Go.Maps
set_option linter.unusedVariables false
set_option linter.unusedSimpArgs false

set_option maxHeartbeats 2000000 in
theorem slots_arg (seed : Nat) (m : Int) (hm : m < 1) (v : Value) (w : World) :
    Calls Tryd.prog 10 #[.int .u32 seed, .int .i64 m, v] w fun e w' => e = .returned (.tuple #[.slice none 0 0, .int .i64 1]) ∧ w' = w := by
  go_enter Tryd.func10, Tryd.ntmps10
  go_wp2_with fail
  go_ret2
  exact ⟨rfl, rfl⟩
set_option maxHeartbeats 8000000 in
set_option maxRecDepth 100000 in
theorem slots_nil (seed N : Nat) (hN0 : 0 < N) (hN : N < 9223372036854775808) (w : World) :
    Calls Tryd.prog 10 #[.int .u32 seed, .int .i64 N, .slice none 0 0] w fun e w' => Below w.heap.size w w' ∧ ∃ v, e = .returned (.tuple #[v, .int .i64 0]) ∧ w'.ownsRow w.heap.size 3 1 v 0 [] := by
  have hmm := @run_makeMap Tryd.prog
  obtain ⟨i0, hi, hz0, hz1, hz2⟩ := info_parts info3
  obtain ⟨W, hWd⟩ : ∃ W, W = ((w.alloc (.map #[] 0)).alloc (.map #[] 0)).alloc (.cells #[.int .i64 (N : Int), .map (some (w.heap.size + 1))] 46) := ⟨_, rfl⟩
  have hsz : W.heap.size = w.heap.size + 3 := by rw [hWd]; simp
  obtain ⟨W5, hmk, hrow, hgr⟩ := run_make_own (P := Tryd.prog) W (w.heap.size + 3) 35 3 i0 (.int .i64 0) 1 Tryd.underlying35 hi hz0 hz1 .i64 .i64 0 (by rw [hz2]; omega) (by unfold maxLen; omega) (by omega)
  have hBW : Below w.heap.size w W := by rw [hWd]; exact (((Below.refl _ _).alloc (by simp) _).alloc (by simp) _).alloc (by simp; omega) _
  have hB5 : Below w.heap.size w W5 := hBW.grown hgr (by omega) (fun k hk => by cases hk)
  rw [hsz] at hmk hrow
  rw [hWd, show ((0 : Nat) : Int) = 0 from rfl] at hmk
  have hN1 : ¬ ((N : Int) < 1) := by omega
  have HO := row_base hrow (show w.heap.size ≤ w.heap.size + 3 by omega)
  have HO' : Hid (W5.ownsRow w.heap.size 3 1 (.slice (some ⟨w.heap.size + 3, 0, none⟩) 0 0) 0 []) := HO
  clear hsz hgr hBW hWd hrow HO
  go_enter Tryd.func10, Tryd.ntmps10
  go_wp2_with fail
  refine wp_loop_rounds 1 ?_
  rw [rounds_succ]
  go_wp2_with fail
  go_ret2
  exact ⟨hB5, _, rfl, HO'.out⟩
theorem info9 : (Tryd.prog.info? 9).map (fun i => (i.zero, i.size, i.bytes)) = some (some (.string ⟨#[]⟩), 1, 16) := by kernel_rfl
def strV (l : List ByteArray) : List Value := l.map Value.string
theorem strs_row {w : World} {g n k : Nat} {cur : Array Value} {l : List ByteArray} {ty : TypeId} (hcur : w.heap[g]? = some (.cells cur ty)) (hn : n = l.length) (htk : cur.toList.take (n * 1) = strV l) : Strs w g 0 l := fun i hi => by
  have h1 : (cur.toList.take (n * 1))[i]? = some (.string l[i]) := by rw [htk, strV, List.getElem?_map, List.getElem?_eq_getElem hi]; rfl
  have h2 : cur[i]? = some (.string l[i]) := by
    rw [List.getElem?_take_of_lt (by omega)] at h1
    simpa using h1
  simp [World.cell?, hcur, h2]
/-- Slots of texts that lie in a row of our own. -/
theorem slots_own (seed N : Nat) (hseed : seed < 4294967296) (hN0 : 0 < N) (hN : N < 9223372036854775808) (B : Nat) (v : Value) (T : List ByteArray) (hl : T.length ≤ 100000) (hls : ∀ s ∈ T, s.size ≤ 9223372036854775807) (w : World) (h : w.ownsRow B 9 1 v T.length (strV T)) :
    Calls Tryd.prog 10 #[.int .u32 seed, .int .i64 N, v] w fun e w' => Below w.heap.size w w' ∧ SlEnd (slF seed N (T.map fun s => s.data.toList) [] []) N T.length w.heap.size e w' := by
  obtain ⟨_, (⟨rfl, h0⟩ | ⟨g, kc, cur, rfl, hbg, hcur, hle, hmx, hcs, htk⟩)⟩ := h
  · have hT : T = [] := List.length_eq_zero_iff.1 h0
    subst hT
    refine (slots_nil seed N hN0 hN w).mono ?_
    rintro e w' ⟨hb, v, rfl, ho⟩
    exact ⟨hb, v, rfl, ho, rfl, by simp⟩
  · exact slots_some seed N hseed hN0 hN g 0 kc T hl hls w (strs_row (k := 0) hcur rfl htk) (Array.getElem?_eq_some_iff.1 hcur).1
/-- Two rows of texts, made side by side. -/
def TwoRows (w wr : World) (T : List ByteArray) (p : Nat) (tv rv : Value) : Prop :=
  wr.ownsRow w.heap.size 9 1 tv p (strV (T.take p)) ∧ wr.ownsRow w.heap.size 9 1 rv p (strV (T.reverse.take p)) ∧ (∀ g, tv.ownBlock = some g → rv.ownBlock ≠ some g) ∧ Below w.heap.size w wr
theorem strV_snoc (l : List ByteArray) (p : Nat) (s : ByteArray) (h : l[p]? = some s) : strV (l.take (p + 1)) = strV (l.take p) ++ [.string s] := by
  unfold strV
  rw [List.take_add_one, h, List.map_append]; rfl
theorem TwoRows.step1 {w wr : World} {T : List ByteArray} {p : Nat} {tv rv : Value} (h : TwoRows w wr T p tv rv) (s : ByteArray) {w6 : World} {ty : TypeId}
    (hg : (wr.alloc (.cells #[.string s] ty)).grownBy w6 tv.ownBlock) : w6.ownsRow w.heap.size 9 1 rv p (strV (T.reverse.take p)) := by
  refine World.ownsRow.kept (h.2.1.alloc _) hg ?_
  cases hr : rv.ownBlock with
  | none => exact .inl rfl
  | some k => exact .inr fun e => h.2.2.1 k e.symm hr
theorem TwoRows.step {w wr : World} {T : List ByteArray} {p : Nat} {tv rv : Value} (h : TwoRows w wr T p tv rv) (s s2 : ByteArray) {w6 w8 : World} {ty : TypeId} {g c g2 c2 : Nat} (hs : T[p]? = some s) (hs2 : T.reverse[p]? = some s2)
    (h6 : w6.ownsRow w.heap.size 9 1 (.slice (some ⟨g, 0, none⟩) (p + 1) c) (p + 1) (strV (T.take p) ++ [.string s])) (hg : (wr.alloc (.cells #[.string s] ty)).grownBy w6 tv.ownBlock) (hgg : tv.ownBlock = some g ∨ g = wr.heap.size + 1) (hlt : g < w6.heap.size)
    (h8 : w8.ownsRow w.heap.size 9 1 (.slice (some ⟨g2, 0, none⟩) (p + 1) c2) (p + 1) (strV (T.reverse.take p) ++ [.string s2])) (hg2 : (w6.alloc (.cells #[.string s2] ty)).grownBy w8 rv.ownBlock) (hgg2 : rv.ownBlock = some g2 ∨ g2 = w6.heap.size + 1) :
    TwoRows w w8 T (p + 1) (.slice (some ⟨g, 0, none⟩) (p + 1) c) (.slice (some ⟨g2, 0, none⟩) (p + 1) c2) := by
  have hne : rv.ownBlock ≠ some g := fun e => by
    rcases hgg with e1 | e1
    · exact h.2.2.1 g e1 e
    · have := (h.2.1.lt g e).2; omega
  have hB6 : Below w.heap.size w w6 := Below.grown (h.2.2.2.alloc h.2.2.2.size _) hg (by have := h.2.2.2.size; simp; omega) fun k hk => (h.1.lt k hk).1
  refine ⟨?_, ?_, ?_, ?_⟩
  · rw [strV_snoc _ _ _ hs]
    exact World.ownsRow.kept (h6.alloc _) hg2 (.inr fun e => hne e.symm)
  · rw [strV_snoc _ _ _ hs2]; exact h8
  · intro k hk e
    simp [Value.ownBlock] at hk e
    subst hk
    rcases hgg2 with e1 | e1
    · rw [e] at e1; exact hne e1
    · omega
  · exact Below.grown (hB6.alloc hB6.size _) hg2 (by have := hB6.size; simp; omega) fun k hk => (h.2.1.lt k hk).1
end Go.Proofs.YtabipemlemppjabDoor
