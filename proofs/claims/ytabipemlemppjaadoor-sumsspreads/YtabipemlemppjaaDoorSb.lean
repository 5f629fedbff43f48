/- Package sums' Slots: a bad number of slots; no texts; texts in a row of our own. -/
import Derived.Test.YtabipemlemppjaaDoorOi
import Derived.Test.YtabipemlemppjaaDoorLe
import Derived.Deep.AppendLies
import Derived.BigQuiet
namespace Go.Proofs.YtabipemlemppjaaDoor
open Go.RowKit Go.Maps
set_option linter.unusedVariables false
set_option linter.unusedSimpArgs false

set_option maxHeartbeats 2000000 in
theorem slots_arg (seed : Nat) (m : Int) (hm : m < 1) (v : Value) (w : World) :
    Calls Tryd.prog 27 #[.int .u32 seed, .int .i64 m, v] w fun e w' => e = .returned (.tuple #[.slice none 0 0, .int .i64 1]) ∧ w' = w := by
  go_enter Tryd.func27, Tryd.ntmps27
  go_wp2_with fail
  go_ret2
  exact ⟨rfl, rfl⟩
set_option maxHeartbeats 8000000 in
set_option maxRecDepth 100000 in
theorem slots_nil (seed N : Nat) (hN0 : 0 < N) (hN : N < 9223372036854775808) (w : World) :
    Calls Tryd.prog 27 #[.int .u32 seed, .int .i64 N, .slice none 0 0] w fun e w' => Below w.heap.size w w' ∧ ∃ v, e = .returned (.tuple #[v, .int .i64 0]) ∧ w'.ownsRow w.heap.size 3 1 v 0 [] := by
  have hmm := @run_makeMap Tryd.prog
  obtain ⟨i0, hi, hz0, hz1, hz2⟩ := info_parts info3
  obtain ⟨W, hWd⟩ : ∃ W, W = ((w.alloc (.map #[] 0)).alloc (.map #[] 0)).alloc (.cells #[.int .i64 (N : Int), .map (some (w.heap.size + 1))] 66) := ⟨_, rfl⟩
  have hsz : W.heap.size = w.heap.size + 3 := by rw [hWd]; simp
  obtain ⟨W5, hmk, hrow, hgr⟩ := run_make_own (P := Tryd.prog) W (w.heap.size + 3) 42 3 i0 (.int .i64 0) 1 Tryd.underlying42 hi hz0 hz1 .i64 .i64 0 (by rw [hz2]; omega) (by unfold maxLen; omega) (by omega)
  have hBW : Below w.heap.size w W := by rw [hWd]; exact (((Below.refl _ _).alloc (by simp) _).alloc (by simp) _).alloc (by simp; omega) _
  have hB5 : Below w.heap.size w W5 := hBW.grown hgr (by omega) (fun k hk => by cases hk)
  rw [hsz] at hmk hrow
  rw [hWd, show ((0 : Nat) : Int) = 0 from rfl] at hmk
  have hN1 : ¬ ((N : Int) < 1) := by omega
  have HO := row_base hrow (show w.heap.size ≤ w.heap.size + 3 by omega)
  have HO' : Hid (W5.ownsRow w.heap.size 3 1 (.slice (some ⟨w.heap.size + 3, 0, none⟩) 0 0) 0 []) := HO
  clear hsz hgr hBW hWd hrow HO
  go_enter Tryd.func27, Tryd.ntmps27
  go_wp2_with fail
  refine wp_loop_rounds 1 ?_
  rw [rounds_succ]
  go_wp2_with fail
  go_ret2
  exact ⟨hB5, _, rfl, HO'.out⟩
theorem strs_row {w : World} {g n k : Nat} {cur : Array Value} {l : List ByteArray} {ty : TypeId} (hcur : w.heap[g]? = some (.cells cur ty)) (hn : n = l.length) (htk : cur.toList.take (n * 1) = strV l) : Strs w g 0 l := fun i hi => by
  have h1 : (cur.toList.take (n * 1))[i]? = some (.string l[i]) := by rw [htk, strV, List.getElem?_map, List.getElem?_eq_getElem hi]; rfl
  have h2 : cur[i]? = some (.string l[i]) := by
    rw [List.getElem?_take_of_lt (by omega)] at h1
    simpa using h1
  simp [World.cell?, hcur, h2]
/-- Slots of texts that lie in a row of our own. -/
theorem slots_own (seed N : Nat) (hseed : seed < 4294967296) (hN0 : 0 < N) (hN : N < 9223372036854775808) (B : Nat) (v : Value) (T : List ByteArray) (hl : T.length ≤ 100000) (hls : ∀ s ∈ T, s.size ≤ 9223372036854775807) (w : World) (h : w.ownsRow B 9 1 v T.length (strV T)) :
    Calls Tryd.prog 27 #[.int .u32 seed, .int .i64 N, v] w fun e w' => Below w.heap.size w w' ∧ SlEnd (slF seed N (T.map fun s => s.data.toList) [] []) N T.length w.heap.size e w' := by
  obtain ⟨_, (⟨rfl, h0⟩ | ⟨g, kc, cur, rfl, hbg, hcur, hle, hmx, hcs, htk⟩)⟩ := h
  · have hT : T = [] := List.length_eq_zero_iff.1 h0
    subst hT
    refine (slots_nil seed N hN0 hN w).mono ?_
    rintro e w' ⟨hb, v, rfl, ho⟩
    exact ⟨hb, v, rfl, ho, rfl, by simp⟩
  · exact slots_some seed N hseed hN0 hN g 0 kc T hl hls w (strs_row (k := 0) hcur rfl htk) (Array.getElem?_eq_some_iff.1 hcur).1
theorem row_below {w w' : World} {B e size n : Nat} {v : Value} {xs : List Value} (h : w.ownsRow B e size v n xs) (hb : Below w.heap.size w w') : w'.ownsRow B e size v n xs := by
  refine ⟨h.1, ?_⟩
  rcases h.2 with hn | ⟨g, cap, cur, rfl, h1, hg, rest⟩
  · exact .inl hn
  · refine .inr ⟨g, cap, cur, rfl, h1, ?_, rest⟩
    rw [hb.block g (Array.getElem?_eq_some_iff.1 hg).1]; exact hg
/-- Numbers in memory. -/
def Ints (w : World) (g : Nat) (a : List Nat) : Prop := g < w.heap.size ∧ ∀ i x : Nat, a[i]? = some x → w.cell? ⟨g, i, none⟩ = some (.int .i64 (x : Int))
theorem Ints.below {w w' : World} {g : Nat} {a : List Nat} (h : Ints w g a) (hb : Below w.heap.size w w') : Ints w' g a :=
  ⟨Nat.lt_of_lt_of_le h.1 hb.size, fun i x hx => by rw [hb.cell (p := ⟨g, i, none⟩) h.1]; exact h.2 i x hx⟩
theorem ints_of_own {w : World} {B : Nat} {v : Value} {a : List Nat} (h : w.ownsRow B 3 1 v a.length (intsV a)) (hp : 0 < a.length) : ∃ g cap, v = .slice (some ⟨g, 0, none⟩) a.length cap ∧ Ints w g a := by
  rcases h.2 with ⟨rfl, h0⟩ | ⟨g, cap, cur, rfl, h1, hg, rest⟩
  · omega
  · refine ⟨g, cap, rfl, (Array.getElem?_eq_some_iff.1 hg).1, fun i x hx => ?_⟩
    have := World.ownsRow.cells h (g := g) rfl i (.int .i64 (x : Int)) (by rw [intsV, List.getElem?_map, hx]; rfl)
    rw [show (⟨g, 0, none⟩ : Addr).add i = ⟨g, i, none⟩ by unfold Addr.add; split <;> simp_all] at this
    exact this
end Go.Proofs.YtabipemlemppjaaDoor
