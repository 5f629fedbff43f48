/- The document's Slots at a bad number of slots and at no texts; both Slots at a slice of texts. -/
import Derived.Test.YtabipemlemppjaaDoorSu
namespace Go.Proofs.YtabipemlemppjaaDoor
open Go.RowKit Go.Maps
set_option linter.unusedVariables false
set_option linter.unusedSimpArgs false

set_option maxHeartbeats 2000000 in
theorem rslots_arg (seed : Nat) (m : Int) (hm : m < 1) (v : Value) (w : World) :
    Calls Tryd.prog 26 #[.int .u32 seed, .int .i64 m, v] w fun e w' => e = .returned (.tuple #[.slice none 0 0, .int .i64 1]) ∧ w' = w := by
  go_enter Tryd.func26, Tryd.ntmps26
  go_wp2_with fail
  go_ret2
  exact ⟨rfl, rfl⟩
set_option maxHeartbeats 8000000 in
set_option maxRecDepth 100000 in
theorem rslots_none (seed N : Nat) (hN0 : 0 < N) (ad : Option Addr) (c : Nat) (w : World) :
    Calls Tryd.prog 26 #[.int .u32 seed, .int .i64 N, .slice ad 0 c] w fun e w' => e = .returned (.tuple #[.slice none 0 0, .int .i64 0]) ∧ w' = w := by
  have hN1 : ¬ ((N : Int) < 1) := by omega
  go_enter Tryd.func26, Tryd.ntmps26
  go_wp2_with fail
  refine wp_loop_rounds 1 ?_
  rw [rounds_succ]
  go_wp2_with fail
  go_ret2
  exact ⟨rfl, rfl⟩
/-- How a call of Slots ends, whatever the number of slots and the texts. -/
def SlAny (seed : Nat) (m : Int) (l : List (List UInt8)) (B : Nat) (e : Ending) (w' : World) : Prop :=
  if m < 1 then e = .returned (.tuple #[.slice none 0 0, .int .i64 1]) else SlEnd (slF seed m.toNat l [] []) m.toNat l.length B e w'
theorem slots_at (seed : Nat) (hseed : seed < 4294967296) (m : Int) (hm : m ≤ 9223372036854775807) (sb so cap : Nat) (l : List ByteArray) (hl : l.length ≤ 100000) (hls : ∀ s ∈ l, s.size ≤ 9223372036854775807) (w : World) (hS : Strs w sb so l) (hsb : sb < w.heap.size) :
    Calls Tryd.prog 27 #[.int .u32 seed, .int .i64 m, .slice (some ⟨sb, so, none⟩) l.length cap] w fun e w' => Below w.heap.size w w' ∧ SlAny seed m (l.map fun s => s.data.toList) w.heap.size e w' := by
  by_cases h : m < 1
  · refine (slots_arg seed m h _ w).mono ?_
    rintro e w' ⟨rfl, rfl⟩
    exact ⟨Below.refl _ _, by unfold SlAny; rw [if_pos h]⟩
  · obtain ⟨N, rfl⟩ : ∃ N : Nat, m = N := ⟨m.toNat, by omega⟩
    refine (slots_some seed N hseed (by omega) (by omega) sb so cap l hl hls w hS hsb).mono ?_
    rintro e w' ⟨hb, he⟩
    exact ⟨hb, by unfold SlAny; rw [if_neg h, List.length_map]; exact he⟩
theorem rslots_at (seed : Nat) (hseed : seed < 4294967296) (m : Int) (hm : m ≤ 9223372036854775807) (sb so cap : Nat) (l : List ByteArray) (hl : l.length ≤ 100000) (hls : ∀ s ∈ l, s.size ≤ 9223372036854775807) (w : World) (hS : Strs w sb so l) (hsb : sb < w.heap.size) :
    Calls Tryd.prog 26 #[.int .u32 seed, .int .i64 m, .slice (some ⟨sb, so, none⟩) l.length cap] w fun e w' => Below w.heap.size w w' ∧ SlAny seed m (l.map fun s => s.data.toList) w.heap.size e w' := by
  by_cases h : m < 1
  · refine (rslots_arg seed m h _ w).mono ?_
    rintro e w' ⟨rfl, rfl⟩
    exact ⟨Below.refl _ _, by unfold SlAny; rw [if_pos h]⟩
  · obtain ⟨N, rfl⟩ : ∃ N : Nat, m = N := ⟨m.toNat, by omega⟩
    refine (rslots_some seed N hseed (by omega) (by omega) sb so cap l hl hls w hS hsb).mono ?_
    rintro e w' ⟨hb, he⟩
    exact ⟨hb, by unfold SlAny; rw [if_neg h, List.length_map]; exact he⟩
/-- What a call of Slots gives: an errno, and a row of numbers of the call's own, the same at every call of the same texts. -/
theorem SlAny.out {seed : Nat} {m : Int} {l : List (List UInt8)} : ∃ (A : List Nat) (er : Int), A.length ≤ l.length ∧ (er = 0 ∨ er = 1 ∨ er = 120) ∧ ∀ (B : Nat) (e : Ending) (w' : World), SlAny seed m l B e w' → ∃ v, e = .returned (.tuple #[v, .int .i64 er]) ∧ w'.ownsRow B 3 1 v A.length (intsV A) := by
  unfold SlAny
  by_cases h : m < 1
  · refine ⟨[], 1, by simp, by simp, fun B e w' he => ?_⟩
    rw [if_pos h] at he
    exact ⟨_, he, World.ownsRow_nil _ _ _ _⟩
  · simp only [if_neg h]
    cases hA : slF seed m.toNat l [] [] with
    | none => exact ⟨[], 120, by simp, by simp, fun B e w' he => ⟨_, he, World.ownsRow_nil _ _ _ _⟩⟩
    | some out =>
      by_cases hlen : out.length = l.length
      · refine ⟨out, 0, by omega, by simp, fun B e w' he => ?_⟩
        obtain ⟨v, h1, h2, _⟩ := he
        exact ⟨v, h1, h2⟩
      · refine ⟨[], 0, by simp, by simp, fun B e w' he => ?_⟩
        obtain ⟨v, h1, h2, h3, _⟩ := he
        exact absurd h3 hlen
end Go.Proofs.YtabipemlemppjaaDoor
