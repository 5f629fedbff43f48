/- Package exact: New, Get. -/
import Derived.Test.YtkcjcidndckgbaaMp
namespace Go.Proofs.Ytkcjcidndckgbaa
open Go.RowKit
set_option linter.unusedVariables false
set_option linter.unusedSimpArgs false

section
variable {V : Type}
theorem Found.some {r : List (Pl V)} {k : ByteArray} {a : Nat} {th : Bool} (h : Found r k a th) (hr : Rw spr r) {v : V} (hm : (k, v) ∈ cont r) : th = true ∧ r[a]? = Option.some (Option.some (k, v)) := by
  obtain ⟨i, hi⟩ := mem_cont.1 hm
  rcases h.2 with ⟨e, u, hu⟩ | ⟨e, hn⟩
  · have := hr.one i a _ _ hi hu rfl
    subst this
    exact ⟨e, hi⟩
  · exact absurd rfl (h.1.none hr hn _ hm)
theorem Found.nope {r : List (Pl V)} {k : ByteArray} {a : Nat} {th : Bool} (h : Found r k a th) (hn : ∀ x ∈ cont r, x.1 ≠ k) : th = false ∧ r[a]? = Option.some Option.none := h.free hn
end
set_option maxHeartbeats 1000000 in
set_option maxRecDepth 100000 in
theorem newI_ok (n : Nat) (h1 : 1 ≤ n) (h2 : n ≤ 4096) (w : World) : Calls Try.prog 7 #[.int .i64 n] w fun e w' => ∃ q b r cap, e = .returned (.tuple #[.pointer (some ⟨q, 0, none⟩), .int .i64 0]) ∧ MapAt w' q b n r cap ∧ cont r = [] ∧ Below w.heap.size w w' ∧ w.heap.size ≤ q ∧ w.heap.size ≤ b := by
  obtain ⟨i0, hi, hz0, hz1, hz2⟩ := info_of info89
  have hb1 : Hid (i0.bytes * 8 ≤ 281474976710656) := by show _ ≤ _; rw [hz2]; omega
  have hb2 : Hid (8 ≤ maxLen) := by show _ ≤ _; unfold maxLen; omega
  go_enter Try.func7, Try.ntmps7
  go_wp2_with (at_make; refine wpList_make_full _ rfl _ _ 75 rfl w.heap.size 89 i0 (.agg #[.bool false, .int .u32 0, .string ⟨#[]⟩, .int .i64 0]) 4 Try.underlying75 hi hz0 hz1 _ _ _ _ 8 rfl rfl rfl rfl hb1.out hb2.out (Nat.le_refl _) ?_)
  intro w1 hown hgr
  have HW : Hid (RowOf 89 4 encI w1 w.heap.size (List.replicate 8 none)) := RowOf.made hown
  have HB0 : Hid (Below w.heap.size w w1) := ⟨hgr.os, hgr.tape, hgr.output, hgr.size, fun k hk => hgr.block k hk (by simp)⟩
  clear hown hgr hi hz0 hz1 hz2 hb1 hb2
  have HX : Hid (Blk (w1.alloc (.cells #[.int .i64 n, .int .i64 0, .slice (some ⟨w.heap.size, 0, none⟩) 8 8] 77)) w1.heap.size #[.int .i64 n, .int .i64 0, .slice (some ⟨w.heap.size, 0, none⟩) 8 8] 77) := Blk.new w1 _ 77
  have HA : Hid (Below w1.heap.size w1 (w1.alloc (.cells #[.int .i64 n, .int .i64 0, .slice (some ⟨w.heap.size, 0, none⟩) 8 8] 77))) := (Below.refl _ _).alloc (Nat.le_refl _) _
  go_wp2
  go_ret2
  have hl := HW.out.lt
  refine ⟨w1.heap.size, w.heap.size, List.replicate 8 none, 8, rfl, ⟨?_, HW.out.below HA.out, Rw.empty spr (by omega), by simp, by rw [cont_replicate]; simp, by rw [cont_replicate]; simp; omega, by omega⟩, cont_replicate 8, HB0.out.trans (HA.out.mono HB0.out.size), HB0.out.size, Nat.le_refl _⟩
  have e : (cont (List.replicate 8 (none : Pl Int))).length = 0 := by rw [cont_replicate]; rfl
  rw [e, List.length_replicate]
  exact HX.out
set_option maxHeartbeats 1000000 in
theorem getI_none (q b most cap : Nat) (r : List (Pl Int)) (k : ByteArray) (hk : k.size ≤ 9223372036854775807) (w : World) (h : MapAt w q b most r cap) (hn : ∀ x ∈ cont r, x.1 ≠ k) :
    Calls Try.prog 30 #[.pointer (some ⟨q, 0, none⟩), .string k] w fun e w' => e = .returned (.tuple #[.int .i64 0, .bool false]) ∧ Below w.heap.size w w' := by
  have C : Hid (Calls Try.prog 57 #[.pointer (some ⟨q, 0, none⟩), .string k] w fun e w' => e = .returned (.tuple #[.int .i64 ((fnd r k).1 : Nat), .bool (fnd r k).2]) ∧ Below w.heap.size w w') := mfindI_any q b most cap r k hk w h
  rw [((h.found k).nope hn).1] at C
  clear h hn hk
  generalize (fnd r k).1 = a at *
  go_enter Try.func30, Try.ntmps30
  go_wp2_with fail
  refine C.out.mono ?_
  rintro e w1 ⟨rfl, hb⟩
  have HB : Hid (Below w.heap.size w w1) := hb
  clear hb C
  go_wp2
  go_ret2
  exact ⟨rfl, HB.out⟩
set_option maxHeartbeats 1000000 in
theorem getI_some (q b most cap : Nat) (r : List (Pl Int)) (k : ByteArray) (v : Int) (hk : k.size ≤ 9223372036854775807) (w : World) (h : MapAt w q b most r cap) (hm : (k, v) ∈ cont r) :
    Calls Try.prog 30 #[.pointer (some ⟨q, 0, none⟩), .string k] w fun e w' => e = .returned (.tuple #[.int .i64 v, .bool true]) ∧ Below w.heap.size w w' := by
  have C : Hid (Calls Try.prog 57 #[.pointer (some ⟨q, 0, none⟩), .string k] w fun e w' => e = .returned (.tuple #[.int .i64 ((fnd r k).1 : Nat), .bool (fnd r k).2]) ∧ Below w.heap.size w w') := mfindI_any q b most cap r k hk w h
  obtain ⟨e1, e2⟩ := (h.found k).some h.rw hm
  rw [e1] at C
  have HC : Hid (∀ w1, Below w.heap.size w w1 → w1.cell? ⟨q, 2, none⟩ = some (.slice (some ⟨b, 0, none⟩) r.length cap) ∧ w1.cell? ⟨b, (fnd r k).1 * 4 + 3, none⟩ = some (.int .i64 v)) := fun w1 h1 => ⟨(h.below h1).hd.cell 2 rfl, (h.below h1).row.cell e2 3 rfl⟩
  have hal : (fnd r k).1 < r.length := (List.getElem?_eq_some_iff.1 e2).1
  have hL := h.big.2
  clear h hm hk e1 e2
  generalize (fnd r k).1 = a at *
  generalize r.length = n at *
  go_enter Try.func30, Try.ntmps30
  go_wp2_with fail
  refine C.out.mono ?_
  rintro e w1 ⟨rfl, hb⟩
  have HB : Hid (Below w.heap.size w w1) := hb
  obtain ⟨c2, c3⟩ := HC.out w1 hb
  clear hb C HC
  go_wp2
  go_ret2
  exact ⟨rfl, HB.out⟩
end Go.Proofs.Ytkcjcidndckgbaa
