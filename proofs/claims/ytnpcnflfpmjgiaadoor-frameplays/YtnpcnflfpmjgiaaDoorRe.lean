/- The document's disks: noughts, New, Load. -/
import Derived.Test.YtnpcnflfpmjgiaaDoorRb
import Derived.Test.YtnpcnflfpmjgiaaDoorCu
namespace Go.Proofs.YtnpcnflfpmjgiaaDoor
open Go.RowKit
set_option linter.unusedVariables false
set_option linter.unusedSimpArgs false

theorem noughts_any (w : World) : Calls Tryd.prog 46 #[] w fun e w' => e = .returned (.string zero512) ∧ Below w.heap.size w w' := by
  obtain ⟨i5, hi5, hz50, hz51, hz53⟩ := info_parts info5
  go_enter Tryd.func46, Tryd.ntmps46
  go_wp2_with (at_make; refine wpList_make_full _ rfl _ _ 58 rfl w.heap.size 5 i5 (.int .u8 0) 1 Tryd.underlying58 hi5 hz50 hz51 _ _ _ _ 512 rfl rfl rfl rfl ?c1 ?c2 ?c3 ?_)
  case c1 => rw [hz53]; omega
  case c2 => unfold maxLen; omega
  case c3 => omega
  intro wm hown hgrow
  have hcv := conv_zero (w := wm) (g := w.heap.size) (by
    have e : (madeCells #[Value.int .u8 0] 512).toList = List.replicate 512 (.int .u8 0) := toList_madeCells_one _ _
    rw [← e]; exact hown)
  have hbm : Below w.heap.size w wm := (Below.refl _ _).grown hgrow (Nat.le_refl _) (fun _ h => by cases h)
  clear hown hgrow
  go_wp2
  go_ret
  exact ⟨rfl, hbm⟩
/-- A disk whose sectors come one by one. -/
structure Rn (w wa : World) (sv : Value) (l : List ByteArray) : Prop where
  blk : Blk wa w.heap.size #[sv, .slice none 0 0, .bool false, .int .i64 0, .int .i64 0, .int .i64 0, .int .i64 0] 84
  row : wa.ownsRow w.heap.size 9 1 sv l.length (strs l)
  sep : ∀ j, sv.ownBlock = some j → j ≠ w.heap.size
  low : Below w.heap.size w wa
theorem Rn.below {w wa wb : World} {sv : Value} {l : List ByteArray} (h : Rn w wa sv l) (hb : Below wa.heap.size wa wb) : Rn w wb sv l :=
  ⟨h.blk.below hb, ownsRow_kept (S := fun _ => False) h.row (Kept.of_below hb) (fun _ _ => id), h.sep, bstep h.low hb (Nat.le_refl _)⟩
theorem Rn.push {w wa wb : World} {sv : Value} {l : List ByteArray} (h : Rn w wa sv l) (s : ByteArray) (g cap : Nat) (hown : wb.ownsRow w.heap.size 9 1 (.slice (some ⟨g, 0, none⟩) (l.length + 1) cap) (l.length + 1) (strs l ++ [.string s])) (hg : wa.grownBy wb sv.ownBlock) (hwh : sv.ownBlock = some g ∨ g = wa.heap.size) :
    Rn w (wb.setCell ⟨w.heap.size, 0, none⟩ (.slice (some ⟨g, 0, none⟩) (l.length + 1) cap)) (.slice (some ⟨g, 0, none⟩) (l.length + 1) cap) (l ++ [s]) := by
  have hk : Kept (fun k => sv.ownBlock = some k) wa wb := (Kept.refl _ _).grown hg (fun k e => e)
  have hgb : g ≠ w.heap.size := by
    rcases hwh with e | e
    · exact h.sep g e
    · have := h.blk.lt; omega
  have hz := h.low.size
  refine ⟨(h.blk.kept hk (fun e => h.sep _ e rfl)).set 0 _, ?_, fun j e => by simp [Value.ownBlock] at e; subst e; exact hgb, ?_⟩
  · have := ownsRow_kept (S := fun k => k = w.heap.size) hown (Kept.set (S := fun k => k = w.heap.size) (p := ⟨w.heap.size, 0, none⟩) (Kept.refl _ _) rfl (.slice (some ⟨g, 0, none⟩) (l.length + 1) cap)) (fun k e => by simp [Value.ownBlock] at e; subst e; exact hgb)
    simpa [strs] using this
  · exact (h.low.grown hg hz (fun k e => (h.row.lt k e).1)).setCell (Nat.le_refl _) _
/-- The document's disk, made. -/
def RMade (B : Nat) (w : World) (S : DS) (e : Ending) (w' : World) : Prop := ∃ b fp, e = .returned (.tuple #[pt b, .int .i64 0]) ∧ Rk B w' b fp S ∧ (∀ k, fp k → w.heap.size ≤ k) ∧ Below w.heap.size w w'
theorem Rn.done {w wa : World} {sv : Value} {l : List ByteArray} (h : Rn w wa sv l) (B : Nat) (hB : B ≤ w.heap.size) (h1 : 1 ≤ l.length) (h2 : l.length ≤ 4096) (h3 : ∀ s ∈ l, s.size = 512) : RMade B w (freshD l) (.returned (.tuple #[pt w.heap.size, .int .i64 0])) wa := by
  obtain ⟨g, cap, rfl, hg1, hg2⟩ := h.row.form (by omega)
  have hgb := h.sep g rfl
  refine ⟨w.heap.size, RP w.heap.size g (.slice none 0 0), rfl, ⟨g, cap, .slice none 0 0, rfl, ⟨freshD_ok h1 h2 h3, h.blk, ownsRow_low h.row hB, World.ownsRow_nil _ _ _ _, fun e => hgb e.symm, fun k e => by simp [Value.ownBlock] at e, hB⟩⟩, ?_, h.low⟩
  rintro k (e | e | e)
  · omega
  · omega
  · simp [Value.ownBlock] at e
theorem reps (k : Nat) (h : 1 ≤ k) : ∀ s ∈ List.replicate k zero512, s.size = 512 := fun s hs => by rw [List.eq_of_mem_replicate hs]; exact z_size
set_option maxHeartbeats 1000000 in
set_option maxRecDepth 100000 in
theorem rnew_ok (n : Nat) (h1 : 1 ≤ n) (h2 : n ≤ 4096) (B : Nat) (w : World) (hB : B ≤ w.heap.size) : Calls Tryd.prog 19 #[.int .i64 n] w fun e w' => RMade B w (freshD (List.replicate n zero512)) e w' := by
  obtain ⟨i0, hi, hz0, hz1, hz3⟩ := info_parts info9
  have hn1 : ¬ (n : Int) < 1 := by omega
  have hn2 : (n : Int) ≤ 4096 := by omega
  have R0 : Hid (Rn w (w.alloc (.cells #[.slice none 0 0, .slice none 0 0, .bool false, .int .i64 0, .int .i64 0, .int .i64 0, .int .i64 0] 84)) (.slice none 0 0) (List.replicate 0 zero512)) := ⟨Blk.new _ _ _, World.ownsRow_nil _ _ _ _, fun j e => by simp [Value.ownBlock] at e, (Below.refl _ _).alloc (Nat.le_refl _) _⟩
  have C37 : Hid (∀ w : World, Calls Tryd.prog 46 #[] w fun e w' => e = .returned (.string zero512) ∧ Hid (Below w.heap.size w w')) := noughts_any
  have HEND : Hid (∀ (wa : World) (sv : Value), Rn w wa sv (List.replicate n zero512) → RMade B w (freshD (List.replicate n zero512)) (.returned (.tuple #[pt w.heap.size, .int .i64 0])) wa) := fun wa sv h => h.done B hB (by simpa using h1) (by simpa using h2) (reps n h1)
  generalize freshD (List.replicate n zero512) = SF at *
  generalize zero512 = zz at *
  clear hB
  go_enter Tryd.func19, Tryd.ntmps19
  go_wp2_with fail
  go_loopw [5] (fun t wa => ∃ (k : Nat) (sv : Value), k ≤ n ∧ t = .int .i64 k ∧ Rn w wa sv (List.replicate k zz)) (fun t _ => n - (intOf t).toNat)
  case atStart => exact ⟨0, _, Nat.zero_le _, rfl, R0.out⟩
  case round =>
    obtain ⟨k, sv, hk, rfl, hR⟩ := hrel
    clear R0
    by_cases hlt : k < n
    · have hk' : (k : Int) < (n : Int) := by omega
      have c0 := hR.blk.cell 0 (v := sv) rfl
      have f0 := hR.blk.frozen 0
      have hlt0 := hR.blk.lt
      have HR : Hid (Rn w wr sv (List.replicate k zz)) := hR
      have HN : Hid (∀ u ∈ [Value.string zz], u.oneCell' = true) := fun u hu => by rw [List.mem_singleton.1 hu]; rfl
      have HRX : Hid (∀ wb : World, Below wr.heap.size wr wb → (wb.alloc (.cells #[.string zz] 9)).ownsRow w.heap.size 9 1 sv k (strs (List.replicate k zz))) := by
        show ∀ wb : World, _
        intro wb hb
        have := (HR.out.below hb).row
        rw [List.length_replicate] at this
        exact this.alloc _
      have HNX : Hid (∀ (wb : World) (j : Nat) (u : Value), [Value.string zz][j]? = some u → (wb.alloc (.cells #[.string zz] 9)).cell? ((⟨wb.heap.size, 0, none⟩ : Addr).add j) = some u) := fun wb => World.news_of_block (Blk.new wb #[.string zz] 9)
      have HSZ : Hid (k + 1 ≤ maxLen ∧ (k + 1) * 16 ≤ 140737488355328 ∧ ∀ wb : World, Below wr.heap.size wr wb → w.heap.size ≤ (wb.alloc (.cells #[.string zz] 9)).heap.size) := ⟨by unfold maxLen; omega, by omega, fun wb hb => by have := hb.size; rw [World.size_alloc]; omega⟩
      have KC : Hid (∀ wb : World, Below wr.heap.size wr wb → wb.cell? ⟨w.heap.size, 0, none⟩ = some sv ∧ w.heap.size < wb.heap.size ∧ wb.frozen? ⟨w.heap.size, 0, none⟩ = false) := fun wb hb => ⟨(HR.out.below hb).blk.cell 0 rfl, (HR.out.below hb).blk.lt, (HR.out.below hb).blk.frozen 0⟩
      have KE : Hid (∀ wb w6 : World, Below wr.heap.size wr wb → (wb.alloc (.cells #[.string zz] 9)).grownBy w6 sv.ownBlock → w6.cell? ⟨w.heap.size, 0, none⟩ = some sv ∧ w.heap.size < w6.heap.size ∧ w6.frozen? ⟨w.heap.size, 0, none⟩ = false) := by
        show ∀ wb w6 : World, _
        intro wb w6 hb hg
        have hA := HR.out.below (hb.alloc hb.size (.cells #[.string zz] 9))
        have hk6 : Kept (fun k => sv.ownBlock = some k) _ w6 := (Kept.refl _ _).grown hg (fun k e => e)
        have hB := hA.blk.kept hk6 (fun e => hA.sep _ e rfl)
        exact ⟨hB.cell 0 rfl, hB.lt, hB.frozen 0⟩
      have HE : Hid (∀ (wb w6 : World) (g cap : Nat), Below wr.heap.size wr wb → (wb.alloc (.cells #[.string zz] 9)).grownBy w6 sv.ownBlock → w6.ownsRow w.heap.size 9 1 (.slice (some ⟨g, 0, none⟩) (k + 1) cap) (k + 1) (strs (List.replicate k zz) ++ [.string zz]) → (sv.ownBlock = some g ∨ g = (wb.alloc (.cells #[.string zz] 9)).heap.size) → Rn w (w6.setCell ⟨w.heap.size, 0, none⟩ (.slice (some ⟨g, 0, none⟩) (k + 1) cap)) (.slice (some ⟨g, 0, none⟩) (k + 1) cap) (List.replicate (k + 1) zz)) := by
        show ∀ (wb w6 : World) (g cap : Nat), _
        intro wb w6 g cap hb hg hown hwh
        have hA := HR.out.below (hb.alloc hb.size (.cells #[.string zz] 9))
        have := hA.push zz g cap (by simpa using hown) hg hwh
        rw [List.replicate_succ']
        simpa using this
      clear hR
      go_wp2_with fail
      go_region_law (first
        | (refine step_append_lies _ (by rfl) (.tmp 23) (.tmp 25) 81 (by rfl) w.heap.size 9 i0 (.string ⟨#[]⟩) 1 16 Tryd.underlying81 hi hz0 hz1 hz3 rfl (by decide) sv k (strs (List.replicate k zz)) (by rfl) (by exact HRX.out w4 ⟨hb4.out.os, hb4.out.tape, hb4.out.output, hb4.out.size, hb4.out.block⟩) ⟨w4.heap.size, 0, none⟩ 1 1 [.string zz] (by rfl) rfl (by exact HNX.out w4) HN.out (by decide) HSZ.out.1 HSZ.out.2.1 (by exact HSZ.out.2.2 w4 ⟨hb4.out.os, hb4.out.tape, hb4.out.output, hb4.out.size, hb4.out.block⟩) _ (by rfl) ?_; intro g1 cap1 w6 hown hgr hwh hlt6; obtain ⟨ke1, ke2, ke3⟩ := KE.out w4 w6 ⟨hb4.out.os, hb4.out.tape, hb4.out.output, hb4.out.size, hb4.out.block⟩ hgr; have hend : Hid _ := HE.out w4 w6 g1 cap1 ⟨hb4.out.os, hb4.out.tape, hb4.out.output, hb4.out.size, hb4.out.block⟩ hgr hown hwh; clear hown hgr hwh)
        | (go_simp; refine (C37.out _).mono ?_; rintro e w4 ⟨rfl, hb4⟩; obtain ⟨kc1, kc2, kc3⟩ := KC.out w4 ⟨hb4.out.os, hb4.out.tape, hb4.out.output, hb4.out.size, hb4.out.block⟩))
      all_goals
        go_wp2
        go_roundw
        case rel => exact ⟨k + 1, _, by omega, by go_num, hend.out⟩
        case measure => simp [intOf]; omega
    · have hk' : ¬ (k : Int) < (n : Int) := by omega
      have hke : k = n := by omega
      subst hke
      have hE : Hid (RMade B w SF (.returned (.tuple #[pt w.heap.size, .int .i64 0])) wr) := HEND.out wr sv hR
      unfold pt at hE
      clear hR HEND
      go_wp2
      go_ret2
      exact hE.out
end Go.Proofs.YtnpcnflfpmjgiaaDoor
