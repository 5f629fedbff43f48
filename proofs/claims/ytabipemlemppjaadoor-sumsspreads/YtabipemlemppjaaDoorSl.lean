/- Package sums' Slots at the chapter's first example, and the head of each statement of this layer: it answers true. The table of halves lies in memory. -/
import Derived.Test.YtabipemlemppjaaDoorSp
import Derived.OwnWalk
import Derived.Laws.MakeOwn
namespace Go.Proofs.YtabipemlemppjaaDoor
open Go.RowKit Go.Maps
set_option linter.unusedVariables false
set_option linter.unusedSimpArgs false

theorem info3 : (Tryd.prog.info? 3).map (fun i => (i.zero, i.size, i.bytes)) = some (some (.int .i64 0), 1, 8) := by kernel_rfl
theorem one_cell (w : World) (x : Value) (t : TypeId) : ∀ j u, [x][j]? = some u → (w.alloc (.cells #[x] t)).cell? ((⟨w.heap.size, 0, none⟩ : Addr).add j) = some u := by
  intro j u hj
  match j, hj with
  | 0, hj => simp at hj; subst hj; simp [Addr.add]
  | j + 1, hj => simp at hj
theorem two_new (w : World) (x y : Value) (t : TypeId) : (w.alloc (.cells #[x, y] t)).cell? ⟨w.heap.size, 0, none⟩ = some x ∧ (w.alloc (.cells #[x, y] t)).cell? ⟨w.heap.size, 1, none⟩ = some y := ⟨by simp, by simp⟩

set_option maxHeartbeats 2000000 in
theorem slots_first (sb so cap : Nat) (w : World) (hc : w.cell? ⟨sb, so, none⟩ = some (.string ⟨#[97]⟩)) : Calls Tryd.prog 27 #[.int .u32 0, .int .i64 1, .slice (some ⟨sb, so, none⟩) 1 cap] w fun e w' =>
    ∃ g k : Nat, e = .returned (.tuple #[.slice (some ⟨g, 0, none⟩) 1 k, .int .i64 0]) ∧ w'.cell? ⟨g, 0, none⟩ = some (.int .i64 0) ∧ Below w.heap.size w w' := by
  have hmm := @run_makeMap Tryd.prog
  have hb : sb < w.heap.size := World.block_lt_of_cell? w _ hc
  obtain ⟨i0, hi, hz0, hz1, hz2⟩ := info_parts info3
  obtain ⟨W, hWd⟩ : ∃ W, W = ((w.alloc (.map #[] 0)).alloc (.map #[] 0)).alloc (.cells #[.int .i64 1, .map (some (w.heap.size + 1))] 66) := ⟨_, rfl⟩
  have hsz : W.heap.size = w.heap.size + 3 := by rw [hWd]; simp
  obtain ⟨W5, hmk, hrow, hgr⟩ := run_make_own (P := Tryd.prog) W (w.heap.size + 3) 42 3 i0 (.int .i64 0) 1 Tryd.underlying42 hi hz0 hz1 .i64 .i64 1 (by rw [hz2]; decide) (by decide) (by omega)
  have S5 : OwnS W5 w.heap.size 0 (.map []) := by
    have h0 : OwnS (w.alloc (.map #[] 0)) w.heap.size 0 (.map []) := World.ownsMap_made _ _ _ _
    have h1 : OwnS W w.heap.size 0 (.map []) := by rw [hWd]; exact (h0.alloc _).alloc _
    exact h1.kept hgr (by simp)
  have I5 : OwnI W5 (w.heap.size + 1) 0 (.map []) := by
    have h0 : OwnI ((w.alloc (.map #[] 0)).alloc (.map #[] 0)) (w.alloc (.map #[] 0)).heap.size 0 (.map []) := World.ownsMap_made _ _ _ _
    rw [show (w.alloc (.map #[] 0)).heap.size = w.heap.size + 1 by simp] at h0
    have h1 : OwnI W (w.heap.size + 1) 0 (.map []) := by rw [hWd]; exact h0.alloc _
    exact h1.kept hgr (by simp)
  have c0 : W5.cell? ⟨w.heap.size + 1 + 1, 0, none⟩ = some (.int .i64 1) := by
    have h0 := (two_new ((w.alloc (.map #[] 0)).alloc (.map #[] 0)) (.int .i64 1) (.map (some (w.heap.size + 1))) 66).1
    rw [← hWd, show ((w.alloc (.map #[] 0)).alloc (.map #[] 0)).heap.size = w.heap.size + 1 + 1 by simp] at h0
    exact hgr.cell h0 (Option.some_ne_none _)
  have c1 : W5.cell? ⟨w.heap.size + 1 + 1, 1, none⟩ = some (.map (some (w.heap.size + 1))) := by
    have h0 := (two_new ((w.alloc (.map #[] 0)).alloc (.map #[] 0)) (.int .i64 1) (.map (some (w.heap.size + 1))) 66).2
    rw [← hWd, show ((w.alloc (.map #[] 0)).alloc (.map #[] 0)).heap.size = w.heap.size + 1 + 1 by simp] at h0
    exact hgr.cell h0 (Option.some_ne_none _)
  have hBW : Below w.heap.size w W := by rw [hWd]; exact (((Below.refl _ _).alloc (by simp) _).alloc (by simp) _).alloc (by simp; omega) _
  have hB5 : Below w.heap.size w W5 := hBW.grown hgr (by omega) (fun k hk => by cases hk)
  have ca : W5.cell? ⟨sb, so, none⟩ = some (.string ⟨#[97]⟩) := by rw [hB5.cell (p := ⟨sb, so, none⟩) hb]; exact hc
  have hs5 : w.heap.size + 3 < W5.heap.size := by have := (hrow.lt (w.heap.size + 3) (by rw [hsz]; rfl)).2; omega
  rw [hsz] at hmk hrow
  rw [hWd, show ((1 : Nat) : Int) = 1 from rfl] at hmk
  have hkey9 : keyOf Tryd.prog 9 (.string ⟨#[97]⟩) = some (.string [97]) := WideMaps.keyOf_string_mk Tryd.underlying9 (by decide)
  have hh : has (DataW.map [] : DataW Unit) (Lit.string [97]) = false := rfl
  have hlen := S5.len (t := 63) (e := 3) Tryd.underlying63 3
  rw [show ((Maps.size (DataW.map [] : DataW Unit) : Nat) : Int) = 0 from rfl] at hlen
  clear hc hsz hgr hBW hWd
  have CS : Hid (∀ w : World, Calls Tryd.prog 24 #[.int .u32 0, .string ⟨#[97]⟩] w fun e w' => e = .returned (.int .u32 (spreadN 0 [97])) ∧ w' = w) := fun w => spread_any 0 (by decide) ⟨#[97]⟩ (by decide) w
  have hsp : ((spreadN 0 [97] : Nat) : Int) < 4294967296 := by have := spEnd_lt (spBytes (2166136261 ^^^ 0) [97]); unfold spreadN; omega
  have hsp0 : (0 : Int) ≤ ((spreadN 0 [97] : Nat) : Int) := by omega
  generalize ((spreadN 0 [97] : Nat) : Int) = q at *
  have hq : IntKind.u64.wrap q = q := by rw [IntKind.wrap_u64]; omega
  have hq1 : IntKind.u64.wrap (q.tmod 1) = 0 := by rw [Int.tmod_one]; rfl
  have hq2 : q % 1 = 0 := by omega
  have hq4 : IntKind.i64.wrap 0 = 0 := by decide
  have hq3 : q.tmod 1 = 0 := Int.tmod_one q
  have CT : Hid (∀ w1 : World, OwnI w1 (w.heap.size + 1) 0 (.map []) → Calls Tryd.prog 40 #[.agg #[.int .i64 1, .map (some (w.heap.size + 1))], .int .i64 0] w1 fun e w' => e = .returned (.int .i64 0) ∧ w1.grownBy w' (some (w.heap.size + 1))) := fun w1 h => take_first _ _ w1 h (by decide)
  have HI5 : Hid (OwnI W5 (w.heap.size + 1) 0 (.map [])) := I5
  have HR5 : Hid (W5.ownsRow (w.heap.size + 3) 3 1 (.slice (some ⟨w.heap.size + 3, 0, none⟩) 0 1) 0 []) := hrow
  clear I5 hrow
  go_enter Tryd.func27, Tryd.ntmps27
  go_wp2
  refine wp_loop_rounds 2 ?_
  rw [rounds_succ]
  go_wp2_with (first
      | (at_lookup; refine wpList_lookup_own_ok_int _ rfl _ _ 63 rfl 9 3 .i64 law9 Tryd.underlying63 Tryd.underlying3 (zero3 _) w.heap.size 0 _ rfl S5 _ _ rfl hkey9 ?_; intro c hat hwc)
      | go_in)
  go_region_with (first
    | (go_at_call 24; refine (CS.out _).mono ?_; rintro e v1 ⟨rfl, rfl⟩)
    | (go_at_call 40; refine (CT.out _ (World.ownsMap.drew HI5.out)).mono ?_; rintro e v2 ⟨rfl, hg2⟩))
  all_goals
    have S6 : OwnS v2 w.heap.size 0 (.map []) := World.ownsMap.kept (World.ownsMap.drew S5) hg2 (by simp)
    have R6 : Hid (v2.ownsRow (w.heap.size + 3) 3 1 (.slice (some ⟨w.heap.size + 3, 0, none⟩) 0 1) 0 []) := World.ownsRow.kept (w := W5.drew) HR5.out hg2 (.inr (by simp [Value.ownBlock]))
    have B6 : Below w.heap.size w v2 := hB5.drew.grown hg2 (by have := hs5; show _ ≤ W5.heap.size; omega) (fun k hk => by cases hk; omega)
    have s6 : w.heap.size + 3 < v2.heap.size := Nat.lt_of_lt_of_le hs5 hg2.size
    obtain ⟨v3, hrun3, hown3, hg3⟩ := S6.update (t := 63) (e := 3) law9 Tryd.underlying63 (by decide) hkey9 (plainElem_int Tryd.underlying3 (a := 0) (by decide))
    have R7 : Hid (v3.ownsRow (w.heap.size + 3) 3 1 (.slice (some ⟨w.heap.size + 3, 0, none⟩) 0 1) 0 []) := World.ownsRow.kept R6.out hg3 (.inr (by simp [Value.ownBlock]))
    have B7 : Below w.heap.size w v3 := B6.grown hg3 (by omega) (fun k hk => by cases hk; omega)
    have s7 : w.heap.size + 3 < v3.heap.size := Nat.lt_of_lt_of_le s6 hg3.size
    have R8 : Hid ((v3.alloc (.cells #[.int .i64 0] 3)).ownsRow (w.heap.size + 3) 3 1 (.slice (some ⟨w.heap.size + 3, 0, none⟩) 0 1) 0 []) := World.ownsRow.alloc R7.out _
    clear S6 R6 B6 s6 hown3 hg3 hg2 S5 HR5 HI5 hB5 hs5 hlen CS CT c0 c1 ca hmm hmk hsp hsp0 hq hq1 hq2 hq3 hq4 hh
    go_wp2_with (at_builtin; refine wpList_append_own _ rfl _ _ 42 rfl (w.heap.size + 3) 3 i0 (.int .i64 0) 1 8 Tryd.underlying42 hi hz0 hz1 hz2 rfl (by decide) _ _ _ rfl R8.out ⟨v3.heap.size, 0, none⟩ 1 1 [.int .i64 0] rfl rfl (one_cell v3 _ 3) (by intro u hu; simp at hu; subst hu; rfl) (by decide) (by decide) (by simp; omega) ?_)
    intro v6 w6 hown6 hgrow6 _
    have B8 : Below w.heap.size w w6 := Below.grown (B7.alloc B7.size _) hgrow6 (by have := B7.size; simp; omega) fun g hg => by cases hg; exact Nat.le_add_right _ 3
    obtain ⟨_, (⟨_, h0⟩ | ⟨g, kc, cur, rfl, hbg, hcur, hle, hmx, hcs, htk⟩)⟩ := id hown6
    · omega
    have hcell : w6.cell? ⟨g, 0, none⟩ = some (.int .i64 0) := by
      have : cur[0]? = some (.int .i64 0) := by
        have h1 : (cur.toList.take ((0 + 1) * 1))[0]? = some (.int .i64 0) := by rw [htk]; rfl
        simpa using h1
      simp [World.cell?, hcur, this]
    have HC : Hid (w6.cell? ⟨g, 0, none⟩ = some (.int .i64 0)) := hcell
    clear hcell hown6 hcur htk
    go_wp2_with fail
    rw [rounds_succ]
    go_wp2
    go_ret2
    exact ⟨g, kc, rfl, HC.out, B8⟩

/-- The sum of the chapter's first example. -/
theorem sum_live : sumC 0 [⟨#[49, 50, 51, 52]⟩, ⟨#[]⟩, ⟨#[53, 54, 55, 56, 57]⟩] = 3421780262 := by decide +kernel
theorem strs_three (w : World) (x y z : ByteArray) (t : TypeId) : Strs (w.alloc (.cells #[.string x, .string y, .string z] t)) w.heap.size 0 [x, y, z] := by
  intro i h
  match i, h with
  | 0, _ => simp
  | 1, _ => simp
  | 2, _ => simp
set_option maxHeartbeats 2000000 in
/-- The head of each statement: it answers true, and older memory is as it was. -/
theorem live_any (w : World) (hT : Tab w) : Calls Tryd.prog 9 #[] w fun e w' => e = .returned (.bool true) ∧ Below w.heap.size w w' := by
  have C1 : Hid (∀ w : World, Tab w → Strs w w.heap.size 0 [] → True) := fun _ _ _ => trivial
  have T1 : Tab (w.alloc (.cells #[.string ⟨#[49, 50, 51, 52]⟩, .string ⟨#[]⟩, .string ⟨#[53, 54, 55, 56, 57]⟩] 9)) := hT.below ((Below.refl _ _).alloc (Nat.le_refl _) _)
  have CS : Hid (Calls Tryd.prog 12 #[.slice (some ⟨w.heap.size, 0, none⟩) 3 3] (w.alloc (.cells #[.string ⟨#[49, 50, 51, 52]⟩, .string ⟨#[]⟩, .string ⟨#[53, 54, 55, 56, 57]⟩] 9)) fun e w' => e = .returned (.int .u32 3421780262) ∧ w' = w.alloc (.cells #[.string ⟨#[49, 50, 51, 52]⟩, .string ⟨#[]⟩, .string ⟨#[53, 54, 55, 56, 57]⟩] 9)) := by
    show Calls _ _ _ _ _
    have := sum_any w.heap.size 0 3 [⟨#[49, 50, 51, 52]⟩, ⟨#[]⟩, ⟨#[53, 54, 55, 56, 57]⟩] (by decide) (by intro s hs; simp at hs; rcases hs with rfl | rfl | rfl <;> decide) _ T1 (strs_three w _ _ _ 9)
    rw [sum_live] at this
    exact this
  have hB1 : Below w.heap.size w (w.alloc (.cells #[.string ⟨#[49, 50, 51, 52]⟩, .string ⟨#[]⟩, .string ⟨#[53, 54, 55, 56, 57]⟩] 9)) := (Below.refl _ _).alloc (Nat.le_refl _) _
  clear T1 C1
  go_enter Tryd.func9, Tryd.ntmps9
  go_wp2_with fail
  refine CS.out.mono ?_
  rintro e w1 ⟨rfl, rfl⟩
  generalize w.alloc (.cells #[.string ⟨#[49, 50, 51, 52]⟩, .string ⟨#[]⟩, .string ⟨#[53, 54, 55, 56, 57]⟩] 9) = W1 at *
  clear CS
  have hc : (W1.alloc (.cells #[.string ⟨#[97]⟩] 9)).cell? ⟨W1.heap.size, 0, none⟩ = some (.string ⟨#[97]⟩) := by simp
  have CL : Hid (Calls Tryd.prog 27 #[.int .u32 0, .int .i64 1, .slice (some ⟨W1.heap.size, 0, none⟩) 1 1] (W1.alloc (.cells #[.string ⟨#[97]⟩] 9)) fun e w' =>
    ∃ g k : Nat, e = .returned (.tuple #[.slice (some ⟨g, 0, none⟩) 1 k, .int .i64 0]) ∧ w'.cell? ⟨g, 0, none⟩ = some (.int .i64 0) ∧ Below (W1.alloc (.cells #[.string ⟨#[97]⟩] 9)).heap.size (W1.alloc (.cells #[.string ⟨#[97]⟩] 9)) w') := slots_first _ _ _ _ hc
  clear hc
  go_wp2_with fail
  refine CL.out.mono ?_
  rintro e w2 ⟨g, k, rfl, hc2, hb2⟩
  have hB2 : Below w.heap.size w w2 := (hB1.alloc hB1.size _).trans (hb2.mono (by have := hB1.size; simp; omega))
  go_wp2
  go_ret
  exact ⟨rfl, hB2⟩
end Go.Proofs.YtabipemlemppjaaDoor
