/- The look that each statement begins with: it answers true. What a sound schema's states are like: their names are unlike, each takes a header that there is, and no way leads round. sound; step: where the parser goes on. step: where the parser goes on. -/
import Derived.Test.YtmbpclknhkbbkaaGreatJ26
import Derived.Test.YtmbpclknhkbbkaaGreatJ21
import Derived.Test.YtmbpclknhkbbkaaGreatJ19
import Derived.Test.YtmbpclknhkbbkaaGreatJ45
import Derived.Test.YtmbpclknhkbbkaaGreatJ34
import Derived.Deep.CutRange
namespace Go.Proofs.YtmbpclknhkbbkaaGreat
open Go.RowKit
set_option linter.unusedVariables false
set_option linter.unusedSimpArgs false

theorem int_cell {W : World} {u : Value} {x : Int} (h : IntRow W u [x]) : ∃ b o cap, u = .slice (some ⟨b, o, none⟩) 1 cap ∧ W.cell? ⟨b, o, none⟩ = some (.int .i64 x) ∧ 1 ≤ cap := by
  obtain ⟨ad, cap, rfl, hc⟩ := Row.slice h
  obtain ⟨b, o, cs, rfl, _, hk, rfl, _⟩ := Row.at (k := 0) h rfl
  exact ⟨b, o, cap, rfl, by have := hk 0 (.int .i64 x) rfl; simpa using this, hc⟩
theorem txt_cell {W : World} {u : Value} {x : ByteArray} (h : TxtRow W u [x]) : ∃ b o cap, u = .slice (some ⟨b, o, none⟩) 1 cap ∧ W.cell? ⟨b, o, none⟩ = some (.string x) ∧ 1 ≤ cap := by
  obtain ⟨ad, cap, rfl, hc⟩ := Row.slice h.1
  obtain ⟨b, o, cs, rfl, _, hk, rfl, _⟩ := Row.at (k := 0) h.1 rfl
  exact ⟨b, o, cap, rfl, by have := hk 0 (.string x) rfl; simpa using this, hc⟩
theorem tbl_form {W : World} {cs : Array Value} (h : TblIs W cs exT0) : ∃ A1 A2 A3 C1 C2 C3, cs = #[.string ⟨#[114, 111, 117, 116, 101]⟩, .slice A1 1 C1, .slice A2 1 C2, .int .i64 4, .string ⟨#[111, 117, 116]⟩, .slice A3 1 C3, .bool false] := by
  obtain ⟨v1, v2, v3, rfl, _, h1, h2, h3⟩ := h
  obtain ⟨A1, C1, rfl, _⟩ := h1.1.slice
  obtain ⟨A2, C2, rfl, _⟩ := h2.1.slice
  obtain ⟨A3, C3, rfl, _⟩ := h3.1.slice
  exact ⟨A1, A2, A3, C1, C2, C3, rfl⟩
theorem shw_of {b1 b9 : Nat} {a0 a1 a2 a3 a4 a5 : Option Addr} {n0 c0 n1 c1 n2 c2 n3 c3 n4 c4 n5 c5 : Nat} {A1 A2 A3 : Option Addr} {C1 C2 C3 : Nat} {w' : World} (h : Hid (Shw b1 b9 (.slice a0 n0 c0) (.slice a1 n1 c1) (.slice a2 n2 c2) (.slice a3 n3 c3) (.slice a4 n4 c4) (.slice a5 n5 c5) A1 A2 A3 C1 C2 C3 w')) : w'.cell? ⟨b1, 0, none⟩ = some (.slice a0 n0 c0) ∧ w'.cell? ⟨b1, 1, none⟩ = some (.slice a1 n1 c1) ∧ w'.cell? ⟨b1, 2, none⟩ = some (.slice a2 n2 c2) ∧ w'.cell? ⟨b1, 3, none⟩ = some (.slice a3 n3 c3) ∧ w'.cell? ⟨b1, 4, none⟩ = some (.slice a4 n4 c4) ∧ w'.cell? ⟨b1, 5, none⟩ = some (.slice a5 n5 c5) ∧ w'.cell? ⟨b9, 0, none⟩ = some (.string ⟨#[114, 111, 117, 116, 101]⟩) ∧ w'.cell? ⟨b9, 1, none⟩ = some (.slice A1 1 C1) ∧ w'.cell? ⟨b9, 2, none⟩ = some (.slice A2 1 C2) ∧ w'.cell? ⟨b9, 3, none⟩ = some (.int .i64 4) ∧ w'.cell? ⟨b9, 4, none⟩ = some (.string ⟨#[111, 117, 116]⟩) ∧ w'.cell? ⟨b9, 5, none⟩ = some (.slice A3 1 C3) ∧ w'.cell? ⟨b9, 6, none⟩ = some (.bool false) :=
  ⟨h.out.one.cell 0 rfl, h.out.one.cell 1 rfl, h.out.one.cell 2 rfl, h.out.one.cell 3 rfl, h.out.one.cell 4 rfl, h.out.one.cell 5 rfl, h.out.two.cell 0 rfl, h.out.two.cell 1 rfl, h.out.two.cell 2 rfl, h.out.two.cell 3 rfl, h.out.two.cell 4 rfl, h.out.two.cell 5 rfl, h.out.two.cell 6 rfl⟩
set_option maxHeartbeats 4000000 in
set_option maxRecDepth 100000 in
theorem shown_any (w : World) : Calls Tryz.prog 14 #[] w fun e w' => e = .returned (.bool true) ∧ Below w.heap.size w w' := by
  go_enter Tryz.func14, Tryz.ntmps14
  go_wp2_with fail
  refine (example_no w).mono ?_
  rintro e W1 ⟨v, rfl, hs, hb1⟩
  have HB1 : Hid (Below w.heap.size w W1) := hb1
  clear hb1
  obtain ⟨a0, c0, a1, c1, a2, c2, a3, c3, a4, c4, a5, c5, rfl, _⟩ := hs.parts
  have HS1 : Hid (SchIs W1 (.agg #[.slice a0 (exS [511]).headers.length c0, .slice a1 (exS [511]).metas.length c1, .slice a2 (exS [511]).states.length c2, .slice a3 (exS [511]).actions.length c3, .slice a4 (exS [511]).tables.length c4, .slice a5 (exS [511]).control.length c5]) (exS [511])) := hs
  clear hs
  generalize (exS [511]).headers.length = n0 at *
  generalize (exS [511]).metas.length = n1 at *
  generalize (exS [511]).states.length = n2 at *
  generalize (exS [511]).actions.length = n3 at *
  generalize (exS [511]).tables.length = n4 at *
  generalize (exS [511]).control.length = n5 at *
  go_upto_region 2 with fail
  have HB2 : Hid (Below w.heap.size w (W1.alloc (.cells #[.slice a0 n0 c0, .slice a1 n1 c1, .slice a2 n2 c2, .slice a3 n3 c3, .slice a4 n4 c4, .slice a5 n5 c5] 34))) := HB1.out.alloc HB1.out.size _
  have HX2 : Hid (Blk (W1.alloc (.cells #[.slice a0 n0 c0, .slice a1 n1 c1, .slice a2 n2 c2, .slice a3 n3 c3, .slice a4 n4 c4, .slice a5 n5 c5] 34)) W1.heap.size #[.slice a0 n0 c0, .slice a1 n1 c1, .slice a2 n2 c2, .slice a3 n3 c3, .slice a4 n4 c4, .slice a5 n5 c5] 34) := Blk.new W1 _ 34
  have HS2 : Hid (SchIs (W1.alloc (.cells #[.slice a0 n0 c0, .slice a1 n1 c1, .slice a2 n2 c2, .slice a3 n3 c3, .slice a4 n4 c4, .slice a5 n5 c5] 34)) (.agg #[.slice a0 n0 c0, .slice a1 n1 c1, .slice a2 n2 c2, .slice a3 n3 c3, .slice a4 n4 c4, .slice a5 n5 c5]) (exS [511])) := HS1.out.pres (pres_below ((Below.refl _ _).alloc (Nat.le_refl _) _))
  clear HB1 HS1
  generalize W1.alloc _ = W2 at HB2 HX2 HS2 ⊢
  generalize W1.heap.size = b1 at HX2 ⊢
  have C15 : Hid (Calls Tryz.prog 15 #[.agg #[.slice a0 n0 c0, .slice a1 n1 c1, .slice a2 n2 c2, .slice a3 n3 c3, .slice a4 n4 c4, .slice a5 n5 c5]] W2 fun e w' => e = .returned (.tuple #[.int .i64 0, .string ⟨#[]⟩]) ∧ Below W2.heap.size W2 w') := by
    have := check_any _ _ W2 HS2.out
    rw [chk_no] at this
    exact this
  obtain ⟨z0, z1, z2, z3, z4, z5⟩ := HX2.out.c6
  go_wp2_with fail
  refine C15.out.mono ?_
  rintro e W3 ⟨rfl, hb⟩
  have HB3 : Hid (Below w.heap.size w W3) := bst HB2.out hb
  have HX3 := hblk HX2 hb
  have HS3 : Hid (SchIs W3 (.agg #[.slice a0 n0 c0, .slice a1 n1 c1, .slice a2 n2 c2, .slice a3 n3 c3, .slice a4 n4 c4, .slice a5 n5 c5]) (exS [511])) := HS2.out.pres (pres_below hb)
  clear HB2 HX2 HS2 C15 hb z0 z1 z2 z3 z4 z5
  go_wp2_with fail
  refine (example_yes W3).mono ?_
  rintro e W4 ⟨v', rfl, hs', hb⟩
  have HB4 : Hid (Below w.heap.size w W4) := bst HB3.out hb
  have HX4 := hblk HX3 hb
  have HS4 : Hid (SchIs W4 (.agg #[.slice a0 n0 c0, .slice a1 n1 c1, .slice a2 n2 c2, .slice a3 n3 c3, .slice a4 n4 c4, .slice a5 n5 c5]) (exS [511])) := HS3.out.pres (pres_below hb)
  have C15 : Hid (Calls Tryz.prog 15 #[v'] W4 fun e w' => e = .returned (.tuple #[.int .i64 76, .string badT]) ∧ Below W4.heap.size W4 w') := by
    have := check_any _ _ W4 hs'
    rw [chk_yes] at this
    exact this
  clear HB3 HX3 HS3 hb hs'
  go_wp2_with fail
  refine C15.out.mono ?_
  rintro e W5 ⟨rfl, hb⟩
  have HB5 : Hid (Below w.heap.size w W5) := bst HB4.out hb
  have HX5 := hblk HX4 hb
  have HS5 : Hid (SchIs W5 (.agg #[.slice a0 n0 c0, .slice a1 n1 c1, .slice a2 n2 c2, .slice a3 n3 c3, .slice a4 n4 c4, .slice a5 n5 c5]) (exS [511])) := HS4.out.pres (pres_below hb)
  clear HB4 HX4 HS4 C15 hb
  unfold badT
  go_upto_region 4 with fail
  have C35 : Hid (Calls Tryz.prog 35 #[.agg #[.slice a0 n0 c0, .slice a1 n1 c1, .slice a2 n2 c2, .slice a3 n3 c3, .slice a4 n4 c4, .slice a5 n5 c5], .string ⟨#[114, 111, 117, 116, 101]⟩] W5 fun e w' => ∃ u, e = .returned (.tuple #[u, .int .i64 0]) ∧ IntRow (upw W5.heap.size w') u [32] ∧ Below W5.heap.size W5 w') := by
    have := widths_at _ _ ⟨#[114, 111, 117, 116, 101]⟩ W5 HS5.out 0 exT0 tbl_ex0 tbl_ex
    rw [wid_ex] at this
    exact this
  obtain ⟨z0, z1, z2, z3, z4, z5⟩ := HX5.out.c6
  go_wp2_with fail
  refine C35.out.mono ?_
  rintro e W6 ⟨u, rfl, hi, hb⟩
  obtain ⟨bi, oi, ci, rfl, qi, hci⟩ := int_cell hi
  have HQ6 : Hid (W6.cell? ⟨bi, oi, none⟩ = some (.int .i64 32)) := pres_up _ _ _ _ qi
  have HB6 : Hid (Below w.heap.size w W6) := bst HB5.out hb
  have HX6 := hblk HX5 hb
  have HS6 : Hid (SchIs W6 (.agg #[.slice a0 n0 c0, .slice a1 n1 c1, .slice a2 n2 c2, .slice a3 n3 c3, .slice a4 n4 c4, .slice a5 n5 c5]) (exS [511])) := HS5.out.pres (pres_below hb)
  clear HB5 HX5 HS5 C35 hb hi qi z0 z1 z2 z3 z4 z5
  go_upto_region 5 with fail
  have C23 : Hid (Calls Tryz.prog 23 #[.agg #[.slice a0 n0 c0, .slice a1 n1 c1, .slice a2 n2 c2, .slice a3 n3 c3, .slice a4 n4 c4, .slice a5 n5 c5]] W6 fun e w' => ∃ u, e = .returned u ∧ TxtRow (upw W6.heap.size w') u [⟨#[114, 111, 117, 116, 101]⟩] ∧ Below W6.heap.size W6 w') := by
    have := applied_any _ _ W6 HS6.out
    rw [app_ex] at this
    exact this
  obtain ⟨z0, z1, z2, z3, z4, z5⟩ := HX6.out.c6
  go_wp2_with fail
  refine C23.out.mono ?_
  rintro e W7 ⟨u, rfl, hi, hb⟩
  obtain ⟨bt, ot, ct, rfl, qt, hct⟩ := txt_cell hi
  have HQ7 : Hid (W7.cell? ⟨bi, oi, none⟩ = some (.int .i64 32) ∧ W7.cell? ⟨bt, ot, none⟩ = some (.string ⟨#[114, 111, 117, 116, 101]⟩)) := ⟨pres_below hb _ _ HQ6.out, pres_up _ _ _ _ qt⟩
  have HB7 : Hid (Below w.heap.size w W7) := bst HB6.out hb
  have HX7 := hblk HX6 hb
  have HS7 : Hid (SchIs W7 (.agg #[.slice a0 n0 c0, .slice a1 n1 c1, .slice a2 n2 c2, .slice a3 n3 c3, .slice a4 n4 c4, .slice a5 n5 c5]) (exS [511])) := HS6.out.pres (pres_below hb)
  clear HB6 HX6 HS6 C23 hb hi qt HQ6 z0 z1 z2 z3 z4 z5
  go_upto_region 6 with fail
  have C34 : Hid (Calls Tryz.prog 34 #[.agg #[.slice a0 n0 c0, .slice a1 n1 c1, .slice a2 n2 c2, .slice a3 n3 c3, .slice a4 n4 c4, .slice a5 n5 c5], .string ⟨#[114, 111, 117, 116, 101]⟩] W7 fun e w' => ∃ cs', e = .returned (.tuple #[.agg cs', .int .i64 0, .bool true]) ∧ TblIs (upw W7.heap.size w') cs' exT0 ∧ Below W7.heap.size W7 w') := table_at _ _ ⟨#[114, 111, 117, 116, 101]⟩ W7 HS7.out 0 exT0 tbl_ex0 tbl_ex
  obtain ⟨z0, z1, z2, z3, z4, z5⟩ := HX7.out.c6
  go_wp2_with fail
  refine C34.out.mono ?_
  rintro e W8 ⟨cs', rfl, hi, hb⟩
  obtain ⟨A1, A2, A3, C1, C2, C3, rfl⟩ := tbl_form hi
  have HQ8 : Hid (W8.cell? ⟨bi, oi, none⟩ = some (.int .i64 32) ∧ W8.cell? ⟨bt, ot, none⟩ = some (.string ⟨#[114, 111, 117, 116, 101]⟩)) := ⟨pres_below hb _ _ HQ7.out.1, pres_below hb _ _ HQ7.out.2⟩
  have HB8 : Hid (Below w.heap.size w W8) := bst HB7.out hb
  have HX8 := hblk HX7 hb
  have HS8 : Hid (SchIs W8 (.agg #[.slice a0 n0 c0, .slice a1 n1 c1, .slice a2 n2 c2, .slice a3 n3 c3, .slice a4 n4 c4, .slice a5 n5 c5]) (exS [511])) := HS7.out.pres (pres_below hb)
  have HT8 : Hid (TblIs W8 #[.string ⟨#[114, 111, 117, 116, 101]⟩, .slice A1 1 C1, .slice A2 1 C2, .int .i64 4, .string ⟨#[111, 117, 116]⟩, .slice A3 1 C3, .bool false] exT0) := hi.pres (pres_up _ _)
  clear HB7 HX7 HS7 C34 hb hi HQ7 z0 z1 z2 z3 z4 z5
  go_upto_region 7 with fail
  have HH : Hid (Below w.heap.size w (W8.alloc (.cells #[.string ⟨#[114, 111, 117, 116, 101]⟩, .slice A1 1 C1, .slice A2 1 C2, .int .i64 4, .string ⟨#[111, 117, 116]⟩, .slice A3 1 C3, .bool false] 51)) ∧ Shw b1 W8.heap.size (.slice a0 n0 c0) (.slice a1 n1 c1) (.slice a2 n2 c2) (.slice a3 n3 c3) (.slice a4 n4 c4) (.slice a5 n5 c5) A1 A2 A3 C1 C2 C3 (W8.alloc (.cells #[.string ⟨#[114, 111, 117, 116, 101]⟩, .slice A1 1 C1, .slice A2 1 C2, .int .i64 4, .string ⟨#[111, 117, 116]⟩, .slice A3 1 C3, .bool false] 51)) ∧ (W8.alloc (.cells #[.string ⟨#[114, 111, 117, 116, 101]⟩, .slice A1 1 C1, .slice A2 1 C2, .int .i64 4, .string ⟨#[111, 117, 116]⟩, .slice A3 1 C3, .bool false] 51)).cell? ⟨bi, oi, none⟩ = some (.int .i64 32) ∧ (W8.alloc (.cells #[.string ⟨#[114, 111, 117, 116, 101]⟩, .slice A1 1 C1, .slice A2 1 C2, .int .i64 4, .string ⟨#[111, 117, 116]⟩, .slice A3 1 C3, .bool false] 51)).cell? ⟨bt, ot, none⟩ = some (.string ⟨#[114, 111, 117, 116, 101]⟩)) := by
    have hb : Below W8.heap.size W8 (W8.alloc (.cells #[.string ⟨#[114, 111, 117, 116, 101]⟩, .slice A1 1 C1, .slice A2 1 C2, .int .i64 4, .string ⟨#[111, 117, 116]⟩, .slice A3 1 C3, .bool false] 51)) := (Below.refl _ _).alloc (Nat.le_refl _) _
    exact ⟨bst HB8.out hb, ⟨HX8.out.below hb, HS8.out.pres (pres_below hb), Blk.new W8 _ 51, HT8.out.pres (pres_below hb)⟩, pres_below hb _ _ HQ8.out.1, pres_below hb _ _ HQ8.out.2⟩
  clear HB8 HX8 HS8 HT8 HQ8
  generalize W8.alloc _ = W at HH ⊢
  generalize W8.heap.size = b9 at HH ⊢
  have qi := HH.out.2.2.1
  have qt := HH.out.2.2.2
  have HB : Hid (Below w.heap.size w W) := HH.out.1
  have HW : Hid (Shw b1 b9 (.slice a0 n0 c0) (.slice a1 n1 c1) (.slice a2 n2 c2) (.slice a3 n3 c3) (.slice a4 n4 c4) (.slice a5 n5 c5) A1 A2 A3 C1 C2 C3 W) := HH.out.2.1
  have t3 := HW.out.two.cell 3 (v := .int .i64 4) rfl
  have HD : Hid (Shw b1 b9 (.slice a0 n0 c0) (.slice a1 n1 c1) (.slice a2 n2 c2) (.slice a3 n3 c3) (.slice a4 n4 c4) (.slice a5 n5 c5) A1 A2 A3 C1 C2 C3 W.drew) := HH.out.2.1.below ((Below.refl _ _).drew)
  clear HH
  go_upto_region 9 with fail
  all_goals clear qi qt t3
  go_region_held3 (fun w' => w'.cell? ⟨b1, 0, none⟩ = some (.slice a0 n0 c0) ∧ w'.cell? ⟨b1, 1, none⟩ = some (.slice a1 n1 c1) ∧ w'.cell? ⟨b1, 2, none⟩ = some (.slice a2 n2 c2) ∧ w'.cell? ⟨b1, 3, none⟩ = some (.slice a3 n3 c3) ∧ w'.cell? ⟨b1, 4, none⟩ = some (.slice a4 n4 c4) ∧ w'.cell? ⟨b1, 5, none⟩ = some (.slice a5 n5 c5) ∧ w'.cell? ⟨b9, 0, none⟩ = some (.string ⟨#[114, 111, 117, 116, 101]⟩) ∧ w'.cell? ⟨b9, 1, none⟩ = some (.slice A1 1 C1) ∧ w'.cell? ⟨b9, 2, none⟩ = some (.slice A2 1 C2) ∧ w'.cell? ⟨b9, 3, none⟩ = some (.int .i64 4) ∧ w'.cell? ⟨b9, 4, none⟩ = some (.string ⟨#[111, 117, 116]⟩) ∧ w'.cell? ⟨b9, 5, none⟩ = some (.slice A3 1 C3) ∧ w'.cell? ⟨b9, 6, none⟩ = some (.bool false))
    (exact shw_of (by with_reducible assumption))
    (first
      | (go_at_call 25; refine (sh25 _ (by with_reducible assumption)).mono ?_; rintro e V0 ⟨rfl, B0, K0⟩)
      | (go_at_call 20; refine (sh20 _ (by with_reducible assumption)).mono ?_; rintro e V1 ⟨rfl, B1, K1⟩)
      | (go_at_call 17; refine (sh17 _ (by with_reducible assumption)).mono ?_; rintro e V2 ⟨rfl, B2, K2⟩)
      | (go_at_call 61; refine (sh61 _ (by with_reducible assumption)).mono ?_; rintro e V3 ⟨rfl, B3, K3⟩)
      | (go_at_call 28; refine (sh28 _ (by with_reducible assumption)).mono ?_; rintro e V4 ⟨v4, rfl, J4, B4, K4⟩)
      | (go_at_call 60; refine (sh60 _ (by with_reducible assumption)).mono ?_; rintro e V6 ⟨v6, rfl, J6, B6, K6⟩)
      | (go_at_call 30; refine (sh30 _ (by with_reducible assumption) (by with_reducible assumption)).mono ?_; rintro e V5 ⟨rfl, B5, K5⟩)
      | (go_at_call 30; refine (sh30b _ (by with_reducible assumption) (by with_reducible assumption)).mono ?_; rintro e V7 ⟨rfl, B7, K7⟩))
  rename_i hHeld
  clear hHeld
  have HF : Hid (Below w.heap.size w V7) := bst (bst (bst (bst (bst (bst (bst (bst (HB.out.drew) B0.out) B1.out) B2.out) B3.out) B4.out) B5.out) B6.out) B7.out
  go_wp2
  go_ret
  exact ⟨rfl, HF.out⟩
end Go.Proofs.YtmbpclknhkbbkaaGreat
namespace Go.Proofs.YtmbpclknhkbbkaaGreat
open Go.RowKit
set_option linter.unusedVariables false
set_option linter.unusedSimpArgs false

/-- One more state to come by. -/
def W1 (P : Nat → Nat → Bool) (k a b : Nat) : Bool := P a b || (P a k && P k b)
theorem jL_is (k i : Nat) (P : Nat → Nat → Bool) : ∀ m a b, jL k i m P a b = if a = i ∧ b < m then W1 P k a b else P a b
  | 0, a, b => by simp [jL]
  | m + 1, a, b => by
    have h1 := jL_is k i P m
    rw [jL, stepW, setM]
    by_cases hab : a = i ∧ b = m
    · obtain ⟨rfl, rfl⟩ := hab
      rw [if_pos ⟨rfl, rfl⟩, if_pos ⟨rfl, by omega⟩, h1 a b, h1 a k, h1 k b, if_neg (by omega)]
      have e1 : (if a = a ∧ k < b then W1 P k a k else P a k) = P a k := by
        split
        · unfold W1; cases P a k <;> simp
        · rfl
      have e2 : (if k = a ∧ b < b then W1 P k k b else P k b) = P k b := if_neg (by omega)
      rw [e1, e2]; rfl
    · rw [if_neg hab, h1 a b]
      by_cases h : a = i ∧ b < m
      · rw [if_pos h, if_pos ⟨h.1, by omega⟩]
      · rw [if_neg h, if_neg (fun h' => by
          rcases Nat.lt_or_ge b m with hb | hb
          · exact h ⟨h'.1, hb⟩
          · exact hab ⟨h'.1, by omega⟩)]
theorem iL_is (n k : Nat) (P : Nat → Nat → Bool) : ∀ m a b, iL n k m P a b = if a < m ∧ b < n then W1 P k a b else P a b
  | 0, a, b => by simp [iL]
  | m + 1, a, b => by
    have h1 := iL_is n k P m
    rw [iL, jL_is]
    by_cases hab : a = m ∧ b < n
    · obtain ⟨rfl, hb⟩ := hab
      rw [if_pos ⟨rfl, hb⟩, if_pos ⟨by omega, hb⟩]
      unfold W1
      rw [h1 a b, h1 a k, h1 k b, if_neg (by omega), if_neg (by omega)]
      have e2 : (if k < a ∧ b < n then W1 P k k b else P k b) = P k b := by
        split
        · unfold W1; cases P k b <;> simp
        · rfl
      rw [e2]
    · rw [if_neg hab, h1 a b]
      by_cases h : a < m ∧ b < n
      · rw [if_pos h, if_pos ⟨by omega, h.2⟩]
      · rw [if_neg h, if_neg (fun h' => by
          rcases Nat.lt_or_ge a m with ha | ha
          · exact h ⟨ha, h'.2⟩
          · exact hab ⟨by omega, h'.2⟩)]
theorem bL_step (n k : Nat) (M : Nat → Nat → Bool) {a b : Nat} (ha : a < n) (hb : b < n) : bL n (k + 1) M a b = W1 (bL n k M) k a b := by rw [bL, iL_is, if_pos ⟨ha, hb⟩]
theorem bL_mono (n : Nat) (M : Nat → Nat → Bool) {a b : Nat} (ha : a < n) (hb : b < n) (h : M a b = true) : ∀ k, bL n k M a b = true
  | 0 => h
  | k + 1 => by rw [bL_step n k M ha hb, W1, bL_mono n M ha hb h k]; rfl
/-- What was come by before k closes. -/
theorem bL_closed (n : Nat) (M : Nat → Nat → Bool) : ∀ k, k ≤ n → ∀ a b c, a < n → b < k → c < n → bL n k M a b = true → bL n k M b c = true → bL n k M a c = true
  | 0, _, a, b, c, _, hb, _, _, _ => by omega
  | k + 1, hk, a, b, c, ha, hb, hc, h1, h2 => by
    have ih := bL_closed n M k (by omega)
    rw [bL_step n k M ha (by omega), W1, Bool.or_eq_true, Bool.and_eq_true] at h1
    rw [bL_step n k M (by omega) hc, W1, Bool.or_eq_true, Bool.and_eq_true] at h2
    rw [bL_step n k M ha hc, W1, Bool.or_eq_true, Bool.and_eq_true]
    by_cases e : b = k
    · subst e
      have g1 : bL n b M a b = true := h1.elim id (fun h => h.1)
      have g2 : bL n b M b c = true := h2.elim id (fun h => h.2)
      exact .inr ⟨g1, g2⟩
    · have hb' : b < k := by omega
      rcases h1 with h1 | ⟨h1, h1'⟩
      · rcases h2 with h2 | ⟨h2, h2'⟩
        · exact .inl (ih a b c ha hb' hc h1 h2)
        · exact .inr ⟨ih a b k ha hb' (by omega) h1 h2, h2'⟩
      · rcases h2 with h2 | ⟨h2, h2'⟩
        · exact .inr ⟨h1, ih k b c (by omega) hb' hc h1' h2⟩
        · exact .inr ⟨h1, h2'⟩
/-- Edges. -/
theorem goF_mono {g : ByteArray → Option Int} {i : Nat} {M : Nat → Nat → Bool} {nx : ByteArray} {a b : Nat} (h : M a b = true) : goF g i M nx a b = true := by
  unfold goF
  cases g nx with
  | none => exact h
  | some j =>
    show setM M i j.toNat true a b = true
    unfold setM; split
    · rfl
    · exact h
theorem goF_here {g : ByteArray → Option Int} {i : Nat} {M : Nat → Nat → Bool} {nx : ByteArray} {j : Int} (h : g nx = some j) : goF g i M nx i j.toNat = true := by
  unfold goF; rw [h]; unfold setM; simp
theorem cL_mono {g : ByteArray → Option Int} {i : Nat} {cs : List Cas} {M : Nat → Nat → Bool} {a b : Nat} (h : M a b = true) : ∀ k, cL g i cs k M a b = true
  | 0 => h
  | k + 1 => by
    rw [cL]
    cases cs[k]? with
    | none => exact cL_mono h k
    | some c => exact goF_mono (cL_mono h k)
theorem cL_here {g : ByteArray → Option Int} {i : Nat} {cs : List Cas} {M : Nat → Nat → Bool} {c : Cas} {q : Nat} {j : Int} (hq : cs[q]? = some c) (h : g c.next = some j) : ∀ k, q < k → cL g i cs k M i j.toNat = true
  | 0, hk => by omega
  | k + 1, hk => by
    rw [cL]
    by_cases e : q = k
    · subst e; rw [hq]; exact goF_here h
    · have := cL_here (i := i) (M := M) hq h k (by omega)
      cases cs[k]? with
      | none => exact this
      | some c => exact goF_mono this
theorem rowF_mono {g : ByteArray → Option Int} {i : Nat} {x : Sta} {M : Nat → Nat → Bool} {a b : Nat} (h : M a b = true) : rowF g i x M a b = true := goF_mono (cL_mono h _)
/-- What a state goes on to at once. -/
def Goes (x : Sta) (nx : ByteArray) : Prop := nx = x.next ∨ ∃ (q : Nat) (c : Cas), x.cases[q]? = some c ∧ nx = c.next
theorem rowF_here {g : ByteArray → Option Int} {i : Nat} {x : Sta} {M : Nat → Nat → Bool} {nx : ByteArray} {j : Int} (hn : Goes x nx) (h : g nx = some j) : rowF g i x M i j.toNat = true := by
  rcases hn with rfl | ⟨q, c, hq, rfl⟩
  · exact goF_here h
  · exact goF_mono (cL_here hq h _ (List.getElem?_eq_some_iff.1 hq).1)
theorem eL_here {g : ByteArray → Option Int} {xs : List Sta} {i : Nat} {x : Sta} {nx : ByteArray} {j : Int} (hx : xs[i]? = some x) (hn : Goes x nx) (h : g nx = some j) : ∀ k, i < k → eL g xs k i j.toNat = true
  | 0, hk => by omega
  | k + 1, hk => by
    rw [eL]
    by_cases e : i = k
    · subst e; rw [hx]; exact rowF_here hn h
    · have := eL_here hx hn h k (by omega)
      cases xs[k]? with
      | none => exact this
      | some c => exact rowF_mono this
theorem first_none {M : Nat → Nat → Bool} : ∀ (xs : List Sta) (k : Nat), firstL M xs k = none → ∀ i, i < xs.length → M (k + i) (k + i) = false
  | [], _, _, i, hi => by simp at hi
  | x :: xs, k, h, i, hi => by
    rw [firstL] at h
    split at h
    · cases h
    · rename_i hm
      cases i with
      | zero => simpa using hm
      | succ i => have := first_none xs (k + 1) h i (by simpa using hi); rwa [show k + (i + 1) = k + 1 + i by omega]
theorem newE_zero {nm : ByteArray} {seen : List ByteArray} (h : newE nm seen = 0) : hasT seen nm = false := by
  unfold newE at h
  split at h
  · cases h
  · split at h
    · cases h
    · rename_i h2; simpa using h2
theorem stsE_all {hh : ByteArray → Bool} {wd : Rf → Int} {nb : ByteArray → Bool} : ∀ (xs : List Sta) (seen : List ByteArray), stsE hh wd nb xs seen = none → (∀ x ∈ xs, hasT seen x.name = false ∧ stateE hh wd nb x = 0) ∧ (xs.map (·.name)).Nodup
  | [], _, _ => by simp
  | x :: xs, seen, h => by
    rw [stsE] at h
    split at h
    · cases h
    · split at h
      · cases h
      · rename_i h1 h2
        obtain ⟨h3, h4⟩ := stsE_all xs _ h
        have hn := newE_zero (Classical.not_not.1 h1)
        have hne : ∀ y ∈ xs, ¬ y.name = x.name := fun y hy e => by
          have := (h3 y hy).1
          simp [hasT, e] at this
        refine ⟨fun y hy => ?_, ?_⟩
        · rcases List.mem_cons.1 hy with rfl | hy
          · exact ⟨hn, Classical.not_not.1 h2⟩
          · refine ⟨?_, (h3 y hy).2⟩
            have := (h3 y hy).1
            simp only [hasT, List.any_cons, Bool.or_eq_false_iff] at this ⊢
            exact this.2
        · rw [List.map_cons, List.nodup_cons]
          refine ⟨fun hm => ?_, h4⟩
          obtain ⟨y, hy, e⟩ := List.mem_map.1 hm
          exact hne y hy e
theorem lastG_of {xs : List Sta} (hd : (xs.map (·.name)).Nodup) {i : Nat} {x : Sta} (hx : xs[i]? = some x) : ∀ k, i < k → lastG xs k x.name = some (i : Int)
  | 0, hk => by omega
  | k + 1, hk => by
    rw [lastG]
    by_cases e : i = k
    · subst e; rw [hx]; simp
    · have h1 := lastG_of hd hx k (by omega)
      cases hy : xs[k]? with
      | none => exact h1
      | some y =>
        simp only
        rw [if_neg, h1]
        intro he
        obtain ⟨hi, ei⟩ := List.getElem?_eq_some_iff.1 hx
        obtain ⟨hk', ek⟩ := List.getElem?_eq_some_iff.1 hy
        apply e
        refine (List.getElem_inj (xs := xs.map (·.name)) (h₀ := by simpa using hi) (h₁ := by simpa using hk') hd).1 ?_
        simp [ei, ek, he]
/-- What is used of a sound schema's states. -/
structure StOk (s : Sch) : Prop where
  few : s.states.length ≤ 32
  names : (s.states.map (·.name)).Nodup
  hdr : ∀ x ∈ s.states, hdrAt s x.header ≠ -1
  ways : ∃ C : Nat → Nat → Bool, (∀ i, i < s.states.length → C i i = false) ∧ (∀ a b c, a < s.states.length → b < s.states.length → c < s.states.length → C a b = true → C b c = true → C a c = true) ∧
    ∀ (i : Nat) (x : Sta) (nx : ByteArray) (j : Nat) (y : Sta), s.states[i]? = some x → Goes x nx → s.states[j]? = some y → y.name = nx → C i j = true
theorem hdrAt_of {s : Sch} {nm : ByteArray} (h : hasT (hNames s) nm = true) : hdrAt s nm ≠ -1 := by
  rcases idx_cases (fun h : Hdr => decide (h.name = nm)) s.headers 0 with ⟨h1, h2⟩ | ⟨i, x, _, _, _, h4, _⟩
  · exfalso
    unfold hasT hNames at h
    obtain ⟨y, hy, e⟩ := List.any_eq_true.1 h
    obtain ⟨z, hz, rfl⟩ := List.mem_map.1 (List.mem_reverse.1 hy)
    have := h2 z hz
    simp at this e
    exact this e.symm
  · unfold hdrAt; rw [h4]; omega
theorem stOk_of {s : Sch} (h : checkE s = none) : StOk s := by
  unfold checkE at h
  have hh : ∀ a b, orE a b = none → a = none ∧ b = none := fun a b h => by cases a <;> simp [orE] at h ⊢; exact h
  obtain ⟨_, h⟩ := hh _ _ h
  obtain ⟨_, h⟩ := hh _ _ h
  obtain ⟨hs, _⟩ := hh _ _ h
  clear h hh
  unfold statesE at hs
  split at hs
  · cases hs
  · rename_i hn
    cases h1 : stsE (hasT (hNames s)) (widG s) (nextB (lastG s.states s.states.length)) s.states [] with
    | some r => rw [h1] at hs; cases hs
    | none =>
      rw [h1] at hs
      simp only at hs
      obtain ⟨h2, h3⟩ := stsE_all _ _ h1
      refine ⟨by omega, h3, fun x hx => hdrAt_of ?_, bL s.states.length s.states.length (eL (lastG s.states s.states.length) s.states s.states.length), fun i hi => ?_, fun a b c ha hb hc => bL_closed _ _ _ (Nat.le_refl _) a b c ha hb hc, fun i x nx j y hx hg hy e => ?_⟩
      · have := (h2 x hx).2
        unfold stateE at this
        split at this
        · cases this
        · rename_i h4; simpa using h4
      · have := first_none _ _ hs i hi
        simpa using this
      · have hi := (List.getElem?_eq_some_iff.1 hx).1
        have hj := (List.getElem?_eq_some_iff.1 hy).1
        refine bL_mono _ _ hi hj ?_ _
        have := eL_here hx hg (by rw [← e]; exact lastG_of h3 hy _ hj) s.states.length hi
        simpa using this
end Go.Proofs.YtmbpclknhkbbkaaGreat
namespace Go.Proofs.YtmbpclknhkbbkaaGreat
open Go.RowKit
set_option linter.unusedVariables false
set_option linter.unusedSimpArgs false

theorem fnd_ok (R : Option (Int × ByteArray)) (h : ∀ r, R = some r → r.1 ≠ 0) : (R = none → fndC R = 0 ∧ fndT R = ⟨#[]⟩) ∧ (R ≠ none → (fndC R == 0) = false) := by
  refine ⟨fun e => by rw [e]; exact ⟨rfl, rfl⟩, fun e => ?_⟩
  cases R with
  | none => exact absurd rfl e
  | some r => have := h r rfl; simpa [fndC] using this
theorem sound_yes (v : Value) (s : Sch) (w : World) (hs : SchIs w v s) (hc : checkE s = none) : Calls Tryz.prog 49 #[v] w fun e w' => e = .returned (.bool true) ∧ Below w.heap.size w w' := by
  obtain ⟨a0, c0, a1, c1, a2, c2, a3, c3, a4, c4, a5, c5, rfl, h0, h1, h2, h3, h4, h5⟩ := hs.parts
  have HB0 : Hid (Below w.heap.size w (w.alloc (.cells #[.slice a0 s.headers.length c0, .slice a1 s.metas.length c1, .slice a2 s.states.length c2, .slice a3 s.actions.length c3, .slice a4 s.tables.length c4, .slice a5 s.control.length c5] 34))) := (Below.refl _ _).alloc (Nat.le_refl _) _
  have HX0 : Hid (Blk (w.alloc (.cells #[.slice a0 s.headers.length c0, .slice a1 s.metas.length c1, .slice a2 s.states.length c2, .slice a3 s.actions.length c3, .slice a4 s.tables.length c4, .slice a5 s.control.length c5] 34)) w.heap.size #[.slice a0 s.headers.length c0, .slice a1 s.metas.length c1, .slice a2 s.states.length c2, .slice a3 s.actions.length c3, .slice a4 s.tables.length c4, .slice a5 s.control.length c5] 34) := Blk.new _ _ _
  have C : Hid (∀ W, Below w.heap.size w W → Calls Tryz.prog 15 #[.agg #[.slice a0 s.headers.length c0, .slice a1 s.metas.length c1, .slice a2 s.states.length c2, .slice a3 s.actions.length c3, .slice a4 s.tables.length c4, .slice a5 s.control.length c5]] W fun e w' => e = .returned (.tuple #[.int .i64 0, .string ⟨#[]⟩]) ∧ Below W.heap.size W w') := fun W hb => by
    have := check_any _ _ W (hs.pres (pres_below hb))
    rw [hc] at this
    exact this
  clear hs h0 h1 h2 h3 h4 h5
  go_enter Tryz.func49, Tryz.ntmps49
  go_upto_region 1 with fail
  generalize (w.alloc _) = W0 at HB0 HX0 ⊢
  obtain ⟨z0, z1, z2, z3, z4, z5⟩ := HX0.out.c6
  go_wp2_with fail
  refine (C.out _ HB0.out).mono ?_
  rintro e W1 ⟨rfl, hb⟩
  have HB : Hid (Below w.heap.size w W1) := bst HB0.out hb
  clear hb C HB0 HX0
  go_wp2
  go_ret
  exact ⟨rfl, HB.out⟩
theorem sound_no (v : Value) (s : Sch) (w : World) (hs : SchIs w v s) (hc : (fndC (checkE s) == 0) = false) : Calls Tryz.prog 49 #[v] w fun e w' => e = .returned (.bool false) ∧ Below w.heap.size w w' := by
  obtain ⟨a0, c0, a1, c1, a2, c2, a3, c3, a4, c4, a5, c5, rfl, h0, h1, h2, h3, h4, h5⟩ := hs.parts
  have HB0 : Hid (Below w.heap.size w (w.alloc (.cells #[.slice a0 s.headers.length c0, .slice a1 s.metas.length c1, .slice a2 s.states.length c2, .slice a3 s.actions.length c3, .slice a4 s.tables.length c4, .slice a5 s.control.length c5] 34))) := (Below.refl _ _).alloc (Nat.le_refl _) _
  have HX0 : Hid (Blk (w.alloc (.cells #[.slice a0 s.headers.length c0, .slice a1 s.metas.length c1, .slice a2 s.states.length c2, .slice a3 s.actions.length c3, .slice a4 s.tables.length c4, .slice a5 s.control.length c5] 34)) w.heap.size #[.slice a0 s.headers.length c0, .slice a1 s.metas.length c1, .slice a2 s.states.length c2, .slice a3 s.actions.length c3, .slice a4 s.tables.length c4, .slice a5 s.control.length c5] 34) := Blk.new _ _ _
  have C : Hid (∀ W, Below w.heap.size w W → Calls Tryz.prog 15 #[.agg #[.slice a0 s.headers.length c0, .slice a1 s.metas.length c1, .slice a2 s.states.length c2, .slice a3 s.actions.length c3, .slice a4 s.tables.length c4, .slice a5 s.control.length c5]] W fun e w' => e = .returned (.tuple #[.int .i64 (fndC (checkE s)), .string (fndT (checkE s))]) ∧ Below W.heap.size W w') := fun W hb => check_any _ _ W (hs.pres (pres_below hb))
  generalize fndC (checkE s) = fc at *
  generalize fndT (checkE s) = ft at *
  clear hs h0 h1 h2 h3 h4 h5
  go_enter Tryz.func49, Tryz.ntmps49
  go_upto_region 1 with fail
  generalize (w.alloc _) = W0 at HB0 HX0 ⊢
  obtain ⟨z0, z1, z2, z3, z4, z5⟩ := HX0.out.c6
  go_wp2_with fail
  refine (C.out _ HB0.out).mono ?_
  rintro e W1 ⟨rfl, hb⟩
  have HB : Hid (Below w.heap.size w W1) := bst HB0.out hb
  clear hb C HB0 HX0
  go_wp2
  go_ret
  exact ⟨rfl, HB.out⟩
/-- To what the number c leads from a state. -/
def nextF (x : Sta) (c : Int) : ByteArray := if 0 ≤ c ∧ c < (x.cases.length : Int) then (x.cases[c.toNat]?.map (·.next)).getD x.next else x.next
theorem goes_next (x : Sta) (c : Int) : Goes x (nextF x c) := by
  unfold nextF
  split
  · rename_i h
    obtain ⟨y, hy⟩ : ∃ y, x.cases[c.toNat]? = some y := ⟨_, List.getElem?_eq_getElem (by omega)⟩
    rw [hy]
    exact .inr ⟨_, y, hy, rfl⟩
  · exact .inl rfl
end Go.Proofs.YtmbpclknhkbbkaaGreat
namespace Go.Proofs.YtmbpclknhkbbkaaGreat
open Go.RowKit
set_option linter.unusedVariables false
set_option linter.unusedSimpArgs false

set_option maxHeartbeats 2000000 in
theorem step_any (v : Value) (s : Sch) (i : Nat) (x : Sta) (hx : s.states[i]? = some x) (c : Int) (w : World) (hs : SchIs w v s) : Calls Tryz.prog 59 #[v, .int .i64 i, .int .i64 c] w fun e w' => e = .returned (.int .i64 (staAt s (nextF x c))) ∧ Below w.heap.size w w' := by
  obtain ⟨a0, c0, a1, c1, a2, c2, a3, c3, a4, c4, a5, c5, rfl, h0, h1, h2, h3, h4, h5⟩ := hs.parts
  have hlen : s.states.length * 104 ≤ 140737488351232 := h2.2
  have hil : i < s.states.length := (List.getElem?_eq_some_iff.1 hx).1
  obtain ⟨b, o, cs, rfl, _, hc6, u, rfl, _, hcr⟩ := h2.1.at hx
  obtain ⟨ca, cc, rfl, _⟩ := hcr.1.slice
  have hcl : x.cases.length * 48 ≤ 140737488351232 := hcr.2
  have HC : Hid (Row 5 (Flat CasC CasOk) w (.slice ca x.cases.length cc) x.cases) := hcr.1
  have HR : Hid (Row 6 StaIs w (.slice (some ⟨b, o, none⟩) s.states.length c2) s.states) := h2.1
  have HB0 : Hid (Below w.heap.size w (w.alloc (.cells #[.slice a0 s.headers.length c0, .slice a1 s.metas.length c1, .slice (some ⟨b, o, none⟩) s.states.length c2, .slice a3 s.actions.length c3, .slice a4 s.tables.length c4, .slice a5 s.control.length c5] 34))) := (Below.refl _ _).alloc (Nat.le_refl _) _
  obtain ⟨nx, hnx⟩ : ∃ nx, nx = nextF x c := ⟨_, rfl⟩
  have HNX : Hid (nx = if 0 ≤ c ∧ c < (x.cases.length : Int) then (x.cases[c.toNat]?.map (·.next)).getD x.next else x.next) := hnx
  rw [← hnx]
  obtain ⟨R, hR⟩ : ∃ R, R = staAt s nx := ⟨_, rfl⟩
  have H0 : Hid (idxF (fun h : Sta => decide (h.name = nx)) (s.states.drop 0) 0 = R) := by rw [hR]; rfl
  rw [← hR]
  clear hs h0 h1 h2 h3 h4 h5 hR hcr hnx
  obtain ⟨n, hn⟩ : ∃ n, n = s.states.length := ⟨_, rfl⟩
  have HL : Hid (n = s.states.length) := hn
  obtain ⟨cl, hcl'⟩ : ∃ cl, cl = x.cases.length := ⟨_, rfl⟩
  rw [← hn] at hlen HR HB0 hil ⊢
  rw [← hcl'] at hcl HC HNX hc6
  have HCL : Hid (cl = x.cases.length) := hcl'
  clear hn hcl'
  generalize s.states = xs at *
  go_enter Tryz.func59, Tryz.ntmps59
  go_upto_region 1 with fail
  have HX0 : Hid (Blk (w.alloc (.cells #[.slice a0 s.headers.length c0, .slice a1 s.metas.length c1, .slice (some ⟨b, o, none⟩) n c2, .slice a3 s.actions.length c3, .slice a4 s.tables.length c4, .slice a5 s.control.length c5] 34)) w.heap.size #[.slice a0 s.headers.length c0, .slice a1 s.metas.length c1, .slice (some ⟨b, o, none⟩) n c2, .slice a3 s.actions.length c3, .slice a4 s.tables.length c4, .slice a5 s.control.length c5] 34) := Blk.new _ _ _
  generalize (w.alloc _) = W0 at HB0 HX0 ⊢
  have p2 := HX0.out.cell 2 (v := .slice (some ⟨b, o, none⟩) n c2) rfl
  have q0 : W0.cell? ⟨b, o + i * 6, none⟩ = some (.string x.name) := by have := pres_below HB0.out _ _ (hc6 0 (.string x.name) rfl); simpa using this
  have q1 : W0.cell? ⟨b, o + i * 6 + 1, none⟩ = some (.string x.header) := by have := pres_below HB0.out _ _ (hc6 1 (.string x.header) rfl); simpa using this
  have q2 : W0.cell? ⟨b, o + i * 6 + 2, none⟩ = some (.string x.on.head) := by have := pres_below HB0.out _ _ (hc6 2 (.string x.on.head) rfl); simpa using this
  have q3 : W0.cell? ⟨b, o + i * 6 + 3, none⟩ = some (.string x.on.name) := by have := pres_below HB0.out _ _ (hc6 3 (.string x.on.name) rfl); simpa using this
  have q4 : W0.cell? ⟨b, o + i * 6 + 4, none⟩ = some (.slice ca cl cc) := by have := pres_below HB0.out _ _ (hc6 4 (.slice ca cl cc) rfl); simpa using this
  have q5 : W0.cell? ⟨b, o + i * 6 + 5, none⟩ = some (.string x.next) := by have := pres_below HB0.out _ _ (hc6 5 (.string x.next) rfl); simpa using this
  have hli : (0 : Int) ≤ (i : Int) ∧ (i : Int) < (n : Int) := by omega
  clear hc6 hx
  go_upto_region 2 with fail
  have HB1 : Hid (Below w.heap.size w (W0.alloc (.cells #[.string x.name, .string x.header, .string x.on.head, .string x.on.name, .slice ca cl cc, .string x.next] 98))) := HB0.out.alloc HB0.out.size _
  have HX1 : Hid (Blk (W0.alloc (.cells #[.string x.name, .string x.header, .string x.on.head, .string x.on.name, .slice ca cl cc, .string x.next] 98)) w.heap.size #[.slice a0 s.headers.length c0, .slice a1 s.metas.length c1, .slice (some ⟨b, o, none⟩) n c2, .slice a3 s.actions.length c3, .slice a4 s.tables.length c4, .slice a5 s.control.length c5] 34) := HX0.out.below ((Below.refl _ _).alloc (Nat.le_refl _) _)
  have HY1 : Hid (Blk (W0.alloc (.cells #[.string x.name, .string x.header, .string x.on.head, .string x.on.name, .slice ca cl cc, .string x.next] 98)) W0.heap.size #[.string x.name, .string x.header, .string x.on.head, .string x.on.name, .slice ca cl cc, .string x.next] 98) := Blk.new _ _ _
  clear HB0 HX0 p2 q0 q1 q2 q3 q4 q5
  generalize (W0.alloc _) = W1 at HB1 HX1 HY1 ⊢
  generalize W0.heap.size = yb at HY1 ⊢
  have p2 := HX1.out.cell 2 (v := .slice (some ⟨b, o, none⟩) n c2) rfl
  have y4 := HY1.out.cell 4 (v := .slice ca cl cc) rfl
  have y5 := HY1.out.cell 5 (v := .string x.next) rfl
  have hway : (0 ≤ c ∧ ∃ cn : Nat, c = (cn : Int) ∧ cn < cl ∧ ∃ b2 o2, ca = some ⟨b2, o2, none⟩ ∧ W1.cell? ⟨b2, o2 + cn * 5 + 4, none⟩ = some (.string nx)) ∨ (decide (c < (cl : Int)) = false ∧ 0 ≤ c ∧ W1.cell? ⟨yb, 5, none⟩ = some (.string nx)) ∨ (decide (0 ≤ c) = false ∧ W1.cell? ⟨yb, 5, none⟩ = some (.string nx)) := by
    have h := HNX.out
    have hcl2 := HCL.out
    by_cases g1 : 0 ≤ c
    · by_cases g2 : c < (cl : Int)
      · obtain ⟨y, hy⟩ : ∃ y, x.cases[c.toNat]? = some y := ⟨_, List.getElem?_eq_getElem (by omega)⟩
        obtain ⟨b2, o2, cs2, rfl, _, hk, rfl, _⟩ := HC.out.at hy
        obtain ⟨cn, rfl⟩ : ∃ cn : Nat, c = (cn : Int) := ⟨c.toNat, by omega⟩
        rw [if_pos ⟨g1, by omega⟩, hy] at h
        have h' : nx = y.next := h
        refine .inl ⟨g1, cn, rfl, by omega, b2, o2, rfl, ?_⟩
        rw [h']
        have := pres_below HB1.out _ _ (hk 4 (.string y.next) rfl)
        simpa using this
      · rw [if_neg (fun h => g2 (by omega))] at h
        exact .inr (.inl ⟨by simpa using g2, g1, by rw [h]; exact y5⟩)
    · rw [if_neg (fun h => g1 h.1)] at h
      exact .inr (.inr ⟨by simpa using g1, by rw [h]; exact y5⟩)
  clear HNX HC HY1
  have hyn : ∃ v5, W1.cell? ⟨yb, 5, none⟩ = some (.string v5) := ⟨_, y5⟩
  obtain ⟨v5, y5'⟩ := hyn
  clear y5
  rcases hway with ⟨g1, cn, rfl, g2, b2, o2, rfl, r4⟩ | ⟨g2, g1, y6⟩ | ⟨g1, y6⟩
  case' inr.inl => clear y5'
  case' inr.inr => clear y5'
  all_goals
    go_wp2_with fail
    go_loopw [9] (fun i wr => ∃ k : Nat, k ≤ n ∧ i = .int .i64 k ∧ wr = W1 ∧ Aside (idxF (fun h : Sta => decide (h.name = nx)) (xs.drop k) k = R)) (fun i _ => n - (intOf i).toNat)
    case atStart => exact ⟨0, by omega, rfl, rfl, H0.out⟩
    case round =>
      obtain ⟨k, hk, rfl, hwr, hd⟩ := hrel
      obtain rfl := Eq.symm hwr
      by_cases hlt : k < n
      · obtain ⟨y, hy⟩ : ∃ y, xs[k]? = some y := ⟨xs[k]'(by rw [← HL.out]; exact hlt), List.getElem?_eq_getElem _⟩
        obtain ⟨b', o', cs, e', _, hc, ⟨u1, rfl, _⟩⟩ := HR.out.at hy
        cases e'
        have q0 : W1.cell? ⟨b, o + k * 6, none⟩ = some (.string y.name) := by have := pres_below HB1.out _ _ (hc 0 (.string y.name) rfl); simpa using this
        by_cases hs : y.name = nx
        · subst hs
          have HD : Hid (R = (k : Int)) := by
            show _ = _
            rw [← hd.out]; exact idx_yes hy (by simp) _
          clear hd hc hy
          go_wp2
          go_ret
          exact ⟨by rw [HD.out]; rfl, HB1.out⟩
        · have ht : (y.name.toList == nx.toList) = false := by rw [txt_eq]; exact decide_eq_false hs
          have HD : Hid (idxF (fun h : Sta => decide (h.name = nx)) (xs.drop (k + 1)) (k + 1) = R) := by
            show _ = _
            rw [← hd.out]; exact (idx_no hy (by simpa using hs) _).symm
          clear hd hc hy
          go_wp2
          exact ⟨⟨k + 1, by omega, by go_num, trivial, HD.out⟩, by simp only [intOf]; omega⟩
      · have e : k = n := by omega
        have HD : Hid (R = -1) := by
          show _ = _
          rw [← hd.out, e, HL.out, idx_end]
        clear hd
        subst e
        go_wp2
        go_ret
        exact ⟨by rw [HD.out]; rfl, HB1.out⟩
end Go.Proofs.YtmbpclknhkbbkaaGreat
