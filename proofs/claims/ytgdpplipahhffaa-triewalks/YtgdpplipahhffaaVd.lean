/- alike: both keep the same. -/
import Derived.Test.YtgdpplipahhffaaHc
import Derived.Deep.CutRange
namespace Go.Proofs.Ytgdpplipahhffaa
open Go.RowKit
set_option linter.unusedVariables false
set_option linter.unusedSimpArgs false

section
variable {w0 w : World} {q r W most : Nat} {L : List (List Bool × Int)} {ro : Option Nat}
/-- All, and then told. -/
theorem all_told (hD : Duo w0 w q r W most L ro) (hW : W ≤ 128) (ba : Option Addr) (bc : Nat) (hrow : w.ownsRow w0.heap.size 57 2 (.slice ba L.length bc) L.length (rowR L)) (V : World) (hV : Below w.heap.size w V) :
    Calls Try.prog 18 #[.pointer (some ⟨q, 0, none⟩)] V fun e w' => ∃ D, e = .returned (.func (.func 48) #[] #[.pointer (some ⟨D, 0, none⟩), .pointer (some ⟨D + 1, 0, none⟩)]) ∧ Hid (Below w.heap.size w w' ∧ ∀ V2, Below w'.heap.size w' V2 → Calls Try.prog 20 #[.func (.func 48) #[] #[.pointer (some ⟨D, 0, none⟩), .pointer (some ⟨D + 1, 0, none⟩)], .slice ba L.length bc, .int .i64 W] V2 fun e w' => e = .returned (.bool true) ∧ Hid (Below w.heap.size w w')) := by
  refine (all_any _ V).mono ?_
  rintro e w' ⟨rfl, h1, h2, h3⟩
  have hb := bst hV h3
  refine ⟨_, rfl, (⟨hb, fun V2 h4 => ?_⟩ : _ ∧ _)⟩
  have hb2 := bst hb h4
  have hO := hD.own.below hb2
  refine (told_yes V2 hW L (fun y hy => hO.lens y hy) hD.ref.few w0.heap.size ba bc (ownsRow_kept hrow (Kept.of_below (S := fun _ => False) hb2) (fun _ _ => id)) _ _ (all_tells51 hO (h1.below h4) (h2.below h4))).mono ?_
  rintro e w3 ⟨rfl, h5⟩
  exact ⟨rfl, (bst hb2 h5 : Below _ _ _)⟩
set_option maxHeartbeats 4000000 in
theorem alike_yes (hD : Duo w0 w q r W most L ro) (hW : W ≤ 128) :
    Calls Try.prog 17 #[.pointer (some ⟨q, 0, none⟩), .pointer (some ⟨r, 0, none⟩)] w fun e w' => e = .returned (.bool true) ∧ Below w.heap.size w w' := by
  obtain ⟨⟨ba, bc, g1, g2, g3⟩, g4, g5, g6⟩ := id hD.ref
  have HD : Hid (Duo w0 w q r W most L ro) := hD
  have HB : Hid (Blk w r #[.int .i64 W, .int .i64 most, .slice ba L.length bc] 40) := g2
  have CA : Hid (∀ V, Below w.heap.size w V → Calls Try.prog 18 #[.pointer (some ⟨q, 0, none⟩)] V fun e w' => ∃ D, e = .returned (.func (.func 48) #[] #[.pointer (some ⟨D, 0, none⟩), .pointer (some ⟨D + 1, 0, none⟩)]) ∧ w'.cell? ⟨r, 0, none⟩ = some (.int .i64 W) ∧ w'.cell? ⟨r, 2, none⟩ = some (.slice ba L.length bc) ∧ Hid (Below w.heap.size w w' ∧ ∀ V2, Below w'.heap.size w' V2 → Calls Try.prog 20 #[.func (.func 48) #[] #[.pointer (some ⟨D, 0, none⟩), .pointer (some ⟨D + 1, 0, none⟩)], .slice ba L.length bc, .int .i64 W] V2 fun e w' => e = .returned (.bool true) ∧ Hid (Below w.heap.size w w'))) := fun V hV => (all_told hD hW ba bc g3 V hV).mono (by
    rintro e w' ⟨D, rfl, H⟩
    have h := HB.out.below H.out.1
    exact ⟨D, rfl, h.cell 0 rfl, h.cell 2 rfl, H⟩)
  have CN : Hid (∀ V, Below w.heap.size w V → Calls Try.prog 40 #[.pointer (some ⟨q, 0, none⟩)] V fun e w' => e = .returned (.int .i64 (nodesR L)) ∧ Below V.heap.size V w') := fun V hV => nodes_both (HD.out.own.below hV) HD.out.ref.few
  have CM : Hid (∀ V, Below w.heap.size w V → Calls Try.prog 47 #[.pointer (some ⟨r, 0, none⟩)] V fun e w' => e = .returned (.int .i64 (nodesR L)) ∧ Below V.heap.size V w') := fun V hV => rnodes_any (HD.out.ref.below hV).at (fun y hy => Nat.le_trans (HD.out.own.lens y hy) hW)
  have CL : Hid (∀ V, Below w.heap.size w V → Calls Try.prog 37 #[.pointer (some ⟨q, 0, none⟩)] V fun e w' => e = .returned (.int .i64 L.length) ∧ w' = V) := fun V hV => len_both (HD.out.own.below hV)
  have x0 := g2.cell 0 (v := .int .i64 W) rfl
  have x2 := g2.cell 2 (v := .slice ba L.length bc) rfl
  generalize L.length = n at *
  generalize nodesR L = nn at *
  clear g1 g2 g3 g4 g5 g6 hD
  go_enter Try.func17, Try.ntmps17
  go_upto_region 1 with fail
  go_cut [5] from 6 to 34 (fun t wx => t = .bool true ∧ Hid (Below w.heap.size w wx))
  case first =>
    go_region_with (first | (go_at_call 18; refine (CA.out _ (by exact ⟨rfl, rfl, rfl, Nat.le_refl _, fun _ _ => rfl⟩)).mono ?_; rintro e w5 ⟨D, rfl, d0, d2, H5⟩) | (go_at_call 20; refine (H5.out.2 _ (by exact ⟨rfl, rfl, rfl, Nat.le_refl _, fun _ _ => rfl⟩)).mono ?_; rintro e w6 ⟨rfl, H6⟩))
    all_goals (
      go_wp2_with fail
      go_meet
      exact ⟨rfl, H6⟩)
  case rest =>
    obtain ⟨rfl, H2⟩ := hcut
    have y2 := gw_cell ((HB.out.below H2.out).cell 2 (v := .slice ba n bc) rfl)
    have CN' : Hid (∀ z : Grown wc, Calls Try.prog 40 #[.pointer (some ⟨q, 0, none⟩)] (gw z) fun e w' => e = .returned (.int .i64 nn) ∧ Below (gw z).heap.size (gw z) w') := fun z => CN.out _ (bst H2.out (gw_below z))
    have CM' : Hid (∀ z : Grown wc, Calls Try.prog 47 #[.pointer (some ⟨r, 0, none⟩)] (gw z) fun e w' => e = .returned (.int .i64 nn) ∧ Below (gw z).heap.size (gw z) w') := fun z => CM.out _ (bst H2.out (gw_below z))
    have CL' : Hid (∀ z : Grown wc, Calls Try.prog 37 #[.pointer (some ⟨q, 0, none⟩)] (gw z) fun e w' => e = .returned (.int .i64 n) ∧ w' = gw z) := fun z => CL.out _ (bst H2.out (gw_below z))
    clear CA CN CM CL HB x0 x2 HD
    go_upto_region 2 with fail
    refine region_grows (by kernel_rfl) (by kernel_rfl) ?_
    repeat (go_big_quiet_step (first | (go_at_call 37; exact calls_gw_same (CL'.out _)) | (go_at_call 40; exact calls_gw (CN'.out _)) | (go_at_call 47; exact calls_gw (CM'.out _))))
    refine wpQuiet_nil ?_
    intro wq hwq
    obtain ⟨zq, rfl⟩ := hwq
    have HF : Hid (Below w.heap.size w (gw zq)) := bst H2.out (gw_below zq)
    go_wp2
    go_ret
    exact ⟨rfl, HF.out⟩
end
end Go.Proofs.Ytgdpplipahhffaa
