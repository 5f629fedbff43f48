/- light: a schema weighed; whatever it answers, memory only grows. -/
import Derived.Test.YtmbpclknhkbbkaaGreatLv
set_option linter.unusedSimpArgs false
set_option linter.unusedVariables false
namespace Go.Proofs.YtmbpclknhkbbkaaGreat
open Go.RowKit
set_option linter.unusedVariables false
set_option linter.unusedSimpArgs false

set_option maxHeartbeats 1000000 in
theorem light_any (v : Value) (s : Sch) (w : World) (hs : SchIs w v s) : Calls Tryz.prog 27 #[v] w fun e w' => (∃ b : Bool,e = .returned (.bool b)) ∧ Below w.heap.size w w' := by
 have HS : Hid (SchIs w v s) := hs
 obtain ⟨_,_,_,_,_,_,rfl,h1,h2,h3,h4,h5,h6⟩ := hs
 obtain ⟨a1,c1,rfl,_⟩ := h1.1.slice
 obtain ⟨a2,c2,rfl,_⟩ := h2.1.slice
 obtain ⟨a3,c3,rfl,_⟩ := h3.1.slice
 obtain ⟨a4,c4,rfl,_⟩ := h4.1.slice
 obtain ⟨a5,c5,rfl,_⟩ := h5.1.slice
 obtain ⟨a6,c6,rfl,_⟩ := h6.slice
 clear h1 h2 h3 h4 h5 h6
 generalize s.headers.length = n1 at *
 generalize s.metas.length = n2 at *
 generalize s.states.length = n3 at *
 generalize s.actions.length = n4 at *
 generalize s.tables.length = n5 at *
 generalize s.control.length = n6 at *
 go_enter Tryz.func27,Tryz.ntmps27
 go_upto_region 1 with fail
 have HB1 : Hid (Below w.heap.size w (w.alloc (.cells #[.slice a1 n1 c1,.slice a2 n2 c2,.slice a3 n3 c3,.slice a4 n4 c4,.slice a5 n5 c5,.slice a6 n6 c6] 34))) := (Below.refl _ _).alloc (Nat.le_refl _) _
 have HX1 : Hid (Blk (w.alloc (.cells #[.slice a1 n1 c1,.slice a2 n2 c2,.slice a3 n3 c3,.slice a4 n4 c4,.slice a5 n5 c5,.slice a6 n6 c6] 34)) w.heap.size #[.slice a1 n1 c1,.slice a2 n2 c2,.slice a3 n3 c3,.slice a4 n4 c4,.slice a5 n5 c5,.slice a6 n6 c6] 34) := Blk.new _ _ _
 generalize (w.alloc _) = W1 at HB1 HX1 ⊢
 have C1 : Hid (Calls Tryz.prog 92 #[] W1 fun e w' => e = .returned (.pointer (some ⟨W1.heap.size,0,none⟩)) ∧ w' = W1.alloc (.cells #[.int .i64 1048576] 205)) := weigh_any W1
 go_wp2_with fail
 refine C1.out.mono ?_
 rintro e w' ⟨rfl,rfl⟩
 have HA : Hid (Below W1.heap.size W1 (W1.alloc (.cells #[.int .i64 1048576] 205))) := (Below.refl _ _).alloc (Nat.le_refl _) _
 have HS2 : Hid (Blk (W1.alloc (.cells #[.int .i64 1048576] 205)) W1.heap.size #[.int .i64 1048576] 205) := Blk.new _ _ _
 generalize (W1.alloc _) = W2 at HA HS2 ⊢
 have hsz : w.heap.size ≤ W1.heap.size := HB1.out.size
 have HX2 : Hid (Blk W2 w.heap.size #[.slice a1 n1 c1,.slice a2 n2 c2,.slice a3 n3 c3,.slice a4 n4 c4,.slice a5 n5 c5,.slice a6 n6 c6] 34) := HX1.out.below HA.out
 have HB2 : Hid (Below w.heap.size w W2) := bst HB1.out HA.out (Nat.le_refl _)
 have HSZ : Hid (w.heap.size ≤ W1.heap.size) := hsz
 generalize W1.heap.size = sb at *
 clear C1 HA HX1 HB1 hsz
 obtain ⟨x0,x1,x2,x3,x4,x5⟩ := HX2.out.c6
 have C2 : Hid (Calls Tryz.prog 93 #[.pointer (some ⟨sb,0,none⟩),.agg #[.slice a1 n1 c1,.slice a2 n2 c2,.slice a3 n3 c3,.slice a4 n4 c4,.slice a5 n5 c5,.slice a6 n6 c6]] W2 fun e w' => e = .returned (.tuple #[]) ∧ Lgt sb W2 w') := lsch_any w sb HSZ.out _ s W2 _ HS.out HB2.out HS2.out
 go_wp2_with fail
 refine C2.out.mono ?_
 rintro e W3 ⟨rfl,h3⟩
 have HB3 : Hid (Below w.heap.size w W3) := h3.below HB2.out (Nat.le_refl _) HSZ.out
 obtain ⟨⟨l,hl⟩,_⟩ := h3
 have C3 : Hid (Calls Tryz.prog 94 #[.pointer (some ⟨sb,0,none⟩)] W3 fun e w' => e = .returned (.bool (decide (0 ≤ l))) ∧ w' = W3) := fine_any sb l W3 hl
 clear hl C2 x0 x1 x2 x3 x4 x5
 go_wp2_with fail
 refine C3.out.mono ?_
 rintro e w' ⟨rfl,rfl⟩
 clear C3
 go_wp2
 go_ret
 exact ⟨⟨_,rfl⟩,HB3.out⟩
end Go.Proofs.YtmbpclknhkbbkaaGreat
