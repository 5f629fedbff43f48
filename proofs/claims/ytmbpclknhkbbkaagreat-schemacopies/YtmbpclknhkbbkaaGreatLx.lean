/- SchemaCopies: its walk. -/
import Derived.Test.YtmbpclknhkbbkaaGreatLw
import Derived.Test.YtmbpclknhkbbkaaGreatVs
import Derived.Test.YtmbpclknhkbbkaaGreatB27
set_option linter.unusedSimpArgs false
set_option linter.unusedVariables false
namespace Go.Proofs.YtmbpclknhkbbkaaGreat
open Go.RowKit
set_option linter.unusedVariables false
set_option linter.unusedSimpArgs false

set_option maxHeartbeats 40000000 in
set_option maxRecDepth 100000 in
theorem copies_walk (v : Value) (s : Sch) (u : Value) (t : Sch) (w : World) (hs : SchIs w v s) (ht : SchIs w u t) : Calls Tryz.prog 8 #[v,u] w fun e w' => e = .returned (.bool true) ∧ Below w.heap.size w w' := by
 have HS : Hid (SchIs w v s) := hs
 have HT : Hid (SchIs w u t) := ht
 obtain ⟨a0,a1,a2,a3,a4,a5,rfl,_⟩ := hs
 obtain ⟨b0,b1,b2,b3,b4,b5,rfl,_⟩ := ht
 go_enter Tryz.func8,Tryz.ntmps8
 go_upto_region 1 with fail
 have HB0 : Hid (Below w.heap.size w ((w.alloc (.cells #[a0,a1,a2,a3,a4,a5] 34)).alloc (.cells #[b0,b1,b2,b3,b4,b5] 34))) := ((Below.refl _ _).alloc (Nat.le_refl _) _).alloc (by simp) _
 have HX0 : Hid (Blk ((w.alloc (.cells #[a0,a1,a2,a3,a4,a5] 34)).alloc (.cells #[b0,b1,b2,b3,b4,b5] 34)) w.heap.size #[a0,a1,a2,a3,a4,a5] 34) := (Blk.new w _ 34).below ((Below.refl _ _).alloc (Nat.le_refl _) _)
 have HY0 : Hid (Blk ((w.alloc (.cells #[a0,a1,a2,a3,a4,a5] 34)).alloc (.cells #[b0,b1,b2,b3,b4,b5] 34)) (w.heap.size + 1) #[b0,b1,b2,b3,b4,b5] 34) := by
  have := Blk.new (w.alloc (.cells #[a0,a1,a2,a3,a4,a5] 34)) #[b0,b1,b2,b3,b4,b5] 34
  show Blk _ _ _ _
  simpa using this
 generalize ((w.alloc _).alloc _) = W0 at HB0 HX0 HY0 ⊢
 obtain ⟨xb,hxb⟩ : ∃ xb,xb = w.heap.size := ⟨_,rfl⟩
 rw [← hxb] at HX0 HY0 ⊢
 clear hxb
 go_wp2_with fail
 refine (shown_any _).mono ?_
 rintro e W1 ⟨rfl,hb⟩
 have HB1 : Hid (Below w.heap.size w W1) := bst HB0.out hb
 have HX1 := hblk HX0 hb
 have HY1 := hblk HY0 hb
 clear hb HB0 HX0 HY0
 obtain ⟨x0,x1,x2,x3,x4,x5⟩ := HX1.out.c6
 have C1 : Hid (Calls Tryz.prog 27 #[.agg #[a0,a1,a2,a3,a4,a5]] W1 fun e w' => (∃ b : Bool,e = .returned (.bool b)) ∧ Below W1.heap.size W1 w') := light_any _ s W1 (HS.out.pres (pres_below HB1.out))
 go_wp2_with fail
 refine C1.out.mono ?_
 rintro e W2 ⟨⟨g1,rfl⟩,hb⟩
 have HB2 : Hid (Below w.heap.size w W2) := bst HB1.out hb
 have HX2 := hblk HX1 hb
 have HY2 := hblk HY1 hb
 clear hb HB1 HX1 HY1 C1 x0 x1 x2 x3 x4 x5
 obtain ⟨y0,y1,y2,y3,y4,y5⟩ := HY2.out.c6
 have C2 : Hid (Calls Tryz.prog 27 #[.agg #[b0,b1,b2,b3,b4,b5]] W2 fun e w' => (∃ b : Bool,e = .returned (.bool b)) ∧ Below W2.heap.size W2 w') := light_any _ t W2 (HT.out.pres (pres_below HB2.out))
 go_wp2_with fail
 refine C2.out.mono ?_
 rintro e W3 ⟨⟨g2,rfl⟩,hb⟩
 have HB3 : Hid (Below w.heap.size w W3) := bst HB2.out hb
 have HX3 := hblk HX2 hb
 have HY3 := hblk HY2 hb
 clear hb HB2 HX2 HY2 C2 y0 y1 y2 y3 y4 y5
 cases g1 with
 | false =>
  go_wp2
  go_ret
  exact ⟨rfl,HB3.out⟩
 | true =>
  cases g2 with
  | false =>
   go_wp2
   go_ret
   exact ⟨rfl,HB3.out⟩
  | true =>
   obtain ⟨x0,x1,x2,x3,x4,x5⟩ := HX3.out.c6
   have C3 : Hid (Calls Tryz.prog 28 #[.agg #[a0,a1,a2,a3,a4,a5]] W3 fun e w' => ∃ v',e = .returned v' ∧ SchIs (upw W3.heap.size w') v' s ∧ Below W3.heap.size W3 w') := copy_any _ s W3 (HS.out.pres (pres_below HB3.out))
   go_wp2_with fail
   refine C3.out.mono ?_
   rintro e W4 ⟨v',rfl,hc,hb⟩
   have HC4 : Hid (SchIs W4 v' s) := hc.pres (pres_up _ _)
   obtain ⟨d0,f0,d1,f1,d2,f2,d3,f3,d4,f4,d5,f5,rfl,_⟩ := hc.parts
   clear hc
   generalize s.headers.length = p0 at *
   generalize s.metas.length = p1 at *
   generalize s.states.length = p2 at *
   generalize s.actions.length = p3 at *
   generalize s.tables.length = p4 at *
   generalize s.control.length = p5 at *
   have HB4 : Hid (Below w.heap.size w W4) := bst HB3.out hb
   have HX4 := hblk HX3 hb
   have HY4 := hblk HY3 hb
   clear hb HB3 HX3 HY3 C3 x0 x1 x2 x3 x4 x5
   go_upto_region 8 with fail
   have HA : Hid (Below W4.heap.size W4 (W4.alloc (.cells #[.slice d0 p0 f0,.slice d1 p1 f1,.slice d2 p2 f2,.slice d3 p3 f3,.slice d4 p4 f4,.slice d5 p5 f5] 34))) := (Below.refl _ _).alloc (Nat.le_refl _) _
   have HZ5 : Hid (Blk (W4.alloc (.cells #[.slice d0 p0 f0,.slice d1 p1 f1,.slice d2 p2 f2,.slice d3 p3 f3,.slice d4 p4 f4,.slice d5 p5 f5] 34)) W4.heap.size #[.slice d0 p0 f0,.slice d1 p1 f1,.slice d2 p2 f2,.slice d3 p3 f3,.slice d4 p4 f4,.slice d5 p5 f5] 34) := Blk.new _ _ _
   generalize (W4.alloc _) = W5 at HA HZ5 ⊢
   obtain ⟨zb,hzb⟩ : ∃ zb,zb = W4.heap.size := ⟨_,rfl⟩
   have HB5 : Hid (Below w.heap.size w W5) := bst HB4.out HA.out
   have HX5 : Hid (Blk W5 xb #[a0,a1,a2,a3,a4,a5] 34) := HX4.out.below HA.out
   have HY5 : Hid (Blk W5 (xb + 1) #[b0,b1,b2,b3,b4,b5] 34) := HY4.out.below HA.out
   have HC5 : Hid (SchIs W5 (.agg #[.slice d0 p0 f0,.slice d1 p1 f1,.slice d2 p2 f2,.slice d3 p3 f3,.slice d4 p4 f4,.slice d5 p5 f5]) s) := HC4.out.pres (pres_below HA.out)
   rw [← hzb] at HZ5 ⊢
   have HSz : Hid (∀ z : Grown W5,SchIs (gw z) (.agg #[a0,a1,a2,a3,a4,a5]) s) := fun z => HS.out.pres (pres_below (bst HB5.out (gw_below z) (Nat.le_refl _)))
   have HTz : Hid (∀ z : Grown W5,SchIs (gw z) (.agg #[b0,b1,b2,b3,b4,b5]) t) := fun z => HT.out.pres (pres_below (bst HB5.out (gw_below z) (Nat.le_refl _)))
   have HCz : Hid (∀ z : Grown W5,SchIs (gw z) (.agg #[.slice d0 p0 f0,.slice d1 p1 f1,.slice d2 p2 f2,.slice d3 p3 f3,.slice d4 p4 f4,.slice d5 p5 f5]) s) := fun z => HC5.out.pres (pres_below (gw_below z))
   have K1 : Hid (∀ z : Grown W5,Calls Tryz.prog 29 #[.agg #[.slice d0 p0 f0,.slice d1 p1 f1,.slice d2 p2 f2,.slice d3 p3 f3,.slice d4 p4 f4,.slice d5 p5 f5],.agg #[a0,a1,a2,a3,a4,a5]] (gw z) fun e w' => e = .returned (.bool true) ∧ Below (gw z).heap.size (gw z) w') := fun z => by
    have := reqSch_any s s _ _ _ (HCz.out z) (HSz.out z)
    rwa [decide_eq_true (rfl : s = s)] at this
   have K2 : Hid (∀ z : Grown W5,Calls Tryz.prog 30 #[.agg #[a0,a1,a2,a3,a4,a5],.agg #[b0,b1,b2,b3,b4,b5]] (gw z) fun e w' => e = .returned (.bool (decide (s = t))) ∧ Below (gw z).heap.size (gw z) w') := fun z => same_any s t _ _ _ (HSz.out z) (HTz.out z)
   have K3 : Hid (∀ z : Grown W5,Calls Tryz.prog 29 #[.agg #[a0,a1,a2,a3,a4,a5],.agg #[b0,b1,b2,b3,b4,b5]] (gw z) fun e w' => e = .returned (.bool (decide (s = t))) ∧ Below (gw z).heap.size (gw z) w') := fun z => reqSch_any s t _ _ _ (HSz.out z) (HTz.out z)
   have K4 : Hid (∀ z : Grown W5,Calls Tryz.prog 30 #[.agg #[b0,b1,b2,b3,b4,b5],.agg #[a0,a1,a2,a3,a4,a5]] (gw z) fun e w' => e = .returned (.bool (decide (s = t))) ∧ Below (gw z).heap.size (gw z) w') := fun z => by
    have := same_any t s _ _ _ (HTz.out z) (HSz.out z)
    rwa [show decide (t = s) = decide (s = t) from by simp [eq_comm]] at this
   have K5 : Hid (∀ z : Grown W5,Calls Tryz.prog 30 #[.agg #[a0,a1,a2,a3,a4,a5],.agg #[.slice d0 p0 f0,.slice d1 p1 f1,.slice d2 p2 f2,.slice d3 p3 f3,.slice d4 p4 f4,.slice d5 p5 f5]] (gw z) fun e w' => e = .returned (.bool true) ∧ Below (gw z).heap.size (gw z) w') := fun z => by
    have := same_any s s _ _ _ (HSz.out z) (HCz.out z)
    rwa [decide_eq_true (rfl : s = s)] at this
   have x0 : ∀ z : Grown W5,(gw z).cell? ⟨xb,0,none⟩ = some a0 := gw_cell (HX5.out.cell 0 rfl)
   have y0 : ∀ z : Grown W5,(gw z).cell? ⟨xb + 1,0,none⟩ = some b0 := gw_cell (HY5.out.cell 0 rfl)
   have c0 : ∀ z : Grown W5,(gw z).cell? ⟨zb,0,none⟩ = some (.slice d0 p0 f0) := gw_cell (HZ5.out.cell 0 rfl)
   have x1 : ∀ z : Grown W5,(gw z).cell? ⟨xb,1,none⟩ = some a1 := gw_cell (HX5.out.cell 1 rfl)
   have y1 : ∀ z : Grown W5,(gw z).cell? ⟨xb + 1,1,none⟩ = some b1 := gw_cell (HY5.out.cell 1 rfl)
   have c1 : ∀ z : Grown W5,(gw z).cell? ⟨zb,1,none⟩ = some (.slice d1 p1 f1) := gw_cell (HZ5.out.cell 1 rfl)
   have x2 : ∀ z : Grown W5,(gw z).cell? ⟨xb,2,none⟩ = some a2 := gw_cell (HX5.out.cell 2 rfl)
   have y2 : ∀ z : Grown W5,(gw z).cell? ⟨xb + 1,2,none⟩ = some b2 := gw_cell (HY5.out.cell 2 rfl)
   have c2 : ∀ z : Grown W5,(gw z).cell? ⟨zb,2,none⟩ = some (.slice d2 p2 f2) := gw_cell (HZ5.out.cell 2 rfl)
   have x3 : ∀ z : Grown W5,(gw z).cell? ⟨xb,3,none⟩ = some a3 := gw_cell (HX5.out.cell 3 rfl)
   have y3 : ∀ z : Grown W5,(gw z).cell? ⟨xb + 1,3,none⟩ = some b3 := gw_cell (HY5.out.cell 3 rfl)
   have c3 : ∀ z : Grown W5,(gw z).cell? ⟨zb,3,none⟩ = some (.slice d3 p3 f3) := gw_cell (HZ5.out.cell 3 rfl)
   have x4 : ∀ z : Grown W5,(gw z).cell? ⟨xb,4,none⟩ = some a4 := gw_cell (HX5.out.cell 4 rfl)
   have y4 : ∀ z : Grown W5,(gw z).cell? ⟨xb + 1,4,none⟩ = some b4 := gw_cell (HY5.out.cell 4 rfl)
   have c4 : ∀ z : Grown W5,(gw z).cell? ⟨zb,4,none⟩ = some (.slice d4 p4 f4) := gw_cell (HZ5.out.cell 4 rfl)
   have x5 : ∀ z : Grown W5,(gw z).cell? ⟨xb,5,none⟩ = some a5 := gw_cell (HX5.out.cell 5 rfl)
   have y5 : ∀ z : Grown W5,(gw z).cell? ⟨xb + 1,5,none⟩ = some b5 := gw_cell (HY5.out.cell 5 rfl)
   have c5 : ∀ z : Grown W5,(gw z).cell? ⟨zb,5,none⟩ = some (.slice d5 p5 f5) := gw_cell (HZ5.out.cell 5 rfl)
   clear HSz HTz HCz HC5 HC4 HB4 HX4 HY4 HA hzb HX5 HY5 HZ5
   generalize decide (s = t) = g at K2 K3 K4
   have eg : (g == g) = true := by simp
   refine region_grows (by kernel_rfl) (by kernel_rfl) ?_
   repeat (go_big_quiet_step (fail))
   go_big_quiet_step ((go_at_call 29; exact calls_gw (K1.out _)))
   repeat (go_big_quiet_step (fail))
   go_big_quiet_step ((go_at_call 30; exact calls_gw (K2.out _)))
   repeat (go_big_quiet_step (fail))
   go_big_quiet_step ((go_at_call 29; exact calls_gw (K3.out _)))
   repeat (go_big_quiet_step (fail))
   go_big_quiet_step ((go_at_call 30; exact calls_gw (K4.out _)))
   repeat (go_big_quiet_step (fail))
   go_big_quiet_step ((go_at_call 29; exact calls_gw (K3.out _)))
   repeat (go_big_quiet_step (fail))
   go_big_quiet_step ((go_at_call 30; exact calls_gw (K5.out _)))
   repeat (go_big_quiet_step (fail))
   refine wpQuiet_nil ?_
   intro wq hwq
   obtain ⟨zq,hwq⟩ := hwq
   subst hwq
   have HB6 : Hid (Below w.heap.size w (gw zq)) := bst HB5.out (gw_below zq) (Nat.le_refl _)
   clear K1 K2 K3 K4 K5 HB5 x0 y0 c0 x1 y1 c1 x2 y2 c2 x3 y3 c3 x4 y4 c4 x5 y5 c5
   generalize gw zq = W6 at HB6 ⊢
   go_wp2
   go_ret
   exact ⟨rfl,HB6.out⟩
end Go.Proofs.YtmbpclknhkbbkaaGreat
