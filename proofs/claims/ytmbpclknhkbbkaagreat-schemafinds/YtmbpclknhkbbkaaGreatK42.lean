/- One question of SchemaFinds. The walk of SchemaFinds. -/
import Derived.Test.YtmbpclknhkbbkaaGreatK36
import Derived.Test.YtmbpclknhkbbkaaGreatK26
import Derived.Test.YtmbpclknhkbbkaaGreatK29
set_option linter.unusedSimpArgs false
set_option linter.unusedVariables false
namespace Go.Proofs.YtmbpclknhkbbkaaGreat
open Go.RowKit
set_option linter.unusedVariables false
set_option linter.unusedSimpArgs false

/-- A question. -/
structure Asq where (name table : ByteArray) (ref : Rf) (call : Cl)
def AskIs (w : World) (cs : Array Value) (q : Asq) : Prop := ∃ d,cs = #[.string q.name,.string q.table,.string q.ref.head,.string q.ref.name,.string q.call.action,d] ∧ Okt q.call.action ∧ BitRow w d q.call.args
theorem hdr_cells {w : World} {cs : Array Value} {x : Hdr} (h : HdrIs w cs x) : ∃ A C,cs = #[.string x.name,.slice A x.fields.length C] := by
 obtain ⟨v,rfl,_,h1⟩ := h
 obtain ⟨A,C,rfl,_⟩ := h1.1.slice
 exact ⟨A,C,rfl⟩
theorem act_cells {w : World} {cs : Array Value} {x : Actn} (h : ActIs w cs x) : ∃ A C B D,cs = #[.string x.name,.slice A x.params.length C,.slice B x.steps.length D] := by
 obtain ⟨v,u,rfl,_,h1,h2⟩ := h
 obtain ⟨A,C,rfl,_⟩ := h1.1.slice
 obtain ⟨B,D,rfl,_⟩ := h2.1.slice
 exact ⟨A,C,B,D,rfl⟩
theorem tbl_cells {w : World} {cs : Array Value} {x : Tbl} (h : TblIs w cs x) : ∃ A C B D E F,cs = #[.string x.name,.slice A x.keys.length C,.slice B x.actions.length D,.int .i64 x.size,.string x.dflt.action,.slice E x.dflt.args.length F,.bool x.fixed] := by
 obtain ⟨v,u,t,rfl,_,h1,h2,h3⟩ := h
 obtain ⟨A,C,rfl,_⟩ := h1.1.slice
 obtain ⟨B,D,rfl,_⟩ := h2.1.slice
 obtain ⟨E,F,rfl,_⟩ := h3.1.slice
 exact ⟨A,C,B,D,E,F,rfl⟩
theorem hpresH {w w' : World} {cs : Array Value} {x : Hdr} (h : Hid (HdrIs w cs x)) (hb : Below w.heap.size w w') : Hid (HdrIs w' cs x) := h.out.pres (pres_below hb)
theorem hpresA {w w' : World} {cs : Array Value} {x : Actn} (h : Hid (ActIs w cs x)) (hb : Below w.heap.size w w') : Hid (ActIs w' cs x) := h.out.pres (pres_below hb)
theorem hpresT {w w' : World} {cs : Array Value} {x : Tbl} (h : Hid (TblIs w cs x)) (hb : Below w.heap.size w w') : Hid (TblIs w' cs x) := h.out.pres (pres_below hb)
theorem hrow {w w' : World} {v : Value} {l : List Int} (h : Hid (IntRow w v l)) (hb : Below w.heap.size w w') : Hid (IntRow w' v l) := Row.pres h.out (pres_below hb) (fun _ _ _ h => h)
theorem hbst {w W W' : World} (h : Hid (Below w.heap.size w W)) (hb : Below W.heap.size W W') : Hid (Below w.heap.size w W') := bst h.out hb (Nat.le_refl _)
theorem hblk2 {w w' : World} {b : Nat} {cs : Array Value} {t : TypeId} (h : Hid (Blk w b cs t)) (hb : Below w.heap.size w w') : Hid (Blk w' b cs t) := h.out.below hb
set_option maxHeartbeats 8000000 in
set_option maxRecDepth 100000 in
theorem asked_any (v : Value) (s : Sch) (q : Asq) (cs : Array Value) (w : World) (hs : SchIs w v s) (hq : AskIs w cs q) : Calls Tryz.prog 19 #[v,.agg cs] w fun e w' => e = .returned (.bool true) ∧ Below w.heap.size w w' := by
 obtain ⟨a0,c0,a1,c1,a2,c2,a3,c3,a4,c4,a5,c5,rfl,_⟩ := hs.parts
 obtain ⟨d,rfl,hqa,hqr⟩ := hq
 obtain ⟨qa,qc,rfl,_⟩ := hqr.1.slice
 have HQ : Hid (ClIs w (.agg #[.string q.call.action,.slice qa q.call.args.length qc]) q.call) := ⟨_,rfl,hqa,hqr⟩
 generalize s.headers.length = n0 at *
 generalize s.metas.length = n1 at *
 generalize s.states.length = n2 at *
 generalize s.actions.length = n3 at *
 generalize s.tables.length = n4 at *
 generalize s.control.length = n5 at *
 generalize q.call.args.length = qn at *
 clear hqa hqr
 have HX : Hid (Blk ((w.alloc (.cells #[.slice a0 n0 c0,.slice a1 n1 c1,.slice a2 n2 c2,.slice a3 n3 c3,.slice a4 n4 c4,.slice a5 n5 c5] 34)).alloc (.cells #[.string q.name,.string q.table,.string q.ref.head,.string q.ref.name,.string q.call.action,.slice qa qn qc] 47)) w.heap.size #[.slice a0 n0 c0,.slice a1 n1 c1,.slice a2 n2 c2,.slice a3 n3 c3,.slice a4 n4 c4,.slice a5 n5 c5] 34) := (Blk.new _ _ _).below ((Below.refl _ _).alloc (Nat.le_refl _) _)
 have HB : Hid (Below w.heap.size w ((w.alloc (.cells #[.slice a0 n0 c0,.slice a1 n1 c1,.slice a2 n2 c2,.slice a3 n3 c3,.slice a4 n4 c4,.slice a5 n5 c5] 34)).alloc (.cells #[.string q.name,.string q.table,.string q.ref.head,.string q.ref.name,.string q.call.action,.slice qa qn qc] 47))) := ((Below.refl _ _).alloc (Nat.le_refl _) _).alloc (by simp) _
 have HY : Hid (Blk ((w.alloc (.cells #[.slice a0 n0 c0,.slice a1 n1 c1,.slice a2 n2 c2,.slice a3 n3 c3,.slice a4 n4 c4,.slice a5 n5 c5] 34)).alloc (.cells #[.string q.name,.string q.table,.string q.ref.head,.string q.ref.name,.string q.call.action,.slice qa qn qc] 47)) (w.heap.size + 1) #[.string q.name,.string q.table,.string q.ref.head,.string q.ref.name,.string q.call.action,.slice qa qn qc] 47) := by
  have := Blk.new (w.alloc (.cells #[.slice a0 n0 c0,.slice a1 n1 c1,.slice a2 n2 c2,.slice a3 n3 c3,.slice a4 n4 c4,.slice a5 n5 c5] 34)) #[.string q.name,.string q.table,.string q.ref.head,.string q.ref.name,.string q.call.action,.slice qa qn qc] 47
  show Blk _ _ _ _
  simpa using this
 go_enter Tryz.func19,Tryz.ntmps19
 go_upto_region 1 with fail
 generalize ((w.alloc _).alloc _) = W0 at HB HX HY ⊢
 obtain ⟨xb,hxb⟩ : ∃ xb,xb = w.heap.size := ⟨_,rfl⟩
 obtain ⟨yb,hyb⟩ : ∃ yb,yb = w.heap.size + 1 := ⟨_,rfl⟩
 rw [← hxb] at HX
 rw [← hyb] at HY ⊢
 rw [← hxb]
 clear hxb hyb
 have HS : Hid (SchIs w (.agg #[.slice a0 n0 c0,.slice a1 n1 c1,.slice a2 n2 c2,.slice a3 n3 c3,.slice a4 n4 c4,.slice a5 n5 c5]) s) := hs
 go_upto_region 1 with fail
 obtain ⟨z0,z1,z2,z3,z4,z5⟩ := HX.out.c6
 have y0 := HY.out.cell 0 (v := .string q.name) rfl
 go_wp2_with fail
 refine (header_all _ s q.name _ (HS.out.pres (pres_below HB.out))).mono ?_
 rintro e V0 ⟨cs,rfl,hI,hb⟩
 obtain ⟨A1,C1,rfl⟩ := hdr_cells hI
 have HI : Hid (HdrIs V0 #[.string (hdrOf s q.name).name,.slice A1 (hdrOf s q.name).fields.length C1] (hdrOf s q.name)) := hI
 replace HB := hbst HB hb
 replace HX := hblk2 HX hb
 replace HY := hblk2 HY hb
 clear z0 z1 z2 z3 z4 z5 y0
 clear hb hI
 go_upto_region 2 with fail
 have hal : Below V0.heap.size V0 (V0.alloc (.cells #[.string (hdrOf s q.name).name,.slice A1 (hdrOf s q.name).fields.length C1] 60)) := (Below.refl _ _).alloc (Nat.le_refl _) _
 have I1 := HI
 clear HI
 replace HB := hbst HB hal
 replace HX := hblk2 HX hal
 replace HY := hblk2 HY hal
 replace I1 := hpresH I1 hal
 have G1 : Hid (Blk (V0.alloc (.cells #[.string (hdrOf s q.name).name,.slice A1 (hdrOf s q.name).fields.length C1] 60)) V0.heap.size #[.string (hdrOf s q.name).name,.slice A1 (hdrOf s q.name).fields.length C1] 60) := Blk.new _ _ _
 clear hal
 generalize (V0.alloc (.cells #[.string (hdrOf s q.name).name,.slice A1 (hdrOf s q.name).fields.length C1] 60)) = U0 at HB HX HY I1 G1 ⊢
 generalize V0.heap.size = g1b at G1 ⊢
 go_upto_region 2 with fail
 obtain ⟨z0,z1,z2,z3,z4,z5⟩ := HX.out.c6
 have y0 := HY.out.cell 0 (v := .string q.name) rfl
 go_wp2_with fail
 refine (rheader_all _ s q.name _ (HS.out.pres (pres_below HB.out))).mono ?_
 rintro e V1 ⟨cs,rfl,hI,hb⟩
 obtain ⟨A2,C2,rfl⟩ := hdr_cells hI
 have HI : Hid (HdrIs V1 #[.string (hdrOf s q.name).name,.slice A2 (hdrOf s q.name).fields.length C2] (hdrOf s q.name)) := hI
 replace HB := hbst HB hb
 replace HX := hblk2 HX hb
 replace HY := hblk2 HY hb
 replace I1 := hpresH I1 hb
 replace G1 := hblk2 G1 hb
 clear z0 z1 z2 z3 z4 z5 y0
 clear hb hI
 go_upto_region 3 with fail
 have hal : Below V1.heap.size V1 (V1.alloc (.cells #[.string (hdrOf s q.name).name,.slice A2 (hdrOf s q.name).fields.length C2] 60)) := (Below.refl _ _).alloc (Nat.le_refl _) _
 have I2 := HI
 clear HI
 replace HB := hbst HB hal
 replace HX := hblk2 HX hal
 replace HY := hblk2 HY hal
 replace I1 := hpresH I1 hal
 replace G1 := hblk2 G1 hal
 replace I2 := hpresH I2 hal
 have G2 : Hid (Blk (V1.alloc (.cells #[.string (hdrOf s q.name).name,.slice A2 (hdrOf s q.name).fields.length C2] 60)) V1.heap.size #[.string (hdrOf s q.name).name,.slice A2 (hdrOf s q.name).fields.length C2] 60) := Blk.new _ _ _
 clear hal
 generalize (V1.alloc (.cells #[.string (hdrOf s q.name).name,.slice A2 (hdrOf s q.name).fields.length C2] 60)) = U1 at HB HX HY I1 G1 I2 G2 ⊢
 generalize V1.heap.size = g2b at G2 ⊢
 go_upto_region 3 with fail
 obtain ⟨z0,z1,z2,z3,z4,z5⟩ := HX.out.c6
 have y0 := HY.out.cell 0 (v := .string q.name) rfl
 go_wp2_with fail
 refine (action_all _ s q.name _ (HS.out.pres (pres_below HB.out))).mono ?_
 rintro e V2 ⟨cs,rfl,hI,hb⟩
 obtain ⟨A3,C3,B3,D3,rfl⟩ := act_cells hI
 have HI : Hid (ActIs V2 #[.string (actOf s q.name).name,.slice A3 (actOf s q.name).params.length C3,.slice B3 (actOf s q.name).steps.length D3] (actOf s q.name)) := hI
 replace HB := hbst HB hb
 replace HX := hblk2 HX hb
 replace HY := hblk2 HY hb
 replace I1 := hpresH I1 hb
 replace G1 := hblk2 G1 hb
 replace I2 := hpresH I2 hb
 replace G2 := hblk2 G2 hb
 clear z0 z1 z2 z3 z4 z5 y0
 clear hb hI
 go_upto_region 4 with fail
 have hal : Below V2.heap.size V2 (V2.alloc (.cells #[.string (actOf s q.name).name,.slice A3 (actOf s q.name).params.length C3,.slice B3 (actOf s q.name).steps.length D3] 65)) := (Below.refl _ _).alloc (Nat.le_refl _) _
 have I3 := HI
 clear HI
 replace HB := hbst HB hal
 replace HX := hblk2 HX hal
 replace HY := hblk2 HY hal
 replace I1 := hpresH I1 hal
 replace G1 := hblk2 G1 hal
 replace I2 := hpresH I2 hal
 replace G2 := hblk2 G2 hal
 replace I3 := hpresA I3 hal
 have G3 : Hid (Blk (V2.alloc (.cells #[.string (actOf s q.name).name,.slice A3 (actOf s q.name).params.length C3,.slice B3 (actOf s q.name).steps.length D3] 65)) V2.heap.size #[.string (actOf s q.name).name,.slice A3 (actOf s q.name).params.length C3,.slice B3 (actOf s q.name).steps.length D3] 65) := Blk.new _ _ _
 clear hal
 generalize (V2.alloc (.cells #[.string (actOf s q.name).name,.slice A3 (actOf s q.name).params.length C3,.slice B3 (actOf s q.name).steps.length D3] 65)) = U2 at HB HX HY I1 G1 I2 G2 I3 G3 ⊢
 generalize V2.heap.size = g3b at G3 ⊢
 go_upto_region 4 with fail
 obtain ⟨z0,z1,z2,z3,z4,z5⟩ := HX.out.c6
 have y0 := HY.out.cell 0 (v := .string q.name) rfl
 go_wp2_with fail
 refine (raction_all _ s q.name _ (HS.out.pres (pres_below HB.out))).mono ?_
 rintro e V3 ⟨cs,rfl,hI,hb⟩
 obtain ⟨A4,C4,B4,D4,rfl⟩ := act_cells hI
 have HI : Hid (ActIs V3 #[.string (actOf s q.name).name,.slice A4 (actOf s q.name).params.length C4,.slice B4 (actOf s q.name).steps.length D4] (actOf s q.name)) := hI
 replace HB := hbst HB hb
 replace HX := hblk2 HX hb
 replace HY := hblk2 HY hb
 replace I1 := hpresH I1 hb
 replace G1 := hblk2 G1 hb
 replace I2 := hpresH I2 hb
 replace G2 := hblk2 G2 hb
 replace I3 := hpresA I3 hb
 replace G3 := hblk2 G3 hb
 clear z0 z1 z2 z3 z4 z5 y0
 clear hb hI
 go_upto_region 5 with fail
 have hal : Below V3.heap.size V3 (V3.alloc (.cells #[.string (actOf s q.name).name,.slice A4 (actOf s q.name).params.length C4,.slice B4 (actOf s q.name).steps.length D4] 65)) := (Below.refl _ _).alloc (Nat.le_refl _) _
 have I4 := HI
 clear HI
 replace HB := hbst HB hal
 replace HX := hblk2 HX hal
 replace HY := hblk2 HY hal
 replace I1 := hpresH I1 hal
 replace G1 := hblk2 G1 hal
 replace I2 := hpresH I2 hal
 replace G2 := hblk2 G2 hal
 replace I3 := hpresA I3 hal
 replace G3 := hblk2 G3 hal
 replace I4 := hpresA I4 hal
 have G4 : Hid (Blk (V3.alloc (.cells #[.string (actOf s q.name).name,.slice A4 (actOf s q.name).params.length C4,.slice B4 (actOf s q.name).steps.length D4] 65)) V3.heap.size #[.string (actOf s q.name).name,.slice A4 (actOf s q.name).params.length C4,.slice B4 (actOf s q.name).steps.length D4] 65) := Blk.new _ _ _
 clear hal
 generalize (V3.alloc (.cells #[.string (actOf s q.name).name,.slice A4 (actOf s q.name).params.length C4,.slice B4 (actOf s q.name).steps.length D4] 65)) = U3 at HB HX HY I1 G1 I2 G2 I3 G3 I4 G4 ⊢
 generalize V3.heap.size = g4b at G4 ⊢
 go_upto_region 5 with fail
 obtain ⟨z0,z1,z2,z3,z4,z5⟩ := HX.out.c6
 have y1 := HY.out.cell 1 (v := .string q.table) rfl
 go_wp2_with fail
 refine (table_all _ s q.table _ (HS.out.pres (pres_below HB.out))).mono ?_
 rintro e V4 ⟨cs,rfl,hI,hb⟩
 obtain ⟨A5,C5,B5,D5,E5,F5,rfl⟩ := tbl_cells hI
 have HI : Hid (TblIs V4 #[.string (tblOf s q.table).name,.slice A5 (tblOf s q.table).keys.length C5,.slice B5 (tblOf s q.table).actions.length D5,.int .i64 (tblOf s q.table).size,.string (tblOf s q.table).dflt.action,.slice E5 (tblOf s q.table).dflt.args.length F5,.bool (tblOf s q.table).fixed] (tblOf s q.table)) := hI
 replace HB := hbst HB hb
 replace HX := hblk2 HX hb
 replace HY := hblk2 HY hb
 replace I1 := hpresH I1 hb
 replace G1 := hblk2 G1 hb
 replace I2 := hpresH I2 hb
 replace G2 := hblk2 G2 hb
 replace I3 := hpresA I3 hb
 replace G3 := hblk2 G3 hb
 replace I4 := hpresA I4 hb
 replace G4 := hblk2 G4 hb
 clear z0 z1 z2 z3 z4 z5 y1
 clear hb hI
 go_upto_region 6 with fail
 have hal : Below V4.heap.size V4 (V4.alloc (.cells #[.string (tblOf s q.table).name,.slice A5 (tblOf s q.table).keys.length C5,.slice B5 (tblOf s q.table).actions.length D5,.int .i64 (tblOf s q.table).size,.string (tblOf s q.table).dflt.action,.slice E5 (tblOf s q.table).dflt.args.length F5,.bool (tblOf s q.table).fixed] 51)) := (Below.refl _ _).alloc (Nat.le_refl _) _
 have I5 := HI
 clear HI
 replace HB := hbst HB hal
 replace HX := hblk2 HX hal
 replace HY := hblk2 HY hal
 replace I1 := hpresH I1 hal
 replace G1 := hblk2 G1 hal
 replace I2 := hpresH I2 hal
 replace G2 := hblk2 G2 hal
 replace I3 := hpresA I3 hal
 replace G3 := hblk2 G3 hal
 replace I4 := hpresA I4 hal
 replace G4 := hblk2 G4 hal
 replace I5 := hpresT I5 hal
 have G5 : Hid (Blk (V4.alloc (.cells #[.string (tblOf s q.table).name,.slice A5 (tblOf s q.table).keys.length C5,.slice B5 (tblOf s q.table).actions.length D5,.int .i64 (tblOf s q.table).size,.string (tblOf s q.table).dflt.action,.slice E5 (tblOf s q.table).dflt.args.length F5,.bool (tblOf s q.table).fixed] 51)) V4.heap.size #[.string (tblOf s q.table).name,.slice A5 (tblOf s q.table).keys.length C5,.slice B5 (tblOf s q.table).actions.length D5,.int .i64 (tblOf s q.table).size,.string (tblOf s q.table).dflt.action,.slice E5 (tblOf s q.table).dflt.args.length F5,.bool (tblOf s q.table).fixed] 51) := Blk.new _ _ _
 clear hal
 generalize (V4.alloc (.cells #[.string (tblOf s q.table).name,.slice A5 (tblOf s q.table).keys.length C5,.slice B5 (tblOf s q.table).actions.length D5,.int .i64 (tblOf s q.table).size,.string (tblOf s q.table).dflt.action,.slice E5 (tblOf s q.table).dflt.args.length F5,.bool (tblOf s q.table).fixed] 51)) = U4 at HB HX HY I1 G1 I2 G2 I3 G3 I4 G4 I5 G5 ⊢
 generalize V4.heap.size = g5b at G5 ⊢
 go_upto_region 6 with fail
 obtain ⟨z0,z1,z2,z3,z4,z5⟩ := HX.out.c6
 have y1 := HY.out.cell 1 (v := .string q.table) rfl
 go_wp2_with fail
 refine (rtable_all _ s q.table _ (HS.out.pres (pres_below HB.out))).mono ?_
 rintro e V5 ⟨cs,rfl,hI,hb⟩
 obtain ⟨A6,C6,B6,D6,E6,F6,rfl⟩ := tbl_cells hI
 have HI : Hid (TblIs V5 #[.string (tblOf s q.table).name,.slice A6 (tblOf s q.table).keys.length C6,.slice B6 (tblOf s q.table).actions.length D6,.int .i64 (tblOf s q.table).size,.string (tblOf s q.table).dflt.action,.slice E6 (tblOf s q.table).dflt.args.length F6,.bool (tblOf s q.table).fixed] (tblOf s q.table)) := hI
 replace HB := hbst HB hb
 replace HX := hblk2 HX hb
 replace HY := hblk2 HY hb
 replace I1 := hpresH I1 hb
 replace G1 := hblk2 G1 hb
 replace I2 := hpresH I2 hb
 replace G2 := hblk2 G2 hb
 replace I3 := hpresA I3 hb
 replace G3 := hblk2 G3 hb
 replace I4 := hpresA I4 hb
 replace G4 := hblk2 G4 hb
 replace I5 := hpresT I5 hb
 replace G5 := hblk2 G5 hb
 clear z0 z1 z2 z3 z4 z5 y1
 clear hb hI
 go_upto_region 7 with fail
 have hal : Below V5.heap.size V5 (V5.alloc (.cells #[.string (tblOf s q.table).name,.slice A6 (tblOf s q.table).keys.length C6,.slice B6 (tblOf s q.table).actions.length D6,.int .i64 (tblOf s q.table).size,.string (tblOf s q.table).dflt.action,.slice E6 (tblOf s q.table).dflt.args.length F6,.bool (tblOf s q.table).fixed] 51)) := (Below.refl _ _).alloc (Nat.le_refl _) _
 have I6 := HI
 clear HI
 replace HB := hbst HB hal
 replace HX := hblk2 HX hal
 replace HY := hblk2 HY hal
 replace I1 := hpresH I1 hal
 replace G1 := hblk2 G1 hal
 replace I2 := hpresH I2 hal
 replace G2 := hblk2 G2 hal
 replace I3 := hpresA I3 hal
 replace G3 := hblk2 G3 hal
 replace I4 := hpresA I4 hal
 replace G4 := hblk2 G4 hal
 replace I5 := hpresT I5 hal
 replace G5 := hblk2 G5 hal
 replace I6 := hpresT I6 hal
 have G6 : Hid (Blk (V5.alloc (.cells #[.string (tblOf s q.table).name,.slice A6 (tblOf s q.table).keys.length C6,.slice B6 (tblOf s q.table).actions.length D6,.int .i64 (tblOf s q.table).size,.string (tblOf s q.table).dflt.action,.slice E6 (tblOf s q.table).dflt.args.length F6,.bool (tblOf s q.table).fixed] 51)) V5.heap.size #[.string (tblOf s q.table).name,.slice A6 (tblOf s q.table).keys.length C6,.slice B6 (tblOf s q.table).actions.length D6,.int .i64 (tblOf s q.table).size,.string (tblOf s q.table).dflt.action,.slice E6 (tblOf s q.table).dflt.args.length F6,.bool (tblOf s q.table).fixed] 51) := Blk.new _ _ _
 clear hal
 generalize (V5.alloc (.cells #[.string (tblOf s q.table).name,.slice A6 (tblOf s q.table).keys.length C6,.slice B6 (tblOf s q.table).actions.length D6,.int .i64 (tblOf s q.table).size,.string (tblOf s q.table).dflt.action,.slice E6 (tblOf s q.table).dflt.args.length F6,.bool (tblOf s q.table).fixed] 51)) = U5 at HB HX HY I1 G1 I2 G2 I3 G3 I4 G4 I5 G5 I6 G6 ⊢
 generalize V5.heap.size = g6b at G6 ⊢
 have bh : (hdrIn s q.name != hdrIn s q.name) = false := by cases hdrIn s q.name <;> rfl
 have ba : (actIn s q.name != actIn s q.name) = false := by cases actIn s q.name <;> rfl
 have bt : (tblIn s q.table != tblIn s q.table) = false := by cases tblIn s q.table <;> rfl
 have bi : (tblNo s q.table != tblNo s q.table) = false := by simp
 generalize hdrIn s q.name = ih at *
 generalize actIn s q.name = ia at *
 generalize tblIn s q.table = it at *
 generalize tblNo s q.table = ti at *
 have CE : Hid (Calls Tryz.prog 45 #[.agg #[.string (hdrOf s q.name).name,.slice A1 (hdrOf s q.name).fields.length C1],.agg #[.string (hdrOf s q.name).name,.slice A2 (hdrOf s q.name).fields.length C2]] U5 fun e w' => e = .returned (.bool true) ∧ Below U5.heap.size U5 w') := by
  have := reqHdr_any (hdrOf s q.name) (hdrOf s q.name) _ _ U5 I1.out I2.out
  rwa [decide_eq_true rfl] at this
 have e0 := G1.out.cell 0 (v := .string (hdrOf s q.name).name) rfl
 have e1 := G1.out.cell 1 (v := .slice A1 (hdrOf s q.name).fields.length C1) rfl
 have f0 := G2.out.cell 0 (v := .string (hdrOf s q.name).name) rfl
 have f1 := G2.out.cell 1 (v := .slice A2 (hdrOf s q.name).fields.length C2) rfl
 go_wp2_with fail
 refine CE.out.mono ?_
 rintro e U6 ⟨rfl,hb⟩
 replace HB := hbst HB hb
 replace HX := hblk2 HX hb
 replace HY := hblk2 HY hb
 replace I1 := hpresH I1 hb
 replace G1 := hblk2 G1 hb
 replace I2 := hpresH I2 hb
 replace G2 := hblk2 G2 hb
 replace I3 := hpresA I3 hb
 replace G3 := hblk2 G3 hb
 replace I4 := hpresA I4 hb
 replace G4 := hblk2 G4 hb
 replace I5 := hpresT I5 hb
 replace G5 := hblk2 G5 hb
 replace I6 := hpresT I6 hb
 replace G6 := hblk2 G6 hb
 clear hb CE e0 f0 e1 f1
 have CE : Hid (Calls Tryz.prog 46 #[.agg #[.string (actOf s q.name).name,.slice A3 (actOf s q.name).params.length C3,.slice B3 (actOf s q.name).steps.length D3],.agg #[.string (actOf s q.name).name,.slice A4 (actOf s q.name).params.length C4,.slice B4 (actOf s q.name).steps.length D4]] U6 fun e w' => e = .returned (.bool true) ∧ Below U6.heap.size U6 w') := by
  have := reqAct_any (actOf s q.name) (actOf s q.name) _ _ U6 I3.out I4.out
  rwa [decide_eq_true rfl] at this
 obtain ⟨e0,e1,e2⟩ := G3.out.c3
 obtain ⟨f0,f1,f2⟩ := G4.out.c3
 go_wp2_with fail
 refine CE.out.mono ?_
 rintro e U7 ⟨rfl,hb⟩
 replace HB := hbst HB hb
 replace HX := hblk2 HX hb
 replace HY := hblk2 HY hb
 replace I1 := hpresH I1 hb
 replace G1 := hblk2 G1 hb
 replace I2 := hpresH I2 hb
 replace G2 := hblk2 G2 hb
 replace I3 := hpresA I3 hb
 replace G3 := hblk2 G3 hb
 replace I4 := hpresA I4 hb
 replace G4 := hblk2 G4 hb
 replace I5 := hpresT I5 hb
 replace G5 := hblk2 G5 hb
 replace I6 := hpresT I6 hb
 replace G6 := hblk2 G6 hb
 clear hb CE e0 f0 e1 f1 e2 f2
 have CE : Hid (Calls Tryz.prog 47 #[.agg #[.string (tblOf s q.table).name,.slice A5 (tblOf s q.table).keys.length C5,.slice B5 (tblOf s q.table).actions.length D5,.int .i64 (tblOf s q.table).size,.string (tblOf s q.table).dflt.action,.slice E5 (tblOf s q.table).dflt.args.length F5,.bool (tblOf s q.table).fixed],.agg #[.string (tblOf s q.table).name,.slice A6 (tblOf s q.table).keys.length C6,.slice B6 (tblOf s q.table).actions.length D6,.int .i64 (tblOf s q.table).size,.string (tblOf s q.table).dflt.action,.slice E6 (tblOf s q.table).dflt.args.length F6,.bool (tblOf s q.table).fixed]] U7 fun e w' => e = .returned (.bool true) ∧ Below U7.heap.size U7 w') := by
  have := reqTbl_any (tblOf s q.table) (tblOf s q.table) _ _ U7 I5.out I6.out
  rwa [decide_eq_true rfl] at this
 obtain ⟨e0,e1,e2,e3,e4,e5,e6⟩ := G5.out.c7
 obtain ⟨f0,f1,f2,f3,f4,f5,f6⟩ := G6.out.c7
 go_wp2_with fail
 refine CE.out.mono ?_
 rintro e U8 ⟨rfl,hb⟩
 replace HB := hbst HB hb
 replace HX := hblk2 HX hb
 replace HY := hblk2 HY hb
 replace I1 := hpresH I1 hb
 replace G1 := hblk2 G1 hb
 replace I2 := hpresH I2 hb
 replace G2 := hblk2 G2 hb
 replace I3 := hpresA I3 hb
 replace G3 := hblk2 G3 hb
 replace I4 := hpresA I4 hb
 replace G4 := hblk2 G4 hb
 replace I5 := hpresT I5 hb
 replace G5 := hblk2 G5 hb
 replace I6 := hpresT I6 hb
 replace G6 := hblk2 G6 hb
 clear hb CE e0 f0 e1 f1 e2 f2 e3 f3 e4 f4 e5 f5 e6 f6
 clear bh ba bt bi
 clear I1
 clear I2
 clear I3
 clear I4
 clear G1
 clear G2
 clear G3
 clear G4
 go_upto_region 9 with fail
 obtain ⟨z0,z1,z2,z3,z4,z5⟩ := HX.out.c6
 have y1 := HY.out.cell 1 (v := .string q.table) rfl
 go_wp2_with fail
 refine (widths_all _ s q.table _ (HS.out.pres (pres_below HB.out))).mono ?_
 rintro e U9 ⟨A7,C7,rfl,hI,hb⟩
 have HJ : Hid (IntRow U9 (.slice A7 (widL s q.table).length C7) (widL s q.table)) := hI
 replace HB := hbst HB hb
 replace HX := hblk2 HX hb
 replace HY := hblk2 HY hb
 replace I5 := hpresT I5 hb
 replace G5 := hblk2 G5 hb
 replace I6 := hpresT I6 hb
 replace G6 := hblk2 G6 hb
 clear z0 z1 z2 z3 z4 z5 y1
 clear hb hI
 have J1 := HJ
 clear HJ
 go_upto_region 10 with fail
 obtain ⟨z0,z1,z2,z3,z4,z5⟩ := HX.out.c6
 have y1 := HY.out.cell 1 (v := .string q.table) rfl
 go_wp2_with fail
 refine (rwidths_all _ s q.table _ (HS.out.pres (pres_below HB.out))).mono ?_
 rintro e U10 ⟨A8,C8,rfl,hI,hb⟩
 have HJ : Hid (IntRow U10 (.slice A8 (widL s q.table).length C8) (widL s q.table)) := hI
 replace HB := hbst HB hb
 replace HX := hblk2 HX hb
 replace HY := hblk2 HY hb
 replace I5 := hpresT I5 hb
 replace G5 := hblk2 G5 hb
 replace I6 := hpresT I6 hb
 replace G6 := hblk2 G6 hb
 replace J1 := hrow J1 hb
 clear z0 z1 z2 z3 z4 z5 y1
 clear hb hI
 have J2 := HJ
 clear HJ
 have hwl : (widL s q.table).length ≤ 140737488351232 := by
  obtain ⟨_,_,_,_,_,hk,_⟩ := I5.out
  have h : (tblOf s q.table).keys.length * 40 ≤ _ := hk.2
  unfold widL; rw [List.length_map]; omega
 have CE : Hid (Calls Tryz.prog 48 #[.slice A7 (widL s q.table).length C7,.slice A8 (widL s q.table).length C8] U10 fun e w' => e = .returned (.bool true) ∧ Below U10.heap.size U10 w') := by
  have := requalInt_any _ _ (widL s q.table) (widL s q.table) U10 J1.out J2.out hwl
  rwa [decide_eq_true rfl] at this
 have be : (widE s q.table != widE s q.table) = false := by simp
 clear J1 J2 hwl
 generalize (widL s q.table).length = wl at *
 generalize widE s q.table = we at *
 go_wp2_with fail
 refine CE.out.mono ?_
 rintro e U11 ⟨rfl,hb⟩
 replace HB := hbst HB hb
 replace HX := hblk2 HX hb
 replace HY := hblk2 HY hb
 replace I5 := hpresT I5 hb
 replace G5 := hblk2 G5 hb
 replace I6 := hpresT I6 hb
 replace G6 := hblk2 G6 hb
 clear hb CE be
 go_upto_region 13 with fail
 have KC1 : Hid (∀ z : Grown U11,Calls Tryz.prog 61 #[.agg #[.slice a0 n0 c0,.slice a1 n1 c1,.slice a2 n2 c2,.slice a3 n3 c3,.slice a4 n4 c4,.slice a5 n5 c5],.agg #[.string q.ref.head,.string q.ref.name]] (gw z) fun e w' => e = .returned (.int .i64 (widW s q.ref)) ∧ Below (gw z).heap.size (gw z) w') := fun z => width_any _ s q.ref _ (HS.out.pres (pres_below (bst HB.out (gw_below z) (Nat.le_refl _))))
 have KC2 : Hid (∀ z : Grown U11,Calls Tryz.prog 81 #[.agg #[.slice a0 n0 c0,.slice a1 n1 c1,.slice a2 n2 c2,.slice a3 n3 c3,.slice a4 n4 c4,.slice a5 n5 c5],.agg #[.string q.ref.head,.string q.ref.name]] (gw z) fun e w' => e = .returned (.int .i64 (widW s q.ref)) ∧ Below (gw z).heap.size (gw z) w') := fun z => rWidth_any _ s q.ref _ (HS.out.pres (pres_below (bst HB.out (gw_below z) (Nat.le_refl _))))
 have KC3 : Hid (∀ z : Grown U11,Calls Tryz.prog 20 #[.agg #[.string (tblOf s q.table).name,.slice A5 (tblOf s q.table).keys.length C5,.slice B5 (tblOf s q.table).actions.length D5,.int .i64 (tblOf s q.table).size,.string (tblOf s q.table).dflt.action,.slice E5 (tblOf s q.table).dflt.args.length F5,.bool (tblOf s q.table).fixed]] (gw z) fun e w' => e = .returned (.int .i64 (kindF (tblOf s q.table).keys 1)) ∧ Below (gw z).heap.size (gw z) w') := fun z => kind_any _ _ _ (I5.out.pres (pres_below (gw_below z)))
 have KC4 : Hid (∀ z : Grown U11,Calls Tryz.prog 21 #[.agg #[.string (tblOf s q.table).name,.slice A6 (tblOf s q.table).keys.length C6,.slice B6 (tblOf s q.table).actions.length D6,.int .i64 (tblOf s q.table).size,.string (tblOf s q.table).dflt.action,.slice E6 (tblOf s q.table).dflt.args.length F6,.bool (tblOf s q.table).fixed]] (gw z) fun e w' => e = .returned (.int .i64 (kindF (tblOf s q.table).keys 1)) ∧ Below (gw z).heap.size (gw z) w') := fun z => rkind_any _ _ _ (I6.out.pres (pres_below (gw_below z)))
 have KC5 : Hid (∀ z : Grown U11,Calls Tryz.prog 82 #[.agg #[.slice a0 n0 c0,.slice a1 n1 c1,.slice a2 n2 c2,.slice a3 n3 c3,.slice a4 n4 c4,.slice a5 n5 c5],.string q.table,.agg #[.string q.call.action,.slice qa qn qc]] (gw z) fun e w' => e = .returned (.int .i64 (callE s q.table q.call)) ∧ Below (gw z).heap.size (gw z) w') := fun z => call_any _ s q.table _ q.call _ (HS.out.pres (pres_below (bst HB.out (gw_below z) (Nat.le_refl _)))) (by obtain ⟨u,e,h1,h2⟩ := HQ.out; exact ⟨u,e,h1,h2.pres (pres_below (bst HB.out (gw_below z) (Nat.le_refl _)))⟩)
 have KC6 : Hid (∀ z : Grown U11,Calls Tryz.prog 83 #[.agg #[.slice a0 n0 c0,.slice a1 n1 c1,.slice a2 n2 c2,.slice a3 n3 c3,.slice a4 n4 c4,.slice a5 n5 c5],.string q.table,.agg #[.string q.call.action,.slice qa qn qc]] (gw z) fun e w' => e = .returned (.int .i64 (callE s q.table q.call)) ∧ Below (gw z).heap.size (gw z) w') := fun z => rcall_any _ s q.table _ q.call _ (HS.out.pres (pres_below (bst HB.out (gw_below z) (Nat.le_refl _)))) (by obtain ⟨u,e,h1,h2⟩ := HQ.out; exact ⟨u,e,h1,h2.pres (pres_below (bst HB.out (gw_below z) (Nat.le_refl _)))⟩)
 generalize widW s q.ref = wq at KC1 KC2
 generalize kindF (tblOf s q.table).keys 1 = kq at KC3 KC4
 generalize callE s q.table q.call = cq at KC5 KC6
 have z0 : ∀ z : Grown U11,(gw z).cell? ⟨xb,0,none⟩ = some (.slice a0 n0 c0) := gw_cell (HX.out.cell 0 rfl)
 have z1 : ∀ z : Grown U11,(gw z).cell? ⟨xb,1,none⟩ = some (.slice a1 n1 c1) := gw_cell (HX.out.cell 1 rfl)
 have z2 : ∀ z : Grown U11,(gw z).cell? ⟨xb,2,none⟩ = some (.slice a2 n2 c2) := gw_cell (HX.out.cell 2 rfl)
 have z3 : ∀ z : Grown U11,(gw z).cell? ⟨xb,3,none⟩ = some (.slice a3 n3 c3) := gw_cell (HX.out.cell 3 rfl)
 have z4 : ∀ z : Grown U11,(gw z).cell? ⟨xb,4,none⟩ = some (.slice a4 n4 c4) := gw_cell (HX.out.cell 4 rfl)
 have z5 : ∀ z : Grown U11,(gw z).cell? ⟨xb,5,none⟩ = some (.slice a5 n5 c5) := gw_cell (HX.out.cell 5 rfl)
 have y1 : ∀ z : Grown U11,(gw z).cell? ⟨yb,1,none⟩ = some (.string q.table) := gw_cell (HY.out.cell 1 rfl)
 have y2 : ∀ z : Grown U11,(gw z).cell? ⟨yb,2,none⟩ = some (.string q.ref.head) := gw_cell (HY.out.cell 2 rfl)
 have y3 : ∀ z : Grown U11,(gw z).cell? ⟨yb,3,none⟩ = some (.string q.ref.name) := gw_cell (HY.out.cell 3 rfl)
 have y4 : ∀ z : Grown U11,(gw z).cell? ⟨yb,4,none⟩ = some (.string q.call.action) := gw_cell (HY.out.cell 4 rfl)
 have y5 : ∀ z : Grown U11,(gw z).cell? ⟨yb,5,none⟩ = some (.slice qa qn qc) := gw_cell (HY.out.cell 5 rfl)
 have p0 : ∀ z : Grown U11,(gw z).cell? ⟨g5b,0,none⟩ = some (.string (tblOf s q.table).name) := gw_cell (G5.out.cell 0 rfl)
 have p1 : ∀ z : Grown U11,(gw z).cell? ⟨g5b,1,none⟩ = some (.slice A5 (tblOf s q.table).keys.length C5) := gw_cell (G5.out.cell 1 rfl)
 have p2 : ∀ z : Grown U11,(gw z).cell? ⟨g5b,2,none⟩ = some (.slice B5 (tblOf s q.table).actions.length D5) := gw_cell (G5.out.cell 2 rfl)
 have p3 : ∀ z : Grown U11,(gw z).cell? ⟨g5b,3,none⟩ = some (.int .i64 (tblOf s q.table).size) := gw_cell (G5.out.cell 3 rfl)
 have p4 : ∀ z : Grown U11,(gw z).cell? ⟨g5b,4,none⟩ = some (.string (tblOf s q.table).dflt.action) := gw_cell (G5.out.cell 4 rfl)
 have p5 : ∀ z : Grown U11,(gw z).cell? ⟨g5b,5,none⟩ = some (.slice E5 (tblOf s q.table).dflt.args.length F5) := gw_cell (G5.out.cell 5 rfl)
 have p6 : ∀ z : Grown U11,(gw z).cell? ⟨g5b,6,none⟩ = some (.bool (tblOf s q.table).fixed) := gw_cell (G5.out.cell 6 rfl)
 have r0 : ∀ z : Grown U11,(gw z).cell? ⟨g6b,0,none⟩ = some (.string (tblOf s q.table).name) := gw_cell (G6.out.cell 0 rfl)
 have r1 : ∀ z : Grown U11,(gw z).cell? ⟨g6b,1,none⟩ = some (.slice A6 (tblOf s q.table).keys.length C6) := gw_cell (G6.out.cell 1 rfl)
 have r2 : ∀ z : Grown U11,(gw z).cell? ⟨g6b,2,none⟩ = some (.slice B6 (tblOf s q.table).actions.length D6) := gw_cell (G6.out.cell 2 rfl)
 have r3 : ∀ z : Grown U11,(gw z).cell? ⟨g6b,3,none⟩ = some (.int .i64 (tblOf s q.table).size) := gw_cell (G6.out.cell 3 rfl)
 have r4 : ∀ z : Grown U11,(gw z).cell? ⟨g6b,4,none⟩ = some (.string (tblOf s q.table).dflt.action) := gw_cell (G6.out.cell 4 rfl)
 have r5 : ∀ z : Grown U11,(gw z).cell? ⟨g6b,5,none⟩ = some (.slice E6 (tblOf s q.table).dflt.args.length F6) := gw_cell (G6.out.cell 5 rfl)
 have r6 : ∀ z : Grown U11,(gw z).cell? ⟨g6b,6,none⟩ = some (.bool (tblOf s q.table).fixed) := gw_cell (G6.out.cell 6 rfl)
 have ew : (wq == wq) = true := by simp
 have ek : (kq == kq) = true := by simp
 have ec : (cq == cq) = true := by simp
 refine region_grows (by kernel_rfl) (by kernel_rfl) ?_
 repeat (go_big_quiet_step (first | (go_at_call 61; exact calls_gw (KC1.out _)) | (go_at_call 81; exact calls_gw (KC2.out _)) | (go_at_call 20; exact calls_gw (KC3.out _)) | (go_at_call 21; exact calls_gw (KC4.out _)) | (go_at_call 82; exact calls_gw (KC5.out _)) | (go_at_call 83; exact calls_gw (KC6.out _))))
 refine wpQuiet_nil ?_
 intro wq9 hwq
 obtain ⟨zq,hwq⟩ := hwq
 subst hwq
 have HF : Hid (Below w.heap.size w (gw zq)) := bst HB.out (gw_below zq) (Nat.le_refl _)
 generalize gw zq = WF at HF ⊢
 clear KC1 KC2 KC3 KC4 KC5 KC6 z0 z1 z2 z3 z4 z5 y1 y2 y3 y4 y5 p0 r0 p1 r1 p2 r2 p3 r3 p4 r4 p5 r5 p6 r6
 go_wp2
 go_ret
 exact ⟨rfl,HF.out⟩
end Go.Proofs.YtmbpclknhkbbkaaGreat
namespace Go.Proofs.YtmbpclknhkbbkaaGreat
open Go.ChangeShapes Go.WideShapes Go.ChangeAt Go.RowKit Go.Joins
set_option linter.unusedVariables false
set_option linter.unusedSimpArgs false

section
variable {H : Type} {enc : TypeId × Value → H} {W : World} {held : Bool}
theorem parts47 {fuel : Nat} {cs : List Value} (h : Reads enc W held fuel 47 cs) : ∃ c0 c1 c2 c3 c4 c5 m,m < fuel ∧ cs = [c0,c1,c2,c3,c4,c5] ∧ Reads enc W held m 9 [c0] ∧ Reads enc W held m 9 [c1] ∧ Reads enc W held m 42 [c2,c3] ∧ Reads enc W held m 45 [c4,c5] := by
 obtain ⟨y,h,hw⟩ := h
 obtain ⟨xs,m,rfl,rfl,hl,hlen,hf⟩ := DataW.trod_struct Tryz.underlying47 h
 obtain ⟨c0,c1,c2,c3,c4,c5,rfl⟩ := list6 (hl.trans cells47)
 obtain ⟨x0,x1,x2,x3,rfl⟩ := list4 hlen
 refine ⟨_,_,_,_,_,_,m,by omega,rfl,?_,?_,?_,?_⟩
 ·exact ⟨x0,by have := hf 0 _ rfl; simpa [cells9] using this,fun n hn => hw n (by simp [DataW.weights,DataW.weightsEach,Tryz.underlying47,hn])⟩
 ·exact ⟨x1,by have := hf 1 _ rfl; simpa [cells9] using this,fun n hn => hw n (by simp [DataW.weights,DataW.weightsEach,Tryz.underlying47,hn])⟩
 ·exact ⟨x2,by have := hf 2 _ rfl; simpa [cells42] using this,fun n hn => hw n (by simp [DataW.weights,DataW.weightsEach,Tryz.underlying47,hn])⟩
 ·exact ⟨x3,by have := hf 3 _ rfl; simpa [cells45] using this,fun n hn => hw n (by simp [DataW.weights,DataW.weightsEach,Tryz.underlying47,hn])⟩
theorem open_ask {fuel : Nat} {cs : List Value} (h : Reads enc W held fuel 47 cs) : ∃ q : Asq,cs.length = 6 ∧ AskIs W cs.toArray q := by
 obtain ⟨c0,c1,c2,c3,c4,c5,m,_,rfl,g0,g1,g2,g3⟩ := parts47 h
 obtain ⟨a,ea,ha⟩ := open_txt g0
 obtain ⟨b,eb,hb⟩ := open_txt g1
 obtain ⟨r,er,hr,hr'⟩ := open_ref g2
 obtain ⟨c,d,ec,hc,hc'⟩ := open_call g3
 cases ea; cases eb; cases er; cases ec
 exact ⟨⟨a,b,r,c⟩,rfl,_,rfl,hc,hc'⟩
theorem open_asks {fuel : Nat} {cs : List Value} (h : Reads enc W held fuel 39 cs) : ∃ v xs,cs = [v] ∧ (Row 6 AskIs W v xs ∧ Len 104 xs) := open_row Tryz.underlying39 cells47 (by decide) (show Tryz.prog.bytesOf 47 = 104 by kernel_rfl) h (fun _ _ _ g => open_ask g)
end
theorem AskIs.pres {w w' : World} {cs : Array Value} {q : Asq} (h : AskIs w cs q) (hp : Pres w w') : AskIs w' cs q := by obtain ⟨d,e,h1,h2⟩ := h; exact ⟨d,e,h1,h2.pres hp⟩
set_option maxHeartbeats 4000000 in
set_option maxRecDepth 100000 in
theorem finds_walk (v : Value) (s : Sch) (u : Value) (qs : List Asq) (w : World) (hs : SchIs w v s) (hr : Row 6 AskIs w u qs ∧ Len 104 qs) : Calls Tryz.prog 6 #[v,u] w fun e w' => e = .returned (.bool true) ∧ Below w.heap.size w w' := by
 have HS : Hid (SchIs w v s) := hs
 obtain ⟨a0,c0,a1,c1,a2,c2,a3,c3,a4,c4,a5,c5,rfl,h0,h1,h2,h3,h4,h5⟩ := hs.parts
 obtain ⟨qad,qcap,rfl,_⟩ := hr.1.slice
 have hql : qs.length * 104 ≤ 140737488351232 := hr.2
 have HQ : Hid (Row 6 AskIs w (.slice qad qs.length qcap) qs) := hr.1
 have HT : Hid (Row 7 TblIs w (.slice a4 s.tables.length c4) s.tables) := h4.1
 have htl : s.tables.length * 120 ≤ 140737488351232 := h4.2
 clear hs hr h0 h1 h2 h3 h4 h5
 generalize s.headers.length = n0 at *
 generalize s.metas.length = n1 at *
 generalize s.states.length = n2 at *
 generalize s.actions.length = n3 at *
 generalize s.control.length = n5 at *
 generalize htn : s.tables.length = n4 at *
 have HTN : Hid (n4 = s.tables.length) := htn.symm
 clear htn
 obtain ⟨m,hm⟩ : ∃ m,m = qs.length := ⟨_,rfl⟩
 have HM : Hid (m = qs.length) := hm
 rw [← hm] at hql HQ ⊢
 clear hm
 go_enter Tryz.func6,Tryz.ntmps6
 go_upto_region 1 with fail
 have HB0 : Hid (Below w.heap.size w (w.alloc (.cells #[.slice a0 n0 c0,.slice a1 n1 c1,.slice a2 n2 c2,.slice a3 n3 c3,.slice a4 n4 c4,.slice a5 n5 c5] 34))) := (Below.refl _ _).alloc (Nat.le_refl _) _
 have HX0 : Hid (Blk (w.alloc (.cells #[.slice a0 n0 c0,.slice a1 n1 c1,.slice a2 n2 c2,.slice a3 n3 c3,.slice a4 n4 c4,.slice a5 n5 c5] 34)) w.heap.size #[.slice a0 n0 c0,.slice a1 n1 c1,.slice a2 n2 c2,.slice a3 n3 c3,.slice a4 n4 c4,.slice a5 n5 c5] 34) := Blk.new _ _ _
 generalize (w.alloc _) = W0 at HB0 HX0 ⊢
 obtain ⟨xb,hxb⟩ : ∃ xb,xb = w.heap.size := ⟨_,rfl⟩
 rw [← hxb] at HX0 ⊢
 clear hxb
 go_wp2_with fail
 refine (shown_any _).mono ?_
 rintro e W1 ⟨rfl,hb⟩
 have HB1 : Hid (Below w.heap.size w W1) := bst HB0.out hb
 have HX1 := hblk HX0 hb
 clear hb HB0 HX0
 go_wp2_with fail
 go_loopw [5] (fun i wr => ∃ k : Nat,k ≤ m ∧ i = .int .i64 k ∧ Below w.heap.size w wr ∧ Blk wr xb #[.slice a0 n0 c0,.slice a1 n1 c1,.slice a2 n2 c2,.slice a3 n3 c3,.slice a4 n4 c4,.slice a5 n5 c5] 34) (fun i _ => m - (intOf i).toNat)
 case atStart => exact ⟨0,by omega,rfl,HB1.out,HX1.out⟩
 case round =>
  obtain ⟨k,hk,rfl,hb,hx⟩ := hrel
  have HB : Hid (Below w.heap.size w wr) := hb
  have HX : Hid (Blk wr xb #[.slice a0 n0 c0,.slice a1 n1 c1,.slice a2 n2 c2,.slice a3 n3 c3,.slice a4 n4 c4,.slice a5 n5 c5] 34) := hx
  clear hb hx
  by_cases hlt : k < m
  ·obtain ⟨q,hq⟩ : ∃ q,qs[k]? = some q := ⟨qs[k]'(by rw [← HM.out]; exact hlt),List.getElem?_eq_getElem _⟩
   obtain ⟨b,o,cs,rfl,_,hc,hI⟩ := HQ.out.at hq
   have hI2 := hI
   obtain ⟨d,rfl,_,hqr⟩ := hI
   obtain ⟨qa,qc,rfl,_⟩ := hqr.1.slice
   have C19 : Hid (∀ z : Grown wr,Calls Tryz.prog 19 #[.agg #[.slice a0 n0 c0,.slice a1 n1 c1,.slice a2 n2 c2,.slice a3 n3 c3,.slice a4 n4 c4,.slice a5 n5 c5],.agg #[.string q.name,.string q.table,.string q.ref.head,.string q.ref.name,.string q.call.action,.slice qa q.call.args.length qc]] (gw z) fun e w' => e = .returned (.bool true) ∧ Below (gw z).heap.size (gw z) w') := fun z => asked_any _ s q _ _ (HS.out.pres (pres_below (bst HB.out (gw_below z) (Nat.le_refl _)))) (hI2.pres (pres_below (bst HB.out (gw_below z) (Nat.le_refl _))))
   have z0 : ∀ z : Grown wr,(gw z).cell? ⟨xb,0,none⟩ = some (.slice a0 n0 c0) := gw_cell (HX.out.cell 0 rfl)
   have z1 : ∀ z : Grown wr,(gw z).cell? ⟨xb,1,none⟩ = some (.slice a1 n1 c1) := gw_cell (HX.out.cell 1 rfl)
   have z2 : ∀ z : Grown wr,(gw z).cell? ⟨xb,2,none⟩ = some (.slice a2 n2 c2) := gw_cell (HX.out.cell 2 rfl)
   have z3 : ∀ z : Grown wr,(gw z).cell? ⟨xb,3,none⟩ = some (.slice a3 n3 c3) := gw_cell (HX.out.cell 3 rfl)
   have z4 : ∀ z : Grown wr,(gw z).cell? ⟨xb,4,none⟩ = some (.slice a4 n4 c4) := gw_cell (HX.out.cell 4 rfl)
   have z5 : ∀ z : Grown wr,(gw z).cell? ⟨xb,5,none⟩ = some (.slice a5 n5 c5) := gw_cell (HX.out.cell 5 rfl)
   have y0 : ∀ z : Grown wr,(gw z).cell? ⟨b,o + k * 6,none⟩ = some (.string q.name) := gw_cell (by have := pres_below HB.out _ _ (hc 0 (.string q.name) rfl); simpa using this)
   have y1 : ∀ z : Grown wr,(gw z).cell? ⟨b,o + k * 6 + 1,none⟩ = some (.string q.table) := gw_cell (by have := pres_below HB.out _ _ (hc 1 (.string q.table) rfl); simpa using this)
   have y2 : ∀ z : Grown wr,(gw z).cell? ⟨b,o + k * 6 + 2,none⟩ = some (.string q.ref.head) := gw_cell (by have := pres_below HB.out _ _ (hc 2 (.string q.ref.head) rfl); simpa using this)
   have y3 : ∀ z : Grown wr,(gw z).cell? ⟨b,o + k * 6 + 3,none⟩ = some (.string q.ref.name) := gw_cell (by have := pres_below HB.out _ _ (hc 3 (.string q.ref.name) rfl); simpa using this)
   have y4 : ∀ z : Grown wr,(gw z).cell? ⟨b,o + k * 6 + 4,none⟩ = some (.string q.call.action) := gw_cell (by have := pres_below HB.out _ _ (hc 4 (.string q.call.action) rfl); simpa using this)
   have y5 : ∀ z : Grown wr,(gw z).cell? ⟨b,o + k * 6 + 5,none⟩ = some (.slice qa q.call.args.length qc) := gw_cell (by have := pres_below HB.out _ _ (hc 5 (.slice qa q.call.args.length qc) rfl); simpa using this)
   clear hc hq hqr hI2
   generalize q.call.args.length = ql at *
   go_upto_region 6 with fail
   refine region_grows (by kernel_rfl) (by kernel_rfl) ?_
   repeat (go_big_quiet_step ((go_at_call 19; exact calls_gw (C19.out _))))
   refine wpQuiet_nil ?_
   intro wq hwq
   obtain ⟨zq,hwq⟩ := hwq
   subst hwq
   have HB2 : Hid (Below w.heap.size w (gw zq)) := bst HB.out (gw_below zq) (Nat.le_refl _)
   have HX2 : Hid (Blk (gw zq) xb #[.slice a0 n0 c0,.slice a1 n1 c1,.slice a2 n2 c2,.slice a3 n3 c3,.slice a4 n4 c4,.slice a5 n5 c5] 34) := HX.out.below (gw_below zq)
   clear C19 HB HX z0 z1 z2 z3 z4 z5 y0 y1 y2 y3 y4 y5
   generalize gw zq = W2 at HB2 HX2 ⊢
   go_wp2
   exact ⟨⟨k + 1,by omega,by go_num,HB2.out,HX2.out⟩,by simp only [intOf]; omega⟩
  ·have e : k = m := by omega
   subst e
   obtain ⟨wo,hwo⟩ : ∃ wo,wo = wr := ⟨_,rfl⟩
   rw [← hwo] at HB HX ⊢
   clear hwo
   go_wp2_with fail
   go_loopw [7] (fun i wr => ∃ j : Nat,j ≤ n4 ∧ i = .int .i64 j ∧ Below w.heap.size w wr ∧ Blk wr xb #[.slice a0 n0 c0,.slice a1 n1 c1,.slice a2 n2 c2,.slice a3 n3 c3,.slice a4 n4 c4,.slice a5 n5 c5] 34) (fun i _ => n4 - (intOf i).toNat)
   case atStart => exact ⟨0,by omega,rfl,HB.out,HX.out⟩
   case round =>
    obtain ⟨j,hj,rfl,hb,hx⟩ := hrel
    have HB3 : Hid (Below w.heap.size w wr) := hb
    have HX3 : Hid (Blk wr xb #[.slice a0 n0 c0,.slice a1 n1 c1,.slice a2 n2 c2,.slice a3 n3 c3,.slice a4 n4 c4,.slice a5 n5 c5] 34) := hx
    clear hb hx HB HX
    by_cases hlt2 : j < n4
    ·obtain ⟨t,ht⟩ : ∃ t,s.tables[j]? = some t := ⟨s.tables[j]'(by rw [← HTN.out]; exact hlt2),List.getElem?_eq_getElem _⟩
     obtain ⟨tb,tof,cs,rfl,_,hc,hI⟩ := HT.out.at ht
     obtain ⟨ka,kc,na,nc,da,dc,rfl⟩ := tbl_cells hI
     have C20 : Hid (∀ z : Grown wr,Calls Tryz.prog 20 #[.agg #[.string t.name,.slice ka t.keys.length kc,.slice na t.actions.length nc,.int .i64 t.size,.string t.dflt.action,.slice da t.dflt.args.length dc,.bool t.fixed]] (gw z) fun e w' => e = .returned (.int .i64 (kindF t.keys 1)) ∧ Below (gw z).heap.size (gw z) w') := fun z => kind_any _ _ _ (hI.pres (pres_below (bst HB3.out (gw_below z) (Nat.le_refl _))))
     have C21 : Hid (∀ z : Grown wr,Calls Tryz.prog 21 #[.agg #[.string t.name,.slice ka t.keys.length kc,.slice na t.actions.length nc,.int .i64 t.size,.string t.dflt.action,.slice da t.dflt.args.length dc,.bool t.fixed]] (gw z) fun e w' => e = .returned (.int .i64 (kindF t.keys 1)) ∧ Below (gw z).heap.size (gw z) w') := fun z => rkind_any _ _ _ (hI.pres (pres_below (bst HB3.out (gw_below z) (Nat.le_refl _))))
     have ek : (kindF t.keys 1 != kindF t.keys 1) = false := by simp
     generalize kindF t.keys 1 = kq at C20 C21 ek
     have z4 : ∀ z : Grown wr,(gw z).cell? ⟨xb,4,none⟩ = some (.slice (some ⟨tb,tof,none⟩) n4 c4) := gw_cell (HX3.out.cell 4 rfl)
     have t0 : ∀ z : Grown wr,(gw z).cell? ⟨tb,tof + j * 7,none⟩ = some (.string t.name) := gw_cell (by have := pres_below HB3.out _ _ (hc 0 (.string t.name) rfl); simpa using this)
     have t1 : ∀ z : Grown wr,(gw z).cell? ⟨tb,tof + j * 7 + 1,none⟩ = some (.slice ka t.keys.length kc) := gw_cell (by have := pres_below HB3.out _ _ (hc 1 (.slice ka t.keys.length kc) rfl); simpa using this)
     have t2 : ∀ z : Grown wr,(gw z).cell? ⟨tb,tof + j * 7 + 2,none⟩ = some (.slice na t.actions.length nc) := gw_cell (by have := pres_below HB3.out _ _ (hc 2 (.slice na t.actions.length nc) rfl); simpa using this)
     have t3 : ∀ z : Grown wr,(gw z).cell? ⟨tb,tof + j * 7 + 3,none⟩ = some (.int .i64 t.size) := gw_cell (by have := pres_below HB3.out _ _ (hc 3 (.int .i64 t.size) rfl); simpa using this)
     have t4 : ∀ z : Grown wr,(gw z).cell? ⟨tb,tof + j * 7 + 4,none⟩ = some (.string t.dflt.action) := gw_cell (by have := pres_below HB3.out _ _ (hc 4 (.string t.dflt.action) rfl); simpa using this)
     have t5 : ∀ z : Grown wr,(gw z).cell? ⟨tb,tof + j * 7 + 5,none⟩ = some (.slice da t.dflt.args.length dc) := gw_cell (by have := pres_below HB3.out _ _ (hc 5 (.slice da t.dflt.args.length dc) rfl); simpa using this)
     have t6 : ∀ z : Grown wr,(gw z).cell? ⟨tb,tof + j * 7 + 6,none⟩ = some (.bool t.fixed) := gw_cell (by have := pres_below HB3.out _ _ (hc 6 (.bool t.fixed) rfl); simpa using this)
     clear hc ht hI
     have z4w := HX3.out.cell 4 (v := .slice (some ⟨tb,tof,none⟩) n4 c4) rfl
     go_upto_region 12 with fail
     clear z4w
     refine region_grows (by kernel_rfl) (by kernel_rfl) ?_
     repeat (go_big_quiet_step (first | (go_at_call 20; exact calls_gw (C20.out _)) | (go_at_call 21; exact calls_gw (C21.out _))))
     refine wpQuiet_nil ?_
     intro wq hwq
     obtain ⟨zq,hwq⟩ := hwq
     subst hwq
     have HB4 : Hid (Below w.heap.size w (gw zq)) := bst HB3.out (gw_below zq) (Nat.le_refl _)
     have HX4 : Hid (Blk (gw zq) xb #[.slice a0 n0 c0,.slice a1 n1 c1,.slice a2 n2 c2,.slice a3 n3 c3,.slice (some ⟨tb,tof,none⟩) n4 c4,.slice a5 n5 c5] 34) := HX3.out.below (gw_below zq)
     clear C20 C21 HB3 HX3 z4 t0 t1 t2 t3 t4 t5 t6
     generalize gw zq = W4 at HB4 HX4 ⊢
     go_wp2
     exact ⟨⟨j + 1,by omega,by go_num,HB4.out,HX4.out⟩,by simp only [intOf]; omega⟩
    ·have e : j = n4 := by omega
     subst e
     have z4 := HX3.out.cell 4 (v := .slice a4 j c4) rfl
     go_wp2
     go_ret
     exact ⟨rfl,HB3.out⟩
end Go.Proofs.YtmbpclknhkbbkaaGreat
