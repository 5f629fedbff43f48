/- The document's sameness of headers and calls. -/
import Derived.Test.YtmbpclknhkbbkaaGreatVe
import Derived.Test.YtmbpclknhkbbkaaGreatB21
import Derived.Test.YtmbpclknhkbbkaaGreatB33
set_option linter.unusedSimpArgs false
set_option linter.unusedVariables false
namespace Go.Proofs.YtmbpclknhkbbkaaGreat
open Go.RowKit
set_option linter.unusedVariables false
set_option linter.unusedSimpArgs false

set_option maxHeartbeats 1000000 in
theorem reqHdr_any (x y : Hdr) (cs ds : Array Value) (w : World) (hI : HdrIs w cs x) (hJ : HdrIs w ds y) : Calls Tryz.prog 45 #[.agg cs,.agg ds] w fun e w' => e = .returned (.bool (decide (x = y))) ∧ Below w.heap.size w w' := by
 obtain ⟨v,rfl,_,hf⟩ := hI
 obtain ⟨u,rfl,_,hg⟩ := hJ
 obtain ⟨a1,c1,rfl,_⟩ := hf.1.slice
 obtain ⟨a2,c2,rfl,_⟩ := hg.1.slice
 have HB0 := hstart2 w 60 #[.string x.name,.slice a1 x.fields.length c1] #[.string y.name,.slice a2 y.fields.length c2]
 have C : Hid (∀ W,Pres w W → Calls Tryz.prog 107 #[.slice a1 x.fields.length c1,.slice a2 y.fields.length c2] W fun e w' => e = .returned (.bool (decide (x.fields = y.fields))) ∧ Below W.heap.size W w') := fun W hp => requalFld_any _ _ _ _ W (hf.pres hp).1 (hg.pres hp).1 (by have h : x.fields.length * 24 ≤ _ := hf.2; omega)
 have HE : Hid (decide (x = y) = (decide (x.name = y.name) && decide (x.fields = y.fields))) := by
  show _ = _
  rw [Bool.eq_iff_iff]; cases x; cases y; simp
 have ht : (x.name.toList == y.name.toList) = decide (x.name = y.name) := txt_eq _ _
 generalize decide (x = y) = R at *
 generalize decide (x.name = y.name) = bn at *
 generalize decide (x.fields = y.fields) = bl at *
 clear hf hg
 go_enter Tryz.func45,Tryz.ntmps45
 go_upto_region 1 with fail
 generalize ((w.alloc _).alloc _) = W0 at HB0 ⊢
 have p0 := HB0.out.one.cell 0 (v := .string x.name) rfl
 have p1 := HB0.out.one.cell 1 (v := .slice a1 x.fields.length c1) rfl
 have q0 := HB0.out.two.cell 0 (v := .string y.name) rfl
 have q1 := HB0.out.two.cell 1 (v := .slice a2 y.fields.length c2) rfl
 go_wp2_with fail
 refine (C.out _ (pres_below HB0.out.below)).mono ?_
 rintro e V ⟨rfl,hb⟩
 have HB1 := hkeep2 HB0 hb
 clear hb HB0 C p0 p1 q0 q1
 have p0 := HB1.out.one.cell 0 (v := .string x.name) rfl
 have q0 := HB1.out.two.cell 0 (v := .string y.name) rfl
 cases bn
 all_goals
  go_wp2
  go_ret
  exact ⟨by rw [HE.out]; rfl,HB1.out.below⟩
set_option maxHeartbeats 1000000 in
theorem reqCall_any (x y : Cl) (v v' : Value) (w : World) (hf : BitRow w v x.args) (hg : BitRow w v' y.args) : Calls Tryz.prog 132 #[(.agg #[.string x.action,v]),(.agg #[.string y.action,v'])] w fun e w' => e = .returned (.bool (decide (x = y))) ∧ Below w.heap.size w w' := by
 obtain ⟨a1,c1,rfl,_⟩ := hf.1.slice
 obtain ⟨a2,c2,rfl,_⟩ := hg.1.slice
 have HB0 := hstart2 w 45 #[.string x.action,.slice a1 x.args.length c1] #[.string y.action,.slice a2 y.args.length c2]
 have C : Hid (∀ W,Pres w W → Calls Tryz.prog 196 #[.slice a1 x.args.length c1,.slice a2 y.args.length c2] W fun e w' => e = .returned (.bool (decide (x.args = y.args))) ∧ Below W.heap.size W w') := fun W hp => requalBit_any _ _ _ _ W (hf.pres hp).1 (hg.pres hp).1 (by have h : x.args.length * 16 ≤ _ := hf.2; omega)
 have HE : Hid (decide (x = y) = (decide (x.action = y.action) && decide (x.args = y.args))) := by
  show _ = _
  rw [Bool.eq_iff_iff]; cases x; cases y; simp
 have ht : (x.action.toList == y.action.toList) = decide (x.action = y.action) := txt_eq _ _
 generalize decide (x = y) = R at *
 generalize decide (x.action = y.action) = bn at *
 generalize decide (x.args = y.args) = bl at *
 clear hf hg
 go_enter Tryz.func132,Tryz.ntmps132
 go_upto_region 1 with fail
 generalize ((w.alloc _).alloc _) = W0 at HB0 ⊢
 have p0 := HB0.out.one.cell 0 (v := .string x.action) rfl
 have p1 := HB0.out.one.cell 1 (v := .slice a1 x.args.length c1) rfl
 have q0 := HB0.out.two.cell 0 (v := .string y.action) rfl
 have q1 := HB0.out.two.cell 1 (v := .slice a2 y.args.length c2) rfl
 go_wp2_with fail
 refine (C.out _ (pres_below HB0.out.below)).mono ?_
 rintro e V ⟨rfl,hb⟩
 have HB1 := hkeep2 HB0 hb
 clear hb HB0 C p0 p1 q0 q1
 have p0 := HB1.out.one.cell 0 (v := .string x.action) rfl
 have q0 := HB1.out.two.cell 0 (v := .string y.action) rfl
 cases bn
 all_goals
  go_wp2
  go_ret
  exact ⟨by rw [HE.out]; rfl,HB1.out.below⟩
end Go.Proofs.YtmbpclknhkbbkaaGreat
