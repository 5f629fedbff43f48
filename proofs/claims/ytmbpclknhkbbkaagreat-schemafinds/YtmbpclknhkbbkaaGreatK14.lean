/- Package schema: whether two things are the same. -/
import Derived.Test.YtmbpclknhkbbkaaGreatK37
import Derived.Test.YtmbpclknhkbbkaaGreatK43
import Derived.Test.YtmbpclknhkbbkaaGreatK33
import Derived.Test.YtmbpclknhkbbkaaGreatK32
import Derived.Deep.CutRange
set_option linter.unusedSimpArgs false
set_option linter.unusedVariables false
namespace Go.Proofs.YtmbpclknhkbbkaaGreat
open Go.RowKit
set_option linter.unusedVariables false
set_option linter.unusedSimpArgs false

set_option maxHeartbeats 2000000 in
set_option maxRecDepth 100000 in
theorem sameTbl_any (x y : Tbl) (cs ds : Array Value) (w : World) (hI : TblIs w cs x) (hJ : TblIs w ds y) : Calls Tryz.prog 118 #[.agg cs,.agg ds] w fun e w' => e = .returned (.bool (decide (x = y))) ∧ Below w.heap.size w w' := by
 obtain ⟨v0,v1,v2,e1,_,hf0,hf1,hf2⟩ := hI
 obtain ⟨u0,u1,u2,e2,_,hg0,hg1,hg2⟩ := hJ
 obtain ⟨ax0,cx0,rfl,_⟩ := hf0.1.slice
 obtain ⟨ay0,cy0,rfl,_⟩ := hg0.1.slice
 obtain ⟨ax1,cx1,rfl,_⟩ := hf1.1.slice
 obtain ⟨ay1,cy1,rfl,_⟩ := hg1.1.slice
 obtain ⟨ax2,cx2,rfl,_⟩ := hf2.1.slice
 obtain ⟨ay2,cy2,rfl,_⟩ := hg2.1.slice
 obtain ⟨n1,g1,q1,i1,d1,b1⟩ := x
 obtain ⟨n2,g2,q2,i2,d2,b2⟩ := y
 simp only at *
 subst e1
 subst e2
 by_cases hz0 : n1 = n2
 ·subst hz0
  by_cases hz1 : g1 = g2
  ·subst hz1
   by_cases hz2 : q1 = q2
   ·subst hz2
    by_cases hz3 : i1 = i2
    ·subst hz3
     by_cases hz4 : d1 = d2
     ·subst hz4
      by_cases hz5 : b1 = b2
      ·subst hz5
       have E : Hid (decide ((⟨n1,g1,q1,i1,d1,b1⟩ : Tbl) = ⟨n1,g1,q1,i1,d1,b1⟩) = true) := decide_eq_true rfl
       have C1 : Hid (∀ W,Pres w W → Calls Tryz.prog 187 #[.slice ax0 g1.length cx0,.slice ay0 g1.length cy0] W fun e w' => e = .returned (.bool true) ∧ Below W.heap.size W w') := fun W hp => by have h := equalKy_any _ _ _ _ W (hf0.pres hp).1 (hg0.pres hp).1 (by have h : g1.length * 40 ≤ _ := hf0.2; omega); rw [decide_eq_true rfl] at h; exact h
       have C2 : Hid (∀ W,Pres w W → Calls Tryz.prog 188 #[.slice ax1 q1.length cx1,.slice ay1 q1.length cy1] W fun e w' => e = .returned (.bool true) ∧ Below W.heap.size W w') := fun W hp => by have h := equalTxt_any _ _ _ _ W (hf1.pres hp).1 (hg1.pres hp).1 (by have h : q1.length * 16 ≤ _ := hf1.2; omega); rw [decide_eq_true rfl] at h; exact h
       have C4 : Hid (∀ W,Pres w W → Calls Tryz.prog 189 #[.agg #[.string d1.action,.slice ax2 d1.args.length cx2],.agg #[.string d1.action,.slice ay2 d1.args.length cy2]] W fun e w' => e = .returned (.bool true) ∧ Below W.heap.size W w') := fun W hp => by have h := sameCall_any d1 d1 _ _ W (hf2.pres hp) (hg2.pres hp); rw [decide_eq_true rfl] at h; exact h
       have HB0 := hstart2 w 51 #[.string n1,.slice ax0 g1.length cx0,.slice ax1 q1.length cx1,.int .i64 i1,.string d1.action,.slice ax2 d1.args.length cx2,.bool b1] #[.string n1,.slice ay0 g1.length cy0,.slice ay1 q1.length cy1,.int .i64 i1,.string d1.action,.slice ay2 d1.args.length cy2,.bool b1]
       clear hf0 hg0 hf1 hg1 hf2 hg2
       go_enter Tryz.func118,Tryz.ntmps118
       go_upto_region 1 with fail
       generalize ((w.alloc _).alloc _) = W0 at HB0 ⊢
       obtain ⟨pp0,pp1,pp2,pp3,pp4,pp5,pp6⟩ := HB0.out.one.c7
       obtain ⟨qq0,qq1,qq2,qq3,qq4,qq5,qq6⟩ := HB0.out.two.c7
       go_wp2_with fail
       refine (C1.out _ (pres_below HB0.out.below)).mono ?_
       rintro e V0 ⟨rfl,hb0⟩
       have HB1 := hkeep2 HB0 hb0
       clear hb0 HB0 pp0 pp1 pp2 pp3 pp4 pp5 pp6 qq0 qq1 qq2 qq3 qq4 qq5 qq6
       obtain ⟨pp0,pp1,pp2,pp3,pp4,pp5,pp6⟩ := HB1.out.one.c7
       obtain ⟨qq0,qq1,qq2,qq3,qq4,qq5,qq6⟩ := HB1.out.two.c7
       go_wp2_with fail
       refine (C2.out _ (pres_below HB1.out.below)).mono ?_
       rintro e V1 ⟨rfl,hb1⟩
       have HB2 := hkeep2 HB1 hb1
       clear hb1 HB1 pp0 pp1 pp2 pp3 pp4 pp5 pp6 qq0 qq1 qq2 qq3 qq4 qq5 qq6
       obtain ⟨pp0,pp1,pp2,pp3,pp4,pp5,pp6⟩ := HB2.out.one.c7
       obtain ⟨qq0,qq1,qq2,qq3,qq4,qq5,qq6⟩ := HB2.out.two.c7
       go_wp2_with fail
       refine (C4.out _ (pres_below HB2.out.below)).mono ?_
       rintro e V2 ⟨rfl,hb2⟩
       have HB3 := hkeep2 HB2 hb2
       clear hb2 HB2 pp0 pp1 pp2 pp3 pp4 pp5 pp6 qq0 qq1 qq2 qq3 qq4 qq5 qq6
       obtain ⟨pp0,pp1,pp2,pp3,pp4,pp5,pp6⟩ := HB3.out.one.c7
       obtain ⟨qq0,qq1,qq2,qq3,qq4,qq5,qq6⟩ := HB3.out.two.c7
       go_wp2
       go_ret
       exact ⟨by rw [E.out]; rfl,HB3.out.below⟩
      ·have E : Hid (decide ((⟨n1,g1,q1,i1,d1,b1⟩ : Tbl) = ⟨n1,g1,q1,i1,d1,b2⟩) = false) := decide_eq_false (fun h => hz5 (by cases h; rfl))
       have ht : (b1 == b2) = false := by simpa using hz5
       have C1 : Hid (∀ W,Pres w W → Calls Tryz.prog 187 #[.slice ax0 g1.length cx0,.slice ay0 g1.length cy0] W fun e w' => e = .returned (.bool true) ∧ Below W.heap.size W w') := fun W hp => by have h := equalKy_any _ _ _ _ W (hf0.pres hp).1 (hg0.pres hp).1 (by have h : g1.length * 40 ≤ _ := hf0.2; omega); rw [decide_eq_true rfl] at h; exact h
       have C2 : Hid (∀ W,Pres w W → Calls Tryz.prog 188 #[.slice ax1 q1.length cx1,.slice ay1 q1.length cy1] W fun e w' => e = .returned (.bool true) ∧ Below W.heap.size W w') := fun W hp => by have h := equalTxt_any _ _ _ _ W (hf1.pres hp).1 (hg1.pres hp).1 (by have h : q1.length * 16 ≤ _ := hf1.2; omega); rw [decide_eq_true rfl] at h; exact h
       have C4 : Hid (∀ W,Pres w W → Calls Tryz.prog 189 #[.agg #[.string d1.action,.slice ax2 d1.args.length cx2],.agg #[.string d1.action,.slice ay2 d1.args.length cy2]] W fun e w' => e = .returned (.bool true) ∧ Below W.heap.size W w') := fun W hp => by have h := sameCall_any d1 d1 _ _ W (hf2.pres hp) (hg2.pres hp); rw [decide_eq_true rfl] at h; exact h
       have HB0 := hstart2 w 51 #[.string n1,.slice ax0 g1.length cx0,.slice ax1 q1.length cx1,.int .i64 i1,.string d1.action,.slice ax2 d1.args.length cx2,.bool b1] #[.string n1,.slice ay0 g1.length cy0,.slice ay1 q1.length cy1,.int .i64 i1,.string d1.action,.slice ay2 d1.args.length cy2,.bool b2]
       clear hf0 hg0 hf1 hg1 hf2 hg2
       clear hz5
       go_enter Tryz.func118,Tryz.ntmps118
       go_upto_region 1 with fail
       generalize ((w.alloc _).alloc _) = W0 at HB0 ⊢
       obtain ⟨pp0,pp1,pp2,pp3,pp4,pp5,pp6⟩ := HB0.out.one.c7
       obtain ⟨qq0,qq1,qq2,qq3,qq4,qq5,qq6⟩ := HB0.out.two.c7
       go_wp2_with fail
       refine (C1.out _ (pres_below HB0.out.below)).mono ?_
       rintro e V0 ⟨rfl,hb0⟩
       have HB1 := hkeep2 HB0 hb0
       clear hb0 HB0 pp0 pp1 pp2 pp3 pp4 pp5 pp6 qq0 qq1 qq2 qq3 qq4 qq5 qq6
       obtain ⟨pp0,pp1,pp2,pp3,pp4,pp5,pp6⟩ := HB1.out.one.c7
       obtain ⟨qq0,qq1,qq2,qq3,qq4,qq5,qq6⟩ := HB1.out.two.c7
       go_wp2_with fail
       refine (C2.out _ (pres_below HB1.out.below)).mono ?_
       rintro e V1 ⟨rfl,hb1⟩
       have HB2 := hkeep2 HB1 hb1
       clear hb1 HB1 pp0 pp1 pp2 pp3 pp4 pp5 pp6 qq0 qq1 qq2 qq3 qq4 qq5 qq6
       obtain ⟨pp0,pp1,pp2,pp3,pp4,pp5,pp6⟩ := HB2.out.one.c7
       obtain ⟨qq0,qq1,qq2,qq3,qq4,qq5,qq6⟩ := HB2.out.two.c7
       go_wp2_with fail
       refine (C4.out _ (pres_below HB2.out.below)).mono ?_
       rintro e V2 ⟨rfl,hb2⟩
       have HB3 := hkeep2 HB2 hb2
       clear hb2 HB2 pp0 pp1 pp2 pp3 pp4 pp5 pp6 qq0 qq1 qq2 qq3 qq4 qq5 qq6
       obtain ⟨pp0,pp1,pp2,pp3,pp4,pp5,pp6⟩ := HB3.out.one.c7
       obtain ⟨qq0,qq1,qq2,qq3,qq4,qq5,qq6⟩ := HB3.out.two.c7
       go_wp2
       go_ret
       exact ⟨by rw [E.out]; rfl,HB3.out.below⟩
     ·have E : Hid (decide ((⟨n1,g1,q1,i1,d1,b1⟩ : Tbl) = ⟨n1,g1,q1,i1,d2,b2⟩) = false) := decide_eq_false (fun h => hz4 (by cases h; rfl))
      have C1 : Hid (∀ W,Pres w W → Calls Tryz.prog 187 #[.slice ax0 g1.length cx0,.slice ay0 g1.length cy0] W fun e w' => e = .returned (.bool true) ∧ Below W.heap.size W w') := fun W hp => by have h := equalKy_any _ _ _ _ W (hf0.pres hp).1 (hg0.pres hp).1 (by have h : g1.length * 40 ≤ _ := hf0.2; omega); rw [decide_eq_true rfl] at h; exact h
      have C2 : Hid (∀ W,Pres w W → Calls Tryz.prog 188 #[.slice ax1 q1.length cx1,.slice ay1 q1.length cy1] W fun e w' => e = .returned (.bool true) ∧ Below W.heap.size W w') := fun W hp => by have h := equalTxt_any _ _ _ _ W (hf1.pres hp).1 (hg1.pres hp).1 (by have h : q1.length * 16 ≤ _ := hf1.2; omega); rw [decide_eq_true rfl] at h; exact h
      have C4 : Hid (∀ W,Pres w W → Calls Tryz.prog 189 #[.agg #[.string d1.action,.slice ax2 d1.args.length cx2],.agg #[.string d2.action,.slice ay2 d2.args.length cy2]] W fun e w' => e = .returned (.bool false) ∧ Below W.heap.size W w') := fun W hp => by have h := sameCall_any d1 d2 _ _ W (hf2.pres hp) (hg2.pres hp); rw [decide_eq_false hz4] at h; exact h
      have HB0 := hstart2 w 51 #[.string n1,.slice ax0 g1.length cx0,.slice ax1 q1.length cx1,.int .i64 i1,.string d1.action,.slice ax2 d1.args.length cx2,.bool b1] #[.string n1,.slice ay0 g1.length cy0,.slice ay1 q1.length cy1,.int .i64 i1,.string d2.action,.slice ay2 d2.args.length cy2,.bool b2]
      clear hf0 hg0 hf1 hg1 hf2 hg2
      clear hz4
      go_enter Tryz.func118,Tryz.ntmps118
      go_upto_region 1 with fail
      generalize ((w.alloc _).alloc _) = W0 at HB0 ⊢
      obtain ⟨pp0,pp1,pp2,pp3,pp4,pp5,pp6⟩ := HB0.out.one.c7
      obtain ⟨qq0,qq1,qq2,qq3,qq4,qq5,qq6⟩ := HB0.out.two.c7
      go_wp2_with fail
      refine (C1.out _ (pres_below HB0.out.below)).mono ?_
      rintro e V0 ⟨rfl,hb0⟩
      have HB1 := hkeep2 HB0 hb0
      clear hb0 HB0 pp0 pp1 pp2 pp3 pp4 pp5 pp6 qq0 qq1 qq2 qq3 qq4 qq5 qq6
      obtain ⟨pp0,pp1,pp2,pp3,pp4,pp5,pp6⟩ := HB1.out.one.c7
      obtain ⟨qq0,qq1,qq2,qq3,qq4,qq5,qq6⟩ := HB1.out.two.c7
      go_wp2_with fail
      refine (C2.out _ (pres_below HB1.out.below)).mono ?_
      rintro e V1 ⟨rfl,hb1⟩
      have HB2 := hkeep2 HB1 hb1
      clear hb1 HB1 pp0 pp1 pp2 pp3 pp4 pp5 pp6 qq0 qq1 qq2 qq3 qq4 qq5 qq6
      obtain ⟨pp0,pp1,pp2,pp3,pp4,pp5,pp6⟩ := HB2.out.one.c7
      obtain ⟨qq0,qq1,qq2,qq3,qq4,qq5,qq6⟩ := HB2.out.two.c7
      go_wp2_with fail
      refine (C4.out _ (pres_below HB2.out.below)).mono ?_
      rintro e V2 ⟨rfl,hb2⟩
      have HB3 := hkeep2 HB2 hb2
      clear hb2 HB2 pp0 pp1 pp2 pp3 pp4 pp5 pp6 qq0 qq1 qq2 qq3 qq4 qq5 qq6
      obtain ⟨pp0,pp1,pp2,pp3,pp4,pp5,pp6⟩ := HB3.out.one.c7
      obtain ⟨qq0,qq1,qq2,qq3,qq4,qq5,qq6⟩ := HB3.out.two.c7
      go_wp2
      go_ret
      exact ⟨by rw [E.out]; rfl,HB3.out.below⟩
    ·have E : Hid (decide ((⟨n1,g1,q1,i1,d1,b1⟩ : Tbl) = ⟨n1,g1,q1,i2,d2,b2⟩) = false) := decide_eq_false (fun h => hz3 (by cases h; rfl))
     have ht : (i1 == i2) = false := by simpa using hz3
     have C1 : Hid (∀ W,Pres w W → Calls Tryz.prog 187 #[.slice ax0 g1.length cx0,.slice ay0 g1.length cy0] W fun e w' => e = .returned (.bool true) ∧ Below W.heap.size W w') := fun W hp => by have h := equalKy_any _ _ _ _ W (hf0.pres hp).1 (hg0.pres hp).1 (by have h : g1.length * 40 ≤ _ := hf0.2; omega); rw [decide_eq_true rfl] at h; exact h
     have C2 : Hid (∀ W,Pres w W → Calls Tryz.prog 188 #[.slice ax1 q1.length cx1,.slice ay1 q1.length cy1] W fun e w' => e = .returned (.bool true) ∧ Below W.heap.size W w') := fun W hp => by have h := equalTxt_any _ _ _ _ W (hf1.pres hp).1 (hg1.pres hp).1 (by have h : q1.length * 16 ≤ _ := hf1.2; omega); rw [decide_eq_true rfl] at h; exact h
     have HB0 := hstart2 w 51 #[.string n1,.slice ax0 g1.length cx0,.slice ax1 q1.length cx1,.int .i64 i1,.string d1.action,.slice ax2 d1.args.length cx2,.bool b1] #[.string n1,.slice ay0 g1.length cy0,.slice ay1 q1.length cy1,.int .i64 i2,.string d2.action,.slice ay2 d2.args.length cy2,.bool b2]
     clear hf0 hg0 hf1 hg1 hf2 hg2
     clear hz3
     go_enter Tryz.func118,Tryz.ntmps118
     go_upto_region 1 with fail
     generalize ((w.alloc _).alloc _) = W0 at HB0 ⊢
     obtain ⟨pp0,pp1,pp2,pp3,pp4,pp5,pp6⟩ := HB0.out.one.c7
     obtain ⟨qq0,qq1,qq2,qq3,qq4,qq5,qq6⟩ := HB0.out.two.c7
     go_wp2_with fail
     refine (C1.out _ (pres_below HB0.out.below)).mono ?_
     rintro e V0 ⟨rfl,hb0⟩
     have HB1 := hkeep2 HB0 hb0
     clear hb0 HB0 pp0 pp1 pp2 pp3 pp4 pp5 pp6 qq0 qq1 qq2 qq3 qq4 qq5 qq6
     obtain ⟨pp0,pp1,pp2,pp3,pp4,pp5,pp6⟩ := HB1.out.one.c7
     obtain ⟨qq0,qq1,qq2,qq3,qq4,qq5,qq6⟩ := HB1.out.two.c7
     go_wp2_with fail
     refine (C2.out _ (pres_below HB1.out.below)).mono ?_
     rintro e V1 ⟨rfl,hb1⟩
     have HB2 := hkeep2 HB1 hb1
     clear hb1 HB1 pp0 pp1 pp2 pp3 pp4 pp5 pp6 qq0 qq1 qq2 qq3 qq4 qq5 qq6
     obtain ⟨pp0,pp1,pp2,pp3,pp4,pp5,pp6⟩ := HB2.out.one.c7
     obtain ⟨qq0,qq1,qq2,qq3,qq4,qq5,qq6⟩ := HB2.out.two.c7
     go_wp2
     go_ret
     exact ⟨by rw [E.out]; rfl,HB2.out.below⟩
   ·have E : Hid (decide ((⟨n1,g1,q1,i1,d1,b1⟩ : Tbl) = ⟨n1,g1,q2,i2,d2,b2⟩) = false) := decide_eq_false (fun h => hz2 (by cases h; rfl))
    have C1 : Hid (∀ W,Pres w W → Calls Tryz.prog 187 #[.slice ax0 g1.length cx0,.slice ay0 g1.length cy0] W fun e w' => e = .returned (.bool true) ∧ Below W.heap.size W w') := fun W hp => by have h := equalKy_any _ _ _ _ W (hf0.pres hp).1 (hg0.pres hp).1 (by have h : g1.length * 40 ≤ _ := hf0.2; omega); rw [decide_eq_true rfl] at h; exact h
    have C2 : Hid (∀ W,Pres w W → Calls Tryz.prog 188 #[.slice ax1 q1.length cx1,.slice ay1 q2.length cy1] W fun e w' => e = .returned (.bool false) ∧ Below W.heap.size W w') := fun W hp => by have h := equalTxt_any _ _ _ _ W (hf1.pres hp).1 (hg1.pres hp).1 (by have h : q1.length * 16 ≤ _ := hf1.2; omega); rw [decide_eq_false hz2] at h; exact h
    have HB0 := hstart2 w 51 #[.string n1,.slice ax0 g1.length cx0,.slice ax1 q1.length cx1,.int .i64 i1,.string d1.action,.slice ax2 d1.args.length cx2,.bool b1] #[.string n1,.slice ay0 g1.length cy0,.slice ay1 q2.length cy1,.int .i64 i2,.string d2.action,.slice ay2 d2.args.length cy2,.bool b2]
    clear hf0 hg0 hf1 hg1 hf2 hg2
    clear hz2
    go_enter Tryz.func118,Tryz.ntmps118
    go_upto_region 1 with fail
    generalize ((w.alloc _).alloc _) = W0 at HB0 ⊢
    obtain ⟨pp0,pp1,pp2,pp3,pp4,pp5,pp6⟩ := HB0.out.one.c7
    obtain ⟨qq0,qq1,qq2,qq3,qq4,qq5,qq6⟩ := HB0.out.two.c7
    go_wp2_with fail
    refine (C1.out _ (pres_below HB0.out.below)).mono ?_
    rintro e V0 ⟨rfl,hb0⟩
    have HB1 := hkeep2 HB0 hb0
    clear hb0 HB0 pp0 pp1 pp2 pp3 pp4 pp5 pp6 qq0 qq1 qq2 qq3 qq4 qq5 qq6
    obtain ⟨pp0,pp1,pp2,pp3,pp4,pp5,pp6⟩ := HB1.out.one.c7
    obtain ⟨qq0,qq1,qq2,qq3,qq4,qq5,qq6⟩ := HB1.out.two.c7
    go_wp2_with fail
    refine (C2.out _ (pres_below HB1.out.below)).mono ?_
    rintro e V1 ⟨rfl,hb1⟩
    have HB2 := hkeep2 HB1 hb1
    clear hb1 HB1 pp0 pp1 pp2 pp3 pp4 pp5 pp6 qq0 qq1 qq2 qq3 qq4 qq5 qq6
    obtain ⟨pp0,pp1,pp2,pp3,pp4,pp5,pp6⟩ := HB2.out.one.c7
    obtain ⟨qq0,qq1,qq2,qq3,qq4,qq5,qq6⟩ := HB2.out.two.c7
    go_wp2
    go_ret
    exact ⟨by rw [E.out]; rfl,HB2.out.below⟩
  ·have E : Hid (decide ((⟨n1,g1,q1,i1,d1,b1⟩ : Tbl) = ⟨n1,g2,q2,i2,d2,b2⟩) = false) := decide_eq_false (fun h => hz1 (by cases h; rfl))
   have C1 : Hid (∀ W,Pres w W → Calls Tryz.prog 187 #[.slice ax0 g1.length cx0,.slice ay0 g2.length cy0] W fun e w' => e = .returned (.bool false) ∧ Below W.heap.size W w') := fun W hp => by have h := equalKy_any _ _ _ _ W (hf0.pres hp).1 (hg0.pres hp).1 (by have h : g1.length * 40 ≤ _ := hf0.2; omega); rw [decide_eq_false hz1] at h; exact h
   have HB0 := hstart2 w 51 #[.string n1,.slice ax0 g1.length cx0,.slice ax1 q1.length cx1,.int .i64 i1,.string d1.action,.slice ax2 d1.args.length cx2,.bool b1] #[.string n1,.slice ay0 g2.length cy0,.slice ay1 q2.length cy1,.int .i64 i2,.string d2.action,.slice ay2 d2.args.length cy2,.bool b2]
   clear hf0 hg0 hf1 hg1 hf2 hg2
   clear hz1
   go_enter Tryz.func118,Tryz.ntmps118
   go_upto_region 1 with fail
   generalize ((w.alloc _).alloc _) = W0 at HB0 ⊢
   obtain ⟨pp0,pp1,pp2,pp3,pp4,pp5,pp6⟩ := HB0.out.one.c7
   obtain ⟨qq0,qq1,qq2,qq3,qq4,qq5,qq6⟩ := HB0.out.two.c7
   go_wp2_with fail
   refine (C1.out _ (pres_below HB0.out.below)).mono ?_
   rintro e V0 ⟨rfl,hb0⟩
   have HB1 := hkeep2 HB0 hb0
   clear hb0 HB0 pp0 pp1 pp2 pp3 pp4 pp5 pp6 qq0 qq1 qq2 qq3 qq4 qq5 qq6
   obtain ⟨pp0,pp1,pp2,pp3,pp4,pp5,pp6⟩ := HB1.out.one.c7
   obtain ⟨qq0,qq1,qq2,qq3,qq4,qq5,qq6⟩ := HB1.out.two.c7
   go_wp2
   go_ret
   exact ⟨by rw [E.out]; rfl,HB1.out.below⟩
 ·have E : Hid (decide ((⟨n1,g1,q1,i1,d1,b1⟩ : Tbl) = ⟨n2,g2,q2,i2,d2,b2⟩) = false) := decide_eq_false (fun h => hz0 (by cases h; rfl))
  have ht : (n1.toList == n2.toList) = false := by rw [txt_eq]; exact decide_eq_false hz0
  have HB0 := hstart2 w 51 #[.string n1,.slice ax0 g1.length cx0,.slice ax1 q1.length cx1,.int .i64 i1,.string d1.action,.slice ax2 d1.args.length cx2,.bool b1] #[.string n2,.slice ay0 g2.length cy0,.slice ay1 q2.length cy1,.int .i64 i2,.string d2.action,.slice ay2 d2.args.length cy2,.bool b2]
  clear hf0 hg0 hf1 hg1 hf2 hg2
  clear hz0
  go_enter Tryz.func118,Tryz.ntmps118
  go_upto_region 1 with fail
  generalize ((w.alloc _).alloc _) = W0 at HB0 ⊢
  obtain ⟨pp0,pp1,pp2,pp3,pp4,pp5,pp6⟩ := HB0.out.one.c7
  obtain ⟨qq0,qq1,qq2,qq3,qq4,qq5,qq6⟩ := HB0.out.two.c7
  go_wp2
  go_ret
  exact ⟨by rw [E.out]; rfl,HB0.out.below⟩
end Go.Proofs.YtmbpclknhkbbkaaGreat
