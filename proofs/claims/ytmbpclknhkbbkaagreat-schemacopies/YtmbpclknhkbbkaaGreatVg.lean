/- The document's sameness of actions and tables. -/
import Derived.Test.YtmbpclknhkbbkaaGreatVf
import Derived.Test.YtmbpclknhkbbkaaGreatB33
set_option linter.unusedSimpArgs false
set_option linter.unusedVariables false
namespace Go.Proofs.YtmbpclknhkbbkaaGreat
open Go.RowKit
set_option linter.unusedVariables false
set_option linter.unusedSimpArgs false

theorem drewN_two (w : World) (a b : Nat) : (w.drewN a).drewN b = w.drewN (a + b) := by simp [World.drewN,Nat.add_assoc]
set_option maxHeartbeats 2000000 in
set_option maxRecDepth 100000 in
theorem reqAct_any (x y : Actn) (cs ds : Array Value) (w : World) (hI : ActIs w cs x) (hJ : ActIs w ds y) : Calls Tryz.prog 46 #[.agg cs,.agg ds] w fun e w' => e = .returned (.bool (decide (x = y))) ∧ Below w.heap.size w w' := by
 obtain ⟨v,v2,rfl,_,hf,hf2⟩ := hI
 obtain ⟨u,u2,rfl,_,hg,hg2⟩ := hJ
 obtain ⟨a1,c1,rfl,_⟩ := hf.1.slice
 obtain ⟨a2,c2,rfl,_⟩ := hg.1.slice
 obtain ⟨a3,c3,rfl,_⟩ := hf2.1.slice
 obtain ⟨a4,c4,rfl,_⟩ := hg2.1.slice
 have HB0 := hstart2 w 65 #[.string x.name,.slice a1 x.params.length c1,.slice a3 x.steps.length c3] #[.string y.name,.slice a2 y.params.length c2,.slice a4 y.steps.length c4]
 have C : Hid (∀ W,Pres w W → Calls Tryz.prog 107 #[.slice a1 x.params.length c1,.slice a2 y.params.length c2] W fun e w' => e = .returned (.bool (decide (x.params = y.params))) ∧ Below W.heap.size W w') := fun W hp => requalFld_any _ _ _ _ W (hf.pres hp).1 (hg.pres hp).1 (by have h : x.params.length * 24 ≤ _ := hf.2; omega)
 have HR : Hid (Row 12 (Flat StpC StpOk) w (.slice a3 x.steps.length c3) x.steps) := hf2.1
 have HS : Hid (Row 12 (Flat StpC StpOk) w (.slice a4 y.steps.length c4) y.steps) := hg2.1
 have hlen : x.steps.length * 144 ≤ 140737488351232 := hf2.2
 have HE0 : Hid (decide (x = y) = (decide (x.params = y.params) && (decide (x.name = y.name) && decide (x.steps = y.steps)))) := by
  show _ = _
  rw [Bool.eq_iff_iff]; cases x; cases y; simp; constructor
  ·rintro ⟨h1,h2,h3⟩; exact ⟨h2,h1,h3⟩
  ·rintro ⟨h1,h2,h3⟩; exact ⟨h2,h1,h3⟩
 have ht : (x.name.toList == y.name.toList) = decide (x.name = y.name) := txt_eq _ _
 have HLN : Hid (¬ x.steps.length = y.steps.length → decide (x.steps = y.steps) = false) := fun h => decide_eq_false (fun e => h (by rw [e]))
 generalize decide (x = y) = R at *
 generalize decide (x.name = y.name) = bn at *
 generalize decide (x.params = y.params) = bl at *
 clear hf hg hf2 hg2
 generalize x.steps = xs at *
 generalize y.steps = ys at *
 go_enter Tryz.func46,Tryz.ntmps46
 go_upto_region 1 with fail
 generalize ((w.alloc _).alloc _) = W0 at HB0 ⊢
 have p1 := HB0.out.one.cell 1 (v := .slice a1 x.params.length c1) rfl
 have q1 := HB0.out.two.cell 1 (v := .slice a2 y.params.length c2) rfl
 go_wp2_with fail
 refine (C.out _ (pres_below HB0.out.below)).mono ?_
 rintro e V ⟨rfl,hb⟩
 have HB1 := hkeep2 HB0 hb
 clear hb HB0 C p1 q1
 have p0 := HB1.out.one.cell 0 (v := .string x.name) rfl
 have q0 := HB1.out.two.cell 0 (v := .string y.name) rfl
 have p2 := HB1.out.one.cell 2 (v := .slice a3 xs.length c3) rfl
 have q2 := HB1.out.two.cell 2 (v := .slice a4 ys.length c4) rfl
 cases bl
 ·go_wp2
  go_ret
  exact ⟨by rw [HE0.out]; rfl,HB1.out.below⟩
 cases bn
 ·go_wp2
  go_ret
  exact ⟨by rw [HE0.out]; rfl,HB1.out.below⟩
 by_cases hne : ¬ xs.length = ys.length
 ·have hne' : ¬ ((xs.length : Int) = (ys.length : Int)) := by omega
  have HF : Hid (R = false) := by show _ = _; rw [HE0.out,HLN.out hne]; rfl
  clear HE0 HLN
  go_wp2
  go_ret
  exact ⟨by rw [HF.out]; rfl,HB1.out.below⟩
 have hne := Classical.not_not.1 hne
 have HE : Hid (R = decide (xs = ys)) := by show _ = _; rw [HE0.out]; rfl
 obtain ⟨n,hn⟩ : ∃ n,n = xs.length := ⟨_,rfl⟩
 have HL : Hid (n = xs.length ∧ n = ys.length) := ⟨hn,by omega⟩
 rw [← hne] at HS HB1 q2 ⊢
 rw [← hn] at HR HS hlen HB1 p2 q2 ⊢
 clear hn hne HE0 HLN
 go_wp2_with fail
 clear p0 q0 p2 q2
 go_loopw [6] (fun i wr => ∃ k : Nat,k ≤ n ∧ i = .int .i64 k ∧ Aside (R = decide (xs.drop k = ys.drop k)) ∧ ∃ d,wr = V.drewN d) (fun i _ => n - (intOf i).toNat)
 case atStart => exact ⟨0,by omega,rfl,by show _ = _; rw [HE.out]; rfl,0,rfl⟩
 case round =>
  obtain ⟨k,hk,rfl,hd,d,hwr⟩ := hrel
  have HX : Hid (Box2 w 65 #[.string x.name,.slice a1 x.params.length c1,.slice a3 n c3] #[.string y.name,.slice a2 y.params.length c2,.slice a4 n c4] wr) := by rw [hwr]; exact ⟨HB1.out.one,HB1.out.two,below_drewN HB1.out.below d⟩
  have HWR : Hid (∃ d,wr = V.drewN d) := ⟨d,hwr⟩
  have hb := HX.out.below
  clear hwr
  have p1 := HX.out.one.cell 2 (v := .slice a3 n c3) rfl
  have q1 := HX.out.two.cell 2 (v := .slice a4 n c4) rfl
  by_cases hlt : k < n
  ·obtain ⟨p,hp⟩ : ∃ p,xs[k]? = some p := ⟨xs[k]'(by rw [← HL.out.1]; exact hlt),List.getElem?_eq_getElem _⟩
   obtain ⟨q,hq⟩ : ∃ q,ys[k]? = some q := ⟨ys[k]'(by rw [← HL.out.2]; exact hlt),List.getElem?_eq_getElem _⟩
   obtain ⟨b,o,cs,rfl,_,hx1,rfl,_⟩ := HR.out.at hp
   obtain ⟨b2,o2,cs2,rfl,_,hy1,rfl,_⟩ := HS.out.at hq
   have e0 : wr.cell? ⟨b,o + k * 12,none⟩ = some (.int .i64 p.kind) := by have := pres_below hb _ _ (hx1 0 (.int .i64 p.kind) rfl); simpa using this
   have e1 : wr.cell? ⟨b,o + k * 12 + 1,none⟩ = some (.string p.to.head) := by have := pres_below hb _ _ (hx1 1 (.string p.to.head) rfl); simpa using this
   have e2 : wr.cell? ⟨b,o + k * 12 + 2,none⟩ = some (.string p.to.name) := by have := pres_below hb _ _ (hx1 2 (.string p.to.name) rfl); simpa using this
   have e3 : wr.cell? ⟨b,o + k * 12 + 3,none⟩ = some (.int .i64 p.op) := by have := pres_below hb _ _ (hx1 3 (.int .i64 p.op) rfl); simpa using this
   have e4 : wr.cell? ⟨b,o + k * 12 + 4,none⟩ = some (.string p.a.ref.head) := by have := pres_below hb _ _ (hx1 4 (.string p.a.ref.head) rfl); simpa using this
   have e5 : wr.cell? ⟨b,o + k * 12 + 5,none⟩ = some (.string p.a.ref.name) := by have := pres_below hb _ _ (hx1 5 (.string p.a.ref.name) rfl); simpa using this
   have e6 : wr.cell? ⟨b,o + k * 12 + 6,none⟩ = some (.int .u64 (hiOf p.a.const)) := by have := pres_below hb _ _ (hx1 6 (.int .u64 (hiOf p.a.const)) rfl); simpa using this
   have e7 : wr.cell? ⟨b,o + k * 12 + 7,none⟩ = some (.int .u64 (loOf p.a.const)) := by have := pres_below hb _ _ (hx1 7 (.int .u64 (loOf p.a.const)) rfl); simpa using this
   have e8 : wr.cell? ⟨b,o + k * 12 + 8,none⟩ = some (.string p.b.ref.head) := by have := pres_below hb _ _ (hx1 8 (.string p.b.ref.head) rfl); simpa using this
   have e9 : wr.cell? ⟨b,o + k * 12 + 9,none⟩ = some (.string p.b.ref.name) := by have := pres_below hb _ _ (hx1 9 (.string p.b.ref.name) rfl); simpa using this
   have e10 : wr.cell? ⟨b,o + k * 12 + 10,none⟩ = some (.int .u64 (hiOf p.b.const)) := by have := pres_below hb _ _ (hx1 10 (.int .u64 (hiOf p.b.const)) rfl); simpa using this
   have e11 : wr.cell? ⟨b,o + k * 12 + 11,none⟩ = some (.int .u64 (loOf p.b.const)) := by have := pres_below hb _ _ (hx1 11 (.int .u64 (loOf p.b.const)) rfl); simpa using this
   have f0 : wr.cell? ⟨b2,o2 + k * 12,none⟩ = some (.int .i64 q.kind) := by have := pres_below hb _ _ (hy1 0 (.int .i64 q.kind) rfl); simpa using this
   have f1 : wr.cell? ⟨b2,o2 + k * 12 + 1,none⟩ = some (.string q.to.head) := by have := pres_below hb _ _ (hy1 1 (.string q.to.head) rfl); simpa using this
   have f2 : wr.cell? ⟨b2,o2 + k * 12 + 2,none⟩ = some (.string q.to.name) := by have := pres_below hb _ _ (hy1 2 (.string q.to.name) rfl); simpa using this
   have f3 : wr.cell? ⟨b2,o2 + k * 12 + 3,none⟩ = some (.int .i64 q.op) := by have := pres_below hb _ _ (hy1 3 (.int .i64 q.op) rfl); simpa using this
   have f4 : wr.cell? ⟨b2,o2 + k * 12 + 4,none⟩ = some (.string q.a.ref.head) := by have := pres_below hb _ _ (hy1 4 (.string q.a.ref.head) rfl); simpa using this
   have f5 : wr.cell? ⟨b2,o2 + k * 12 + 5,none⟩ = some (.string q.a.ref.name) := by have := pres_below hb _ _ (hy1 5 (.string q.a.ref.name) rfl); simpa using this
   have f6 : wr.cell? ⟨b2,o2 + k * 12 + 6,none⟩ = some (.int .u64 (hiOf q.a.const)) := by have := pres_below hb _ _ (hy1 6 (.int .u64 (hiOf q.a.const)) rfl); simpa using this
   have f7 : wr.cell? ⟨b2,o2 + k * 12 + 7,none⟩ = some (.int .u64 (loOf q.a.const)) := by have := pres_below hb _ _ (hy1 7 (.int .u64 (loOf q.a.const)) rfl); simpa using this
   have f8 : wr.cell? ⟨b2,o2 + k * 12 + 8,none⟩ = some (.string q.b.ref.head) := by have := pres_below hb _ _ (hy1 8 (.string q.b.ref.head) rfl); simpa using this
   have f9 : wr.cell? ⟨b2,o2 + k * 12 + 9,none⟩ = some (.string q.b.ref.name) := by have := pres_below hb _ _ (hy1 9 (.string q.b.ref.name) rfl); simpa using this
   have f10 : wr.cell? ⟨b2,o2 + k * 12 + 10,none⟩ = some (.int .u64 (hiOf q.b.const)) := by have := pres_below hb _ _ (hy1 10 (.int .u64 (hiOf q.b.const)) rfl); simpa using this
   have f11 : wr.cell? ⟨b2,o2 + k * 12 + 11,none⟩ = some (.int .u64 (loOf q.b.const)) := by have := pres_below hb _ _ (hy1 11 (.int .u64 (loOf q.b.const)) rfl); simpa using this
   have HQ : ∀ u : World,(binOp .neq 167 (.agg (StpC p)) (.agg (StpC q))).run Tryz.prog u = .ok (.bool (!decide (p = q))) u := fun u => run_ne167 p q u
   simp only [StpC] at HQ
   have HD : Hid (R = (decide (p = q) && decide (xs.drop (k + 1) = ys.drop (k + 1)))) := by show _ = _; rw [hd.out,drop_step hp hq]
   have hi : (0 : Int) ≤ (k : Int) ∧ (k : Int) < (n : Int) := by omega
   have HWB : Hid (Below w.heap.size w wr) := hb
   clear hd hb hx1 hy1 hp hq HX
   generalize decide (p = q) = r at *
   go_wp2_with fail
   go_quiet (fail)
   cases r
   ·go_wp2
    go_ret
    exact ⟨by rw [HD.out]; rfl,below_drewN HWB.out _⟩
   ·go_wp2
    exact ⟨⟨k + 1,by omega,by go_num,by show _ = _; rw [HD.out,Bool.true_and],by obtain ⟨d,rfl⟩ := HWR.out; exact ⟨_,drewN_two _ _ _⟩⟩,by simp only [intOf]; omega⟩
  ·have e : k = n := by omega
   subst e
   have HF : Hid (R = true) := by
    show _ = _
    rw [hd.out,decide_eq_true_eq]
    have h1 := HL.out.1; have h2 := HL.out.2
    rw [List.drop_of_length_le (by omega),List.drop_of_length_le (by omega)]
   clear hd
   go_wp2
   go_ret
   exact ⟨by rw [HF.out]; rfl,hb⟩
set_option maxHeartbeats 4000000 in
set_option maxRecDepth 100000 in
theorem reqTbl_any (x y : Tbl) (cs ds : Array Value) (w : World) (hI : TblIs w cs x) (hJ : TblIs w ds y) : Calls Tryz.prog 47 #[.agg cs,.agg ds] w fun e w' => e = .returned (.bool (decide (x = y))) ∧ Below w.heap.size w w' := by
 obtain ⟨v,v2,v3,rfl,_,hf,hf2,hf3⟩ := hI
 obtain ⟨u,u2,u3,rfl,_,hg,hg2,hg3⟩ := hJ
 obtain ⟨a1,c1,rfl,_⟩ := hf.1.slice
 obtain ⟨a2,c2,rfl,_⟩ := hg.1.slice
 obtain ⟨a3,c3,rfl,_⟩ := hf2.1.slice
 obtain ⟨a4,c4,rfl,_⟩ := hg2.1.slice
 obtain ⟨a5,c5,rfl,_⟩ := hf3.1.slice
 obtain ⟨a6,c6,rfl,_⟩ := hg3.1.slice
 have HB0 := hstart2 w 51 #[.string x.name,.slice a1 x.keys.length c1,.slice a3 x.actions.length c3,.int .i64 x.size,.string x.dflt.action,.slice a5 x.dflt.args.length c5,.bool x.fixed] #[.string y.name,.slice a2 y.keys.length c2,.slice a4 y.actions.length c4,.int .i64 y.size,.string y.dflt.action,.slice a6 y.dflt.args.length c6,.bool y.fixed]
 have C : Hid (∀ W,Pres w W → Calls Tryz.prog 22 #[.slice a3 x.actions.length c3,.slice a4 y.actions.length c4] W fun e w' => e = .returned (.bool (decide (x.actions = y.actions))) ∧ Below W.heap.size W w') := fun W hp => requalTxt_any _ _ _ _ W (hf2.pres hp).1 (hg2.pres hp).1 (by have h : x.actions.length * 16 ≤ _ := hf2.2; omega)
 have C2 : Hid (∀ W,Pres w W → Calls Tryz.prog 132 #[.agg #[.string x.dflt.action,.slice a5 x.dflt.args.length c5],.agg #[.string y.dflt.action,.slice a6 y.dflt.args.length c6]] W fun e w' => e = .returned (.bool (decide (x.dflt = y.dflt))) ∧ Below W.heap.size W w') := fun W hp => reqCall_any x.dflt y.dflt _ _ W (hf3.pres hp) (hg3.pres hp)
 have HR : Hid (Row 3 (Flat KyC KyOk) w (.slice a1 x.keys.length c1) x.keys) := hf.1
 have HS : Hid (Row 3 (Flat KyC KyOk) w (.slice a2 y.keys.length c2) y.keys) := hg.1
 have hlen : x.keys.length * 40 ≤ 140737488351232 := hf.2
 have HE0 : Hid (decide (x = y) = (decide (x.actions = y.actions) && (decide (x.dflt = y.dflt) && (decide (x.name = y.name) && (decide (x.size = y.size) && (decide (x.fixed = y.fixed) && decide (x.keys = y.keys))))))) := by
  show _ = _
  rw [Bool.eq_iff_iff]; cases x; cases y; simp; constructor
  ·rintro ⟨h1,h2,h3,h4,h5,h6⟩; exact ⟨h3,h5,h1,h4,h6,h2⟩
  ·rintro ⟨h1,h2,h3,h4,h5,h6⟩; exact ⟨h3,h6,h1,h4,h2,h5⟩
 have ht : (x.name.toList == y.name.toList) = decide (x.name = y.name) := txt_eq _ _
 have hts : (x.size == y.size) = decide (x.size = y.size) := by rw [Bool.eq_iff_iff]; simp
 have htb : (x.fixed == y.fixed) = decide (x.fixed = y.fixed) := by cases x.fixed <;> cases y.fixed <;> rfl
 have hts2 : (x.size != y.size) = !decide (x.size = y.size) := by rw [← hts]; rfl
 have htb2 : (x.fixed != y.fixed) = !decide (x.fixed = y.fixed) := by rw [← htb]; rfl
 have HLN : Hid (¬ x.keys.length = y.keys.length → decide (x.keys = y.keys) = false) := fun h => decide_eq_false (fun e => h (by rw [e]))
 generalize decide (x = y) = R at *
 generalize decide (x.name = y.name) = bn at *
 generalize decide (x.actions = y.actions) = bl at *
 generalize decide (x.dflt = y.dflt) = bd at *
 generalize decide (x.size = y.size) = bs at *
 generalize decide (x.fixed = y.fixed) = bf at *
 clear hf hg hf2 hg2 hf3 hg3
 generalize x.keys = xs at *
 generalize y.keys = ys at *
 go_enter Tryz.func47,Tryz.ntmps47
 go_upto_region 1 with fail
 generalize ((w.alloc _).alloc _) = W0 at HB0 ⊢
 have p1 := HB0.out.one.cell 2 (v := .slice a3 x.actions.length c3) rfl
 have q1 := HB0.out.two.cell 2 (v := .slice a4 y.actions.length c4) rfl
 go_wp2_with fail
 refine (C.out _ (pres_below HB0.out.below)).mono ?_
 rintro e V0 ⟨rfl,hb⟩
 have HBa := hkeep2 HB0 hb
 clear hb HB0 C p1 q1
 have p1 := HBa.out.one.cell 4 (v := .string x.dflt.action) rfl
 have p2 := HBa.out.one.cell 5 (v := .slice a5 x.dflt.args.length c5) rfl
 have q1 := HBa.out.two.cell 4 (v := .string y.dflt.action) rfl
 have q2 := HBa.out.two.cell 5 (v := .slice a6 y.dflt.args.length c6) rfl
 go_wp2_with fail
 refine (C2.out _ (pres_below HBa.out.below)).mono ?_
 rintro e V ⟨rfl,hb⟩
 have HB1 := hkeep2 HBa hb
 clear hb HBa C2 p1 q1 p2 q2
 have p0 := HB1.out.one.cell 0 (v := .string x.name) rfl
 have q0 := HB1.out.two.cell 0 (v := .string y.name) rfl
 have p3 := HB1.out.one.cell 3 (v := .int .i64 x.size) rfl
 have q3 := HB1.out.two.cell 3 (v := .int .i64 y.size) rfl
 have p6 := HB1.out.one.cell 6 (v := .bool x.fixed) rfl
 have q6 := HB1.out.two.cell 6 (v := .bool y.fixed) rfl
 have p2 := HB1.out.one.cell 1 (v := .slice a1 xs.length c1) rfl
 have q2 := HB1.out.two.cell 1 (v := .slice a2 ys.length c2) rfl
 cases bl
 ·go_wp2
  go_ret
  exact ⟨by rw [HE0.out]; rfl,HB1.out.below⟩
 cases bd
 ·go_wp2
  go_ret
  exact ⟨by rw [HE0.out]; rfl,HB1.out.below⟩
 cases bn
 ·go_wp2
  go_ret
  exact ⟨by rw [HE0.out]; rfl,HB1.out.below⟩
 cases bs
 ·go_wp2
  go_ret
  exact ⟨by rw [HE0.out]; rfl,HB1.out.below⟩
 cases bf
 ·go_wp2
  go_ret
  exact ⟨by rw [HE0.out]; rfl,HB1.out.below⟩
 by_cases hne : ¬ xs.length = ys.length
 ·have hne' : ¬ ((xs.length : Int) = (ys.length : Int)) := by omega
  have HF : Hid (R = false) := by show _ = _; rw [HE0.out,HLN.out hne]; rfl
  clear HE0 HLN
  go_wp2
  go_ret
  exact ⟨by rw [HF.out]; rfl,HB1.out.below⟩
 have hne := Classical.not_not.1 hne
 have HE : Hid (R = decide (xs = ys)) := by show _ = _; rw [HE0.out]; rfl
 obtain ⟨n,hn⟩ : ∃ n,n = xs.length := ⟨_,rfl⟩
 have HL : Hid (n = xs.length ∧ n = ys.length) := ⟨hn,by omega⟩
 rw [← hne] at HS HB1 q2 ⊢
 rw [← hn] at HR HS hlen HB1 p2 q2 ⊢
 clear hn hne HE0 HLN
 go_wp2_with fail
 clear p0 q0 p2 q2 p3 q3 p6 q6
 go_loopw [7] (fun i wr => ∃ k : Nat,k ≤ n ∧ i = .int .i64 k ∧ Aside (R = decide (xs.drop k = ys.drop k)) ∧ ∃ d,wr = V.drewN d) (fun i _ => n - (intOf i).toNat)
 case atStart => exact ⟨0,by omega,rfl,by show _ = _; rw [HE.out]; rfl,0,rfl⟩
 case round =>
  obtain ⟨k,hk,rfl,hd,d,hwr⟩ := hrel
  have HX : Hid (Box2 w 51 #[.string x.name,.slice a1 n c1,.slice a3 x.actions.length c3,.int .i64 x.size,.string x.dflt.action,.slice a5 x.dflt.args.length c5,.bool x.fixed] #[.string y.name,.slice a2 n c2,.slice a4 y.actions.length c4,.int .i64 y.size,.string y.dflt.action,.slice a6 y.dflt.args.length c6,.bool y.fixed] wr) := by rw [hwr]; exact ⟨HB1.out.one,HB1.out.two,below_drewN HB1.out.below d⟩
  have HWR : Hid (∃ d,wr = V.drewN d) := ⟨d,hwr⟩
  have hb := HX.out.below
  clear hwr
  have p1 := HX.out.one.cell 1 (v := .slice a1 n c1) rfl
  have q1 := HX.out.two.cell 1 (v := .slice a2 n c2) rfl
  by_cases hlt : k < n
  ·obtain ⟨p,hp⟩ : ∃ p,xs[k]? = some p := ⟨xs[k]'(by rw [← HL.out.1]; exact hlt),List.getElem?_eq_getElem _⟩
   obtain ⟨q,hq⟩ : ∃ q,ys[k]? = some q := ⟨ys[k]'(by rw [← HL.out.2]; exact hlt),List.getElem?_eq_getElem _⟩
   obtain ⟨b,o,cs,rfl,_,hx1,rfl,_⟩ := HR.out.at hp
   obtain ⟨b2,o2,cs2,rfl,_,hy1,rfl,_⟩ := HS.out.at hq
   have e0 : wr.cell? ⟨b,o + k * 3,none⟩ = some (.string p.ref.head) := by have := pres_below hb _ _ (hx1 0 (.string p.ref.head) rfl); simpa using this
   have e1 : wr.cell? ⟨b,o + k * 3 + 1,none⟩ = some (.string p.ref.name) := by have := pres_below hb _ _ (hx1 1 (.string p.ref.name) rfl); simpa using this
   have e2 : wr.cell? ⟨b,o + k * 3 + 2,none⟩ = some (.int .i64 p.kind) := by have := pres_below hb _ _ (hx1 2 (.int .i64 p.kind) rfl); simpa using this
   have f0 : wr.cell? ⟨b2,o2 + k * 3,none⟩ = some (.string q.ref.head) := by have := pres_below hb _ _ (hy1 0 (.string q.ref.head) rfl); simpa using this
   have f1 : wr.cell? ⟨b2,o2 + k * 3 + 1,none⟩ = some (.string q.ref.name) := by have := pres_below hb _ _ (hy1 1 (.string q.ref.name) rfl); simpa using this
   have f2 : wr.cell? ⟨b2,o2 + k * 3 + 2,none⟩ = some (.int .i64 q.kind) := by have := pres_below hb _ _ (hy1 2 (.int .i64 q.kind) rfl); simpa using this
   have HQ : ∀ u : World,(binOp .neq 116 (.agg (KyC p)) (.agg (KyC q))).run Tryz.prog u = .ok (.bool (!decide (p = q))) u := fun u => run_ne116 p q u
   simp only [KyC] at HQ
   have HD : Hid (R = (decide (p = q) && decide (xs.drop (k + 1) = ys.drop (k + 1)))) := by show _ = _; rw [hd.out,drop_step hp hq]
   have hi : (0 : Int) ≤ (k : Int) ∧ (k : Int) < (n : Int) := by omega
   have HWB : Hid (Below w.heap.size w wr) := hb
   clear hd hb hx1 hy1 hp hq HX
   generalize decide (p = q) = r at *
   go_wp2_with fail
   go_quiet (fail)
   cases r
   ·go_wp2
    go_ret
    exact ⟨by rw [HD.out]; rfl,below_drewN HWB.out _⟩
   ·go_wp2
    exact ⟨⟨k + 1,by omega,by go_num,by show _ = _; rw [HD.out,Bool.true_and],by obtain ⟨d,rfl⟩ := HWR.out; exact ⟨_,drewN_two _ _ _⟩⟩,by simp only [intOf]; omega⟩
  ·have e : k = n := by omega
   subst e
   have HF : Hid (R = true) := by
    show _ = _
    rw [hd.out,decide_eq_true_eq]
    have h1 := HL.out.1; have h2 := HL.out.2
    rw [List.drop_of_length_le (by omega),List.drop_of_length_le (by omega)]
   clear hd
   go_wp2
   go_ret
   exact ⟨by rw [HF.out]; rfl,hb⟩
end Go.Proofs.YtmbpclknhkbbkaaGreat
