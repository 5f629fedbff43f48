/- The document's Eq. -/
import Derived.Test.YtmbpclknhkbbkaaGreatVr
import Derived.Test.YtmbpclknhkbbkaaGreatB21
import Derived.Test.YtmbpclknhkbbkaaGreatB22
import Derived.Test.YtmbpclknhkbbkaaGreatB16
set_option linter.unusedSimpArgs false
set_option linter.unusedVariables false
namespace Go.Proofs.YtmbpclknhkbbkaaGreat
open Go.RowKit
set_option linter.unusedVariables false
set_option linter.unusedSimpArgs false

theorem hdr_cells2 {w : World} {cs : Array Value} {x : Hdr} (h : HdrIs w cs x) : ∃ A C,cs = #[.string x.name,.slice A x.fields.length C] := by
 obtain ⟨v,rfl,_,h1⟩ := h
 obtain ⟨A,C,rfl,_⟩ := h1.1.slice
 exact ⟨A,C,rfl⟩
theorem sta_cells2 {w : World} {cs : Array Value} {x : Sta} (h : StaIs w cs x) : ∃ A C,cs = #[.string x.name,.string x.header,.string x.on.head,.string x.on.name,.slice A x.cases.length C,.string x.next] := by
 obtain ⟨v,rfl,_,h1⟩ := h
 obtain ⟨A,C,rfl,_⟩ := h1.1.slice
 exact ⟨A,C,rfl⟩
theorem act_cells2 {w : World} {cs : Array Value} {x : Actn} (h : ActIs w cs x) : ∃ A C B D,cs = #[.string x.name,.slice A x.params.length C,.slice B x.steps.length D] := by
 obtain ⟨v,u,rfl,_,h1,h2⟩ := h
 obtain ⟨A,C,rfl,_⟩ := h1.1.slice
 obtain ⟨B,D,rfl,_⟩ := h2.1.slice
 exact ⟨A,C,B,D,rfl⟩
theorem tbl_cells2 {w : World} {cs : Array Value} {x : Tbl} (h : TblIs w cs x) : ∃ A C B D E F,cs = #[.string x.name,.slice A x.keys.length C,.slice B x.actions.length D,.int .i64 x.size,.string x.dflt.action,.slice E x.dflt.args.length F,.bool x.fixed] := by
 obtain ⟨v,u,t,rfl,_,h1,h2,h3⟩ := h
 obtain ⟨A,C,rfl,_⟩ := h1.1.slice
 obtain ⟨B,D,rfl,_⟩ := h2.1.slice
 obtain ⟨E,F,rfl,_⟩ := h3.1.slice
 exact ⟨A,C,B,D,E,F,rfl⟩
theorem sch_eq (x y : Sch) : decide (x = y) = (decide (x.metas = y.metas) && (decide (x.headers = y.headers) && (decide (x.states = y.states) && (decide (x.actions = y.actions) && (decide (x.tables = y.tables) && decide (x.control = y.control)))))) := by
 rw [Bool.eq_iff_iff]
 simp only [Bool.and_eq_true,decide_eq_true_eq]
 cases x; cases y
 simp only [Sch.mk.injEq]
 exact ⟨fun ⟨h1,h2,h3,h4,h5,h6⟩ => ⟨h2,h1,h3,h4,h5,h6⟩,fun ⟨h1,h2,h3,h4,h5,h6⟩ => ⟨h2,h1,h3,h4,h5,h6⟩⟩
theorem len_ne {α : Type} [DecidableEq α] {a b : List α} (h : ¬ a.length = b.length) : decide (a = b) = false := decide_eq_false (fun e => h (by rw [e]))
set_option maxHeartbeats 8000000 in
set_option maxRecDepth 100000 in
theorem reqSch_any (x y : Sch) (v v' : Value) (w : World) (hI : SchIs w v x) (hJ : SchIs w v' y) : Calls Tryz.prog 29 #[v,v'] w fun e w' => e = .returned (.bool (decide (x = y))) ∧ Below w.heap.size w w' := by
 obtain ⟨a0,c0,a1,c1,a2,c2,a3,c3,a4,c4,a5,c5,rfl,h0,h1,h2,h3,h4,h5⟩ := hI.parts
 obtain ⟨b0,d0,b1,d1,b2,d2,b3,d3,b4,d4,b5,d5,rfl,g0,g1,g2,g3,g4,g5⟩ := hJ.parts
 clear hI hJ
 have C107 : Hid (∀ W,Below w.heap.size w W → Calls Tryz.prog 107 #[.slice a1 x.metas.length c1,.slice b1 y.metas.length d1] W fun e w' => e = .returned (.bool (decide (x.metas = y.metas))) ∧ Below W.heap.size W w') := fun W h => requalFld_any _ _ _ _ W (h1.pres (pres_below h)).1 (g1.pres (pres_below h)).1 (by have h : x.metas.length * 24 ≤ _ := h1.2; omega)
 have C109 : Hid (∀ W,Below w.heap.size w W → Calls Tryz.prog 109 #[.slice a5 x.control.length c5,.slice b5 y.control.length d5] W fun e w' => e = .returned (.bool (decide (x.control = y.control))) ∧ Below W.heap.size W w') := fun W h => reqStgs_any _ _ _ _ W (h5.pres (pres_below h)) (g5.pres (pres_below h))
 have HR0 : Hid (Row 2 HdrIs w (.slice a0 x.headers.length c0) x.headers) := h0.1
 have HR2 : Hid (Row 6 StaIs w (.slice a2 x.states.length c2) x.states) := h2.1
 have HR3 : Hid (Row 3 ActIs w (.slice a3 x.actions.length c3) x.actions) := h3.1
 have HR4 : Hid (Row 7 TblIs w (.slice a4 x.tables.length c4) x.tables) := h4.1
 have HS0 : Hid (Row 2 HdrIs w (.slice b0 y.headers.length d0) y.headers) := g0.1
 have HS2 : Hid (Row 6 StaIs w (.slice b2 y.states.length d2) y.states) := g2.1
 have HS3 : Hid (Row 3 ActIs w (.slice b3 y.actions.length d3) y.actions) := g3.1
 have HS4 : Hid (Row 7 TblIs w (.slice b4 y.tables.length d4) y.tables) := g4.1
 have l0 : x.headers.length * 40 ≤ 140737488351232 := h0.2
 have l2 : x.states.length * 104 ≤ 140737488351232 := h2.2
 have l3 : x.actions.length * 64 ≤ 140737488351232 := h3.2
 have l4 : x.tables.length * 120 ≤ 140737488351232 := h4.2
 have HEE : Hid (decide (x = y) = (decide (x.metas = y.metas) && (decide (x.headers = y.headers) && (decide (x.states = y.states) && (decide (x.actions = y.actions) && (decide (x.tables = y.tables) && decide (x.control = y.control))))))) := sch_eq x y
 clear h0 h1 h2 h3 h4 h5 g0 g1 g2 g3 g4 g5
 generalize decide (x = y) = R at *
 generalize decide (x.metas = y.metas) = bm at *
 generalize decide (x.control = y.control) = D5 at *
 generalize x.headers = xs0 at *
 generalize y.headers = ys0 at *
 generalize x.states = xs2 at *
 generalize y.states = ys2 at *
 generalize x.actions = xs3 at *
 generalize y.actions = ys3 at *
 generalize x.tables = xs4 at *
 generalize y.tables = ys4 at *
 generalize x.metas.length = nx1 at *
 generalize y.metas.length = ny1 at *
 generalize x.control.length = nx5 at *
 generalize y.control.length = ny5 at *
 have HBX := hstart2 w 34 #[.slice a0 xs0.length c0,.slice a1 nx1 c1,.slice a2 xs2.length c2,.slice a3 xs3.length c3,.slice a4 xs4.length c4,.slice a5 nx5 c5] #[.slice b0 ys0.length d0,.slice b1 ny1 d1,.slice b2 ys2.length d2,.slice b3 ys3.length d3,.slice b4 ys4.length d4,.slice b5 ny5 d5]
 go_enter Tryz.func29,Tryz.ntmps29
 go_upto_region 1 with fail
 generalize ((w.alloc _).alloc _) = W0 at HBX ⊢
 have z1 := HBX.out.one.cell 1 (v := .slice a1 nx1 c1) rfl
 have y1 := HBX.out.two.cell 1 (v := .slice b1 ny1 d1) rfl
 go_wp2_with fail
 refine (C107.out _ HBX.out.below).mono ?_
 rintro e V0 ⟨rfl,hb⟩
 have HBY := hkeep2 HBX hb
 clear hb HBX z1 y1 C107
 cases bm
 ·have HF : Hid (R = false) := by show _ = _; rw [HEE.out]; rfl
  go_wp2
  go_ret
  exact ⟨by rw [HF.out]; rfl,HBY.out.below⟩
 have z0 := HBY.out.one.cell 0 (v := .slice a0 xs0.length c0) rfl
 have y0 := HBY.out.two.cell 0 (v := .slice b0 ys0.length d0) rfl
 have z2 := HBY.out.one.cell 2 (v := .slice a2 xs2.length c2) rfl
 have y2 := HBY.out.two.cell 2 (v := .slice b2 ys2.length d2) rfl
 have z3 := HBY.out.one.cell 3 (v := .slice a3 xs3.length c3) rfl
 have y3 := HBY.out.two.cell 3 (v := .slice b3 ys3.length d3) rfl
 have z4 := HBY.out.one.cell 4 (v := .slice a4 xs4.length c4) rfl
 have y4 := HBY.out.two.cell 4 (v := .slice b4 ys4.length d4) rfl
 by_cases ne0 : ¬ xs0.length = ys0.length
 ·have ne' : ¬ ((xs0.length : Int) = (ys0.length : Int)) := by omega
  have HF : Hid (R = false) := by show _ = _; rw [HEE.out,len_ne ne0]; simp
  clear HEE
  go_wp2
  go_ret
  exact ⟨by rw [HF.out]; rfl,HBY.out.below⟩
 have eq0 := Classical.not_not.1 ne0
 clear ne0
 obtain ⟨n0,hn0⟩ : ∃ n,n = xs0.length := ⟨_,rfl⟩
 have HL0 : Hid (n0 = xs0.length ∧ n0 = ys0.length) := ⟨hn0,by omega⟩
 rw [← eq0] at HS0 HBY y0 ⊢
 rw [← hn0] at HR0 HS0 l0 HBY z0 y0 ⊢
 clear hn0 eq0
 by_cases ne2 : ¬ xs2.length = ys2.length
 ·have ne' : ¬ ((xs2.length : Int) = (ys2.length : Int)) := by omega
  have HF : Hid (R = false) := by show _ = _; rw [HEE.out,len_ne ne2]; simp
  clear HEE
  go_wp2
  go_ret
  exact ⟨by rw [HF.out]; rfl,HBY.out.below⟩
 have eq2 := Classical.not_not.1 ne2
 clear ne2
 obtain ⟨n2,hn2⟩ : ∃ n,n = xs2.length := ⟨_,rfl⟩
 have HL2 : Hid (n2 = xs2.length ∧ n2 = ys2.length) := ⟨hn2,by omega⟩
 rw [← eq2] at HS2 HBY y2 ⊢
 rw [← hn2] at HR2 HS2 l2 HBY z2 y2 ⊢
 clear hn2 eq2
 by_cases ne3 : ¬ xs3.length = ys3.length
 ·have ne' : ¬ ((xs3.length : Int) = (ys3.length : Int)) := by omega
  have HF : Hid (R = false) := by show _ = _; rw [HEE.out,len_ne ne3]; simp
  clear HEE
  go_wp2
  go_ret
  exact ⟨by rw [HF.out]; rfl,HBY.out.below⟩
 have eq3 := Classical.not_not.1 ne3
 clear ne3
 obtain ⟨n3,hn3⟩ : ∃ n,n = xs3.length := ⟨_,rfl⟩
 have HL3 : Hid (n3 = xs3.length ∧ n3 = ys3.length) := ⟨hn3,by omega⟩
 rw [← eq3] at HS3 HBY y3 ⊢
 rw [← hn3] at HR3 HS3 l3 HBY z3 y3 ⊢
 clear hn3 eq3
 by_cases ne4 : ¬ xs4.length = ys4.length
 ·have ne' : ¬ ((xs4.length : Int) = (ys4.length : Int)) := by omega
  have HF : Hid (R = false) := by show _ = _; rw [HEE.out,len_ne ne4]; simp
  clear HEE
  go_wp2
  go_ret
  exact ⟨by rw [HF.out]; rfl,HBY.out.below⟩
 have eq4 := Classical.not_not.1 ne4
 clear ne4
 obtain ⟨n4,hn4⟩ : ∃ n,n = xs4.length := ⟨_,rfl⟩
 have HL4 : Hid (n4 = xs4.length ∧ n4 = ys4.length) := ⟨hn4,by omega⟩
 rw [← eq4] at HS4 HBY y4 ⊢
 rw [← hn4] at HR4 HS4 l4 HBY z4 y4 ⊢
 clear hn4 eq4
 go_wp2_with fail
 clear z0 y0 z2 y2 z3 y3 z4 y4
 have HB0 : Hid (Below w.heap.size w V0) := HBY.out.below
 have HX0 : Hid (Blk V0 w.heap.size #[.slice a0 n0 c0,.slice a1 nx1 c1,.slice a2 n2 c2,.slice a3 n3 c3,.slice a4 n4 c4,.slice a5 nx5 c5] 34) := HBY.out.one
 have HY0 : Hid (Blk V0 (w.heap.size + 1) #[.slice b0 n0 d0,.slice b1 ny1 d1,.slice b2 n2 d2,.slice b3 n3 d3,.slice b4 n4 d4,.slice b5 ny5 d5] 34) := HBY.out.two
 clear HBY
 obtain ⟨xb,hxb⟩ : ∃ xb,xb = w.heap.size := ⟨_,rfl⟩
 obtain ⟨yb,hyb⟩ : ∃ yb,yb = w.heap.size + 1 := ⟨_,rfl⟩
 rw [← hxb] at HX0
 rw [← hyb] at HY0 ⊢
 rw [← hxb]
 clear hxb hyb
 obtain ⟨D0,e0⟩ : ∃ D,D = decide (xs0 = ys0) := ⟨_,rfl⟩
 obtain ⟨D2,e2⟩ : ∃ D,D = decide (xs2 = ys2) := ⟨_,rfl⟩
 obtain ⟨D3,e3⟩ : ∃ D,D = decide (xs3 = ys3) := ⟨_,rfl⟩
 obtain ⟨D4,e4⟩ : ∃ D,D = decide (xs4 = ys4) := ⟨_,rfl⟩
 rw [← e0,← e2,← e3,← e4] at HEE
 have HD0 : Hid (D0 = decide (xs0 = ys0)) := e0
 have HD2 : Hid (D2 = decide (xs2 = ys2)) := e2
 have HD3 : Hid (D3 = decide (xs3 = ys3)) := e3
 have HD4 : Hid (D4 = decide (xs4 = ys4)) := e4
 have HE0 : Hid (R = (D0 && (D2 && (D3 && (D4 && D5))))) := by show _ = _; rw [HEE.out]; rfl
 clear e0 e2 e3 e4 HEE
 have z0 := HX0.out.cell 0 (v := .slice a0 n0 c0) rfl
 go_wp2_with fail
 clear z0
 go_loopw [6] (fun i wr => ∃ k : Nat,k ≤ n0 ∧ i = .int .i64 k ∧ Below w.heap.size w wr ∧ Blk wr xb #[.slice a0 n0 c0,.slice a1 nx1 c1,.slice a2 n2 c2,.slice a3 n3 c3,.slice a4 n4 c4,.slice a5 nx5 c5] 34 ∧ Blk wr yb #[.slice b0 n0 d0,.slice b1 ny1 d1,.slice b2 n2 d2,.slice b3 n3 d3,.slice b4 n4 d4,.slice b5 ny5 d5] 34 ∧ Aside (D0 = decide (xs0.drop k = ys0.drop k))) (fun i _ => n0 - (intOf i).toNat)
 case atStart => exact ⟨0,by omega,rfl,HB0.out,HX0.out,HY0.out,by show _ = _; rw [HD0.out]; rfl⟩
 case round =>
  obtain ⟨k,hk,rfl,hb,hx,hy,hA⟩ := hrel
  have HB : Hid (Below w.heap.size w wr) := hb
  have HX : Hid (Blk wr xb #[.slice a0 n0 c0,.slice a1 nx1 c1,.slice a2 n2 c2,.slice a3 n3 c3,.slice a4 n4 c4,.slice a5 nx5 c5] 34) := hx
  have HY : Hid (Blk wr yb #[.slice b0 n0 d0,.slice b1 ny1 d1,.slice b2 n2 d2,.slice b3 n3 d3,.slice b4 n4 d4,.slice b5 ny5 d5] 34) := hy
  clear hb hx hy HB0 HX0 HY0
  by_cases hlt : k < n0
  ·obtain ⟨p,hp⟩ : ∃ p,xs0[k]? = some p := ⟨xs0[k]'(by rw [← HL0.out.1]; exact hlt),List.getElem?_eq_getElem _⟩
   obtain ⟨q,hq⟩ : ∃ q,ys0[k]? = some q := ⟨ys0[k]'(by rw [← HL0.out.2]; exact hlt),List.getElem?_eq_getElem _⟩
   obtain ⟨pb,po,cs,rfl,_,hpc,hIp⟩ := HR0.out.at hp
   obtain ⟨qb,qo,cs2,rfl,_,hqc,hIq⟩ := HS0.out.at hq
   obtain ⟨pA,pC,rfl⟩ := hdr_cells2 hIp
   obtain ⟨qA,qC,rfl⟩ := hdr_cells2 hIq
   have CQ : Hid (∀ z : Grown wr,Calls Tryz.prog 45 #[.agg #[.string p.name,.slice pA p.fields.length pC],.agg #[.string q.name,.slice qA q.fields.length qC]] (gw z) fun e w' => e = .returned (.bool (decide (p = q))) ∧ Below (gw z).heap.size (gw z) w') := fun z => reqHdr_any p q _ _ _ (hIp.pres (pres_below (bst HB.out (gw_below z) (Nat.le_refl _)))) (hIq.pres (pres_below (bst HB.out (gw_below z) (Nat.le_refl _))))
   have HDk : Hid (D0 = (decide (p = q) && decide (xs0.drop (k + 1) = ys0.drop (k + 1)))) := by show _ = _; rw [hA.out,drop_step hp hq]
   have zx : ∀ z : Grown wr,(gw z).cell? ⟨xb,0,none⟩ = some (.slice (some ⟨pb,po,none⟩) n0 c0) := gw_cell (HX.out.cell 0 rfl)
   have zy : ∀ z : Grown wr,(gw z).cell? ⟨yb,0,none⟩ = some (.slice (some ⟨qb,qo,none⟩) n0 d0) := gw_cell (HY.out.cell 0 rfl)
   have zw := HX.out.cell 0 (v := .slice (some ⟨pb,po,none⟩) n0 c0) rfl
   have e0 : ∀ z : Grown wr,(gw z).cell? ⟨pb,po + k * 2,none⟩ = some (.string p.name) := gw_cell (by have := pres_below HB.out _ _ (hpc 0 (.string p.name) rfl); simpa using this)
   have e1 : ∀ z : Grown wr,(gw z).cell? ⟨pb,po + k * 2 + 1,none⟩ = some (.slice pA p.fields.length pC) := gw_cell (by have := pres_below HB.out _ _ (hpc 1 (.slice pA p.fields.length pC) rfl); simpa using this)
   have f0 : ∀ z : Grown wr,(gw z).cell? ⟨qb,qo + k * 2,none⟩ = some (.string q.name) := gw_cell (by have := pres_below HB.out _ _ (hqc 0 (.string q.name) rfl); simpa using this)
   have f1 : ∀ z : Grown wr,(gw z).cell? ⟨qb,qo + k * 2 + 1,none⟩ = some (.slice qA q.fields.length qC) := gw_cell (by have := pres_below HB.out _ _ (hqc 1 (.slice qA q.fields.length qC) rfl); simpa using this)
   clear hA hpc hqc hIp hIq hp hq
   generalize decide (p = q) = r at *
   go_upto_region 7 with fail
   clear zw
   refine region_grows (by kernel_rfl) (by kernel_rfl) ?_
   repeat (go_big_quiet_step ((go_at_call 45; exact calls_gw (CQ.out _))))
   refine wpQuiet_nil ?_
   intro wq hwq
   obtain ⟨zq,hwq⟩ := hwq
   subst hwq
   have HBn : Hid (Below w.heap.size w (gw zq)) := bst HB.out (gw_below zq) (Nat.le_refl _)
   have HXn : Hid (Blk (gw zq) xb #[.slice (some ⟨pb,po,none⟩) n0 c0,.slice a1 nx1 c1,.slice a2 n2 c2,.slice a3 n3 c3,.slice a4 n4 c4,.slice a5 nx5 c5] 34) := HX.out.below (gw_below zq)
   have HYn : Hid (Blk (gw zq) yb #[.slice (some ⟨qb,qo,none⟩) n0 d0,.slice b1 ny1 d1,.slice b2 n2 d2,.slice b3 n3 d3,.slice b4 n4 d4,.slice b5 ny5 d5] 34) := HY.out.below (gw_below zq)
   clear CQ zx zy HB HX HY e0 f0 e1 f1
   generalize gw zq = Wn at HBn HXn HYn ⊢
   cases r
   ·have HF : Hid (R = false) := by show _ = _; rw [HE0.out,HDk.out]; rfl
    clear HDk
    go_wp2
    go_ret
    exact ⟨by rw [HF.out]; rfl,HBn.out⟩
   ·go_wp2
    exact ⟨⟨k + 1,by omega,by go_num,HBn.out,HXn.out,HYn.out,by show _ = _; rw [HDk.out,Bool.true_and]⟩,by simp only [intOf]; omega⟩
  ·have e : k = n0 := by omega
   subst e
   have HT : Hid (D0 = true) := by
    show _ = _
    rw [hA.out,decide_eq_true_eq]
    have h1 := HL0.out.1; have h2 := HL0.out.2
    rw [List.drop_of_length_le (by omega),List.drop_of_length_le (by omega)]
   have HE1 : Hid (R = (D2 && (D3 && (D4 && D5)))) := by show _ = _; rw [HE0.out,HT.out]; rfl
   clear hA HT HE0
   obtain ⟨V1,hV1⟩ : ∃ V,V = wr := ⟨_,rfl⟩
   have HB1 : Hid (Below w.heap.size w V1) := by rw [hV1]; exact HB.out
   have HX1 : Hid (Blk V1 xb #[.slice a0 k c0,.slice a1 nx1 c1,.slice a2 n2 c2,.slice a3 n3 c3,.slice a4 n4 c4,.slice a5 nx5 c5] 34) := by rw [hV1]; exact HX.out
   have HY1 : Hid (Blk V1 yb #[.slice b0 k d0,.slice b1 ny1 d1,.slice b2 n2 d2,.slice b3 n3 d3,.slice b4 n4 d4,.slice b5 ny5 d5] 34) := by rw [hV1]; exact HY.out
   have zw := HX.out.cell 0 (v := .slice a0 k c0) rfl
   rw [← hV1] at zw ⊢
   clear hV1 HB HX HY
   obtain ⟨n0,hkn⟩ : ∃ n,n = k := ⟨_,rfl⟩
   rw [← hkn] at HX1 HY1 zw ⊢
   clear hkn
   have z2 := HX1.out.cell 2 (v := .slice a2 n2 c2) rfl
   go_wp2_with fail
   clear z2
   go_loopw [8] (fun i wr => ∃ k : Nat,k ≤ n2 ∧ i = .int .i64 k ∧ Below w.heap.size w wr ∧ Blk wr xb #[.slice a0 n0 c0,.slice a1 nx1 c1,.slice a2 n2 c2,.slice a3 n3 c3,.slice a4 n4 c4,.slice a5 nx5 c5] 34 ∧ Blk wr yb #[.slice b0 n0 d0,.slice b1 ny1 d1,.slice b2 n2 d2,.slice b3 n3 d3,.slice b4 n4 d4,.slice b5 ny5 d5] 34 ∧ Aside (D2 = decide (xs2.drop k = ys2.drop k))) (fun i _ => n2 - (intOf i).toNat)
   case atStart => exact ⟨0,by omega,rfl,HB1.out,HX1.out,HY1.out,by show _ = _; rw [HD2.out]; rfl⟩
   case round =>
    obtain ⟨k,hk,rfl,hb,hx,hy,hA⟩ := hrel
    have HB : Hid (Below w.heap.size w wr) := hb
    have HX : Hid (Blk wr xb #[.slice a0 n0 c0,.slice a1 nx1 c1,.slice a2 n2 c2,.slice a3 n3 c3,.slice a4 n4 c4,.slice a5 nx5 c5] 34) := hx
    have HY : Hid (Blk wr yb #[.slice b0 n0 d0,.slice b1 ny1 d1,.slice b2 n2 d2,.slice b3 n3 d3,.slice b4 n4 d4,.slice b5 ny5 d5] 34) := hy
    clear hb hx hy HB1 HX1 HY1
    by_cases hlt : k < n2
    ·obtain ⟨p,hp⟩ : ∃ p,xs2[k]? = some p := ⟨xs2[k]'(by rw [← HL2.out.1]; exact hlt),List.getElem?_eq_getElem _⟩
     obtain ⟨q,hq⟩ : ∃ q,ys2[k]? = some q := ⟨ys2[k]'(by rw [← HL2.out.2]; exact hlt),List.getElem?_eq_getElem _⟩
     obtain ⟨pb,po,cs,rfl,_,hpc,hIp⟩ := HR2.out.at hp
     obtain ⟨qb,qo,cs2,rfl,_,hqc,hIq⟩ := HS2.out.at hq
     obtain ⟨pA,pC,rfl⟩ := sta_cells2 hIp
     obtain ⟨qA,qC,rfl⟩ := sta_cells2 hIq
     have CQ : Hid (∀ z : Grown wr,Calls Tryz.prog 108 #[.agg #[.string p.name,.string p.header,.string p.on.head,.string p.on.name,.slice pA p.cases.length pC,.string p.next],.agg #[.string q.name,.string q.header,.string q.on.head,.string q.on.name,.slice qA q.cases.length qC,.string q.next]] (gw z) fun e w' => e = .returned (.bool (decide (p = q))) ∧ Below (gw z).heap.size (gw z) w') := fun z => reqSta_any p q _ _ _ (hIp.pres (pres_below (bst HB.out (gw_below z) (Nat.le_refl _)))) (hIq.pres (pres_below (bst HB.out (gw_below z) (Nat.le_refl _))))
     have HDk : Hid (D2 = (decide (p = q) && decide (xs2.drop (k + 1) = ys2.drop (k + 1)))) := by show _ = _; rw [hA.out,drop_step hp hq]
     have zx : ∀ z : Grown wr,(gw z).cell? ⟨xb,2,none⟩ = some (.slice (some ⟨pb,po,none⟩) n2 c2) := gw_cell (HX.out.cell 2 rfl)
     have zy : ∀ z : Grown wr,(gw z).cell? ⟨yb,2,none⟩ = some (.slice (some ⟨qb,qo,none⟩) n2 d2) := gw_cell (HY.out.cell 2 rfl)
     have zw := HX.out.cell 2 (v := .slice (some ⟨pb,po,none⟩) n2 c2) rfl
     have e0 : ∀ z : Grown wr,(gw z).cell? ⟨pb,po + k * 6,none⟩ = some (.string p.name) := gw_cell (by have := pres_below HB.out _ _ (hpc 0 (.string p.name) rfl); simpa using this)
     have e1 : ∀ z : Grown wr,(gw z).cell? ⟨pb,po + k * 6 + 1,none⟩ = some (.string p.header) := gw_cell (by have := pres_below HB.out _ _ (hpc 1 (.string p.header) rfl); simpa using this)
     have e2 : ∀ z : Grown wr,(gw z).cell? ⟨pb,po + k * 6 + 2,none⟩ = some (.string p.on.head) := gw_cell (by have := pres_below HB.out _ _ (hpc 2 (.string p.on.head) rfl); simpa using this)
     have e3 : ∀ z : Grown wr,(gw z).cell? ⟨pb,po + k * 6 + 3,none⟩ = some (.string p.on.name) := gw_cell (by have := pres_below HB.out _ _ (hpc 3 (.string p.on.name) rfl); simpa using this)
     have e4 : ∀ z : Grown wr,(gw z).cell? ⟨pb,po + k * 6 + 4,none⟩ = some (.slice pA p.cases.length pC) := gw_cell (by have := pres_below HB.out _ _ (hpc 4 (.slice pA p.cases.length pC) rfl); simpa using this)
     have e5 : ∀ z : Grown wr,(gw z).cell? ⟨pb,po + k * 6 + 5,none⟩ = some (.string p.next) := gw_cell (by have := pres_below HB.out _ _ (hpc 5 (.string p.next) rfl); simpa using this)
     have f0 : ∀ z : Grown wr,(gw z).cell? ⟨qb,qo + k * 6,none⟩ = some (.string q.name) := gw_cell (by have := pres_below HB.out _ _ (hqc 0 (.string q.name) rfl); simpa using this)
     have f1 : ∀ z : Grown wr,(gw z).cell? ⟨qb,qo + k * 6 + 1,none⟩ = some (.string q.header) := gw_cell (by have := pres_below HB.out _ _ (hqc 1 (.string q.header) rfl); simpa using this)
     have f2 : ∀ z : Grown wr,(gw z).cell? ⟨qb,qo + k * 6 + 2,none⟩ = some (.string q.on.head) := gw_cell (by have := pres_below HB.out _ _ (hqc 2 (.string q.on.head) rfl); simpa using this)
     have f3 : ∀ z : Grown wr,(gw z).cell? ⟨qb,qo + k * 6 + 3,none⟩ = some (.string q.on.name) := gw_cell (by have := pres_below HB.out _ _ (hqc 3 (.string q.on.name) rfl); simpa using this)
     have f4 : ∀ z : Grown wr,(gw z).cell? ⟨qb,qo + k * 6 + 4,none⟩ = some (.slice qA q.cases.length qC) := gw_cell (by have := pres_below HB.out _ _ (hqc 4 (.slice qA q.cases.length qC) rfl); simpa using this)
     have f5 : ∀ z : Grown wr,(gw z).cell? ⟨qb,qo + k * 6 + 5,none⟩ = some (.string q.next) := gw_cell (by have := pres_below HB.out _ _ (hqc 5 (.string q.next) rfl); simpa using this)
     clear hA hpc hqc hIp hIq hp hq
     generalize decide (p = q) = r at *
     go_upto_region 13 with fail
     clear zw
     refine region_grows (by kernel_rfl) (by kernel_rfl) ?_
     repeat (go_big_quiet_step ((go_at_call 108; exact calls_gw (CQ.out _))))
     refine wpQuiet_nil ?_
     intro wq hwq
     obtain ⟨zq,hwq⟩ := hwq
     subst hwq
     have HBn : Hid (Below w.heap.size w (gw zq)) := bst HB.out (gw_below zq) (Nat.le_refl _)
     have HXn : Hid (Blk (gw zq) xb #[.slice a0 n0 c0,.slice a1 nx1 c1,.slice (some ⟨pb,po,none⟩) n2 c2,.slice a3 n3 c3,.slice a4 n4 c4,.slice a5 nx5 c5] 34) := HX.out.below (gw_below zq)
     have HYn : Hid (Blk (gw zq) yb #[.slice b0 n0 d0,.slice b1 ny1 d1,.slice (some ⟨qb,qo,none⟩) n2 d2,.slice b3 n3 d3,.slice b4 n4 d4,.slice b5 ny5 d5] 34) := HY.out.below (gw_below zq)
     clear CQ zx zy HB HX HY e0 f0 e1 f1 e2 f2 e3 f3 e4 f4 e5 f5
     generalize gw zq = Wn at HBn HXn HYn ⊢
     cases r
     ·have HF : Hid (R = false) := by show _ = _; rw [HE1.out,HDk.out]; rfl
      clear HDk
      go_wp2
      go_ret
      exact ⟨by rw [HF.out]; rfl,HBn.out⟩
     ·go_wp2
      exact ⟨⟨k + 1,by omega,by go_num,HBn.out,HXn.out,HYn.out,by show _ = _; rw [HDk.out,Bool.true_and]⟩,by simp only [intOf]; omega⟩
    ·have e : k = n2 := by omega
     subst e
     have HT : Hid (D2 = true) := by
      show _ = _
      rw [hA.out,decide_eq_true_eq]
      have h1 := HL2.out.1; have h2 := HL2.out.2
      rw [List.drop_of_length_le (by omega),List.drop_of_length_le (by omega)]
     have HE2 : Hid (R = (D3 && (D4 && D5))) := by show _ = _; rw [HE1.out,HT.out]; rfl
     clear hA HT HE1
     obtain ⟨V2,hV2⟩ : ∃ V,V = wr := ⟨_,rfl⟩
     have HB2 : Hid (Below w.heap.size w V2) := by rw [hV2]; exact HB.out
     have HX2 : Hid (Blk V2 xb #[.slice a0 n0 c0,.slice a1 nx1 c1,.slice a2 k c2,.slice a3 n3 c3,.slice a4 n4 c4,.slice a5 nx5 c5] 34) := by rw [hV2]; exact HX.out
     have HY2 : Hid (Blk V2 yb #[.slice b0 n0 d0,.slice b1 ny1 d1,.slice b2 k d2,.slice b3 n3 d3,.slice b4 n4 d4,.slice b5 ny5 d5] 34) := by rw [hV2]; exact HY.out
     have zw := HX.out.cell 2 (v := .slice a2 k c2) rfl
     rw [← hV2] at zw ⊢
     clear hV2 HB HX HY
     obtain ⟨n2,hkn⟩ : ∃ n,n = k := ⟨_,rfl⟩
     rw [← hkn] at HX2 HY2 zw ⊢
     clear hkn
     have z3 := HX2.out.cell 3 (v := .slice a3 n3 c3) rfl
     go_wp2_with fail
     clear z3
     go_loopw [10] (fun i wr => ∃ k : Nat,k ≤ n3 ∧ i = .int .i64 k ∧ Below w.heap.size w wr ∧ Blk wr xb #[.slice a0 n0 c0,.slice a1 nx1 c1,.slice a2 n2 c2,.slice a3 n3 c3,.slice a4 n4 c4,.slice a5 nx5 c5] 34 ∧ Blk wr yb #[.slice b0 n0 d0,.slice b1 ny1 d1,.slice b2 n2 d2,.slice b3 n3 d3,.slice b4 n4 d4,.slice b5 ny5 d5] 34 ∧ Aside (D3 = decide (xs3.drop k = ys3.drop k))) (fun i _ => n3 - (intOf i).toNat)
     case atStart => exact ⟨0,by omega,rfl,HB2.out,HX2.out,HY2.out,by show _ = _; rw [HD3.out]; rfl⟩
     case round =>
      obtain ⟨k,hk,rfl,hb,hx,hy,hA⟩ := hrel
      have HB : Hid (Below w.heap.size w wr) := hb
      have HX : Hid (Blk wr xb #[.slice a0 n0 c0,.slice a1 nx1 c1,.slice a2 n2 c2,.slice a3 n3 c3,.slice a4 n4 c4,.slice a5 nx5 c5] 34) := hx
      have HY : Hid (Blk wr yb #[.slice b0 n0 d0,.slice b1 ny1 d1,.slice b2 n2 d2,.slice b3 n3 d3,.slice b4 n4 d4,.slice b5 ny5 d5] 34) := hy
      clear hb hx hy HB2 HX2 HY2
      by_cases hlt : k < n3
      ·obtain ⟨p,hp⟩ : ∃ p,xs3[k]? = some p := ⟨xs3[k]'(by rw [← HL3.out.1]; exact hlt),List.getElem?_eq_getElem _⟩
       obtain ⟨q,hq⟩ : ∃ q,ys3[k]? = some q := ⟨ys3[k]'(by rw [← HL3.out.2]; exact hlt),List.getElem?_eq_getElem _⟩
       obtain ⟨pb,po,cs,rfl,_,hpc,hIp⟩ := HR3.out.at hp
       obtain ⟨qb,qo,cs2,rfl,_,hqc,hIq⟩ := HS3.out.at hq
       obtain ⟨pA,pC,pB,pD,rfl⟩ := act_cells2 hIp
       obtain ⟨qA,qC,qB,qD,rfl⟩ := act_cells2 hIq
       have CQ : Hid (∀ z : Grown wr,Calls Tryz.prog 46 #[.agg #[.string p.name,.slice pA p.params.length pC,.slice pB p.steps.length pD],.agg #[.string q.name,.slice qA q.params.length qC,.slice qB q.steps.length qD]] (gw z) fun e w' => e = .returned (.bool (decide (p = q))) ∧ Below (gw z).heap.size (gw z) w') := fun z => reqAct_any p q _ _ _ (hIp.pres (pres_below (bst HB.out (gw_below z) (Nat.le_refl _)))) (hIq.pres (pres_below (bst HB.out (gw_below z) (Nat.le_refl _))))
       have HDk : Hid (D3 = (decide (p = q) && decide (xs3.drop (k + 1) = ys3.drop (k + 1)))) := by show _ = _; rw [hA.out,drop_step hp hq]
       have zx : ∀ z : Grown wr,(gw z).cell? ⟨xb,3,none⟩ = some (.slice (some ⟨pb,po,none⟩) n3 c3) := gw_cell (HX.out.cell 3 rfl)
       have zy : ∀ z : Grown wr,(gw z).cell? ⟨yb,3,none⟩ = some (.slice (some ⟨qb,qo,none⟩) n3 d3) := gw_cell (HY.out.cell 3 rfl)
       have zw := HX.out.cell 3 (v := .slice (some ⟨pb,po,none⟩) n3 c3) rfl
       have e0 : ∀ z : Grown wr,(gw z).cell? ⟨pb,po + k * 3,none⟩ = some (.string p.name) := gw_cell (by have := pres_below HB.out _ _ (hpc 0 (.string p.name) rfl); simpa using this)
       have e1 : ∀ z : Grown wr,(gw z).cell? ⟨pb,po + k * 3 + 1,none⟩ = some (.slice pA p.params.length pC) := gw_cell (by have := pres_below HB.out _ _ (hpc 1 (.slice pA p.params.length pC) rfl); simpa using this)
       have e2 : ∀ z : Grown wr,(gw z).cell? ⟨pb,po + k * 3 + 2,none⟩ = some (.slice pB p.steps.length pD) := gw_cell (by have := pres_below HB.out _ _ (hpc 2 (.slice pB p.steps.length pD) rfl); simpa using this)
       have f0 : ∀ z : Grown wr,(gw z).cell? ⟨qb,qo + k * 3,none⟩ = some (.string q.name) := gw_cell (by have := pres_below HB.out _ _ (hqc 0 (.string q.name) rfl); simpa using this)
       have f1 : ∀ z : Grown wr,(gw z).cell? ⟨qb,qo + k * 3 + 1,none⟩ = some (.slice qA q.params.length qC) := gw_cell (by have := pres_below HB.out _ _ (hqc 1 (.slice qA q.params.length qC) rfl); simpa using this)
       have f2 : ∀ z : Grown wr,(gw z).cell? ⟨qb,qo + k * 3 + 2,none⟩ = some (.slice qB q.steps.length qD) := gw_cell (by have := pres_below HB.out _ _ (hqc 2 (.slice qB q.steps.length qD) rfl); simpa using this)
       clear hA hpc hqc hIp hIq hp hq
       generalize decide (p = q) = r at *
       go_upto_region 19 with fail
       clear zw
       refine region_grows (by kernel_rfl) (by kernel_rfl) ?_
       repeat (go_big_quiet_step ((go_at_call 46; exact calls_gw (CQ.out _))))
       refine wpQuiet_nil ?_
       intro wq hwq
       obtain ⟨zq,hwq⟩ := hwq
       subst hwq
       have HBn : Hid (Below w.heap.size w (gw zq)) := bst HB.out (gw_below zq) (Nat.le_refl _)
       have HXn : Hid (Blk (gw zq) xb #[.slice a0 n0 c0,.slice a1 nx1 c1,.slice a2 n2 c2,.slice (some ⟨pb,po,none⟩) n3 c3,.slice a4 n4 c4,.slice a5 nx5 c5] 34) := HX.out.below (gw_below zq)
       have HYn : Hid (Blk (gw zq) yb #[.slice b0 n0 d0,.slice b1 ny1 d1,.slice b2 n2 d2,.slice (some ⟨qb,qo,none⟩) n3 d3,.slice b4 n4 d4,.slice b5 ny5 d5] 34) := HY.out.below (gw_below zq)
       clear CQ zx zy HB HX HY e0 f0 e1 f1 e2 f2
       generalize gw zq = Wn at HBn HXn HYn ⊢
       cases r
       ·have HF : Hid (R = false) := by show _ = _; rw [HE2.out,HDk.out]; rfl
        clear HDk
        go_wp2
        go_ret
        exact ⟨by rw [HF.out]; rfl,HBn.out⟩
       ·go_wp2
        exact ⟨⟨k + 1,by omega,by go_num,HBn.out,HXn.out,HYn.out,by show _ = _; rw [HDk.out,Bool.true_and]⟩,by simp only [intOf]; omega⟩
      ·have e : k = n3 := by omega
       subst e
       have HT : Hid (D3 = true) := by
        show _ = _
        rw [hA.out,decide_eq_true_eq]
        have h1 := HL3.out.1; have h2 := HL3.out.2
        rw [List.drop_of_length_le (by omega),List.drop_of_length_le (by omega)]
       have HE3 : Hid (R = (D4 && D5)) := by show _ = _; rw [HE2.out,HT.out]; rfl
       clear hA HT HE2
       obtain ⟨V3,hV3⟩ : ∃ V,V = wr := ⟨_,rfl⟩
       have HB3 : Hid (Below w.heap.size w V3) := by rw [hV3]; exact HB.out
       have HX3 : Hid (Blk V3 xb #[.slice a0 n0 c0,.slice a1 nx1 c1,.slice a2 n2 c2,.slice a3 k c3,.slice a4 n4 c4,.slice a5 nx5 c5] 34) := by rw [hV3]; exact HX.out
       have HY3 : Hid (Blk V3 yb #[.slice b0 n0 d0,.slice b1 ny1 d1,.slice b2 n2 d2,.slice b3 k d3,.slice b4 n4 d4,.slice b5 ny5 d5] 34) := by rw [hV3]; exact HY.out
       have zw := HX.out.cell 3 (v := .slice a3 k c3) rfl
       rw [← hV3] at zw ⊢
       clear hV3 HB HX HY
       obtain ⟨n3,hkn⟩ : ∃ n,n = k := ⟨_,rfl⟩
       rw [← hkn] at HX3 HY3 zw ⊢
       clear hkn
       have z4 := HX3.out.cell 4 (v := .slice a4 n4 c4) rfl
       go_wp2_with fail
       clear z4
       go_loopw [12] (fun i wr => ∃ k : Nat,k ≤ n4 ∧ i = .int .i64 k ∧ Below w.heap.size w wr ∧ Blk wr xb #[.slice a0 n0 c0,.slice a1 nx1 c1,.slice a2 n2 c2,.slice a3 n3 c3,.slice a4 n4 c4,.slice a5 nx5 c5] 34 ∧ Blk wr yb #[.slice b0 n0 d0,.slice b1 ny1 d1,.slice b2 n2 d2,.slice b3 n3 d3,.slice b4 n4 d4,.slice b5 ny5 d5] 34 ∧ Aside (D4 = decide (xs4.drop k = ys4.drop k))) (fun i _ => n4 - (intOf i).toNat)
       case atStart => exact ⟨0,by omega,rfl,HB3.out,HX3.out,HY3.out,by show _ = _; rw [HD4.out]; rfl⟩
       case round =>
        obtain ⟨k,hk,rfl,hb,hx,hy,hA⟩ := hrel
        have HB : Hid (Below w.heap.size w wr) := hb
        have HX : Hid (Blk wr xb #[.slice a0 n0 c0,.slice a1 nx1 c1,.slice a2 n2 c2,.slice a3 n3 c3,.slice a4 n4 c4,.slice a5 nx5 c5] 34) := hx
        have HY : Hid (Blk wr yb #[.slice b0 n0 d0,.slice b1 ny1 d1,.slice b2 n2 d2,.slice b3 n3 d3,.slice b4 n4 d4,.slice b5 ny5 d5] 34) := hy
        clear hb hx hy HB3 HX3 HY3
        by_cases hlt : k < n4
        ·obtain ⟨p,hp⟩ : ∃ p,xs4[k]? = some p := ⟨xs4[k]'(by rw [← HL4.out.1]; exact hlt),List.getElem?_eq_getElem _⟩
         obtain ⟨q,hq⟩ : ∃ q,ys4[k]? = some q := ⟨ys4[k]'(by rw [← HL4.out.2]; exact hlt),List.getElem?_eq_getElem _⟩
         obtain ⟨pb,po,cs,rfl,_,hpc,hIp⟩ := HR4.out.at hp
         obtain ⟨qb,qo,cs2,rfl,_,hqc,hIq⟩ := HS4.out.at hq
         obtain ⟨pA,pC,pB,pD,pE,pF,rfl⟩ := tbl_cells2 hIp
         obtain ⟨qA,qC,qB,qD,qE,qF,rfl⟩ := tbl_cells2 hIq
         have CQ : Hid (∀ z : Grown wr,Calls Tryz.prog 47 #[.agg #[.string p.name,.slice pA p.keys.length pC,.slice pB p.actions.length pD,.int .i64 p.size,.string p.dflt.action,.slice pE p.dflt.args.length pF,.bool p.fixed],.agg #[.string q.name,.slice qA q.keys.length qC,.slice qB q.actions.length qD,.int .i64 q.size,.string q.dflt.action,.slice qE q.dflt.args.length qF,.bool q.fixed]] (gw z) fun e w' => e = .returned (.bool (decide (p = q))) ∧ Below (gw z).heap.size (gw z) w') := fun z => reqTbl_any p q _ _ _ (hIp.pres (pres_below (bst HB.out (gw_below z) (Nat.le_refl _)))) (hIq.pres (pres_below (bst HB.out (gw_below z) (Nat.le_refl _))))
         have HDk : Hid (D4 = (decide (p = q) && decide (xs4.drop (k + 1) = ys4.drop (k + 1)))) := by show _ = _; rw [hA.out,drop_step hp hq]
         have zx : ∀ z : Grown wr,(gw z).cell? ⟨xb,4,none⟩ = some (.slice (some ⟨pb,po,none⟩) n4 c4) := gw_cell (HX.out.cell 4 rfl)
         have zy : ∀ z : Grown wr,(gw z).cell? ⟨yb,4,none⟩ = some (.slice (some ⟨qb,qo,none⟩) n4 d4) := gw_cell (HY.out.cell 4 rfl)
         have zw := HX.out.cell 4 (v := .slice (some ⟨pb,po,none⟩) n4 c4) rfl
         have e0 : ∀ z : Grown wr,(gw z).cell? ⟨pb,po + k * 7,none⟩ = some (.string p.name) := gw_cell (by have := pres_below HB.out _ _ (hpc 0 (.string p.name) rfl); simpa using this)
         have e1 : ∀ z : Grown wr,(gw z).cell? ⟨pb,po + k * 7 + 1,none⟩ = some (.slice pA p.keys.length pC) := gw_cell (by have := pres_below HB.out _ _ (hpc 1 (.slice pA p.keys.length pC) rfl); simpa using this)
         have e2 : ∀ z : Grown wr,(gw z).cell? ⟨pb,po + k * 7 + 2,none⟩ = some (.slice pB p.actions.length pD) := gw_cell (by have := pres_below HB.out _ _ (hpc 2 (.slice pB p.actions.length pD) rfl); simpa using this)
         have e3 : ∀ z : Grown wr,(gw z).cell? ⟨pb,po + k * 7 + 3,none⟩ = some (.int .i64 p.size) := gw_cell (by have := pres_below HB.out _ _ (hpc 3 (.int .i64 p.size) rfl); simpa using this)
         have e4 : ∀ z : Grown wr,(gw z).cell? ⟨pb,po + k * 7 + 4,none⟩ = some (.string p.dflt.action) := gw_cell (by have := pres_below HB.out _ _ (hpc 4 (.string p.dflt.action) rfl); simpa using this)
         have e5 : ∀ z : Grown wr,(gw z).cell? ⟨pb,po + k * 7 + 5,none⟩ = some (.slice pE p.dflt.args.length pF) := gw_cell (by have := pres_below HB.out _ _ (hpc 5 (.slice pE p.dflt.args.length pF) rfl); simpa using this)
         have e6 : ∀ z : Grown wr,(gw z).cell? ⟨pb,po + k * 7 + 6,none⟩ = some (.bool p.fixed) := gw_cell (by have := pres_below HB.out _ _ (hpc 6 (.bool p.fixed) rfl); simpa using this)
         have f0 : ∀ z : Grown wr,(gw z).cell? ⟨qb,qo + k * 7,none⟩ = some (.string q.name) := gw_cell (by have := pres_below HB.out _ _ (hqc 0 (.string q.name) rfl); simpa using this)
         have f1 : ∀ z : Grown wr,(gw z).cell? ⟨qb,qo + k * 7 + 1,none⟩ = some (.slice qA q.keys.length qC) := gw_cell (by have := pres_below HB.out _ _ (hqc 1 (.slice qA q.keys.length qC) rfl); simpa using this)
         have f2 : ∀ z : Grown wr,(gw z).cell? ⟨qb,qo + k * 7 + 2,none⟩ = some (.slice qB q.actions.length qD) := gw_cell (by have := pres_below HB.out _ _ (hqc 2 (.slice qB q.actions.length qD) rfl); simpa using this)
         have f3 : ∀ z : Grown wr,(gw z).cell? ⟨qb,qo + k * 7 + 3,none⟩ = some (.int .i64 q.size) := gw_cell (by have := pres_below HB.out _ _ (hqc 3 (.int .i64 q.size) rfl); simpa using this)
         have f4 : ∀ z : Grown wr,(gw z).cell? ⟨qb,qo + k * 7 + 4,none⟩ = some (.string q.dflt.action) := gw_cell (by have := pres_below HB.out _ _ (hqc 4 (.string q.dflt.action) rfl); simpa using this)
         have f5 : ∀ z : Grown wr,(gw z).cell? ⟨qb,qo + k * 7 + 5,none⟩ = some (.slice qE q.dflt.args.length qF) := gw_cell (by have := pres_below HB.out _ _ (hqc 5 (.slice qE q.dflt.args.length qF) rfl); simpa using this)
         have f6 : ∀ z : Grown wr,(gw z).cell? ⟨qb,qo + k * 7 + 6,none⟩ = some (.bool q.fixed) := gw_cell (by have := pres_below HB.out _ _ (hqc 6 (.bool q.fixed) rfl); simpa using this)
         clear hA hpc hqc hIp hIq hp hq
         generalize decide (p = q) = r at *
         go_upto_region 25 with fail
         clear zw
         refine region_grows (by kernel_rfl) (by kernel_rfl) ?_
         repeat (go_big_quiet_step ((go_at_call 47; exact calls_gw (CQ.out _))))
         refine wpQuiet_nil ?_
         intro wq hwq
         obtain ⟨zq,hwq⟩ := hwq
         subst hwq
         have HBn : Hid (Below w.heap.size w (gw zq)) := bst HB.out (gw_below zq) (Nat.le_refl _)
         have HXn : Hid (Blk (gw zq) xb #[.slice a0 n0 c0,.slice a1 nx1 c1,.slice a2 n2 c2,.slice a3 n3 c3,.slice (some ⟨pb,po,none⟩) n4 c4,.slice a5 nx5 c5] 34) := HX.out.below (gw_below zq)
         have HYn : Hid (Blk (gw zq) yb #[.slice b0 n0 d0,.slice b1 ny1 d1,.slice b2 n2 d2,.slice b3 n3 d3,.slice (some ⟨qb,qo,none⟩) n4 d4,.slice b5 ny5 d5] 34) := HY.out.below (gw_below zq)
         clear CQ zx zy HB HX HY e0 f0 e1 f1 e2 f2 e3 f3 e4 f4 e5 f5 e6 f6
         generalize gw zq = Wn at HBn HXn HYn ⊢
         cases r
         ·have HF : Hid (R = false) := by show _ = _; rw [HE3.out,HDk.out]; rfl
          clear HDk
          go_wp2
          go_ret
          exact ⟨by rw [HF.out]; rfl,HBn.out⟩
         ·go_wp2
          exact ⟨⟨k + 1,by omega,by go_num,HBn.out,HXn.out,HYn.out,by show _ = _; rw [HDk.out,Bool.true_and]⟩,by simp only [intOf]; omega⟩
        ·have e : k = n4 := by omega
         subst e
         have HT : Hid (D4 = true) := by
          show _ = _
          rw [hA.out,decide_eq_true_eq]
          have h1 := HL4.out.1; have h2 := HL4.out.2
          rw [List.drop_of_length_le (by omega),List.drop_of_length_le (by omega)]
         have HE4 : Hid (R = (D5)) := by show _ = _; rw [HE3.out,HT.out]; rfl
         clear hA HT HE3
         obtain ⟨V4,hV4⟩ : ∃ V,V = wr := ⟨_,rfl⟩
         have HB4 : Hid (Below w.heap.size w V4) := by rw [hV4]; exact HB.out
         have HX4 : Hid (Blk V4 xb #[.slice a0 n0 c0,.slice a1 nx1 c1,.slice a2 n2 c2,.slice a3 n3 c3,.slice a4 k c4,.slice a5 nx5 c5] 34) := by rw [hV4]; exact HX.out
         have HY4 : Hid (Blk V4 yb #[.slice b0 n0 d0,.slice b1 ny1 d1,.slice b2 n2 d2,.slice b3 n3 d3,.slice b4 k d4,.slice b5 ny5 d5] 34) := by rw [hV4]; exact HY.out
         have zw := HX.out.cell 4 (v := .slice a4 k c4) rfl
         rw [← hV4] at zw ⊢
         clear hV4 HB HX HY
         obtain ⟨n4,hkn⟩ : ∃ n,n = k := ⟨_,rfl⟩
         rw [← hkn] at HX4 HY4 zw ⊢
         clear hkn
         have z5 := HX4.out.cell 5 (v := .slice a5 nx5 c5) rfl
         have y5 := HY4.out.cell 5 (v := .slice b5 ny5 d5) rfl
         go_wp2_with fail
         refine (C109.out _ HB4.out).mono ?_
         rintro e VF ⟨rfl,hb⟩
         have HBF : Hid (Below w.heap.size w VF) := bst HB4.out hb
         clear hb
         go_wp2
         go_ret
         exact ⟨by rw [HE4.out]; rfl,HBF.out⟩
end Go.Proofs.YtmbpclknhkbbkaaGreat
