/- Package schema: Call. The document's Call. -/
import Derived.Test.YtmbpclknhkbbkaaGreatK22
import Derived.Test.YtmbpclknhkbbkaaGreatK25
import Derived.Test.YtmbpclknhkbbkaaGreatK31
import Derived.Test.YtmbpclknhkbbkaaGreatK38
import Derived.Test.YtmbpclknhkbbkaaGreatK23
set_option linter.unusedSimpArgs false
set_option linter.unusedVariables false
namespace Go.Proofs.YtmbpclknhkbbkaaGreat
open Go.RowKit
set_option linter.unusedVariables false
set_option linter.unusedSimpArgs false

/-- May a table have a call? -/
def callE (s : Sch) (t : ByteArray) (c : Cl) : Int :=
 match s.tables.find? (fun x => decide (x.name = t)),s.actions.find? (fun x => decide (x.name = c.action)) with
 | none,_ => 110
 | some x,none => 113
 | some x,some a => if hasT x.actions c.action = true then (if fitAll c.args a.params = true then 0 else 76) else 113
/-- A call in memory. -/
def ClIs (w : World) (v : Value) (c : Cl) : Prop := ∃ u,v = .agg #[.string c.action,u] ∧ Okt c.action ∧ BitRow w u c.args
theorem tblAt_find (s : Sch) (name : ByteArray) : (tblAt s name = -1 ∧ s.tables.find? (fun x => decide (x.name = name)) = none) ∨ ∃ (i : Nat) (h : Tbl),s.tables[i]? = some h ∧ s.tables.find? (fun x => decide (x.name = name)) = some h ∧ tblAt s name = (i : Int) := by
 rcases idx_cases (fun h : Tbl => decide (h.name = name)) s.tables 0 with ⟨hi,hn⟩ | ⟨i,x,hlt,hx,hp,hi,hn⟩
 ·exact .inl ⟨hi,find_none hn⟩
 ·exact .inr ⟨i,x,hx,find_at hx hp hn,by unfold tblAt; rw [hi,Nat.zero_add]⟩
theorem actAt_find (s : Sch) (name : ByteArray) : (actAt s name = -1 ∧ s.actions.find? (fun x => decide (x.name = name)) = none) ∨ ∃ (i : Nat) (h : Actn),s.actions[i]? = some h ∧ s.actions.find? (fun x => decide (x.name = name)) = some h ∧ actAt s name = (i : Int) := by
 rcases idx_cases (fun h : Actn => decide (h.name = name)) s.actions 0 with ⟨hi,hn⟩ | ⟨i,x,hlt,hx,hp,hi,hn⟩
 ·exact .inl ⟨hi,find_none hn⟩
 ·exact .inr ⟨i,x,hx,find_at hx hp hn,by unfold actAt; rw [hi,Nat.zero_add]⟩
abbrev SA (a0 a1 a2 a3 a4 a5 : Option Addr) (c0 c1 c2 c3 c4 c5 n0 n1 n2 n3 n4 n5 : Nat) : Array Value := #[.slice a0 n0 c0,.slice a1 n1 c1,.slice a2 n2 c2,.slice a3 n3 c3,.slice a4 n4 c4,.slice a5 n5 c5]
set_option maxHeartbeats 2000000 in
theorem call_any (v : Value) (s : Sch) (name : ByteArray) (u : Value) (c : Cl) (w : World) (hs : SchIs w v s) (hc : ClIs w u c) : Calls Tryz.prog 82 #[v,.string name,u] w fun e w' => e = .returned (.int .i64 (callE s name c)) ∧ Below w.heap.size w w' := by
 obtain ⟨a0,c0,a1,c1,a2,c2,a3,c3,a4,c4,a5,c5,rfl,h0,h1,h2,h3,h4,h5⟩ := hs.parts
 obtain ⟨ua,rfl,hco,hcr⟩ := hc
 obtain ⟨ba,bc,rfl,_⟩ := hcr.1.slice
 have htl : s.tables.length * 120 ≤ 140737488351232 := h4.2
 have hal : s.actions.length * 64 ≤ 140737488351232 := h3.2
 have hbl : c.args.length * 16 ≤ 140737488351232 := hcr.2
 have HS : Hid (SchIs w (.agg (SA a0 a1 a2 a3 a4 a5 c0 c1 c2 c3 c4 c5 s.headers.length s.metas.length s.states.length s.actions.length s.tables.length s.control.length)) s) := hs
 have HCR : Hid (BitRow w (.slice ba c.args.length bc) c.args) := hcr
 have HT4 : Hid (TblRow w (.slice a4 s.tables.length c4) s.tables) := h4
 have HT3 : Hid (ActRow w (.slice a3 s.actions.length c3) s.actions) := h3
 have HA : Hid (Below w.heap.size w ((w.alloc (.cells (SA a0 a1 a2 a3 a4 a5 c0 c1 c2 c3 c4 c5 s.headers.length s.metas.length s.states.length s.actions.length s.tables.length s.control.length) 34)).alloc (.cells #[.string c.action,.slice ba c.args.length bc] 45))) := ((Below.refl _ _).alloc (Nat.le_refl _) _).alloc (by simp) _
 have HX : Hid (Blk ((w.alloc (.cells (SA a0 a1 a2 a3 a4 a5 c0 c1 c2 c3 c4 c5 s.headers.length s.metas.length s.states.length s.actions.length s.tables.length s.control.length) 34)).alloc (.cells #[.string c.action,.slice ba c.args.length bc] 45)) w.heap.size (SA a0 a1 a2 a3 a4 a5 c0 c1 c2 c3 c4 c5 s.headers.length s.metas.length s.states.length s.actions.length s.tables.length s.control.length) 34) := (Blk.new w _ 34).below ((Below.refl _ _).alloc (Nat.le_refl _) _)
 have HY : Hid (Blk ((w.alloc (.cells (SA a0 a1 a2 a3 a4 a5 c0 c1 c2 c3 c4 c5 s.headers.length s.metas.length s.states.length s.actions.length s.tables.length s.control.length) 34)).alloc (.cells #[.string c.action,.slice ba c.args.length bc] 45)) (w.heap.size + 1) #[.string c.action,.slice ba c.args.length bc] 45) := by
  have := Blk.new (w.alloc (.cells (SA a0 a1 a2 a3 a4 a5 c0 c1 c2 c3 c4 c5 s.headers.length s.metas.length s.states.length s.actions.length s.tables.length s.control.length) 34)) #[.string c.action,.slice ba c.args.length bc] 45
  show Blk _ _ _ _
  simpa using this
 have CT : Hid (∀ w1,Below w.heap.size w w1 → Calls Tryz.prog 126 #[.agg (SA a0 a1 a2 a3 a4 a5 c0 c1 c2 c3 c4 c5 s.headers.length s.metas.length s.states.length s.actions.length s.tables.length s.control.length),.string name] w1 fun e w' => e = .returned (.int .i64 (tblAt s name)) ∧ Hid (Below w1.heap.size w1 w')) := fun w1 hb => tableAt_any _ s name _ (HS.out.pres (pres_below hb))
 have CA : Hid (∀ w1,Below w.heap.size w w1 → Calls Tryz.prog 125 #[.agg (SA a0 a1 a2 a3 a4 a5 c0 c1 c2 c3 c4 c5 s.headers.length s.metas.length s.states.length s.actions.length s.tables.length s.control.length),.string c.action] w1 fun e w' => e = .returned (.int .i64 (actAt s c.action)) ∧ Hid (Below w1.heap.size w1 w')) := fun w1 hb => actionAt_any _ s c.action _ (HS.out.pres (pres_below hb))
 have HT := tblAt_find s name
 have HAc := actAt_find s c.action
 have HE : Hid (callE s name c = match s.tables.find? (fun x => decide (x.name = name)), s.actions.find? (fun x => decide (x.name = c.action)) with
   | none, _ => 110
   | some x, none => 113
   | some x, some a => if hasT x.actions c.action = true then (if fitAll c.args a.params = true then 0 else 76) else 113) := by show _ = _; rfl
 generalize callE s name c = R at *
 generalize tblAt s name = ti at *
 generalize actAt s c.action = ai at *
 generalize s.tables.find? (fun x => decide (x.name = name)) = ft at *
 generalize s.actions.find? (fun x => decide (x.name = c.action)) = fa at *
 have HTT : Hid ((ti = -1 ∧ ft = none) ∨ ∃ (i : Nat) (h : Tbl),s.tables[i]? = some h ∧ ft = some h ∧ ti = (i : Int)) := HT
 have HAA : Hid ((ai = -1 ∧ fa = none) ∨ ∃ (i : Nat) (h : Actn),s.actions[i]? = some h ∧ fa = some h ∧ ai = (i : Int)) := HAc
 clear hs hcr h0 h1 h2 h3 h4 h5 HS HT HAc
 generalize hn0 : s.headers.length = n0 at *
 generalize hn1 : s.metas.length = n1 at *
 generalize hn2 : s.states.length = n2 at *
 generalize hn5 : s.control.length = n5 at *
 generalize s.actions = acts at *
 generalize s.tables = tbls at *
 obtain ⟨n3,hn3⟩ : ∃ n,n = acts.length := ⟨_,rfl⟩
 obtain ⟨n4,hn4⟩ : ∃ n,n = tbls.length := ⟨_,rfl⟩
 have HN3 : Hid (n3 = acts.length) := hn3
 have HN4 : Hid (n4 = tbls.length) := hn4
 rw [← hn3] at hal HT3 HA HX HY CT CA ⊢
 rw [← hn4] at htl HT4 HA HX HY CT CA ⊢
 clear hn0 hn1 hn2 hn3 hn4 hn5
 unfold SA at *
 go_enter Tryz.func82,Tryz.ntmps82
 go_upto_region 1 with fail
 generalize ((w.alloc _).alloc _) = W0 at HA HX HY ⊢
 obtain ⟨x0,x1,x2,x3,x4,x5⟩ := HX.out.c6
 go_wp2_with fail
 refine (CT.out _ HA.out).mono ?_
 rintro e w1 ⟨rfl,hb1⟩
 have HB1 : Hid (Below w.heap.size w w1) := bst HA.out hb1.out (Nat.le_refl _)
 have HX1 : Hid (Blk w1 w.heap.size #[.slice a0 n0 c0,.slice a1 n1 c1,.slice a2 n2 c2,.slice a3 n3 c3,.slice a4 n4 c4,.slice a5 n5 c5] 34) := HX.out.below hb1.out
 have HY1 : Hid (Blk w1 (w.heap.size + 1) #[.string c.action,.slice ba c.args.length bc] 45) := HY.out.below hb1.out
 clear hb1 CT x0 x1 x2 x3 x4 x5 HA HX HY
 rcases HTT.out with ⟨rfl,rfl⟩ | ⟨i,tx,htx,rfl,rfl⟩
 ·have HR : Hid (R = 110) := by show _ = _; rw [HE.out]
  clear HE HTT HAA
  go_wp2
  go_ret
  exact ⟨by rw [HR.out]; rfl,HB1.out⟩
 ·obtain ⟨x0,x1,x2,x3,x4,x5⟩ := HX1.out.c6
  have y0 := HY1.out.cell 0 (v := .string c.action) rfl
  have hge : ¬ (i : Int) < 0 := by omega
  have hgd : decide ((i : Int) < 0) = false := by simp
  have hil : i < n4 := by rw [HN4.out]; exact (List.getElem?_eq_some_iff.1 htx).1
  have HTX : Hid (tbls[i]? = some tx) := htx
  clear HTT htx
  go_wp2_with fail
  refine (CA.out _ HB1.out).mono ?_
  rintro e w2 ⟨rfl,hb2⟩
  have HB2 : Hid (Below w.heap.size w w2) := bst HB1.out hb2.out (Nat.le_refl _)
  have HX2 : Hid (Blk w2 w.heap.size #[.slice a0 n0 c0,.slice a1 n1 c1,.slice a2 n2 c2,.slice a3 n3 c3,.slice a4 n4 c4,.slice a5 n5 c5] 34) := HX1.out.below hb2.out
  have HY2 : Hid (Blk w2 (w.heap.size + 1) #[.string c.action,.slice ba c.args.length bc] 45) := HY1.out.below hb2.out
  clear hb2 CA x0 x1 x2 x3 x4 x5 y0 HB1 HX1 HY1
  rcases HAA.out with ⟨rfl,rfl⟩ | ⟨j,ax,hax,rfl,rfl⟩
  ·have HR : Hid (R = 113) := by show _ = _; rw [HE.out]
   clear HE HAA
   go_wp2
   go_quiet (fail)
   go_wp2
   go_ret
   exact ⟨by rw [HR.out]; rfl,⟨HB2.out.os,HB2.out.tape,HB2.out.output,HB2.out.size,HB2.out.block⟩⟩
  ·have hjd : decide ((j : Int) < 0) = false := by simp
   have hjg : ¬ (j : Int) < 0 := by omega
   have hjl : j < n3 := by rw [HN3.out]; exact (List.getElem?_eq_some_iff.1 hax).1
   obtain ⟨tb,tof,tcs,rfl,_,htc,vk,va,vd,rfl,hto,_,htr,_⟩ := HT4.out.1.at HTX.out
   obtain ⟨ab,aof,acs,rfl,_,hac,vp,vs,rfl,hao,hpr,_⟩ := HT3.out.1.at hax
   obtain ⟨ta,tc,rfl,_⟩ := htr.1.slice
   obtain ⟨pa,pc,rfl,_⟩ := hpr.1.slice
   have q2 : w2.cell? ⟨tb,tof + i * 7 + 2,none⟩ = some (.slice ta tx.actions.length tc) := pres_below HB2.out _ _ (htc 2 _ rfl)
   have HQ1 : Hid (w.cell? ⟨ab,aof + j * 3 + 1,none⟩ = some (.slice pa ax.params.length pc)) := hac 1 _ rfl
   have x4 := HX2.out.cell 4 (v := .slice (some ⟨tb,tof,none⟩) n4 c4) rfl
   have y0 := HY2.out.cell 0 (v := .string c.action) rfl
   have CC : Hid (Calls Tryz.prog 166 #[.slice ta tx.actions.length tc,.string c.action] w2.drew fun e w' => e = .returned (.bool (hasT tx.actions c.action)) ∧ Hid (Below w2.drew.heap.size w2.drew w')) := containsTxt_any _ tx.actions w2.drew (htr.pres (pres_below HB2.out.drew)).1 (by have := htr.2; unfold Len at this; omega) c.action
   have HR : Hid (R = if hasT tx.actions c.action = true then (if fitAll c.args ax.params = true then 0 else 76) else 113) := by show _ = _; rw [HE.out]
   clear HE HAA htc hac
   generalize hasT tx.actions c.action = hb at *
   generalize tx.actions.length = tl at *
   go_wp2_with fail
   go_region_held3 (fun w' => w'.cell? ⟨w.heap.size,4,none⟩ = some (.slice (some ⟨tb,tof,none⟩) n4 c4) ∧ w'.cell? ⟨tb,tof + i * 7 + 2,none⟩ = some (.slice ta tl tc) ∧ w'.cell? ⟨w.heap.size + 1,0,none⟩ = some (.string c.action)) (first | exact ⟨x4,q2,y0⟩ | exact ⟨pres_below HB3.out _ _ x4,pres_below HB3.out _ _ q2,pres_below HB3.out _ _ y0⟩) ((go_at_call 166; refine CC.out.mono ?_; rintro e w3 ⟨rfl,HB3⟩))
   have HB4 : Hid (Below w.heap.size w w3) := bst HB2.out.drew HB3.out (Nat.le_refl _)
   cases hb with
   | false =>
    have HR' : Hid (R = 113) := by show _ = _; rw [HR.out]; rfl
    clear HR
    go_wp2
    go_ret
    exact ⟨by rw [HR'.out]; rfl,HB4.out⟩
   | true =>
    have HR' : Hid (R = if fitAll c.args ax.params = true then 0 else 76) := by show _ = _; rw [HR.out]; rfl
    have z3 := (HX2.out.below (w' := w3) (by exact bst (Below.fresh w2 1) HB3.out (Nat.le_refl _))).cell 3 (v := .slice (some ⟨ab,aof,none⟩) n3 c3) rfl
    have z1 := (HY2.out.below (w' := w3) (by exact bst (Below.fresh w2 1) HB3.out (Nat.le_refl _))).cell 1 (v := .slice ba c.args.length bc) rfl
    have p1 := pres_below HB4.out _ _ HQ1.out
    have CE : Hid (Calls Tryz.prog 167 #[.slice ba c.args.length bc,.slice pa ax.params.length pc,.func (.func 168) #[] #[]] w3.drew fun e w' => e = .returned (.bool (fitAll c.args ax.params)) ∧ Hid (Below w3.drew.heap.size w3.drew w')) := fitAll_any _ _ c.args ax.params w3.drew (HCR.out.pres (pres_below HB4.out.drew)).1 (hpr.pres (pres_below HB4.out.drew)).1 (by omega)
    clear HR x4 y0 q2 CC HB3
    generalize fitAll c.args ax.params = fb at *
    generalize ax.params.length = pl at *
    go_wp2_with fail
    go_region_held3 (fun w' => w'.cell? ⟨w.heap.size,3,none⟩ = some (.slice (some ⟨ab,aof,none⟩) n3 c3) ∧ w'.cell? ⟨ab,aof + j * 3 + 1,none⟩ = some (.slice pa pl pc) ∧ w'.cell? ⟨w.heap.size + 1,1,none⟩ = some (.slice ba c.args.length bc)) (first | exact ⟨z3,p1,z1⟩ | exact ⟨pres_below HB5.out _ _ z3,pres_below HB5.out _ _ p1,pres_below HB5.out _ _ z1⟩) ((go_at_call 167; refine CE.out.mono ?_; rintro e w5 ⟨rfl,HB5⟩))
    have HB6 : Hid (Below w.heap.size w w5) := bst HB4.out.drew HB5.out (Nat.le_refl _)
    cases fb with
    | false =>
     have HR2 : Hid (R = 76) := by show _ = _; rw [HR'.out]; rfl
     clear HR'
     go_wp2
     go_ret
     exact ⟨by rw [HR2.out]; rfl,HB6.out⟩
    | true =>
     have HR2 : Hid (R = 0) := by show _ = _; rw [HR'.out]; rfl
     clear HR'
     go_wp2
     go_ret
     exact ⟨by rw [HR2.out]; rfl,HB6.out⟩

theorem fitAll_two {xs : List Nat} {ys : List Fld} {k : Nat} {x : Nat} {y : Fld} (hx : xs[k]? = some x) (hy : ys[k]? = some y) : fitAll (xs.drop k) (ys.drop k) = (fitsN x y.width && fitAll (xs.drop (k + 1)) (ys.drop (k + 1))) := by
 obtain ⟨h1,e1⟩ := List.getElem?_eq_some_iff.1 hx
 obtain ⟨h2,e2⟩ := List.getElem?_eq_some_iff.1 hy
 rw [List.drop_eq_getElem_cons h1,List.drop_eq_getElem_cons h2,e1,e2,fitAll]
set_option maxHeartbeats 4000000 in
set_option maxRecDepth 100000 in
theorem rcall_any (v : Value) (s : Sch) (name : ByteArray) (u : Value) (c : Cl) (w : World) (hs : SchIs w v s) (hc : ClIs w u c) : Calls Tryz.prog 83 #[v,.string name,u] w fun e w' => e = .returned (.int .i64 (callE s name c)) ∧ Below w.heap.size w w' := by
 obtain ⟨a0,c0,a1,c1,a2,c2,a3,c3,a4,c4,a5,c5,rfl,h0,h1,h2,h3,h4,h5⟩ := hs.parts
 obtain ⟨ua,rfl,hca,hcr⟩ := hc
 obtain ⟨ca,cc,rfl,_⟩ := hcr.1.slice
 have HS : Hid (SchIs w (.agg (bxA s a0 c0 a1 c1 a2 c2 a3 c3 a4 c4 a5 c5)) s) := hs
 have HT : Hid (TblRow w (.slice a4 s.tables.length c4) s.tables) := h4
 have HA : Hid (ActRow w (.slice a3 s.actions.length c3) s.actions) := h3
 have HG : Hid (BitRow w (.slice ca c.args.length cc) c.args) := hcr
 have HB0 : Hid (Below w.heap.size w ((w.alloc (.cells (bxA s a0 c0 a1 c1 a2 c2 a3 c3 a4 c4 a5 c5) 34)).alloc (.cells #[.string c.action,.slice ca c.args.length cc] 45))) := ((Below.refl _ _).alloc (Nat.le_refl _) _).alloc (by simp) _
 have HX0 : Hid (Blk ((w.alloc (.cells (bxA s a0 c0 a1 c1 a2 c2 a3 c3 a4 c4 a5 c5) 34)).alloc (.cells #[.string c.action,.slice ca c.args.length cc] 45)) w.heap.size (bxA s a0 c0 a1 c1 a2 c2 a3 c3 a4 c4 a5 c5) 34) := (Blk.new _ _ _).below ((Below.refl _ _).alloc (Nat.le_refl _) _)
 have HY0 : Hid (Blk ((w.alloc (.cells (bxA s a0 c0 a1 c1 a2 c2 a3 c3 a4 c4 a5 c5) 34)).alloc (.cells #[.string c.action,.slice ca c.args.length cc] 45)) (w.heap.size + 1) #[.string c.action,.slice ca c.args.length cc] 45) := by
  have := Blk.new (w.alloc (.cells (bxA s a0 c0 a1 c1 a2 c2 a3 c3 a4 c4 a5 c5) 34)) #[.string c.action,.slice ca c.args.length cc] 45
  show Blk _ _ _ _
  simpa using this
 have CT : Hid (∀ W,Below w.heap.size w W → Calls Tryz.prog 131 #[.agg (bxA s a0 c0 a1 c1 a2 c2 a3 c3 a4 c4 a5 c5),.string name] W fun e w' => e = .returned (.int .i64 (tblAt s name)) ∧ Below W.heap.size W w') := fun W hb => rtblAt_any _ s name W (hs.pres (pres_below hb))
 have CA : Hid (∀ W,Below w.heap.size w W → Calls Tryz.prog 130 #[.agg (bxA s a0 c0 a1 c1 a2 c2 a3 c3 a4 c4 a5 c5),.string c.action] W fun e w' => e = .returned (.int .i64 (actAt s c.action)) ∧ Below W.heap.size W w') := fun W hb => ractAt_any _ s c.action W (hs.pres (pres_below hb))
 have HE : Hid (callE s name c = match s.tables.find? (fun x => decide (x.name = name)), s.actions.find? (fun x => decide (x.name = c.action)) with
   | none, _ => 110
   | some x, none => 113
   | some x, some a => if hasT x.actions c.action = true then (if fitAll c.args a.params = true then 0 else 76) else 113) := rfl
 generalize callE s name c = R at *
 clear hs h0 h1 h2 h3 h4 h5 hca hcr
 go_enter Tryz.func83,Tryz.ntmps83
 go_upto_region 1 with fail
 generalize ((w.alloc _).alloc _) = W0 at HB0 HX0 HY0 ⊢
 obtain ⟨xb,hxb⟩ : ∃ xb,xb = w.heap.size := ⟨_,rfl⟩
 obtain ⟨yb,hyb⟩ : ∃ yb,yb = w.heap.size + 1 := ⟨_,rfl⟩
 rw [← hxb] at HX0
 rw [← hyb] at HY0 ⊢
 rw [← hxb]
 clear hxb hyb
 obtain ⟨x0,x1,x2,x3,x4,x5⟩ := HX0.out.c6
 go_wp2_with fail
 refine (CT.out _ HB0.out).mono ?_
 rintro e W1 ⟨rfl,hb⟩
 have HB1 : Hid (Below w.heap.size w W1) := bst HB0.out hb
 have HX1 := hblk HX0 hb
 have HY1 := hblk HY0 hb
 clear hb HB0 HX0 HY0 CT x0 x1 x2 x3 x4 x5
 rcases tblAt_find s name with ⟨ht,hf⟩ | ⟨i,x,hx,hf,ht⟩
 ·have HR : Hid (R = 110) := by show _ = _; rw [HE.out,hf]
  rw [ht]
  clear HE hf ht
  go_wp2
  go_ret
  exact ⟨by rw [HR.out]; rfl,HB1.out⟩
 rw [ht]
 have HE2 : Hid (R = match s.actions.find? (fun x => decide (x.name = c.action)) with
   | none => 113
   | some a => if hasT x.actions c.action = true then (if fitAll c.args a.params = true then 0 else 76) else 113) := by
  show _ = _
  rw [HE.out,hf]
  cases s.actions.find? (fun x => decide (x.name = c.action)) <;> rfl
 have hil : i < s.tables.length := (List.getElem?_eq_some_iff.1 hx).1
 obtain ⟨tb,tof,tcs,rfl,_,htc,vk,va,vd,rfl,_,_,htr,_⟩ := HT.out.1.at hx
 obtain ⟨na,nc,rfl,_⟩ := htr.1.slice
 have HTR : Hid (TxtRow w (.slice na x.actions.length nc) x.actions) := htr
 have htk := htc 2 (.slice na x.actions.length nc) rfl
 have hii : (0 : Int) ≤ (i : Int) ∧ (i : Int) < (s.tables.length : Int) := by omega
 have hin : ¬ ((i : Int) < 0) := by omega
 clear HE hf ht hx htc htr HT
 obtain ⟨x0,x1,x2,x3,x4,x5⟩ := HX1.out.c6
 have y0 := HY1.out.cell 0 (v := .string c.action) rfl
 go_wp2_with fail
 refine (CA.out _ HB1.out).mono ?_
 rintro e W2 ⟨rfl,hb⟩
 have HB2 : Hid (Below w.heap.size w W2) := bst HB1.out hb
 have HX2 := hblk HX1 hb
 have HY2 := hblk HY1 hb
 clear hb HB1 HX1 HY1 CA y0 x0 x1 x2 x3 x4 x5
 have x4 := HX2.out.cell 4 (v := .slice (some ⟨tb,tof,none⟩) s.tables.length c4) rfl
 have y0 := HY2.out.cell 0 (v := .string c.action) rfl
 have t2 : W2.cell? ⟨tb,tof + i * 7 + 2,none⟩ = some (.slice na x.actions.length nc) := pres_below HB2.out _ _ htk
 have CQ : Hid (∀ d,Calls Tryz.prog 89 #[.slice na x.actions.length nc,.string c.action] (W2.drewN d) fun e w' => e = .returned (.bool (hasT x.actions c.action)) ∧ w' = W2.drewN d) := fun d => rhas_any _ x.actions c.action _ ((HTR.out.pres (pres_below (below_drewN HB2.out d))).1) (by have h : x.actions.length * 16 ≤ _ := HTR.out.2; omega)
 go_upto_region 5 with fail
 go_quiet ((go_at_call 89; refine Calls.quiet_of_same (CQ.out _)))
 rename_i nq
 have HB3 : Hid (Below w.heap.size w (W2.drewN nq)) := below_drewN HB2.out _
 have HX3 : Hid (Blk (W2.drewN nq) xb #[.slice a0 s.headers.length c0,.slice a1 s.metas.length c1,.slice a2 s.states.length c2,.slice a3 s.actions.length c3,.slice (some ⟨tb,tof,none⟩) s.tables.length c4,.slice a5 s.control.length c5] 34) := HX2.out
 have HY3 : Hid (Blk (W2.drewN nq) yb #[.string c.action,.slice ca c.args.length cc] 45) := HY2.out
 clear HB2 HX2 HY2 CQ x4 y0 t2 HTR htk
 generalize W2.drewN nq = W3 at HB3 HX3 HY3 ⊢
 generalize hasT x.actions c.action = ht at *
 rcases actAt_find s c.action with ⟨hac,hf⟩ | ⟨j,a,ha,hf,hac⟩
 ·have HR : Hid (R = 113) := by show _ = _; rw [HE2.out,hf]
  rw [hac]
  clear HE2 hf hac
  go_wp2
  go_ret
  exact ⟨by rw [HR.out]; rfl,HB3.out⟩
 rw [hac]
 have hjn : ¬ ((j : Int) < 0) := by omega
 cases ht
 ·have HR : Hid (R = 113) := by show _ = _; rw [HE2.out,hf]; rfl
  clear HE2 hf hac
  go_wp2
  go_ret
  exact ⟨by rw [HR.out]; rfl,HB3.out⟩
 have HE3 : Hid (R = if fitAll c.args a.params = true then 0 else 76) := by show _ = _; rw [HE2.out,hf]; rfl
 have hjl : j < s.actions.length := (List.getElem?_eq_some_iff.1 ha).1
 obtain ⟨ab,aof,acs,rfl,_,hak,pv,sv,rfl,_,hpr,_⟩ := HA.out.1.at ha
 obtain ⟨pa,pc,rfl,_⟩ := hpr.1.slice
 have HPR : Hid (FldRow w (.slice pa a.params.length pc) a.params) := hpr
 have hpl : a.params.length * 24 ≤ 140737488351232 := hpr.2
 have a1' : W3.cell? ⟨ab,aof + j * 3 + 1,none⟩ = some (.slice pa a.params.length pc) := by have := pres_below HB3.out _ _ (hak 1 (.slice pa a.params.length pc) rfl); simpa using this
 have hjj : (0 : Int) ≤ (j : Int) ∧ (j : Int) < (s.actions.length : Int) := by omega
 have x3 := HX3.out.cell 3 (v := .slice (some ⟨ab,aof,none⟩) s.actions.length c3) rfl
 have y1 := HY3.out.cell 1 (v := .slice ca c.args.length cc) rfl
 clear HE2 hf hac ha hak hpr HA HS
 by_cases hne : ¬ a.params.length = c.args.length
 ·have hne' : ¬ ((a.params.length : Int) = (c.args.length : Int)) := by omega
  have HR : Hid (R = 76) := by show _ = _; rw [HE3.out,fitAll_len _ _ (fun h => hne h.symm)]; rfl
  clear HE3
  go_wp2
  go_ret
  exact ⟨by rw [HR.out]; rfl,HB3.out⟩
 have hne := Classical.not_not.1 hne
 obtain ⟨n,hn⟩ : ∃ n,n = a.params.length := ⟨_,rfl⟩
 have HL : Hid (n = a.params.length ∧ n = c.args.length) := ⟨hn,by omega⟩
 rw [← hne] at y1 HY3 HG
 rw [← hn] at y1 HY3 HG HPR hpl a1'
 clear hn hne
 have HGB : Hid (Row 2 (Flat BitC Is128) w (.slice ca n cc) c.args) := HG.out.1
 have HPB : Hid (Row 2 (Flat FldC FldOk) w (.slice pa n pc) a.params) := HPR.out.1
 have H00 : Hid (fitAll c.args a.params = fitAll (c.args.drop 0) (a.params.drop 0)) := rfl
 generalize hfa : fitAll c.args a.params = fa at *
 clear HG HPR hfa
 generalize a.params = ys at *
 generalize c.args = zs at *
 go_wp2_with fail
 clear a1' x3 y1
 go_loopw [11] (fun k wr => ∃ kk : Nat,kk ≤ n ∧ k = .int .i64 kk ∧ Below w.heap.size w wr ∧ Blk wr yb #[.string c.action,.slice ca n cc] 45 ∧ Aside (fa = fitAll (zs.drop kk) (ys.drop kk))) (fun k _ => n - (intOf k).toNat)
 case atStart => exact ⟨0,by omega,rfl,HB3.out,HY3.out,H00.out⟩
 case round =>
  obtain ⟨kk,hkk,rfl,hb,hy,hA⟩ := hrel
  have HB : Hid (Below w.heap.size w wr) := hb
  have HY : Hid (Blk wr yb #[.string c.action,.slice ca n cc] 45) := hy
  by_cases hlt : kk < n
  ·obtain ⟨p,hp⟩ : ∃ p,ys[kk]? = some p := ⟨ys[kk]'(by rw [← HL.out.1]; exact hlt),List.getElem?_eq_getElem _⟩
   obtain ⟨q,hq⟩ : ∃ q,zs[kk]? = some q := ⟨zs[kk]'(by rw [← HL.out.2]; exact hlt),List.getElem?_eq_getElem _⟩
   obtain ⟨pb,po,cs,rfl,_,hpc,rfl,_⟩ := HPB.out.at hp
   obtain ⟨qb,qo,cs2,rfl,_,hqc,rfl,hq128⟩ := HGB.out.at hq
   have CF : Hid (∀ z : Grown wr,Calls Tryz.prog 169 #[.agg #[.int .u64 (hiOf q),.int .u64 (loOf q)],.int .i64 p.width] (gw z) fun e w' => e = .returned (.bool (fitsN q p.width)) ∧ Below (gw z).heap.size (gw z) w') := fun z => rfits_any q hq128 p.width _
   have HD : Hid (fa = (fitsN q p.width && fitAll (zs.drop (kk + 1)) (ys.drop (kk + 1)))) := by show _ = _; rw [hA.out,fitAll_two hq hp]
   generalize fitsN q p.width = fw at *
   have g1 : ∀ z : Grown wr,(gw z).cell? ⟨yb,1,none⟩ = some (.slice (some ⟨qb,qo,none⟩) n cc) := gw_cell (hy.cell 1 rfl)
   have g2 : ∀ z : Grown wr,(gw z).cell? ⟨qb,qo + kk * 2,none⟩ = some (.int .u64 (hiOf q)) := gw_cell (by have := pres_below hb _ _ (hqc 0 (.int .u64 (hiOf q)) rfl); simpa using this)
   have g3 : ∀ z : Grown wr,(gw z).cell? ⟨qb,qo + kk * 2 + 1,none⟩ = some (.int .u64 (loOf q)) := gw_cell (by have := pres_below hb _ _ (hqc 1 (.int .u64 (loOf q)) rfl); simpa using this)
   have g4 : ∀ z : Grown wr,(gw z).cell? ⟨pb,po + kk * 2 + 1,none⟩ = some (.int .i64 p.width) := gw_cell (by have := pres_below hb _ _ (hpc 1 (.int .i64 p.width) rfl); simpa using this)
   clear hA hb hy hp hq hpc hqc hq128
   generalize hiOf q = qh at *
   generalize loOf q = ql at *
   go_upto_region 14 with fail
   refine region_grows (by kernel_rfl) (by kernel_rfl) ?_
   repeat (go_big_quiet_step ((go_at_call 169; exact calls_gw (CF.out _))))
   refine wpQuiet_nil ?_
   intro wq hwq
   obtain ⟨zq,hwq⟩ := hwq
   subst hwq
   have HB4 : Hid (Below w.heap.size w (gw zq)) := bst HB.out (gw_below zq) (Nat.le_refl _)
   have HY4 : Hid (Blk (gw zq) yb #[.string c.action,.slice (some ⟨qb,qo,none⟩) n cc] 45) := HY.out.below (gw_below zq)
   clear CF g1 g2 g3 g4 HB HY
   generalize gw zq = W4 at HB4 HY4 ⊢
   cases fw
   ·have HR : Hid (R = 76) := by show _ = _; rw [HE3.out,HD.out]; rfl
    clear HE3 HD
    go_wp2
    go_ret
    exact ⟨by rw [HR.out]; rfl,HB4.out⟩
   ·go_wp2
    exact ⟨⟨kk + 1,by omega,by go_num,HB4.out,HY4.out,by show _ = _; rw [HD.out,Bool.true_and]⟩,by simp only [intOf]; omega⟩
  ·have e : kk = n := by omega
   subst e
   have HR : Hid (R = 0) := by
    show _ = _
    rw [HE3.out,hA.out,List.drop_of_length_le (by have := HL.out.2; omega),List.drop_of_length_le (by have := HL.out.1; omega)]
    rfl
   clear hA HE3
   go_wp2
   go_ret
   exact ⟨by rw [HR.out]; rfl,hb⟩
end Go.Proofs.YtmbpclknhkbbkaaGreat
