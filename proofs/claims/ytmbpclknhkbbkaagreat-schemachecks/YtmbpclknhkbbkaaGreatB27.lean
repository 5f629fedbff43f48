/- Package schema: Applied. -/
import Derived.Test.YtmbpclknhkbbkaaGreatB23
import Derived.Test.YtmbpclknhkbbkaaGreatB13
import Derived.Test.YtmbpclknhkbbkaaGreatB22
import Derived.Test.YtmbpclknhkbbkaaGreatB18
set_option linter.unusedSimpArgs false
set_option linter.unusedVariables false
set_option maxHeartbeats 4000000
set_option maxRecDepth 100000
namespace Go.Proofs.YtmbpclknhkbbkaaGreat
open Go.RowKit
theorem own_txt {w:World}{B:Nat}{sv:Value}{out:List ByteArray}(h:w.ownsRow B 9 1 sv out.length (strsV out))(hl:out.length≤128)(hok:∀ x ∈ out,Okt x):TxtRow (upw B w) sv out:=by
 refine⟨?_,by unfold Len;omega⟩
 rcases h.2 with⟨rfl,h0⟩|⟨g,cap,cur,rfl,hb,hg,hn,_,hs,htk⟩
 ·have:out=[]:=List.length_eq_zero_iff.1 h0
  subst this
  exact⟨none,0,rfl,Nat.le_refl _,.inl rfl⟩
 ·refine⟨some ⟨g,0,none⟩,cap,rfl,hn,.inr ⟨g,0,rfl,fun i x hx=>⟨#[.string x],rfl,fun j u hu=>?_,rfl,hok x (List.mem_of_getElem? hx)⟩⟩⟩
  have hj:j=0:=by
   rcases j with _|j
   ·rfl
   ·simp at hu
  subst hj
  have hi:=(List.getElem?_eq_some_iff.1 hx).1
  have hc:=h.cellAt (g:=g) (cap:=cap) i (by omega)
  have e:(strsV out)[i]?=some (.string x):=by unfold strsV;rw[List.getElem?_map,hx];rfl
  rw[e] at hc
  have:u=.string x:=by simpa using hu.symm
  subst this
  refine cell_up ?_ hb
  simpa using hc
def appL (xs:List Stg):List ByteArray:=match wlkL apStp xs 1 [] with
 | .ok (_,out)=>out
 | .error _=>[]
def appliedE (s:Sch):List ByteArray:=if sizeE s.control=0 then appL s.control else []
theorem applied_any (v:Value)(s:Sch)(w:World)(hs:SchIs w v s):Calls Tryz.prog 23 #[v] w fun e w'=>∃ u,e=.returned u∧TxtRow (upw w.heap.size w') u (appliedE s)∧Below w.heap.size w w':=by
 obtain⟨i0,j0,i1,j1,i2,j2,i3,j3,i4,j4,i5,j5,rfl,h0,h1,h2,h3,h4,h5⟩:=hs.parts
 have HR:Hid (StgRow w (.slice i5 s.control.length j5) s.control):=h5
 have hnil:Hid (∀ w',TxtRow (upw w.heap.size w') (.slice none 0 0) []):=fun w'=>own_txt (World.ownsRow_nil w' _ 9 1) (by simp) (fun x hx=>by cases hx)
 have HE:Hid (appliedE s=if sizeE s.control=0 then appL s.control else []):=rfl
 generalize appliedE s=R at*
 clear hs h0 h1 h2 h3 h4 h5
 generalize s.control=xs at*
 have HB0:Hid (Bl w (w.alloc (.cells #[.slice i0 s.headers.length j0,.slice i1 s.metas.length j1,.slice i2 s.states.length j2,.slice i3 s.actions.length j3,.slice i4 s.tables.length j4,.slice i5 xs.length j5] 34))):=(Below.refl _ _).alloc (Nat.le_refl _) _
 have HX0:Hid (Blk (w.alloc (.cells #[.slice i0 s.headers.length j0,.slice i1 s.metas.length j1,.slice i2 s.states.length j2,.slice i3 s.actions.length j3,.slice i4 s.tables.length j4,.slice i5 xs.length j5] 34)) w.heap.size #[.slice i0 s.headers.length j0,.slice i1 s.metas.length j1,.slice i2 s.states.length j2,.slice i3 s.actions.length j3,.slice i4 s.tables.length j4,.slice i5 xs.length j5] 34):=Blk.new w _ 34
 have hmm:=@run_makeMap Tryz.prog
 have hmf:=mf
 go_enter Tryz.func23,Tryz.ntmps23
 go_upto_region 1 with fail
 generalize (w.alloc _)=W0 at HB0 HX0 ⊢
 obtain⟨xb,hxb⟩:∃ xb,xb=w.heap.size:=⟨_,rfl⟩
 rw[← hxb] at HX0 ⊢
 clear hxb
 have CS:Hid (Cs 84 #[.slice i5 xs.length j5] W0 fun e w'=>e=.returned (.int .i64 (sizeE xs))∧Bl W0 w'):=size_any _ xs W0 (HR.out.pres (pres_below HB0.out))
 have x5:=HX0.out.cell 5 (v:=.slice i5 xs.length j5) rfl
 go_wp2_with fail
 refine CS.out.mono ?_
 rintro e W1 ⟨rfl,hb1⟩
 have HB1:Hid (Bl w W1):=HB0.out.trans (hb1.mono HB0.out.size)
 have HX1:=hblk HX0 hb1
 clear hb1 CS HB0 HX0 x5
 by_cases hE:sizeE xs=0
 case neg=>
  have HE2:Hid (R=[]):=by show _=_;rw[HE.out,if_neg hE]
  go_wp2
  go_ret
  exact⟨_,rfl,by rw[HE2.out];exact hnil.out _,HB1.out⟩
 have HE2:Hid (R=appL xs):=by show _=_;rw[HE.out,if_pos hE]
 have HF:Hid (szL xs≤128):=size_le hE
 rw[hE]
 clear HE hE
 go_upto_region 5 with fail
 have HA4:Hid (Bl W1 (((W1.alloc (.cells #[.slice none 0 0] 36)).alloc (.map #[] 0)).alloc (.cells #[.map (some (W1.heap.size+1))] 108))):=(((Below.refl _ _).alloc (Nat.le_refl _) _).alloc (by simp) _).alloc (by simp;omega) _
 have HL4:Hid (Blk (((W1.alloc (.cells #[.slice none 0 0] 36)).alloc (.map #[] 0)).alloc (.cells #[.map (some (W1.heap.size+1))] 108)) W1.heap.size #[.slice none 0 0] 36):=((Blk.new W1 _ 36).below ((Below.refl _ _).alloc (Nat.le_refl _) _)).below ((Below.refl _ _).alloc (Nat.le_refl _) _)
 have HS4:Hid (SetT (((W1.alloc (.cells #[.slice none 0 0] 36)).alloc (.map #[] 0)).alloc (.cells #[.map (some (W1.heap.size+1))] 108)) (W1.heap.size+1) []):=by
  have:=(SetT.new (W1.alloc (.cells #[.slice none 0 0] 36))).below (((Below.refl _ _).alloc (Nat.le_refl _) (.cells #[.map (some (W1.heap.size+1))] 108)))
  show SetT _ _ _
  simpa using this
 have HM4:Hid (Blk (((W1.alloc (.cells #[.slice none 0 0] 36)).alloc (.map #[] 0)).alloc (.cells #[.map (some (W1.heap.size+1))] 108)) (W1.heap.size+1+1) #[.map (some (W1.heap.size+1))] 108):=by
  have:=Blk.new ((W1.alloc (.cells #[.slice none 0 0] 36)).alloc (.map #[] 0)) #[.map (some (W1.heap.size+1))] 108
  show Blk _ _ _ _
  simpa using this
 generalize (((W1.alloc _).alloc (.map #[] 0)).alloc _)=W4 at HA4 HL4 HS4 HM4 ⊢
 have hsz:=HB1.out.size
 have HB4:Hid (Bl w W4):=HB1.out.trans (HA4.out.mono HB1.out.size)
 have x5:=(HX1.out.below HA4.out).cell 5 (v:=.slice i5 xs.length j5) rfl
 obtain⟨pl,hpl⟩:∃ pl,pl=W1.heap.size:=⟨_,rfl⟩
 rw[← hpl] at HL4 HS4 HM4 hsz ⊢
 clear hpl HA4 HX1 HB1 hmm
 have CW:Hid (Cs 85 #[.slice i5 xs.length j5,.int .i64 1,.func (.func 86) #[] #[.pointer (some ⟨pl+1+1,0,none⟩),.pointer (some ⟨pl,0,none⟩)]] W4 fun e w'=>VOut (ApI w (pl+1+1) pl (pl+1) 0) (ApI w (pl+1+1) pl (pl+1) 0) (apOwn pl (pl+1)) (fun _ _=>False) W4 (wlkL apStp xs 1 []) e w'):=by
  refine walk86_fuel (ApI w (pl+1+1) pl (pl+1)) (ApI w (pl+1+1) pl (pl+1) 0) ?_ (apOwn pl (pl+1)) (fun _ _=>False) apStp w _ _ ?_ ?_ ?_ ?_ ?_ (szL xs) 0 xs _ 1 [] W4 (Nat.le_refl _) HR.out ⟨HB4.out,HM4.out,HS4.out,⟨_,HL4.out,World.ownsRow_nil _ _ _ _,fun k e=>by simp[Value.ownBlock] at e⟩,(fun x hx=>by cases hx),by have:=HF.out;simp;omega⟩
  ·intro f s a h
   exact⟨h.below,h.cm,h.st,h.lst,h.okt,by have:=h.fuel;omega⟩
  ·intro f s a b h hb
   exact h.grow hb
  ·intro f s a h
   exact pres_below h.below
  ·intro f s a k h hk
   exact h.own hk
  ·intro f s a b k h hb hk
   exact h.og hb hk
  ·intro f s a x cs d h hx
   exact applied1_any w (pl+1+1) pl (pl+1) f ⟨by omega,by omega,by omega,by omega,by omega,by omega⟩ s a x cs d h hx
 have HE3:Hid (R=match wlkL apStp xs 1 [] with|.ok (_,out)=>out|.error _=>[]):=HE2.out
 generalize wlkL apStp xs 1 []=r at*
 clear HE2 HL4 HS4 HM4 HB4 HF HR
 go_wp2_with fail
 refine CW.out.mono ?_
 intro e W5 hout
 cases r with
 | error p=>exact hout.2.elim
 | ok bs=>
  obtain⟨bb,out⟩:=bs
  obtain⟨rfl,_,hJ,_⟩:=hout
  obtain⟨sv,l1,l2,l3⟩:=hJ.lst
  have l0:=l1.cell 0 (v:=sv) rfl
  have HT:Hid (TxtRow (upw w.heap.size W5) sv R):=by
   show TxtRow _ _ _
   rw[HE3.out]
   exact own_txt l2 (by have:=hJ.fuel;omega) hJ.okt
  have HB5:Hid (Bl w W5):=hJ.below
  clear hJ l1 l2 l3 CW x5 HE3
  go_wp2
  go_ret
  exact⟨_,rfl,HT.out,HB5.out⟩
theorem table_none (v:Value)(s:Sch)(name:ByteArray)(w:World)(hs:SchIs w v s)(hi:tblAt s name = -1):Calls Tryz.prog 34 #[v,.string name] w fun e w'=>e=.returned (.tuple #[.agg #[.string ⟨#[]⟩,.slice none 0 0,.slice none 0 0,.int .i64 0,.string ⟨#[]⟩,.slice none 0 0,.bool false],.int .i64 0,.bool false])∧Below w.heap.size w w':=by
 obtain⟨a0,c0,a1,c1,a2,c2,a3,c3,a4,c4,a5,c5,rfl,h0,h1,h2,h3,h4,h5⟩:=hs.parts
 have HB0:Hid (Blk ((w.alloc (.cells (bxA s a0 c0 a1 c1 a2 c2 a3 c3 a4 c4 a5 c5) 34)).alloc (.cells #[.string ⟨#[]⟩,.slice none 0 0,.slice none 0 0,.int .i64 0,.string ⟨#[]⟩,.slice none 0 0,.bool false] 51)) w.heap.size (bxA s a0 c0 a1 c1 a2 c2 a3 c3 a4 c4 a5 c5) 34∧Blk ((w.alloc (.cells (bxA s a0 c0 a1 c1 a2 c2 a3 c3 a4 c4 a5 c5) 34)).alloc (.cells #[.string ⟨#[]⟩,.slice none 0 0,.slice none 0 0,.int .i64 0,.string ⟨#[]⟩,.slice none 0 0,.bool false] 51)) (w.heap.size+1) #[.string ⟨#[]⟩,.slice none 0 0,.slice none 0 0,.int .i64 0,.string ⟨#[]⟩,.slice none 0 0,.bool false] 51∧Below w.heap.size w ((w.alloc (.cells (bxA s a0 c0 a1 c1 a2 c2 a3 c3 a4 c4 a5 c5) 34)).alloc (.cells #[.string ⟨#[]⟩,.slice none 0 0,.slice none 0 0,.int .i64 0,.string ⟨#[]⟩,.slice none 0 0,.bool false] 51))):=
  ⟨(Blk.new w (bxA s a0 c0 a1 c1 a2 c2 a3 c3 a4 c4 a5 c5) 34).below ((Below.refl _ _).alloc (Nat.le_refl _) _),by simpa using Blk.new (w.alloc (.cells (bxA s a0 c0 a1 c1 a2 c2 a3 c3 a4 c4 a5 c5) 34)) #[.string ⟨#[]⟩,.slice none 0 0,.slice none 0 0,.int .i64 0,.string ⟨#[]⟩,.slice none 0 0,.bool false] 51,((Below.refl _ _).alloc (Nat.le_refl _) _).alloc (by simp) _⟩
 have C:Hid (∀ W,Pres w W→Cs 126 #[.agg (bxA s a0 c0 a1 c1 a2 c2 a3 c3 a4 c4 a5 c5),.string name] W fun e w'=>e=.returned (.int .i64 (tblAt s name))∧Bl W w'):=fun W hp=>tableAt_any _ s name W (hs.pres hp)
 rw[hi] at C
 have H4:Hid (TblRow w (.slice a4 s.tables.length c4) s.tables):=h4
 clear hs h0 h1 h2 h3 h4 h5 hi
 go_enter Tryz.func34,Tryz.ntmps34
 go_upto_region 1 with fail
 generalize ((w.alloc _).alloc _)=W0 at HB0 ⊢
 obtain⟨p0,p1,p2,p3,p4,p5⟩:=HB0.out.1.c6
 go_wp2_with fail
 refine(C.out _ (pres_below HB0.out.2.2)).mono ?_
 rintro e V0 ⟨rfl,hb0⟩
 have HB1:Hid (Blk V0 w.heap.size (bxA s a0 c0 a1 c1 a2 c2 a3 c3 a4 c4 a5 c5) 34∧Blk V0 (w.heap.size+1) #[.string ⟨#[]⟩,.slice none 0 0,.slice none 0 0,.int .i64 0,.string ⟨#[]⟩,.slice none 0 0,.bool false] 51∧Bl w V0):=⟨HB0.out.1.below hb0,HB0.out.2.1.below hb0,bst HB0.out.2.2 hb0 (Nat.le_refl _)⟩
 clear hb0 HB0 C p0 p1 p2 p3 p4 p5
 have p4:=HB1.out.1.cell 4 (v:=.slice a4 s.tables.length c4) rfl
 have z0:=HB1.out.2.1.cell 0 (v:=.string ⟨#[]⟩) rfl
 have y0:=HB1.out.2.1.frozen 0
 have z1:=HB1.out.2.1.cell 1 (v:=.slice none 0 0) rfl
 have y1:=HB1.out.2.1.frozen 1
 have z2:=HB1.out.2.1.cell 2 (v:=.slice none 0 0) rfl
 have y2:=HB1.out.2.1.frozen 2
 have z3:=HB1.out.2.1.cell 3 (v:=.int .i64 0) rfl
 have y3:=HB1.out.2.1.frozen 3
 have z4:=HB1.out.2.1.cell 4 (v:=.string ⟨#[]⟩) rfl
 have y4:=HB1.out.2.1.frozen 4
 have z5:=HB1.out.2.1.cell 5 (v:=.slice none 0 0) rfl
 have y5:=HB1.out.2.1.frozen 5
 have z6:=HB1.out.2.1.cell 6 (v:=.bool false) rfl
 have y6:=HB1.out.2.1.frozen 6
 have HF:Hid (Blk (((((((V0.setCell ⟨w.heap.size+1,0,none⟩ (.string ⟨#[]⟩)).setCell ⟨w.heap.size+1,1,none⟩ (.slice none 0 0)).setCell ⟨w.heap.size+1,2,none⟩ (.slice none 0 0)).setCell ⟨w.heap.size+1,3,none⟩ (.int .i64 0)).setCell ⟨w.heap.size+1,4,none⟩ (.string ⟨#[]⟩)).setCell ⟨w.heap.size+1,5,none⟩ (.slice none 0 0)).setCell ⟨w.heap.size+1,6,none⟩ (.bool false)) (w.heap.size+1) #[.string ⟨#[]⟩,.slice none 0 0,.slice none 0 0,.int .i64 0,.string ⟨#[]⟩,.slice none 0 0,.bool false] 51∧Bl w (((((((V0.setCell ⟨w.heap.size+1,0,none⟩ (.string ⟨#[]⟩)).setCell ⟨w.heap.size+1,1,none⟩ (.slice none 0 0)).setCell ⟨w.heap.size+1,2,none⟩ (.slice none 0 0)).setCell ⟨w.heap.size+1,3,none⟩ (.int .i64 0)).setCell ⟨w.heap.size+1,4,none⟩ (.string ⟨#[]⟩)).setCell ⟨w.heap.size+1,5,none⟩ (.slice none 0 0)).setCell ⟨w.heap.size+1,6,none⟩ (.bool false))):=by
  have h:=HB1.out.2.1
  have hb:=HB1.out.2.2
  exact⟨((((((h.set 0 _).set 1 _).set 2 _).set 3 _).set 4 _).set 5 _).set 6 _,(((((((hb.setCell (by simp) _).setCell (by simp) _).setCell (by simp) _).setCell (by simp) _).setCell (by simp) _).setCell (by simp) _).setCell (by simp) _)⟩
 go_wp2
 generalize (((((((V0.setCell ⟨w.heap.size+1,0,none⟩ (.string ⟨#[]⟩)).setCell ⟨w.heap.size+1,1,none⟩ (.slice none 0 0)).setCell ⟨w.heap.size+1,2,none⟩ (.slice none 0 0)).setCell ⟨w.heap.size+1,3,none⟩ (.int .i64 0)).setCell ⟨w.heap.size+1,4,none⟩ (.string ⟨#[]⟩)).setCell ⟨w.heap.size+1,5,none⟩ (.slice none 0 0)).setCell ⟨w.heap.size+1,6,none⟩ (.bool false))=WG at HF ⊢
 obtain⟨k0,k1,k2,k3,k4,k5,k6⟩:=HF.out.1.c7
 refine bodyPost_ret (v:=.tuple #[.agg #[.string ⟨#[]⟩,.slice none 0 0,.slice none 0 0,.int .i64 0,.string ⟨#[]⟩,.slice none 0 0,.bool false],.int .i64 0,.bool false]) (by simp[results,Tryz.results34,go_sem,k0,k1,k2,k3,k4,k5,k6]) rfl ⟨rfl,HF.out.2⟩
theorem table_at (v:Value)(s:Sch)(name:ByteArray)(w:World)(hs:SchIs w v s)(i:Nat)(t:Tbl)(ht:s.tables[i]?=some t)(hi:tblAt s name=(i:Int)):Calls Tryz.prog 34 #[v,.string name] w fun e w'=>∃ cs',e=.returned (.tuple #[.agg cs',.int .i64 i,.bool true])∧TblIs (upw w.heap.size w') cs' t∧Below w.heap.size w w':=by
 obtain⟨a0,c0,a1,c1,a2,c2,a3,c3,a4,c4,a5,c5,rfl,h0,h1,h2,h3,h4,h5⟩:=hs.parts
 have HB0:Hid (Blk ((w.alloc (.cells (bxA s a0 c0 a1 c1 a2 c2 a3 c3 a4 c4 a5 c5) 34)).alloc (.cells #[.string ⟨#[]⟩,.slice none 0 0,.slice none 0 0,.int .i64 0,.string ⟨#[]⟩,.slice none 0 0,.bool false] 51)) w.heap.size (bxA s a0 c0 a1 c1 a2 c2 a3 c3 a4 c4 a5 c5) 34∧Blk ((w.alloc (.cells (bxA s a0 c0 a1 c1 a2 c2 a3 c3 a4 c4 a5 c5) 34)).alloc (.cells #[.string ⟨#[]⟩,.slice none 0 0,.slice none 0 0,.int .i64 0,.string ⟨#[]⟩,.slice none 0 0,.bool false] 51)) (w.heap.size+1) #[.string ⟨#[]⟩,.slice none 0 0,.slice none 0 0,.int .i64 0,.string ⟨#[]⟩,.slice none 0 0,.bool false] 51∧Below w.heap.size w ((w.alloc (.cells (bxA s a0 c0 a1 c1 a2 c2 a3 c3 a4 c4 a5 c5) 34)).alloc (.cells #[.string ⟨#[]⟩,.slice none 0 0,.slice none 0 0,.int .i64 0,.string ⟨#[]⟩,.slice none 0 0,.bool false] 51))):=
  ⟨(Blk.new w (bxA s a0 c0 a1 c1 a2 c2 a3 c3 a4 c4 a5 c5) 34).below ((Below.refl _ _).alloc (Nat.le_refl _) _),by simpa using Blk.new (w.alloc (.cells (bxA s a0 c0 a1 c1 a2 c2 a3 c3 a4 c4 a5 c5) 34)) #[.string ⟨#[]⟩,.slice none 0 0,.slice none 0 0,.int .i64 0,.string ⟨#[]⟩,.slice none 0 0,.bool false] 51,((Below.refl _ _).alloc (Nat.le_refl _) _).alloc (by simp) _⟩
 have C:Hid (∀ W,Pres w W→Cs 126 #[.agg (bxA s a0 c0 a1 c1 a2 c2 a3 c3 a4 c4 a5 c5),.string name] W fun e w'=>e=.returned (.int .i64 (tblAt s name))∧Bl W w'):=fun W hp=>tableAt_any _ s name W (hs.pres hp)
 rw[hi] at C
 have H4:Hid (TblRow w (.slice a4 s.tables.length c4) s.tables):=h4
 clear hs h0 h1 h2 h3 h4 h5 hi
 go_enter Tryz.func34,Tryz.ntmps34
 go_upto_region 1 with fail
 generalize ((w.alloc _).alloc _)=W0 at HB0 ⊢
 obtain⟨p0,p1,p2,p3,p4,p5⟩:=HB0.out.1.c6
 go_wp2_with fail
 refine(C.out _ (pres_below HB0.out.2.2)).mono ?_
 rintro e V0 ⟨rfl,hb0⟩
 have HB1:Hid (Blk V0 w.heap.size (bxA s a0 c0 a1 c1 a2 c2 a3 c3 a4 c4 a5 c5) 34∧Blk V0 (w.heap.size+1) #[.string ⟨#[]⟩,.slice none 0 0,.slice none 0 0,.int .i64 0,.string ⟨#[]⟩,.slice none 0 0,.bool false] 51∧Bl w V0):=⟨HB0.out.1.below hb0,HB0.out.2.1.below hb0,bst HB0.out.2.2 hb0 (Nat.le_refl _)⟩
 clear hb0 HB0 C p0 p1 p2 p3 p4 p5
 have p4:=HB1.out.1.cell 4 (v:=.slice a4 s.tables.length c4) rfl
 have hlt:i<s.tables.length:=(List.getElem?_eq_some_iff.1 ht).1
 obtain⟨b,o,⟨cl⟩,rfl,hsz,hcl,hI⟩:=H4.out.1.at ht
 have hcs:cl.length=7:=hsz
 have hz:(Tryz.prog.info? 51).map (·.size)=some 7:=by kernel_rfl
 have hz':(Tryz.prog.info? 51).map (·.size)=some cl.length:=by rw[hcs];exact hz
 have R1:Hid (V0.rangeAt b (o+i*7) cl):=fun j u hu=>pres_below HB1.out.2.2 _ _ (hcl j u (by simpa using hu))
 have C4:Hid (Cs 104 #[.agg cl.toArray] V0 fun e w'=>∃ dl:List Value,e=.returned (.agg dl.toArray)∧Hid (dl.length=7∧dl.toArray.all (·.oneCell')=true∧TblIs (upw V0.heap.size w') dl.toArray t∧Bl V0 w')):=by
  refine(copyTbl_any t cl.toArray V0 (hI.pres (pres_below HB1.out.2.2))).mono ?_
  rintro e w' ⟨⟨dl⟩,rfl,h1,h2⟩
  exact⟨dl,rfl,tbl_good.size h1,tbl_good.one h1,h1,h2⟩
 have hb4:(0:Int)≤(i:Int)∧(i:Int)<(s.tables.length:Int):=by omega
 have hn:¬((i:Int)<0):=by omega
 clear ht hcl hI hsz H4
 go_wp2_with (refine wpList_load_mid rfl 51 _ rfl b (o+i*7) rfl cl _ R1.out Tryz.underlying51 rfl hz' ?_)
 refine C4.out.mono ?_
 rintro e V1 ⟨dl,rfl,H1⟩
 have hd':(Tryz.prog.info? 51).map (·.size)=some dl.toArray.size:=by rw[List.size_toArray,H1.out.1];exact hz
 have TH:Hid (V1.there (w.heap.size+1) 0 dl.toArray.size):=blk_there (HB1.out.2.1.below H1.out.2.2.2) (by have:=H1.out.1;simp[this])
 have hkept:Kept (fun k=>k<w.heap.size+2) V1 (V1.setCells (w.heap.size+1) 0 dl):=(setCells_kept (w.heap.size+1) dl 0 V1).mono (fun i _ e=>by omega)
 have HF:Hid ((V1.setCells (w.heap.size+1) 0 dl).rangeAt (w.heap.size+1) 0 dl∧TblIs (upw w.heap.size (V1.setCells (w.heap.size+1) 0 dl)) dl.toArray t∧Below w.heap.size w (V1.setCells (w.heap.size+1) 0 dl)):=
  ⟨World.rangeAt_setCells_same _ _ _ _ TH.out,H1.out.2.2.1.pres ((up_mono _ HB1.out.2.1.lt).trans ((up_kept hkept).trans (up_mono _ (by omega)))),below_setCells (bst HB1.out.2.2 H1.out.2.2.2 (Nat.le_refl _)) (by omega) _ _⟩
 clear C4 R1 hkept
 go_wp2_with (refine wpList_store_mid rfl 51 _ _ rfl (w.heap.size+1) 0 dl.toArray rfl rfl TH.out hd' H1.out.2.1 ?_)
 clear TH
 generalize V1.setCells (w.heap.size+1) 0 dl=WF at HF ⊢
 have hl:∃ x0 x1 x2 x3 x4 x5 x6,dl=[x0,x1,x2,x3,x4,x5,x6]:=by
  have:=H1.out.1
  match dl,this with
  |[x0,x1,x2,x3,x4,x5,x6],_=>exact⟨x0,x1,x2,x3,x4,x5,x6,rfl⟩
 obtain⟨x0,x1,x2,x3,x4,x5,x6,rfl⟩:=hl
 have k0:=HF.out.1 0 x0 rfl
 have k1:=HF.out.1 1 x1 rfl
 have k2:=HF.out.1 2 x2 rfl
 have k3:=HF.out.1 3 x3 rfl
 have k4:=HF.out.1 4 x4 rfl
 have k5:=HF.out.1 5 x5 rfl
 have k6:=HF.out.1 6 x6 rfl
 simp only[Nat.zero_add] at k0 k1 k2 k3 k4 k5 k6
 refine bodyPost_ret (v:=.tuple #[.agg #[x0,x1,x2,x3,x4,x5,x6],.int .i64 i,.bool true]) (by simp[results,Tryz.results34,go_sem,k0,k1,k2,k3,k4,k5,k6]) rfl ⟨_,rfl,HF.out.2.1,HF.out.2.2⟩
def meetsE (s:Sch):Int:=if sizeE s.control=0 then mostL s.control 0 else 0
theorem meets_any (v:Value)(s:Sch)(w:World)(hs:SchIs w v s):Calls Tryz.prog 25 #[v] w fun e w'=>e=.returned (.int .i64 (meetsE s))∧Below w.heap.size w w':=by
 obtain⟨i0,j0,i1,j1,i2,j2,i3,j3,i4,j4,i5,j5,rfl,h0,h1,h2,h3,h4,h5⟩:=hs.parts
 have HR:Hid (StgRow w (.slice i5 s.control.length j5) s.control):=h5
 have HE:Hid (meetsE s=if sizeE s.control=0 then mostL s.control 0 else 0):=rfl
 generalize meetsE s=R at*
 clear hs h0 h1 h2 h3 h4 h5
 generalize s.control=xs at*
 have HB0:Hid (Bl w (w.alloc (.cells #[.slice i0 s.headers.length j0,.slice i1 s.metas.length j1,.slice i2 s.states.length j2,.slice i3 s.actions.length j3,.slice i4 s.tables.length j4,.slice i5 xs.length j5] 34))):=(Below.refl _ _).alloc (Nat.le_refl _) _
 have HX0:Hid (Blk (w.alloc (.cells #[.slice i0 s.headers.length j0,.slice i1 s.metas.length j1,.slice i2 s.states.length j2,.slice i3 s.actions.length j3,.slice i4 s.tables.length j4,.slice i5 xs.length j5] 34)) w.heap.size #[.slice i0 s.headers.length j0,.slice i1 s.metas.length j1,.slice i2 s.states.length j2,.slice i3 s.actions.length j3,.slice i4 s.tables.length j4,.slice i5 xs.length j5] 34):=Blk.new w _ 34
 go_enter Tryz.func25,Tryz.ntmps25
 go_upto_region 1 with fail
 generalize (w.alloc _)=W0 at HB0 HX0 ⊢
 obtain⟨xb,hxb⟩:∃ xb,xb=w.heap.size:=⟨_,rfl⟩
 rw[← hxb] at HX0 ⊢
 clear hxb
 have CS:Hid (Cs 84 #[.slice i5 xs.length j5] W0 fun e w'=>e=.returned (.int .i64 (sizeE xs))∧Bl W0 w'):=size_any _ xs W0 (HR.out.pres (pres_below HB0.out))
 have x5:=HX0.out.cell 5 (v:=.slice i5 xs.length j5) rfl
 go_wp2_with fail
 refine CS.out.mono ?_
 rintro e W1 ⟨rfl,hb1⟩
 have HB1:Hid (Bl w W1):=HB0.out.trans (hb1.mono HB0.out.size)
 have HX1:=hblk HX0 hb1
 clear hb1 CS HB0 HX0 x5
 by_cases hE:sizeE xs=0
 case neg=>
  have HE2:Hid (R=0):=by show _=_;rw[HE.out,if_neg hE]
  go_wp2
  go_ret
  exact⟨by rw[HE2.out];rfl,HB1.out⟩
 have HE2:Hid (R=mostL xs 0):=by show _=_;rw[HE.out,if_pos hE]
 rw[hE]
 clear HE hE
 have CM:Hid (Cs 90 #[.slice i5 xs.length j5,.int .i64 0] W1 fun e w'=>e=.returned (.int .i64 (mostL xs 0))∧Bl W1 w'):=most_any (szL xs) xs _ 0 W1 (Nat.le_refl _) (HR.out.pres (pres_below HB1.out))
 have x5:=HX1.out.cell 5 (v:=.slice i5 xs.length j5) rfl
 go_wp2_with fail
 refine CM.out.mono ?_
 rintro e W2 ⟨rfl,hb2⟩
 have HB2:Hid (Bl w W2):=HB1.out.trans (hb2.mono HB1.out.size)
 clear hb2 CM HB1 HX1 x5
 go_wp2
 go_ret
 exact⟨by rw[HE2.out];rfl,HB2.out⟩
theorem chk_no:checkE (exS [511])=none:=by kernel_rfl
def badT:ByteArray:=⟨#[116,97,98,108,101,32,114,111,117,116,101]⟩
theorem chk_yes:checkE (exS [511,0])=some (76,badT):=by kernel_rfl
theorem app_ex:appliedE (exS [511])=[⟨#[114,111,117,116,101]⟩]:=by kernel_rfl
theorem meet_ex:meetsE (exS [511])=1:=by kernel_rfl
theorem tbl_ex:tblAt (exS [511]) ⟨#[114,111,117,116,101]⟩=((0:Nat):Int):=by kernel_rfl
def exT0:Tbl:=⟨⟨#[114,111,117,116,101]⟩,[⟨⟨⟨#[105,112]⟩,⟨#[115,114,99]⟩⟩,2⟩],[⟨#[111,117,116]⟩],4,⟨⟨#[111,117,116]⟩,[511]⟩,false⟩
theorem tbl_ex0:(exS [511]).tables[0]?=some exT0:=rfl
theorem wid_ex:exT0.keys.map (fun k=>widW (exS [511]) k.ref)=[32]:=by kernel_rfl
theorem kind_ex:kindF exT0.keys 1=2:=by kernel_rfl
theorem name_ex:nameB (⟨#[114,111,117,116,101]⟩:ByteArray).data.toList=true:=by kernel_rfl
theorem width_ex:widW (exS [511]) ⟨⟨#[109,101,116,97]⟩,⟨#[112,111,114,116]⟩⟩=9:=by kernel_rfl
theorem same_ne:¬ exS [511]=exS [511,0]:=by
 intro h
 have:exT [511]=exT [511,0]:=congrArg Sch.tables h
 simp[exT] at this
structure Shw (b1 b9:Nat)(v0 v1 v2 v3 v4 v5:Value)(A1 A2 A3:Option Addr)(C1 C2 C3:Nat)(V:World):Prop where
 one:Blk V b1 #[v0,v1,v2,v3,v4,v5] 34
 sch:SchIs V (.agg #[v0,v1,v2,v3,v4,v5]) (exS [511])
 two:Blk V b9 #[.string ⟨#[114,111,117,116,101]⟩,.slice A1 1 C1,.slice A2 1 C2,.int .i64 4,.string ⟨#[111,117,116]⟩,.slice A3 1 C3,.bool false] 51
 tbl:TblIs V #[.string ⟨#[114,111,117,116,101]⟩,.slice A1 1 C1,.slice A2 1 C2,.int .i64 4,.string ⟨#[111,117,116]⟩,.slice A3 1 C3,.bool false] exT0
theorem Shw.below {b1 b9:Nat}{v0 v1 v2 v3 v4 v5:Value}{A1 A2 A3:Option Addr}{C1 C2 C3:Nat}{V V':World}(h:Shw b1 b9 v0 v1 v2 v3 v4 v5 A1 A2 A3 C1 C2 C3 V)(hb:Below V.heap.size V V'):Shw b1 b9 v0 v1 v2 v3 v4 v5 A1 A2 A3 C1 C2 C3 V':=
 ⟨h.one.below hb,h.sch.pres (pres_below hb),h.two.below hb,h.tbl.pres (pres_below hb)⟩
theorem sh25 {b1 b9:Nat}{v0 v1 v2 v3 v4 v5:Value}{A1 A2 A3:Option Addr}{C1 C2 C3:Nat}(W:World)(h:Hid (Shw b1 b9 v0 v1 v2 v3 v4 v5 A1 A2 A3 C1 C2 C3 W)):Calls Tryz.prog 25 #[.agg #[v0,v1,v2,v3,v4,v5]] W fun e V=>e=.returned (.int .i64 1)∧Hid (Below W.heap.size W V)∧Hid (Shw b1 b9 v0 v1 v2 v3 v4 v5 A1 A2 A3 C1 C2 C3 V):=by
 refine(meets_any _ _ W h.out.sch).mono ?_
 rintro e V ⟨rfl,hb⟩
 exact⟨by simp only[meet_ex],hb,h.out.below hb⟩
theorem sh20 {b1 b9:Nat}{v0 v1 v2 v3 v4 v5:Value}{A1 A2 A3:Option Addr}{C1 C2 C3:Nat}(W:World)(h:Hid (Shw b1 b9 v0 v1 v2 v3 v4 v5 A1 A2 A3 C1 C2 C3 W)):Calls Tryz.prog 20 #[.agg #[.string ⟨#[114,111,117,116,101]⟩,.slice A1 1 C1,.slice A2 1 C2,.int .i64 4,.string ⟨#[111,117,116]⟩,.slice A3 1 C3,.bool false]] W fun e V=>e=.returned (.int .i64 2)∧Hid (Below W.heap.size W V)∧Hid (Shw b1 b9 v0 v1 v2 v3 v4 v5 A1 A2 A3 C1 C2 C3 V):=by
 refine(kind_any _ _ W h.out.tbl).mono ?_
 rintro e V ⟨rfl,hb⟩
 exact⟨by simp only[kind_ex],hb,h.out.below hb⟩
theorem sh17 {b1 b9:Nat}{v0 v1 v2 v3 v4 v5:Value}{A1 A2 A3:Option Addr}{C1 C2 C3:Nat}(W:World)(h:Hid (Shw b1 b9 v0 v1 v2 v3 v4 v5 A1 A2 A3 C1 C2 C3 W)):Calls Tryz.prog 17 #[.string ⟨#[114,111,117,116,101]⟩] W fun e V=>e=.returned (.bool true)∧Hid (Below W.heap.size W V)∧Hid (Shw b1 b9 v0 v1 v2 v3 v4 v5 A1 A2 A3 C1 C2 C3 V):=by
 refine(isName_any ⟨#[114,111,117,116,101]⟩ (by unfold maxLen;decide) W).mono ?_
 rintro e V ⟨rfl,hb⟩
 exact⟨by rw[name_ex],hb,h.out.below hb⟩
theorem sh61 {b1 b9:Nat}{v0 v1 v2 v3 v4 v5:Value}{A1 A2 A3:Option Addr}{C1 C2 C3:Nat}(W:World)(h:Hid (Shw b1 b9 v0 v1 v2 v3 v4 v5 A1 A2 A3 C1 C2 C3 W)):Calls Tryz.prog 61 #[.agg #[v0,v1,v2,v3,v4,v5],.agg #[.string ⟨#[109,101,116,97]⟩,.string ⟨#[112,111,114,116]⟩]] W fun e V=>e=.returned (.int .i64 9)∧Hid (Below W.heap.size W V)∧Hid (Shw b1 b9 v0 v1 v2 v3 v4 v5 A1 A2 A3 C1 C2 C3 V):=by
 refine(width_any _ _ ⟨⟨#[109,101,116,97]⟩,⟨#[112,111,114,116]⟩⟩ W h.out.sch).mono ?_
 rintro e V ⟨rfl,hb⟩
 exact⟨by simp only[width_ex],hb,h.out.below hb⟩
theorem sh28 {b1 b9:Nat}{v0 v1 v2 v3 v4 v5:Value}{A1 A2 A3:Option Addr}{C1 C2 C3:Nat}(W:World)(h:Hid (Shw b1 b9 v0 v1 v2 v3 v4 v5 A1 A2 A3 C1 C2 C3 W)):Calls Tryz.prog 28 #[.agg #[v0,v1,v2,v3,v4,v5]] W fun e V=>∃ v',e=.returned v'∧Hid (SchIs V v' (exS [511]))∧Hid (Below W.heap.size W V)∧Hid (Shw b1 b9 v0 v1 v2 v3 v4 v5 A1 A2 A3 C1 C2 C3 V):=by
 refine(copy_any _ _ W h.out.sch).mono ?_
 rintro e V ⟨v',rfl,hv,hb⟩
 exact⟨v',rfl,hv.pres (pres_up _ _),hb,h.out.below hb⟩
theorem sh30 {b1 b9:Nat}{v0 v1 v2 v3 v4 v5:Value}{A1 A2 A3:Option Addr}{C1 C2 C3:Nat}(W:World)(h:Hid (Shw b1 b9 v0 v1 v2 v3 v4 v5 A1 A2 A3 C1 C2 C3 W)){v':Value}(h2:Hid (SchIs W v' (exS [511]))):Calls Tryz.prog 30 #[.agg #[v0,v1,v2,v3,v4,v5],v'] W fun e V=>e=.returned (.bool true)∧Hid (Below W.heap.size W V)∧Hid (Shw b1 b9 v0 v1 v2 v3 v4 v5 A1 A2 A3 C1 C2 C3 V):=by
 refine(same_any _ _ _ _ W h.out.sch h2.out).mono ?_
 rintro e V ⟨rfl,hb⟩
 exact⟨by simp,hb,h.out.below hb⟩
theorem sh60 {b1 b9:Nat}{v0 v1 v2 v3 v4 v5:Value}{A1 A2 A3:Option Addr}{C1 C2 C3:Nat}(W:World)(h:Hid (Shw b1 b9 v0 v1 v2 v3 v4 v5 A1 A2 A3 C1 C2 C3 W)):Calls Tryz.prog 60 #[.bool true] W fun e V=>∃ v',e=.returned v'∧Hid (SchIs V v' (exS [511,0]))∧Hid (Below W.heap.size W V)∧Hid (Shw b1 b9 v0 v1 v2 v3 v4 v5 A1 A2 A3 C1 C2 C3 V):=by
 refine(example_yes W).mono ?_
 rintro e V ⟨v',rfl,hv,hb⟩
 exact⟨v',rfl,hv,hb,h.out.below hb⟩
theorem sh30b {b1 b9:Nat}{v0 v1 v2 v3 v4 v5:Value}{A1 A2 A3:Option Addr}{C1 C2 C3:Nat}(W:World)(h:Hid (Shw b1 b9 v0 v1 v2 v3 v4 v5 A1 A2 A3 C1 C2 C3 W)){v':Value}(h2:Hid (SchIs W v' (exS [511,0]))):Calls Tryz.prog 30 #[.agg #[v0,v1,v2,v3,v4,v5],v'] W fun e V=>e=.returned (.bool false)∧Hid (Below W.heap.size W V)∧Hid (Shw b1 b9 v0 v1 v2 v3 v4 v5 A1 A2 A3 C1 C2 C3 V):=by
 refine(same_any _ _ _ _ W h.out.sch h2.out).mono ?_
 rintro e V ⟨rfl,hb⟩
 exact⟨by rw[decide_eq_false same_ne],hb,h.out.below hb⟩
theorem int_cell {W:World}{u:Value}{x:Int}(h:IntRow W u [x]):∃ b o cap,u=.slice (some ⟨b,o,none⟩) 1 cap∧W.cell? ⟨b,o,none⟩=some (.int .i64 x)∧1≤cap:=by
 obtain⟨ad,cap,rfl,hc⟩:=Row.slice h
 obtain⟨b,o,cs,rfl,_,hk,rfl,_⟩:=Row.at (k:=0) h rfl
 exact⟨b,o,cap,rfl,by have:=hk 0 (.int .i64 x) rfl;simpa using this,hc⟩
theorem txt_cell {W:World}{u:Value}{x:ByteArray}(h:TxtRow W u [x]):∃ b o cap,u=.slice (some ⟨b,o,none⟩) 1 cap∧W.cell? ⟨b,o,none⟩=some (.string x)∧1≤cap:=by
 obtain⟨ad,cap,rfl,hc⟩:=Row.slice h.1
 obtain⟨b,o,cs,rfl,_,hk,rfl,_⟩:=Row.at (k:=0) h.1 rfl
 exact⟨b,o,cap,rfl,by have:=hk 0 (.string x) rfl;simpa using this,hc⟩
theorem tbl_form {W:World}{cs:Array Value}(h:TblIs W cs exT0):∃ A1 A2 A3 C1 C2 C3,cs=#[.string ⟨#[114,111,117,116,101]⟩,.slice A1 1 C1,.slice A2 1 C2,.int .i64 4,.string ⟨#[111,117,116]⟩,.slice A3 1 C3,.bool false]:=by
 obtain⟨v1,v2,v3,rfl,_,h1,h2,h3⟩:=h
 obtain⟨A1,C1,rfl,_⟩:=h1.1.slice
 obtain⟨A2,C2,rfl,_⟩:=h2.1.slice
 obtain⟨A3,C3,rfl,_⟩:=h3.1.slice
 exact⟨A1,A2,A3,C1,C2,C3,rfl⟩
theorem shw_of {b1 b9:Nat}{a0 a1 a2 a3 a4 a5:Option Addr}{n0 c0 n1 c1 n2 c2 n3 c3 n4 c4 n5 c5:Nat}{A1 A2 A3:Option Addr}{C1 C2 C3:Nat}{w':World}(h:Hid (Shw b1 b9 (.slice a0 n0 c0) (.slice a1 n1 c1) (.slice a2 n2 c2) (.slice a3 n3 c3) (.slice a4 n4 c4) (.slice a5 n5 c5) A1 A2 A3 C1 C2 C3 w')):w'.cell? ⟨b1,0,none⟩=some (.slice a0 n0 c0)∧w'.cell? ⟨b1,1,none⟩=some (.slice a1 n1 c1)∧w'.cell? ⟨b1,2,none⟩=some (.slice a2 n2 c2)∧w'.cell? ⟨b1,3,none⟩=some (.slice a3 n3 c3)∧w'.cell? ⟨b1,4,none⟩=some (.slice a4 n4 c4)∧w'.cell? ⟨b1,5,none⟩=some (.slice a5 n5 c5)∧w'.cell? ⟨b9,0,none⟩=some (.string ⟨#[114,111,117,116,101]⟩)∧w'.cell? ⟨b9,1,none⟩=some (.slice A1 1 C1)∧w'.cell? ⟨b9,2,none⟩=some (.slice A2 1 C2)∧w'.cell? ⟨b9,3,none⟩=some (.int .i64 4)∧w'.cell? ⟨b9,4,none⟩=some (.string ⟨#[111,117,116]⟩)∧w'.cell? ⟨b9,5,none⟩=some (.slice A3 1 C3)∧w'.cell? ⟨b9,6,none⟩=some (.bool false):=
 ⟨h.out.one.cell 0 rfl,h.out.one.cell 1 rfl,h.out.one.cell 2 rfl,h.out.one.cell 3 rfl,h.out.one.cell 4 rfl,h.out.one.cell 5 rfl,h.out.two.cell 0 rfl,h.out.two.cell 1 rfl,h.out.two.cell 2 rfl,h.out.two.cell 3 rfl,h.out.two.cell 4 rfl,h.out.two.cell 5 rfl,h.out.two.cell 6 rfl⟩
theorem shown_any (w:World):Calls Tryz.prog 14 #[] w fun e w'=>e=.returned (.bool true)∧Below w.heap.size w w':=by
 go_enter Tryz.func14,Tryz.ntmps14
 go_wp2_with fail
 refine(example_no w).mono ?_
 rintro e W1 ⟨v,rfl,hs,hb1⟩
 have HB1:Hid (Bl w W1):=hb1
 clear hb1
 obtain⟨a0,c0,a1,c1,a2,c2,a3,c3,a4,c4,a5,c5,rfl,_⟩:=hs.parts
 have HS1:Hid (SchIs W1 (.agg #[.slice a0 (exS [511]).headers.length c0,.slice a1 (exS [511]).metas.length c1,.slice a2 (exS [511]).states.length c2,.slice a3 (exS [511]).actions.length c3,.slice a4 (exS [511]).tables.length c4,.slice a5 (exS [511]).control.length c5]) (exS [511])):=hs
 clear hs
 generalize (exS [511]).headers.length=n0 at*
 generalize (exS [511]).metas.length=n1 at*
 generalize (exS [511]).states.length=n2 at*
 generalize (exS [511]).actions.length=n3 at*
 generalize (exS [511]).tables.length=n4 at*
 generalize (exS [511]).control.length=n5 at*
 go_upto_region 2 with fail
 have HB2:Hid (Bl w (W1.alloc (.cells #[.slice a0 n0 c0,.slice a1 n1 c1,.slice a2 n2 c2,.slice a3 n3 c3,.slice a4 n4 c4,.slice a5 n5 c5] 34))):=HB1.out.alloc HB1.out.size _
 have HX2:Hid (Blk (W1.alloc (.cells #[.slice a0 n0 c0,.slice a1 n1 c1,.slice a2 n2 c2,.slice a3 n3 c3,.slice a4 n4 c4,.slice a5 n5 c5] 34)) W1.heap.size #[.slice a0 n0 c0,.slice a1 n1 c1,.slice a2 n2 c2,.slice a3 n3 c3,.slice a4 n4 c4,.slice a5 n5 c5] 34):=Blk.new W1 _ 34
 have HS2:Hid (SchIs (W1.alloc (.cells #[.slice a0 n0 c0,.slice a1 n1 c1,.slice a2 n2 c2,.slice a3 n3 c3,.slice a4 n4 c4,.slice a5 n5 c5] 34)) (.agg #[.slice a0 n0 c0,.slice a1 n1 c1,.slice a2 n2 c2,.slice a3 n3 c3,.slice a4 n4 c4,.slice a5 n5 c5]) (exS [511])):=HS1.out.pres (pres_below ((Below.refl _ _).alloc (Nat.le_refl _) _))
 clear HB1 HS1
 generalize W1.alloc _=W2 at HB2 HX2 HS2 ⊢
 generalize W1.heap.size=b1 at HX2 ⊢
 have C15:Hid (Cs 15 #[.agg #[.slice a0 n0 c0,.slice a1 n1 c1,.slice a2 n2 c2,.slice a3 n3 c3,.slice a4 n4 c4,.slice a5 n5 c5]] W2 fun e w'=>e=.returned (.tuple #[.int .i64 0,.string ⟨#[]⟩])∧Bl W2 w'):=by
  have:=check_any _ _ W2 HS2.out
  rw[chk_no] at this
  exact this
 obtain⟨z0,z1,z2,z3,z4,z5⟩:=HX2.out.c6
 go_wp2_with fail
 refine C15.out.mono ?_
 rintro e W3 ⟨rfl,hb⟩
 have HB3:Hid (Bl w W3):=bst HB2.out hb
 have HX3:=hblk HX2 hb
 have HS3:Hid (SchIs W3 (.agg #[.slice a0 n0 c0,.slice a1 n1 c1,.slice a2 n2 c2,.slice a3 n3 c3,.slice a4 n4 c4,.slice a5 n5 c5]) (exS [511])):=HS2.out.pres (pres_below hb)
 clear HB2 HX2 HS2 C15 hb z0 z1 z2 z3 z4 z5
 go_wp2_with fail
 refine(example_yes W3).mono ?_
 rintro e W4 ⟨v',rfl,hs',hb⟩
 have HB4:Hid (Bl w W4):=bst HB3.out hb
 have HX4:=hblk HX3 hb
 have HS4:Hid (SchIs W4 (.agg #[.slice a0 n0 c0,.slice a1 n1 c1,.slice a2 n2 c2,.slice a3 n3 c3,.slice a4 n4 c4,.slice a5 n5 c5]) (exS [511])):=HS3.out.pres (pres_below hb)
 have C15:Hid (Cs 15 #[v'] W4 fun e w'=>e=.returned (.tuple #[.int .i64 76,.string badT])∧Bl W4 w'):=by
  have:=check_any _ _ W4 hs'
  rw[chk_yes] at this
  exact this
 clear HB3 HX3 HS3 hb hs'
 go_wp2_with fail
 refine C15.out.mono ?_
 rintro e W5 ⟨rfl,hb⟩
 have HB5:Hid (Bl w W5):=bst HB4.out hb
 have HX5:=hblk HX4 hb
 have HS5:Hid (SchIs W5 (.agg #[.slice a0 n0 c0,.slice a1 n1 c1,.slice a2 n2 c2,.slice a3 n3 c3,.slice a4 n4 c4,.slice a5 n5 c5]) (exS [511])):=HS4.out.pres (pres_below hb)
 clear HB4 HX4 HS4 C15 hb
 unfold badT
 go_upto_region 4 with fail
 have C35:Hid (Cs 35 #[.agg #[.slice a0 n0 c0,.slice a1 n1 c1,.slice a2 n2 c2,.slice a3 n3 c3,.slice a4 n4 c4,.slice a5 n5 c5],.string ⟨#[114,111,117,116,101]⟩] W5 fun e w'=>∃ u,e=.returned (.tuple #[u,.int .i64 0])∧IntRow (upw W5.heap.size w') u [32]∧Bl W5 w'):=by
  have:=widths_at _ _ ⟨#[114,111,117,116,101]⟩ W5 HS5.out 0 exT0 tbl_ex0 tbl_ex
  rw[wid_ex] at this
  exact this
 obtain⟨z0,z1,z2,z3,z4,z5⟩:=HX5.out.c6
 go_wp2_with fail
 refine C35.out.mono ?_
 rintro e W6 ⟨u,rfl,hi,hb⟩
 obtain⟨bi,oi,ci,rfl,qi,hci⟩:=int_cell hi
 have HQ6:Hid (W6.cell? ⟨bi,oi,none⟩=some (.int .i64 32)):=pres_up _ _ _ _ qi
 have HB6:Hid (Bl w W6):=bst HB5.out hb
 have HX6:=hblk HX5 hb
 have HS6:Hid (SchIs W6 (.agg #[.slice a0 n0 c0,.slice a1 n1 c1,.slice a2 n2 c2,.slice a3 n3 c3,.slice a4 n4 c4,.slice a5 n5 c5]) (exS [511])):=HS5.out.pres (pres_below hb)
 clear HB5 HX5 HS5 C35 hb hi qi z0 z1 z2 z3 z4 z5
 go_upto_region 5 with fail
 have C23:Hid (Cs 23 #[.agg #[.slice a0 n0 c0,.slice a1 n1 c1,.slice a2 n2 c2,.slice a3 n3 c3,.slice a4 n4 c4,.slice a5 n5 c5]] W6 fun e w'=>∃ u,e=.returned u∧TxtRow (upw W6.heap.size w') u [⟨#[114,111,117,116,101]⟩]∧Bl W6 w'):=by
  have:=applied_any _ _ W6 HS6.out
  rw[app_ex] at this
  exact this
 obtain⟨z0,z1,z2,z3,z4,z5⟩:=HX6.out.c6
 go_wp2_with fail
 refine C23.out.mono ?_
 rintro e W7 ⟨u,rfl,hi,hb⟩
 obtain⟨bt,ot,ct,rfl,qt,hct⟩:=txt_cell hi
 have HQ7:Hid (W7.cell? ⟨bi,oi,none⟩=some (.int .i64 32)∧W7.cell? ⟨bt,ot,none⟩=some (.string ⟨#[114,111,117,116,101]⟩)):=⟨pres_below hb _ _ HQ6.out,pres_up _ _ _ _ qt⟩
 have HB7:Hid (Bl w W7):=bst HB6.out hb
 have HX7:=hblk HX6 hb
 have HS7:Hid (SchIs W7 (.agg #[.slice a0 n0 c0,.slice a1 n1 c1,.slice a2 n2 c2,.slice a3 n3 c3,.slice a4 n4 c4,.slice a5 n5 c5]) (exS [511])):=HS6.out.pres (pres_below hb)
 clear HB6 HX6 HS6 C23 hb hi qt HQ6 z0 z1 z2 z3 z4 z5
 go_upto_region 6 with fail
 have C34:Hid (Cs 34 #[.agg #[.slice a0 n0 c0,.slice a1 n1 c1,.slice a2 n2 c2,.slice a3 n3 c3,.slice a4 n4 c4,.slice a5 n5 c5],.string ⟨#[114,111,117,116,101]⟩] W7 fun e w'=>∃ cs',e=.returned (.tuple #[.agg cs',.int .i64 0,.bool true])∧TblIs (upw W7.heap.size w') cs' exT0∧Bl W7 w'):=table_at _ _ ⟨#[114,111,117,116,101]⟩ W7 HS7.out 0 exT0 tbl_ex0 tbl_ex
 obtain⟨z0,z1,z2,z3,z4,z5⟩:=HX7.out.c6
 go_wp2_with fail
 refine C34.out.mono ?_
 rintro e W8 ⟨cs',rfl,hi,hb⟩
 obtain⟨A1,A2,A3,C1,C2,C3,rfl⟩:=tbl_form hi
 have HQ8:Hid (W8.cell? ⟨bi,oi,none⟩=some (.int .i64 32)∧W8.cell? ⟨bt,ot,none⟩=some (.string ⟨#[114,111,117,116,101]⟩)):=⟨pres_below hb _ _ HQ7.out.1,pres_below hb _ _ HQ7.out.2⟩
 have HB8:Hid (Bl w W8):=bst HB7.out hb
 have HX8:=hblk HX7 hb
 have HS8:Hid (SchIs W8 (.agg #[.slice a0 n0 c0,.slice a1 n1 c1,.slice a2 n2 c2,.slice a3 n3 c3,.slice a4 n4 c4,.slice a5 n5 c5]) (exS [511])):=HS7.out.pres (pres_below hb)
 have HT8:Hid (TblIs W8 #[.string ⟨#[114,111,117,116,101]⟩,.slice A1 1 C1,.slice A2 1 C2,.int .i64 4,.string ⟨#[111,117,116]⟩,.slice A3 1 C3,.bool false] exT0):=hi.pres (pres_up _ _)
 clear HB7 HX7 HS7 C34 hb hi HQ7 z0 z1 z2 z3 z4 z5
 go_upto_region 7 with fail
 have HH:Hid (Bl w (W8.alloc (.cells #[.string ⟨#[114,111,117,116,101]⟩,.slice A1 1 C1,.slice A2 1 C2,.int .i64 4,.string ⟨#[111,117,116]⟩,.slice A3 1 C3,.bool false] 51))∧Shw b1 W8.heap.size (.slice a0 n0 c0) (.slice a1 n1 c1) (.slice a2 n2 c2) (.slice a3 n3 c3) (.slice a4 n4 c4) (.slice a5 n5 c5) A1 A2 A3 C1 C2 C3 (W8.alloc (.cells #[.string ⟨#[114,111,117,116,101]⟩,.slice A1 1 C1,.slice A2 1 C2,.int .i64 4,.string ⟨#[111,117,116]⟩,.slice A3 1 C3,.bool false] 51))∧(W8.alloc (.cells #[.string ⟨#[114,111,117,116,101]⟩,.slice A1 1 C1,.slice A2 1 C2,.int .i64 4,.string ⟨#[111,117,116]⟩,.slice A3 1 C3,.bool false] 51)).cell? ⟨bi,oi,none⟩=some (.int .i64 32)∧(W8.alloc (.cells #[.string ⟨#[114,111,117,116,101]⟩,.slice A1 1 C1,.slice A2 1 C2,.int .i64 4,.string ⟨#[111,117,116]⟩,.slice A3 1 C3,.bool false] 51)).cell? ⟨bt,ot,none⟩=some (.string ⟨#[114,111,117,116,101]⟩)):=by
  have hb:Below W8.heap.size W8 (W8.alloc (.cells #[.string ⟨#[114,111,117,116,101]⟩,.slice A1 1 C1,.slice A2 1 C2,.int .i64 4,.string ⟨#[111,117,116]⟩,.slice A3 1 C3,.bool false] 51)):=(Below.refl _ _).alloc (Nat.le_refl _) _
  exact⟨bst HB8.out hb,⟨HX8.out.below hb,HS8.out.pres (pres_below hb),Blk.new W8 _ 51,HT8.out.pres (pres_below hb)⟩,pres_below hb _ _ HQ8.out.1,pres_below hb _ _ HQ8.out.2⟩
 clear HB8 HX8 HS8 HT8 HQ8
 generalize W8.alloc _=W at HH ⊢
 generalize W8.heap.size=b9 at HH ⊢
 have qi:=HH.out.2.2.1
 have qt:=HH.out.2.2.2
 have HB:Hid (Bl w W):=HH.out.1
 have HW:Hid (Shw b1 b9 (.slice a0 n0 c0) (.slice a1 n1 c1) (.slice a2 n2 c2) (.slice a3 n3 c3) (.slice a4 n4 c4) (.slice a5 n5 c5) A1 A2 A3 C1 C2 C3 W):=HH.out.2.1
 have t3:=HW.out.two.cell 3 (v:=.int .i64 4) rfl
 have HD:Hid (Shw b1 b9 (.slice a0 n0 c0) (.slice a1 n1 c1) (.slice a2 n2 c2) (.slice a3 n3 c3) (.slice a4 n4 c4) (.slice a5 n5 c5) A1 A2 A3 C1 C2 C3 W.drew):=HH.out.2.1.below ((Below.refl _ _).drew)
 clear HH
 go_upto_region 9 with fail
 all_goals clear qi qt t3
 go_region_held3 (fun w'=>w'.cell? ⟨b1,0,none⟩=some (.slice a0 n0 c0)∧w'.cell? ⟨b1,1,none⟩=some (.slice a1 n1 c1)∧w'.cell? ⟨b1,2,none⟩=some (.slice a2 n2 c2)∧w'.cell? ⟨b1,3,none⟩=some (.slice a3 n3 c3)∧w'.cell? ⟨b1,4,none⟩=some (.slice a4 n4 c4)∧w'.cell? ⟨b1,5,none⟩=some (.slice a5 n5 c5)∧w'.cell? ⟨b9,0,none⟩=some (.string ⟨#[114,111,117,116,101]⟩)∧w'.cell? ⟨b9,1,none⟩=some (.slice A1 1 C1)∧w'.cell? ⟨b9,2,none⟩=some (.slice A2 1 C2)∧w'.cell? ⟨b9,3,none⟩=some (.int .i64 4)∧w'.cell? ⟨b9,4,none⟩=some (.string ⟨#[111,117,116]⟩)∧w'.cell? ⟨b9,5,none⟩=some (.slice A3 1 C3)∧w'.cell? ⟨b9,6,none⟩=some (.bool false))
  (exact shw_of (by with_reducible assumption))
  (first
    | (go_at_call 25; refine (sh25 _ (by with_reducible assumption)).mono ?_; rintro e V0 ⟨rfl, B0, K0⟩)
    | (go_at_call 20; refine (sh20 _ (by with_reducible assumption)).mono ?_; rintro e V1 ⟨rfl, B1, K1⟩)
    | (go_at_call 17; refine (sh17 _ (by with_reducible assumption)).mono ?_; rintro e V2 ⟨rfl, B2, K2⟩)
    | (go_at_call 61; refine (sh61 _ (by with_reducible assumption)).mono ?_; rintro e V3 ⟨rfl, B3, K3⟩)
    | (go_at_call 28; refine (sh28 _ (by with_reducible assumption)).mono ?_; rintro e V4 ⟨v4, rfl, J4, B4, K4⟩)
    | (go_at_call 60; refine (sh60 _ (by with_reducible assumption)).mono ?_; rintro e V6 ⟨v6, rfl, J6, B6, K6⟩)
    | (go_at_call 30; refine (sh30 _ (by with_reducible assumption) (by with_reducible assumption)).mono ?_; rintro e V5 ⟨rfl, B5, K5⟩)
    | (go_at_call 30; refine (sh30b _ (by with_reducible assumption) (by with_reducible assumption)).mono ?_; rintro e V7 ⟨rfl, B7, K7⟩))
 rename_i hHeld
 clear hHeld
 have HF:Hid (Bl w V7):=bst (bst (bst (bst (bst (bst (bst (bst (HB.out.drew) B0.out) B1.out) B2.out) B3.out) B4.out) B5.out) B6.out) B7.out
 go_wp2
 go_ret
 exact⟨rfl,HF.out⟩
end Go.Proofs.YtmbpclknhkbbkaaGreat
