/- Package schema: Widths. -/
import Derived.Test.YtmbpclknhkbbkaaGreatB32
import Derived.Deep.OwnRows
set_option linter.unusedSimpArgs false
set_option linter.unusedVariables false
set_option maxHeartbeats 2000000
namespace Go.Proofs.YtmbpclknhkbbkaaGreat
open Go.RowKit
theorem tblAt_cases (s:Sch)(name:ByteArray):(tblAt s name = -1)∨∃(i:Nat)(h:Tbl),s.tables[i]?=some h∧h.name=name∧tblAt s name=(i:Int):=by
 rcases idx_cases (fun h:Tbl=>decide (h.name=name)) s.tables 0 with⟨hi,hn⟩|⟨i,x,hlt,hx,hp,hi,hn⟩
 ·exact .inl hi
 ·exact .inr ⟨i,x,hx,by simpa using hp,by unfold tblAt;rw[hi,Nat.zero_add]⟩
def IntRow (w:World)(v:Value)(xs:List Int):Prop:=Row 1 (Flat (fun x:Int=>#[Value.int .i64 x]) (fun _=>True)) w v xs
theorem widths_none (v:Value)(s:Sch)(name:ByteArray)(w:World)(hs:SchIs w v s)(hi:tblAt s name = -1):Calls Tryz.prog 35 #[v,.string name] w fun e w'=>e=.returned (.tuple #[.slice none 0 0,.int .i64 110])∧Below w.heap.size w w':=by
 obtain⟨a0,c0,a1,c1,a2,c2,a3,c3,a4,c4,a5,c5,rfl,h0,h1,h2,h3,h4,h5⟩:=hs.parts
 have HB0:Hid (Bl w (w.alloc (.cells #[.slice a0 s.headers.length c0,.slice a1 s.metas.length c1,.slice a2 s.states.length c2,.slice a3 s.actions.length c3,.slice a4 s.tables.length c4,.slice a5 s.control.length c5] 34))):=(Below.refl _ _).alloc (Nat.le_refl _) _
 have CT:Hid (Cs 126 #[.agg #[.slice a0 s.headers.length c0,.slice a1 s.metas.length c1,.slice a2 s.states.length c2,.slice a3 s.actions.length c3,.slice a4 s.tables.length c4,.slice a5 s.control.length c5],.string name] (w.alloc (.cells #[.slice a0 s.headers.length c0,.slice a1 s.metas.length c1,.slice a2 s.states.length c2,.slice a3 s.actions.length c3,.slice a4 s.tables.length c4,.slice a5 s.control.length c5] 34)) fun e w'=>e=.returned (.int .i64 (-1))∧Hid (Below (w.alloc (.cells #[.slice a0 s.headers.length c0,.slice a1 s.metas.length c1,.slice a2 s.states.length c2,.slice a3 s.actions.length c3,.slice a4 s.tables.length c4,.slice a5 s.control.length c5] 34)).heap.size (w.alloc (.cells #[.slice a0 s.headers.length c0,.slice a1 s.metas.length c1,.slice a2 s.states.length c2,.slice a3 s.actions.length c3,.slice a4 s.tables.length c4,.slice a5 s.control.length c5] 34)) w')):=by
  have:=tableAt_any _ s name _ (hs.pres (pres_below HB0.out))
  rw[hi] at this
  exact this
 clear hs h0 h1 h2 h3 h4 h5 hi
 go_enter Tryz.func35,Tryz.ntmps35
 go_wp2_with fail
 refine CT.out.mono ?_
 rintro e w1 ⟨rfl,hb1⟩
 have HB1:Hid (Bl w w1):=bst HB0.out hb1.out (Nat.le_refl _)
 clear hb1 CT HB0
 go_wp2
 first|go_ret2|go_ret
 exact⟨rfl,HB1.out⟩
theorem info3:(Tryz.prog.info? 3).map (fun i=>(i.zero,i.size,i.bytes))=some (some (.int .i64 0),1,8):=by kernel_rfl
theorem made_size (z:Value)(n:Nat):(madeCells #[z] n).size=n:=by simp[madeCells]
theorem widths_at (v:Value)(s:Sch)(name:ByteArray)(w:World)(hs:SchIs w v s)(i:Nat)(t:Tbl)(ht:s.tables[i]?=some t)(hi:tblAt s name=(i:Int)):Calls Tryz.prog 35 #[v,.string name] w fun e w'=>∃ u,e=.returned (.tuple #[u,.int .i64 0])∧IntRow (upw w.heap.size w') u (t.keys.map fun k=>widW s k.ref)∧Below w.heap.size w w':=by
 obtain⟨a0,c0,a1,c1,a2,c2,a3,c3,a4,c4,a5,c5,rfl,h0,h1,h2,h3,h4,h5⟩:=hs.parts
 obtain⟨tb,tof,tcs,rfl,_,htc,vk,va,vd,rfl,hto,hkr,_,_⟩:=h4.1.at ht
 obtain⟨ad,cap,rfl,_⟩:=hkr.1.slice
 have hlen:t.keys.length*40≤140737488351232:=hkr.2
 have htl:s.tables.length*120≤140737488351232:=h4.2
 have hit:(i:Int)<(s.tables.length:Int):=by have:=(List.getElem?_eq_some_iff.1 ht).1;omega
 have hit':i<s.tables.length:=by omega
 have HS:Hid (SchIs w (.agg #[.slice a0 s.headers.length c0,.slice a1 s.metas.length c1,.slice a2 s.states.length c2,.slice a3 s.actions.length c3,.slice (some ⟨tb,tof,none⟩) s.tables.length c4,.slice a5 s.control.length c5]) s):=hs
 have HB0:Hid (Bl w (w.alloc (.cells #[.slice a0 s.headers.length c0,.slice a1 s.metas.length c1,.slice a2 s.states.length c2,.slice a3 s.actions.length c3,.slice (some ⟨tb,tof,none⟩) s.tables.length c4,.slice a5 s.control.length c5] 34))):=(Below.refl _ _).alloc (Nat.le_refl _) _
 have HX0:Hid (Blk (w.alloc (.cells #[.slice a0 s.headers.length c0,.slice a1 s.metas.length c1,.slice a2 s.states.length c2,.slice a3 s.actions.length c3,.slice (some ⟨tb,tof,none⟩) s.tables.length c4,.slice a5 s.control.length c5] 34)) w.heap.size #[.slice a0 s.headers.length c0,.slice a1 s.metas.length c1,.slice a2 s.states.length c2,.slice a3 s.actions.length c3,.slice (some ⟨tb,tof,none⟩) s.tables.length c4,.slice a5 s.control.length c5] 34):=Blk.new _ _ _
 have HT:Hid (w.cell? ⟨tb,tof+i*7+1,none⟩=some (.slice ad t.keys.length cap)):=htc 1 _ rfl
 have HK:Hid (KyRow w (.slice ad t.keys.length cap) t.keys):=hkr
 have CT:Hid (∀ w1,Bl w w1→Cs 126 #[.agg #[.slice a0 s.headers.length c0,.slice a1 s.metas.length c1,.slice a2 s.states.length c2,.slice a3 s.actions.length c3,.slice (some ⟨tb,tof,none⟩) s.tables.length c4,.slice a5 s.control.length c5],.string name] w1 fun e w'=>e=.returned (.int .i64 (i:Int))∧Hid (Bl w1 w')):=fun w1 hb=>by
  have:=tableAt_any _ s name _ (HS.out.pres (pres_below hb))
  rw[hi] at this
  exact this
 have CW:Hid (∀ w1,Bl w w1→Cs 66 #[.agg #[.slice a0 s.headers.length c0,.slice a1 s.metas.length c1,.slice a2 s.states.length c2,.slice a3 s.actions.length c3,.slice (some ⟨tb,tof,none⟩) s.tables.length c4,.slice a5 s.control.length c5]] w1 fun e w'=>∃ b m,e=.returned (.map (some b))∧w1.heap.size≤b∧Hid (MapR w' b m (gOf s.metas s.headers))∧Hid (Bl w1 w')):=fun w1 hb=>widthsOf_any _ s w1 (HS.out.pres (pres_below hb))
 have HW:Hid (∀ r,(gOf s.metas s.headers r).getD 0=widW s r):=gOf_widW s
 obtain⟨n,hn⟩:∃ n,n=t.keys.length:=⟨_,rfl⟩
 have HL:Hid (n=t.keys.length):=hn
 rw[← hn] at hlen HT HK
 have hmk:=run_make_row' (P:=Tryz.prog) 70 3 (.int .i64 0) 8 Tryz.underlying70 info3 rfl .i64 .i64 n (by omega) (by omega)
 clear hs h0 h1 h2 h3 h4 h5 hi hn htc hkr hto ht
 generalize t.keys=ks at*
 generalize hGF:gOf s.metas s.headers=G at*
 clear hGF
 go_enter Tryz.func35,Tryz.ntmps35
 go_upto_region 1 with fail
 generalize (w.alloc _)=W0 at HB0 HX0 ⊢
 obtain⟨x0,x1,x2,x3,x4,x5⟩:=HX0.out.c6
 go_wp2_with fail
 refine(CT.out _ HB0.out).mono ?_
 rintro e w1 ⟨rfl,hb1⟩
 have HB1:Hid (Bl w w1):=bst HB0.out hb1.out (Nat.le_refl _)
 have HX1:Hid (Blk w1 w.heap.size #[.slice a0 s.headers.length c0,.slice a1 s.metas.length c1,.slice a2 s.states.length c2,.slice a3 s.actions.length c3,.slice (some ⟨tb,tof,none⟩) s.tables.length c4,.slice a5 s.control.length c5] 34):=HX0.out.below hb1.out
 clear hb1 HB0 HX0 CT x0 x1 x2 x3 x4 x5
 obtain⟨x0,x1,x2,x3,x4,x5⟩:=HX1.out.c6
 have hge:¬(i:Int)<0:=by omega
 go_wp2_with fail
 refine(CW.out _ HB1.out).mono ?_
 rintro e w2 ⟨mb,m,rfl,hmb,HM2,hb2⟩
 have HB2:Hid (Bl w w2):=bst HB1.out hb2.out (Nat.le_refl _)
 have HX2:Hid (Blk w2 w.heap.size #[.slice a0 s.headers.length c0,.slice a1 s.metas.length c1,.slice a2 s.states.length c2,.slice a3 s.actions.length c3,.slice (some ⟨tb,tof,none⟩) s.tables.length c4,.slice a5 s.control.length c5] 34):=HX1.out.below hb2.out
 have hw1:=HB1.out.size
 clear hb2 HB1 HX1 CW x0 x1 x2 x3 x4 x5
 have x4:=HX2.out.cell 4 (v:=.slice (some ⟨tb,tof,none⟩) s.tables.length c4) rfl
 have q1:=pres_below HB2.out _ _ HT.out
 have hsz2:=HB2.out.size
 have hml:=HM2.out.lt
 go_upto_region 7 with fail
 have HL0:Hid (Blk (w2.alloc (.cells (madeCells #[.int .i64 0] n) 3)) w2.heap.size (madeCells #[.int .i64 0] n) 3):=Blk.new _ _ _
 have HA:Hid (Bl w2 (w2.alloc (.cells (madeCells #[.int .i64 0] n) 3))):=(Below.refl _ _).alloc (Nat.le_refl _) _
 generalize (w2.alloc _)=W at HL0 HA ⊢
 obtain⟨lb,hlb⟩:∃ lb,lb=w2.heap.size:=⟨_,rfl⟩
 rw[← hlb] at HL0 hsz2 hml ⊢
 have HMW:Hid (MapR W mb m G):=HM2.out.below HA.out
 have HBW:Hid (Bl w W):=bst HB2.out HA.out (Nat.le_refl _)
 clear hlb HM2 HB2 HX2 HA x4 q1 HT hmk
 have HSZ:Hid ((madeCells #[.int .i64 0] n).size=n):=made_size _ _
 generalize madeCells #[.int .i64 0] n=cur0 at*
 go_wp2_with fail
 go_loopw [30] (fun i wr=>∃(k:Nat) (cur:Array Value),k≤n∧i=.int .i64 k∧Below w.heap.size w wr∧MapR wr mb m G∧Blk wr lb cur 3∧cur.size=n∧∀ j y,j<k→ks[j]?=some y→cur[j]?=some (.int .i64 (widW s y.ref))) (fun i _=>n - (intOf i).toNat)
 case atStart=>exact⟨0,cur0,by omega,rfl,HBW.out,HMW.out,HL0.out,HSZ.out,fun j y h=>by omega⟩
 case round=>
  obtain⟨k,cur,hk,rfl,hb,hm,hl,hcs,hdone⟩:=hrel
  by_cases hlt:k<n
  ·obtain⟨y,hy⟩:=gE HL.out hlt
   obtain⟨b,o,cs,rfl,_,hcc,rfl,hok⟩:=HK.out.1.at hy
   have q0:wr.cell? ⟨b,o+k*3,none⟩=some (.string y.ref.head):=by have:=pres_below hb _ _ (hcc 0 (.string y.ref.head) rfl);simpa using this
   have q1:wr.cell? ⟨b,o+k*3+1,none⟩=some (.string y.ref.name):=by have:=pres_below hb _ _ (hcc 1 (.string y.ref.name) rfl);simpa using this
   have q2:wr.cell? ⟨b,o+k*3+2,none⟩=some (.int .i64 y.kind):=by have:=pres_below hb _ _ (hcc 2 (.int .i64 y.kind) rfl);simpa using this
   have HB:Hid (Bl w wr):=hb
   have HM:Hid (MapR wr mb m G):=hm
   have HLb:Hid (Blk wr lb cur 3):=hl
   have hlbl:=hl.lt
   have HDn:Hid (cur.size=n∧∀ j y,j<k→ks[j]?=some y→cur[j]?=some (.int .i64 (widW s y.ref))):=⟨hcs,hdone⟩
   have hsz:=hb.size
   clear hb hcc hm hl hdone hcs
   go_upto_region 10 with fail
   have HA:Hid (Bl wr (wr.alloc (.cells #[.string y.ref.head,.string y.ref.name,.int .i64 y.kind] 116))):=(Below.refl _ _).alloc (Nat.le_refl _) _
   have HX:Hid (Blk (wr.alloc (.cells #[.string y.ref.head,.string y.ref.name,.int .i64 y.kind] 116)) wr.heap.size #[.string y.ref.head,.string y.ref.name,.int .i64 y.kind] 116):=Blk.new _ _ _
   generalize (wr.alloc _)=W at HA HX ⊢
   obtain⟨xb,hxb⟩:∃ xb,xb=wr.heap.size:=⟨_,rfl⟩
   rw[← hxb] at HX hsz hlbl ⊢
   clear hxb
   have x0:=HX.out.cell 0 (v:=.string y.ref.head) rfl
   have x1:=HX.out.cell 1 (v:=.string y.ref.name) rfl
   have HMW:Hid (MapR W mb m G):=HM.out.below HA.out
   have HBW:Hid (Bl w W):=bst HB.out HA.out (Nat.le_refl _)
   have HLW:Hid (Blk W lb cur 3):=HLb.out.below HA.out
   have L:=HMW.out.look1 y.ref hok.1 hok.2.1
   rw[HW.out] at L
   obtain⟨old,hold⟩:∃ old,cur[k]?=some old:=⟨cur[k]'(by rw[HDn.out.1];exact hlt),Array.getElem?_eq_getElem _⟩
   have l0:=HLW.out.cell k hold
   have l1:=HLW.out.frozen k
   have HF:Hid (Blk (W.setCell ⟨lb,k,none⟩ (.int .i64 (widW s y.ref))) lb (cur.setIfInBounds k (.int .i64 (widW s y.ref))) 3∧(cur.setIfInBounds k (.int .i64 (widW s y.ref))).size=n∧(∀ j z,j<k+1→ks[j]?=some z→(cur.setIfInBounds k (.int .i64 (widW s y.ref)))[j]?=some (.int .i64 (widW s z.ref)))∧Bl w (W.setCell ⟨lb,k,none⟩ (.int .i64 (widW s y.ref)))∧MapR (W.setCell ⟨lb,k,none⟩ (.int .i64 (widW s y.ref))) mb m G):=by
    refine⟨HLW.out.set k _,by simp[HDn.out.1],fun j z hj hz=>?_,?_,?_⟩
    ·by_cases e:j=k
     ·subst e
      obtain rfl:=Option.some.inj (hy.symm.trans hz)
      rw[Array.getElem?_setIfInBounds_self_of_lt (by rw[HDn.out.1];exact hlt)]
     ·rw[Array.getElem?_setIfInBounds_ne (fun e'=>e e'.symm)]
      exact HDn.out.2 j z (by omega) hz
    ·exact keptBelow HBW.out (Kept.set (S:=fun k=>k=lb) (Kept.refl _ _) rfl _) (by omega)
    ·exact HMW.out.kept (S:=fun k=>k=lb) (Kept.set (S:=fun k=>k=lb) (Kept.refl _ _) rfl _) (by show ¬ _=_;omega)
   generalize widW s y.ref=wy at*
   clear q0 q1 q2 hold HDn HB HM HLb HA HX
   go_wp2
   exact⟨⟨k+1,_,by omega,by go_num,HF.out.2.2.2.1,HF.out.2.2.2.2,HF.out.1,HF.out.2.1,HF.out.2.2.1⟩,by simp only[intOf];omega⟩
  ·have e:k=n:=by omega
   subst e
   have HE:Hid (Bl w wr∧IntRow (upw w.heap.size wr) (.slice (some ⟨lb,0,none⟩) k k) (ks.map fun k=>widW s k.ref)):=by
    refine⟨hb,some ⟨lb,0,none⟩,k,by simp[HL.out],by simp[HL.out],.inr ⟨lb,0,rfl,fun j x hx=>?_⟩⟩
    rw[List.getElem?_map] at hx
    obtain⟨y,hy,rfl⟩:=Option.map_eq_some_iff.1 hx
    have hj:=(List.getElem?_eq_some_iff.1 hy).1
    refine⟨#[.int .i64 (widW s y.ref)],rfl,fun j' u hu=>?_,rfl,trivial⟩
    match j',hu with
    | 0,hu=>
     simp at hu
     subst hu
     refine cell_up ?_ (by show w.heap.size≤lb;omega)
     have:=hl.cell j (hdone j y (by rw[HL.out];exact hj) hy)
     simpa using this
   clear hm hb hl hcs hdone
   go_wp2
   first|go_ret2|go_ret
   exact⟨_,rfl,HE.out.2,HE.out.1⟩
def callE (s:Sch)(t:ByteArray)(c:Cl):Int:=
 match s.tables.find? (fun x=>decide (x.name=t)),s.actions.find? (fun x=>decide (x.name=c.action)) with
 | none,_=>110
 | some x,none=>113
 | some x,some a=>if hasT x.actions c.action=true then(if fitAll c.args a.params=true then 0 else 76) else 113
def ClIs (w:World)(v:Value)(c:Cl):Prop:=∃ u,v=.agg #[.string c.action,u]∧Okt c.action∧BitRow w u c.args
theorem tblAt_find (s:Sch)(name:ByteArray):(tblAt s name = -1∧s.tables.find? (fun x=>decide (x.name=name))=none)∨∃(i:Nat)(h:Tbl),s.tables[i]?=some h∧s.tables.find? (fun x=>decide (x.name=name))=some h∧tblAt s name=(i:Int):=by
 rcases idx_cases (fun h:Tbl=>decide (h.name=name)) s.tables 0 with⟨hi,hn⟩|⟨i,x,hlt,hx,hp,hi,hn⟩
 ·exact .inl ⟨hi,find_none hn⟩
 ·exact .inr ⟨i,x,hx,find_at hx hp hn,by unfold tblAt;rw[hi,Nat.zero_add]⟩
theorem actAt_find (s:Sch)(name:ByteArray):(actAt s name = -1∧s.actions.find? (fun x=>decide (x.name=name))=none)∨∃(i:Nat)(h:Actn),s.actions[i]?=some h∧s.actions.find? (fun x=>decide (x.name=name))=some h∧actAt s name=(i:Int):=by
 rcases idx_cases (fun h:Actn=>decide (h.name=name)) s.actions 0 with⟨hi,hn⟩|⟨i,x,hlt,hx,hp,hi,hn⟩
 ·exact .inl ⟨hi,find_none hn⟩
 ·exact .inr ⟨i,x,hx,find_at hx hp hn,by unfold actAt;rw[hi,Nat.zero_add]⟩
abbrev SA (a0 a1 a2 a3 a4 a5:Option Addr)(c0 c1 c2 c3 c4 c5 n0 n1 n2 n3 n4 n5:Nat):Array Value:=#[.slice a0 n0 c0,.slice a1 n1 c1,.slice a2 n2 c2,.slice a3 n3 c3,.slice a4 n4 c4,.slice a5 n5 c5]
theorem call_any (v:Value)(s:Sch)(name:ByteArray)(u:Value)(c:Cl)(w:World)(hs:SchIs w v s)(hc:ClIs w u c):Calls Tryz.prog 82 #[v,.string name,u] w fun e w'=>e=.returned (.int .i64 (callE s name c))∧Below w.heap.size w w':=by
 obtain⟨a0,c0,a1,c1,a2,c2,a3,c3,a4,c4,a5,c5,rfl,h0,h1,h2,h3,h4,h5⟩:=hs.parts
 obtain⟨ua,rfl,hco,hcr⟩:=hc
 obtain⟨ba,bc,rfl,_⟩:=hcr.1.slice
 have htl:s.tables.length*120≤140737488351232:=h4.2
 have hal:s.actions.length*64≤140737488351232:=h3.2
 have hbl:c.args.length*16≤140737488351232:=hcr.2
 have HS:Hid (SchIs w (.agg (SA a0 a1 a2 a3 a4 a5 c0 c1 c2 c3 c4 c5 s.headers.length s.metas.length s.states.length s.actions.length s.tables.length s.control.length)) s):=hs
 have HCR:Hid (BitRow w (.slice ba c.args.length bc) c.args):=hcr
 have HT4:Hid (TblRow w (.slice a4 s.tables.length c4) s.tables):=h4
 have HT3:Hid (ActRow w (.slice a3 s.actions.length c3) s.actions):=h3
 have HA:Hid (Bl w ((w.alloc (.cells (SA a0 a1 a2 a3 a4 a5 c0 c1 c2 c3 c4 c5 s.headers.length s.metas.length s.states.length s.actions.length s.tables.length s.control.length) 34)).alloc (.cells #[.string c.action,.slice ba c.args.length bc] 45))):=((Below.refl _ _).alloc (Nat.le_refl _) _).alloc (by simp) _
 have HX:Hid (Blk ((w.alloc (.cells (SA a0 a1 a2 a3 a4 a5 c0 c1 c2 c3 c4 c5 s.headers.length s.metas.length s.states.length s.actions.length s.tables.length s.control.length) 34)).alloc (.cells #[.string c.action,.slice ba c.args.length bc] 45)) w.heap.size (SA a0 a1 a2 a3 a4 a5 c0 c1 c2 c3 c4 c5 s.headers.length s.metas.length s.states.length s.actions.length s.tables.length s.control.length) 34):=(Blk.new w _ 34).below ((Below.refl _ _).alloc (Nat.le_refl _) _)
 have HY:Hid (Blk ((w.alloc (.cells (SA a0 a1 a2 a3 a4 a5 c0 c1 c2 c3 c4 c5 s.headers.length s.metas.length s.states.length s.actions.length s.tables.length s.control.length) 34)).alloc (.cells #[.string c.action,.slice ba c.args.length bc] 45)) (w.heap.size+1) #[.string c.action,.slice ba c.args.length bc] 45):=by
  have:=Blk.new (w.alloc (.cells (SA a0 a1 a2 a3 a4 a5 c0 c1 c2 c3 c4 c5 s.headers.length s.metas.length s.states.length s.actions.length s.tables.length s.control.length) 34)) #[.string c.action,.slice ba c.args.length bc] 45
  show Blk _ _ _ _
  simpa using this
 have CT:Hid (∀ w1,Bl w w1→Cs 126 #[.agg (SA a0 a1 a2 a3 a4 a5 c0 c1 c2 c3 c4 c5 s.headers.length s.metas.length s.states.length s.actions.length s.tables.length s.control.length),.string name] w1 fun e w'=>e=.returned (.int .i64 (tblAt s name))∧Hid (Bl w1 w')):=fun w1 hb=>tableAt_any _ s name _ (HS.out.pres (pres_below hb))
 have CA:Hid (∀ w1,Bl w w1→Cs 125 #[.agg (SA a0 a1 a2 a3 a4 a5 c0 c1 c2 c3 c4 c5 s.headers.length s.metas.length s.states.length s.actions.length s.tables.length s.control.length),.string c.action] w1 fun e w'=>e=.returned (.int .i64 (actAt s c.action))∧Hid (Bl w1 w')):=fun w1 hb=>actionAt_any _ s c.action _ (HS.out.pres (pres_below hb))
 have HT:=tblAt_find s name
 have HAc:=actAt_find s c.action
 have HE : Hid (callE s name c = match s.tables.find? (fun x => decide (x.name = name)), s.actions.find? (fun x => decide (x.name = c.action)) with
   | none, _ => 110
   | some x, none => 113
   | some x, some a => if hasT x.actions c.action = true then (if fitAll c.args a.params = true then 0 else 76) else 113) := by show _ = _; rfl
 generalize callE s name c=R at*
 generalize tblAt s name=ti at*
 generalize actAt s c.action=ai at*
 generalize s.tables.find? (fun x=>decide (x.name=name))=ft at*
 generalize s.actions.find? (fun x=>decide (x.name=c.action))=fa at*
 have HTT:Hid ((ti = -1∧ft=none)∨∃(i:Nat) (h:Tbl),s.tables[i]?=some h∧ft=some h∧ti=(i:Int)):=HT
 have HAA:Hid ((ai = -1∧fa=none)∨∃(i:Nat) (h:Actn),s.actions[i]?=some h∧fa=some h∧ai=(i:Int)):=HAc
 clear hs hcr h0 h1 h2 h3 h4 h5 HS HT HAc
 generalize hn0:s.headers.length=n0 at*
 generalize hn1:s.metas.length=n1 at*
 generalize hn2:s.states.length=n2 at*
 generalize hn5:s.control.length=n5 at*
 generalize s.actions=acts at*
 generalize s.tables=tbls at*
 obtain⟨n3,hn3⟩:∃ n,n=acts.length:=⟨_,rfl⟩
 obtain⟨n4,hn4⟩:∃ n,n=tbls.length:=⟨_,rfl⟩
 have HN3:Hid (n3=acts.length):=hn3
 have HN4:Hid (n4=tbls.length):=hn4
 rw[← hn3] at hal HT3 HA HX HY CT CA ⊢
 rw[← hn4] at htl HT4 HA HX HY CT CA ⊢
 clear hn0 hn1 hn2 hn3 hn4 hn5
 unfold SA at*
 go_enter Tryz.func82,Tryz.ntmps82
 go_upto_region 1 with fail
 generalize ((w.alloc _).alloc _)=W0 at HA HX HY ⊢
 obtain⟨x0,x1,x2,x3,x4,x5⟩:=HX.out.c6
 go_wp2_with fail
 refine(CT.out _ HA.out).mono ?_
 rintro e w1 ⟨rfl,hb1⟩
 have HB1:Hid (Bl w w1):=bst HA.out hb1.out (Nat.le_refl _)
 have HX1:Hid (Blk w1 w.heap.size #[.slice a0 n0 c0,.slice a1 n1 c1,.slice a2 n2 c2,.slice a3 n3 c3,.slice a4 n4 c4,.slice a5 n5 c5] 34):=HX.out.below hb1.out
 have HY1:Hid (Blk w1 (w.heap.size+1) #[.string c.action,.slice ba c.args.length bc] 45):=HY.out.below hb1.out
 clear hb1 CT x0 x1 x2 x3 x4 x5 HA HX HY
 rcases HTT.out with⟨rfl,rfl⟩|⟨i,tx,htx,rfl,rfl⟩
 ·have HR:Hid (R=110):=by show _=_;rw[HE.out]
  clear HE HTT HAA
  go_wp2
  go_ret
  exact⟨by rw[HR.out];rfl,HB1.out⟩
 ·obtain⟨x0,x1,x2,x3,x4,x5⟩:=HX1.out.c6
  have y0:=HY1.out.cell 0 (v:=.string c.action) rfl
  have hge:¬(i:Int)<0:=by omega
  have hgd:decide ((i:Int)<0)=false:=by simp
  have hil:i<n4:=by rw[HN4.out];exact(List.getElem?_eq_some_iff.1 htx).1
  have HTX:Hid (tbls[i]?=some tx):=htx
  clear HTT htx
  go_wp2_with fail
  refine(CA.out _ HB1.out).mono ?_
  rintro e w2 ⟨rfl,hb2⟩
  have HB2:Hid (Bl w w2):=bst HB1.out hb2.out (Nat.le_refl _)
  have HX2:Hid (Blk w2 w.heap.size #[.slice a0 n0 c0,.slice a1 n1 c1,.slice a2 n2 c2,.slice a3 n3 c3,.slice a4 n4 c4,.slice a5 n5 c5] 34):=HX1.out.below hb2.out
  have HY2:Hid (Blk w2 (w.heap.size+1) #[.string c.action,.slice ba c.args.length bc] 45):=HY1.out.below hb2.out
  clear hb2 CA x0 x1 x2 x3 x4 x5 y0 HB1 HX1 HY1
  rcases HAA.out with⟨rfl,rfl⟩|⟨j,ax,hax,rfl,rfl⟩
  ·have HR:Hid (R=113):=by show _=_;rw[HE.out]
   clear HE HAA
   go_wp2
   go_quiet (fail)
   go_wp2
   go_ret
   exact⟨by rw[HR.out];rfl,⟨HB2.out.os,HB2.out.tape,HB2.out.output,HB2.out.size,HB2.out.block⟩⟩
  ·have hjd:decide ((j:Int)<0)=false:=by simp
   have hjg:¬(j:Int)<0:=by omega
   have hjl:j<n3:=by rw[HN3.out];exact(List.getElem?_eq_some_iff.1 hax).1
   obtain⟨tb,tof,tcs,rfl,_,htc,vk,va,vd,rfl,hto,_,htr,_⟩:=HT4.out.1.at HTX.out
   obtain⟨ab,aof,acs,rfl,_,hac,vp,vs,rfl,hao,hpr,_⟩:=HT3.out.1.at hax
   obtain⟨ta,tc,rfl,_⟩:=htr.1.slice
   obtain⟨pa,pc,rfl,_⟩:=hpr.1.slice
   have q2:w2.cell? ⟨tb,tof+i*7+2,none⟩=some (.slice ta tx.actions.length tc):=pres_below HB2.out _ _ (htc 2 _ rfl)
   have HQ1:Hid (w.cell? ⟨ab,aof+j*3+1,none⟩=some (.slice pa ax.params.length pc)):=hac 1 _ rfl
   have x4:=HX2.out.cell 4 (v:=.slice (some ⟨tb,tof,none⟩) n4 c4) rfl
   have y0:=HY2.out.cell 0 (v:=.string c.action) rfl
   have CC:Hid (Cs 166 #[.slice ta tx.actions.length tc,.string c.action] w2.drew fun e w'=>e=.returned (.bool (hasT tx.actions c.action))∧Hid (Below w2.drew.heap.size w2.drew w')):=containsTxt_any _ tx.actions w2.drew (htr.pres (pres_below HB2.out.drew)).1 (by have:=htr.2;unfold Len at this;omega) c.action
   have HR:Hid (R=if hasT tx.actions c.action=true then(if fitAll c.args ax.params=true then 0 else 76) else 113):=by show _=_;rw[HE.out]
   clear HE HAA htc hac
   generalize hasT tx.actions c.action=hb at*
   generalize tx.actions.length=tl at*
   go_wp2_with fail
   go_region_held3 (fun w'=>w'.cell? ⟨w.heap.size,4,none⟩=some (.slice (some ⟨tb,tof,none⟩) n4 c4)∧w'.cell? ⟨tb,tof+i*7+2,none⟩=some (.slice ta tl tc)∧w'.cell? ⟨w.heap.size+1,0,none⟩=some (.string c.action)) (first|exact⟨x4,q2,y0⟩|exact⟨pres_below HB3.out _ _ x4,pres_below HB3.out _ _ q2,pres_below HB3.out _ _ y0⟩) ((go_at_call 166;refine CC.out.mono ?_;rintro e w3 ⟨rfl,HB3⟩))
   have HB4:Hid (Bl w w3):=bst HB2.out.drew HB3.out (Nat.le_refl _)
   cases hb with
   | false=>
    have HR':Hid (R=113):=by show _=_;rw[HR.out];rfl
    clear HR
    go_wp2
    go_ret
    exact⟨by rw[HR'.out];rfl,HB4.out⟩
   | true=>
    have HR':Hid (R=if fitAll c.args ax.params=true then 0 else 76):=by show _=_;rw[HR.out];rfl
    have z3:=(HX2.out.below (w':=w3) (by exact bst (Below.fresh w2 1) HB3.out (Nat.le_refl _))).cell 3 (v:=.slice (some ⟨ab,aof,none⟩) n3 c3) rfl
    have z1:=(HY2.out.below (w':=w3) (by exact bst (Below.fresh w2 1) HB3.out (Nat.le_refl _))).cell 1 (v:=.slice ba c.args.length bc) rfl
    have p1:=pres_below HB4.out _ _ HQ1.out
    have CE:Hid (Cs 167 #[.slice ba c.args.length bc,.slice pa ax.params.length pc,.func (.func 168) #[] #[]] w3.drew fun e w'=>e=.returned (.bool (fitAll c.args ax.params))∧Hid (Below w3.drew.heap.size w3.drew w')):=fitAll_any _ _ c.args ax.params w3.drew (HCR.out.pres (pres_below HB4.out.drew)).1 (hpr.pres (pres_below HB4.out.drew)).1 (by omega)
    clear HR x4 y0 q2 CC HB3
    generalize fitAll c.args ax.params=fb at*
    generalize ax.params.length=pl at*
    go_wp2_with fail
    go_region_held3 (fun w'=>w'.cell? ⟨w.heap.size,3,none⟩=some (.slice (some ⟨ab,aof,none⟩) n3 c3)∧w'.cell? ⟨ab,aof+j*3+1,none⟩=some (.slice pa pl pc)∧w'.cell? ⟨w.heap.size+1,1,none⟩=some (.slice ba c.args.length bc)) (first|exact⟨z3,p1,z1⟩|exact⟨pres_below HB5.out _ _ z3,pres_below HB5.out _ _ p1,pres_below HB5.out _ _ z1⟩) ((go_at_call 167;refine CE.out.mono ?_;rintro e w5 ⟨rfl,HB5⟩))
    have HB6:Hid (Bl w w5):=bst HB4.out.drew HB5.out (Nat.le_refl _)
    cases fb with
    | false=>
     have HR2:Hid (R=76):=by show _=_;rw[HR'.out];rfl
     clear HR'
     go_wp2
     go_ret
     exact⟨by rw[HR2.out];rfl,HB6.out⟩
    | true=>
     have HR2:Hid (R=0):=by show _=_;rw[HR'.out];rfl
     clear HR'
     go_wp2
     go_ret
     exact⟨by rw[HR2.out];rfl,HB6.out⟩
end Go.Proofs.YtmbpclknhkbbkaaGreat
