/- Package schema's checker: checkStage, . -/
import Derived.Test.YtmbpclknhkbbkaaGreatB31
set_option linter.unusedSimpArgs false
set_option linter.unusedVariables false
set_option maxHeartbeats 4000000
set_option maxRecDepth 100000
namespace Go.Proofs.YtmbpclknhkbbkaaGreat
open Go.RowKit
def stgE (hh hT:ByteArray→Bool)(W:Rf→Int)(ap:List ByteArray)(y:Stg):Int:=
 if isStg y=false then 75 else if y.kind=1 then(if hT y.table=false then 72 else if hasT ap y.table=true then 71 else 0) else if y.kind=2 then testE hh W y.test else 0
def stgA (ap:List ByteArray)(y:Stg):List ByteArray:=if y.kind=1 then y.table :: ap else ap
theorem checkStage_any (w:World)(cb wb hb tb m sb:Nat)(g:Rf→Option Int)(hns tns ap:List ByteArray)(v0 v1 v2 v3 v4 v5 ac:Value)(th:ByteArray)(y:Stg)(cs:Array Value)(hI:StgIs w y cs)(hB:Blk w cb (ChkC v0 v1 v2 v3 v4 v5 th (.map (some wb)) (.map (some hb)) ac (.map (some tb))) 110)(hW:MapR w wb m g)(hH:SetT w hb hns)(hT:SetT w tb tns)(hS:SetT w sb ap):
  Calls Tryz.prog 156 #[.pointer (some ⟨cb,0,none⟩),.agg cs,.map (some sb)] w fun e w'=>Kept (fun k=>k=sb) w w'∧Res (stgE (hasT hns) (hasT tns) (fun r=>(g r).getD 0) ap y) th e∧(stgE (hasT hns) (hasT tns) (fun r=>(g r).getD 0) ap y=0→SetT w' sb (stgA ap y)):=by
 have HIs:Hid (StgIs w y cs):=hI
 obtain⟨v1',v2',rfl,hok,hth,hel⟩:=(stgIs_iff w y cs).1 hI
 obtain⟨ta,tc,rfl,_⟩:=hth.slice
 obtain⟨ea,ec,rfl,_⟩:=hel.slice
 have HRR:Hid (stgE (hasT hns) (hasT tns) (fun r=>(g r).getD 0) ap y=if isStg y=false then 75 else if y.kind=1 then(if hasT tns y.table=false then 72 else if hasT ap y.table=true then 71 else 0) else if y.kind=2 then testE (hasT hns) (fun r=>(g r).getD 0) y.test else 0):=rfl
 generalize stgE (hasT hns) (hasT tns) (fun r=>(g r).getD 0) ap y=R at*
 have HAp:Hid (stgA ap y=if y.kind=1 then y.table :: ap else ap):=rfl
 generalize stgA ap y=AP at*
 have HA:Hid (Bl w (w.alloc (.cells (sgA y ta tc ea ec) 127))):=(Below.refl _ _).alloc (Nat.le_refl _) _
 have HX:Hid (Blk (w.alloc (.cells (sgA y ta tc ea ec) 127)) w.heap.size (sgA y ta tc ea ec) 127):=Blk.new _ _ _
 have HQ:Hid (Blk (w.alloc (.cells (sgA y ta tc ea ec) 127)) cb (ChkC v0 v1 v2 v3 v4 v5 th (.map (some wb)) (.map (some hb)) ac (.map (some tb))) 110):=hB.below HA.out
 have HM:Hid (MapR (w.alloc (.cells (sgA y ta tc ea ec) 127)) wb m g):=hW.below HA.out
 have HH:Hid (SetT (w.alloc (.cells (sgA y ta tc ea ec) 127)) hb hns):=hH.below HA.out
 have HT:Hid (SetT (w.alloc (.cells (sgA y ta tc ea ec) 127)) tb tns):=hT.below HA.out
 have HS:Hid (SetT (w.alloc (.cells (sgA y ta tc ea ec) 127)) sb ap):=hS.below HA.out
 have HI2:Hid (StgIs (w.alloc (.cells (sgA y ta tc ea ec) 127)) y (sgA y ta tc ea ec)):=HIs.out.pres (pres_below HA.out)
 have hxne:w.heap.size≠sb:=by have:=hS.lt;omega
 have hcne:sb≠cb:=mapBlk hS hB
 have HOK:Hid (TstOk y.test):=hok.2.2
 have HOKt:Hid (Okt y.table):=hok.2.1
 clear hB hW hH hT hS hI hth hel hok HIs
 go_enter Tryz.func156,Tryz.ntmps156
 go_upto_region 1 with fail
 generalize (w.alloc _)=W at HA HX HQ HM HH HT HS HI2 ⊢
 obtain⟨xb,hxb⟩:∃ xb,xb=w.heap.size:=⟨_,rfl⟩
 rw[← hxb] at HX hxne ⊢
 clear hxb
 obtain⟨x0,x1,x2,x3,x4,x5,x6,x7,x8,x9,x10,x11,x12⟩:=HX.out.c13
 have CI:Hid (Cs 206 #[.agg (sgA y ta tc ea ec)] W fun e w'=>e=.returned (.bool (isStg y))∧Bl W w'):=isStage_any y _ W HI2.out
 go_wp2_with fail
 refine CI.out.mono ?_
 rintro e W2 ⟨rfl,hb2⟩
 have HX2:=hblk HX hb2
 have HQ2:=hblk HQ hb2
 have HM2:Hid (MapR W2 wb m g):=HM.out.below hb2
 have HH2:Hid (SetT W2 hb hns):=HH.out.below hb2
 have HT2:Hid (SetT W2 tb tns):=HT.out.below hb2
 have HS2:Hid (SetT W2 sb ap):=HS.out.below hb2
 have HB2:Hid (Bl w W2):=bst HA.out hb2 (Nat.le_refl _)
 have CN:Hid (∀ b r,Cs 145 #[.pointer (some ⟨cb,0,none⟩),.bool b,.int .i64 r] W2 fun e w'=>w'=W2∧((b=true∧e=.returned (.tuple #[]))∨(b=false∧e=.panicked [pf r th]))):=need_two (HQ2.out.cell 6 rfl)
 clear hb2 CI HX HQ HM HH HT HS HA HI2 x0 x1 x2 x3 x4 x5 x6 x7 x8 x9 x10 x11 x12
 go_wp2_with fail
 refine(CN.out _ _).mono ?_
 rintro e w2 ⟨hw2,hh⟩
 obtain rfl:=Eq.symm hw2
 rcases hh with⟨hq,rfl⟩|⟨hq,rfl⟩
 case inr=>
  have HE:Hid (R=75):=by show _=_;rw[HRR.out,if_pos hq]
  clear hq
  go_wp2
  exact⟨rfl,Kept.of_below HB2.out,by rw[HE.out];exact .inr ⟨by decide,rfl⟩,by rw[HE.out];intro h;cases h⟩
 case inl=>
  have HRR2:Hid (R=if y.kind=1 then(if hasT tns y.table=false then 72 else if hasT ap y.table=true then 71 else 0) else if y.kind=2 then testE (hasT hns) (fun r=>(g r).getD 0) y.test else 0):=by show _=_;rw[HRR.out,if_neg (by rw[hq];decide)]
  clear hq HRR CN
  have CY:Hid (∀ r w,Cs 145 #[.pointer (some ⟨cb,0,none⟩),.bool true,.int .i64 r] w fun e w'=>e=.returned (.tuple #[])∧w'=w):=fun r w=>need_yes cb r w
  have CNo:Hid (∀ r k,Cs 145 #[.pointer (some ⟨cb,0,none⟩),.bool false,.int .i64 r] (W2.drewN k) fun e w'=>e=.panicked [pf r th]∧w'=W2.drewN k):=fun r k=>need_no cb r th (W2.drewN k) (HQ2.out.cell 6 rfl)
  have HKd:Hid (∀ k,Kept (fun k=>k=sb) w (W2.drewN k)):=fun k=>Kept.of_below ⟨HB2.out.os,HB2.out.tape,HB2.out.output,HB2.out.size,HB2.out.block⟩
  have x0:=HX2.out.cell 0 (v:=.int .i64 y.kind) rfl
  have x1:=HX2.out.cell 1 (v:=.string y.table) rfl
  by_cases hk1:y.kind=1
  ·have HE0:Hid (R=if hasT tns y.table=false then 72 else if hasT ap y.table=true then 71 else 0):=by show _=_;rw[HRR2.out,if_pos hk1]
   have HAp2:Hid (AP=y.table :: ap):=by show _=_;rw[HAp.out,if_pos hk1]
   have q10:=HQ2.out.cell 10 (v:=.map (some tb)) rfl
   have CH:Hid (∀ k,Cs 198 #[.map (some tb),.string y.table] (W2.drewN k) fun e w'=>e=.returned (.bool (hasT tns y.table))∧w'=W2.drewN k):=fun k=>has_any (w:=W2.drewN k) HT2.out y.table HOKt.out
   rw[hk1] at x0
   clear HRR2 hk1 HAp
   go_upto_region 4 with fail
   cases hhq:hasT tns y.table with
   | false=>
    rw[hhq] at CH
    have HE:Hid (R=72):=by show _=_;rw[HE0.out,if_pos hhq]
    clear HE0 hhq
    refine region_ends_lit (by kernel_rfl) (by kernel_rfl) (by kernel_rfl) rfl ?_
    simp only[swapLast,stand]
    repeat (go_big_quiet_step ((go_at_call 198;exact Calls.quiet_of_same (CH.out _))))
    refine wpQuiet_nil ?_
    intro wq hwq Kq
    obtain⟨kq,hwq⟩:=hwq
    subst hwq
    unfold Oper.wp
    go_simp
    refine(CNo.out _ _).mono ?_
    rintro e w1 ⟨rfl,hw1⟩
    rw[hw1]
    exact⟨rfl,HKd.out _,by rw[HE.out];exact .inr ⟨by decide,rfl⟩,by rw[HE.out];intro h;cases h⟩
   | true=>
    rw[hhq] at CH
    have HE1:Hid (R=if hasT ap y.table=true then 71 else 0):=by show _=_;rw[HE0.out,if_neg (by rw[hhq];decide)]
    clear HE0 hhq
    go_quiet (first
      | (go_at_call 198; exact Calls.quiet_of_same (CH.out _))
      | (go_at_call 145; exact Calls.quiet_of_same (CY.out _ _)))
    have HX3:Hid (Blk (W2.drewN nq) xb (sgA y ta tc ea ec) 127):=HX2.out
    have HQ3:Hid (Blk (W2.drewN nq) cb (ChkC v0 v1 v2 v3 v4 v5 th (.map (some wb)) (.map (some hb)) ac (.map (some tb))) 110):=HQ2.out
    have HS3:Hid (SetT (W2.drewN nq) sb ap):=HS2.out
    have HK3:Hid (Kept (fun k=>k=sb) w (W2.drewN nq)):=HKd.out nq
    generalize W2.drewN nq=W3 at HX3 HQ3 HS3 HK3 ⊢
    clear CH CY CNo HKd HX2 HQ2 HM2 HH2 HT2 HS2 HB2 x0 x1 q10
    have x1:=HX3.out.cell 1 (v:=.string y.table) rfl
    have CN:Hid (∀ b r,Cs 145 #[.pointer (some ⟨cb,0,none⟩),.bool b,.int .i64 r] W3 fun e w'=>w'=W3∧((b=true∧e=.returned (.tuple #[]))∨(b=false∧e=.panicked [pf r th]))):=need_two (HQ3.out.cell 6 rfl)
    have CH2:Hid (Cs 198 #[.map (some sb),.string y.table] W3 fun e w'=>e=.returned (.bool (hasT ap y.table))∧w'=W3):=has_any HS3.out y.table HOKt.out
    go_wp2_with fail
    refine CH2.out.mono ?_
    rintro e w2 ⟨rfl,hw2⟩
    obtain rfl:=Eq.symm hw2
    go_wp2_with fail
    refine(CN.out _ _).mono ?_
    rintro e w2 ⟨hw2,hh⟩
    obtain rfl:=Eq.symm hw2
    rcases hh with⟨hq,rfl⟩|⟨hq,rfl⟩
    case inr=>
     have HE:Hid (R=71):=by show _=_;rw[HE1.out,if_pos (by simpa using hq)]
     clear hq
     go_wp2
     exact⟨rfl,HK3.out,by rw[HE.out];exact .inr ⟨by decide,rfl⟩,by rw[HE.out];intro h;cases h⟩
    case inl=>
     have HE:Hid (R=0):=by
      show _=_
      have hq':hasT ap y.table=false:=by simpa using hq
      rw[HE1.out,if_neg (by rw[hq'];decide)]
     have hSx:=HS3.out
     obtain⟨nn,gg,hmm,hgg⟩:=hSx
     have L:=hmm.len 3
     obtain⟨W4,hput,hm4,hgr⟩:=hmm.put (s:=y.table) (c:=(nn:Int)) HOKt.out
     have HS4:Hid (SetT W4 sb AP):=by
      rw[HAp2.out]
      refine⟨_,_,hm4,fun x=>?_⟩
      rw[hasT_cons]
      by_cases e:x=y.table
      ·simp[e]
      ·simp[e,hgg x]
     have HK4:Hid (Kept (fun k=>k=sb) w W4):=HK3.out.trans ⟨hgr.os,hgr.tape,hgr.output,hgr.size,fun k hk hs=>hgr.block k hk (fun e=>hs (Option.some.inj e))⟩
     clear hq hm4 hgr hmm hgg CN CH2
     go_wp2
     first|go_end0|refine bodyPost_ret (results_none rfl _ _ _) rfl ?_
     exact⟨HK4.out,by rw[HE.out];exact .inl ⟨rfl,rfl⟩,fun _=>HS4.out⟩
  ·have hk1':(y.kind==1)=false:=by simpa using hk1
   have HAp2:Hid (AP=ap):=by show _=_;rw[HAp.out,if_neg hk1]
   by_cases hk2:y.kind=2
   ·have HE0:Hid (R=testE (hasT hns) (fun r=>(g r).getD 0) y.test):=by show _=_;rw[HRR2.out,if_neg hk1,if_pos hk2]
    have z2:=HX2.out.cell 2 (v:=.int .i64 y.test.kind) rfl
    have z3:=HX2.out.cell 3 (v:=.string y.test.a.ref.head) rfl
    have z4:=HX2.out.cell 4 (v:=.string y.test.a.ref.name) rfl
    have z5:=HX2.out.cell 5 (v:=.int .u64 (hiOf y.test.a.const)) rfl
    have z6:=HX2.out.cell 6 (v:=.int .u64 (loOf y.test.a.const)) rfl
    have z7:=HX2.out.cell 7 (v:=.string y.test.b.ref.head) rfl
    have z8:=HX2.out.cell 8 (v:=.string y.test.b.ref.name) rfl
    have z9:=HX2.out.cell 9 (v:=.int .u64 (hiOf y.test.b.const)) rfl
    have z10:=HX2.out.cell 10 (v:=.int .u64 (loOf y.test.b.const)) rfl
    have CT:Hid (Cs 207 #[.pointer (some ⟨cb,0,none⟩),.agg (TstC y.test)] W2 fun e w'=>Bl W2 w'∧Res (testE (hasT hns) (fun r=>(g r).getD 0) y.test) th e):=checkTest_any W2 cb wb hb m g hns _ _ _ _ _ _ _ _ _ y.test HOK.out HQ2.out HM2.out HH2.out
    rw[hk2] at x0
    clear HRR2 hk1 hk2 HAp hk1' CNo CY HKd
    generalize testE (hasT hns) (fun r=>(g r).getD 0) y.test=tE at*
    go_wp2_with fail
    refine CT.out.mono ?_
    rintro e W3 ⟨hb3,hres⟩
    have HB3:Hid (Bl w W3):=bst HB2.out hb3 (Nat.le_refl _)
    have HS3:Hid (SetT W3 sb AP):=by rw[HAp2.out];exact HS2.out.below hb3
    clear hb3 CT
    rcases hres with⟨hE,rfl⟩|⟨hE,rfl⟩
    ·have HE:Hid (R=0):=by show _=_;rw[HE0.out,hE]
     clear hE
     go_wp2
     first|go_end0|refine bodyPost_ret (results_none rfl _ _ _) rfl ?_
     exact⟨Kept.of_below HB3.out,by rw[HE.out];exact .inl ⟨rfl,rfl⟩,fun _=>HS3.out⟩
    ·have HE:Hid (tE≠0):=hE
     clear hE
     go_wp2
     exact⟨rfl,Kept.of_below HB3.out,by rw[HE0.out];exact .inr ⟨HE.out,rfl⟩,by rw[HE0.out];intro h;exact absurd h HE.out⟩
   ·have hk2':(y.kind==2)=false:=by simpa using hk2
    have HE:Hid (R=0):=by show _=_;rw[HRR2.out,if_neg hk1,if_neg hk2]
    have HS3:Hid (SetT W2 sb AP):=by rw[HAp2.out];exact HS2.out
    clear HRR2 hk1 hk2 HAp CNo CY HKd
    go_wp2
    first|go_end0|refine bodyPost_ret (results_none rfl _ _ _) rfl ?_
    exact⟨Kept.of_below HB2.out,by rw[HE.out];exact .inl ⟨rfl,rfl⟩,fun _=>HS3.out⟩
abbrev tCtl:ByteArray:=⟨#[99,111,110,116,114,111,108]⟩
def ctlStp (hh hT:ByteArray→Bool)(W:Rf→Int)(ap:List ByteArray)(y:Stg)(d:Int):Except PanicEntry (Bool × List ByteArray):=if stgE hh hT W ap y=0 then .ok (true,stgA ap y) else .error (pf (stgE hh hT W ap y) tCtl)
def intV:Option Value→Int
 | some (.int _ c)=>c
 | _=>0
def strV:Option Value→ByteArray
 | some (.string s)=>s
 | _=>⟨#[]⟩
def aggV:Value→Array Value
 | .iface _ (.agg cs)=>cs
 | _=>#[]
def fOf (p:PanicEntry):Int × ByteArray:=(intV ((aggV p.v)[0]?),strV ((aggV p.v)[1]?))
theorem fOf_pf (c:Int)(th:ByteArray):fOf (pf c th)=(c,th):=rfl
def controlE (hh hT:ByteArray→Bool)(W:Rf→Int)(xs:List Stg):Option (Int × ByteArray):=if sizeE xs≠0 then some (sizeE xs,tCtl) else match wlkL (ctlStp hh hT W) xs 1 [] with
 | .ok _=>none
 | .error p=>some (fOf p)
structure CtlI (w0 wk:World)(cb wb hb tb m sb p1 p2:Nat)(g:Rf→Option Int)(hns tns:List ByteArray)(cs:Array Value)(ap:List ByteArray)(w:World):Prop where
 below:Below w0.heap.size w0 w
 kept:Below wk.heap.size wk w
 q:Blk w cb cs 110
 mr:MapR w wb m g
 hs:SetT w hb hns
 ts:SetT w tb tns
 ss:SetT w sb ap
 c1:Blk w p1 #[.pointer (some ⟨cb,0,none⟩)] 106
 c2:Blk w p2 #[.map (some sb)] 108
theorem ctl1_any (w0 wk:World)(cb wb hb tb m sb p1 p2:Nat)(g:Rf→Option Int)(hns tns ap:List ByteArray)(v0 v1 v2 v3 v4 v5 ac:Value)(y:Stg)(cs:Array Value)(d:Int)(w:World)(hb0:wk.heap.size≤sb)(hw0:w0.heap.size≤sb)(hne:sb≠cb∧sb≠wb∧sb≠hb∧sb≠tb∧sb≠p1∧sb≠p2)
  (h:CtlI w0 wk cb wb hb tb m sb p1 p2 g hns tns (ChkC v0 v1 v2 v3 v4 v5 tCtl (.map (some wb)) (.map (some hb)) ac (.map (some tb))) ap w) (hy:StgIs w0 y cs):
  Calls Tryz.prog 155 #[.agg cs,.int .i64 d,.pointer (some ⟨p1,0,none⟩),.pointer (some ⟨p2,0,none⟩)] w fun e w'=>WOut (CtlI w0 wk cb wb hb tb m sb p1 p2 g hns tns (ChkC v0 v1 v2 v3 v4 v5 tCtl (.map (some wb)) (.map (some hb)) ac (.map (some tb)))) (CtlI w0 wk cb wb hb tb m sb p1 p2 g hns tns (ChkC v0 v1 v2 v3 v4 v5 tCtl (.map (some wb)) (.map (some hb)) ac (.map (some tb)))) (fun _ k=>k=sb) (fun p w'=>(∃ c,p=pf c tCtl)∧Below wk.heap.size wk w') ap w (ctlStp (hasT hns) (hasT tns) (fun r=>(g r).getD 0) ap y d) e w':=by
 have HIs0:=hy
 obtain⟨v1',v2',rfl,hok,hth,hel⟩:=(stgIs_iff w0 y cs).1 hy
 obtain⟨ta,tc,rfl,_⟩:=hth.slice
 obtain⟨ea,ec,rfl,_⟩:=hel.slice
 have HIs:Hid (StgIs w0 y (sgA y ta tc ea ec)):=HIs0
 have HI:Hid (CtlI w0 wk cb wb hb tb m sb p1 p2 g hns tns (ChkC v0 v1 v2 v3 v4 v5 tCtl (.map (some wb)) (.map (some hb)) ac (.map (some tb))) ap w):=h
 have HA:Hid (Bl w (w.alloc (.cells (sgA y ta tc ea ec) 127))):=(Below.refl _ _).alloc (Nat.le_refl _) _
 have HX:Hid (Blk (w.alloc (.cells (sgA y ta tc ea ec) 127)) w.heap.size (sgA y ta tc ea ec) 127):=Blk.new _ _ _
 have HC:Hid (Cs 156 #[.pointer (some ⟨cb,0,none⟩),.agg (sgA y ta tc ea ec),.map (some sb)] (w.alloc (.cells (sgA y ta tc ea ec) 127)) fun e w'=>Kept (fun k=>k=sb) (w.alloc (.cells (sgA y ta tc ea ec) 127)) w'∧Res (stgE (hasT hns) (hasT tns) (fun r=>(g r).getD 0) ap y) tCtl e∧(stgE (hasT hns) (hasT tns) (fun r=>(g r).getD 0) ap y=0→SetT w' sb (stgA ap y))):=checkStage_any _ cb wb hb tb m sb g hns tns ap _ _ _ _ _ _ _ _ y _ (HIs.out.pres (pres_below (h.below.trans (HA.out.mono h.below.size)))) (h.q.below HA.out) (h.mr.below HA.out) (h.hs.below HA.out) (h.ts.below HA.out) (h.ss.below HA.out)
 have a1:=(h.c1.below HA.out).cell 0 (v:=.pointer (some ⟨cb,0,none⟩)) rfl
 have a2:=(h.c2.below HA.out).cell 0 (v:=.map (some sb)) rfl
 have HR:Hid (ctlStp (hasT hns) (hasT tns) (fun r=>(g r).getD 0) ap y d=if stgE (hasT hns) (hasT tns) (fun r=>(g r).getD 0) ap y=0 then .ok (true,stgA ap y) else .error (pf (stgE (hasT hns) (hasT tns) (fun r=>(g r).getD 0) ap y) tCtl)):=rfl
 have HOL:Hid (∀ w',Kept (fun k=>k=sb) (w.alloc (.cells (sgA y ta tc ea ec) 127)) w'→Kept (fun k=>k=sb) w w'∧(∀ ap',SetT w' sb ap'→CtlI w0 wk cb wb hb tb m sb p1 p2 g hns tns (ChkC v0 v1 v2 v3 v4 v5 tCtl (.map (some wb)) (.map (some hb)) ac (.map (some tb))) ap' w')∧Bl wk w'):=by
  show ∀ w',_→_
  intro w' hk
  have hkw:Kept (fun k=>k=sb) w w':=(Kept.of_below HA.out).trans hk
  have hB1:Below w0.heap.size w0 w':=h.below.trans (hkw.below h.below.size (fun k e=>by omega))
  have hB2:Below wk.heap.size wk w':=h.kept.trans (hkw.below h.kept.size (fun k e=>by omega))
  obtain⟨n1,n2,n3,n4,n5,n6⟩:=hne
  exact⟨hkw,fun ap' hs=>⟨hB1,hB2,h.q.kept hkw (fun e=>n1 e.symm),h.mr.kept hkw (fun e=>n2 e.symm),h.hs.kept hkw (fun e=>n3 e.symm),h.ts.kept hkw (fun e=>n4 e.symm),hs,h.c1.kept hkw (fun e=>n5 e.symm),h.c2.kept hkw (fun e=>n6 e.symm)⟩,hB2⟩
 generalize ctlStp (hasT hns) (hasT tns) (fun r=>(g r).getD 0) ap y d=R at*
 generalize stgE (hasT hns) (hasT tns) (fun r=>(g r).getD 0) ap y=sE at*
 clear h hy hok hth hel HIs0 hne
 go_enter Tryz.func155,Tryz.ntmps155
 go_upto_region 1 with fail
 generalize (w.alloc _)=W1 at HX HC HOL a1 a2 ⊢
 obtain⟨xb,hxb⟩:∃ xb,xb=w.heap.size:=⟨_,rfl⟩
 rw[← hxb] at HX ⊢
 clear hxb
 obtain⟨x0,x1,x2,x3,x4,x5,x6,x7,x8,x9,x10,x11,x12⟩:=HX.out.c13
 go_wp2_with fail
 refine HC.out.mono ?_
 rintro e W2 ⟨hk2,hres,hset⟩
 obtain⟨k1,k2,k3⟩:=HOL.out W2 hk2
 have HK:Hid (Kept (fun k=>k=sb) w W2):=k1
 have HB:Hid (Bl wk W2):=k3
 rcases hres with⟨hE,rfl⟩|⟨hE,rfl⟩
 ·have HJ:Hid (CtlI w0 wk cb wb hb tb m sb p1 p2 g hns tns (ChkC v0 v1 v2 v3 v4 v5 tCtl (.map (some wb)) (.map (some hb)) ac (.map (some tb))) (stgA ap y) W2):=k2 _ (hset hE)
  have HE:Hid (R=.ok (true,stgA ap y)):=by show _=_;rw[HR.out,if_pos hE]
  clear hE k1 k2 k3 hk2 hset HR HC HOL
  go_wp2
  go_ret
  rw[HE.out]
  exact⟨rfl,fun _=>HJ.out,HJ.out,HK.out,fun k h=>.inl h⟩
 ·have HE:Hid (R=.error (pf sE tCtl)):=by show _=_;rw[HR.out,if_neg hE]
  clear hE k1 k2 k3 hk2 hset HR HC HOL
  go_wp2
  exact⟨rfl,by rw[HE.out];exact⟨rfl,⟨_,rfl⟩,HB.out⟩⟩
theorem checkControl_any (w0 w:World)(cb wb hb tb m:Nat)(g:Rf→Option Int)(hns tns:List ByteArray)(v0 v1 v2 v3 v4 v ac:Value)(th:ByteArray)(xs:List Stg)(hr:StgRow w0 v xs)(hw:Below w0.heap.size w0 w)(hcb:w0.heap.size≤cb)(hB:Blk w cb (ChkC v0 v1 v2 v3 v4 v th (.map (some wb)) (.map (some hb)) ac (.map (some tb))) 110)(hW:MapR w wb m g)(hH:SetT w hb hns)(hT:SetT w tb tns):
  Calls Tryz.prog 70 #[.pointer (some ⟨cb,0,none⟩)] w fun e w'=>Below w0.heap.size w0 w'∧Fnd (controlE (hasT hns) (hasT tns) (fun r=>(g r).getD 0) xs) e:=by
 obtain⟨ad,cap,rfl,_⟩:=hr.slice
 have HR:Hid (StgRow w0 (.slice ad xs.length cap) xs):=hr
 have HW0:Hid (Bl w0 w):=hw
 have hhb:hb≠cb:=mapBlk hH hB
 have hwb:wb≠cb:=mapBlkR hW hB
 have htb:tb≠cb:=mapBlk hT hB
 have HRR : Hid (controlE (hasT hns) (hasT tns) (fun r => (g r).getD 0) xs = if sizeE xs ≠ 0 then some (sizeE xs, tCtl) else match wlkL (ctlStp (hasT hns) (hasT tns) (fun r => (g r).getD 0)) xs 1 [] with
   | .ok _ => none
   | .error p => some (fOf p)) := rfl
 generalize controlE (hasT hns) (hasT tns) (fun r=>(g r).getD 0) xs=R at*
 have HA:Hid (Bl w (w.alloc (.cells #[.pointer (some ⟨cb,0,none⟩)] 106))):=(Below.refl _ _).alloc (Nat.le_refl _) _
 have HP:Hid (Blk (w.alloc (.cells #[.pointer (some ⟨cb,0,none⟩)] 106)) w.heap.size #[.pointer (some ⟨cb,0,none⟩)] 106):=Blk.new _ _ _
 have HQ:Hid (Blk (w.alloc (.cells #[.pointer (some ⟨cb,0,none⟩)] 106)) cb (ChkC v0 v1 v2 v3 v4 (.slice ad xs.length cap) th (.map (some wb)) (.map (some hb)) ac (.map (some tb))) 110):=hB.below HA.out
 have HM:Hid (MapR (w.alloc (.cells #[.pointer (some ⟨cb,0,none⟩)] 106)) wb m g):=hW.below HA.out
 have HH:Hid (SetT (w.alloc (.cells #[.pointer (some ⟨cb,0,none⟩)] 106)) hb hns):=hH.below HA.out
 have HT:Hid (SetT (w.alloc (.cells #[.pointer (some ⟨cb,0,none⟩)] 106)) tb tns):=hT.below HA.out
 have hcl:=hB.lt
 clear hr hB hW hH hT hw
 have hmm:=@run_makeMap Tryz.prog
 have hmf:=mf
 go_enter Tryz.func70,Tryz.ntmps70
 go_upto_region 1 with fail
 generalize (w.alloc _)=W1 at HA HP HQ HM HH HT ⊢
 obtain⟨pb,hpb⟩:∃ pb,pb=w.heap.size:=⟨_,rfl⟩
 have hpw:w.heap.size≤pb:=by omega
 rw[← hpb] at HP hcl ⊢
 clear hpb
 have p0:=HP.out.cell 0 (v:=.pointer (some ⟨cb,0,none⟩)) rfl
 have c6:=HQ.out.cell 6 (v:=.string th) rfl
 have f6:=HQ.out.frozen 6
 go_upto_region 2 with fail
 have HKz:Hid (Kept (fun k=>k=cb) W1 (W1.setCell ⟨cb,6,none⟩ (.string ⟨#[99,111,110,116,114,111,108]⟩))):=Kept.set (S:=fun k=>k=cb) (Kept.refl _ _) rfl _
 have HQ2:Hid (Blk (W1.setCell ⟨cb,6,none⟩ (.string ⟨#[99,111,110,116,114,111,108]⟩)) cb (ChkC v0 v1 v2 v3 v4 (.slice ad xs.length cap) tCtl (.map (some wb)) (.map (some hb)) ac (.map (some tb))) 110):=HQ.out.set 6 (.string ⟨#[99,111,110,116,114,111,108]⟩)
 generalize (W1.setCell ⟨cb,6,none⟩ (.string ⟨#[99,111,110,116,114,111,108]⟩))=W2 at HKz HQ2 ⊢
 have HP2:Hid (Blk W2 pb #[.pointer (some ⟨cb,0,none⟩)] 106):=HP.out.kept HKz.out (by show ¬ _=_;omega)
 have HM2:Hid (MapR W2 wb m g):=HM.out.kept HKz.out hwb
 have HH2:Hid (SetT W2 hb hns):=HH.out.kept HKz.out hhb
 have HT2:Hid (SetT W2 tb tns):=HT.out.kept HKz.out htb
 have HB2:Hid (Bl w0 W2):=by
  have h1:Below w0.heap.size w0 W1:=HW0.out.trans (HA.out.mono HW0.out.size)
  exact h1.trans (HKz.out.below h1.size (fun k e=>by omega))
 clear HP HQ HM HH HT HA HKz p0 c6 f6
 have p0:=HP2.out.cell 0 (v:=.pointer (some ⟨cb,0,none⟩)) rfl
 have d5:=HQ2.out.cell 5 (v:=.slice ad xs.length cap) rfl
 have CS:Hid (Cs 84 #[.slice ad xs.length cap] W2 fun e w'=>e=.returned (.int .i64 (sizeE xs))∧Bl W2 w'):=size_any _ xs W2 (HR.out.pres (pres_below HB2.out))
 go_wp2_with fail
 refine CS.out.mono ?_
 rintro e W3 ⟨rfl,hb3⟩
 have HP3:=hblk HP2 hb3
 have HQ3:=hblk HQ2 hb3
 have HM3:Hid (MapR W3 wb m g):=HM2.out.below hb3
 have HH3:Hid (SetT W3 hb hns):=HH2.out.below hb3
 have HT3:Hid (SetT W3 tb tns):=HT2.out.below hb3
 have HB3:Hid (Bl w0 W3):=HB2.out.trans (hb3.mono HB2.out.size)
 clear hb3 CS HP2 HQ2 HM2 HH2 HT2 HB2 p0 d5
 have p0:=HP3.out.cell 0 (v:=.pointer (some ⟨cb,0,none⟩)) rfl
 have CN:Hid (∀ b r,Cs 145 #[.pointer (some ⟨cb,0,none⟩),.bool b,.int .i64 r] W3 fun e w'=>w'=W3∧((b=true∧e=.returned (.tuple #[]))∨(b=false∧e=.panicked [pf r tCtl]))):=need_two (HQ3.out.cell 6 rfl)
 generalize sizeE xs=sE at*
 go_wp2_with fail
 refine(CN.out _ _).mono ?_
 rintro e w2 ⟨hw2,hh⟩
 obtain rfl:=Eq.symm hw2
 rcases hh with⟨hq,rfl⟩|⟨hq,rfl⟩
 case inr=>
  have hE:sE≠0:=by simpa using hq
  have HE:Hid (R=some (sE,tCtl)):=by show _=_;rw[HRR.out,if_pos hE]
  clear hq hE
  go_wp2
  exact⟨rfl,HB3.out,.inr ⟨_,_,HE.out,rfl⟩⟩
 case inl=>
  have hE:sE=0:=by simpa using hq
  have HRR2:Hid (R=match wlkL (ctlStp (hasT hns) (hasT tns) (fun r=>(g r).getD 0)) xs 1 [] with|.ok _=>none|.error p=>some (fOf p)):=by show _=_;rw[HRR.out,if_neg (by rw[hE];simp)]
  clear hq hE HRR CN
  go_upto_region 5 with fail
  have HA4:Hid (Below W3.heap.size W3 ((W3.alloc (.map #[] 0)).alloc (.cells #[.map (some W3.heap.size)] 108))):=((Below.refl _ _).alloc (Nat.le_refl _) _).alloc (by simp) _
  have HS4:Hid (SetT ((W3.alloc (.map #[] 0)).alloc (.cells #[.map (some W3.heap.size)] 108)) W3.heap.size []):=(SetT.new W3).below ((Below.refl _ _).alloc (Nat.le_refl _) _)
  have HC4:Hid (Blk ((W3.alloc (.map #[] 0)).alloc (.cells #[.map (some W3.heap.size)] 108)) (W3.heap.size+1) #[.map (some W3.heap.size)] 108):=by
   have:=Blk.new (W3.alloc (.map #[] 0)) #[.map (some W3.heap.size)] 108
   show Blk _ _ _ _
   simpa using this
  have l1:=HP3.out.lt
  have l2:=HQ3.out.lt
  have l3:=HM3.out.lt
  have l4:=HH3.out.lt
  have l5:=HT3.out.lt
  have l6:=HB3.out.size
  obtain⟨sb,hsb⟩:∃ sb,sb=W3.heap.size:=⟨_,rfl⟩
  rw[← hsb] at HA4 HS4 HC4 l1 l2 l3 l4 l5 l6 ⊢
  have HA5:Hid (Below W3.heap.size W3 ((W3.alloc (.map #[] 0)).alloc (.cells #[.map (some sb)] 108))):=by rw[← hsb];exact HA4.out
  generalize ((W3.alloc (.map #[] 0)).alloc _)=W4 at HA4 HA5 HS4 HC4 ⊢
  have HP4:Hid (Blk W4 pb #[.pointer (some ⟨cb,0,none⟩)] 106):=HP3.out.below HA5.out
  have HQ4:Hid (Blk W4 cb (ChkC v0 v1 v2 v3 v4 (.slice ad xs.length cap) tCtl (.map (some wb)) (.map (some hb)) ac (.map (some tb))) 110):=HQ3.out.below HA5.out
  have HB4:Hid (Bl w0 W4):=HB3.out.trans (HA5.out.mono HB3.out.size)
  have CW:Hid (Cs 85 #[.slice ad xs.length cap,.int .i64 1,.func (.func 155) #[] #[.pointer (some ⟨pb,0,none⟩),.pointer (some ⟨sb+1,0,none⟩)]] W4 fun e w'=>WOut (CtlI w0 w0 cb wb hb tb m sb pb (sb+1) g hns tns (ChkC v0 v1 v2 v3 v4 (.slice ad xs.length cap) tCtl (.map (some wb)) (.map (some hb)) ac (.map (some tb)))) (CtlI w0 w0 cb wb hb tb m sb pb (sb+1) g hns tns (ChkC v0 v1 v2 v3 v4 (.slice ad xs.length cap) tCtl (.map (some wb)) (.map (some hb)) ac (.map (some tb)))) (fun _ k=>k=sb) (fun p w'=>(∃ c,p=pf c tCtl)∧Bl w0 w') [] W4 (wlkL (ctlStp (hasT hns) (hasT tns) (fun r=>(g r).getD 0)) xs 1 []) e w'):=by
   refine walk155_any _ _ (fun _ _ h=>h) (fun _ k=>k=sb) _ (ctlStp (hasT hns) (hasT tns) (fun r=>(g r).getD 0)) w0 _ _ ?_ ?_ ?_ ?_ (szL xs) xs _ 1 [] W4 (Nat.le_refl _) HR.out ⟨HB4.out,HB4.out,HQ4.out,HM3.out.below HA5.out,HH3.out.below HA5.out,HT3.out.below HA5.out,HS4.out,HP4.out,HC4.out⟩
   ·intro s a b h hb1
    exact⟨h.below.trans (hb1.mono h.below.size),h.kept.trans (hb1.mono h.kept.size),h.q.below hb1,h.mr.below hb1,h.hs.below hb1,h.ts.below hb1,h.ss.below hb1,h.c1.below hb1,h.c2.below hb1⟩
   ·intro s a h
    exact pres_below h.below
   ·intro s a k h hk
    rw[hk];exact h.ss.lt
   ·intro s a x cs d h hx
    exact ctl1_any w0 w0 cb wb hb tb m sb pb (sb+1) g hns tns s _ _ _ _ _ _ _ x cs d a (by omega) (by omega) ⟨by omega,by omega,by omega,by omega,by omega,by omega⟩ h hx
  generalize wlkL (ctlStp (hasT hns) (hasT tns) (fun r=>(g r).getD 0)) xs 1 []=r at*
  clear hsb HA4 HA5 HP3 HQ3 HM3 HH3 HT3 HB3 HS4 HC4 p0 hmm
  have p0:=HP4.out.cell 0 (v:=.pointer (some ⟨cb,0,none⟩)) rfl
  have d5:=HQ4.out.cell 5 (v:=.slice ad xs.length cap) rfl
  go_wp2_with fail
  refine CW.out.mono ?_
  intro e W5 hout
  cases r with
  | error p=>
   obtain⟨rfl,⟨c,rfl⟩,hb5⟩:=hout
   have HB5:Hid (Bl w0 W5):=hb5
   have HE:Hid (R=some (c,tCtl)):=by show _=_;rw[HRR2.out];rfl
   clear hb5 CW
   go_wp2
   exact⟨rfl,HB5.out,.inr ⟨_,_,HE.out,rfl⟩⟩
  | ok bs=>
   obtain⟨bb,s5⟩:=bs
   obtain⟨rfl,_,hJ,_⟩:=hout
   have HB5:Hid (Bl w0 W5):=hJ.below
   have HE:Hid (R=none):=by show _=_;rw[HRR2.out]
   clear hJ CW
   go_wp2
   first|go_end0|refine bodyPost_ret (results_none rfl _ _ _) rfl ?_
   exact⟨HB5.out,.inl ⟨HE.out,rfl⟩⟩
end Go.Proofs.YtmbpclknhkbbkaaGreat
