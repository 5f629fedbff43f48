/- Package schema's checker: checkState. -/
import Derived.Test.YtmbpclknhkbbkaaGreatB32
import Derived.Test.YtmbpclknhkbbkaaGreatB00
set_option linter.unusedSimpArgs false
set_option linter.unusedVariables false
set_option maxHeartbeats 4000000
set_option maxRecDepth 100000
namespace Go.Proofs.YtmbpclknhkbbkaaGreat
open Go.RowKit
theorem run_ne42 (x y:Rf)(w:World):(binOp .neq 42 (.agg #[.string x.head,.string x.name]) (.agg #[.string y.head,.string y.name])).run Tryz.prog w=.ok (.bool (!decide (x=y))) w:=by
 simp only[binOp]
 simp[Op.equal,Op.maxDepth,eqInR 9998]
def casesE (wd:Int)(nb:ByteArray→Bool):List Cas→List (Nat × Nat)→Int
 |[],_=>0
 | c :: cs,seen=>if(fitsN c.mask wd&&decide (c.value &&& c.mask=c.value))=false then 73 else if seen.contains (c.value,c.mask)=true then 71 else if nb c.next=false then 72 else casesE wd nb cs ((c.value,c.mask) :: seen)
theorem cases_step {wd:Int}{nb:ByteArray→Bool}{cs:List Cas}{i:Nat}{c:Cas}(hk:cs[i]?=some c)(seen:List (Nat × Nat)):casesE wd nb (cs.drop i) seen=if(fitsN c.mask wd&&decide (c.value &&& c.mask=c.value))=false then 73 else if seen.contains (c.value,c.mask)=true then 71 else if nb c.next=false then 72 else casesE wd nb (cs.drop (i+1)) ((c.value,c.mask) :: seen):=by
 obtain⟨h,e⟩:=List.getElem?_eq_some_iff.1 hk
 rw[List.drop_eq_getElem_cons h,e,casesE]
def stateE (hh:ByteArray→Bool)(wd:Rf→Int)(nb:ByteArray→Bool)(x:Sta):Int:=
 if hh x.header=false then 72 else if(decide (x.on=zeroR)||decide (0<wd x.on))=false then 72 else if 32<x.cases.length then 74
 else if x.on=zeroR∧x.cases.length≠0 then 75 else if casesE (wd x.on) nb x.cases []≠0 then casesE (wd x.on) nb x.cases [] else if nb x.next=false then 72 else 0
abbrev StaV (x:Sta)(ca:Option Addr)(cl cc:Nat):Array Value:=#[.string x.name,.string x.header,.string x.on.head,.string x.on.name,.slice ca cl cc,.string x.next]
theorem checkState_any (w:World)(cb hb wb ab m n:Nat)(g:Rf→Option Int)(ga:ByteArray→Option Int)(hns:List ByteArray)(v0 v1 v2 v3 v4 v5 ac tb:Value)(th:ByteArray)(x:Sta)(cs:Array Value)(hI:StaIs w cs x)
  (hB:Blk w cb (ChkC v0 v1 v2 v3 v4 v5 th (.map (some wb)) (.map (some hb)) ac tb) 110) (hH:SetT w hb hns) (hW:MapR w wb m g) (hA:MapT w ab n ga):
  Calls Tryz.prog 150 #[.pointer (some ⟨cb,0,none⟩),.agg cs,.map (some ab)] w fun e w'=>Below w.heap.size w w'∧Res (stateE (hasT hns) (fun r=>(g r).getD 0) (nextB ga) x) th e:=by
 obtain⟨v,rfl,⟨ok1,ok2,ok3,ok4,ok5⟩,hr⟩:=hI
 obtain⟨ca,cc,rfl,_⟩:=hr.1.slice
 have hlen:x.cases.length*48≤140737488351232:=hr.2
 have HR:Hid (CasRow w (.slice ca x.cases.length cc) x.cases):=hr
 have HRR : Hid (stateE (hasT hns) (fun r => (g r).getD 0) (nextB ga) x = if hasT hns x.header = false then 72 else if (decide (x.on = zeroR) || decide (0 < (g x.on).getD 0)) = false then 72 else if 32 < x.cases.length then 74
   else if x.on = zeroR ∧ x.cases.length ≠ 0 then 75 else if casesE ((g x.on).getD 0) (nextB ga) x.cases [] ≠ 0 then casesE ((g x.on).getD 0) (nextB ga) x.cases [] else if nextB ga x.next = false then 72 else 0) := by show _ = _; rfl
 generalize stateE (hasT hns) (fun r=>(g r).getD 0) (nextB ga) x=R at*
 obtain⟨cl,hcl⟩:∃ cl,cl=x.cases.length:=⟨_,rfl⟩
 have HCL:Hid (cl=x.cases.length):=hcl
 rw[← hcl] at hlen HR HRR ⊢
 have HA:Hid (Bl w (w.alloc (.cells (StaV x ca cl cc) 98))):=(Below.refl _ _).alloc (Nat.le_refl _) _
 have HX:Hid (Blk (w.alloc (.cells (StaV x ca cl cc) 98)) w.heap.size (StaV x ca cl cc) 98):=Blk.new _ _ _
 have HQ:Hid (Blk (w.alloc (.cells (StaV x ca cl cc) 98)) cb (ChkC v0 v1 v2 v3 v4 v5 th (.map (some wb)) (.map (some hb)) ac tb) 110):=hB.below HA.out
 have HSH:Hid (SetT (w.alloc (.cells (StaV x ca cl cc) 98)) hb hns):=hH.below HA.out
 have HMW:Hid (MapR (w.alloc (.cells (StaV x ca cl cc) 98)) wb m g):=hW.below HA.out
 have HMA:Hid (MapT (w.alloc (.cells (StaV x ca cl cc) 98)) ab n ga):=hA.below HA.out
 have hal:=hA.lt
 have hcbl:=hB.lt
 have hwbl:=hW.lt
 clear hr hcl hB hH hW hA
 unfold StaV at*
 have hmm:=@run_makeMap Tryz.prog
 go_enter Tryz.func150,Tryz.ntmps150
 go_upto_region 1 with fail
 generalize (w.alloc _)=W at HA HX HQ HSH HMW HMA ⊢
 obtain⟨xb,hxb⟩:∃ xb,xb=w.heap.size:=⟨_,rfl⟩
 have HXB:Hid (w.heap.size=xb):=hxb.symm
 rw[← hxb] at HX hal hcbl hwbl ⊢
 clear hxb
 have q7:=HQ.out.cell 7 (v:=.map (some wb)) rfl
 have q8:=HQ.out.cell 8 (v:=.map (some hb)) rfl
 have x1:=HX.out.cell 1 (v:=.string x.header) rfl
 have x2:=HX.out.cell 2 (v:=.string x.on.head) rfl
 have x3:=HX.out.cell 3 (v:=.string x.on.name) rfl
 have x4:=HX.out.cell 4 (v:=.slice ca cl cc) rfl
 have x5:=HX.out.cell 5 (v:=.string x.next) rfl
 have CH:Hid (∀ k,Cs 198 #[.map (some hb),.string x.header] (W.drewN k) fun e w'=>e=.returned (.bool (hasT hns x.header))∧w'=W.drewN k):=fun k=>has_any (w:=W.drewN k) HSH.out x.header ok2
 have CY:Hid (∀ r w,Cs 145 #[.pointer (some ⟨cb,0,none⟩),.bool true,.int .i64 r] w fun e w'=>e=.returned (.tuple #[])∧w'=w):=fun r w=>need_yes cb r w
 have CNo:Hid (∀ r k,Cs 145 #[.pointer (some ⟨cb,0,none⟩),.bool false,.int .i64 r] (W.drewN k) fun e w'=>e=.panicked [pf r th]∧w'=W.drewN k):=fun r k=>need_no cb r th (W.drewN k) (HQ.out.cell 6 rfl)
 cases hhq:hasT hns x.header with
 | false=>
  rw[hhq] at CH
  have HE:Hid (R=72):=by show _=_;rw[HRR.out,if_pos hhq]
  have HBd:Hid (∀ k,Bl w (W.drewN k)):=fun k=>⟨HA.out.os,HA.out.tape,HA.out.output,HA.out.size,HA.out.block⟩
  clear HRR hhq
  refine region_ends_lit (by kernel_rfl) (by kernel_rfl) (by kernel_rfl) rfl ?_
  simp only[swapLast,stand]
  repeat (go_big_quiet_step ((go_at_call 198;exact Calls.quiet_of_same (CH.out _))))
  refine wpQuiet_nil ?_
  intro wq hwq Kq
  obtain⟨kq,hwq⟩:=hwq
  subst hwq
  unfold Oper.wp
  go_simp
  refine(CNo.out _ _).mono ?_
  rintro e w1 ⟨rfl,hw1⟩
  rw[hw1]
  exact⟨rfl,HBd.out _,by rw[HE.out];exact .inr ⟨by decide,rfl⟩⟩
 | true=>
  rw[hhq] at CH
  have HRR2 : Hid (R = if (decide (x.on = zeroR) || decide (0 < (g x.on).getD 0)) = false then 72 else if 32 < cl then 74
    else if x.on = zeroR ∧ cl ≠ 0 then 75 else if casesE ((g x.on).getD 0) (nextB ga) x.cases [] ≠ 0 then casesE ((g x.on).getD 0) (nextB ga) x.cases [] else if nextB ga x.next = false then 72 else 0) := by show _ = _; rw [HRR.out, if_neg (by rw [hhq]; decide)]
  clear HRR hhq
  go_quiet (first
    | (go_at_call 198; exact Calls.quiet_of_same (CH.out _))
    | (go_at_call 145; exact Calls.quiet_of_same (CY.out _ _)))
  have HNE:Hid (∀ w,(binOp .neq 42 (.agg #[.string x.on.head,.string x.on.name]) (.agg #[.string ⟨#[]⟩,.string ⟨#[]⟩])).run Tryz.prog w=.ok (.bool (!decide (x.on=zeroR))) w):=run_ne42 x.on zeroR
  have hne:=HNE.out
  generalize hlk:decide (x.on=zeroR)=lk at*
  go_upto_region 3 with fail
  have HX2:Hid (Blk (W.drewN nq) xb #[.string x.name,.string x.header,.string x.on.head,.string x.on.name,.slice ca cl cc,.string x.next] 98):=HX.out
  have HQ2:Hid (Blk (W.drewN nq) cb (ChkC v0 v1 v2 v3 v4 v5 th (.map (some wb)) (.map (some hb)) ac tb) 110):=HQ.out
  have HMW2:Hid (MapR (W.drewN nq) wb m g):=HMW.out
  have HMA2:Hid (MapT (W.drewN nq) ab n ga):=HMA.out
  have HA2:Hid (Bl w (W.drewN nq)):=⟨HA.out.os,HA.out.tape,HA.out.output,HA.out.size,HA.out.block⟩
  generalize W.drewN nq=W2 at HX2 HQ2 HMW2 HMA2 HA2 ⊢
  clear HX HQ HMW HMA HA HSH CH CNo q7 q8 x1 x2 x3 x4 x5 hne HNE
  have q7:=HQ2.out.cell 7 (v:=.map (some wb)) rfl
  have x2:=HX2.out.cell 2 (v:=.string x.on.head) rfl
  have x3:=HX2.out.cell 3 (v:=.string x.on.name) rfl
  have CNo:Hid (∀ r k,Cs 145 #[.pointer (some ⟨cb,0,none⟩),.bool false,.int .i64 r] (W2.drewN k) fun e w'=>e=.panicked [pf r th]∧w'=W2.drewN k):=fun r k=>need_no cb r th (W2.drewN k) (HQ2.out.cell 6 rfl)
  have hL:∀ k,(Instr.lookup 107 (.map (some wb)) (.agg #[.string x.on.head,.string x.on.name]) false).run Tryz.prog (W2.drewN k)=.ok (.int .i64 ((g x.on).getD 0)) (W2.drewN k):=fun k=>MapR.look1 (w:=W2.drewN k) HMW2.out x.on ok3 ok4
  have hL1:(Instr.lookup 107 (.map (some wb)) (.agg #[.string x.on.head,.string x.on.name]) false).run Tryz.prog W2.drew=.ok (.int .i64 ((g x.on).getD 0)) W2.drew:=MapR.look1 (w:=W2.drew) HMW2.out x.on ok3 ok4
  generalize hwv:(g x.on).getD 0=wv at*
  have HWV:Hid ((g x.on).getD 0=wv):=hwv
  clear hwv
  -- the reference's width
  go_cut [] from 24 to 37 (fun wx=>(∃ k,wx=W2.drewN k)∧(lk=true∨0<wv))
  case first=>
   have STEP:Hid (lk=true∨0<wv)∨(lk=false∧¬ 0<wv):=by
    cases lk
    ·by_cases h:0<wv
     ·exact .inl (.inr h)
     ·exact .inr ⟨rfl,h⟩
    ·exact .inl (.inl rfl)
   rcases STEP with hOK|⟨rfl,hno⟩
   case inr=>
    have HE:Hid (R=72):=by show _=_;rw[HRR2.out,if_pos (by simpa using hno)]
    have HBd:Hid (∀ k,Bl w (W2.drewN k)):=fun k=>⟨HA2.out.os,HA2.out.tape,HA2.out.output,HA2.out.size,HA2.out.block⟩
    have hd1:decide (0<wv)=false:=by simpa using hno
    have hd2:decide (wv > 0)=false:=hd1
    clear HRR2 hno
    refine region_ends_lit (by kernel_rfl) (by kernel_rfl) (by kernel_rfl) rfl ?_
    simp only[swapLast,stand]
    repeat (go_big_quiet_step (fail))
    refine wpQuiet_nil ?_
    intro wq hwq Kq
    obtain⟨kq,hwq⟩:=hwq
    subst hwq
    unfold Oper.wp
    go_simp
    refine(CNo.out _ _).mono ?_
    rintro e w1 ⟨rfl,hw1⟩
    rw[hw1]
    exact⟨rfl,HBd.out _,by rw[HE.out];exact .inr ⟨by decide,rfl⟩⟩
   case inl=>
    have hd:lk=false→decide (0<wv)=true:=fun h=>by rcases hOK.out with h'|h';rw[h] at h';cases h';simpa using h'
    cases lk with
    | true=>
     clear hd
     go_quiet ((go_at_call 145;exact Calls.quiet_of_same (CY.out _ _)))
     go_wp2_with fail
     go_meet
     exact⟨⟨_,rfl⟩,hOK.out⟩
    | false=>
     have hd1:decide (0<wv)=true:=hd rfl
     have hd2:0<wv:=by simpa using hd1
     clear hd
     go_quiet ((go_at_call 145;exact Calls.quiet_of_same (CY.out _ _)))
     go_wp2_with fail
     go_meet
     exact⟨⟨_,rfl⟩,hOK.out⟩
  case rest=>
   obtain⟨⟨kc,rfl⟩,hOK⟩:=hcut
   have HRR3:Hid (R=if 32<cl then 74 else if lk=true∧cl≠0 then 75 else if casesE wv (nextB ga) x.cases []≠0 then casesE wv (nextB ga) x.cases [] else if nextB ga x.next=false then 72 else 0):=by
    show _=_
    rw[HRR2.out,if_neg (by rcases hOK with h|h<;>simp[h])]
    have:(x.on=zeroR)↔lk=true:=by rw[← hlk];simp
    simp only[this]
   have HX:Hid (Blk (W2.drewN kc) xb #[.string x.name,.string x.header,.string x.on.head,.string x.on.name,.slice ca cl cc,.string x.next] 98):=HX2.out
   have HQ:Hid (Blk (W2.drewN kc) cb (ChkC v0 v1 v2 v3 v4 v5 th (.map (some wb)) (.map (some hb)) ac tb) 110):=HQ2.out
   have HMW:Hid (MapR (W2.drewN kc) wb m g):=HMW2.out
   have HMA:Hid (MapT (W2.drewN kc) ab n ga):=HMA2.out
   have HA:Hid (Bl w (W2.drewN kc)):=⟨HA2.out.os,HA2.out.tape,HA2.out.output,HA2.out.size,HA2.out.block⟩
   generalize W2.drewN kc=W at HX HQ HMW HMA HA ⊢
   clear HX2 HQ2 HMW2 HMA2 HA2 hL hL1 q7 x2 x3 CNo HRR2 hlk hOK CY
   have x4:=HX.out.cell 4 (v:=.slice ca cl cc) rfl
   have CN:Hid (∀ b r,Cs 145 #[.pointer (some ⟨cb,0,none⟩),.bool b,.int .i64 r] W fun e w'=>w'=W∧((b=true∧e=.returned (.tuple #[]))∨(b=false∧e=.panicked [pf r th]))):=need_two (HQ.out.cell 6 rfl)
   go_wp2_with fail
   refine(CN.out _ _).mono ?_
   rintro e w2 ⟨hw2,hh⟩
   obtain rfl:=Eq.symm hw2
   rcases hh with⟨hq,rfl⟩|⟨hq,rfl⟩
   case inr=>
    have HE:Hid (R=74):=by show _=_;rw[HRR3.out,if_pos (by simp at hq;omega)]
    go_wp2
    exact⟨rfl,HA.out,by rw[HE.out];exact .inr ⟨by decide,rfl⟩⟩
   case inl=>
    have hc32:cl≤32:=by simp at hq;omega
    have HRR4:Hid (R=if lk=true∧cl≠0 then 75 else if casesE wv (nextB ga) x.cases []≠0 then casesE wv (nextB ga) x.cases [] else if nextB ga x.next=false then 72 else 0):=by show _=_;rw[HRR3.out,if_neg (by omega)]
    clear HRR3 hq
    go_upto_region 5 with fail
    go_cut [] from 44 to 52 (fun wx=>wx=W∧¬(lk=true∧cl≠0))
    case first=>
     cases lk with
     | false=>
      go_wp2_with fail
      refine(CN.out _ _).mono ?_
      rintro e w2 ⟨hw2,hh⟩
      obtain rfl:=Eq.symm hw2
      rcases hh with⟨hq,rfl⟩|⟨hq,rfl⟩
      ·go_wp2_with fail
       go_meet
       exact⟨rfl,by simp⟩
      ·cases hq
     | true=>
      go_wp2_with fail
      refine(CN.out _ _).mono ?_
      rintro e w2 ⟨hw2,hh⟩
      obtain rfl:=Eq.symm hw2
      rcases hh with⟨hq,rfl⟩|⟨hq,rfl⟩
      ·have hz:cl=0:=by simpa using hq
       have HZ:Hid (¬(true=true∧cl≠0)):=by show ¬ _;omega
       clear hq hz
       go_wp2_with fail
       go_meet
       exact⟨rfl,HZ.out⟩
      ·have HE:Hid (R=75):=by show _=_;rw[HRR4.out,if_pos (by simpa using hq)]
       go_wp2
       exact⟨rfl,HA.out,by rw[HE.out];exact .inr ⟨by decide,rfl⟩⟩
    case rest=>
     obtain⟨rfl,hnz⟩:=hcut
     have HRR5:Hid (R=if casesE wv (nextB ga) x.cases []≠0 then casesE wv (nextB ga) x.cases [] else if nextB ga x.next=false then 72 else 0):=by show _=_;rw[HRR4.out,if_neg hnz]
     clear HRR4 hnz CN x4
     go_upto_region 7 with fail
     have HX1:Hid (Blk (wc.alloc (.map #[] 0)) xb #[.string x.name,.string x.header,.string x.on.head,.string x.on.name,.slice ca cl cc,.string x.next] 98):=HX.out.below ((Below.refl _ _).alloc (Nat.le_refl _) _)
     have HQ1:Hid (Blk (wc.alloc (.map #[] 0)) cb (ChkC v0 v1 v2 v3 v4 v5 th (.map (some wb)) (.map (some hb)) ac tb) 110):=HQ.out.below ((Below.refl _ _).alloc (Nat.le_refl _) _)
     have HMW1:Hid (MapR (wc.alloc (.map #[] 0)) wb m g):=HMW.out.below ((Below.refl _ _).alloc (Nat.le_refl _) _)
     have HMA1:Hid (MapT (wc.alloc (.map #[] 0)) ab n ga):=HMA.out.below ((Below.refl _ _).alloc (Nat.le_refl _) _)
     have HA1:Hid (Bl w (wc.alloc (.map #[] 0))):=HA.out.alloc HA.out.size _
     have HS1:Hid (SetC (wc.alloc (.map #[] 0)) wc.heap.size []):=SetC.new wc
     have hxl:=HX.out.lt
     have hcbl:=HQ.out.lt
     have hwbl:=HMW.out.lt
     have habl:=HMA.out.lt
     have hwl:=HA.out.size
     obtain⟨sb,hsb⟩:∃ sb,sb=wc.heap.size:=⟨_,rfl⟩
     rw[← hsb] at HS1 hxl hcbl hwbl habl hwl ⊢
     generalize (wc.alloc (.map #[] 0))=W1 at HX1 HQ1 HMW1 HMA1 HA1 HS1 ⊢
     clear hsb HX HQ HMW HMA HA hmm
     have x4:=HX1.out.cell 4 (v:=.slice ca cl cc) rfl
     have H0:Hid (casesE wv (nextB ga) (x.cases.drop 0) []=casesE wv (nextB ga) x.cases []):=by show _=_;rfl
     obtain⟨CE,hCE⟩:∃ CE,CE=casesE wv (nextB ga) x.cases []:=⟨_,rfl⟩
     rw[← hCE] at H0 HRR5
     clear hCE
     go_wp2_with fail
     go_loopw [57] (fun i wr=>∃(k:Nat) (seen:List (Nat × Nat)),k≤cl∧i=.int .i64 k∧Below w.heap.size w wr∧Blk wr xb #[.string x.name,.string x.header,.string x.on.head,.string x.on.name,.slice ca cl cc,.string x.next] 98∧Blk wr cb (ChkC v0 v1 v2 v3 v4 v5 th (.map (some wb)) (.map (some hb)) ac tb) 110∧MapR wr wb m g∧MapT wr ab n ga∧SetC wr sb seen∧casesE wv (nextB ga) (x.cases.drop k) seen=CE) (fun i _=>cl - (intOf i).toNat)
     case atStart=>exact⟨0,[],by omega,rfl,HA1.out,HX1.out,HQ1.out,HMW1.out,HMA1.out,HS1.out,H0.out⟩
     case round=>
      obtain⟨k,seen,hk,rfl,hbw,hx,hq,hmw,hma,hset,hd⟩:=hrel
      have HX:Hid (Blk wr xb #[.string x.name,.string x.header,.string x.on.head,.string x.on.name,.slice ca cl cc,.string x.next] 98):=hx
      have HQ:Hid (Blk wr cb (ChkC v0 v1 v2 v3 v4 v5 th (.map (some wb)) (.map (some hb)) ac tb) 110):=hq
      have HMW:Hid (MapR wr wb m g):=hmw
      have HMA:Hid (MapT wr ab n ga):=hma
      have HB:Hid (Bl w wr):=hbw
      have HS:Hid (SetC wr sb seen):=hset
      have HD:Hid (casesE wv (nextB ga) (x.cases.drop k) seen=CE):=hd
      have hsz:=hset.lt
      clear hx hq hmw hma hset hd x4
      by_cases hlt:k<cl
      ·obtain⟨y,hy⟩:=gE HCL.out hlt
       obtain⟨b,o,cs,rfl,_,hcc,rfl,hy1,hy2,hy3⟩:=HR.out.1.at hy
       have q0:wr.cell? ⟨b,o+k*5,none⟩=some (.int .u64 (hiOf y.value)):=by have:=pres_below hbw _ _ (hcc 0 _ rfl);simpa using this
       have q1:wr.cell? ⟨b,o+k*5+1,none⟩=some (.int .u64 (loOf y.value)):=by have:=pres_below hbw _ _ (hcc 1 _ rfl);simpa using this
       have q2:wr.cell? ⟨b,o+k*5+2,none⟩=some (.int .u64 (hiOf y.mask)):=by have:=pres_below hbw _ _ (hcc 2 _ rfl);simpa using this
       have q3:wr.cell? ⟨b,o+k*5+3,none⟩=some (.int .u64 (loOf y.mask)):=by have:=pres_below hbw _ _ (hcc 3 _ rfl);simpa using this
       have q4:wr.cell? ⟨b,o+k*5+4,none⟩=some (.string y.next):=by have:=pres_below hbw _ _ (hcc 4 _ rfl);simpa using this
       clear hbw hcc
       go_upto_region 10 with fail
       have HAl:Hid (Bl wr (wr.alloc (.cells #[.int .u64 (hiOf y.value),.int .u64 (loOf y.value),.int .u64 (hiOf y.mask),.int .u64 (loOf y.mask),.string y.next] 165))):=(Below.refl _ _).alloc (Nat.le_refl _) _
       have HY:Hid (Blk (wr.alloc (.cells #[.int .u64 (hiOf y.value),.int .u64 (loOf y.value),.int .u64 (hiOf y.mask),.int .u64 (loOf y.mask),.string y.next] 165)) wr.heap.size #[.int .u64 (hiOf y.value),.int .u64 (loOf y.value),.int .u64 (hiOf y.mask),.int .u64 (loOf y.mask),.string y.next] 165):=Blk.new _ _ _
       generalize (wr.alloc _)=W at HAl HY ⊢
       obtain⟨yb,hyb⟩:∃ yb,yb=wr.heap.size:=⟨_,rfl⟩
       have hyl:sb<yb:=by rw[hyb];exact hsz
       rw[← hyb] at HY ⊢
       clear hyb q0 q1 q2 q3 q4
       have HXW:Hid (Blk W xb #[.string x.name,.string x.header,.string x.on.head,.string x.on.name,.slice (some ⟨b,o,none⟩) cl cc,.string x.next] 98):=HX.out.below HAl.out
       have HQW:Hid (Blk W cb (ChkC v0 v1 v2 v3 v4 v5 th (.map (some wb)) (.map (some hb)) ac tb) 110):=HQ.out.below HAl.out
       have HMWW:Hid (MapR W wb m g):=HMW.out.below HAl.out
       have HMAW:Hid (MapT W ab n ga):=HMA.out.below HAl.out
       have HSW:Hid (SetC W sb seen):=HS.out.below HAl.out
       have HBW:Hid (Bl w W):=bst HB.out HAl.out (Nat.le_refl _)
       have HD1:=HD.out
       rw[cases_step hy] at HD1
       have HD2:Hid ((if(fitsN y.mask wv&&decide (y.value &&& y.mask=y.value))=false then 73 else if seen.contains (y.value,y.mask)=true then 71 else if nextB ga y.next=false then 72 else casesE wv (nextB ga) (x.cases.drop (k+1)) ((y.value,y.mask) :: seen))=CE):=HD1
       have c0:∀ z:Grown W,(gw z).cell? ⟨yb,0,none⟩=some (.int .u64 (hiOf y.value)):=gw_cell (HY.out.cell 0 rfl)
       have c1:∀ z:Grown W,(gw z).cell? ⟨yb,1,none⟩=some (.int .u64 (loOf y.value)):=gw_cell (HY.out.cell 1 rfl)
       have c2:∀ z:Grown W,(gw z).cell? ⟨yb,2,none⟩=some (.int .u64 (hiOf y.mask)):=gw_cell (HY.out.cell 2 rfl)
       have c3:∀ z:Grown W,(gw z).cell? ⟨yb,3,none⟩=some (.int .u64 (loOf y.mask)):=gw_cell (HY.out.cell 3 rfl)
       have d7:∀ z:Grown W,(gw z).cell? ⟨cb,7,none⟩=some (.map (some wb)):=gw_cell (HQW.out.cell 7 rfl)
       have e2:∀ z:Grown W,(gw z).cell? ⟨xb,2,none⟩=some (.string x.on.head):=gw_cell (HXW.out.cell 2 rfl)
       have e3:∀ z:Grown W,(gw z).cell? ⟨xb,3,none⟩=some (.string x.on.name):=gw_cell (HXW.out.cell 3 rfl)
       have hL:∀ z:Grown W,(Instr.lookup 107 (.map (some wb)) (.agg #[.string x.on.head,.string x.on.name]) false).run Tryz.prog (gw z)=.ok (.int .i64 wv) (gw z):=fun z=>by
        have:=MapR.look1 (HMWW.out.below (gw_below z)) x.on ok3 ok4
        rw[HWV.out] at this
        exact this
       have CF:Hid (∀ z:Grown W,Cs 199 #[.agg #[.int .u64 (hiOf y.mask),.int .u64 (loOf y.mask)],.int .i64 wv] (gw z) fun e w'=>e=.returned (.bool (fitsN y.mask wv))∧Below (gw z).heap.size (gw z) w'):=fun z=>fits_any y.mask hy2 wv _
       have CA:Hid (∀ z:Grown W,Cs 200 #[.agg #[.int .u64 (hiOf y.value),.int .u64 (loOf y.value)],.agg #[.int .u64 (hiOf y.mask),.int .u64 (loOf y.mask)]] (gw z) fun e w'=>e=.returned (.agg #[.int .u64 (hiOf (y.value &&& y.mask)),.int .u64 (loOf (y.value &&& y.mask))])∧Below (gw z).heap.size (gw z) w'):=fun z=>and_any y.value y.mask hy1 hy2 _
       have CNo:Hid (∀ r (z:Grown W),Cs 145 #[.pointer (some ⟨cb,0,none⟩),.bool false,.int .i64 r] (gw z) fun e w'=>e=.panicked [pf r th]∧w'=gw z):=fun r z=>need_no cb r th (gw z) (gw_cell (HQW.out.cell 6 rfl) z)
       have CY:Hid (∀ r (z:Grown W),Cs 145 #[.pointer (some ⟨cb,0,none⟩),.bool true,.int .i64 r] (gw z) fun e w'=>e=.returned (.tuple #[])∧w'=gw z):=fun r z=>need_yes cb r (gw z)
       have HBd:Hid (∀ z:Grown W,Bl w (gw z)):=fun z=>bst HBW.out (gw_below z) (Nat.le_refl _)
       have HEQ:Hid (∀ w,(binOp .eql 121 (.agg #[.int .u64 (hiOf (y.value &&& y.mask)),.int .u64 (loOf (y.value &&& y.mask))]) (.agg #[.int .u64 (hiOf y.value),.int .u64 (loOf y.value)])).run Tryz.prog w=.ok (.bool (decide (y.value &&& y.mask=y.value))) w):=fun w=>run_eqB rfl w
       have hEQ:=HEQ.out
       have HRR6:Hid (CE≠0→R=CE):=by show _→_;intro h;rw[HRR5.out,if_pos h]
       clear HD HD1 HX HQ HMW HMA HS HB HAl HEQ
       generalize hfb:fitsN y.mask wv=fb at*
       generalize heb:decide (y.value &&& y.mask=y.value)=eb at*
       have HHY:Hid (y.value &&& y.mask=y.value &&& y.mask):=rfl
       generalize hva:y.value &&& y.mask=va at*
       clear hfb heb hva
       cases fb with
       | false=>
        have HE:Hid (R=73):=by show _=_;rw[HRR6.out (by rw[← HD2.out];simp),← HD2.out];rfl
        clear HD2 HRR6
        refine region_ends_gw (by kernel_rfl) (by kernel_rfl) (by kernel_rfl) rfl ?_
        simp only[swapLast,stand]
        repeat (go_big_quiet_step ((go_at_call 199;exact calls_gw (CF.out _))))
        refine wpQuiet_nil ?_
        intro wq hwq Kq
        obtain⟨zq,hwq⟩:=hwq
        subst hwq
        unfold Oper.wp
        go_simp
        refine(CNo.out _ zq).mono ?_
        rintro e w1 ⟨rfl,hw1⟩
        rw[hw1]
        exact⟨rfl,HBd.out zq,by rw[HE.out];exact .inr ⟨by decide,rfl⟩⟩
       | true=>
        cases eb with
        | false=>
         have HE:Hid (R=73):=by show _=_;rw[HRR6.out (by rw[← HD2.out];simp),← HD2.out];rfl
         clear HD2 HRR6
         refine region_ends_gw (by kernel_rfl) (by kernel_rfl) (by kernel_rfl) rfl ?_
         simp only[swapLast,stand]
         repeat (go_big_quiet_step (first|(go_at_call 199;exact calls_gw (CF.out _))|(go_at_call 200;exact calls_gw (CA.out _))))
         refine wpQuiet_nil ?_
         intro wq hwq Kq
         obtain⟨zq,hwq⟩:=hwq
         subst hwq
         unfold Oper.wp
         go_simp
         refine(CNo.out _ zq).mono ?_
         rintro e w1 ⟨rfl,hw1⟩
         rw[hw1]
         exact⟨rfl,HBd.out zq,by rw[HE.out];exact .inr ⟨by decide,rfl⟩⟩
        | true=>
         have HD3:Hid ((if seen.contains (y.value,y.mask)=true then 71 else if nextB ga y.next=false then 72 else casesE wv (nextB ga) (x.cases.drop (k+1)) ((y.value,y.mask) :: seen))=CE):=by show _=_;rw[← HD2.out];rfl
         clear HD2
         refine region_grows (by kernel_rfl) (by kernel_rfl) ?_
         repeat (go_big_quiet_step (first|(go_at_call 199;exact calls_gw (CF.out _))|(go_at_call 200;exact calls_gw (CA.out _))|(go_at_call 145;exact calls_gw_same (CY.out _ _))))
         refine wpQuiet_nil ?_
         intro wq hwq
         obtain⟨zq,hwq⟩:=hwq
         subst hwq
         have HBz:=gw_below zq
         have HX2:=hblk HXW HBz
         have HQ2:=hblk HQW HBz
         have HMW2:Hid (MapR (gw zq) wb m g):=HMWW.out.below HBz
         have HMA2:Hid (MapT (gw zq) ab n ga):=HMAW.out.below HBz
         have HS2:Hid (SetC (gw zq) sb seen):=HSW.out.below HBz
         have HB2:Hid (Bl w (gw zq)):=HBd.out zq
         have HY2:=hblk HY HBz
         generalize gw zq=W2 at HX2 HQ2 HMW2 HMA2 HS2 HB2 HY2 ⊢
         clear HBz HXW HQW HMWW HMAW HSW HBd HBW HY c0 c1 c2 c3 d7 e2 e3 hL CF CA CNo CY hEQ
         have c0:=HY2.out.cell 0 (v:=.int .u64 (hiOf y.value)) rfl
         have c1:=HY2.out.cell 1 (v:=.int .u64 (loOf y.value)) rfl
         have c2:=HY2.out.cell 2 (v:=.int .u64 (hiOf y.mask)) rfl
         have c3:=HY2.out.cell 3 (v:=.int .u64 (loOf y.mask)) rfl
         have hyl2:=HY2.out.lt
         go_upto_region 12 with fail
         have HAl:Hid (Bl W2 (W2.alloc (.cells #[.int .u64 (hiOf y.value),.int .u64 (loOf y.value),.int .u64 (hiOf y.mask),.int .u64 (loOf y.mask),.string ⟨#[]⟩] 165))):=(Below.refl _ _).alloc (Nat.le_refl _) _
         have HZ:Hid (Blk (W2.alloc (.cells #[.int .u64 (hiOf y.value),.int .u64 (loOf y.value),.int .u64 (hiOf y.mask),.int .u64 (loOf y.mask),.string ⟨#[]⟩] 165)) W2.heap.size #[.int .u64 (hiOf y.value),.int .u64 (loOf y.value),.int .u64 (hiOf y.mask),.int .u64 (loOf y.mask),.string ⟨#[]⟩] 165):=Blk.new _ _ _
         generalize (W2.alloc _)=W3 at HAl HZ ⊢
         obtain⟨zb,hzb⟩:∃ zb,zb=W2.heap.size:=⟨_,rfl⟩
         rw[← hzb] at HZ hyl2 ⊢
         clear hzb c0 c1 c2 c3
         have HX3:Hid (Blk W3 xb #[.string x.name,.string x.header,.string x.on.head,.string x.on.name,.slice (some ⟨b,o,none⟩) cl cc,.string x.next] 98):=HX2.out.below HAl.out
         have HQ3:Hid (Blk W3 cb (ChkC v0 v1 v2 v3 v4 v5 th (.map (some wb)) (.map (some hb)) ac tb) 110):=HQ2.out.below HAl.out
         have HMW3:Hid (MapR W3 wb m g):=HMW2.out.below HAl.out
         have HMA3:Hid (MapT W3 ab n ga):=HMA2.out.below HAl.out
         have HS3:Hid (SetC W3 sb seen):=HS2.out.below HAl.out
         have HB3:Hid (Bl w W3):=bst HB2.out HAl.out (Nat.le_refl _)
         have HY3:Hid (Blk W3 yb #[.int .u64 (hiOf y.value),.int .u64 (loOf y.value),.int .u64 (hiOf y.mask),.int .u64 (loOf y.mask),.string y.next] 165):=HY2.out.below HAl.out
         clear HX2 HQ2 HMW2 HMA2 HS2 HB2 HY2 HAl
         obtain⟨c0,c1,c2,c3,c4⟩:=HZ.out.c5
         have CHC:Hid (Cs 201 #[.map (some sb),.agg #[.int .u64 (hiOf y.value),.int .u64 (loOf y.value),.int .u64 (hiOf y.mask),.int .u64 (loOf y.mask),.string ⟨#[]⟩]] W3 fun e w'=>e=.returned (.bool (seen.contains (y.value,y.mask)))∧Bl W3 w'):=hasCas_any HS3.out (y.value,y.mask) hy1 hy2
         go_wp2_with fail
         refine CHC.out.mono ?_
         rintro e W4 ⟨rfl,hb4⟩
         have HX4:=hblk HX3 hb4
         have HQ4:=hblk HQ3 hb4
         have HMW4:Hid (MapR W4 wb m g):=HMW3.out.below hb4
         have HMA4:Hid (MapT W4 ab n ga):=HMA3.out.below hb4
         have HS4:Hid (SetC W4 sb seen):=HS3.out.below hb4
         have HB4:Hid (Bl w W4):=bst HB3.out hb4 (Nat.le_refl _)
         have HY4:=hblk HY3 hb4
         have HZ4:=hblk HZ hb4
         clear hb4 HX3 HQ3 HMW3 HMA3 HS3 HB3 HY3 HZ CHC c0 c1 c2 c3 c4
         have CN:Hid (∀ b r,Cs 145 #[.pointer (some ⟨cb,0,none⟩),.bool b,.int .i64 r] W4 fun e w'=>w'=W4∧((b=true∧e=.returned (.tuple #[]))∨(b=false∧e=.panicked [pf r th]))):=need_two (HQ4.out.cell 6 rfl)
         go_wp2_with fail
         refine(CN.out _ _).mono ?_
         rintro e w2 ⟨hw2,hh⟩
         obtain rfl:=Eq.symm hw2
         rcases hh with⟨hq,rfl⟩|⟨hq,rfl⟩
         case inr=>
          have hq':seen.contains (y.value,y.mask)=true:=by simpa using hq
          have HE:Hid (R=71):=by show _=_;rw[HRR6.out (by rw[← HD3.out,if_pos hq'];decide),← HD3.out,if_pos hq']
          clear hq hq'
          go_wp2
          exact⟨rfl,HB4.out,by rw[HE.out];exact .inr ⟨by decide,rfl⟩⟩
         case inl=>
          have hq':seen.contains (y.value,y.mask)=false:=by simpa using hq
          have HD4:Hid ((if nextB ga y.next=false then 72 else casesE wv (nextB ga) (x.cases.drop (k+1)) ((y.value,y.mask) :: seen))=CE):=by
           have h:=HD3.out
           rw[if_neg (by rw[hq'];decide)] at h
           exact h
          clear hq hq' HD3 CN
          obtain⟨W5,hput,hs5,hk5⟩:=HS4.out.put (y:=(y.value,y.mask)) hy1 hy2 (k:Int)
          have HX5:Hid (Blk W5 xb #[.string x.name,.string x.header,.string x.on.head,.string x.on.name,.slice (some ⟨b,o,none⟩) cl cc,.string x.next] 98):=HX4.out.kept hk5 (by show ¬ _=_;omega)
          have HQ5:Hid (Blk W5 cb (ChkC v0 v1 v2 v3 v4 v5 th (.map (some wb)) (.map (some hb)) ac tb) 110):=HQ4.out.kept hk5 (by show ¬ _=_;omega)
          have HMW5:Hid (MapR W5 wb m g):=HMW4.out.kept hk5 (by show ¬ _=_;omega)
          have HMA5:Hid (MapT W5 ab n ga):=HMA4.out.kept hk5 (by show ¬ _=_;omega)
          have HS5:Hid (SetC W5 sb ((y.value,y.mask) :: seen)):=hs5
          have HB5:Hid (Bl w W5):=keptBelow HB4.out hk5 hwl
          have HY5:Hid (Blk W5 yb #[.int .u64 (hiOf y.value),.int .u64 (loOf y.value),.int .u64 (hiOf y.mask),.int .u64 (loOf y.mask),.string y.next] 165):=HY4.out.kept hk5 (by show ¬ _=_;omega)
          have hput':(Instr.mapUpdate 227 (.map (some sb)) (.agg #[.int .u64 (hiOf y.value),.int .u64 (loOf y.value),.int .u64 (hiOf y.mask),.int .u64 (loOf y.mask),.string ⟨#[]⟩]) (.int .i64 (k:Int))).run Tryz.prog W4=.ok () W5:=hput
          obtain⟨c0,c1,c2,c3,c4⟩:=HZ4.out.c5
          clear hs5 hk5 hput HX4 HQ4 HMW4 HMA4 HS4 HB4 HY4
          go_upto_region 14 with fail
          clear hput' c0 c1 c2 c3 c4 HZ4
          have d4:=HY5.out.cell 4 (v:=.string y.next) rfl
          have CNx:Hid (Cs 202 #[.string y.next,.map (some ab)] W5 fun e w'=>e=.returned (.bool (nextB ga y.next))∧w'=W5):=isNext_any HMA5.out y.next hy3
          have CN:Hid (∀ b r,Cs 145 #[.pointer (some ⟨cb,0,none⟩),.bool b,.int .i64 r] W5 fun e w'=>w'=W5∧((b=true∧e=.returned (.tuple #[]))∨(b=false∧e=.panicked [pf r th]))):=need_two (HQ5.out.cell 6 rfl)
          go_wp2_with fail
          refine CNx.out.mono ?_
          rintro e w2 ⟨rfl,hw2⟩
          obtain rfl:=Eq.symm hw2
          go_wp2_with fail
          refine(CN.out _ _).mono ?_
          rintro e w2 ⟨hw2,hh⟩
          obtain rfl:=Eq.symm hw2
          rcases hh with⟨hq,rfl⟩|⟨hq,rfl⟩
          case inr=>
           have HE:Hid (R=72):=by show _=_;rw[HRR6.out (by rw[← HD4.out,if_pos hq];decide),← HD4.out,if_pos hq]
           clear hq
           go_wp2
           exact⟨rfl,HB5.out,by rw[HE.out];exact .inr ⟨by decide,rfl⟩⟩
          case inl=>
           have HD5:Hid (casesE wv (nextB ga) (x.cases.drop (k+1)) ((y.value,y.mask) :: seen)=CE):=by show _=_;rw[← HD4.out,if_neg (by rw[hq];decide)]
           clear hq
           go_wp2
           exact⟨⟨k+1,_,by omega,by go_num,HB5.out,HX5.out,HQ5.out,HMW5.out,HMA5.out,HS5.out,HD5.out⟩,by simp only[intOf];omega⟩
      ·have e:k=cl:=by omega
       subst e
       have HC0:Hid (CE=0):=by
        have h1:=HCL.out
        have h2:=HD.out
        rw[List.drop_of_length_le (by omega),casesE] at h2
        exact h2.symm
       have HRR6:Hid (R=if nextB ga x.next=false then 72 else 0):=by show _=_;rw[HRR5.out,if_neg (by rw[HC0.out];simp)]
       have x5:=HX.out.cell 5 (v:=.string x.next) rfl
       have CNx:Hid (Cs 202 #[.string x.next,.map (some ab)] wr fun e w'=>e=.returned (.bool (nextB ga x.next))∧w'=wr):=isNext_any HMA.out x.next ok5
       have CN:Hid (∀ b r,Cs 145 #[.pointer (some ⟨cb,0,none⟩),.bool b,.int .i64 r] wr fun e w'=>w'=wr∧((b=true∧e=.returned (.tuple #[]))∨(b=false∧e=.panicked [pf r th]))):=need_two (HQ.out.cell 6 rfl)
       clear hbw HRR5 HC0 HD
       go_wp2_with fail
       refine CNx.out.mono ?_
       rintro e w2 ⟨rfl,hw2⟩
       obtain rfl:=Eq.symm hw2
       go_wp2_with fail
       refine(CN.out _ _).mono ?_
       rintro e w2 ⟨hw2,hh⟩
       obtain rfl:=Eq.symm hw2
       rcases hh with⟨hq,rfl⟩|⟨hq,rfl⟩
       case inr=>
        have HE:Hid (R=72):=by show _=_;rw[HRR6.out,if_pos hq]
        clear hq
        go_wp2
        exact⟨rfl,HB.out,by rw[HE.out];exact .inr ⟨by decide,rfl⟩⟩
       case inl=>
        have HE:Hid (R=0):=by show _=_;rw[HRR6.out,if_neg (by rw[hq];decide)]
        clear hq
        go_wp2
        first|go_end0|refine bodyPost_ret (results_none rfl _ _ _) rfl ?_
        exact⟨HB.out,by rw[HE.out];exact .inl ⟨rfl,rfl⟩⟩
end Go.Proofs.YtmbpclknhkbbkaaGreat
