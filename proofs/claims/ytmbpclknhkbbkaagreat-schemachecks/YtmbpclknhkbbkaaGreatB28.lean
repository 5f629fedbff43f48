/- Package schema's checker: widthWith, c. -/
import Derived.Test.YtmbpclknhkbbkaaGreatB02
import Derived.Test.YtmbpclknhkbbkaaGreatB04
import Derived.Test.YtmbpclknhkbbkaaGreatB05
set_option linter.unusedSimpArgs false
set_option linter.unusedVariables false
set_option maxHeartbeats 4000000
set_option maxRecDepth 100000
namespace Go.Proofs.YtmbpclknhkbbkaaGreat
open Go.RowKit
def withE (W:Rf→Int)(r:Rf):List Fld→Int
 |[]=>W r
 | p :: ps=>if r=⟨⟨#[]⟩,p.name⟩ then p.width else withE W r ps
theorem with_step {W:Rf→Int}{r:Rf}{ps:List Fld}{k:Nat}{p:Fld}(hk:ps[k]?=some p):withE W r (ps.drop k)=if r=⟨⟨#[]⟩,p.name⟩ then p.width else withE W r (ps.drop (k+1)):=by
 obtain⟨h,e⟩:=List.getElem?_eq_some_iff.1 hk
 rw[List.drop_eq_getElem_cons h,e,withE]
theorem widthWith_any (w:World)(cb wb m:Nat)(g:Rf→Option Int)(v0 v1 v2 v3 v4 v5 hd ac tb:Value)(th:ByteArray)(v:Value)(ps:List Fld)(r:Rf)(hr1:Okt r.head)(hr2:Okt r.name)(hr:FldRow w v ps)(hB:Blk w cb (ChkC v0 v1 v2 v3 v4 v5 th (.map (some wb)) hd ac tb) 110)(hW:MapR w wb m g):
  Calls Tryz.prog 229 #[.pointer (some ⟨cb,0,none⟩),v,.agg #[.string r.head,.string r.name]] w fun e w'=>e=.returned (.int .i64 (withE (fun r=>(g r).getD 0) r ps))∧Below w.heap.size w w':=by
 obtain⟨ad,cap,rfl,_⟩:=hr.1.slice
 have hlen:ps.length*24≤140737488351232:=hr.2
 have HR:Hid (FldRow w (.slice ad ps.length cap) ps):=hr
 have HQ:Hid (Blk w cb (ChkC v0 v1 v2 v3 v4 v5 th (.map (some wb)) hd ac tb) 110):=hB
 have HM:Hid (MapR w wb m g):=hW
 obtain⟨R,hR⟩:∃ R,R=withE (fun r=>(g r).getD 0) r ps:=⟨_,rfl⟩
 have H0:Hid (withE (fun r=>(g r).getD 0) r (ps.drop 0)=R):=by rw[hR];rfl
 rw[← hR]
 obtain⟨n,hn⟩:∃ n,n=ps.length:=⟨_,rfl⟩
 have HN:Hid (n=ps.length):=hn
 rw[← hn] at hlen HR ⊢
 clear hn hR hr hB hW
 go_enter Tryz.func229,Tryz.ntmps229
 go_upto_region 1 with fail
 have HA:Hid (Bl w (w.alloc (.cells #[.string r.head,.string r.name] 42))):=(Below.refl _ _).alloc (Nat.le_refl _) _
 have HX:Hid (Blk (w.alloc (.cells #[.string r.head,.string r.name] 42)) w.heap.size #[.string r.head,.string r.name] 42):=Blk.new _ _ _
 generalize (w.alloc _)=W at HA HX ⊢
 obtain⟨xb,hxb⟩:∃ xb,xb=w.heap.size:=⟨_,rfl⟩
 rw[← hxb] at HX ⊢
 clear hxb
 go_wp2_with fail
 go_loopw [11] (fun i wr=>∃(k:Nat),k≤n∧i=.int .i64 k∧Below w.heap.size w wr∧Blk wr xb #[.string r.head,.string r.name] 42∧withE (fun r=>(g r).getD 0) r (ps.drop k)=R) (fun i _=>n - (intOf i).toNat)
 case atStart=>exact⟨0,by omega,rfl,HA.out,HX.out,H0.out⟩
 case round=>
  obtain⟨k,hk,rfl,hb,hx,hd⟩:=hrel
  have HB:Hid (Bl w wr):=hb
  have HX2:Hid (Blk wr xb #[.string r.head,.string r.name] 42):=hx
  by_cases hlt:k<n
  ·obtain⟨y,hy⟩:=gE HN.out hlt
   obtain⟨b,o,cs,rfl,_,hcc,rfl,hok⟩:=HR.out.1.at hy
   have q0:wr.cell? ⟨b,o+k*2,none⟩=some (.string y.name):=by have:=pres_below hb _ _ (hcc 0 (.string y.name) rfl);simpa using this
   have q1:wr.cell? ⟨b,o+k*2+1,none⟩=some (.int .i64 y.width):=by have:=pres_below hb _ _ (hcc 1 (.int .i64 y.width) rfl);simpa using this
   rw[with_step hy] at hd
   have HD:Hid ((if r=⟨⟨#[]⟩,y.name⟩ then y.width else withE (fun r=>(g r).getD 0) r (ps.drop (k+1)))=R):=hd
   have hsz:=hb.size
   clear hb hx hcc hd
   go_upto_region 4 with fail
   have HA2:Hid (Bl wr (wr.alloc (.cells #[.string y.name,.int .i64 y.width] 82))):=(Below.refl _ _).alloc (Nat.le_refl _) _
   have HY:Hid (Blk (wr.alloc (.cells #[.string y.name,.int .i64 y.width] 82)) wr.heap.size #[.string y.name,.int .i64 y.width] 82):=Blk.new _ _ _
   generalize (wr.alloc _)=W2 at HA2 HY ⊢
   obtain⟨yb,hyb⟩:∃ yb,yb=wr.heap.size:=⟨_,rfl⟩
   rw[← hyb] at HY ⊢
   clear hyb q0 q1
   have HB3:Hid (Bl w W2):=bst HB.out HA2.out (Nat.le_refl _)
   have HX3:Hid (Blk W2 xb #[.string r.head,.string r.name] 42):=HX2.out.below HA2.out
   have x0:=HX3.out.cell 0 (v:=.string r.head) rfl
   have x1:=HX3.out.cell 1 (v:=.string r.name) rfl
   have y0:=HY.out.cell 0 (v:=.string y.name) rfl
   have y1:=HY.out.cell 1 (v:=.int .i64 y.width) rfl
   have HEQ:Hid (∀ w,(binOp .eql 42 (.agg #[.string r.head,.string r.name]) (.agg #[.string ⟨#[]⟩,.string y.name])).run Tryz.prog w=.ok (.bool (decide (r=⟨⟨#[]⟩,y.name⟩))) w):=fun w=>run_eq42 r ⟨⟨#[]⟩,y.name⟩ w
   have hEQ:=HEQ.out
   clear HEQ HA2 HB HX2
   by_cases he:r=⟨⟨#[]⟩,y.name⟩
   ·have HE:Hid (R=y.width):=by show _=_;rw[← HD.out,if_pos he]
    have hdt:decide (r=⟨⟨#[]⟩,y.name⟩)=true:=decide_eq_true he
    rw[hdt] at hEQ
    clear HD he hdt
    go_wp2
    go_ret
    exact⟨by rw[HE.out];rfl,HB3.out⟩
   ·have HE:Hid (withE (fun r=>(g r).getD 0) r (ps.drop (k+1))=R):=by show _=_;rw[← HD.out,if_neg he]
    have hdt:decide (r=⟨⟨#[]⟩,y.name⟩)=false:=decide_eq_false he
    rw[hdt] at hEQ
    clear HD he hdt
    go_wp2
    exact⟨⟨k+1,by omega,by go_num,HB3.out,HX3.out,HE.out⟩,by simp only[intOf];omega⟩
  ·have e:k=n:=by omega
   subst e
   have HE:Hid (R=(g r).getD 0):=by
    have h1:=HN.out
    rw[List.drop_of_length_le (by omega),withE] at hd
    exact hd.symm
   have x0:=hx.cell 0 (v:=.string r.head) rfl
   have x1:=hx.cell 1 (v:=.string r.name) rfl
   have q7:=(HQ.out.below hb).cell 7 (v:=.map (some wb)) rfl
   have hL:∀ k,(Instr.lookup 107 (.map (some wb)) (.agg #[.string r.head,.string r.name]) false).run Tryz.prog (wr.drewN k)=.ok (.int .i64 ((g r).getD 0)) (wr.drewN k):=fun k=>MapR.look1 (w:=wr.drewN k) (show MapR (wr.drewN k) wb m g from(HM.out.below hb:MapR wr wb m g)) r hr1 hr2
   clear hb hx hd
   generalize (g r).getD 0=wv at*
   go_wp2_with fail
   go_quiet (fail)
   go_wp2
   go_ret
   exact⟨by rw[HE.out];rfl,⟨HB.out.os,HB.out.tape,HB.out.output,HB.out.size,HB.out.block⟩⟩
def setE (W:Rf→Int)(ps:List Fld)(x:Stp):Int:=
 if ¬ 0<W x.to then 72 else if(isCst x.a||decide (0<withE W x.a.ref ps))=false then 72 else if(isCst x.b||decide (0<withE W x.b.ref ps))=false then 72
 else if goesB (W x.to) x.a (withE W x.a.ref ps)=false then 73 else if goesB (W x.to) x.b (withE W x.b.ref ps)=false then 73 else 0
theorem checkSet_any (w:World)(cb wb m:Nat)(g:Rf→Option Int)(v0 v1 v2 v3 v4 v5 hd ac tb:Value)(th:ByteArray)(v:Value)(ps:List Fld)(x:Stp)(hx:StpOk x)(hr:FldRow w v ps)(hB:Blk w cb (ChkC v0 v1 v2 v3 v4 v5 th (.map (some wb)) hd ac tb) 110)(hW:MapR w wb m g):
  Calls Tryz.prog 205 #[.pointer (some ⟨cb,0,none⟩),.agg (StpC x),v] w fun e w'=>Below w.heap.size w w'∧Res (setE (fun r=>(g r).getD 0) ps x) th e:=by
 obtain⟨ad,cap,rfl,_⟩:=hr.1.slice
 obtain⟨k1,k2,k3,k4,⟨k5,k6,k7⟩,k8,k9,k10⟩:=hx
 have HR:Hid (FldRow w (.slice ad ps.length cap) ps):=hr
 have HRR : Hid (setE (fun r => (g r).getD 0) ps x = if ¬ 0 < (g x.to).getD 0 then 72 else if (isCst x.a || decide (0 < withE (fun r => (g r).getD 0) x.a.ref ps)) = false then 72 else if (isCst x.b || decide (0 < withE (fun r => (g r).getD 0) x.b.ref ps)) = false then 72
   else if goesB ((g x.to).getD 0) x.a (withE (fun r => (g r).getD 0) x.a.ref ps) = false then 73 else if goesB ((g x.to).getD 0) x.b (withE (fun r => (g r).getD 0) x.b.ref ps) = false then 73 else 0) := rfl
 generalize setE (fun r=>(g r).getD 0) ps x=R at*
 have HA:Hid (Bl w (w.alloc (.cells (StpC x) 167))):=(Below.refl _ _).alloc (Nat.le_refl _) _
 have HX:Hid (Blk (w.alloc (.cells (StpC x) 167)) w.heap.size (StpC x) 167):=Blk.new _ _ _
 have HQ:Hid (Blk (w.alloc (.cells (StpC x) 167)) cb (ChkC v0 v1 v2 v3 v4 v5 th (.map (some wb)) hd ac tb) 110):=hB.below HA.out
 have HM:Hid (MapR (w.alloc (.cells (StpC x) 167)) wb m g):=hW.below HA.out
 have HRw:Hid (FldRow (w.alloc (.cells (StpC x) 167)) (.slice ad ps.length cap) ps):=hr.pres (pres_below HA.out)
 clear hr hB hW
 unfold StpC
 go_enter Tryz.func205,Tryz.ntmps205
 go_upto_region 1 with fail
 generalize (w.alloc _)=W at HA HX HQ HM HRw ⊢
 obtain⟨xb,hxb⟩:∃ xb,xb=w.heap.size:=⟨_,rfl⟩
 rw[← hxb] at HX ⊢
 clear hxb
 have x1:=HX.out.cell 1 (v:=.string x.to.head) rfl
 have x2:=HX.out.cell 2 (v:=.string x.to.name) rfl
 have q7:=HQ.out.cell 7 (v:=.map (some wb)) rfl
 have hL:∀ k,(Instr.lookup 107 (.map (some wb)) (.agg #[.string x.to.head,.string x.to.name]) false).run Tryz.prog (W.drewN k)=.ok (.int .i64 ((g x.to).getD 0)) (W.drewN k):=fun k=>MapR.look1 (w:=W.drewN k) HM.out x.to k2 k3
 generalize hwt:(g x.to).getD 0=wt at*
 clear hwt
 go_quiet (fail)
 have HX2:Hid (Blk (W.drewN nq) xb (StpC x) 167):=HX.out
 have HQ2:Hid (Blk (W.drewN nq) cb (ChkC v0 v1 v2 v3 v4 v5 th (.map (some wb)) hd ac tb) 110):=HQ.out
 have HM2:Hid (MapR (W.drewN nq) wb m g):=HM.out
 have HR2:Hid (FldRow (W.drewN nq) (.slice ad ps.length cap) ps):=HRw.out
 have HB2:Hid (Bl w (W.drewN nq)):=⟨HA.out.os,HA.out.tape,HA.out.output,HA.out.size,HA.out.block⟩
 generalize W.drewN nq=W2 at HX2 HQ2 HM2 HR2 HB2 ⊢
 clear HX HQ HM HRw HA x1 x2 q7 hL
 have CN:Hid (∀ b r,Cs 145 #[.pointer (some ⟨cb,0,none⟩),.bool b,.int .i64 r] W2 fun e w'=>w'=W2∧((b=true∧e=.returned (.tuple #[]))∨(b=false∧e=.panicked [pf r th]))):=need_two (HQ2.out.cell 6 rfl)
 go_wp2_with fail
 refine(CN.out _ _).mono ?_
 rintro e w2 ⟨hw2,hh⟩
 obtain rfl:=Eq.symm hw2
 rcases hh with⟨hq,rfl⟩|⟨hq,rfl⟩
 case inr=>
  have HE:Hid (R=72):=by show _=_;rw[HRR.out,if_pos (by simpa using hq)]
  clear hq
  go_wp2
  exact⟨rfl,HB2.out,by rw[HE.out];exact .inr ⟨by decide,rfl⟩⟩
 case inl=>
  have HRR2 : Hid (R = if (isCst x.a || decide (0 < withE (fun r => (g r).getD 0) x.a.ref ps)) = false then 72 else if (isCst x.b || decide (0 < withE (fun r => (g r).getD 0) x.b.ref ps)) = false then 72
    else if goesB wt x.a (withE (fun r => (g r).getD 0) x.a.ref ps) = false then 73 else if goesB wt x.b (withE (fun r => (g r).getD 0) x.b.ref ps) = false then 73 else 0) := by show _ = _; rw [HRR.out, if_neg (by simpa using hq)]
  clear hq HRR CN
  obtain⟨WF,hWF⟩:∃ WF:Rf→Int,WF=fun r=>withE (fun r=>(g r).getD 0) r ps:=⟨_,rfl⟩
  have hWF1:∀ r,withE (fun r=>(g r).getD 0) r ps=WF r:=fun r=>by rw[hWF]
  have CA:Hid (∀(z:Grown W2) (r:Rf),Okt r.head→Okt r.name→Cs 229 #[.pointer (some ⟨cb,0,none⟩),.slice ad ps.length cap,.agg #[.string r.head,.string r.name]] (gw z) fun e w'=>e=.returned (.int .i64 (WF r))∧Below (gw z).heap.size (gw z) w'):=fun z r h1 h2=>by
   rw[← hWF1]
   exact widthWith_any _ cb wb m g _ _ _ _ _ _ _ _ _ _ _ ps r h1 h2 (HR2.out.pres (pres_below (gw_below z))) (HQ2.out.below (gw_below z)) (HM2.out.below (gw_below z))
  simp only[hWF1] at HRR2
  clear hWF hWF1
  have c4:∀ z:Grown W2,(gw z).cell? ⟨xb,4,none⟩=some (.string x.a.ref.head):=gw_cell (HX2.out.cell 4 rfl)
  have c5:∀ z:Grown W2,(gw z).cell? ⟨xb,5,none⟩=some (.string x.a.ref.name):=gw_cell (HX2.out.cell 5 rfl)
  have c8:∀ z:Grown W2,(gw z).cell? ⟨xb,8,none⟩=some (.string x.b.ref.head):=gw_cell (HX2.out.cell 8 rfl)
  have c9:∀ z:Grown W2,(gw z).cell? ⟨xb,9,none⟩=some (.string x.b.ref.name):=gw_cell (HX2.out.cell 9 rfl)
  clear HR
  generalize ps.length=pl at*
  go_upto_region 3 with fail
  refine region_grows (by kernel_rfl) (by kernel_rfl) ?_
  repeat (go_big_quiet_step ((go_at_call 229;exact calls_gw (CA.out _ _ (by assumption) (by assumption)))))
  refine wpQuiet_nil ?_
  intro wq hwq
  obtain⟨zq,hwq⟩:=hwq
  subst hwq
  have HX3:Hid (Blk (gw zq) xb (StpC x) 167):=HX2.out.below (gw_below zq)
  have HQ3:Hid (Blk (gw zq) cb (ChkC v0 v1 v2 v3 v4 v5 th (.map (some wb)) hd ac tb) 110):=HQ2.out.below (gw_below zq)
  have HB3:Hid (Bl w (gw zq)):=bst HB2.out (gw_below zq) (Nat.le_refl _)
  generalize gw zq=W3 at HX3 HQ3 HB3 ⊢
  clear HX2 HQ2 HM2 HR2 HB2 CA c4 c5 c8 c9
  have y0:=HX3.out.cell 4 (v:=.string x.a.ref.head) rfl
  have y1:=HX3.out.cell 5 (v:=.string x.a.ref.name) rfl
  have y2:=HX3.out.cell 6 (v:=.int .u64 (hiOf x.a.const)) rfl
  have y3:=HX3.out.cell 7 (v:=.int .u64 (loOf x.a.const)) rfl
  have CC:Hid (Cs 230 #[.agg (OpdC x.a)] W3 fun e w'=>e=.returned (.bool (isCst x.a))∧Bl W3 w'):=isConst_any x.a W3
  generalize hic:isCst x.a=ica at*
  generalize hwv:WF x.a.ref=wa at*
  go_upto_region 4 with fail
  go_cut [] from 32 to 40 (fun wx=>Hid (Blk wx xb #[.int .i64 x.kind,.string x.to.head,.string x.to.name,.int .i64 x.op,.string x.a.ref.head,.string x.a.ref.name,.int .u64 (hiOf x.a.const),.int .u64 (loOf x.a.const),.string x.b.ref.head,.string x.b.ref.name,.int .u64 (hiOf x.b.const),.int .u64 (loOf x.b.const)] 167∧Blk wx cb (ChkC v0 v1 v2 v3 v4 v5 th (.map (some wb)) hd ac tb) 110∧Below w.heap.size w wx∧(ica||decide (0<wa))=true))
  case first=>
   go_wp2_with fail
   refine CC.out.mono ?_
   rintro e W4 ⟨rfl,hb4⟩
   have HX4:=hblk HX3 hb4
   have HQ4:=hblk HQ3 hb4
   have HB4:Hid (Bl w W4):=bst HB3.out hb4 (Nat.le_refl _)
   have CN:Hid (∀ b r,Cs 145 #[.pointer (some ⟨cb,0,none⟩),.bool b,.int .i64 r] W4 fun e w'=>w'=W4∧((b=true∧e=.returned (.tuple #[]))∨(b=false∧e=.panicked [pf r th]))):=need_two (HQ4.out.cell 6 rfl)
   clear hb4 CC y0 y1 y2 y3
   cases ica with
   | true=>
    go_wp2_with fail
    refine(CN.out _ _).mono ?_
    rintro e w2 ⟨hw2,hh⟩
    obtain rfl:=Eq.symm hw2
    rcases hh with⟨hq,rfl⟩|⟨hq,rfl⟩
    ·go_wp2_with fail
     go_meet
     exact⟨HX4.out,HQ4.out,HB4.out,rfl⟩
    ·cases hq
   | false=>
    go_wp2_with fail
    refine(CN.out _ _).mono ?_
    rintro e w2 ⟨hw2,hh⟩
    obtain rfl:=Eq.symm hw2
    rcases hh with⟨hq,rfl⟩|⟨hq,rfl⟩
    ·have HZ:Hid ((false||decide (0<wa))=true):=by show _=_;simpa using hq
     clear hq
     go_wp2_with fail
     go_meet
     exact⟨HX4.out,HQ4.out,HB4.out,HZ.out⟩
    ·have HE:Hid (R=72):=by show _=_;rw[HRR2.out,if_pos (by simpa using hq)]
     clear hq
     go_wp2
     exact⟨rfl,HB4.out,by rw[HE.out];exact .inr ⟨by decide,rfl⟩⟩
  case rest=>
  have HX4:Hid (Blk wc xb (StpC x) 167):=hcut.out.1
  have HQ4:Hid (Blk wc cb (ChkC v0 v1 v2 v3 v4 v5 th (.map (some wb)) hd ac tb) 110):=hcut.out.2.1
  have HB4:Hid (Bl w wc):=hcut.out.2.2.1
  have hza:=hcut.out.2.2.2
  have HRR3:Hid (R=if(isCst x.b||decide (0<WF x.b.ref))=false then 72 else if goesB wt x.a wa=false then 73 else if goesB wt x.b (WF x.b.ref)=false then 73 else 0):=by show _=_;rw[HRR2.out,if_neg (by rw[hza];decide)]
  clear HRR2 hza hcut
  generalize wc=W4 at HX4 HQ4 HB4 ⊢
  clear HX3 HQ3 HB3 CC y0 y1 y2 y3 hwv hic
  have y0:=HX4.out.cell 8 (v:=.string x.b.ref.head) rfl
  have y1:=HX4.out.cell 9 (v:=.string x.b.ref.name) rfl
  have y2:=HX4.out.cell 10 (v:=.int .u64 (hiOf x.b.const)) rfl
  have y3:=HX4.out.cell 11 (v:=.int .u64 (loOf x.b.const)) rfl
  have CC:Hid (Cs 230 #[.agg (OpdC x.b)] W4 fun e w'=>e=.returned (.bool (isCst x.b))∧Bl W4 w'):=isConst_any x.b W4
  generalize hic:isCst x.b=icb at*
  generalize hwv:WF x.b.ref=wbb at*
  go_upto_region 5 with fail
  go_cut [] from 41 to 49 (fun wx=>Hid (Blk wx xb #[.int .i64 x.kind,.string x.to.head,.string x.to.name,.int .i64 x.op,.string x.a.ref.head,.string x.a.ref.name,.int .u64 (hiOf x.a.const),.int .u64 (loOf x.a.const),.string x.b.ref.head,.string x.b.ref.name,.int .u64 (hiOf x.b.const),.int .u64 (loOf x.b.const)] 167∧Blk wx cb (ChkC v0 v1 v2 v3 v4 v5 th (.map (some wb)) hd ac tb) 110∧Below w.heap.size w wx∧(icb||decide (0<wbb))=true))
  case first=>
   go_wp2_with fail
   refine CC.out.mono ?_
   rintro e W5 ⟨rfl,hb5⟩
   have HX5:=hblk HX4 hb5
   have HQ5:=hblk HQ4 hb5
   have HB5:Hid (Bl w W5):=bst HB4.out hb5 (Nat.le_refl _)
   have CN:Hid (∀ b r,Cs 145 #[.pointer (some ⟨cb,0,none⟩),.bool b,.int .i64 r] W5 fun e w'=>w'=W5∧((b=true∧e=.returned (.tuple #[]))∨(b=false∧e=.panicked [pf r th]))):=need_two (HQ5.out.cell 6 rfl)
   clear hb5 CC y0 y1 y2 y3
   cases icb with
   | true=>
    go_wp2_with fail
    refine(CN.out _ _).mono ?_
    rintro e w2 ⟨hw2,hh⟩
    obtain rfl:=Eq.symm hw2
    rcases hh with⟨hq,rfl⟩|⟨hq,rfl⟩
    ·go_wp2_with fail
     go_meet
     exact⟨HX5.out,HQ5.out,HB5.out,rfl⟩
    ·cases hq
   | false=>
    go_wp2_with fail
    refine(CN.out _ _).mono ?_
    rintro e w2 ⟨hw2,hh⟩
    obtain rfl:=Eq.symm hw2
    rcases hh with⟨hq,rfl⟩|⟨hq,rfl⟩
    ·have HZ:Hid ((false||decide (0<wbb))=true):=by show _=_;simpa using hq
     clear hq
     go_wp2_with fail
     go_meet
     exact⟨HX5.out,HQ5.out,HB5.out,HZ.out⟩
    ·have HE:Hid (R=72):=by show _=_;rw[HRR3.out,if_pos (by simpa using hq)]
     clear hq
     go_wp2
     exact⟨rfl,HB5.out,by rw[HE.out];exact .inr ⟨by decide,rfl⟩⟩
  case rest=>
  have HX5:Hid (Blk wc xb (StpC x) 167):=hcut.out.1
  have HQ5:Hid (Blk wc cb (ChkC v0 v1 v2 v3 v4 v5 th (.map (some wb)) hd ac tb) 110):=hcut.out.2.1
  have HB5:Hid (Bl w wc):=hcut.out.2.2.1
  have hzb:=hcut.out.2.2.2
  have HRR4:Hid (R=if goesB wt x.a wa=false then 73 else if goesB wt x.b wbb=false then 73 else 0):=by show _=_;rw[HRR3.out,if_neg (by rw[hzb];decide)]
  clear HRR3 hzb hcut
  generalize wc=W5 at HX5 HQ5 HB5 ⊢
  clear HX4 HQ4 HB4 CC y0 y1 y2 y3 hwv hic
  have y0:=HX5.out.cell 4 (v:=.string x.a.ref.head) rfl
  have y1:=HX5.out.cell 5 (v:=.string x.a.ref.name) rfl
  have y2:=HX5.out.cell 6 (v:=.int .u64 (hiOf x.a.const)) rfl
  have y3:=HX5.out.cell 7 (v:=.int .u64 (loOf x.a.const)) rfl
  have CG:Hid (Cs 231 #[.int .i64 wt,.agg (OpdC x.a),.int .i64 wa] W5 fun e w'=>e=.returned (.bool (goesB wt x.a wa))∧Bl W5 w'):=goesInto_any wt x.a wa k7 W5
  go_wp2_with fail
  refine CG.out.mono ?_
  rintro e W6 ⟨rfl,hb6⟩
  have HX6:=hblk HX5 hb6
  have HQ6:=hblk HQ5 hb6
  have HB6:Hid (Bl w W6):=bst HB5.out hb6 (Nat.le_refl _)
  have CN:Hid (∀ b r,Cs 145 #[.pointer (some ⟨cb,0,none⟩),.bool b,.int .i64 r] W6 fun e w'=>w'=W6∧((b=true∧e=.returned (.tuple #[]))∨(b=false∧e=.panicked [pf r th]))):=need_two (HQ6.out.cell 6 rfl)
  clear hb6 CG y0 y1 y2 y3 HX5 HQ5 HB5
  go_wp2_with fail
  refine(CN.out _ _).mono ?_
  rintro e w2 ⟨hw2,hh⟩
  obtain rfl:=Eq.symm hw2
  rcases hh with⟨hq,rfl⟩|⟨hq,rfl⟩
  case inr=>
   have HE:Hid (R=73):=by show _=_;rw[HRR4.out,if_pos hq]
   clear hq
   go_wp2
   exact⟨rfl,HB6.out,by rw[HE.out];exact .inr ⟨by decide,rfl⟩⟩
  case inl=>
   have HRR5:Hid (R=if goesB wt x.b wbb=false then 73 else 0):=by show _=_;rw[HRR4.out,if_neg (by rw[hq];decide)]
   clear hq HRR4 CN
   have y0:=HX6.out.cell 8 (v:=.string x.b.ref.head) rfl
   have y1:=HX6.out.cell 9 (v:=.string x.b.ref.name) rfl
   have y2:=HX6.out.cell 10 (v:=.int .u64 (hiOf x.b.const)) rfl
   have y3:=HX6.out.cell 11 (v:=.int .u64 (loOf x.b.const)) rfl
   have CG:Hid (Cs 231 #[.int .i64 wt,.agg (OpdC x.b),.int .i64 wbb] W6 fun e w'=>e=.returned (.bool (goesB wt x.b wbb))∧Bl W6 w'):=goesInto_any wt x.b wbb k10 W6
   go_wp2_with fail
   refine CG.out.mono ?_
   rintro e W7 ⟨rfl,hb7⟩
   have HX7:=hblk HX6 hb7
   have HQ7:=hblk HQ6 hb7
   have HB7:Hid (Bl w W7):=bst HB6.out hb7 (Nat.le_refl _)
   have CN:Hid (∀ b r,Cs 145 #[.pointer (some ⟨cb,0,none⟩),.bool b,.int .i64 r] W7 fun e w'=>w'=W7∧((b=true∧e=.returned (.tuple #[]))∨(b=false∧e=.panicked [pf r th]))):=need_two (HQ7.out.cell 6 rfl)
   clear hb7 CG y0 y1 y2 y3 HX6 HQ6 HB6
   go_wp2_with fail
   refine(CN.out _ _).mono ?_
   rintro e w2 ⟨hw2,hh⟩
   obtain rfl:=Eq.symm hw2
   rcases hh with⟨hq,rfl⟩|⟨hq,rfl⟩
   case inr=>
    have HE:Hid (R=73):=by show _=_;rw[HRR5.out,if_pos hq]
    clear hq
    go_wp2
    exact⟨rfl,HB7.out,by rw[HE.out];exact .inr ⟨by decide,rfl⟩⟩
   case inl=>
    have HE:Hid (R=0):=by show _=_;rw[HRR5.out,if_neg (by rw[hq];decide)]
    clear hq
    go_wp2
    first|go_end0|refine bodyPost_ret (results_none rfl _ _ _) rfl ?_
    exact⟨HB7.out,by rw[HE.out];exact .inl ⟨rfl,rfl⟩⟩
def madeStp (s:Stp):Option Stp:=
 if s.kind=1 then some ⟨1,s.to,s.op,s.a,if s.op=0 then zeroO else s.b⟩
 else if s.kind=2 then some ⟨2,zeroR,0,zeroO,zeroO⟩
 else if s.kind=3 then some ⟨3,⟨s.to.head,⟨#[]⟩⟩,0,zeroO,zeroO⟩
 else if s.kind=4 then some ⟨4,⟨s.to.head,⟨#[]⟩⟩,0,zeroO,zeroO⟩
 else if s.kind=5 then some ⟨5,s.to,0,zeroO,zeroO⟩
 else if s.kind=6 then some ⟨6,zeroR,0,zeroO,zeroO⟩
 else none
def isStp (s:Stp):Bool:=match madeStp s with
 | some m=>decide (s=m)&&(isOpN s.op&&(isOpd s.a&&isOpd s.b))
 | none=>false
theorem isStep_any (s:Stp)(w:World):Calls Tryz.prog 204 #[.agg (StpC s)] w fun e w'=>e=.returned (.bool (isStp s))∧Below w.heap.size w w':=by
 obtain⟨k,r,p,a,b⟩:=s
 by_cases h1:k=1
 ·subst h1
  by_cases hp:p=0
  ·subst hp;exact isStep_1z r a b w
  ·have e:madeStp ⟨1,r,p,a,b⟩=some ⟨1,r,p,a,b⟩:=by simp[madeStp,hp]
   rw[isStp,e];exact isStep_1n r p hp a b w
 by_cases h2:k=2
 ·subst h2;exact isStep_2 r p a b w
 by_cases h3:k=3
 ·subst h3;exact isStep_3 r p a b w
 by_cases h4:k=4
 ·subst h4;exact isStep_4 r p a b w
 by_cases h5:k=5
 ·subst h5;exact isStep_5 r p a b w
 by_cases h6:k=6
 ·subst h6;exact isStep_6 r p a b w
 have e:madeStp ⟨k,r,p,a,b⟩=none:=by simp[madeStp,h1,h2,h3,h4,h5,h6]
 rw[isStp,e]
 exact isStep_not k h1 h2 h3 h4 h5 h6 r p a b w
def stepE (hh:ByteArray→Bool)(W:Rf→Int)(ps:List Fld)(x:Stp):Int:=
 if isStp x=false then 75 else if x.kind=1 then setE W ps x else if x.kind=3∨x.kind=4 then(if hh x.to.head=false then 72 else 0)
 else if x.kind=5 then(if(!decide (x.to.head=tMeta)&&decide (0<W x.to))=false then 72 else if W x.to=16 then 0 else 73) else 0
theorem checkStep_any (w:World)(cb wb hb m:Nat)(g:Rf→Option Int)(hns:List ByteArray)(v0 v1 v2 v3 v4 v5 ac tb:Value)(th:ByteArray)(v:Value)(ps:List Fld)(x:Stp)(hx:StpOk x)(hr:FldRow w v ps)(hB:Blk w cb (ChkC v0 v1 v2 v3 v4 v5 th (.map (some wb)) (.map (some hb)) ac tb) 110)(hW:MapR w wb m g)(hH:SetT w hb hns):
  Calls Tryz.prog 152 #[.pointer (some ⟨cb,0,none⟩),.agg (StpC x),v] w fun e w'=>Below w.heap.size w w'∧Res (stepE (hasT hns) (fun r=>(g r).getD 0) ps x) th e:=by
 obtain⟨ad,cap,rfl,_⟩:=hr.1.slice
 have HOK:Hid (StpOk x):=hx
 have k2:=hx.2.1
 have k3:=hx.2.2.1
 have HRR : Hid (stepE (hasT hns) (fun r => (g r).getD 0) ps x = if isStp x = false then 75 else if x.kind = 1 then setE (fun r => (g r).getD 0) ps x else if x.kind = 3 ∨ x.kind = 4 then (if hasT hns x.to.head = false then 72 else 0)
   else if x.kind = 5 then (if (!decide (x.to.head = tMeta) && decide (0 < (g x.to).getD 0)) = false then 72 else if (g x.to).getD 0 = 16 then 0 else 73) else 0) := rfl
 generalize stepE (hasT hns) (fun r=>(g r).getD 0) ps x=R at*
 have HA:Hid (Bl w (w.alloc (.cells (StpC x) 167))):=(Below.refl _ _).alloc (Nat.le_refl _) _
 have HX:Hid (Blk (w.alloc (.cells (StpC x) 167)) w.heap.size (StpC x) 167):=Blk.new _ _ _
 have HQ:Hid (Blk (w.alloc (.cells (StpC x) 167)) cb (ChkC v0 v1 v2 v3 v4 v5 th (.map (some wb)) (.map (some hb)) ac tb) 110):=hB.below HA.out
 have HM:Hid (MapR (w.alloc (.cells (StpC x) 167)) wb m g):=hW.below HA.out
 have HH:Hid (SetT (w.alloc (.cells (StpC x) 167)) hb hns):=hH.below HA.out
 have HRw:Hid (FldRow (w.alloc (.cells (StpC x) 167)) (.slice ad ps.length cap) ps):=hr.pres (pres_below HA.out)
 clear hr hB hW hH hx
 unfold StpC
 go_enter Tryz.func152,Tryz.ntmps152
 go_upto_region 1 with fail
 generalize (w.alloc _)=W at HA HX HQ HM HH HRw ⊢
 obtain⟨xb,hxb⟩:∃ xb,xb=w.heap.size:=⟨_,rfl⟩
 rw[← hxb] at HX ⊢
 clear hxb
 obtain⟨x0,x1,x2,x3,x4,x5,x6,x7,x8,x9,x10,x11⟩:=HX.out.c12
 have CI:Hid (Cs 204 #[.agg (StpC x)] W fun e w'=>e=.returned (.bool (isStp x))∧Bl W w'):=isStep_any x W
 go_wp2_with fail
 refine CI.out.mono ?_
 rintro e W2 ⟨rfl,hb2⟩
 have HX2:=hblk HX hb2
 have HQ2:=hblk HQ hb2
 have HM2:Hid (MapR W2 wb m g):=HM.out.below hb2
 have HH2:Hid (SetT W2 hb hns):=HH.out.below hb2
 have HR2:Hid (FldRow W2 (.slice ad ps.length cap) ps):=HRw.out.pres (pres_below hb2)
 have HB2:Hid (Bl w W2):=bst HA.out hb2 (Nat.le_refl _)
 have CN:Hid (∀ b r,Cs 145 #[.pointer (some ⟨cb,0,none⟩),.bool b,.int .i64 r] W2 fun e w'=>w'=W2∧((b=true∧e=.returned (.tuple #[]))∨(b=false∧e=.panicked [pf r th]))):=need_two (HQ2.out.cell 6 rfl)
 clear hb2 CI HX HQ HM HH HRw HA x0 x1 x2 x3 x4 x5 x6 x7 x8 x9 x10 x11
 go_wp2_with fail
 refine(CN.out _ _).mono ?_
 rintro e w2 ⟨hw2,hh⟩
 obtain rfl:=Eq.symm hw2
 rcases hh with⟨hq,rfl⟩|⟨hq,rfl⟩
 case inr=>
  have HE:Hid (R=75):=by show _=_;rw[HRR.out,if_pos hq]
  clear hq
  go_wp2
  exact⟨rfl,HB2.out,by rw[HE.out];exact .inr ⟨by decide,rfl⟩⟩
 case inl=>
  have HRR2 : Hid (R = if x.kind = 1 then setE (fun r => (g r).getD 0) ps x else if x.kind = 3 ∨ x.kind = 4 then (if hasT hns x.to.head = false then 72 else 0)
    else if x.kind = 5 then (if (!decide (x.to.head = tMeta) && decide (0 < (g x.to).getD 0)) = false then 72 else if (g x.to).getD 0 = 16 then 0 else 73) else 0) := by show _ = _; rw [HRR.out, if_neg (by rw [hq]; decide)]
  clear hq HRR CN
  have CY:Hid (∀ r w,Cs 145 #[.pointer (some ⟨cb,0,none⟩),.bool true,.int .i64 r] w fun e w'=>e=.returned (.tuple #[])∧w'=w):=fun r w=>need_yes cb r w
  have CNo:Hid (∀ r k,Cs 145 #[.pointer (some ⟨cb,0,none⟩),.bool false,.int .i64 r] (W2.drewN k) fun e w'=>e=.panicked [pf r th]∧w'=W2.drewN k):=fun r k=>need_no cb r th (W2.drewN k) (HQ2.out.cell 6 rfl)
  have HBd:Hid (∀ k,Bl w (W2.drewN k)):=fun k=>⟨HB2.out.os,HB2.out.tape,HB2.out.output,HB2.out.size,HB2.out.block⟩
  by_cases hk1:x.kind=1
  ·have HE0:Hid (R=setE (fun r=>(g r).getD 0) ps x):=by show _=_;rw[HRR2.out,if_pos hk1]
   obtain⟨x0,x1,x2,x3,x4,x5,x6,x7,x8,x9,x10,x11⟩:=HX2.out.c12
   have CS:Hid (Cs 205 #[.pointer (some ⟨cb,0,none⟩),.agg (StpC x),.slice ad ps.length cap] W2 fun e w'=>Bl W2 w'∧Res (setE (fun r=>(g r).getD 0) ps x) th e):=checkSet_any W2 cb wb m g _ _ _ _ _ _ _ _ _ _ _ ps x HOK.out HR2.out HQ2.out HM2.out
   clear HRR2
   generalize setE (fun r=>(g r).getD 0) ps x=sE at*
   generalize ps.length=pl at*
   have hk1':(x.kind==1)=true:=by simpa using hk1
   clear hk1
   go_wp2_with fail
   refine CS.out.mono ?_
   rintro e W3 ⟨hb3,hres⟩
   have HB3:Hid (Bl w W3):=bst HB2.out hb3 (Nat.le_refl _)
   clear hb3 CS
   rcases hres with⟨hE,rfl⟩|⟨hE,rfl⟩
   ·have HE:Hid (R=0):=by show _=_;rw[HE0.out,hE]
    clear hE
    go_wp2
    first|go_end0|refine bodyPost_ret (results_none rfl _ _ _) rfl ?_
    exact⟨HB3.out,by rw[HE.out];exact .inl ⟨rfl,rfl⟩⟩
   ·have HE:Hid (sE≠0):=hE
    clear hE
    go_wp2
    exact⟨rfl,HB3.out,by rw[HE0.out];exact .inr ⟨HE.out,rfl⟩⟩
  ·have hk1':(x.kind==1)=false:=by simpa using hk1
   have x0:=HX2.out.cell 0 (v:=.int .i64 x.kind) rfl
   have x1:=HX2.out.cell 1 (v:=.string x.to.head) rfl
   have x2:=HX2.out.cell 2 (v:=.string x.to.name) rfl
   by_cases hk34:x.kind=3∨x.kind=4
   ·have HE0:Hid (R=if hasT hns x.to.head=false then 72 else 0):=by show _=_;rw[HRR2.out,if_neg hk1,if_pos hk34]
    have q8:=HQ2.out.cell 8 (v:=.map (some hb)) rfl
    have CH:Hid (∀ k,Cs 198 #[.map (some hb),.string x.to.head] (W2.drewN k) fun e w'=>e=.returned (.bool (hasT hns x.to.head))∧w'=W2.drewN k):=fun k=>has_any (w:=W2.drewN k) HH2.out x.to.head k2
    clear HRR2 hk1 hk1'
    rcases hk34 with hk|hk
    ·skip
     rw[hk] at x0
     clear hk
     go_upto_region 7 with fail
     cases hhq:hasT hns x.to.head with
     | false=>
      rw[hhq] at CH
      have HE:Hid (R=72):=by show _=_;rw[HE0.out,if_pos hhq]
      clear HE0 hhq
      refine region_ends_lit (by kernel_rfl) (by kernel_rfl) (by kernel_rfl) rfl ?_
      simp only[swapLast,stand]
      repeat (go_big_quiet_step ((go_at_call 198;exact Calls.quiet_of_same (CH.out _))))
      refine wpQuiet_nil ?_
      intro wq hwq Kq
      obtain⟨kq,hwq⟩:=hwq
      subst hwq
      unfold Oper.wp
      go_simp
      refine(CNo.out _ _).mono ?_
      rintro e w1 ⟨rfl,hw1⟩
      rw[hw1]
      exact⟨rfl,HBd.out _,by rw[HE.out];exact .inr ⟨by decide,rfl⟩⟩
     | true=>
      rw[hhq] at CH
      have HE:Hid (R=0):=by show _=_;rw[HE0.out,if_neg (by rw[hhq];decide)]
      clear HE0 hhq
      go_quiet (first
        | (go_at_call 198; exact Calls.quiet_of_same (CH.out _))
        | (go_at_call 145; exact Calls.quiet_of_same (CY.out _ _)))
      go_wp2
      first|go_end0|refine bodyPost_ret (results_none rfl _ _ _) rfl ?_
      exact⟨HBd.out _,by rw[HE.out];exact .inl ⟨rfl,rfl⟩⟩
    ·skip
     rw[hk] at x0
     clear hk
     go_upto_region 7 with fail
     cases hhq:hasT hns x.to.head with
     | false=>
      rw[hhq] at CH
      have HE:Hid (R=72):=by show _=_;rw[HE0.out,if_pos hhq]
      clear HE0 hhq
      refine region_ends_lit (by kernel_rfl) (by kernel_rfl) (by kernel_rfl) rfl ?_
      simp only[swapLast,stand]
      repeat (go_big_quiet_step ((go_at_call 198;exact Calls.quiet_of_same (CH.out _))))
      refine wpQuiet_nil ?_
      intro wq hwq Kq
      obtain⟨kq,hwq⟩:=hwq
      subst hwq
      unfold Oper.wp
      go_simp
      refine(CNo.out _ _).mono ?_
      rintro e w1 ⟨rfl,hw1⟩
      rw[hw1]
      exact⟨rfl,HBd.out _,by rw[HE.out];exact .inr ⟨by decide,rfl⟩⟩
     | true=>
      rw[hhq] at CH
      have HE:Hid (R=0):=by show _=_;rw[HE0.out,if_neg (by rw[hhq];decide)]
      clear HE0 hhq
      go_quiet (first
        | (go_at_call 198; exact Calls.quiet_of_same (CH.out _))
        | (go_at_call 145; exact Calls.quiet_of_same (CY.out _ _)))
      go_wp2
      first|go_end0|refine bodyPost_ret (results_none rfl _ _ _) rfl ?_
      exact⟨HBd.out _,by rw[HE.out];exact .inl ⟨rfl,rfl⟩⟩
   ·have hk3:(x.kind==3)=false:=by simp;omega
    have hk4:(x.kind==4)=false:=by simp;omega
    by_cases hk5:x.kind=5
    ·have HE0:Hid (R=if(!decide (x.to.head=tMeta)&&decide (0<(g x.to).getD 0))=false then 72 else if(g x.to).getD 0=16 then 0 else 73):=by show _=_;rw[HRR2.out,if_neg hk1,if_neg hk34,if_pos hk5]
     have q7:=HQ2.out.cell 7 (v:=.map (some wb)) rfl
     have hL:∀ k,(Instr.lookup 107 (.map (some wb)) (.agg #[.string x.to.head,.string x.to.name]) false).run Tryz.prog (W2.drewN k)=.ok (.int .i64 ((g x.to).getD 0)) (W2.drewN k):=fun k=>MapR.look1 (w:=W2.drewN k) HM2.out x.to k2 k3
     have e1:=lit_eq x.to.head [109,101,116,97]
     have e1':(x.to.head.toList==[109,101,116,97])=decide (x.to.head=tMeta):=e1
     generalize (g x.to).getD 0=wv at*
     generalize hmt:decide (x.to.head=tMeta)=mt at*
     rw[hk5] at x0
     clear HRR2 hk1 hk34 hk1' hk3 hk4 hk5 e1 hmt
     go_upto_region 9 with fail
     cases mt with
     | true=>
      have HE:Hid (R=72):=by show _=_;rw[HE0.out];rfl
      clear HE0
      refine region_ends_lit (by kernel_rfl) (by kernel_rfl) (by kernel_rfl) rfl ?_
      simp only[swapLast,stand]
      repeat (go_big_quiet_step (fail))
      refine wpQuiet_nil ?_
      intro wq hwq Kq
      obtain⟨kq,hwq⟩:=hwq
      subst hwq
      unfold Oper.wp
      go_simp
      refine(CNo.out _ _).mono ?_
      rintro e w1 ⟨rfl,hw1⟩
      rw[hw1]
      exact⟨rfl,HBd.out _,by rw[HE.out];exact .inr ⟨by decide,rfl⟩⟩
     | false=>
      by_cases hpos:0<wv
      case neg=>
       have HE:Hid (R=72):=by show _=_;rw[HE0.out,decide_eq_false hpos];rfl
       have hp1:decide (0<wv)=false:=decide_eq_false hpos
       clear HE0 hpos
       refine region_ends_lit (by kernel_rfl) (by kernel_rfl) (by kernel_rfl) rfl ?_
       simp only[swapLast,stand]
       repeat (go_big_quiet_step (fail))
       refine wpQuiet_nil ?_
       intro wq hwq Kq
       obtain⟨kq,hwq⟩:=hwq
       subst hwq
       unfold Oper.wp
       go_simp
       refine(CNo.out _ _).mono ?_
       rintro e w1 ⟨rfl,hw1⟩
       rw[hw1]
       exact⟨rfl,HBd.out _,by rw[HE.out];exact .inr ⟨by decide,rfl⟩⟩
      case pos=>
       have HE1:Hid (R=if wv=16 then 0 else 73):=by show _=_;rw[HE0.out,decide_eq_true hpos];rfl
       have hp1:decide (0<wv)=true:=decide_eq_true hpos
       clear HE0
       go_quiet ((go_at_call 145;exact Calls.quiet_of_same (CY.out _ _)))
       have HX3:Hid (Blk (W2.drewN nq) xb (StpC x) 167):=HX2.out
       have HQ3:Hid (Blk (W2.drewN nq) cb (ChkC v0 v1 v2 v3 v4 v5 th (.map (some wb)) (.map (some hb)) ac tb) 110):=HQ2.out
       have HM3:Hid (MapR (W2.drewN nq) wb m g):=HM2.out
       have HB3:Hid (Bl w (W2.drewN nq)):=HBd.out nq
       have hL3:∀ k,(Instr.lookup 107 (.map (some wb)) (.agg #[.string x.to.head,.string x.to.name]) false).run Tryz.prog ((W2.drewN nq).drewN k)=.ok (.int .i64 wv) ((W2.drewN nq).drewN k):=fun k=>by have:=hL (nq+k);simpa[World.drewN,Nat.add_assoc] using this
       generalize W2.drewN nq=W3 at HX3 HQ3 HM3 HB3 hL3 ⊢
       clear hL CNo HBd HX2 HQ2 HM2 HB2 x0 x1 x2 q7
       have x1:=HX3.out.cell 1 (v:=.string x.to.head) rfl
       have x2:=HX3.out.cell 2 (v:=.string x.to.name) rfl
       have q7:=HQ3.out.cell 7 (v:=.map (some wb)) rfl
       have CNo:Hid (∀ r k,Cs 145 #[.pointer (some ⟨cb,0,none⟩),.bool false,.int .i64 r] (W3.drewN k) fun e w'=>e=.panicked [pf r th]∧w'=W3.drewN k):=fun r k=>need_no cb r th (W3.drewN k) (HQ3.out.cell 6 rfl)
       have HBd:Hid (∀ k,Bl w (W3.drewN k)):=fun k=>⟨HB3.out.os,HB3.out.tape,HB3.out.output,HB3.out.size,HB3.out.block⟩
       go_upto_region 10 with fail
       by_cases h16:wv=16
       case neg=>
        have HE:Hid (R=73):=by show _=_;rw[HE1.out,if_neg h16]
        have h16':(wv==16)=false:=by simpa using h16
        clear HE1 h16
        refine region_ends_lit (by kernel_rfl) (by kernel_rfl) (by kernel_rfl) rfl ?_
        simp only[swapLast,stand]
        repeat (go_big_quiet_step (fail))
        refine wpQuiet_nil ?_
        intro wq hwq Kq
        obtain⟨kq,hwq⟩:=hwq
        subst hwq
        unfold Oper.wp
        go_simp
        refine(CNo.out _ _).mono ?_
        rintro e w1 ⟨rfl,hw1⟩
        rw[hw1]
        exact⟨rfl,HBd.out _,by rw[HE.out];exact .inr ⟨by decide,rfl⟩⟩
       case pos=>
        have HE:Hid (R=0):=by show _=_;rw[HE1.out,if_pos h16]
        have h16':(wv==16)=true:=by simpa using h16
        clear HE1 h16
        go_quiet ((go_at_call 145;exact Calls.quiet_of_same (CY.out _ _)))
        go_wp2
        first|go_end0|refine bodyPost_ret (results_none rfl _ _ _) rfl ?_
        exact⟨HBd.out _,by rw[HE.out];exact .inl ⟨rfl,rfl⟩⟩
    ·have HE:Hid (R=0):=by show _=_;rw[HRR2.out,if_neg hk1,if_neg hk34,if_neg hk5]
     have hk5':(x.kind==5)=false:=by simpa using hk5
     clear HRR2 hk1 hk34 hk5
     go_wp2
     first|go_end0|refine bodyPost_ret (results_none rfl _ _ _) rfl ?_
     exact⟨HB2.out,by rw[HE.out];exact .inl ⟨rfl,rfl⟩⟩
end Go.Proofs.YtmbpclknhkbbkaaGreat
