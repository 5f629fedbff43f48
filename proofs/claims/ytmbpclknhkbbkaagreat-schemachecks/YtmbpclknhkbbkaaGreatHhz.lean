/- The document's operandWidth. -/
import Derived.Test.YtmbpclknhkbbkaaGreatHbz
set_option linter.unusedSimpArgs false
set_option linter.unusedVariables false
set_option maxHeartbeats 4000000
set_option maxRecDepth 100000
namespace Go.Proofs.YtmbpclknhkbbkaaGreat
open Go.RowKit
def opW (s:Sch)(ps:List Fld)(o:Opd):Option Int:=if o.ref=zeroR then some 0 else if o.ref.head=⟨#[]⟩ then(ps.find? fun f=>decide (f.name=o.ref.name)).map (·.width) else widO s o.ref
theorem opw_any (v:Value)(s:Sch)(u:Value)(ps:List Fld)(o:Opd)(w:World)(hs:SchIs w v s)(hr:FldRow w u ps):Calls Tryz.prog 219 #[v,u,.agg #[.string o.ref.head,.string o.ref.name,.int .u64 (hiOf o.const),.int .u64 (loOf o.const)]] w fun e w'=>e=.returned (.tuple #[.int .i64 ((opW s ps o).getD 0),.bool (opW s ps o).isSome])∧Below w.heap.size w w':=by
 obtain⟨v0,v1,v2,v3,v4,v5,rfl,_⟩:=id hs
 obtain⟨ad,cap,rfl,_⟩:=hr.1.slice
 have hlen:ps.length*24≤140737488351232:=hr.2
 have HRow:Hid (FldRow w (.slice ad ps.length cap) ps):=hr
 have HR:Hid (opW s ps o=if o.ref=zeroR then some 0 else if o.ref.head=⟨#[]⟩ then(ps.find? fun f=>decide (f.name=o.ref.name)).map (·.width) else widO s o.ref):=rfl
 generalize opW s ps o=R at*
 have C1:Hid (∀ V,Cs 209 #[.agg #[.string o.ref.head,.string o.ref.name]] V fun e w'=>e=.returned (.bool (decide (o.ref=zeroR)))∧Bl V w'):=fun V=>zref_any o.ref V
 have C2:Hid (∀ V,Bl w V→Cs 208 #[.slice ad ps.length cap,.string o.ref.name] V fun e w'=>e=.returned (.int .i64 (fldAt ps o.ref.name))∧w'=V):=fun V h=>rfield_any _ ps _ V (HRow.out.pres (pres_below h))
 have C3:Hid (∀ V,SchIs V (.agg #[v0,v1,v2,v3,v4,v5]) s→Cs 165 #[.agg #[v0,v1,v2,v3,v4,v5],.agg #[.string o.ref.head,.string o.ref.name]] V fun e w'=>e=.returned (.tuple #[.int .i64 ((widO s o.ref).getD 0),.bool (widO s o.ref).isSome])∧Bl V w'):=fun V h=>rwidth_any _ s o.ref V h
 have e1:=emp_eq o.ref.head
 have e2:=lit_eq o.ref.head []
 have H:Hid (Sb w w.heap.size v0 v1 v2 v3 v4 v5 s ((w.alloc (.cells #[v0,v1,v2,v3,v4,v5] 34)).alloc (.cells (OpdC o) 123))∧Blk ((w.alloc (.cells #[v0,v1,v2,v3,v4,v5] 34)).alloc (.cells (OpdC o) 123)) (w.heap.size+1) (OpdC o) 123):=⟨(sb_new hs).more _,blk_two _ _ _ _⟩
 clear hs hr
 go_enter Tryz.func219,Tryz.ntmps219
 go_upto_region 1 with fail
 generalize ((w.alloc _).alloc _)=W0 at H ⊢
 obtain⟨xb,hxb⟩:∃ xb,xb=w.heap.size:=⟨_,rfl⟩
 obtain⟨zb,hzb⟩:∃ zb,zb=w.heap.size+1:=⟨_,rfl⟩
 rw[← hzb,← hxb] at H
 rw[← hzb,← hxb]
 clear hxb hzb
 have z0:=H.out.2.cell 0 (v:=.string o.ref.head) rfl
 have z1:=H.out.2.cell 1 (v:=.string o.ref.name) rfl
 go_wp2_with fail
 refine(C1.out _).mono ?_
 rintro e W1 ⟨rfl,hb⟩
 have H1:Hid (Sb w xb v0 v1 v2 v3 v4 v5 s W1∧Blk W1 zb (OpdC o) 123):=⟨H.out.1.below hb,H.out.2.below hb⟩
 clear hb H z0 z1 C1
 by_cases h0:o.ref=zeroR
 ·rw[if_pos h0] at HR
  rw[decide_eq_true h0]
  go_wp2
  refine bodyPost_ret (v:=.tuple #[.int .i64 0,.bool true]) (by simp[results,Tryz.results219,go_sem]) rfl ⟨by rw[HR.out];rfl,H1.out.1.bel⟩
 rw[if_neg h0] at HR
 rw[decide_eq_false h0]
 have z0:=H1.out.2.cell 0 (v:=.string o.ref.head) rfl
 have z1:=H1.out.2.cell 1 (v:=.string o.ref.name) rfl
 by_cases h1:o.ref.head=⟨#[]⟩
 ·rw[if_pos h1] at HR
  rw[decide_eq_true h1] at e1
  rw[show decide (o.ref.head=⟨[].toArray⟩)=true from decide_eq_true h1] at e2
  go_wp2_with fail
  refine(C2.out _ H1.out.1.bel).mono ?_
  rintro e wq ⟨rfl,hwq⟩
  rw[hwq]
  clear C2 hwq wq C3
  rcases fldAt_cases ps o.ref.name with⟨hi,hf⟩|⟨i,f,hx,hi,hf⟩
  ·rw[hi]
   rw[hf] at HR
   go_wp2
   refine bodyPost_ret (v:=.tuple #[.int .i64 0,.bool false]) (by simp[results,Tryz.results219,go_sem]) rfl ⟨by rw[HR.out];rfl,H1.out.1.bel⟩
  ·rw[hi]
   rw[hf] at HR
   obtain⟨b,of,cs,rfl,_,hc,rfl,_⟩:=HRow.out.1.at hx
   have hil:i<ps.length:=(List.getElem?_eq_some_iff.1 hx).1
   have q1:W1.cell? ⟨b,of+i*2+1,none⟩=some (.int .i64 f.width):=by have:=pres_below H1.out.1.bel _ _ (hc 1 (.int .i64 f.width) rfl);simpa using this
   have hii:(0:Int)≤(i:Int)∧(i:Int)<(ps.length:Int):=by omega
   have hin:¬((i:Int)<0):=by omega
   clear hc hx
   go_wp2
   refine bodyPost_ret (v:=.tuple #[.int .i64 f.width,.bool true]) (by simp[results,Tryz.results219,go_sem]) rfl ⟨by rw[HR.out];rfl,H1.out.1.bel⟩
 ·rw[if_neg h1] at HR
  rw[decide_eq_false h1] at e1
  rw[show decide (o.ref.head=⟨[].toArray⟩)=false from decide_eq_false h1] at e2
  obtain⟨x0,x1,x2,x3,x4,x5⟩:=H1.out.1.c
  rw[← HR.out] at C3
  go_wp2_with fail
  refine(C3.out _ H1.out.1.sch).mono ?_
  rintro e W2 ⟨rfl,hb⟩
  have H2:Hid (Sb w xb v0 v1 v2 v3 v4 v5 s W2∧Blk W2 zb (OpdC o) 123):=⟨H1.out.1.below hb,H1.out.2.below hb⟩
  clear hb H1 z0 z1 x0 x1 x2 x3 x4 x5 C3 HR
  go_wp2
  refine bodyPost_ret (v:=.tuple #[.int .i64 (R.getD 0),.bool R.isSome]) (by simp[results,Tryz.results219,go_sem]) rfl ⟨rfl,H2.out.1.bel⟩
def setD (s:Sch)(ps:List Fld)(x:Stp):Int:=if(widO s x.to).isSome=false then 72 else if(opW s ps x.a).isSome=false then 72 else if(opW s ps x.b).isSome=false then 72 else if(agreesB x.a ((opW s ps x.a).getD 0) ((widO s x.to).getD 0)&&agreesB x.b ((opW s ps x.b).getD 0) ((widO s x.to).getD 0))=false then 73 else 0
theorem rset_any (v:Value)(s:Sch)(u:Value)(ps:List Fld)(x:Stp)(w:World)(hs:SchIs w v s)(hr:FldRow w u ps)(hx:StpOk x):Calls Tryz.prog 215 #[v,u,.agg #[.int .i64 x.kind,.string x.to.head,.string x.to.name,.int .i64 x.op,.string x.a.ref.head,.string x.a.ref.name,.int .u64 (hiOf x.a.const),.int .u64 (loOf x.a.const),.string x.b.ref.head,.string x.b.ref.name,.int .u64 (hiOf x.b.const),.int .u64 (loOf x.b.const)]] w fun e w'=>e=.returned (.int .i64 (setD s ps x))∧Below w.heap.size w w':=by
 obtain⟨v0,v1,v2,v3,v4,v5,rfl,_⟩:=id hs
 have HR:Hid (setD s ps x=if(widO s x.to).isSome=false then 72 else if(opW s ps x.a).isSome=false then 72 else if(opW s ps x.b).isSome=false then 72 else if(agreesB x.a ((opW s ps x.a).getD 0) ((widO s x.to).getD 0)&&agreesB x.b ((opW s ps x.b).getD 0) ((widO s x.to).getD 0))=false then 73 else 0):=rfl
 generalize setD s ps x=R at*
 have C1:Hid (∀ V,SchIs V (.agg #[v0,v1,v2,v3,v4,v5]) s→Cs 165 #[.agg #[v0,v1,v2,v3,v4,v5],.agg #[.string x.to.head,.string x.to.name]] V fun e w'=>e=.returned (.tuple #[.int .i64 ((widO s x.to).getD 0),.bool (widO s x.to).isSome])∧Bl V w'):=fun V h=>rwidth_any _ s x.to V h
 have C2:Hid (∀ V,SchIs V (.agg #[v0,v1,v2,v3,v4,v5]) s→Pres w V→Cs 219 #[.agg #[v0,v1,v2,v3,v4,v5],u,.agg (OpdC x.a)] V fun e w'=>e=.returned (.tuple #[.int .i64 ((opW s ps x.a).getD 0),.bool (opW s ps x.a).isSome])∧Bl V w'):=fun V h hp=>opw_any _ s u ps x.a V h (hr.pres hp)
 have C3:Hid (∀ V,SchIs V (.agg #[v0,v1,v2,v3,v4,v5]) s→Pres w V→Cs 219 #[.agg #[v0,v1,v2,v3,v4,v5],u,.agg (OpdC x.b)] V fun e w'=>e=.returned (.tuple #[.int .i64 ((opW s ps x.b).getD 0),.bool (opW s ps x.b).isSome])∧Bl V w'):=fun V h hp=>opw_any _ s u ps x.b V h (hr.pres hp)
 have C4:Hid (∀ V,Cs 220 #[.agg (OpdC x.a),.int .i64 ((opW s ps x.a).getD 0),.int .i64 ((widO s x.to).getD 0)] V fun e w'=>e=.returned (.bool (agreesB x.a ((opW s ps x.a).getD 0) ((widO s x.to).getD 0)))∧Bl V w'):=fun V=>agrees_any x.a hx.2.2.2.2.1.2.2 _ _ V
 have C5:Hid (∀ V,Cs 220 #[.agg (OpdC x.b),.int .i64 ((opW s ps x.b).getD 0),.int .i64 ((widO s x.to).getD 0)] V fun e w'=>e=.returned (.bool (agreesB x.b ((opW s ps x.b).getD 0) ((widO s x.to).getD 0)))∧Bl V w'):=fun V=>agrees_any x.b hx.2.2.2.2.2.2.2 _ _ V
 clear hr hx
 generalize agreesB x.a ((opW s ps x.a).getD 0) ((widO s x.to).getD 0)=ga at*
 generalize agreesB x.b ((opW s ps x.b).getD 0) ((widO s x.to).getD 0)=gb at*
 generalize (opW s ps x.a).getD 0=wa at*
 generalize (opW s ps x.b).getD 0=wb at*
 generalize (widO s x.to).getD 0=wt at*
 generalize (opW s ps x.a).isSome=oa at*
 generalize (opW s ps x.b).isSome=ob at*
 generalize (widO s x.to).isSome=ot at*
 have H:Hid (Sb w w.heap.size v0 v1 v2 v3 v4 v5 s ((w.alloc (.cells #[v0,v1,v2,v3,v4,v5] 34)).alloc (.cells (StpC x) 167))∧Blk ((w.alloc (.cells #[v0,v1,v2,v3,v4,v5] 34)).alloc (.cells (StpC x) 167)) (w.heap.size+1) (StpC x) 167):=⟨(sb_new hs).more _,blk_two _ _ _ _⟩
 clear hs
 go_enter Tryz.func215,Tryz.ntmps215
 go_upto_region 1 with fail
 generalize ((w.alloc _).alloc _)=W0 at H ⊢
 obtain⟨xb,hxb⟩:∃ xb,xb=w.heap.size:=⟨_,rfl⟩
 obtain⟨zb,hzb⟩:∃ zb,zb=w.heap.size+1:=⟨_,rfl⟩
 rw[← hzb,← hxb] at H
 rw[← hzb,← hxb]
 clear hxb hzb
 obtain⟨x0,x1,x2,x3,x4,x5⟩:=H.out.1.c
 have z1:=H.out.2.cell 1 (v:=.string x.to.head) rfl
 have z2:=H.out.2.cell 2 (v:=.string x.to.name) rfl
 go_wp2_with fail
 refine(C1.out _ H.out.1.sch).mono ?_
 rintro e W1 ⟨rfl,hb⟩
 have H1:Hid (Sb w xb v0 v1 v2 v3 v4 v5 s W1∧Blk W1 zb (StpC x) 167):=⟨H.out.1.below hb,H.out.2.below hb⟩
 clear hb H x0 x1 x2 x3 x4 x5 z1 z2 C1
 cases ot with
 | false=>go_wp2;go_ret;exact⟨by rw[HR.out];rfl,H1.out.1.bel⟩
 | true=>
  rw[if_neg (by simp)] at HR
  obtain⟨x0,x1,x2,x3,x4,x5⟩:=H1.out.1.c
  have z4:=H1.out.2.cell 4 (v:=.string x.a.ref.head) rfl
  have z5:=H1.out.2.cell 5 (v:=.string x.a.ref.name) rfl
  have z6:=H1.out.2.cell 6 (v:=.int .u64 (hiOf x.a.const)) rfl
  have z7:=H1.out.2.cell 7 (v:=.int .u64 (loOf x.a.const)) rfl
  go_wp2_with fail
  refine(C2.out _ H1.out.1.sch (pres_below H1.out.1.bel)).mono ?_
  rintro e W2 ⟨rfl,hb⟩
  have H2:Hid (Sb w xb v0 v1 v2 v3 v4 v5 s W2∧Blk W2 zb (StpC x) 167):=⟨H1.out.1.below hb,H1.out.2.below hb⟩
  clear hb H1 x0 x1 x2 x3 x4 x5 z4 z5 z6 z7 C2
  cases oa with
  | false=>go_wp2;go_ret;exact⟨by rw[HR.out];rfl,H2.out.1.bel⟩
  | true=>
   rw[if_neg (by simp)] at HR
   obtain⟨x0,x1,x2,x3,x4,x5⟩:=H2.out.1.c
   have z8:=H2.out.2.cell 8 (v:=.string x.b.ref.head) rfl
   have z9:=H2.out.2.cell 9 (v:=.string x.b.ref.name) rfl
   have z10:=H2.out.2.cell 10 (v:=.int .u64 (hiOf x.b.const)) rfl
   have z11:=H2.out.2.cell 11 (v:=.int .u64 (loOf x.b.const)) rfl
   go_wp2_with fail
   refine(C3.out _ H2.out.1.sch (pres_below H2.out.1.bel)).mono ?_
   rintro e W3 ⟨rfl,hb⟩
   have H3:Hid (Sb w xb v0 v1 v2 v3 v4 v5 s W3∧Blk W3 zb (StpC x) 167):=⟨H2.out.1.below hb,H2.out.2.below hb⟩
   clear hb H2 x0 x1 x2 x3 x4 x5 z8 z9 z10 z11 C3
   cases ob with
   | false=>go_wp2;go_ret;exact⟨by rw[HR.out];rfl,H3.out.1.bel⟩
   | true=>
    rw[if_neg (by simp)] at HR
    have z4:=H3.out.2.cell 4 (v:=.string x.a.ref.head) rfl
    have z5:=H3.out.2.cell 5 (v:=.string x.a.ref.name) rfl
    have z6:=H3.out.2.cell 6 (v:=.int .u64 (hiOf x.a.const)) rfl
    have z7:=H3.out.2.cell 7 (v:=.int .u64 (loOf x.a.const)) rfl
    go_wp2_with fail
    refine(C4.out _).mono ?_
    rintro e W4 ⟨rfl,hb⟩
    have H4:Hid (Sb w xb v0 v1 v2 v3 v4 v5 s W4∧Blk W4 zb (StpC x) 167):=⟨H3.out.1.below hb,H3.out.2.below hb⟩
    clear hb H3  z4 z5 z6 z7 C4
    have z8:=H4.out.2.cell 8 (v:=.string x.b.ref.head) rfl
    have z9:=H4.out.2.cell 9 (v:=.string x.b.ref.name) rfl
    have z10:=H4.out.2.cell 10 (v:=.int .u64 (hiOf x.b.const)) rfl
    have z11:=H4.out.2.cell 11 (v:=.int .u64 (loOf x.b.const)) rfl
    go_wp2_with fail
    refine(C5.out _).mono ?_
    rintro e W5 ⟨rfl,hb⟩
    have H5:Hid (Sb w xb v0 v1 v2 v3 v4 v5 s W5∧Blk W5 zb (StpC x) 167):=⟨H4.out.1.below hb,H4.out.2.below hb⟩
    clear hb H4  z8 z9 z10 z11 C5
    cases ga<;>cases gb<;>(go_wp2;go_ret;exact⟨by rw[HR.out];rfl,H5.out.1.bel⟩)
def stepD (s:Sch)(ps:List Fld)(x:Stp):Int:=if isStp x=false then 75 else if x.kind=1 then setD s ps x else if x.kind=3∨x.kind=4 then(if hdrAt s x.to.head<0 then 72 else 0) else if x.kind=5 then(if(!(widO s x.to).isSome||decide (x.to.head=tMeta))=true then 72 else if(widO s x.to).getD 0=16 then 0 else 73) else 0
theorem rstep_any (v:Value)(s:Sch)(u:Value)(ps:List Fld)(x:Stp)(w:World)(hs:SchIs w v s)(hr:FldRow w u ps)(hx:StpOk x):Calls Tryz.prog 161 #[v,u,.agg #[.int .i64 x.kind,.string x.to.head,.string x.to.name,.int .i64 x.op,.string x.a.ref.head,.string x.a.ref.name,.int .u64 (hiOf x.a.const),.int .u64 (loOf x.a.const),.string x.b.ref.head,.string x.b.ref.name,.int .u64 (hiOf x.b.const),.int .u64 (loOf x.b.const)]] w fun e w'=>e=.returned (.int .i64 (stepD s ps x))∧Below w.heap.size w w':=by
 obtain⟨v0,v1,v2,v3,v4,v5,rfl,_⟩:=id hs
 have HR:Hid (stepD s ps x=if isStp x=false then 75 else if x.kind=1 then setD s ps x else if x.kind=3∨x.kind=4 then(if hdrAt s x.to.head<0 then 72 else 0) else if x.kind=5 then(if(!(widO s x.to).isSome||decide (x.to.head=tMeta))=true then 72 else if(widO s x.to).getD 0=16 then 0 else 73) else 0):=rfl
 generalize stepD s ps x=R at*
 have C1:Hid (∀ V,Cs 214 #[.agg (StpC x)] V fun e w'=>e=.returned (.bool (isStp x))∧Bl V w'):=fun V=>pmade_any x V
 have C2:Hid (∀ V,SchIs V (.agg #[v0,v1,v2,v3,v4,v5]) s→Pres w V→Cs 215 #[.agg #[v0,v1,v2,v3,v4,v5],u,.agg (StpC x)] V fun e w'=>e=.returned (.int .i64 (setD s ps x))∧Bl V w'):=fun V h hp=>rset_any _ s u ps x V h (hr.pres hp) hx
 have C3:Hid (∀ V,SchIs V (.agg #[v0,v1,v2,v3,v4,v5]) s→Cs 129 #[.agg #[v0,v1,v2,v3,v4,v5],.string x.to.head] V fun e w'=>e=.returned (.int .i64 (hdrAt s x.to.head))∧Bl V w'):=fun V h=>rhdrAt_any _ s x.to.head V h
 have C4:Hid (∀ V,SchIs V (.agg #[v0,v1,v2,v3,v4,v5]) s→Cs 165 #[.agg #[v0,v1,v2,v3,v4,v5],.agg #[.string x.to.head,.string x.to.name]] V fun e w'=>e=.returned (.tuple #[.int .i64 ((widO s x.to).getD 0),.bool (widO s x.to).isSome])∧Bl V w'):=fun V h=>rwidth_any _ s x.to V h
 have e1:(x.to.head.toList==[109,101,116,97])=decide (x.to.head=tMeta):=lit_eq x.to.head [109,101,116,97]
 clear hr hx
 generalize isStp x=ip at*
 generalize setD s ps x=sd at*
 generalize hdrAt s x.to.head=ha at*
 generalize (widO s x.to).getD 0=wt at*
 generalize (widO s x.to).isSome=ot at*
 generalize decide (x.to.head=tMeta)=tm at*
 have H:Hid (Sb w w.heap.size v0 v1 v2 v3 v4 v5 s ((w.alloc (.cells #[v0,v1,v2,v3,v4,v5] 34)).alloc (.cells (StpC x) 167))∧Blk ((w.alloc (.cells #[v0,v1,v2,v3,v4,v5] 34)).alloc (.cells (StpC x) 167)) (w.heap.size+1) (StpC x) 167):=⟨(sb_new hs).more _,blk_two _ _ _ _⟩
 clear hs
 go_enter Tryz.func161,Tryz.ntmps161
 go_upto_region 1 with fail
 generalize ((w.alloc _).alloc _)=W0 at H ⊢
 obtain⟨xb,hxb⟩:∃ xb,xb=w.heap.size:=⟨_,rfl⟩
 obtain⟨zb,hzb⟩:∃ zb,zb=w.heap.size+1:=⟨_,rfl⟩
 rw[← hzb,← hxb] at H
 rw[← hzb,← hxb]
 clear hxb hzb
 obtain⟨z0,z1,z2,z3,z4,z5,z6,z7,z8,z9,z10,z11⟩:=H.out.2.c12
 go_wp2_with fail
 refine(C1.out _).mono ?_
 rintro e W1 ⟨rfl,hb⟩
 have H1:Hid (Sb w xb v0 v1 v2 v3 v4 v5 s W1∧Blk W1 zb (StpC x) 167):=⟨H.out.1.below hb,H.out.2.below hb⟩
 clear hb H  z0 z1 z2 z3 z4 z5 z6 z7 z8 z9 z10 z11 C1
 cases ip with
 | false=>go_wp2;go_ret;exact⟨by rw[HR.out];rfl,H1.out.1.bel⟩
 | true=>
  rw[if_neg (by simp)] at HR
  have k0:=H1.out.2.cell 0 (v:=.int .i64 x.kind) rfl
  by_cases k1:x.kind=1
  ·rw[if_pos k1] at HR
   have k1':(x.kind==1)=true:=by simpa using k1
   clear k0 k1
   obtain⟨x0,x1,x2,x3,x4,x5⟩:=H1.out.1.c
   obtain⟨z0,z1,z2,z3,z4,z5,z6,z7,z8,z9,z10,z11⟩:=H1.out.2.c12
   go_wp2_with fail
   refine(C2.out _ H1.out.1.sch (pres_below H1.out.1.bel)).mono ?_
   rintro e W2 ⟨rfl,hb⟩
   have H2:Hid (Sb w xb v0 v1 v2 v3 v4 v5 s W2∧Blk W2 zb (StpC x) 167):=⟨H1.out.1.below hb,H1.out.2.below hb⟩
   clear hb H1 x0 x1 x2 x3 x4 x5 z0 z1 z2 z3 z4 z5 z6 z7 z8 z9 z10 z11 C2
   go_wp2;go_ret;exact⟨by rw[HR.out];rfl,H2.out.1.bel⟩
  rw[if_neg k1] at HR
  have k1':(x.kind==1)=false:=by simpa using k1
  by_cases k34:x.kind=3∨x.kind=4
  ·rw[if_pos k34] at HR
   rcases k34 with k3|k3
   ·rw[k3] at k0
    obtain⟨x0,x1,x2,x3,x4,x5⟩:=H1.out.1.c
    have z1:=H1.out.2.cell 1 (v:=.string x.to.head) rfl
    go_wp2_with fail
    refine(C3.out _ H1.out.1.sch).mono ?_
    rintro e W2 ⟨rfl,hb⟩
    have H2:Hid (Sb w xb v0 v1 v2 v3 v4 v5 s W2∧Blk W2 zb (StpC x) 167):=⟨H1.out.1.below hb,H1.out.2.below hb⟩
    clear hb H1 x0 x1 x2 x3 x4 x5 z1 C3 k0
    by_cases h0:ha<0
    ·have h0':decide (ha<0)=true:=decide_eq_true h0
     rw[if_pos h0] at HR
     go_wp2;go_ret;exact⟨by rw[HR.out];rfl,H2.out.1.bel⟩
    ·have h0':decide (ha<0)=false:=decide_eq_false h0
     rw[if_neg h0] at HR
     go_wp2;go_ret;exact⟨by rw[HR.out];rfl,H2.out.1.bel⟩
   ·rw[k3] at k0
    obtain⟨x0,x1,x2,x3,x4,x5⟩:=H1.out.1.c
    have z1:=H1.out.2.cell 1 (v:=.string x.to.head) rfl
    go_wp2_with fail
    refine(C3.out _ H1.out.1.sch).mono ?_
    rintro e W2 ⟨rfl,hb⟩
    have H2:Hid (Sb w xb v0 v1 v2 v3 v4 v5 s W2∧Blk W2 zb (StpC x) 167):=⟨H1.out.1.below hb,H1.out.2.below hb⟩
    clear hb H1 x0 x1 x2 x3 x4 x5 z1 C3 k0
    by_cases h0:ha<0
    ·have h0':decide (ha<0)=true:=decide_eq_true h0
     rw[if_pos h0] at HR
     go_wp2;go_ret;exact⟨by rw[HR.out];rfl,H2.out.1.bel⟩
    ·have h0':decide (ha<0)=false:=decide_eq_false h0
     rw[if_neg h0] at HR
     go_wp2;go_ret;exact⟨by rw[HR.out];rfl,H2.out.1.bel⟩
  rw[if_neg k34] at HR
  have k3':(x.kind==3)=false:=by simp;omega
  have k4':(x.kind==4)=false:=by simp;omega
  by_cases k5:x.kind=5
  ·rw[if_pos k5] at HR
   rw[k5] at k0
   obtain⟨x0,x1,x2,x3,x4,x5⟩:=H1.out.1.c
   have z1:=H1.out.2.cell 1 (v:=.string x.to.head) rfl
   have z2:=H1.out.2.cell 2 (v:=.string x.to.name) rfl
   go_wp2_with fail
   refine(C4.out _ H1.out.1.sch).mono ?_
   rintro e W2 ⟨rfl,hb⟩
   have H2:Hid (Sb w xb v0 v1 v2 v3 v4 v5 s W2∧Blk W2 zb (StpC x) 167):=⟨H1.out.1.below hb,H1.out.2.below hb⟩
   clear hb H1 x0 x1 x2 x3 x4 x5 z1 z2 C4 k0
   have z1:=H2.out.2.cell 1 (v:=.string x.to.head) rfl
   cases ot with
   | false=>go_wp2;go_ret;exact⟨by rw[HR.out];rfl,H2.out.1.bel⟩
   | true=>
    cases tm with
    | true=>go_wp2;go_ret;exact⟨by rw[HR.out];rfl,H2.out.1.bel⟩
    | false=>
     rw[if_neg (by simp)] at HR
     by_cases h16:wt=16
     ·subst h16
      rw[if_pos rfl] at HR
      go_wp2;go_ret;exact⟨by rw[HR.out];rfl,H2.out.1.bel⟩
     ·rw[if_neg h16] at HR
      have h16':(wt==16)=false:=by simpa using h16
      go_wp2;go_ret;exact⟨by rw[HR.out];rfl,H2.out.1.bel⟩
  ·rw[if_neg k5] at HR
   have k5':(x.kind==5)=false:=by simpa using k5
   go_wp2;go_ret;exact⟨by rw[HR.out];rfl,H1.out.1.bel⟩
end Go.Proofs.YtmbpclknhkbbkaaGreat
