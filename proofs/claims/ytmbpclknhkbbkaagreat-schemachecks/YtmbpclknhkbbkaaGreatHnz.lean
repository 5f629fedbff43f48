/- The document's test. -/
import Derived.Test.YtmbpclknhkbbkaaGreatHhz
import Derived.Test.YtmbpclknhkbbkaaGreatHcz
import Derived.Test.YtmbpclknhkbbkaaGreatGaz
set_option linter.unusedSimpArgs false
set_option linter.unusedVariables false
set_option maxHeartbeats 8000000
set_option maxRecDepth 100000
namespace Go.Proofs.YtmbpclknhkbbkaaGreat
open Go.RowKit
theorem no_fields (w:World):FldRow w (.slice none 0 0) []:=⟨⟨none,0,rfl,Nat.le_refl _,.inl rfl⟩,by unfold Len;simp⟩
def testD (s:Sch)(t:Tst):Int:=if t.kind=1 then(if hdrAt s t.a.ref.head<0 then 72 else 0) else if(opW s [] t.a).isSome=false then 72 else if(opW s [] t.b).isSome=false then 72 else if((decide (((opW s [] t.a).getD 0)=0)&&(decide (((opW s [] t.b).getD 0)=0)||!agreesB t.a ((opW s [] t.a).getD 0) ((opW s [] t.b).getD 0)))||(!decide (((opW s [] t.a).getD 0)=0)&&!agreesB t.b ((opW s [] t.b).getD 0) ((opW s [] t.a).getD 0)))=true then 73 else 0
theorem rtest_any (v:Value)(s:Sch)(t:Tst)(w:World)(hs:SchIs w v s)(ht:TstOk t):Calls Tryz.prog 164 #[v,.agg #[.int .i64 t.kind,.string t.a.ref.head,.string t.a.ref.name,.int .u64 (hiOf t.a.const),.int .u64 (loOf t.a.const),.string t.b.ref.head,.string t.b.ref.name,.int .u64 (hiOf t.b.const),.int .u64 (loOf t.b.const)]] w fun e w'=>e=.returned (.int .i64 (testD s t))∧Below w.heap.size w w':=by
 obtain⟨v0,v1,v2,v3,v4,v5,rfl,_⟩:=id hs
 have HR:Hid (testD s t=if t.kind=1 then(if hdrAt s t.a.ref.head<0 then 72 else 0) else if(opW s [] t.a).isSome=false then 72 else if(opW s [] t.b).isSome=false then 72 else if((decide (((opW s [] t.a).getD 0)=0)&&(decide (((opW s [] t.b).getD 0)=0)||!agreesB t.a ((opW s [] t.a).getD 0) ((opW s [] t.b).getD 0)))||(!decide (((opW s [] t.a).getD 0)=0)&&!agreesB t.b ((opW s [] t.b).getD 0) ((opW s [] t.a).getD 0)))=true then 73 else 0):=rfl
 generalize testD s t=R at*
 have C1:Hid (∀ V,SchIs V (.agg #[v0,v1,v2,v3,v4,v5]) s→Cs 129 #[.agg #[v0,v1,v2,v3,v4,v5],.string t.a.ref.head] V fun e w'=>e=.returned (.int .i64 (hdrAt s t.a.ref.head))∧Bl V w'):=fun V h=>rhdrAt_any _ s t.a.ref.head V h
 have C2:Hid (∀ V,SchIs V (.agg #[v0,v1,v2,v3,v4,v5]) s→Cs 219 #[.agg #[v0,v1,v2,v3,v4,v5],.slice none 0 0,.agg (OpdC t.a)] V fun e w'=>e=.returned (.tuple #[.int .i64 ((opW s [] t.a).getD 0),.bool (opW s [] t.a).isSome])∧Bl V w'):=fun V h=>opw_any _ s _ [] t.a V h (no_fields _)
 have C3:Hid (∀ V,SchIs V (.agg #[v0,v1,v2,v3,v4,v5]) s→Cs 219 #[.agg #[v0,v1,v2,v3,v4,v5],.slice none 0 0,.agg (OpdC t.b)] V fun e w'=>e=.returned (.tuple #[.int .i64 ((opW s [] t.b).getD 0),.bool (opW s [] t.b).isSome])∧Bl V w'):=fun V h=>opw_any _ s _ [] t.b V h (no_fields _)
 have C4:Hid (∀ V,Cs 220 #[.agg (OpdC t.a),.int .i64 ((opW s [] t.a).getD 0),.int .i64 ((opW s [] t.b).getD 0)] V fun e w'=>e=.returned (.bool (agreesB t.a ((opW s [] t.a).getD 0) ((opW s [] t.b).getD 0)))∧Bl V w'):=fun V=>agrees_any t.a ht.2.1.2.2 _ _ V
 have C5:Hid (∀ V,Cs 220 #[.agg (OpdC t.b),.int .i64 ((opW s [] t.b).getD 0),.int .i64 ((opW s [] t.a).getD 0)] V fun e w'=>e=.returned (.bool (agreesB t.b ((opW s [] t.b).getD 0) ((opW s [] t.a).getD 0)))∧Bl V w'):=fun V=>agrees_any t.b ht.2.2.2.2 _ _ V
 clear ht
 generalize agreesB t.a ((opW s [] t.a).getD 0) ((opW s [] t.b).getD 0)=ga at*
 generalize agreesB t.b ((opW s [] t.b).getD 0) ((opW s [] t.a).getD 0)=gb at*
 generalize ((opW s [] t.a).getD 0)=wa at*
 generalize ((opW s [] t.b).getD 0)=wb at*
 generalize (opW s [] t.a).isSome=oa at*
 generalize (opW s [] t.b).isSome=ob at*
 generalize hdrAt s t.a.ref.head=ha at*
 have H:Hid (Sb w w.heap.size v0 v1 v2 v3 v4 v5 s ((w.alloc (.cells #[v0,v1,v2,v3,v4,v5] 34)).alloc (.cells (TstC t) 125))∧Blk ((w.alloc (.cells #[v0,v1,v2,v3,v4,v5] 34)).alloc (.cells (TstC t) 125)) (w.heap.size+1) (TstC t) 125):=⟨(sb_new hs).more _,blk_two _ _ _ _⟩
 clear hs
 go_enter Tryz.func164,Tryz.ntmps164
 go_upto_region 1 with fail
 generalize ((w.alloc _).alloc _)=W0 at H ⊢
 obtain⟨xb,hxb⟩:∃ xb,xb=w.heap.size:=⟨_,rfl⟩
 obtain⟨zb,hzb⟩:∃ zb,zb=w.heap.size+1:=⟨_,rfl⟩
 rw[← hzb,← hxb] at H
 rw[← hzb,← hxb]
 clear hxb hzb
 have k0:=H.out.2.cell 0 (v:=.int .i64 t.kind) rfl
 by_cases k1:t.kind=1
 ·rw[if_pos k1] at HR
  rw[k1] at k0
  obtain⟨x0,x1,x2,x3,x4,x5⟩:=H.out.1.c
  have z1:=H.out.2.cell 1 (v:=.string t.a.ref.head) rfl
  go_wp2_with fail
  refine(C1.out _ H.out.1.sch).mono ?_
  rintro e W1 ⟨rfl,hb⟩
  have H1:Hid (Sb w xb v0 v1 v2 v3 v4 v5 s W1∧Blk W1 zb (TstC t) 125):=⟨H.out.1.below hb,H.out.2.below hb⟩
  clear hb H x0 x1 x2 x3 x4 x5 z1 C1 k0
  by_cases h0:ha<0
  ·have h0':decide (ha<0)=true:=decide_eq_true h0
   rw[if_pos h0] at HR
   go_wp2;go_ret;exact⟨by rw[HR.out];rfl,H1.out.1.bel⟩
  ·have h0':decide (ha<0)=false:=decide_eq_false h0
   rw[if_neg h0] at HR
   go_wp2;go_ret;exact⟨by rw[HR.out];rfl,H1.out.1.bel⟩
 rw[if_neg k1] at HR
 have k1':(t.kind==1)=false:=by simpa using k1
 obtain⟨x0,x1,x2,x3,x4,x5⟩:=H.out.1.c
 have z1:=H.out.2.cell 1 (v:=.string t.a.ref.head) rfl
 have z2:=H.out.2.cell 2 (v:=.string t.a.ref.name) rfl
 have z3:=H.out.2.cell 3 (v:=.int .u64 (hiOf t.a.const)) rfl
 have z4:=H.out.2.cell 4 (v:=.int .u64 (loOf t.a.const)) rfl
 go_wp2_with fail
 refine(C2.out _ H.out.1.sch).mono ?_
 rintro e W1 ⟨rfl,hb⟩
 have H1:Hid (Sb w xb v0 v1 v2 v3 v4 v5 s W1∧Blk W1 zb (TstC t) 125):=⟨H.out.1.below hb,H.out.2.below hb⟩
 clear hb H x0 x1 x2 x3 x4 x5 z1 z2 z3 z4 C2 k0 C1
 cases oa with
 | false=>go_wp2;go_ret;exact⟨by rw[HR.out];rfl,H1.out.1.bel⟩
 | true=>
  rw[if_neg (by simp)] at HR
  obtain⟨x0,x1,x2,x3,x4,x5⟩:=H1.out.1.c
  have z5:=H1.out.2.cell 5 (v:=.string t.b.ref.head) rfl
  have z6:=H1.out.2.cell 6 (v:=.string t.b.ref.name) rfl
  have z7:=H1.out.2.cell 7 (v:=.int .u64 (hiOf t.b.const)) rfl
  have z8:=H1.out.2.cell 8 (v:=.int .u64 (loOf t.b.const)) rfl
  go_wp2_with fail
  refine(C3.out _ H1.out.1.sch).mono ?_
  rintro e W2 ⟨rfl,hb⟩
  have H2:Hid (Sb w xb v0 v1 v2 v3 v4 v5 s W2∧Blk W2 zb (TstC t) 125):=⟨H1.out.1.below hb,H1.out.2.below hb⟩
  clear hb H1 x0 x1 x2 x3 x4 x5 z5 z6 z7 z8 C3
  cases ob with
  | false=>go_wp2;go_ret;exact⟨by rw[HR.out];rfl,H2.out.1.bel⟩
  | true=>
   rw[if_neg (by simp)] at HR
   have z1:=H2.out.2.cell 1 (v:=.string t.a.ref.head) rfl
   have z2:=H2.out.2.cell 2 (v:=.string t.a.ref.name) rfl
   have z3:=H2.out.2.cell 3 (v:=.int .u64 (hiOf t.a.const)) rfl
   have z4:=H2.out.2.cell 4 (v:=.int .u64 (loOf t.a.const)) rfl
   go_wp2_with fail
   refine(C4.out _).mono ?_
   rintro e W3 ⟨rfl,hb⟩
   have H3:Hid (Sb w xb v0 v1 v2 v3 v4 v5 s W3∧Blk W3 zb (TstC t) 125):=⟨H2.out.1.below hb,H2.out.2.below hb⟩
   clear hb H2  z1 z2 z3 z4 C4
   have z5:=H3.out.2.cell 5 (v:=.string t.b.ref.head) rfl
   have z6:=H3.out.2.cell 6 (v:=.string t.b.ref.name) rfl
   have z7:=H3.out.2.cell 7 (v:=.int .u64 (hiOf t.b.const)) rfl
   have z8:=H3.out.2.cell 8 (v:=.int .u64 (loOf t.b.const)) rfl
   go_wp2_with fail
   refine(C5.out _).mono ?_
   rintro e W4 ⟨rfl,hb⟩
   have H4:Hid (Sb w xb v0 v1 v2 v3 v4 v5 s W4∧Blk W4 zb (TstC t) 125):=⟨H3.out.1.below hb,H3.out.2.below hb⟩
   clear hb H3  z5 z6 z7 z8 C5
   by_cases pa:wa=0
   ·rw[decide_eq_true pa] at HR
    subst pa
    by_cases pb:wb=0
    ·rw[decide_eq_true pb] at HR
     subst pb
     cases ga<;>cases gb<;>(go_wp2;go_ret;exact⟨by rw[HR.out];rfl,H4.out.1.bel⟩)
    ·rw[decide_eq_false pb] at HR
     have pb':(wb==0)=false:=by simpa using pb
     cases ga<;>cases gb<;>(go_wp2;go_ret;exact⟨by rw[HR.out];rfl,H4.out.1.bel⟩)
   ·rw[decide_eq_false pa] at HR
    have pa':(wa==0)=false:=by simpa using pa
    cases ga<;>cases gb<;>(go_wp2;go_ret;exact⟨by rw[HR.out];rfl,H4.out.1.bel⟩)
def stgD (s:Sch)(ap:List ByteArray)(y:Stg):Int:=if isStg y=false then 75 else if y.kind=1 then(if tblAt s y.table<0 then 72 else if hasT ap y.table=true then 71 else 0) else if y.kind=2 then testD s y.test else 0
def ctlD (s:Sch):List (Stg × Int)→List ByteArray→Int
 |[],_=>0
 | p :: l,ap=>if stgD s ap p.1≠0 then stgD s ap p.1 else ctlD s l (stgA ap p.1)
theorem ctlD_step {s:Sch}{l:List (Stg × Int)}{k:Nat}{p:Stg × Int}(hk:l[k]?=some p)(ap:List ByteArray):ctlD s (l.drop k) ap=if stgD s ap p.1≠0 then stgD s ap p.1 else ctlD s (l.drop (k+1)) (stgA ap p.1):=by
 obtain⟨h,e⟩:=List.getElem?_eq_some_iff.1 hk
 rw[List.drop_eq_getElem_cons h,e,ctlD]
def controlD (s:Sch):Int:=if sizeE s.control≠0 then sizeE s.control else ctlD s (preL s.control 1) []
def apS (l:List (Stg × Int))(k:Nat):List ByteArray:=(l.take k).foldl (fun ap p=>stgA ap p.1) []
theorem apS_succ {l:List (Stg × Int)}{k:Nat}{p:Stg × Int}(hk:l[k]?=some p):apS l (k+1)=stgA (apS l k) p.1:=by
 unfold apS
 rw[List.take_add_one,hk,List.foldl_append]
 rfl
theorem apS_iff (l:List (Stg × Int))(nm:ByteArray):∀(k:Nat),hasT (apS l k) nm=true↔∃ j p,j<k∧l[j]?=some p∧p.1.kind=1∧p.1.table=nm
 | 0=>by
  constructor
  ·intro h;simp[apS,hasT] at h
  ·rintro⟨j,p,h,_⟩;omega
 | k+1=>by
  have ih:=apS_iff l nm k
  cases hk:l[k]? with
  | none=>
   have e:apS l (k+1)=apS l k:=by unfold apS;rw[List.take_add_one,hk];simp
   rw[e,ih]
   constructor
   ·rintro⟨j,p,h1,h2⟩;exact⟨j,p,by omega,h2⟩
   ·rintro⟨j,p,h1,h2,h3⟩
    by_cases hj:j=k
    ·subst hj;rw[hk] at h2;cases h2
    ·exact⟨j,p,by omega,h2,h3⟩
  | some q=>
   rw[apS_succ hk,hasT_iff]
   rw[hasT_iff] at ih
   unfold stgA
   by_cases h1:q.1.kind=1
   ·rw[if_pos h1,List.mem_cons,ih]
    constructor
    ·rintro(h|⟨j,p,h2,h3⟩)
     ·exact⟨k,q,by omega,hk,h1,h.symm⟩
     ·exact⟨j,p,by omega,h3⟩
    ·rintro⟨j,p,h2,h3,h4,h5⟩
     by_cases hj:j=k
     ·subst hj;rw[hk] at h3;cases h3;exact .inl h5.symm
     ·exact .inr ⟨j,p,by omega,h3,h4,h5⟩
   ·rw[if_neg h1,ih]
    constructor
    ·rintro⟨j,p,h2,h3⟩;exact⟨j,p,by omega,h3⟩
    ·rintro⟨j,p,h2,h3,h4,h5⟩
     by_cases hj:j=k
     ·subst hj;rw[hk] at h3;cases h3;exact absurd h4 h1
     ·exact⟨j,p,by omega,h3,h4,h5⟩
theorem rcontrol_any (v:Value)(s:Sch)(w:World)(hs:SchIs w v s):Calls Tryz.prog 76 #[v] w fun e w'=>e=.returned (.int .i64 (controlD s))∧Below w.heap.size w w':=by
 obtain⟨v0,v1,v2,v3,v4,v5,rfl,_⟩:=id hs
 have H:Hid (Sb w w.heap.size v0 v1 v2 v3 v4 v5 s (w.alloc (.cells #[v0,v1,v2,v3,v4,v5] 34))):=sb_new hs
 clear hs
 have HE:Hid (controlD s=if sizeE s.control≠0 then sizeE s.control else ctlD s (preL s.control 1) []):=rfl
 generalize controlD s=R at*
 go_enter Tryz.func76,Tryz.ntmps76
 go_upto_region 1 with fail
 generalize (w.alloc _)=W0 at H ⊢
 obtain⟨xb,hxb⟩:∃ xb,xb=w.heap.size:=⟨_,rfl⟩
 rw[← hxb] at H ⊢
 clear hxb
 have C1:Hid (Cs 88 #[.agg #[v0,v1,v2,v3,v4,v5]] W0 fun e w'=>StgsOut W0 (W0.heap.size+1) s.control e w'∧Bl W0 w'):=rstages_any _ s W0 H.out.sch
 obtain⟨x0,x1,x2,x3,x4,x5⟩:=H.out.c
 go_wp2_with fail
 refine C1.out.mono ?_
 rintro e W1 ⟨hO,hb⟩
 have H1:Hid (Sb w xb v0 v1 v2 v3 v4 v5 s W1∧Bl W1 W1):=⟨H.out.below hb,Below.refl _ _⟩
 clear hb H C1 x0 x1 x2 x3 x4 x5
 rcases hO with⟨hz,oa,oc,vs,rfl,hown,hval,hl⟩|⟨hz,rfl⟩
 case inr=>
  have hz':(sizeE s.control==0)=false:=by simpa using hz
  rw[if_pos hz] at HE
  go_wp2;go_ret;exact⟨by rw[HE.out];rfl,H1.out.1.bel⟩
 have HF0:Hid (ctlD s ((preL s.control 1).drop 0) (apS (preL s.control 1) 0)=R):=by show _=_;rw[HE.out,if_neg (by simpa using hz)];rfl
 have HOW:Hid (W1.ownsRow (W0.heap.size+1) 135 14 (.slice oa (preL s.control 1).length oc) (preL s.control 1).length vs):=hown
 have HVL:Hid (OutV W0 (preL s.control 1) vs):=hval
 clear hown hval HE hz
 generalize preL s.control 1=L at*
 obtain⟨n,hn⟩:∃ n,n=L.length:=⟨_,rfl⟩
 have HN:Hid (n=L.length):=hn
 rw[← hn] at HOW hl ⊢
 clear hn
 have CT:Hid (∀ y V,Sb w xb v0 v1 v2 v3 v4 v5 s V→Cs 131 #[.agg #[v0,v1,v2,v3,v4,v5],.string y] V fun e w'=>e=.returned (.int .i64 (tblAt s y))∧Bl V w'):=fun y V h=>rtblAt_any _ s y V h.sch
 go_wp2_with fail
 go_loopw [5] (fun i wr=>∃ k:Nat,k≤n∧i=.int .i64 k∧Aside (Sb w xb v0 v1 v2 v3 v4 v5 s wr∧Below W1.heap.size W1 wr)∧Aside (ctlD s (L.drop k) (apS L k)=R)) (fun i _=>n - (intOf i).toNat)
 case atStart=>exact⟨0,by omega,rfl,H1.out,HF0.out⟩
 case round=>
  clear HF0 H1
  obtain⟨k,hk,rfl,hS,hd⟩:=hrel
  have H:Hid (Sb w xb v0 v1 v2 v3 v4 v5 s wr∧Bl W1 wr):=hS.out
  have HD:Hid (ctlD s (L.drop k) (apS L k)=R):=hd.out
  clear hS hd
  by_cases hlt:k<n
  ·obtain⟨p,hp⟩:=gE HN.out hlt
   obtain⟨g,rfl,_,hg⟩:=own_at HOW.out (by omega)
   obtain⟨cl,hIs,hcc,_⟩:=HVL.out.at hp
   have HST:Hid (R=if stgD s (apS L k) p.1≠0 then stgD s (apS L k) p.1 else ctlD s (L.drop (k+1)) (apS L (k+1))):=by show _=_;rw[← HD.out,ctlD_step hp,apS_succ hp]
   have HAP:Hid (hasT (apS L k) p.1.table=true↔∃ j q,j<k∧L[j]?=some q∧q.1.kind=1∧q.1.table=p.1.table):=apS_iff L p.1.table k
   obtain⟨nx,hnx⟩:∃ nx,nx=ctlD s (L.drop (k+1)) (apS L (k+1)):=⟨_,rfl⟩
   have HNX:Hid (nx=ctlD s (L.drop (k+1)) (apS L (k+1))):=hnx
   rw[← hnx] at HST
   generalize p.1=y at*
   obtain⟨w1,w2,rfl,hok,hth,hel⟩:=(stgIs_iff W0 y cl).1 hIs
   obtain⟨ta,tc,rfl,_⟩:=hth.slice
   obtain⟨ea,ec,rfl,_⟩:=hel.slice
   have HSD:Hid (stgD s (apS L k) y=if isStg y=false then 75 else if y.kind=1 then(if tblAt s y.table<0 then 72 else if hasT (apS L k) y.table=true then 71 else 0) else if y.kind=2 then testD s y.test else 0):=rfl
   have HV:Hid (∀ V,Bl W1 V→∀ j u,(#[.int .i64 y.kind,.string y.table,.int .i64 y.test.kind,.string y.test.a.ref.head,.string y.test.a.ref.name,.int .u64 (hiOf y.test.a.const),.int .u64 (loOf y.test.a.const),.string y.test.b.ref.head,.string y.test.b.ref.name,.int .u64 (hiOf y.test.b.const),.int .u64 (loOf y.test.b.const),.slice ta y.thn.length tc,.slice ea y.els.length ec]:Array Value)[j]?=some u→V.cell? ⟨g,k*14+j,none⟩=some u):=fun V h j u hu=>pres_below h _ _ (hg _ _ (hcc j u hu))
   have CM:Hid (∀ V,Cs 163 #[.agg #[.int .i64 y.kind,.string y.table,.int .i64 y.test.kind,.string y.test.a.ref.head,.string y.test.a.ref.name,.int .u64 (hiOf y.test.a.const),.int .u64 (loOf y.test.a.const),.string y.test.b.ref.head,.string y.test.b.ref.name,.int .u64 (hiOf y.test.b.const),.int .u64 (loOf y.test.b.const),.slice ta y.thn.length tc,.slice ea y.els.length ec]] V fun e w'=>e=.returned (.bool (isStg y))∧Bl V w'):=fun V=>smade_any y ta ea tc ec V
   have CX:Hid (∀ V,Sb w xb v0 v1 v2 v3 v4 v5 s V→Cs 164 #[.agg #[v0,v1,v2,v3,v4,v5],.agg (TstC y.test)] V fun e w'=>e=.returned (.int .i64 (testD s y.test))∧Bl V w'):=fun V h=>rtest_any _ s y.test V h.sch hok.2.2
   have CY:Hid (∀ V,Sb w xb v0 v1 v2 v3 v4 v5 s V→Cs 131 #[.agg #[v0,v1,v2,v3,v4,v5],.string y.table] V fun e w'=>e=.returned (.int .i64 (tblAt s y.table))∧Bl V w'):=CT.out y.table
   clear hnx hg hcc hIs hok hth hel HD hp
   generalize y.thn.length=tn at*
   generalize y.els.length=en at*
   generalize stgD s (apS L k) y=sd at*
   generalize hasT (apS L k) y.table=hT at*
   generalize isStg y=im at*
   generalize testD s y.test=te at*
   generalize tblAt s y.table=ti at*
   have hdl:decide ((k:Int)<n)=true:=decide_eq_true (by omega)
   have hin:(0:Int)≤(k:Int)∧(k:Int)<(n:Int):=by omega
   have e0:wr.cell? ⟨g,k*14,none⟩=some (.int .i64 y.kind):=by have:=HV.out wr H.out.2 0 _ rfl;simpa using this
   have e1:wr.cell? ⟨g,k*14+1,none⟩=some (.string y.table):=by have:=HV.out wr H.out.2 1 _ rfl;simpa using this
   have e2:wr.cell? ⟨g,k*14+2,none⟩=some (.int .i64 y.test.kind):=by have:=HV.out wr H.out.2 2 _ rfl;simpa using this
   have e3:wr.cell? ⟨g,k*14+3,none⟩=some (.string y.test.a.ref.head):=by have:=HV.out wr H.out.2 3 _ rfl;simpa using this
   have e4:wr.cell? ⟨g,k*14+4,none⟩=some (.string y.test.a.ref.name):=by have:=HV.out wr H.out.2 4 _ rfl;simpa using this
   have e5:wr.cell? ⟨g,k*14+5,none⟩=some (.int .u64 (hiOf y.test.a.const)):=by have:=HV.out wr H.out.2 5 _ rfl;simpa using this
   have e6:wr.cell? ⟨g,k*14+6,none⟩=some (.int .u64 (loOf y.test.a.const)):=by have:=HV.out wr H.out.2 6 _ rfl;simpa using this
   have e7:wr.cell? ⟨g,k*14+7,none⟩=some (.string y.test.b.ref.head):=by have:=HV.out wr H.out.2 7 _ rfl;simpa using this
   have e8:wr.cell? ⟨g,k*14+8,none⟩=some (.string y.test.b.ref.name):=by have:=HV.out wr H.out.2 8 _ rfl;simpa using this
   have e9:wr.cell? ⟨g,k*14+9,none⟩=some (.int .u64 (hiOf y.test.b.const)):=by have:=HV.out wr H.out.2 9 _ rfl;simpa using this
   have e10:wr.cell? ⟨g,k*14+10,none⟩=some (.int .u64 (loOf y.test.b.const)):=by have:=HV.out wr H.out.2 10 _ rfl;simpa using this
   have e11:wr.cell? ⟨g,k*14+11,none⟩=some (.slice ta tn tc):=by have:=HV.out wr H.out.2 11 _ rfl;simpa using this
   have e12:wr.cell? ⟨g,k*14+12,none⟩=some (.slice ea en ec):=by have:=HV.out wr H.out.2 12 _ rfl;simpa using this
   go_wp2_with fail
   refine(CM.out _).mono ?_
   rintro e V1 ⟨rfl,hb⟩
   have H2:Hid (Sb w xb v0 v1 v2 v3 v4 v5 s V1∧Bl W1 V1):=⟨H.out.1.below hb,bst H.out.2 hb⟩
   clear hb H CM e0 e1 e2 e3 e4 e5 e6 e7 e8 e9 e10 e11 e12
   cases im with
   | false=>
    rw[HSD.out] at HST
    go_wp2;go_ret;exact⟨by rw[HST.out];rfl,H2.out.1.bel⟩
   | true=>
   rw[if_neg (by simp)] at HSD
   have e0:V1.cell? ⟨g,k*14,none⟩=some (.int .i64 y.kind):=by have:=HV.out V1 H2.out.2 0 _ rfl;simpa using this
   by_cases k1:y.kind=1
   ·rw[if_pos k1] at HSD
    rw[k1] at e0
    have hk1:y.kind=1:=k1
    clear k1
    obtain⟨X0,X1,X2,X3,X4,X5⟩:=H2.out.1.c
    have X0':=gw_cell X0
    have X1':=gw_cell X1
    have X2':=gw_cell X2
    have X3':=gw_cell X3
    have X4':=gw_cell X4
    have X5':=gw_cell X5
    clear X0 X1 X2 X3 X4 X5
    have r1:∀ z:Grown V1,(gw z).cell? ⟨g,k*14+1,none⟩=some (.string y.table):=gw_cell (by have:=HV.out V1 H2.out.2 1 _ rfl;simpa using this)
    have K131:Hid (∀ z:Grown V1,Sb w xb v0 v1 v2 v3 v4 v5 s (gw z)):=fun z=>H2.out.1.below (gw_below z)
    go_upto_region 12 with fail
    refine region_grows (by kernel_rfl) (by kernel_rfl) ?_
    repeat (go_big_quiet_step ((go_at_call 131;exact calls_gw (CY.out _ (K131.out _)))))
    refine wpQuiet_nil ?_
    intro wq hwq
    obtain⟨zq,hwq⟩:=hwq
    subst hwq
    have H3:Hid (Sb w xb v0 v1 v2 v3 v4 v5 s (gw zq)∧Bl W1 (gw zq)):=⟨H2.out.1.below (gw_below zq),bst H2.out.2 (gw_below zq)⟩
    clear H2 K131 X0' X1' X2' X3' X4' X5' r1 e0 CY
    generalize gw zq=V2 at H3 ⊢
    by_cases hti:ti<0
    ·have hti':decide (ti<0)=true:=decide_eq_true hti
     rw[if_pos hti] at HSD
     rw[HSD.out] at HST
     go_wp2;go_ret;exact⟨by rw[HST.out];rfl,H3.out.1.bel⟩
    have hti':decide (ti<0)=false:=decide_eq_false hti
    rw[if_neg hti] at HSD
    go_wp2_with fail
    go_loopw [7] (fun i wq=>∃ j:Nat,j≤k∧i=.int .i64 j∧Aside (Sb w xb v0 v1 v2 v3 v4 v5 s wq∧Below W1.heap.size W1 wq)∧Aside (∀ i' q,i'<j→L[i']?=some q→¬(q.1.kind=1∧q.1.table=y.table))) (fun i _=>k - (intOf i).toNat)
    case atStart=>exact⟨0,by omega,rfl,H3.out,by intro i' q h;omega⟩
    case round=>
     clear H3
     obtain⟨j,hj,rfl,hS,hno⟩:=hrel
     have H4:Hid (Sb w xb v0 v1 v2 v3 v4 v5 s wr∧Bl W1 wr):=hS.out
     have HNO:Hid (∀ i' q,i'<j→L[i']?=some q→¬(q.1.kind=1∧q.1.table=y.table)):=hno.out
     clear hS hno
     by_cases hjl:j<k
     ·obtain⟨q,hq⟩:∃ q,L[j]?=some q:=⟨L[j]'(by rw[← HN.out];omega),List.getElem?_eq_getElem _⟩
      obtain⟨g2,e2,_,hg2⟩:=own_at HOW.out (by omega)
      cases e2
      obtain⟨cl2,hIs2,hcc2,_⟩:=HVL.out.at hq
      obtain⟨u1,u2,rfl,_⟩:=(stgIs_iff W0 q.1 cl2).1 hIs2
      have f0:wr.cell? ⟨g,j*14,none⟩=some (.int .i64 q.1.kind):=by have:=pres_below H4.out.2 _ _ (hg2 _ _ (hcc2 0 _ rfl));simpa using this
      have f1:wr.cell? ⟨g,j*14+1,none⟩=some (.string q.1.table):=by have:=pres_below H4.out.2 _ _ (hg2 _ _ (hcc2 1 _ rfl));simpa using this
      have e1:wr.cell? ⟨g,k*14+1,none⟩=some (.string y.table):=by have:=HV.out wr H4.out.2 1 _ rfl;simpa using this
      have hdj:decide ((j:Int)<k)=true:=decide_eq_true (by omega)
      have hjn:(0:Int)≤(j:Int)∧(j:Int)<(n:Int):=by omega
      have HYES:Hid (q.1.kind=1→q.1.table=y.table→R=71):=fun h1 h2=>by
       have h3:hT=true:=HAP.out.2 ⟨j,q,hjl,hq,h1,h2⟩
       rw[HST.out,HSD.out,h3];rfl
      have HNN:Hid (¬(q.1.kind=1∧q.1.table=y.table)→∀ i' q',i'<j+1→L[i']?=some q'→¬(q'.1.kind=1∧q'.1.table=y.table)):=fun h i' q' h1 h2 h3=>by
       by_cases hi:i'<j
       ·exact HNO.out i' q' hi h2 h3
       ·have:i'=j:=by omega
        subst this
        rw[hq] at h2
        cases h2
        exact h h3
      have t1:(q.1.table.toList==y.table.toList)=decide (q.1.table=y.table):=txt_eq _ _
      clear hg2 hcc2 hIs2 hq HNO hk1
      by_cases g1:q.1.kind=1
      ·rw[g1] at f0
       by_cases g3:q.1.table=y.table
       ·rw[decide_eq_true g3] at t1
        have HR71:Hid (R=71):=HYES.out g1 g3
        clear HYES HNN g1 g3
        go_upto_region 17 with fail
        go_quiet (fail)
        go_wp2
        go_ret
        exact⟨by rw[HR71.out];rfl,below_drewN H4.out.1.bel _⟩
       ·rw[decide_eq_false g3] at t1
        have HN2:Hid (∀ i' q',i'<j+1→L[i']?=some q'→¬(q'.1.kind=1∧q'.1.table=y.table)):=HNN.out (fun h=>g3 h.2)
        clear HYES HNN g1 g3
        go_upto_region 17 with fail
        go_quiet (fail)
        rename_i nq
        have hbq:Below wr.heap.size wr (wr.drewN nq):=below_drewN (Below.refl _ _) _
        have H5:Hid (Sb w xb v0 v1 v2 v3 v4 v5 s (wr.drewN nq)∧Bl W1 (wr.drewN nq)):=⟨H4.out.1.below hbq,bst H4.out.2 hbq⟩
        clear hbq
        go_wp2
        exact⟨⟨j+1,by omega,by go_num,H5.out,HN2.out⟩,by simp only[intOf];omega⟩
      ·have g1':(q.1.kind==1)=false:=by simpa using g1
       have HN2:Hid (∀ i' q',i'<j+1→L[i']?=some q'→¬(q'.1.kind=1∧q'.1.table=y.table)):=HNN.out (fun h=>g1 h.1)
       clear HYES HNN
       go_upto_region 17 with fail
       go_quiet (fail)
       rename_i nq
       have hbq:Below wr.heap.size wr (wr.drewN nq):=below_drewN (Below.refl _ _) _
       have H5:Hid (Sb w xb v0 v1 v2 v3 v4 v5 s (wr.drewN nq)∧Bl W1 (wr.drewN nq)):=⟨H4.out.1.below hbq,bst H4.out.2 hbq⟩
       clear hbq
       go_wp2
       exact⟨⟨j+1,by omega,by go_num,H5.out,HN2.out⟩,by simp only[intOf];omega⟩
     ·have e:j=k:=by omega
      subst e
      have hdj:decide ((j:Int)<j)=false:=decide_eq_false (by omega)
      have HSF:Hid (R=nx):=by
       show _=_
       have h3:hT=false:=by
        cases hT with
        | false=>rfl
        | true=>obtain⟨i',q',h1,h2,h4,h5⟩:=HAP.out.1 rfl;exact absurd ⟨h4,h5⟩ (HNO.out i' q' h1 h2)
       rw[HST.out,HSD.out,h3];rfl
      clear HST HSD HNO
      go_wp2
      exact⟨⟨j+1,by omega,by go_num,H4.out,by show _=_;rw[← HNX.out];exact HSF.out.symm⟩,by simp only[intOf];omega⟩
   rw[if_neg k1] at HSD
   have k1':(y.kind==1)=false:=by simpa using k1
   by_cases k2:y.kind=2
   ·rw[if_pos k2] at HSD
    rw[k2] at e0
    clear k1 k2 k1'
    obtain⟨X0,X1,X2,X3,X4,X5⟩:=H2.out.1.c
    have X0':=gw_cell X0
    have X1':=gw_cell X1
    have X2':=gw_cell X2
    have X3':=gw_cell X3
    have X4':=gw_cell X4
    have X5':=gw_cell X5
    clear X0 X1 X2 X3 X4 X5
    have r2:∀ z:Grown V1,(gw z).cell? ⟨g,k*14+2,none⟩=some (.int .i64 y.test.kind):=gw_cell (by have:=HV.out V1 H2.out.2 2 _ rfl;simpa using this)
    have r3:∀ z:Grown V1,(gw z).cell? ⟨g,k*14+3,none⟩=some (.string y.test.a.ref.head):=gw_cell (by have:=HV.out V1 H2.out.2 3 _ rfl;simpa using this)
    have r4:∀ z:Grown V1,(gw z).cell? ⟨g,k*14+4,none⟩=some (.string y.test.a.ref.name):=gw_cell (by have:=HV.out V1 H2.out.2 4 _ rfl;simpa using this)
    have r5:∀ z:Grown V1,(gw z).cell? ⟨g,k*14+5,none⟩=some (.int .u64 (hiOf y.test.a.const)):=gw_cell (by have:=HV.out V1 H2.out.2 5 _ rfl;simpa using this)
    have r6:∀ z:Grown V1,(gw z).cell? ⟨g,k*14+6,none⟩=some (.int .u64 (loOf y.test.a.const)):=gw_cell (by have:=HV.out V1 H2.out.2 6 _ rfl;simpa using this)
    have r7:∀ z:Grown V1,(gw z).cell? ⟨g,k*14+7,none⟩=some (.string y.test.b.ref.head):=gw_cell (by have:=HV.out V1 H2.out.2 7 _ rfl;simpa using this)
    have r8:∀ z:Grown V1,(gw z).cell? ⟨g,k*14+8,none⟩=some (.string y.test.b.ref.name):=gw_cell (by have:=HV.out V1 H2.out.2 8 _ rfl;simpa using this)
    have r9:∀ z:Grown V1,(gw z).cell? ⟨g,k*14+9,none⟩=some (.int .u64 (hiOf y.test.b.const)):=gw_cell (by have:=HV.out V1 H2.out.2 9 _ rfl;simpa using this)
    have r10:∀ z:Grown V1,(gw z).cell? ⟨g,k*14+10,none⟩=some (.int .u64 (loOf y.test.b.const)):=gw_cell (by have:=HV.out V1 H2.out.2 10 _ rfl;simpa using this)
    have K164:Hid (∀ z:Grown V1,Sb w xb v0 v1 v2 v3 v4 v5 s (gw z)):=fun z=>H2.out.1.below (gw_below z)
    go_upto_region 20 with fail
    refine region_grows (by kernel_rfl) (by kernel_rfl) ?_
    repeat (go_big_quiet_step ((go_at_call 164;exact calls_gw (CX.out _ (K164.out _)))))
    refine wpQuiet_nil ?_
    intro wq hwq
    obtain⟨zq,hwq⟩:=hwq
    subst hwq
    have H3:Hid (Sb w xb v0 v1 v2 v3 v4 v5 s (gw zq)∧Bl W1 (gw zq)):=⟨H2.out.1.below (gw_below zq),bst H2.out.2 (gw_below zq)⟩
    clear H2 K164 X0' X1' X2' X3' X4' X5' r2 r3 r4 r5 r6 r7 r8 r9 r10 e0 CX
    generalize gw zq=V2 at H3 ⊢
    by_cases hte:te=0
    ·subst hte
     have HSF:Hid (R=nx):=by show _=_;rw[HST.out,HSD.out];rfl
     go_wp2
     exact⟨⟨k+1,by omega,by go_num,H3.out,by show _=_;rw[← HNX.out];exact HSF.out.symm⟩,by simp only[intOf];omega⟩
    ·have hte':(te==0)=false:=by simpa using hte
     have HSF:Hid (R=te):=by show _=_;rw[HST.out,HSD.out,if_pos hte]
     go_wp2;go_ret;exact⟨by rw[HSF.out];rfl,H3.out.1.bel⟩
   ·rw[if_neg k2] at HSD
    have k2':(y.kind==2)=false:=by simpa using k2
    have HSF:Hid (R=nx):=by show _=_;rw[HST.out,HSD.out];rfl
    go_wp2
    exact⟨⟨k+1,by omega,by go_num,H2.out,by show _=_;rw[← HNX.out];exact HSF.out.symm⟩,by simp only[intOf];omega⟩
  ·have e:k=n:=by omega
   subst e
   have HF:Hid (R=0):=by show _=_;rw[← HD.out,List.drop_of_length_le (by rw[← HN.out];omega)];rfl
   have hdl:decide ((k:Int)<k)=false:=decide_eq_false (by omega)
   go_wp2;go_ret;exact⟨by rw[HF.out];rfl,H.out.1.bel⟩
end Go.Proofs.YtmbpclknhkbbkaaGreat
