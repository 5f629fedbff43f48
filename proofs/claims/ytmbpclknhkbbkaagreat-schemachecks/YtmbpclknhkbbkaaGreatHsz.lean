/- The document's Check. -/
import Derived.Test.YtmbpclknhkbbkaaGreatHr
import Derived.Test.YtmbpclknhkbbkaaGreatHj
import Derived.Test.YtmbpclknhkbbkaaGreatHm
import Derived.Test.YtmbpclknhkbbkaaGreatHnz
import Derived.Test.YtmbpclknhkbbkaaGreatWzz
import Derived.Test.YtmbpclknhkbbkaaGreatB19
set_option linter.unusedSimpArgs false
set_option linter.unusedVariables false
set_option maxHeartbeats 4000000
set_option maxRecDepth 100000
namespace Go.Proofs.YtmbpclknhkbbkaaGreat
open Go.RowKit
def checkD (s:Sch):Option (Int × ByteArray):=if fndC (headersE s.headers)≠0 then headersE s.headers else if fndC (metaE s.metas)≠0 then metaE s.metas else if fndC (statesD s)≠0 then statesD s else if fndC (actionsD s)≠0 then actionsD s else if fndC (tablesD s)≠0 then tablesD s else if controlD s≠0 then some (controlD s,tCtl) else none
theorem rcheck_any (v:Value)(s:Sch)(w:World)(hs:SchIs w v s):Calls Tryz.prog 16 #[v] w fun e w'=>e=.returned (fndV (checkD s))∧Below w.heap.size w w':=by
 obtain⟨v0,v1,v2,v3,v4,v5,rfl,_⟩:=id hs
 have H0:Hid (Sb w w.heap.size v0 v1 v2 v3 v4 v5 s (w.alloc (.cells #[v0,v1,v2,v3,v4,v5] 34))):=sb_new hs
 clear hs
 have HR:Hid (checkD s=if fndC (headersE s.headers)≠0 then headersE s.headers else if fndC (metaE s.metas)≠0 then metaE s.metas else if fndC (statesD s)≠0 then statesD s else if fndC (actionsD s)≠0 then actionsD s else if fndC (tablesD s)≠0 then tablesD s else if controlD s≠0 then some (controlD s,tCtl) else none):=rfl
 generalize checkD s=R at*
 have C0:Hid (∀ V,SchIs V (.agg #[v0,v1,v2,v3,v4,v5]) s→Cs 71 #[.agg #[v0,v1,v2,v3,v4,v5]] V fun e w'=>e=.returned (.tuple #[.int .i64 (fndC (headersE s.headers)),.string (fndT (headersE s.headers))])∧Bl V w'):=fun V h=>rheaders_any _ s V h
 have C1:Hid (∀ V,SchIs V (.agg #[v0,v1,v2,v3,v4,v5]) s→Cs 72 #[.agg #[v0,v1,v2,v3,v4,v5]] V fun e w'=>e=.returned (.tuple #[.int .i64 (fndC (metaE s.metas)),.string (fndT (metaE s.metas))])∧Bl V w'):=fun V h=>rmeta_any _ s V h
 have C2:Hid (∀ V,SchIs V (.agg #[v0,v1,v2,v3,v4,v5]) s→Cs 73 #[.agg #[v0,v1,v2,v3,v4,v5]] V fun e w'=>e=.returned (.tuple #[.int .i64 (fndC (statesD s)),.string (fndT (statesD s))])∧Bl V w'):=fun V h=>rstates_any _ s V h
 have C3:Hid (∀ V,SchIs V (.agg #[v0,v1,v2,v3,v4,v5]) s→Cs 74 #[.agg #[v0,v1,v2,v3,v4,v5]] V fun e w'=>e=.returned (.tuple #[.int .i64 (fndC (actionsD s)),.string (fndT (actionsD s))])∧Bl V w'):=fun V h=>ractions_any _ s V h
 have C4:Hid (∀ V,SchIs V (.agg #[v0,v1,v2,v3,v4,v5]) s→Cs 75 #[.agg #[v0,v1,v2,v3,v4,v5]] V fun e w'=>e=.returned (.tuple #[.int .i64 (fndC (tablesD s)),.string (fndT (tablesD s))])∧Bl V w'):=fun V h=>rtables_any _ s V h
 have C5:Hid (∀ V,SchIs V (.agg #[v0,v1,v2,v3,v4,v5]) s→Cs 76 #[.agg #[v0,v1,v2,v3,v4,v5]] V fun e w'=>e=.returned (.int .i64 (controlD s))∧Bl V w'):=fun V h=>rcontrol_any _ s V h
 generalize headersE s.headers=r0 at*
 generalize metaE s.metas=r1 at*
 generalize statesD s=r2 at*
 generalize actionsD s=r3 at*
 generalize tablesD s=r4 at*
 generalize controlD s=cd at*
 go_enter Tryz.func16,Tryz.ntmps16
 go_upto_region 1 with fail
 generalize (w.alloc _)=W0 at H0 ⊢
 obtain⟨xb,hxb⟩:∃ xb,xb=w.heap.size:=⟨_,rfl⟩
 rw[← hxb] at H0 ⊢
 clear hxb
 obtain⟨x0,x1,x2,x3,x4,x5⟩:=H0.out.c
 go_wp2_with fail
 refine(C0.out _ H0.out.sch).mono ?_
 rintro e W1 ⟨rfl,hb⟩
 have H1:Hid (Sb w xb v0 v1 v2 v3 v4 v5 s W1):=H0.out.below hb
 clear hb H0 C0 x0 x1 x2 x3 x4 x5
 by_cases h0:fndC r0=0
 case neg=>
  have h0':(fndC r0==0)=false:=by simpa using h0
  rw[if_pos h0] at HR
  go_wp2
  refine bodyPost_ret (v:=.tuple #[.int .i64 (fndC r0),.string (fndT r0)]) (by simp[results,Tryz.results16,go_sem]) rfl ⟨by rw[HR.out];rfl,H1.out.bel⟩
 rw[if_neg (by simpa using h0)] at HR
 rw[h0]
 clear h0
 obtain⟨x0,x1,x2,x3,x4,x5⟩:=H1.out.c
 go_wp2_with fail
 refine(C1.out _ H1.out.sch).mono ?_
 rintro e W2 ⟨rfl,hb⟩
 have H2:Hid (Sb w xb v0 v1 v2 v3 v4 v5 s W2):=H1.out.below hb
 clear hb H1 C1 x0 x1 x2 x3 x4 x5
 by_cases h1:fndC r1=0
 case neg=>
  have h1':(fndC r1==0)=false:=by simpa using h1
  rw[if_pos h1] at HR
  go_wp2
  refine bodyPost_ret (v:=.tuple #[.int .i64 (fndC r1),.string (fndT r1)]) (by simp[results,Tryz.results16,go_sem]) rfl ⟨by rw[HR.out];rfl,H2.out.bel⟩
 rw[if_neg (by simpa using h1)] at HR
 rw[h1]
 clear h1
 obtain⟨x0,x1,x2,x3,x4,x5⟩:=H2.out.c
 go_wp2_with fail
 refine(C2.out _ H2.out.sch).mono ?_
 rintro e W3 ⟨rfl,hb⟩
 have H3:Hid (Sb w xb v0 v1 v2 v3 v4 v5 s W3):=H2.out.below hb
 clear hb H2 C2 x0 x1 x2 x3 x4 x5
 by_cases h2:fndC r2=0
 case neg=>
  have h2':(fndC r2==0)=false:=by simpa using h2
  rw[if_pos h2] at HR
  go_wp2
  refine bodyPost_ret (v:=.tuple #[.int .i64 (fndC r2),.string (fndT r2)]) (by simp[results,Tryz.results16,go_sem]) rfl ⟨by rw[HR.out];rfl,H3.out.bel⟩
 rw[if_neg (by simpa using h2)] at HR
 rw[h2]
 clear h2
 obtain⟨x0,x1,x2,x3,x4,x5⟩:=H3.out.c
 go_wp2_with fail
 refine(C3.out _ H3.out.sch).mono ?_
 rintro e W4 ⟨rfl,hb⟩
 have H4:Hid (Sb w xb v0 v1 v2 v3 v4 v5 s W4):=H3.out.below hb
 clear hb H3 C3 x0 x1 x2 x3 x4 x5
 by_cases h3:fndC r3=0
 case neg=>
  have h3':(fndC r3==0)=false:=by simpa using h3
  rw[if_pos h3] at HR
  go_wp2
  refine bodyPost_ret (v:=.tuple #[.int .i64 (fndC r3),.string (fndT r3)]) (by simp[results,Tryz.results16,go_sem]) rfl ⟨by rw[HR.out];rfl,H4.out.bel⟩
 rw[if_neg (by simpa using h3)] at HR
 rw[h3]
 clear h3
 obtain⟨x0,x1,x2,x3,x4,x5⟩:=H4.out.c
 go_wp2_with fail
 refine(C4.out _ H4.out.sch).mono ?_
 rintro e W5 ⟨rfl,hb⟩
 have H5:Hid (Sb w xb v0 v1 v2 v3 v4 v5 s W5):=H4.out.below hb
 clear hb H4 C4 x0 x1 x2 x3 x4 x5
 by_cases h4:fndC r4=0
 case neg=>
  have h4':(fndC r4==0)=false:=by simpa using h4
  rw[if_pos h4] at HR
  go_wp2
  refine bodyPost_ret (v:=.tuple #[.int .i64 (fndC r4),.string (fndT r4)]) (by simp[results,Tryz.results16,go_sem]) rfl ⟨by rw[HR.out];rfl,H5.out.bel⟩
 rw[if_neg (by simpa using h4)] at HR
 rw[h4]
 clear h4
 obtain⟨x0,x1,x2,x3,x4,x5⟩:=H5.out.c
 go_wp2_with fail
 refine(C5.out _ H5.out.sch).mono ?_
 rintro e W6 ⟨rfl,hb⟩
 have H6:Hid (Sb w xb v0 v1 v2 v3 v4 v5 s W6):=H5.out.below hb
 clear hb H5 C5 x0 x1 x2 x3 x4 x5
 by_cases h5:cd=0
 ·subst h5
  rw[if_neg (by simp)] at HR
  go_wp2
  refine bodyPost_ret (v:=.tuple #[.int .i64 0,.string ⟨#[]⟩]) (by simp[results,Tryz.results16,go_sem]) rfl ⟨by rw[HR.out];rfl,H6.out.bel⟩
 ·have h5':(cd==0)=false:=by simpa using h5
  rw[if_pos h5] at HR
  go_wp2
  refine bodyPost_ret (v:=.tuple #[.int .i64 cd,.string ⟨#[99,111,110,116,114,111,108]⟩]) (by simp[results,Tryz.results16,go_sem]) rfl ⟨by rw[HR.out];rfl,H6.out.bel⟩
theorem flds_zero:∀(fs:List Fld)(seen:List ByteArray),fldsE fs seen=0→∀ f ∈ fs,1≤f.width∧f.width≤128
 |[],_,_,f,hf=>by cases hf
 | g :: fs,seen,h,f,hf=>by
  rw[fldsE] at h
  by_cases h1:newE g.name seen≠0
  ·rw[if_pos h1] at h;exact absurd h h1
  ·rw[if_neg h1] at h
   by_cases h2:0<posW g.width
   ·rw[if_pos h2] at h
    rcases List.mem_cons.1 hf with rfl|hf
    ·unfold posW at h2
     by_cases h3:f.width<1∨128<f.width
     ·rw[if_pos h3] at h2;omega
     ·omega
    ·exact flds_zero fs _ h f hf
   ·rw[if_neg h2] at h;cases h
theorem hdrs_zero:∀(l:List Hdr)(seen:List ByteArray),hdrsE l seen=none→∀ h ∈ l,fldsE h.fields []=0
 |[],_,_,h,hh=>by cases hh
 | g :: l,seen,e,h,hh=>by
  rw[hdrsE] at e
  by_cases h1:newE g.name seen≠0
  ·rw[if_pos h1] at e;cases e
  rw[if_neg h1] at e
  by_cases h2:¬(1≤g.fields.length∧g.fields.length≤32)
  ·rw[if_pos h2] at e;cases e
  rw[if_neg h2] at e
  by_cases h3:fldsE g.fields []≠0
  ·rw[if_pos h3] at e;cases e
  rw[if_neg h3] at e
  by_cases h4:(bitsW g.fields 0).tmod 8≠0
  ·rw[if_pos h4] at e;cases e
  rw[if_neg h4] at e
  rcases List.mem_cons.1 hh with rfl|hh
  ·exact Classical.not_not.1 h3
  ·exact hdrs_zero l _ e h hh
def WOK (s:Sch):Prop:=∀ r z,widO s r=some z→1≤z∧z≤128
theorem wok_of {s:Sch}(h1:headersE s.headers=none)(h2:metaE s.metas=none):WOK s:=by
 intro r z hz
 have hm:∀ f ∈ s.metas,1≤f.width∧f.width≤128:=by
  unfold metaE at h2
  by_cases a:32<s.metas.length
  ·rw[if_pos a] at h2;cases h2
  rw[if_neg a] at h2
  by_cases b:fldsE s.metas []≠0
  ·rw[if_pos b] at h2;cases h2
  exact flds_zero _ _ (Classical.not_not.1 b)
 have hh:∀ h ∈ s.headers,∀ f ∈ h.fields,1≤f.width∧f.width≤128:=by
  unfold headersE at h1
  by_cases a:32<s.headers.length
  ·rw[if_pos a] at h1;cases h1
  rw[if_neg a] at h1
  exact fun h hm=>flds_zero _ _ (hdrs_zero _ _ h1 h hm)
 unfold widO at hz
 cases hf:(fldsOf s r.head).find? (fun f=>decide (f.name=r.name)) with
 | none=>rw[hf] at hz;cases hz
 | some f=>
  rw[hf] at hz
  have hz:f.width=z:=by simpa using hz
  have hmem:=List.mem_of_find?_eq_some hf
  rw[← hz]
  unfold fldsOf at hmem
  by_cases a:r.head=⟨#[]⟩
  ·rw[if_pos a] at hmem;cases hmem
  rw[if_neg a] at hmem
  by_cases b:r.head=⟨#[109,101,116,97]⟩
  ·rw[if_pos b] at hmem;exact hm f hmem
  rw[if_neg b] at hmem
  cases hx:s.headers[(hdrAt s r.head).toNat]? with
  | none=>rw[hx] at hmem;cases hmem
  | some h=>
   rw[hx] at hmem
   simp only at hmem
   by_cases c:hdrAt s r.head<0
   ·rw[if_pos c] at hmem;cases hmem
   ·rw[if_neg c] at hmem;exact hh h (List.mem_of_getElem? hx) f hmem
theorem widG_is {s:Sch}(h:WOK s)(r:Rf):widG s r=(widO s r).getD 0∧decide (0<widG s r)=(widO s r).isSome:=by
 have e:widG s r=posW ((widO s r).getD 0):=by unfold widG;rw[gOf_widW,wid_pos]
 cases hw:widO s r with
 | none=>rw[hw] at e;rw[e];exact⟨rfl,rfl⟩
 | some z=>
  obtain⟨h1,h2⟩:=h r z hw
  rw[hw] at e
  have e2:posW z=z:=by unfold posW;rw[if_neg (by omega)]
  rw[e]
  show posW z=z∧decide (0<posW z)=true
  rw[e2]
  exact⟨rfl,decide_eq_true (by omega)⟩
theorem names_has {α:Type}(f:α→ByteArray)(xs:List α)(nm:ByteArray):hasT ((xs.map f).reverse) nm=decide (0≤idxF (fun y=>decide (f y=nm)) xs 0):=by
 have:=idx_take f xs xs.length nm
 unfold snN at this
 rw[List.take_length] at this
 exact this.symm
theorem hdr_has (s:Sch)(nm:ByteArray):hasT (hNames s) nm=decide (0≤hdrAt s nm):=names_has (fun h:Hdr=>h.name) s.headers nm
theorem act_has (s:Sch)(nm:ByteArray):hasT (aNames s) nm=decide (0≤actAt s nm):=names_has (fun h:Actn=>h.name) s.actions nm
theorem tbl_has (s:Sch)(nm:ByteArray):hasT (tNames s) nm=decide (0≤tblAt s nm):=names_has (fun h:Tbl=>h.name) s.tables nm
theorem neg_of {b:Bool}{z:Int}(h:b=decide (0≤z)):b=false↔z<0:=by
 rw[h,decide_eq_false_iff_not];omega
theorem lastG_iff (xs:List Sta)(nm:ByteArray):∀ k,(lastG xs k nm).isSome=true↔∃ j x,j<k∧xs[j]?=some x∧x.name=nm
 | 0=>by
  constructor
  ·intro h;cases h
  ·rintro⟨j,x,h,_⟩;omega
 | k+1=>by
  have ih:=lastG_iff xs nm k
  rw[lastG]
  cases hk:xs[k]? with
  | none=>
   simp only
   rw[ih]
   constructor
   ·rintro⟨j,x,h1,h2⟩;exact⟨j,x,by omega,h2⟩
   ·rintro⟨j,x,h1,h2,h3⟩
    by_cases hj:j=k
    ·subst hj;rw[hk] at h2;cases h2
    ·exact⟨j,x,by omega,h2,h3⟩
  | some y=>
   simp only
   by_cases hn:nm=y.name
   ·rw[if_pos hn]
    exact⟨fun _=>⟨k,y,by omega,hk,hn.symm⟩,fun _=>rfl⟩
   ·rw[if_neg hn,ih]
    constructor
    ·rintro⟨j,x,h1,h2⟩;exact⟨j,x,by omega,h2⟩
    ·rintro⟨j,x,h1,h2,h3⟩
     by_cases hj:j=k
     ·subst hj;rw[hk] at h2;cases h2;exact absurd h3.symm hn
     ·exact⟨j,x,by omega,h2,h3⟩
theorem leads_is (s:Sch):nextB (lastG s.states s.states.length)=leadsB s:=by
 funext nx
 unfold nextB leadsB
 have h:(lastG s.states s.states.length nx).isSome=decide (0≤staAt s nx):=by
  rw[Bool.eq_iff_iff,lastG_iff]
  have:=names_has (fun h:Sta=>h.name) s.states nx
  unfold staAt
  rw[← this,hasT_iff,List.mem_reverse,List.mem_map]
  constructor
  ·rintro⟨j,x,h1,h2,h3⟩;exact⟨x,List.mem_of_getElem? h2,h3⟩
  ·rintro⟨x,h1,h2⟩
   obtain⟨j,hj⟩:=List.getElem?_of_mem h1
   exact⟨j,x,(List.getElem?_eq_some_iff.1 hj).1,hj,h2⟩
 rw[h]
 generalize decide (nx=tAcc)=a
 generalize decide (nx=tRej)=b
 generalize decide (0≤staAt s nx)=c
 cases a<;>cases b<;>cases c<;>rfl
theorem state_is {s:Sch}(h:WOK s)(x:Sta):stateE (hasT (hNames s)) (widG s) (leadsB s) x=stateD s x:=by
 unfold stateE stateD
 obtain⟨e1,e2⟩:=widG_is h x.on
 rw[e2,e1]
 have e3:=neg_of (hdr_has s x.header)
 simp only[e3]
theorem sts_is {s:Sch}(h:WOK s):∀(l:List Sta)(seen:List ByteArray),stsE (hasT (hNames s)) (widG s) (leadsB s) l seen=stsD s l seen
 |[],_=>rfl
 | x :: l,seen=>by rw[stsE,stsD,state_is h,sts_is h l]
theorem opw_is {s:Sch}(h:WOK s)(ps:List Fld)(hp:∀ f ∈ ps,1≤f.width∧f.width≤128)(o:Opd):(isCst o||decide (0<withE (widG s) o.ref ps))=(opW s ps o).isSome∧(isCst o=false→withE (widG s) o.ref ps=(opW s ps o).getD 0)∧(isCst o=true→(opW s ps o).getD 0=0)∧(isCst o=false→(opW s ps o).isSome=true→(opW s ps o).getD 0≠0):=by
 unfold opW isCst
 by_cases h0:o.ref=zeroR
 ·rw[if_pos h0,decide_eq_true h0]
  exact⟨rfl,(fun h=>by cases h),(fun _=>rfl),(fun h=>by cases h)⟩
 rw[if_neg h0,decide_eq_false h0,Bool.false_or]
 have key:∀ ps:List Fld,withE (widG s) o.ref ps=if o.ref.head=⟨#[]⟩ then(match ps.find? (fun f=>decide (f.name=o.ref.name)) with|some f=>f.width|none=>widG s o.ref) else widG s o.ref:=by
  intro ps
  induction ps with
  | nil=>rw[withE];simp
  | cons p ps ih=>
   rw[withE,ih,List.find?_cons]
   by_cases a:o.ref.head=⟨#[]⟩
   ·rw[if_pos a,if_pos a]
    by_cases b:p.name=o.ref.name
    ·rw[if_pos (by rw[← a,b]),decide_eq_true b]
    ·rw[if_neg (fun e=>b (by rw[e])),decide_eq_false b]
   ·rw[if_neg a,if_neg a,if_neg (fun e=>a (by rw[e]))]
 rw[key]
 obtain⟨e1,e2⟩:=widG_is h o.ref
 by_cases a:o.ref.head=⟨#[]⟩
 ·rw[if_pos a,if_pos a]
  have hn:widO s o.ref=none:=by unfold widO fldsOf;rw[if_pos a];rfl
  rw[hn] at e1 e2
  cases hf:ps.find? (fun f=>decide (f.name=o.ref.name)) with
  | none=>
   simp only[Option.map_none]
   exact⟨by rw[e1];rfl,(fun _=>by rw[e1]),(fun h=>by cases h),(fun _ h=>by cases h)⟩
  | some f=>
   have hw:=hp f (List.mem_of_find?_eq_some hf)
   simp only[Option.map_some]
   exact⟨decide_eq_true (by omega),(fun _=>rfl),(fun h=>by cases h),(fun _ _=>by show f.width≠0;omega)⟩
 ·rw[if_neg a,if_neg a]
  refine⟨e2,(fun _=>e1),(fun h=>by cases h),fun _ hs=>?_⟩
  cases hw:widO s o.ref with
  | none=>rw[hw] at hs;cases hs
  | some z=>have:=h _ _ hw;show z≠0;omega
theorem agrees_is {s:Sch}(h:WOK s)(ps:List Fld)(hp:∀ f ∈ ps,1≤f.width∧f.width≤128)(o:Opd)(n:Int)(hs:(opW s ps o).isSome=true):goesB n o (withE (widG s) o.ref ps)=agreesB o ((opW s ps o).getD 0) n:=by
 obtain⟨h1,h2,h3,h4⟩:=opw_is h ps hp o
 unfold goesB agreesB
 cases hc:isCst o with
 | true=>rw[h3 hc,if_pos rfl];rfl
 | false=>rw[if_neg (h4 hc hs),h2 hc];rfl
theorem set_is {s:Sch}(h:WOK s)(ps:List Fld)(hp:∀ f ∈ ps,1≤f.width∧f.width≤128)(x:Stp):setE (widG s) ps x=setD s ps x:=by
 unfold setE setD
 obtain⟨t1,t2⟩:=widG_is h x.to
 obtain⟨a1,_⟩:=opw_is h ps hp x.a
 obtain⟨b1,_⟩:=opw_is h ps hp x.b
 have t3:(¬ 0<widG s x.to)↔(widO s x.to).isSome=false:=by rw[← t2,decide_eq_false_iff_not]
 simp only[t3,a1,b1]
 by_cases c1:(widO s x.to).isSome=false
 ·rw[if_pos c1,if_pos c1]
 rw[if_neg c1,if_neg c1]
 by_cases c2:(opW s ps x.a).isSome=false
 ·rw[if_pos c2,if_pos c2]
 rw[if_neg c2,if_neg c2]
 by_cases c3:(opW s ps x.b).isSome=false
 ·rw[if_pos c3,if_pos c3]
 rw[if_neg c3,if_neg c3]
 rw[agrees_is h ps hp x.a _ ((Bool.not_eq_false _).mp c2),agrees_is h ps hp x.b _ ((Bool.not_eq_false _).mp c3),t1]
 cases agreesB x.a ((opW s ps x.a).getD 0) ((widO s x.to).getD 0)<;>cases agreesB x.b ((opW s ps x.b).getD 0) ((widO s x.to).getD 0)<;>rfl
theorem step_is {s:Sch}(h:WOK s)(ps:List Fld)(hp:∀ f ∈ ps,1≤f.width∧f.width≤128)(x:Stp):stepE (hasT (hNames s)) (widG s) ps x=stepD s ps x:=by
 unfold stepE stepD
 obtain⟨t1,t2⟩:=widG_is h x.to
 rw[set_is h ps hp,t2,t1]
 have e3:=neg_of (hdr_has s x.to.head)
 simp only[e3]
 have e4:((!decide (x.to.head=tMeta)&&(widO s x.to).isSome)=false)↔((!(widO s x.to).isSome||decide (x.to.head=tMeta))=true):=by
  cases decide (x.to.head=tMeta)<;>cases (widO s x.to).isSome<;>simp
 simp only[e4]
theorem stps_is {s:Sch}(h:WOK s)(ps:List Fld)(hp:∀ f ∈ ps,1≤f.width∧f.width≤128):∀ l:List Stp,stpsE (hasT (hNames s)) (widG s) ps l=stpsD s ps l
 |[]=>rfl
 | x :: l=>by rw[stpsE,stpsD,step_is h ps hp,stps_is h ps hp l]
theorem acts_is {s:Sch}(h:WOK s):∀(l:List Actn)(seen:List ByteArray),actsE (hasT (hNames s)) (widG s) l seen=actsD s l seen
 |[],_=>rfl
 | a :: l,seen=>by
  rw[actsE,actsD,acts_is h l]
  by_cases c1:newE a.name seen≠0
  ·rw[if_pos c1,if_pos c1]
  rw[if_neg c1,if_neg c1]
  by_cases c2:¬(a.params.length≤8∧a.steps.length≤32)
  ·rw[if_pos c2,if_pos c2]
  rw[if_neg c2,if_neg c2]
  by_cases c3:fldsE a.params []≠0
  ·rw[if_pos c3,if_pos c3]
  rw[if_neg c3,if_neg c3]
  rw[stps_is h a.params (flds_zero _ _ (Classical.not_not.1 c3))]
theorem actions_is {s:Sch}(h:WOK s):actionsE (hasT (hNames s)) (widG s) s.actions=actionsD s:=by
 unfold actionsE actionsD
 rw[acts_is h]
theorem kind_three:∀ ks:List Ky,kindF ks 2=2∨kindF ks 2=3
 |[]=>.inl rfl
 | k :: ks=>by
  rw[kindF]
  by_cases a:k.kind=3∨k.kind=4
  ·rw[if_pos a];exact .inr rfl
  rw[if_neg a]
  have:=kind_three ks
  by_cases b:k.kind=2
  ·rw[if_pos b];exact this
  ·rw[if_neg b];exact this
theorem kind_two:∀(ks:List Ky)(k:Ky),k ∈ ks→k.kind=2→kindF ks 1=2∨kindF ks 1=3
 |[],k,h,_=>by cases h
 | y :: ks,k,h,hk=>by
  rw[kindF]
  by_cases a:y.kind=3∨y.kind=4
  ·rw[if_pos a];exact .inr rfl
  rw[if_neg a]
  by_cases b:y.kind=2
  ·rw[if_pos b];exact kind_three ks
  ·rw[if_neg b]
   rcases List.mem_cons.1 h with rfl|h
   ·exact absurd hk b
   ·exact kind_two ks k h hk
theorem keysL_is {s:Sch}(h:WOK s)(kd:Int):∀(ks:List Ky)(p:Nat),(∀ k ∈ ks,k.kind=2→kd=2∨kd=3)→keysL (widG s) kd ks p=keysLD s kd ks (decide (p≠0))
 |[],_,_=>rfl
 | k :: ks,p,hk=>by
  have ih:=fun p=>keysL_is h kd ks p (fun k h=>hk k (List.mem_cons_of_mem _ h))
  rw[keysL,keysLD]
  obtain⟨t1,t2⟩:=widG_is h k.ref
  have t3:(¬ 0<widG s k.ref)↔(widO s k.ref).isSome=false:=by rw[← t2,decide_eq_false_iff_not]
  simp only[t3]
  by_cases c1:(widO s k.ref).isSome=false
  ·rw[if_pos c1,if_pos c1]
  rw[if_neg c1,if_neg c1]
  by_cases c2:k.kind<1∨4<k.kind
  ·rw[if_pos c2,if_pos (by omega)]
  rw[if_neg c2,if_neg (by omega)]
  by_cases c3:k.kind=2
  ·have hd:=hk k (List.mem_cons_self ..) c3
   rw[if_pos c3,ih]
   by_cases c4:p+1=1∧kd=2
   ·rw[if_pos c4,if_neg (by simp;omega)]
    have:p=0:=by omega
    subst this
    simp[c3]
   ·rw[if_neg c4,if_pos]
    refine⟨c3,?_⟩
    simp
    omega
  ·rw[if_neg c3,if_neg (fun h=>c3 h.1),ih,decide_eq_false c3,Bool.or_false]
theorem keys_is {s:Sch}(h:WOK s)(ks:List Ky):keysE (widG s) ks=keysD s ks:=by
 unfold keysE keysD
 rw[keysL_is h _ ks 0 (fun k hk hk2=>kind_two ks k hk hk2)]
 rfl
theorem tbls_is {s:Sch}(h:WOK s):∀(l:List Tbl)(seen:List ByteArray),tblsE (widG s) (hasT (aNames s)) (callE s) l seen=tblsD s l seen
 |[],_=>rfl
 | t :: l,seen=>by
  rw[tblsE,tblsD,tbls_is h l,keys_is h]
  have e:hasT (aNames s)=fun a=>decide (0≤actAt s a):=funext (act_has s)
  rw[e]
  unfold tableD
  by_cases c1:newE t.name seen≠0
  ·rw[if_pos c1,if_pos c1]
  rw[if_neg c1,if_neg c1]
  by_cases c2:keysD s t.keys≠0
  ·simp only[if_pos c2]
  simp only[if_neg c2]
  by_cases c3:canE (fun a=>decide (0≤actAt s a)) t.actions≠0
  ·simp only[if_pos c3]
  simp only[if_neg c3]
  by_cases c4:¬(1≤t.size∧t.size≤4096)
  ·simp only[if_pos c4];rfl
  ·simp only[if_neg c4]
theorem tables_is {s:Sch}(h:WOK s):tablesE (widG s) (hasT (aNames s)) s=tablesD s:=by
 unfold tablesE tablesD
 rw[tbls_is h]
theorem test_is {s:Sch}(h:WOK s)(t:Tst):testE (hasT (hNames s)) (widG s) t=testD s t:=by
 unfold testE testD
 have e3:=neg_of (hdr_has s t.a.ref.head)
 simp only[e3]
 by_cases k1:t.kind=1
 ·rw[if_pos k1,if_pos k1]
 rw[if_neg k1,if_neg k1]
 obtain⟨a1,a2,a3,a4⟩:=opw_is h [] (fun f h=>by cases h) t.a
 obtain⟨b1,b2,b3,b4⟩:=opw_is h [] (fun f h=>by cases h) t.b
 have w1:withE (widG s) t.a.ref []=widG s t.a.ref:=rfl
 have w2:withE (widG s) t.b.ref []=widG s t.b.ref:=rfl
 rw[w1] at a1 a2
 rw[w2] at b1 b2
 rw[a1,b1]
 by_cases c1:(opW s [] t.a).isSome=false
 ·rw[if_pos c1,if_pos c1]
 rw[if_neg c1,if_neg c1]
 by_cases c2:(opW s [] t.b).isSome=false
 ·rw[if_pos c2,if_pos c2]
 rw[if_neg c2,if_neg c2]
 have c1:(opW s [] t.a).isSome=true:=(Bool.not_eq_false _).mp c1
 have c2:(opW s [] t.b).isSome=true:=(Bool.not_eq_false _).mp c2
 unfold agreesB
 cases ha:isCst t.a with
 | true=>
  have a0:=a3 ha
  rw[if_pos rfl,a0]
  cases hb:isCst t.b with
  | true=>
   have b0:=b3 hb
   have wb:widG s t.b.ref=0:=by
    have:t.b.ref=zeroR:=of_decide_eq_true hb
    obtain⟨e1,_⟩:=widG_is h t.b.ref
    rw[e1,this];rfl
   rw[b0,wb]
   have:fitsN t.a.const 0=false:=by unfold fitsN isW;rfl
   rw[this];simp
  | false=>
   have b0:=b4 hb c2
   rw[b2 hb]
   simp[b0]
 | false=>
  have a0:=a4 ha c1
  rw[if_neg (by simp),a2 ha]
  cases hb:isCst t.b with
  | true=>
   have b0:=b3 hb
   rw[if_pos rfl,b0]
   simp[a0]
  | false=>
   have b0:=b4 hb c2
   rw[if_neg (by simp),b2 hb]
   simp[a0,b0]
   by_cases e:(opW s [] t.a).getD 0=(opW s [] t.b).getD 0
   ·simp[e]
   ·have e2:¬(opW s [] t.b).getD 0=(opW s [] t.a).getD 0:=fun h=>e h.symm
    simp[e,e2]
theorem stg_is {s:Sch}(h:WOK s)(ap:List ByteArray)(y:Stg):stgE (hasT (hNames s)) (hasT (tNames s)) (widG s) ap y=stgD s ap y:=by
 unfold stgE stgD
 have e3:=neg_of (tbl_has s y.table)
 simp only[e3,test_is h]
theorem ctl_fold {s:Sch}(h:WOK s):∀(l:List (Stg × Int))(ap:List ByteArray),(ctlD s l ap=0∧∃ r,foldW (ctlStp (hasT (hNames s)) (hasT (tNames s)) (widG s)) l ap=.ok r)∨(ctlD s l ap≠0∧foldW (ctlStp (hasT (hNames s)) (hasT (tNames s)) (widG s)) l ap=.error (pf (ctlD s l ap) tCtl))
 |[],ap=>.inl ⟨rfl,_,rfl⟩
 | p :: l,ap=>by
  rw[ctlD,foldW]
  unfold ctlStp
  rw[stg_is h]
  by_cases c:stgD s ap p.1=0
  ·rw[if_pos c,if_neg (by simpa using c)]
   exact ctl_fold h l _
  ·rw[if_neg c,if_pos c]
   exact .inr ⟨c,rfl⟩
theorem control_is {s:Sch}(h:WOK s):controlE (hasT (hNames s)) (hasT (tNames s)) (widG s) s.control=if controlD s≠0 then some (controlD s,tCtl) else none:=by
 unfold controlE controlD
 by_cases c:sizeE s.control≠0
 ·rw[if_pos c,if_pos c,if_pos c]
 rw[if_neg c,if_neg c,wlk_fold _ _ _ _ _ (Nat.le_refl _)]
 rcases ctl_fold h (preL s.control 1) [] with⟨h1,r,h2⟩|⟨h1,h2⟩
 ·rw[h2,h1];rfl
 ·rw[h2,if_pos h1];exact congrArg some (fOf_pf _ _)
inductive Rch (E:Nat→Nat→Bool) (n:Nat):Nat→Nat→Prop
 | one {a b:Nat} (ha:a<n) (hb:b<n) (h:E a b=true):Rch E n a b
 | more {a b c:Nat} (h:Rch E n a b) (hb:b<n) (hc:c<n) (k:E b c=true):Rch E n a c
theorem Rch.trans {E:Nat→Nat→Bool}{n a b c:Nat}(h:Rch E n a b)(hb:b<n)(k:Rch E n b c):Rch E n a c:=by
 induction k with
 | one h1 h2 h3=>exact .more h h1 h2 h3
 | more h1 h2 h3 h4 ih=>exact .more ih h2 h3 h4
section
variable {E:Nat→Nat→Bool} {i n:Nat}
theorem rB_eq {a b k:Nat}{M:Nat→Bool}:rB E i a (b+1) M k=if k=b then rB E i a b M b||(E a b&&(decide (a=i)||rB E i a b M a)) else rB E i a b M k:=rfl
theorem rB_mono {a k:Nat}{M:Nat→Bool}(h:M k=true):∀ b,rB E i a b M k=true
 | 0=>h
 | b+1=>by
  rw[rB_eq]
  by_cases e:k=b
  ·subst e;rw[if_pos rfl,rB_mono h];rfl
  ·rw[if_neg e];exact rB_mono h b
theorem rA_mono {k:Nat}{M:Nat→Bool}(h:M k=true):∀ a,rA E i n a M k=true
 | 0=>h
 | a+1=>by
  rw[rA]
  split
  ·exact rA_mono h a
  ·exact rB_mono (rA_mono h a) n
theorem rB_gain {a b:Nat}{M:Nat→Bool}(h:a=i∨M a=true)(he:E a b=true):∀ m,b<m→rB E i a m M b=true
 | 0,h=>by omega
 | m+1,hm=>by
  rw[rB_eq]
  by_cases e:b=m
  ·subst e
   rw[if_pos rfl,he]
   rcases h with h|h
   ·rw[decide_eq_true h];simp
   ·rw[rB_mono h];simp
  ·rw[if_neg e];exact rB_gain h he m (by omega)
theorem rA_gain {a b:Nat}{M:Nat→Bool}(hb:b<n)(h:a=i∨M a=true)(he:E a b=true):∀ m,a<m→rA E i n m M b=true
 | 0,h=>by omega
 | m+1,hm=>by
  rw[rA]
  by_cases e:a=m
  ·subst e
   have h2:a=i∨rA E i n a M a=true:=h.imp id (fun h=>rA_mono h a)
   rw[if_neg (by rintro⟨h3,h4⟩;rcases h2 with h2|h2;exact h3 h2;rw[h2] at h4;cases h4)]
   exact rB_gain h2 he n hb
  ·split
   ·exact rA_gain hb h he m (by omega)
   ·exact rB_mono (rA_gain hb h he m (by omega)) n
theorem rB_sound (hi:i<n){a:Nat}(ha:a<n){P:Nat→Prop}(hone:∀ b,b<n→E i b=true→P b)(hmore:∀ b c,b<n→c<n→P b→E b c=true→P c){M:Nat→Bool}(hM:∀ k,k<n→M k=true→P k):∀ m,m≤n→∀ k,k<n→rB E i a m M k=true→P k
 | 0,_,k,hk,h=>hM k hk h
 | m+1,hm,k,hk,h=>by
  have ih:=rB_sound hi ha hone hmore hM m (by omega)
  rw[rB_eq] at h
  by_cases e:k=m
  ·subst e
   rw[if_pos rfl,Bool.or_eq_true,Bool.and_eq_true,Bool.or_eq_true,decide_eq_true_iff] at h
   rcases h with h|⟨h1,h2|h2⟩
   ·exact ih k hk h
   ·subst h2;exact hone k hk h1
   ·exact hmore a k ha hk (ih a ha h2) h1
  ·rw[if_neg e] at h;exact ih k hk h
theorem rA_sound (hi:i<n){P:Nat→Prop}(hone:∀ b,b<n→E i b=true→P b)(hmore:∀ b c,b<n→c<n→P b→E b c=true→P c){M:Nat→Bool}(hM:∀ k,k<n→M k=true→P k):∀ m,m≤n→∀ k,k<n→rA E i n m M k=true→P k
 | 0,_,k,hk,h=>hM k hk h
 | m+1,hm,k,hk,h=>by
  have ih:=rA_sound hi hone hmore hM m (by omega)
  rw[rA] at h
  split at h
  ·exact ih k hk h
  ·exact rB_sound hi (by omega) hone hmore ih n (Nat.le_refl _) k hk h
def ClM (E:Nat→Nat→Bool)(i n:Nat)(M:Nat→Bool):Prop:=∀ a b,a<n→b<n→(a=i∨M a=true)→E a b=true→M b=true
theorem cl_turn (hi:i<n){M:Nat→Bool}(h:ClM E i n M):ClM E i n (rA E i n n M):=by
 have same:∀ k,k<n→rA E i n n M k=true→M k=true:=rA_sound hi (P:=fun k=>M k=true) (fun b hb he=>h i b hi hb (.inl rfl) he) (fun b c hb hc hp he=>h b c hb hc (.inr hp) he) (fun k _ h=>h) n (Nat.le_refl _)
 intro a b ha hb h1 he
 exact rA_mono (h a b ha hb (h1.imp id (same a ha)) he) n
def cnt (M:Nat→Bool):Nat→Nat
 | 0=>0
 | k+1=>cnt M k+(if M k=true then 1 else 0)
theorem cnt_le (M:Nat→Bool):∀ k,cnt M k≤k
 | 0=>Nat.le_refl _
 | k+1=>by have:=cnt_le M k;rw[cnt];split<;>omega
theorem cnt_mono {M N:Nat→Bool}(h:∀ k,M k=true→N k=true):∀ k,cnt M k≤cnt N k
 | 0=>Nat.le_refl _
 | k+1=>by
  have:=cnt_mono h k
  rw[cnt,cnt]
  by_cases hm:M k=true
  ·rw[if_pos hm,if_pos (h k hm)];omega
  ·rw[if_neg hm];omega
theorem cnt_more {M N:Nat→Bool}(h:∀ k,M k=true→N k=true){b:Nat}(h1:¬ M b=true)(h2:N b=true):∀ k,b<k→cnt M k+1≤cnt N k
 | 0,hk=>by omega
 | k+1,hk=>by
  rw[cnt,cnt]
  by_cases e:b=k
  ·subst e
   have:=cnt_mono h b
   rw[if_neg h1,if_pos h2];omega
  ·have:=cnt_more h h1 h2 k (by omega)
   by_cases hm:M k=true
   ·rw[if_pos hm,if_pos (h k hm)];omega
   ·rw[if_neg hm];omega
theorem rT_closed (hi:i<n)(M:Nat→Bool):∀ t,ClM E i n (rT E i n t M)∨t≤cnt (rT E i n t M) n
 | 0=>.inr (Nat.zero_le _)
 | t+1=>by
  rcases rT_closed hi M t with h|h
  ·exact .inl (cl_turn hi h)
  ·by_cases hc:ClM E i n (rT E i n t M)
   ·exact .inl (cl_turn hi hc)
   ·right
    unfold ClM at hc
    simp only[Classical.not_forall] at hc
    obtain⟨a,b,ha,hb,h1,he,h2⟩:=hc
    have h3:rA E i n n (rT E i n t M) b=true:=rA_gain hb h1 he n ha
    have:=cnt_more (M:=rT E i n t M) (N:=rA E i n n (rT E i n t M)) (fun k h=>rA_mono h n) h2 h3 n hb
    rw[rT];omega
theorem rT_sound (hi:i<n){M:Nat→Bool}(hM:∀ k,k<n→M k=true→Rch E n i k):∀ t k,k<n→rT E i n t M k=true→Rch E n i k
 | 0,k,hk,h=>hM k hk h
 | t+1,k,hk,h=>rA_sound hi (P:=fun k=>Rch E n i k) (fun b hb he=>.one hi hb he) (fun b c hb hc hp he=>.more hp hb hc he) (rT_sound hi hM t) n (Nat.le_refl _) k hk h
theorem round_iff (hi:i<n):rT E i n (n+1) (fun _=>false) i=true↔Rch E n i i:=by
 constructor
 ·exact rT_sound hi (fun k _ h=>by cases h) (n+1) i hi
 ·intro h
  have hc:ClM E i n (rT E i n (n+1) (fun _=>false)):=by
   rcases rT_closed (E:=E) hi (fun _=>false) (n+1) with h|h
   ·exact h
   ·have:=cnt_le (rT E i n (n+1) (fun _=>false)) n;omega
  have key:∀ {a b},Rch E n a b→a=i→rT E i n (n+1) (fun _=>false) b=true:=by
   intro a b h
   induction h with
   | one h1 h2 h3=>intro e;exact hc _ _ h1 h2 (.inl e) h3
   | more h1 h2 h3 h4 ih=>intro e;exact hc _ _ h2 h3 (.inr (ih e)) h4
  exact key h rfl
theorem bL_sound (M:Nat→Nat→Bool):∀ k,k≤n→∀ a b,a<n→b<n→bL n k M a b=true→Rch M n a b
 | 0,_,a,b,ha,hb,h=>.one ha hb h
 | k+1,hk,a,b,ha,hb,h=>by
  have ih:=bL_sound M k (by omega)
  rw[bL_step n k M ha hb,W1,Bool.or_eq_true,Bool.and_eq_true] at h
  rcases h with h|⟨h1,h2⟩
  ·exact ih a b ha hb h
  ·exact(ih a k ha (by omega) h1).trans (by omega) (ih k b (by omega) hb h2)
theorem bL_iff (M:Nat→Nat→Bool){a b:Nat}(ha:a<n)(hb:b<n):bL n n M a b=true↔Rch M n a b:=by
 constructor
 ·exact bL_sound M n (Nat.le_refl _) a b ha hb
 ·intro h
  clear hb
  induction h with
  | one h1 h2 h3=>exact bL_mono n M h1 h2 h3 n
  | more h1 h2 h3 h4 ih=>exact bL_closed n M n (Nat.le_refl _) _ _ _ ha h2 h3 ih (bL_mono n M h2 h3 h4 n)
end
theorem Rch.congr {E F:Nat→Nat→Bool}{n:Nat}(h:∀ a b,a<n→b<n→E a b=true→F a b=true){a b:Nat}(k:Rch E n a b):Rch F n a b:=by
 induction k with
 | one h1 h2 h3=>exact .one h1 h2 (h _ _ h1 h2 h3)
 | more h1 h2 h3 h4 ih=>exact .more ih h2 h3 (h _ _ h2 h3 h4)
def EdgeOf (g:ByteArray→Option Int)(x:Sta)(b:Nat):Prop:=∃ nx j,Goes x nx∧g nx=some j∧j.toNat=b
theorem goF_inv {g:ByteArray→Option Int}{i a b:Nat}{M:Nat→Nat→Bool}{nx:ByteArray}(h:goF g i M nx a b=true):M a b=true∨(a=i∧∃ j,g nx=some j∧j.toNat=b):=by
 unfold goF at h
 cases hg:g nx with
 | none=>rw[hg] at h;exact .inl h
 | some j=>
  rw[hg] at h
  simp only[setM] at h
  by_cases e:a=i∧b=j.toNat
  ·exact .inr ⟨e.1,j,rfl,e.2.symm⟩
  ·rw[if_neg e] at h;exact .inl h
theorem cL_inv {g:ByteArray→Option Int}{i a b:Nat}{cs:List Cas}{M:Nat→Nat→Bool}:∀ k,cL g i cs k M a b=true→M a b=true∨(a=i∧∃(q:Nat)(c:Cas),cs[q]?=some c∧∃ j,g c.next=some j∧j.toNat=b)
 | 0,h=>.inl h
 | k+1,h=>by
  rw[cL] at h
  cases hc:cs[k]? with
  | none=>rw[hc] at h;exact cL_inv k h
  | some c=>
   rw[hc] at h
   rcases goF_inv h with h|⟨h1,j,h2,h3⟩
   ·exact cL_inv k h
   ·exact .inr ⟨h1,k,c,hc,j,h2,h3⟩
theorem eL_inv {g:ByteArray→Option Int}{xs:List Sta}{a b:Nat}:∀ k,eL g xs k a b=true→∃ x,xs[a]?=some x∧EdgeOf g x b
 | 0,h=>by cases h
 | k+1,h=>by
  rw[eL] at h
  cases hx:xs[k]? with
  | none=>rw[hx] at h;exact eL_inv k h
  | some x=>
   rw[hx] at h
   simp only[rowF] at h
   rcases goF_inv h with h|⟨h1,j,h2,h3⟩
   ·rcases cL_inv _ h with h|⟨h1,q,c,h2,j,h3,h4⟩
    ·exact eL_inv k h
    ·subst h1;exact⟨x,hx,c.next,j,.inr ⟨q,c,h2,rfl⟩,h3,h4⟩
   ·subst h1;exact⟨x,hx,x.next,j,.inl rfl,h2,h3⟩
theorem lastG_name {xs:List Sta}{nm:ByteArray}:∀ {k:Nat}{j:Int},lastG xs k nm=some j→∃ y,xs[j.toNat]?=some y∧y.name=nm
 | 0,j,h=>by cases h
 | k+1,j,h=>by
  rw[lastG] at h
  cases hx:xs[k]? with
  | none=>rw[hx] at h;exact lastG_name h
  | some x=>
   rw[hx] at h
   simp only at h
   by_cases e:nm=x.name
   ·rw[if_pos e] at h;cases h;exact⟨x,hx,e.symm⟩
   ·rw[if_neg e] at h;exact lastG_name h
theorem edge_iff (x y:Sta):edgeB x y=true↔Goes x y.name:=by
 unfold edgeB Goes
 rw[Bool.or_eq_true,decide_eq_true_iff,List.any_eq_true]
 constructor
 ·rintro(h|⟨c,h1,h2⟩)
  ·exact .inl h.symm
  ·obtain⟨q,hq⟩:=List.getElem?_of_mem h1
   exact .inr ⟨q,c,hq,(of_decide_eq_true h2).symm⟩
 ·rintro(h|⟨q,c,h1,h2⟩)
  ·exact .inl h.symm
  ·exact .inr ⟨c,List.mem_of_getElem? h1,decide_eq_true h2.symm⟩
theorem round_is {s:Sch}(hd:(s.states.map (·.name)).Nodup){i:Nat}(hi:i<s.states.length):bL s.states.length s.states.length (eL (lastG s.states s.states.length) s.states s.states.length) i i=roundD s i:=by
 rw[Bool.eq_iff_iff,bL_iff _ hi hi]
 unfold roundD
 rw[round_iff hi]
 constructor
 ·refine Rch.congr fun a b ha hb h=>?_
  obtain⟨x,hx,nx,j,h1,h2,h3⟩:=eL_inv _ h
  obtain⟨y,hy,hn⟩:=lastG_name h2
  rw[h3] at hy
  unfold edgeS
  rw[hx,hy]
  subst hn
  exact(edge_iff x y).2 h1
 ·refine Rch.congr fun a b ha hb h=>?_
  unfold edgeS at h
  have hx:s.states[a]?=some s.states[a]:=List.getElem?_eq_getElem ha
  have hy:s.states[b]?=some s.states[b]:=List.getElem?_eq_getElem hb
  rw[hx,hy] at h
  have:=eL_here hx ((edge_iff _ _).1 h) (lastG_of hd hy s.states.length hb) s.states.length ha
  simpa using this
theorem rnd_is {s:Sch}(hd:(s.states.map (·.name)).Nodup):∀(l:List Sta)(i:Nat),i+l.length=s.states.length→firstL (bL s.states.length s.states.length (eL (lastG s.states s.states.length) s.states s.states.length)) l i=rndD s l i
 |[],_,_=>rfl
 | x :: l,i,h=>by
  simp only[List.length_cons] at h
  rw[firstL,rndD,round_is hd (by omega),rnd_is hd l (i+1) (by omega)]
theorem states_is {s:Sch}(h:WOK s):statesE (hasT (hNames s)) (widG s) s.states=statesD s:=by
 unfold statesE statesD
 rw[leads_is]
 by_cases c:32<s.states.length
 ·rw[if_pos c,if_pos c]
 rw[if_neg c,if_neg c]
 rw[← sts_is h]
 cases hs:stsE (hasT (hNames s)) (widG s) (leadsB s) s.states [] with
 | some r=>rfl
 | none=>
  have hd:=(stsE_all s.states [] hs).2
  show loopsE _ _=rndD s s.states 0
  unfold loopsE
  exact rnd_is hd s.states 0 (by omega)
theorem orE_fnd {a b:Option (Int × ByteArray)}(h:NZ a):orE a b=if fndC a≠0 then a else b:=by
 cases a with
 | none=>rfl
 | some r=>exact(if_pos (h r rfl)).symm
theorem check_is (s:Sch):checkE s=checkD s:=by
 unfold checkE checkD
 have n1:NZ (headersE s.headers):=NZ.ite (fun _=>NZ.some (by decide)) (fun _=>hdrs_nz _ _)
 have n2:NZ (metaE s.metas):=NZ.ite (fun _=>NZ.some (by decide)) (fun _=>NZ.ite (fun h=>NZ.some h) (fun _=>NZ.none))
 rw[orE_fnd n1]
 by_cases c1:fndC (headersE s.headers)≠0
 ·rw[if_pos c1,if_pos c1]
 rw[if_neg c1,if_neg c1,orE_fnd n2]
 by_cases c2:fndC (metaE s.metas)≠0
 ·rw[if_pos c2,if_pos c2]
 rw[if_neg c2,if_neg c2]
 have e1:headersE s.headers=none:=by
  cases h:headersE s.headers with
  | none=>rfl
  | some r=>exact absurd (n1 r h) (by rw[h] at c1;exact c1)
 have e2:metaE s.metas=none:=by
  cases h:metaE s.metas with
  | none=>rfl
  | some r=>exact absurd (n2 r h) (by rw[h] at c2;exact c2)
 have hw:=wok_of e1 e2
 have n3:NZ (statesE (hasT (hNames s)) (widG s) s.states):=by
  unfold statesE
  refine NZ.ite (fun _=>NZ.some (by decide)) (fun _=>?_)
  cases h:stsE (hasT (hNames s)) (widG s) (nextB (lastG s.states s.states.length)) s.states [] with
  | some r=>exact fun q e=>by cases e;exact sts_nz _ _ _ h
  | none=>exact first_nz _ _
 have n4:NZ (actionsE (hasT (hNames s)) (widG s) s.actions):=NZ.ite (fun _=>NZ.some (by decide)) (fun _=>acts_nz _ _)
 have n5:NZ (tablesE (widG s) (hasT (aNames s)) s):=NZ.ite (fun _=>NZ.some (by decide)) (fun _=>tbls_nz _ _)
 rw[orE_fnd n3,orE_fnd n4,orE_fnd n5,states_is hw,actions_is hw,tables_is hw,control_is hw]
section
variable {H:Type} {enc:TypeId × Value→H} {W:World} {held:Bool}
theorem open_schs {fuel:Nat}{cs:List Value}(h:Reads enc W held fuel 23 cs):∃ v xs,cs=[v]∧(Row 6 (fun w cs s=>SchIs w (.agg cs) s) W v xs∧Len 144 xs):=open_row (Is:=fun w cs s=>SchIs w (.agg cs) s) Tryz.underlying23 (show Tryz.prog.cellsOf 34=6 by kernel_rfl) (by decide) (show Tryz.prog.bytesOf 34=144 by kernel_rfl) h (fun _ _ _ g=>open_sch g)
end
theorem checks_walk (v:Value)(l:List Sch)(w:World)(hr:Row 6 (fun w cs s=>SchIs w (.agg cs) s) w v l∧Len 144 l):Calls Tryz.prog 4 #[v] w fun e w'=>e=.returned (.bool true)∧Below w.heap.size w w':=by
 obtain⟨ad,cap,rfl,_⟩:=hr.1.slice
 have hlen:l.length*144≤140737488351232:=hr.2
 have HR:Hid (Row 6 (fun w cs s=>SchIs w (.agg cs) s) w (.slice ad l.length cap) l):=hr.1
 obtain⟨n,hn⟩:∃ n,n=l.length:=⟨_,rfl⟩
 have HL:Hid (n=l.length):=hn
 rw[← hn] at HR hlen ⊢
 clear hr hn
 go_enter Tryz.func4,Tryz.ntmps4
 go_wp2_with fail
 refine(shown_any _).mono ?_
 rintro e W1 ⟨rfl,hb⟩
 have HB1:Hid (Bl w W1):=hb
 clear hb
 go_wp2_with fail
 go_loopw [3] (fun i wr=>∃ k:Nat,k≤n∧i=.int .i64 k∧Aside (Below w.heap.size w wr)) (fun i _=>n - (intOf i).toNat)
 case atStart=>exact⟨0,by omega,rfl,HB1.out⟩
 case round=>
  clear HB1
  obtain⟨k,hk,rfl,hS⟩:=hrel
  have HB:Hid (Bl w wr):=hS.out
  clear hS
  by_cases hlt:k<n
  ·obtain⟨s,hs⟩:=gE HL.out hlt
   obtain⟨b,o,cs,rfl,_,hc,hI⟩:=HR.out.at hs
   have HI:Hid (SchIs w (.agg cs) s):=hI
   obtain⟨a0,a1,a2,a3,a4,a5,e,_⟩:=hI
   cases e
   have HQ:Hid (∀ V,Bl w V→∀ j u,(#[a0,a1,a2,a3,a4,a5]:Array Value)[j]?=some u→V.cell? ⟨b,o+k*6+j,none⟩=some u):=fun V h j u hu=>pres_below h _ _ (hc j u hu)
   have C1:Hid (∀ V,Bl w V→Cs 15 #[.agg #[a0,a1,a2,a3,a4,a5]] V fun e w'=>e=.returned (.tuple #[.int .i64 (fndC (checkE s)),.string (fndT (checkE s))])∧Bl V w'):=fun V h=>check_any _ s V (HI.out.pres (pres_below h))
   have C2:Hid (∀ V,Bl w V→Cs 16 #[.agg #[a0,a1,a2,a3,a4,a5]] V fun e w'=>e=.returned (.tuple #[.int .i64 (fndC (checkE s)),.string (fndT (checkE s))])∧Bl V w'):=fun V h=>by
    have:=rcheck_any _ s V (HI.out.pres (pres_below h))
    rw[← check_is] at this
    exact this
   generalize fndC (checkE s)=c at*
   generalize fndT (checkE s)=tx at*
   have hdl:decide ((k:Int)<n)=true:=decide_eq_true (by omega)
   clear hc hs HI
   have q0:wr.cell? ⟨b,o+k*6,none⟩=some a0:=by have:=HQ.out wr HB.out 0 _ rfl;simpa using this
   have q1:wr.cell? ⟨b,o+k*6+1,none⟩=some a1:=HQ.out wr HB.out 1 _ rfl
   have q2:wr.cell? ⟨b,o+k*6+2,none⟩=some a2:=HQ.out wr HB.out 2 _ rfl
   have q3:wr.cell? ⟨b,o+k*6+3,none⟩=some a3:=HQ.out wr HB.out 3 _ rfl
   have q4:wr.cell? ⟨b,o+k*6+4,none⟩=some a4:=HQ.out wr HB.out 4 _ rfl
   have q5:wr.cell? ⟨b,o+k*6+5,none⟩=some a5:=HQ.out wr HB.out 5 _ rfl
   go_wp2_with fail
   refine(C1.out _ HB.out).mono ?_
   rintro e V1 ⟨rfl,hb⟩
   have HB2:Hid (Bl w V1):=bst HB.out hb
   clear hb HB C1 q0 q1 q2 q3 q4 q5
   have q0:V1.cell? ⟨b,o+k*6,none⟩=some a0:=by have:=HQ.out V1 HB2.out 0 _ rfl;simpa using this
   have q1:V1.cell? ⟨b,o+k*6+1,none⟩=some a1:=HQ.out V1 HB2.out 1 _ rfl
   have q2:V1.cell? ⟨b,o+k*6+2,none⟩=some a2:=HQ.out V1 HB2.out 2 _ rfl
   have q3:V1.cell? ⟨b,o+k*6+3,none⟩=some a3:=HQ.out V1 HB2.out 3 _ rfl
   have q4:V1.cell? ⟨b,o+k*6+4,none⟩=some a4:=HQ.out V1 HB2.out 4 _ rfl
   have q5:V1.cell? ⟨b,o+k*6+5,none⟩=some a5:=HQ.out V1 HB2.out 5 _ rfl
   go_wp2_with fail
   refine(C2.out _ HB2.out).mono ?_
   rintro e V2 ⟨rfl,hb⟩
   have HB3:Hid (Bl w V2):=bst HB2.out hb
   clear hb HB2 C2 q0 q1 q2 q3 q4 q5
   go_wp2
   exact⟨⟨k+1,by omega,by go_num,HB3.out⟩,by simp only[intOf];omega⟩
  ·have e:k=n:=by omega
   subst e
   have hdl:decide ((k:Int)<k)=false:=decide_eq_false (by omega)
   go_wp2
   go_ret
   exact⟨rfl,HB.out⟩
end Go.Proofs.YtmbpclknhkbbkaaGreat
