/- The document's cases. -/
import Derived.Test.YtmbpclknhkbbkaaGreatHbz
set_option linter.unusedSimpArgs false
set_option linter.unusedVariables false
set_option maxHeartbeats 8000000
set_option maxRecDepth 100000
namespace Go.Proofs.YtmbpclknhkbbkaaGreat
open Go.RowKit
theorem bv_sub (a b:BitVec 64):a &&& ~~~b=0#64↔a &&& b=a:=by
 constructor
 ·intro h
  apply BitVec.eq_of_getLsbD_eq
  intro i hi
  have:=congrArg (fun z=>z.getLsbD i) h
  simp[hi] at this ⊢
  exact this
 ·intro h
  apply BitVec.eq_of_getLsbD_eq
  intro i hi
  have:=congrArg (fun z=>z.getLsbD i) h
  simp[hi] at this ⊢
  exact this
theorem an_zero (x y:Nat)(hx:x<18446744073709551616):bits .andNot .u64 (x:Int) (y:Int)=0↔bits .and .u64 (x:Int) (y:Int)=(x:Int):=by
 have h:=bv_sub (BitVec.ofInt 64 x) (BitVec.ofInt 64 y)
 have e1:bits .andNot .u64 (x:Int) (y:Int)=((BitVec.ofInt 64 x &&& ~~~BitVec.ofInt 64 y).toNat:Int):=by
  show IntKind.u64.wrap _=_
  have:=(BitVec.ofInt 64 (x:Int) &&& ~~~BitVec.ofInt 64 (y:Int)).isLt
  simp only[IntKind.wrap]
  exact Int.emod_eq_of_lt (by omega) (by exact_mod_cast this)
 have e2:bits .and .u64 (x:Int) (y:Int)=((BitVec.ofInt 64 x &&& BitVec.ofInt 64 y).toNat:Int):=by
  show IntKind.u64.wrap _=_
  have:=(BitVec.ofInt 64 (x:Int) &&& BitVec.ofInt 64 (y:Int)).isLt
  simp only[IntKind.wrap]
  exact Int.emod_eq_of_lt (by omega) (by exact_mod_cast this)
 have e3:(BitVec.ofInt 64 (x:Int)).toNat=x:=by
  rw[BitVec.toNat_ofInt]
  omega
 rw[e1,e2]
 constructor
 ·intro h1
  have:BitVec.ofInt 64 (x:Int) &&& ~~~BitVec.ofInt 64 (y:Int)=0#64:=BitVec.eq_of_toNat_eq (by simpa using h1)
  rw[h.1 this,e3]
 ·intro h1
  have:BitVec.ofInt 64 (x:Int) &&& BitVec.ofInt 64 (y:Int)=BitVec.ofInt 64 (x:Int):=BitVec.eq_of_toNat_eq (by rw[e3];exact_mod_cast h1)
  rw[h.2 this]
  rfl
theorem an_hi {n m:Nat}(hn:Is128 n)(hm:Is128 m):(bits .andNot .u64 (hiOf n) (hiOf m)==0)=decide (hiOf (n &&& m)=hiOf n):=by
 rw[Bool.eq_iff_iff,beq_iff_eq,decide_eq_true_iff,← and_hi hn hm]
 unfold Is128 at hn
 exact an_zero _ _ (by omega)
theorem an_lo (n m:Nat):(bits .andNot .u64 (loOf n) (loOf m)==0)=decide (loOf (n &&& m)=loOf n):=by
 rw[Bool.eq_iff_iff,beq_iff_eq,decide_eq_true_iff,← and_lo n m]
 exact an_zero _ _ (by omega)
theorem two_words (n m:Nat):decide (n=m)=(decide (hiOf n=hiOf m)&&decide (loOf n=loOf m)):=by
 rw[Bool.eq_iff_iff,Bool.and_eq_true,decide_eq_true_iff,decide_eq_true_iff,decide_eq_true_iff]
 unfold hiOf loOf
 omega
def snC (cs:List Cas)(k:Nat):List (Nat × Nat):=((cs.take k).map fun c=>(c.value,c.mask)).reverse
theorem snC_succ {cs:List Cas}{k:Nat}{c:Cas}(hc:cs[k]?=some c):snC cs (k+1)=(c.value,c.mask) :: snC cs k:=by
 unfold snC
 rw[List.take_add_one,hc]
 simp
theorem snC_iff (cs:List Cas)(k:Nat)(p:Nat × Nat):(snC cs k).contains p=true↔∃ j c,j<k∧cs[j]?=some c∧(c.value,c.mask)=p:=by
 rw[List.contains_iff_mem]
 unfold snC
 rw[List.mem_reverse,List.mem_map]
 constructor
 ·rintro⟨x,h1,h2⟩
  obtain⟨j,hj⟩:=List.getElem?_of_mem h1
  rw[List.getElem?_take] at hj
  by_cases hi:j<k
  ·rw[if_pos hi] at hj;exact⟨j,x,hi,hj,h2⟩
  ·rw[if_neg hi] at hj;cases hj
 ·rintro⟨j,x,h1,h2,h3⟩
  refine⟨x,List.mem_of_getElem? (i:=j) ?_,h3⟩
  rw[List.getElem?_take,if_pos h1];exact h2
theorem rcases_any (v:Value)(s:Sch)(x:Sta)(cs:Array Value)(w:World)(hs:SchIs w v s)(hI:StaIs w cs x):Calls Tryz.prog 211 #[v,.agg cs] w fun e w'=>e=.returned (.int .i64 (casesE ((widO s x.on).getD 0) (leadsB s) x.cases []))∧Below w.heap.size w w':=by
 obtain⟨v0,v1,v2,v3,v4,v5,rfl,_⟩:=id hs
 obtain⟨cv,rfl,hok,hcr⟩:=hI
 obtain⟨ca,cc,rfl,_⟩:=hcr.1.slice
 have hlen:x.cases.length*48≤140737488351232:=hcr.2
 have HR:Hid (CasRow w (.slice ca x.cases.length cc) x.cases):=hcr
 obtain⟨n,hn⟩:∃ n,n=x.cases.length:=⟨_,rfl⟩
 have HL:Hid (n=x.cases.length):=hn
 rw[← hn] at HR hlen ⊢
 clear hn
 have H:Hid (Sb w w.heap.size v0 v1 v2 v3 v4 v5 s ((w.alloc (.cells #[v0,v1,v2,v3,v4,v5] 34)).alloc (.cells #[.string x.name,.string x.header,.string x.on.head,.string x.on.name,.slice ca n cc,.string x.next] 98))):=(sb_new hs).more _
 have HZ:Hid (Blk ((w.alloc (.cells #[v0,v1,v2,v3,v4,v5] 34)).alloc (.cells #[.string x.name,.string x.header,.string x.on.head,.string x.on.name,.slice ca n cc,.string x.next] 98)) (w.heap.size+1) #[.string x.name,.string x.header,.string x.on.head,.string x.on.name,.slice ca n cc,.string x.next] 98):=blk_two _ _ _ _
 clear hs hok hcr
 have CW:Hid (∀ V,SchIs V (.agg #[v0,v1,v2,v3,v4,v5]) s→Cs 165 #[.agg #[v0,v1,v2,v3,v4,v5],.agg #[.string x.on.head,.string x.on.name]] V fun e w'=>e=.returned (.tuple #[.int .i64 ((widO s x.on).getD 0),.bool (widO s x.on).isSome])∧Bl V w'):=fun V h=>rwidth_any _ s x.on V h
 generalize (widO s x.on).isSome=wo at*
 generalize (widO s x.on).getD 0=wd at*
 obtain⟨R,hR⟩:∃ R,R=casesE wd (leadsB s) x.cases []:=⟨_,rfl⟩
 have H0:Hid (casesE wd (leadsB s) (x.cases.drop 0) (snC x.cases 0)=R):=by rw[hR];rfl
 rw[← hR]
 clear hR
 go_enter Tryz.func211,Tryz.ntmps211
 go_upto_region 1 with fail
 generalize ((w.alloc _).alloc _)=W0 at H HZ ⊢
 obtain⟨xb,hxb⟩:∃ xb,xb=w.heap.size:=⟨_,rfl⟩
 obtain⟨zb,hzb⟩:∃ zb,zb=w.heap.size+1:=⟨_,rfl⟩
 rw[← hzb] at HZ ⊢
 rw[← hxb] at H ⊢
 clear hxb hzb
 obtain⟨x0,x1,x2,x3,x4,x5⟩:=H.out.c
 have z2:=HZ.out.cell 2 (v:=.string x.on.head) rfl
 have z3:=HZ.out.cell 3 (v:=.string x.on.name) rfl
 go_wp2_with fail
 refine(CW.out _ H.out.sch).mono ?_
 rintro e W1 ⟨rfl,hb⟩
 have H1:Hid (Sb w xb v0 v1 v2 v3 v4 v5 s W1∧Blk W1 zb #[.string x.name,.string x.header,.string x.on.head,.string x.on.name,.slice ca n cc,.string x.next] 98):=⟨H.out.below hb,HZ.out.below hb⟩
 clear hb H HZ x0 x1 x2 x3 x4 x5 z2 z3 CW
 go_wp2_with fail
 go_loopw [7] (fun i wr=>∃ k:Nat,k≤n∧i=.int .i64 k∧Aside (Sb w xb v0 v1 v2 v3 v4 v5 s wr∧Blk wr zb #[.string x.name,.string x.header,.string x.on.head,.string x.on.name,.slice ca n cc,.string x.next] 98)∧Aside (casesE wd (leadsB s) (x.cases.drop k) (snC x.cases k)=R)) (fun i _=>n - (intOf i).toNat)
 case atStart=>exact⟨0,by omega,rfl,H1.out,H0.out⟩
 case round=>
  clear H0 H1
  obtain⟨k,hk,rfl,hS,hd⟩:=hrel
  have H:Hid (Sb w xb v0 v1 v2 v3 v4 v5 s wr∧Blk wr zb #[.string x.name,.string x.header,.string x.on.head,.string x.on.name,.slice ca n cc,.string x.next] 98):=hS.out
  have HD:Hid (casesE wd (leadsB s) (x.cases.drop k) (snC x.cases k)=R):=hd.out
  clear hS hd
  have z4:=H.out.2.cell 4 (v:=.slice ca n cc) rfl
  by_cases hlt:k<n
  ·obtain⟨c,hc⟩:=gE HL.out hlt
   obtain⟨b,o,cl,rfl,_,hcc,rfl,hok⟩:=HR.out.1.at hc
   have HS:Hid (R=if(fitsN c.mask wd&&decide (c.value &&& c.mask=c.value))=false then 73 else if(snC x.cases k).contains (c.value,c.mask)=true then 71 else if leadsB s c.next=false then 72 else casesE wd (leadsB s) (x.cases.drop (k+1)) (snC x.cases (k+1))):=by
    show _=_
    rw[← HD.out,cases_step hc,snC_succ hc]
   have CF:Hid (∀ V,Cs 169 #[.agg #[.int .u64 (hiOf c.mask),.int .u64 (loOf c.mask)],.int .i64 wd] V fun e w'=>e=.returned (.bool (fitsN c.mask wd))∧Bl V w'):=fun V=>rfits_any c.mask hok.2.1 wd V
   have CL:Hid (∀ V,SchIs V (.agg #[v0,v1,v2,v3,v4,v5]) s→Cs 212 #[.agg #[v0,v1,v2,v3,v4,v5],.string c.next] V fun e w'=>e=.returned (.bool (leadsB s c.next))∧Bl V w'):=fun V h=>leads_any _ s c.next V h
   have HQ:Hid (∀ V,Sb w xb v0 v1 v2 v3 v4 v5 s V→∀ j u,(#[.int .u64 (hiOf c.value),.int .u64 (loOf c.value),.int .u64 (hiOf c.mask),.int .u64 (loOf c.mask),.string c.next]:Array Value)[j]?=some u→V.cell? ⟨b,o+k*5+j,none⟩=some u):=fun V h j u hu=>pres_below h.bel _ _ (hcc j u hu)
   have e1:=an_hi hok.1 hok.2.1
   have e2:=an_lo c.value c.mask
   have q0:wr.cell? ⟨b,o+k*5,none⟩=some (.int .u64 (hiOf c.value)):=by have:=HQ.out wr H.out.1 0 _ rfl;simpa using this
   have q1:wr.cell? ⟨b,o+k*5+1,none⟩=some (.int .u64 (loOf c.value)):=by have:=HQ.out wr H.out.1 1 _ rfl;simpa using this
   have q2:wr.cell? ⟨b,o+k*5+2,none⟩=some (.int .u64 (hiOf c.mask)):=by have:=HQ.out wr H.out.1 2 _ rfl;simpa using this
   have q3:wr.cell? ⟨b,o+k*5+3,none⟩=some (.int .u64 (loOf c.mask)):=by have:=HQ.out wr H.out.1 3 _ rfl;simpa using this
   have q4:wr.cell? ⟨b,o+k*5+4,none⟩=some (.string c.next):=by have:=HQ.out wr H.out.1 4 _ rfl;simpa using this
   have hdl:decide ((k:Int)<n)=true:=decide_eq_true (by omega)
   rw[two_words] at HS
   obtain⟨nx,hnx⟩:∃ nx,nx=casesE wd (leadsB s) (x.cases.drop (k+1)) (snC x.cases (k+1)):=⟨_,rfl⟩
   have HNX:Hid (nx=casesE wd (leadsB s) (x.cases.drop (k+1)) (snC x.cases (k+1))):=hnx
   rw[← hnx] at HS
   clear hnx hcc hc hok HD HQ
   generalize leadsB s c.next=lb at*
   generalize fitsN c.mask wd=fb at*
   generalize decide (hiOf (c.value &&& c.mask)=hiOf c.value)=d1 at*
   generalize decide (loOf (c.value &&& c.mask)=loOf c.value)=d2 at*
   go_upto_region 6 with fail
   have HA:Hid (Sb w xb v0 v1 v2 v3 v4 v5 s (wr.alloc (.cells #[.int .u64 (hiOf c.value),.int .u64 (loOf c.value),.int .u64 (hiOf c.mask),.int .u64 (loOf c.mask),.string c.next] 165))∧Blk (wr.alloc (.cells #[.int .u64 (hiOf c.value),.int .u64 (loOf c.value),.int .u64 (hiOf c.mask),.int .u64 (loOf c.mask),.string c.next] 165)) zb #[.string x.name,.string x.header,.string x.on.head,.string x.on.name,.slice (some ⟨b,o,none⟩) n cc,.string x.next] 98∧Blk (wr.alloc (.cells #[.int .u64 (hiOf c.value),.int .u64 (loOf c.value),.int .u64 (hiOf c.mask),.int .u64 (loOf c.mask),.string c.next] 165)) wr.heap.size #[.int .u64 (hiOf c.value),.int .u64 (loOf c.value),.int .u64 (hiOf c.mask),.int .u64 (loOf c.mask),.string c.next] 165):=⟨H.out.1.more _,H.out.2.below ((Below.refl _ _).alloc (Nat.le_refl _) _),Blk.new _ _ _⟩
   clear q0 q1 q2 q3 q4 z4 H
   generalize (wr.alloc _)=V0 at HA ⊢
   obtain⟨yb,hyb⟩:∃ yb,yb=wr.heap.size:=⟨_,rfl⟩
   rw[← hyb] at HA ⊢
   clear hyb
   have y2:=HA.out.2.2.cell 2 (v:=.int .u64 (hiOf c.mask)) rfl
   have y3:=HA.out.2.2.cell 3 (v:=.int .u64 (loOf c.mask)) rfl
   go_wp2_with fail
   refine(CF.out _).mono ?_
   rintro e V1 ⟨rfl,hb⟩
   have H1:Hid (Sb w xb v0 v1 v2 v3 v4 v5 s V1∧Blk V1 zb #[.string x.name,.string x.header,.string x.on.head,.string x.on.name,.slice (some ⟨b,o,none⟩) n cc,.string x.next] 98∧Blk V1 yb #[.int .u64 (hiOf c.value),.int .u64 (loOf c.value),.int .u64 (hiOf c.mask),.int .u64 (loOf c.mask),.string c.next] 165):=⟨HA.out.1.below hb,HA.out.2.1.below hb,HA.out.2.2.below hb⟩
   clear hb HA y2 y3 CF
   obtain⟨y0,y1,y2,y3,_⟩:=H1.out.2.2.c5
   by_cases hbits:(fb&&(d1&&d2))=false
   ·rw[if_pos hbits] at HS
    cases fb with
    | false=>go_wp2;go_ret;exact⟨by rw[HS.out];rfl,H1.out.1.bel⟩
    | true=>
     cases d1 with
     | false=>
      have n1:¬ bits .andNot .u64 (hiOf c.value) (hiOf c.mask)=0:=by simpa using e1
      have n2:=decide_eq_false n1
      go_wp2;go_ret;exact⟨by rw[HS.out];rfl,H1.out.1.bel⟩
     | true=>
      have n1:bits .andNot .u64 (hiOf c.value) (hiOf c.mask)=0:=by simpa using e1
      cases d2 with
      | false=>
       have m1:¬ bits .andNot .u64 (loOf c.value) (loOf c.mask)=0:=by simpa using e2
       have m2:=decide_eq_false m1
       go_wp2;go_ret;exact⟨by rw[HS.out];rfl,H1.out.1.bel⟩
      | true=>exact absurd hbits (by simp)
   rw[if_neg hbits] at HS
   have hb3:fb=true∧d1=true∧d2=true:=by
    cases fb<;>cases d1<;>cases d2<;>simp_all
   obtain⟨rfl,rfl,rfl⟩:=hb3
   have n1:bits .andNot .u64 (hiOf c.value) (hiOf c.mask)=0:=by simpa using e1
   have m1:bits .andNot .u64 (loOf c.value) (loOf c.mask)=0:=by simpa using e2
   clear hbits e1 e2
   go_wp2_with fail
   clear y0 y1 y2 y3 n1 m1
   go_loopw [10] (fun i wq=>∃ j:Nat,j≤k∧i=.int .i64 j∧Aside (Sb w xb v0 v1 v2 v3 v4 v5 s wq∧Blk wq zb #[.string x.name,.string x.header,.string x.on.head,.string x.on.name,.slice (some ⟨b,o,none⟩) n cc,.string x.next] 98∧Blk wq yb #[.int .u64 (hiOf c.value),.int .u64 (loOf c.value),.int .u64 (hiOf c.mask),.int .u64 (loOf c.mask),.string c.next] 165)∧Aside (∀ i' c',i'<j→x.cases[i']?=some c'→¬(c'.value,c'.mask)=(c.value,c.mask))) (fun i _=>k - (intOf i).toNat)
   case atStart=>exact⟨0,by omega,rfl,H1.out,by intro i' c' h;omega⟩
   case round=>
    clear H1
    obtain⟨j,hj,rfl,hS2,hno⟩:=hrel
    have H2:Hid (Sb w xb v0 v1 v2 v3 v4 v5 s wr∧Blk wr zb #[.string x.name,.string x.header,.string x.on.head,.string x.on.name,.slice (some ⟨b,o,none⟩) n cc,.string x.next] 98∧Blk wr yb #[.int .u64 (hiOf c.value),.int .u64 (loOf c.value),.int .u64 (hiOf c.mask),.int .u64 (loOf c.mask),.string c.next] 165):=hS2.out
    have HNO:Hid (∀ i' c',i'<j→x.cases[i']?=some c'→¬(c'.value,c'.mask)=(c.value,c.mask)):=hno.out
    clear hS2 hno
    by_cases hjl:j<k
    ·obtain⟨d,hd⟩:∃ d,x.cases[j]?=some d:=⟨x.cases[j]'(by rw[← HL.out];omega),List.getElem?_eq_getElem _⟩
     obtain⟨b',o',cl',e',_,hcc',rfl,_⟩:=HR.out.1.at hd
     cases e'
     have HV:Hid (∀ j' u,(CasC d)[j']?=some u→wr.cell? ⟨b,o+j*5+j',none⟩=some u):=fun j' u hu=>pres_below H2.out.1.bel _ _ (hcc' j' u hu)
     have r0:wr.cell? ⟨b,o+j*5,none⟩=some (.int .u64 (hiOf d.value)):=by have:=HV.out 0 _ rfl;simpa using this
     have r1:wr.cell? ⟨b,o+j*5+1,none⟩=some (.int .u64 (loOf d.value)):=by have:=HV.out 1 _ rfl;simpa using this
     have r2:wr.cell? ⟨b,o+j*5+2,none⟩=some (.int .u64 (hiOf d.mask)):=by have:=HV.out 2 _ rfl;simpa using this
     have r3:wr.cell? ⟨b,o+j*5+3,none⟩=some (.int .u64 (loOf d.mask)):=by have:=HV.out 3 _ rfl;simpa using this
     have E1:∀ u:World,(binOp .eql 121 (.agg #[.int .u64 (hiOf d.value),.int .u64 (loOf d.value)]) (.agg #[.int .u64 (hiOf c.value),.int .u64 (loOf c.value)])).run Tryz.prog u=.ok (.bool (decide (d.value=c.value))) u:=fun u=>run_eqB rfl u
     have E2:∀ u:World,(binOp .eql 121 (.agg #[.int .u64 (hiOf d.mask),.int .u64 (loOf d.mask)]) (.agg #[.int .u64 (hiOf c.mask),.int .u64 (loOf c.mask)])).run Tryz.prog u=.ok (.bool (decide (d.mask=c.mask))) u:=fun u=>run_eqB rfl u
     have HYES:Hid (d.value=c.value→d.mask=c.mask→R=71):=fun h1 h2=>by rw[HS.out,if_pos ((snC_iff _ _ _).2 ⟨j,d,hjl,hd,by rw[h1,h2]⟩)]
     have HN:Hid (¬(d.value=c.value∧d.mask=c.mask)→∀ i' c',i'<j+1→x.cases[i']?=some c'→¬(c'.value,c'.mask)=(c.value,c.mask)):=fun h i' c' h1 h2 h3=>by
      by_cases hi:i'<j
      ·exact HNO.out i' c' hi h2 h3
      ·have:i'=j:=by omega
       subst this
       rw[hd] at h2
       cases h2
       exact h ⟨congrArg Prod.fst h3,congrArg Prod.snd h3⟩
     have z4:=H2.out.2.1.cell 4 (v:=.slice (some ⟨b,o,none⟩) n cc) rfl
     obtain⟨y0,y1,y2,y3,_⟩:=H2.out.2.2.c5
     have hdj:decide ((j:Int)<k)=true:=decide_eq_true (by omega)
     have hin:(0:Int)≤(j:Int)∧(j:Int)<(n:Int):=by omega
     clear hcc' hd HV HNO
     by_cases g1:d.value=c.value
     ·rw[decide_eq_true g1] at E1
      by_cases g2:d.mask=c.mask
      ·rw[decide_eq_true g2] at E2
       have HR71:Hid (R=71):=HYES.out g1 g2
       clear HYES HN
       go_upto_region 12 with fail
       go_quiet (fail)
       go_wp2
       go_ret
       exact⟨by rw[HR71.out];rfl,below_drewN H2.out.1.bel _⟩
      ·rw[decide_eq_false g2] at E2
       have HN2:Hid (∀ i' c',i'<j+1→x.cases[i']?=some c'→¬(c'.value,c'.mask)=(c.value,c.mask)):=HN.out (fun h=>g2 h.2)
       clear HYES HN
       go_upto_region 12 with fail
       go_quiet (fail)
       rename_i nq
       have hbq:Below wr.heap.size wr (wr.drewN nq):=below_drewN (Below.refl _ _) _
       have H3:Hid (Sb w xb v0 v1 v2 v3 v4 v5 s (wr.drewN nq)∧Blk (wr.drewN nq) zb #[.string x.name,.string x.header,.string x.on.head,.string x.on.name,.slice (some ⟨b,o,none⟩) n cc,.string x.next] 98∧Blk (wr.drewN nq) yb #[.int .u64 (hiOf c.value),.int .u64 (loOf c.value),.int .u64 (hiOf c.mask),.int .u64 (loOf c.mask),.string c.next] 165):=⟨H2.out.1.below hbq,H2.out.2.1.below hbq,H2.out.2.2.below hbq⟩
       clear hbq
       go_wp2
       exact⟨⟨j+1,by omega,by go_num,H3.out,HN2.out⟩,by simp only[intOf];omega⟩
     ·rw[decide_eq_false g1] at E1
      have HN2:Hid (∀ i' c',i'<j+1→x.cases[i']?=some c'→¬(c'.value,c'.mask)=(c.value,c.mask)):=HN.out (fun h=>g1 h.1)
      clear HYES HN
      go_upto_region 12 with fail
      go_quiet (fail)
      rename_i nq
      have hbq:Below wr.heap.size wr (wr.drewN nq):=below_drewN (Below.refl _ _) _
      have H3:Hid (Sb w xb v0 v1 v2 v3 v4 v5 s (wr.drewN nq)∧Blk (wr.drewN nq) zb #[.string x.name,.string x.header,.string x.on.head,.string x.on.name,.slice (some ⟨b,o,none⟩) n cc,.string x.next] 98∧Blk (wr.drewN nq) yb #[.int .u64 (hiOf c.value),.int .u64 (loOf c.value),.int .u64 (hiOf c.mask),.int .u64 (loOf c.mask),.string c.next] 165):=⟨H2.out.1.below hbq,H2.out.2.1.below hbq,H2.out.2.2.below hbq⟩
      clear hbq
      go_wp2
      exact⟨⟨j+1,by omega,by go_num,H3.out,HN2.out⟩,by simp only[intOf];omega⟩
    ·have e:j=k:=by omega
     subst e
     have HS2:Hid (R=if lb=false then 72 else nx):=by
      show _=_
      rw[HS.out,if_neg (fun h=>by obtain⟨i',c',h1,h2,h3⟩:=(snC_iff _ _ _).1 h;exact HNO.out i' c' h1 h2 h3)]
     have hdj:decide ((j:Int)<j)=false:=decide_eq_false (by omega)
     obtain⟨x0,x1,x2,x3,x4,x5⟩:=H2.out.1.c
     have y4:=H2.out.2.2.cell 4 (v:=.string c.next) rfl
     clear HS HNO
     go_wp2_with fail
     refine(CL.out _ H2.out.1.sch).mono ?_
     rintro e V3 ⟨rfl,hb⟩
     have H4:Hid (Sb w xb v0 v1 v2 v3 v4 v5 s V3∧Blk V3 zb #[.string x.name,.string x.header,.string x.on.head,.string x.on.name,.slice (some ⟨b,o,none⟩) n cc,.string x.next] 98):=⟨H2.out.1.below hb,H2.out.2.1.below hb⟩
     clear hb H2 x0 x1 x2 x3 x4 x5 y4 CL
     cases lb with
     | false=>go_wp2;go_ret;exact⟨by rw[HS2.out];rfl,H4.out.1.bel⟩
     | true=>
      go_wp2
      exact⟨⟨j+1,by omega,by go_num,H4.out,by show _=_;rw[← HNX.out];exact HS2.out.symm⟩,by simp only[intOf];omega⟩
  ·have e:k=n:=by omega
   subst e
   have HF:Hid (R=0):=by show _=_;rw[← HD.out,List.drop_of_length_le (by rw[← HL.out];omega)];rfl
   have hdl:decide ((k:Int)<k)=false:=decide_eq_false (by omega)
   go_wp2
   go_ret
   exact⟨by rw[HF.out];rfl,H.out.1.bel⟩
def stateD (s:Sch)(x:Sta):Int:=
 if hdrAt s x.header<0 then 72 else if(decide (x.on=zeroR)||(widO s x.on).isSome)=false then 72 else if 32<x.cases.length then 74
 else if x.on=zeroR∧x.cases.length≠0 then 75 else if casesE ((widO s x.on).getD 0) (leadsB s) x.cases []≠0 then casesE ((widO s x.on).getD 0) (leadsB s) x.cases [] else if leadsB s x.next=false then 72 else 0
theorem rstate_any (v:Value)(s:Sch)(x:Sta)(cs:Array Value)(w:World)(hs:SchIs w v s)(hI:StaIs w cs x):Calls Tryz.prog 159 #[v,.agg cs] w fun e w'=>e=.returned (.int .i64 (stateD s x))∧Below w.heap.size w w':=by
 obtain⟨v0,v1,v2,v3,v4,v5,rfl,_⟩:=id hs
 have HI:Hid (StaIs w cs x):=hI
 obtain⟨cv,rfl,hok,hcr⟩:=hI
 obtain⟨ca,cc,rfl,_⟩:=hcr.1.slice
 have HR : Hid (stateD s x = if hdrAt s x.header < 0 then 72 else if (decide (x.on = zeroR) || (widO s x.on).isSome) = false then 72 else if 32 < x.cases.length then 74
   else if x.on = zeroR ∧ x.cases.length ≠ 0 then 75 else if casesE ((widO s x.on).getD 0) (leadsB s) x.cases [] ≠ 0 then casesE ((widO s x.on).getD 0) (leadsB s) x.cases [] else if leadsB s x.next = false then 72 else 0) := rfl
 generalize stateD s x=R at*
 have C1:Hid (∀ V,SchIs V (.agg #[v0,v1,v2,v3,v4,v5]) s→Cs 129 #[.agg #[v0,v1,v2,v3,v4,v5],.string x.header] V fun e w'=>e=.returned (.int .i64 (hdrAt s x.header))∧Bl V w'):=fun V h=>rhdrAt_any _ s x.header V h
 have C2:Hid (∀ V,Cs 209 #[.agg #[.string x.on.head,.string x.on.name]] V fun e w'=>e=.returned (.bool (decide (x.on=zeroR)))∧Bl V w'):=fun V=>zref_any x.on V
 have C3 : Hid (∀ V, SchIs V (.agg #[v0, v1, v2, v3, v4, v5]) s → Cs 210 #[.agg #[v0, v1, v2, v3, v4, v5], .agg #[.string x.on.head, .string x.on.name]] V fun e w' => ∃ a b, e = .returned (.tuple #[.int .i64 a, .int .i64 b, .bool (widO s x.on).isSome]) ∧ Bl V w') := fun V h => (place_any _ s x.on V h).mono (by
   rintro e w' ⟨a, b, ok, o, rfl, hp, hb⟩
   refine ⟨a, b, ?_, hb⟩
   rw [plc_wid hp]
   cases hp <;> rfl)
 have C4:Hid (∀ V,SchIs V (.agg #[v0,v1,v2,v3,v4,v5]) s→Pres w V→Cs 211 #[.agg #[v0,v1,v2,v3,v4,v5],.agg #[.string x.name,.string x.header,.string x.on.head,.string x.on.name,.slice ca x.cases.length cc,.string x.next]] V fun e w'=>e=.returned (.int .i64 (casesE ((widO s x.on).getD 0) (leadsB s) x.cases []))∧Bl V w'):=fun V h hp=>rcases_any _ s x _ V h (HI.out.pres hp)
 have C5:Hid (∀ V,SchIs V (.agg #[v0,v1,v2,v3,v4,v5]) s→Cs 212 #[.agg #[v0,v1,v2,v3,v4,v5],.string x.next] V fun e w'=>e=.returned (.bool (leadsB s x.next))∧Bl V w'):=fun V h=>leads_any _ s x.next V h
 obtain⟨n,hn⟩:∃ n,n=x.cases.length:=⟨_,rfl⟩
 rw[← hn] at HR C4 ⊢
 have H:Hid (Sb w w.heap.size v0 v1 v2 v3 v4 v5 s ((w.alloc (.cells #[v0,v1,v2,v3,v4,v5] 34)).alloc (.cells #[.string x.name,.string x.header,.string x.on.head,.string x.on.name,.slice ca n cc,.string x.next] 98))∧Blk ((w.alloc (.cells #[v0,v1,v2,v3,v4,v5] 34)).alloc (.cells #[.string x.name,.string x.header,.string x.on.head,.string x.on.name,.slice ca n cc,.string x.next] 98)) (w.heap.size+1) #[.string x.name,.string x.header,.string x.on.head,.string x.on.name,.slice ca n cc,.string x.next] 98):=⟨(sb_new hs).more _,blk_two _ _ _ _⟩
 clear hs hok hcr HI hn
 generalize casesE ((widO s x.on).getD 0) (leadsB s) x.cases []=ce at*
 generalize (widO s x.on).isSome=wo at*
 generalize leadsB s x.next=lb at*
 generalize hdrAt s x.header=ha at*
 have hz:(decide (x.on=zeroR)=true↔x.on=zeroR):=decide_eq_true_iff
 generalize decide (x.on=zeroR)=zo at*
 have HZ:Hid (zo=true↔x.on=zeroR):=hz
 clear hz
 go_enter Tryz.func159,Tryz.ntmps159
 go_upto_region 1 with fail
 generalize ((w.alloc _).alloc _)=W0 at H ⊢
 obtain⟨xb,hxb⟩:∃ xb,xb=w.heap.size:=⟨_,rfl⟩
 obtain⟨zb,hzb⟩:∃ zb,zb=w.heap.size+1:=⟨_,rfl⟩
 rw[← hzb,← hxb] at H
 rw[← hzb,← hxb]
 clear hxb hzb
 obtain⟨x0,x1,x2,x3,x4,x5⟩:=H.out.1.c
 have z1:=H.out.2.cell 1 (v:=.string x.header) rfl
 go_wp2_with fail
 refine(C1.out _ H.out.1.sch).mono ?_
 rintro e W1 ⟨rfl,hb⟩
 have H1:Hid (Sb w xb v0 v1 v2 v3 v4 v5 s W1∧Blk W1 zb #[.string x.name,.string x.header,.string x.on.head,.string x.on.name,.slice ca n cc,.string x.next] 98):=⟨H.out.1.below hb,H.out.2.below hb⟩
 clear hb H x0 x1 x2 x3 x4 x5 z1 C1
 by_cases h0:ha<0
 ·have h0':decide (ha<0)=true:=decide_eq_true h0
  rw[if_pos h0] at HR
  go_wp2;go_ret;exact⟨by rw[HR.out];rfl,H1.out.1.bel⟩
 have h0':decide (ha<0)=false:=decide_eq_false h0
 rw[if_neg h0] at HR
 have z2:=H1.out.2.cell 2 (v:=.string x.on.head) rfl
 have z3:=H1.out.2.cell 3 (v:=.string x.on.name) rfl
 go_wp2_with fail
 refine(C2.out _).mono ?_
 rintro e W2 ⟨rfl,hb⟩
 have H2:Hid (Sb w xb v0 v1 v2 v3 v4 v5 s W2∧Blk W2 zb #[.string x.name,.string x.header,.string x.on.head,.string x.on.name,.slice ca n cc,.string x.next] 98):=⟨H1.out.1.below hb,H1.out.2.below hb⟩
 clear hb H1 z2 z3 C2 h0 h0'
 obtain⟨x0,x1,x2,x3,x4,x5⟩:=H2.out.1.c
 have z2:=H2.out.2.cell 2 (v:=.string x.on.head) rfl
 have z3:=H2.out.2.cell 3 (v:=.string x.on.name) rfl
 go_wp2_with fail
 refine(C3.out _ H2.out.1.sch).mono ?_
 rintro e W3 ⟨pa,pb,rfl,hb⟩
 have H3:Hid (Sb w xb v0 v1 v2 v3 v4 v5 s W3∧Blk W3 zb #[.string x.name,.string x.header,.string x.on.head,.string x.on.name,.slice ca n cc,.string x.next] 98):=⟨H2.out.1.below hb,H2.out.2.below hb⟩
 clear hb H2 x0 x1 x2 x3 x4 x5 z2 z3 C3
 by_cases h1:(zo||wo)=false
 ·rw[if_pos h1] at HR
  obtain⟨rfl,rfl⟩:zo=false∧wo=false:=by cases zo<;>cases wo<;>simp_all
  go_wp2;go_ret;exact⟨by rw[HR.out];rfl,H3.out.1.bel⟩
 rw[if_neg h1] at HR
 have z4:=H3.out.2.cell 4 (v:=.slice ca n cc) rfl
 by_cases h2:32<n
 ·rw[if_pos h2] at HR
  have h2':decide ((32:Int)<n)=true:=decide_eq_true (by omega)
  cases zo<;>cases wo<;>first|(exact absurd rfl h1)|(go_wp2;go_ret;exact⟨by rw[HR.out];rfl,H3.out.1.bel⟩)
 rw[if_neg h2] at HR
 have h2':decide ((32:Int)<n)=false:=decide_eq_false (by omega)
 by_cases h3:x.on=zeroR∧n≠0
 ·rw[if_pos h3] at HR
  obtain rfl:zo=true:=HZ.out.2 h3.1
  have h3':decide (0<n)=true:=decide_eq_true (by omega)
  go_wp2;go_ret;exact⟨by rw[HR.out];rfl,H3.out.1.bel⟩
 rw[if_neg h3] at HR
 have HP:Hid (Pres w W3):=pres_below H3.out.1.bel
 have h3':zo=true→decide (0<n)=false:=fun h=>decide_eq_false (fun h4=>h3 ⟨HZ.out.1 h,by omega⟩)
 obtain⟨x0,x1,x2,x3,x4,x5⟩:=H3.out.1.c
 have z0:=H3.out.2.cell 0 (v:=.string x.name) rfl
 have z1:=H3.out.2.cell 1 (v:=.string x.header) rfl
 have z2:=H3.out.2.cell 2 (v:=.string x.on.head) rfl
 have z3:=H3.out.2.cell 3 (v:=.string x.on.name) rfl
 have z5:=H3.out.2.cell 5 (v:=.string x.next) rfl
 have KEY:Hid (Cs 211 #[.agg #[v0,v1,v2,v3,v4,v5],.agg #[.string x.name,.string x.header,.string x.on.head,.string x.on.name,.slice ca n cc,.string x.next]] W3 fun e w'=>e=.returned (.int .i64 (ce))∧Bl W3 w'):=C4.out _ H3.out.1.sch HP.out
 clear C4 HP
 cases zo with
 | true=>
  have h3':=h3' rfl
  go_wp2_with fail
  refine KEY.out.mono ?_
  rintro e W4 ⟨rfl,hb⟩
  have H4:Hid (Sb w xb v0 v1 v2 v3 v4 v5 s W4∧Blk W4 zb #[.string x.name,.string x.header,.string x.on.head,.string x.on.name,.slice ca n cc,.string x.next] 98):=⟨H3.out.1.below hb,H3.out.2.below hb⟩
  clear hb H3 x0 x1 x2 x3 x4 x5 z0 z1 z2 z3 z4 z5 KEY
  by_cases h5:ce=0
  ·subst h5
   rw[if_neg (by simp)] at HR
   obtain⟨x0,x1,x2,x3,x4,x5⟩:=H4.out.1.c
   have z5:=H4.out.2.cell 5 (v:=.string x.next) rfl
   go_wp2_with fail
   refine(C5.out _ H4.out.1.sch).mono ?_
   rintro e W5 ⟨rfl,hb⟩
   have H5:Hid (Sb w xb v0 v1 v2 v3 v4 v5 s W5∧Blk W5 zb #[.string x.name,.string x.header,.string x.on.head,.string x.on.name,.slice ca n cc,.string x.next] 98):=⟨H4.out.1.below hb,H4.out.2.below hb⟩
   clear hb H4 x0 x1 x2 x3 x4 x5 z5 C5
   cases lb<;>(go_wp2;go_ret;exact⟨by rw[HR.out];rfl,H5.out.1.bel⟩)
  ·rw[if_pos h5] at HR
   have h5':(ce==0)=false:=by simpa using h5
   go_wp2;go_ret;exact⟨by rw[HR.out];rfl,H4.out.1.bel⟩
 | false=>
  clear h3'
  cases wo with
  | false=>exact absurd rfl h1
  | true=>
   go_wp2_with fail
   refine KEY.out.mono ?_
   rintro e W4 ⟨rfl,hb⟩
   have H4:Hid (Sb w xb v0 v1 v2 v3 v4 v5 s W4∧Blk W4 zb #[.string x.name,.string x.header,.string x.on.head,.string x.on.name,.slice ca n cc,.string x.next] 98):=⟨H3.out.1.below hb,H3.out.2.below hb⟩
   clear hb H3 x0 x1 x2 x3 x4 x5 z0 z1 z2 z3 z4 z5 KEY
   by_cases h5:ce=0
   ·subst h5
    rw[if_neg (by simp)] at HR
    obtain⟨x0,x1,x2,x3,x4,x5⟩:=H4.out.1.c
    have z5:=H4.out.2.cell 5 (v:=.string x.next) rfl
    go_wp2_with fail
    refine(C5.out _ H4.out.1.sch).mono ?_
    rintro e W5 ⟨rfl,hb⟩
    have H5:Hid (Sb w xb v0 v1 v2 v3 v4 v5 s W5∧Blk W5 zb #[.string x.name,.string x.header,.string x.on.head,.string x.on.name,.slice ca n cc,.string x.next] 98):=⟨H4.out.1.below hb,H4.out.2.below hb⟩
    clear hb H4 x0 x1 x2 x3 x4 x5 z5 C5
    cases lb<;>(go_wp2;go_ret;exact⟨by rw[HR.out];rfl,H5.out.1.bel⟩)
   ·rw[if_pos h5] at HR
    have h5':(ce==0)=false:=by simpa using h5
    go_wp2;go_ret;exact⟨by rw[HR.out];rfl,H4.out.1.bel⟩
end Go.Proofs.YtmbpclknhkbbkaaGreat
