/- Package schema: slices. -/
import Derived.Test.YtmbpclknhkbbkaaGreatB29
import Derived.Test.YtmbpclknhkbbkaaGreatB24
set_option linter.unusedSimpArgs false
set_option linter.unusedVariables false
set_option maxHeartbeats 2000000
set_option maxRecDepth 100000
namespace Go.Proofs.YtmbpclknhkbbkaaGreat
open Go.RowKit
theorem run_ne167 (x y:Stp)(w:World):(binOp .neq 167 (.agg (StpC x)) (.agg (StpC y))).run Tryz.prog w=.ok (.bool (!decide (x=y))) w:=by
 simp only[binOp]
 simp[Op.equal,Op.maxDepth,eqIn167 9996]
theorem equalStp_any (v v':Value)(xs ys:List Stp)(w:World)(hr:Row 12 (Flat StpC StpOk) w v xs)(hr':Row 12 (Flat StpC StpOk) w v' ys)(hlen:xs.length≤140737488351232):
  Calls Tryz.prog 186 #[v,v'] w fun e w'=>e=.returned (.bool (decide (xs=ys)))∧Below w.heap.size w w':=by
 obtain⟨a1,c1,rfl,h1⟩:=hr.slice
 obtain⟨a2,c2,rfl,h2⟩:=hr'.slice
 by_cases hne:¬ xs.length=ys.length
 ·have e:decide (xs=ys)=false:=by rw[decide_eq_false_iff_not];intro h;exact hne (by rw[h])
  rw[e]
  have hne':¬((xs.length:Int)=(ys.length:Int)):=by omega
  clear hr hr' h1 h2 e
  go_enter Tryz.func186,Tryz.ntmps186
  go_wp2
  go_ret
  exact⟨rfl,Below.refl _ _⟩
 have hne:=Classical.not_not.1 hne
 have HR:Hid (Row 12 (Flat StpC StpOk) w (.slice a1 xs.length c1) xs):=hr
 have HS:Hid (Row 12 (Flat StpC StpOk) w (.slice a2 ys.length c2) ys):=hr'
 obtain⟨n,hn⟩:∃ n,n=xs.length:=⟨_,rfl⟩
 have HL:Hid (n=xs.length∧n=ys.length):=⟨hn,by omega⟩
 rw[← hne] at HS ⊢
 rw[← hn] at HR HS hlen ⊢
 clear hr hr' h1 h2 hn hne
 go_enter Tryz.func186,Tryz.ntmps186
 go_wp2_with fail
 go_loopw [13] (fun i wr=>∃ k:Nat,k≤n∧i=.int .i64 k∧decide (xs=ys)=decide (xs.drop k=ys.drop k)∧Below w.heap.size w wr) (fun i _=>n - (intOf i).toNat)
 case atStart=>exact⟨0,by omega,rfl,by simp,Below.refl _ _⟩
 case round=>
  obtain⟨k,hk,rfl,hd,hb⟩:=hrel
  by_cases hlt:k<n
  ·obtain⟨x,hx⟩:=gE HL.out.1 hlt
   obtain⟨y,hy⟩:=gE HL.out.2 hlt
   obtain⟨b,o,cs,rfl,_,hx1,rfl,_⟩:=HR.out.at hx
   obtain⟨b2,o2,cs2,rfl,_,hy1,rfl,_⟩:=HS.out.at hy
   have p0:wr.cell? ⟨b,o+k*12,none⟩=some (.int .i64 x.kind):=by have:=pres_below hb _ _ (hx1 0 (.int .i64 x.kind) rfl);simpa using this
   have p1:wr.cell? ⟨b,o+k*12+1,none⟩=some (.string x.to.head):=by have:=pres_below hb _ _ (hx1 1 (.string x.to.head) rfl);simpa using this
   have p2:wr.cell? ⟨b,o+k*12+2,none⟩=some (.string x.to.name):=by have:=pres_below hb _ _ (hx1 2 (.string x.to.name) rfl);simpa using this
   have p3:wr.cell? ⟨b,o+k*12+3,none⟩=some (.int .i64 x.op):=by have:=pres_below hb _ _ (hx1 3 (.int .i64 x.op) rfl);simpa using this
   have p4:wr.cell? ⟨b,o+k*12+4,none⟩=some (.string x.a.ref.head):=by have:=pres_below hb _ _ (hx1 4 (.string x.a.ref.head) rfl);simpa using this
   have p5:wr.cell? ⟨b,o+k*12+5,none⟩=some (.string x.a.ref.name):=by have:=pres_below hb _ _ (hx1 5 (.string x.a.ref.name) rfl);simpa using this
   have p6:wr.cell? ⟨b,o+k*12+6,none⟩=some (.int .u64 (hiOf x.a.const)):=by have:=pres_below hb _ _ (hx1 6 (.int .u64 (hiOf x.a.const)) rfl);simpa using this
   have p7:wr.cell? ⟨b,o+k*12+7,none⟩=some (.int .u64 (loOf x.a.const)):=by have:=pres_below hb _ _ (hx1 7 (.int .u64 (loOf x.a.const)) rfl);simpa using this
   have p8:wr.cell? ⟨b,o+k*12+8,none⟩=some (.string x.b.ref.head):=by have:=pres_below hb _ _ (hx1 8 (.string x.b.ref.head) rfl);simpa using this
   have p9:wr.cell? ⟨b,o+k*12+9,none⟩=some (.string x.b.ref.name):=by have:=pres_below hb _ _ (hx1 9 (.string x.b.ref.name) rfl);simpa using this
   have p10:wr.cell? ⟨b,o+k*12+10,none⟩=some (.int .u64 (hiOf x.b.const)):=by have:=pres_below hb _ _ (hx1 10 (.int .u64 (hiOf x.b.const)) rfl);simpa using this
   have p11:wr.cell? ⟨b,o+k*12+11,none⟩=some (.int .u64 (loOf x.b.const)):=by have:=pres_below hb _ _ (hx1 11 (.int .u64 (loOf x.b.const)) rfl);simpa using this
   have q0:wr.cell? ⟨b2,o2+k*12,none⟩=some (.int .i64 y.kind):=by have:=pres_below hb _ _ (hy1 0 (.int .i64 y.kind) rfl);simpa using this
   have q1:wr.cell? ⟨b2,o2+k*12+1,none⟩=some (.string y.to.head):=by have:=pres_below hb _ _ (hy1 1 (.string y.to.head) rfl);simpa using this
   have q2:wr.cell? ⟨b2,o2+k*12+2,none⟩=some (.string y.to.name):=by have:=pres_below hb _ _ (hy1 2 (.string y.to.name) rfl);simpa using this
   have q3:wr.cell? ⟨b2,o2+k*12+3,none⟩=some (.int .i64 y.op):=by have:=pres_below hb _ _ (hy1 3 (.int .i64 y.op) rfl);simpa using this
   have q4:wr.cell? ⟨b2,o2+k*12+4,none⟩=some (.string y.a.ref.head):=by have:=pres_below hb _ _ (hy1 4 (.string y.a.ref.head) rfl);simpa using this
   have q5:wr.cell? ⟨b2,o2+k*12+5,none⟩=some (.string y.a.ref.name):=by have:=pres_below hb _ _ (hy1 5 (.string y.a.ref.name) rfl);simpa using this
   have q6:wr.cell? ⟨b2,o2+k*12+6,none⟩=some (.int .u64 (hiOf y.a.const)):=by have:=pres_below hb _ _ (hy1 6 (.int .u64 (hiOf y.a.const)) rfl);simpa using this
   have q7:wr.cell? ⟨b2,o2+k*12+7,none⟩=some (.int .u64 (loOf y.a.const)):=by have:=pres_below hb _ _ (hy1 7 (.int .u64 (loOf y.a.const)) rfl);simpa using this
   have q8:wr.cell? ⟨b2,o2+k*12+8,none⟩=some (.string y.b.ref.head):=by have:=pres_below hb _ _ (hy1 8 (.string y.b.ref.head) rfl);simpa using this
   have q9:wr.cell? ⟨b2,o2+k*12+9,none⟩=some (.string y.b.ref.name):=by have:=pres_below hb _ _ (hy1 9 (.string y.b.ref.name) rfl);simpa using this
   have q10:wr.cell? ⟨b2,o2+k*12+10,none⟩=some (.int .u64 (hiOf y.b.const)):=by have:=pres_below hb _ _ (hy1 10 (.int .u64 (hiOf y.b.const)) rfl);simpa using this
   have q11:wr.cell? ⟨b2,o2+k*12+11,none⟩=some (.int .u64 (loOf y.b.const)):=by have:=pres_below hb _ _ (hy1 11 (.int .u64 (loOf y.b.const)) rfl);simpa using this
   have HQ:∀ u:World,(binOp .neq 167 (.agg (StpC x)) (.agg (StpC y))).run Tryz.prog u=.ok (.bool (!decide (x=y))) u:=fun u=>run_ne167 x y u
   simp only[StpC] at HQ
   have HD:Hid (decide (xs=ys)=(decide (x=y)&&decide (xs.drop (k+1)=ys.drop (k+1)))):=by
    have e:=drop_step hx hy
    show decide (xs=ys)=_
    rw[hd,e]
   have HB:Hid (Bl w wr):=hb
   have hi:(0:Int)≤(k:Int)∧(k:Int)<(n:Int):=by omega
   clear hd hb hx1 hy1 hx hy
   generalize decide (x=y)=r at*
   go_wp2_with fail
   go_quiet (fail)
   cases r
   ·go_wp2
    go_ret
    exact⟨by rw[HD.out];rfl,below_drewN HB.out _⟩
   ·go_wp2
    exact⟨⟨k+1,by omega,by go_num,by rw[HD.out,Bool.true_and],below_drewN HB.out _⟩,by simp only[intOf];omega⟩
  ·have e:k=n:=by omega
   subst e
   have HE:decide (xs=ys)=true:=by
    rw[hd,decide_eq_true_eq]
    have h1:=HL.out.1;have h2:=HL.out.2
    rw[List.drop_of_length_le (by omega),List.drop_of_length_le (by omega)]
   clear hd
   have HE:Hid (decide (xs=ys)=true):=HE
   go_wp2
   go_ret
   exact⟨by rw[HE.out];rfl,hb⟩
theorem sameCall_any (x y:Cl)(v v':Value)(w:World)(hf0:BitRow w v x.args)(hg0:BitRow w v' y.args):Calls Tryz.prog 189 #[.agg #[.string x.action,v],.agg #[.string y.action,v']] w fun e w'=>e=.returned (.bool (decide (x=y)))∧Below w.heap.size w w':=by
 obtain⟨n1,g1⟩:=x
 obtain⟨n2,g2⟩:=y
 simp only at*
 obtain⟨ax0,cx0,rfl,_⟩:=hf0.1.slice
 obtain⟨ay0,cy0,rfl,_⟩:=hg0.1.slice
 by_cases hz0:n1=n2
 ·subst hz0
  by_cases hz1:g1=g2
  ·subst hz1
   have E:Hid (decide ((⟨n1,g1⟩:Cl)=⟨n1,g1⟩)=true):=decide_eq_true rfl
   have C1:Hid (∀ W,Pres w W→Cs 223 #[.slice ax0 g1.length cx0,.slice ay0 g1.length cy0] W fun e w'=>e=.returned (.bool true)∧Bl W w'):=fun W hp=>by have h:=equalBit_any _ _ _ _ W (hf0.pres hp).1 (hg0.pres hp).1 (by have h:g1.length*16≤_:=hf0.2;omega);rw[decide_eq_true rfl] at h;exact h
   have HB0:=hstart2 w 45 #[.string n1,.slice ax0 g1.length cx0] #[.string n1,.slice ay0 g1.length cy0]
   clear hf0 hg0
   go_enter Tryz.func189,Tryz.ntmps189
   go_upto_region 1 with fail
   generalize ((w.alloc _).alloc _)=W0 at HB0 ⊢
   have pp0:=HB0.out.one.cell 0 (v:=.string n1) rfl
   have pp1:=HB0.out.one.cell 1 (v:=.slice ax0 g1.length cx0) rfl
   have qq0:=HB0.out.two.cell 0 (v:=.string n1) rfl
   have qq1:=HB0.out.two.cell 1 (v:=.slice ay0 g1.length cy0) rfl
   go_wp2_with fail
   refine(C1.out _ (pres_below HB0.out.below)).mono ?_
   rintro e V0 ⟨rfl,hb0⟩
   have HB1:=hkeep2 HB0 hb0
   clear hb0 HB0 pp0 pp1 qq0 qq1
   have pp0:=HB1.out.one.cell 0 (v:=.string n1) rfl
   have pp1:=HB1.out.one.cell 1 (v:=.slice ax0 g1.length cx0) rfl
   have qq0:=HB1.out.two.cell 0 (v:=.string n1) rfl
   have qq1:=HB1.out.two.cell 1 (v:=.slice ay0 g1.length cy0) rfl
   go_wp2
   go_ret
   exact⟨by rw[E.out];rfl,HB1.out.below⟩
  ·have E:Hid (decide ((⟨n1,g1⟩:Cl)=⟨n1,g2⟩)=false):=decide_eq_false (fun h=>hz1 (by cases h;rfl))
   have C1:Hid (∀ W,Pres w W→Cs 223 #[.slice ax0 g1.length cx0,.slice ay0 g2.length cy0] W fun e w'=>e=.returned (.bool false)∧Bl W w'):=fun W hp=>by have h:=equalBit_any _ _ _ _ W (hf0.pres hp).1 (hg0.pres hp).1 (by have h:g1.length*16≤_:=hf0.2;omega);rw[decide_eq_false hz1] at h;exact h
   have HB0:=hstart2 w 45 #[.string n1,.slice ax0 g1.length cx0] #[.string n1,.slice ay0 g2.length cy0]
   clear hf0 hg0
   clear hz1
   go_enter Tryz.func189,Tryz.ntmps189
   go_upto_region 1 with fail
   generalize ((w.alloc _).alloc _)=W0 at HB0 ⊢
   have pp0:=HB0.out.one.cell 0 (v:=.string n1) rfl
   have pp1:=HB0.out.one.cell 1 (v:=.slice ax0 g1.length cx0) rfl
   have qq0:=HB0.out.two.cell 0 (v:=.string n1) rfl
   have qq1:=HB0.out.two.cell 1 (v:=.slice ay0 g2.length cy0) rfl
   go_wp2_with fail
   refine(C1.out _ (pres_below HB0.out.below)).mono ?_
   rintro e V0 ⟨rfl,hb0⟩
   have HB1:=hkeep2 HB0 hb0
   clear hb0 HB0 pp0 pp1 qq0 qq1
   have pp0:=HB1.out.one.cell 0 (v:=.string n1) rfl
   have pp1:=HB1.out.one.cell 1 (v:=.slice ax0 g1.length cx0) rfl
   have qq0:=HB1.out.two.cell 0 (v:=.string n1) rfl
   have qq1:=HB1.out.two.cell 1 (v:=.slice ay0 g2.length cy0) rfl
   go_wp2
   go_ret
   exact⟨by rw[E.out];rfl,HB1.out.below⟩
 ·have E:Hid (decide ((⟨n1,g1⟩:Cl)=⟨n2,g2⟩)=false):=decide_eq_false (fun h=>hz0 (by cases h;rfl))
  have ht:(n1.toList==n2.toList)=false:=by rw[txt_eq];exact decide_eq_false hz0
  have HB0:=hstart2 w 45 #[.string n1,.slice ax0 g1.length cx0] #[.string n2,.slice ay0 g2.length cy0]
  clear hf0 hg0
  clear hz0
  go_enter Tryz.func189,Tryz.ntmps189
  go_upto_region 1 with fail
  generalize ((w.alloc _).alloc _)=W0 at HB0 ⊢
  have pp0:=HB0.out.one.cell 0 (v:=.string n1) rfl
  have pp1:=HB0.out.one.cell 1 (v:=.slice ax0 g1.length cx0) rfl
  have qq0:=HB0.out.two.cell 0 (v:=.string n2) rfl
  have qq1:=HB0.out.two.cell 1 (v:=.slice ay0 g2.length cy0) rfl
  go_wp2
  go_ret
  exact⟨by rw[E.out];rfl,HB0.out.below⟩
theorem sameHdr_any (x y:Hdr)(cs ds:Array Value)(w:World)(hI:HdrIs w cs x)(hJ:HdrIs w ds y):Calls Tryz.prog 111 #[.agg cs,.agg ds] w fun e w'=>e=.returned (.bool (decide (x=y)))∧Below w.heap.size w w':=by
 obtain⟨v0,e1,_,hf0⟩:=hI
 obtain⟨u0,e2,_,hg0⟩:=hJ
 obtain⟨ax0,cx0,rfl,_⟩:=hf0.1.slice
 obtain⟨ay0,cy0,rfl,_⟩:=hg0.1.slice
 obtain⟨n1,g1⟩:=x
 obtain⟨n2,g2⟩:=y
 simp only at*
 subst e1
 subst e2
 by_cases hz0:n1=n2
 ·subst hz0
  by_cases hz1:g1=g2
  ·subst hz1
   have E:Hid (decide ((⟨n1,g1⟩:Hdr)=⟨n1,g1⟩)=true):=decide_eq_true rfl
   have C1:Hid (∀ W,Pres w W→Cs 112 #[.slice ax0 g1.length cx0,.slice ay0 g1.length cy0] W fun e w'=>e=.returned (.bool true)∧Bl W w'):=fun W hp=>by have h:=equalFld_any _ _ _ _ W (hf0.pres hp).1 (hg0.pres hp).1 (by have h:g1.length*24≤_:=hf0.2;omega);rw[decide_eq_true rfl] at h;exact h
   have HB0:=hstart2 w 60 #[.string n1,.slice ax0 g1.length cx0] #[.string n1,.slice ay0 g1.length cy0]
   clear hf0 hg0
   go_enter Tryz.func111,Tryz.ntmps111
   go_upto_region 1 with fail
   generalize ((w.alloc _).alloc _)=W0 at HB0 ⊢
   have pp0:=HB0.out.one.cell 0 (v:=.string n1) rfl
   have pp1:=HB0.out.one.cell 1 (v:=.slice ax0 g1.length cx0) rfl
   have qq0:=HB0.out.two.cell 0 (v:=.string n1) rfl
   have qq1:=HB0.out.two.cell 1 (v:=.slice ay0 g1.length cy0) rfl
   go_wp2_with fail
   refine(C1.out _ (pres_below HB0.out.below)).mono ?_
   rintro e V0 ⟨rfl,hb0⟩
   have HB1:=hkeep2 HB0 hb0
   clear hb0 HB0 pp0 pp1 qq0 qq1
   have pp0:=HB1.out.one.cell 0 (v:=.string n1) rfl
   have pp1:=HB1.out.one.cell 1 (v:=.slice ax0 g1.length cx0) rfl
   have qq0:=HB1.out.two.cell 0 (v:=.string n1) rfl
   have qq1:=HB1.out.two.cell 1 (v:=.slice ay0 g1.length cy0) rfl
   go_wp2
   go_ret
   exact⟨by rw[E.out];rfl,HB1.out.below⟩
  ·have E:Hid (decide ((⟨n1,g1⟩:Hdr)=⟨n1,g2⟩)=false):=decide_eq_false (fun h=>hz1 (by cases h;rfl))
   have C1:Hid (∀ W,Pres w W→Cs 112 #[.slice ax0 g1.length cx0,.slice ay0 g2.length cy0] W fun e w'=>e=.returned (.bool false)∧Bl W w'):=fun W hp=>by have h:=equalFld_any _ _ _ _ W (hf0.pres hp).1 (hg0.pres hp).1 (by have h:g1.length*24≤_:=hf0.2;omega);rw[decide_eq_false hz1] at h;exact h
   have HB0:=hstart2 w 60 #[.string n1,.slice ax0 g1.length cx0] #[.string n1,.slice ay0 g2.length cy0]
   clear hf0 hg0
   clear hz1
   go_enter Tryz.func111,Tryz.ntmps111
   go_upto_region 1 with fail
   generalize ((w.alloc _).alloc _)=W0 at HB0 ⊢
   have pp0:=HB0.out.one.cell 0 (v:=.string n1) rfl
   have pp1:=HB0.out.one.cell 1 (v:=.slice ax0 g1.length cx0) rfl
   have qq0:=HB0.out.two.cell 0 (v:=.string n1) rfl
   have qq1:=HB0.out.two.cell 1 (v:=.slice ay0 g2.length cy0) rfl
   go_wp2_with fail
   refine(C1.out _ (pres_below HB0.out.below)).mono ?_
   rintro e V0 ⟨rfl,hb0⟩
   have HB1:=hkeep2 HB0 hb0
   clear hb0 HB0 pp0 pp1 qq0 qq1
   have pp0:=HB1.out.one.cell 0 (v:=.string n1) rfl
   have pp1:=HB1.out.one.cell 1 (v:=.slice ax0 g1.length cx0) rfl
   have qq0:=HB1.out.two.cell 0 (v:=.string n1) rfl
   have qq1:=HB1.out.two.cell 1 (v:=.slice ay0 g2.length cy0) rfl
   go_wp2
   go_ret
   exact⟨by rw[E.out];rfl,HB1.out.below⟩
 ·have E:Hid (decide ((⟨n1,g1⟩:Hdr)=⟨n2,g2⟩)=false):=decide_eq_false (fun h=>hz0 (by cases h;rfl))
  have ht:(n1.toList==n2.toList)=false:=by rw[txt_eq];exact decide_eq_false hz0
  have HB0:=hstart2 w 60 #[.string n1,.slice ax0 g1.length cx0] #[.string n2,.slice ay0 g2.length cy0]
  clear hf0 hg0
  clear hz0
  go_enter Tryz.func111,Tryz.ntmps111
  go_upto_region 1 with fail
  generalize ((w.alloc _).alloc _)=W0 at HB0 ⊢
  have pp0:=HB0.out.one.cell 0 (v:=.string n1) rfl
  have pp1:=HB0.out.one.cell 1 (v:=.slice ax0 g1.length cx0) rfl
  have qq0:=HB0.out.two.cell 0 (v:=.string n2) rfl
  have qq1:=HB0.out.two.cell 1 (v:=.slice ay0 g2.length cy0) rfl
  go_wp2
  go_ret
  exact⟨by rw[E.out];rfl,HB0.out.below⟩
theorem sameSta_any (x y:Sta)(cs ds:Array Value)(w:World)(hI:StaIs w cs x)(hJ:StaIs w ds y):Calls Tryz.prog 114 #[.agg cs,.agg ds] w fun e w'=>e=.returned (.bool (decide (x=y)))∧Below w.heap.size w w':=by
 obtain⟨v0,e1,_,hf0⟩:=hI
 obtain⟨u0,e2,_,hg0⟩:=hJ
 obtain⟨ax0,cx0,rfl,_⟩:=hf0.1.slice
 obtain⟨ay0,cy0,rfl,_⟩:=hg0.1.slice
 obtain⟨n1,h1,r1,g1,m1⟩:=x
 obtain⟨n2,h2,r2,g2,m2⟩:=y
 simp only at*
 subst e1
 subst e2
 by_cases hz0:n1=n2
 ·subst hz0
  by_cases hz1:h1=h2
  ·subst hz1
   by_cases hz2:r1=r2
   ·subst hz2
    by_cases hz3:g1=g2
    ·subst hz3
     by_cases hz4:m1=m2
     ·subst hz4
      have E:Hid (decide ((⟨n1,h1,r1,g1,m1⟩:Sta)=⟨n1,h1,r1,g1,m1⟩)=true):=decide_eq_true rfl
      have hr2:∀ u:World,(binOp .eql 42 (.agg #[.string r1.head,.string r1.name]) (.agg #[.string r1.head,.string r1.name])).run Tryz.prog u=.ok (.bool true) u:=fun u=>by rw[run_eq42,decide_eq_true rfl]
      have C3:Hid (∀ W,Pres w W→Cs 185 #[.slice ax0 g1.length cx0,.slice ay0 g1.length cy0] W fun e w'=>e=.returned (.bool true)∧Bl W w'):=fun W hp=>by have h:=equalCas_any _ _ _ _ W (hf0.pres hp).1 (hg0.pres hp).1 (by have h:g1.length*48≤_:=hf0.2;omega);rw[decide_eq_true rfl] at h;exact h
      have HB0:=hstart2 w 98 #[.string n1,.string h1,.string r1.head,.string r1.name,.slice ax0 g1.length cx0,.string m1] #[.string n1,.string h1,.string r1.head,.string r1.name,.slice ay0 g1.length cy0,.string m1]
      clear hf0 hg0
      go_enter Tryz.func114,Tryz.ntmps114
      go_upto_region 1 with fail
      generalize ((w.alloc _).alloc _)=W0 at HB0 ⊢
      obtain⟨pp0,pp1,pp2,pp3,pp4,pp5⟩:=HB0.out.one.c6
      obtain⟨qq0,qq1,qq2,qq3,qq4,qq5⟩:=HB0.out.two.c6
      go_wp2_with fail
      refine(C3.out _ (pres_below HB0.out.below)).mono ?_
      rintro e V0 ⟨rfl,hb0⟩
      have HB1:=hkeep2 HB0 hb0
      clear hb0 HB0 pp0 pp1 pp2 pp3 pp4 pp5 qq0 qq1 qq2 qq3 qq4 qq5
      obtain⟨pp0,pp1,pp2,pp3,pp4,pp5⟩:=HB1.out.one.c6
      obtain⟨qq0,qq1,qq2,qq3,qq4,qq5⟩:=HB1.out.two.c6
      go_wp2
      go_ret
      exact⟨by rw[E.out];rfl,HB1.out.below⟩
     ·have E:Hid (decide ((⟨n1,h1,r1,g1,m1⟩:Sta)=⟨n1,h1,r1,g1,m2⟩)=false):=decide_eq_false (fun h=>hz4 (by cases h;rfl))
      have ht:(m1.toList==m2.toList)=false:=by rw[txt_eq];exact decide_eq_false hz4
      have hr2:∀ u:World,(binOp .eql 42 (.agg #[.string r1.head,.string r1.name]) (.agg #[.string r1.head,.string r1.name])).run Tryz.prog u=.ok (.bool true) u:=fun u=>by rw[run_eq42,decide_eq_true rfl]
      have C3:Hid (∀ W,Pres w W→Cs 185 #[.slice ax0 g1.length cx0,.slice ay0 g1.length cy0] W fun e w'=>e=.returned (.bool true)∧Bl W w'):=fun W hp=>by have h:=equalCas_any _ _ _ _ W (hf0.pres hp).1 (hg0.pres hp).1 (by have h:g1.length*48≤_:=hf0.2;omega);rw[decide_eq_true rfl] at h;exact h
      have HB0:=hstart2 w 98 #[.string n1,.string h1,.string r1.head,.string r1.name,.slice ax0 g1.length cx0,.string m1] #[.string n1,.string h1,.string r1.head,.string r1.name,.slice ay0 g1.length cy0,.string m2]
      clear hf0 hg0
      clear hz4
      go_enter Tryz.func114,Tryz.ntmps114
      go_upto_region 1 with fail
      generalize ((w.alloc _).alloc _)=W0 at HB0 ⊢
      obtain⟨pp0,pp1,pp2,pp3,pp4,pp5⟩:=HB0.out.one.c6
      obtain⟨qq0,qq1,qq2,qq3,qq4,qq5⟩:=HB0.out.two.c6
      go_wp2_with fail
      refine(C3.out _ (pres_below HB0.out.below)).mono ?_
      rintro e V0 ⟨rfl,hb0⟩
      have HB1:=hkeep2 HB0 hb0
      clear hb0 HB0 pp0 pp1 pp2 pp3 pp4 pp5 qq0 qq1 qq2 qq3 qq4 qq5
      obtain⟨pp0,pp1,pp2,pp3,pp4,pp5⟩:=HB1.out.one.c6
      obtain⟨qq0,qq1,qq2,qq3,qq4,qq5⟩:=HB1.out.two.c6
      go_wp2
      go_ret
      exact⟨by rw[E.out];rfl,HB1.out.below⟩
    ·have E:Hid (decide ((⟨n1,h1,r1,g1,m1⟩:Sta)=⟨n1,h1,r1,g2,m2⟩)=false):=decide_eq_false (fun h=>hz3 (by cases h;rfl))
     have hr2:∀ u:World,(binOp .eql 42 (.agg #[.string r1.head,.string r1.name]) (.agg #[.string r1.head,.string r1.name])).run Tryz.prog u=.ok (.bool true) u:=fun u=>by rw[run_eq42,decide_eq_true rfl]
     have C3:Hid (∀ W,Pres w W→Cs 185 #[.slice ax0 g1.length cx0,.slice ay0 g2.length cy0] W fun e w'=>e=.returned (.bool false)∧Bl W w'):=fun W hp=>by have h:=equalCas_any _ _ _ _ W (hf0.pres hp).1 (hg0.pres hp).1 (by have h:g1.length*48≤_:=hf0.2;omega);rw[decide_eq_false hz3] at h;exact h
     have HB0:=hstart2 w 98 #[.string n1,.string h1,.string r1.head,.string r1.name,.slice ax0 g1.length cx0,.string m1] #[.string n1,.string h1,.string r1.head,.string r1.name,.slice ay0 g2.length cy0,.string m2]
     clear hf0 hg0
     clear hz3
     go_enter Tryz.func114,Tryz.ntmps114
     go_upto_region 1 with fail
     generalize ((w.alloc _).alloc _)=W0 at HB0 ⊢
     obtain⟨pp0,pp1,pp2,pp3,pp4,pp5⟩:=HB0.out.one.c6
     obtain⟨qq0,qq1,qq2,qq3,qq4,qq5⟩:=HB0.out.two.c6
     go_wp2_with fail
     refine(C3.out _ (pres_below HB0.out.below)).mono ?_
     rintro e V0 ⟨rfl,hb0⟩
     have HB1:=hkeep2 HB0 hb0
     clear hb0 HB0 pp0 pp1 pp2 pp3 pp4 pp5 qq0 qq1 qq2 qq3 qq4 qq5
     obtain⟨pp0,pp1,pp2,pp3,pp4,pp5⟩:=HB1.out.one.c6
     obtain⟨qq0,qq1,qq2,qq3,qq4,qq5⟩:=HB1.out.two.c6
     go_wp2
     go_ret
     exact⟨by rw[E.out];rfl,HB1.out.below⟩
   ·have E:Hid (decide ((⟨n1,h1,r1,g1,m1⟩:Sta)=⟨n1,h1,r2,g2,m2⟩)=false):=decide_eq_false (fun h=>hz2 (by cases h;rfl))
    have ht:∀ u:World,(binOp .eql 42 (.agg #[.string r1.head,.string r1.name]) (.agg #[.string r2.head,.string r2.name])).run Tryz.prog u=.ok (.bool false) u:=fun u=>by rw[run_eq42,decide_eq_false hz2]
    have HB0:=hstart2 w 98 #[.string n1,.string h1,.string r1.head,.string r1.name,.slice ax0 g1.length cx0,.string m1] #[.string n1,.string h1,.string r2.head,.string r2.name,.slice ay0 g2.length cy0,.string m2]
    clear hf0 hg0
    clear hz2
    go_enter Tryz.func114,Tryz.ntmps114
    go_upto_region 1 with fail
    generalize ((w.alloc _).alloc _)=W0 at HB0 ⊢
    obtain⟨pp0,pp1,pp2,pp3,pp4,pp5⟩:=HB0.out.one.c6
    obtain⟨qq0,qq1,qq2,qq3,qq4,qq5⟩:=HB0.out.two.c6
    go_wp2
    go_ret
    exact⟨by rw[E.out];rfl,HB0.out.below⟩
  ·have E:Hid (decide ((⟨n1,h1,r1,g1,m1⟩:Sta)=⟨n1,h2,r2,g2,m2⟩)=false):=decide_eq_false (fun h=>hz1 (by cases h;rfl))
   have ht:(h1.toList==h2.toList)=false:=by rw[txt_eq];exact decide_eq_false hz1
   have HB0:=hstart2 w 98 #[.string n1,.string h1,.string r1.head,.string r1.name,.slice ax0 g1.length cx0,.string m1] #[.string n1,.string h2,.string r2.head,.string r2.name,.slice ay0 g2.length cy0,.string m2]
   clear hf0 hg0
   clear hz1
   go_enter Tryz.func114,Tryz.ntmps114
   go_upto_region 1 with fail
   generalize ((w.alloc _).alloc _)=W0 at HB0 ⊢
   obtain⟨pp0,pp1,pp2,pp3,pp4,pp5⟩:=HB0.out.one.c6
   obtain⟨qq0,qq1,qq2,qq3,qq4,qq5⟩:=HB0.out.two.c6
   go_wp2
   go_ret
   exact⟨by rw[E.out];rfl,HB0.out.below⟩
 ·have E:Hid (decide ((⟨n1,h1,r1,g1,m1⟩:Sta)=⟨n2,h2,r2,g2,m2⟩)=false):=decide_eq_false (fun h=>hz0 (by cases h;rfl))
  have ht:(n1.toList==n2.toList)=false:=by rw[txt_eq];exact decide_eq_false hz0
  have HB0:=hstart2 w 98 #[.string n1,.string h1,.string r1.head,.string r1.name,.slice ax0 g1.length cx0,.string m1] #[.string n2,.string h2,.string r2.head,.string r2.name,.slice ay0 g2.length cy0,.string m2]
  clear hf0 hg0
  clear hz0
  go_enter Tryz.func114,Tryz.ntmps114
  go_upto_region 1 with fail
  generalize ((w.alloc _).alloc _)=W0 at HB0 ⊢
  obtain⟨pp0,pp1,pp2,pp3,pp4,pp5⟩:=HB0.out.one.c6
  obtain⟨qq0,qq1,qq2,qq3,qq4,qq5⟩:=HB0.out.two.c6
  go_wp2
  go_ret
  exact⟨by rw[E.out];rfl,HB0.out.below⟩
theorem sameAct_any (x y:Actn)(cs ds:Array Value)(w:World)(hI:ActIs w cs x)(hJ:ActIs w ds y):Calls Tryz.prog 116 #[.agg cs,.agg ds] w fun e w'=>e=.returned (.bool (decide (x=y)))∧Below w.heap.size w w':=by
 obtain⟨v0,v1,e1,_,hf0,hf1⟩:=hI
 obtain⟨u0,u1,e2,_,hg0,hg1⟩:=hJ
 obtain⟨ax0,cx0,rfl,_⟩:=hf0.1.slice
 obtain⟨ay0,cy0,rfl,_⟩:=hg0.1.slice
 obtain⟨ax1,cx1,rfl,_⟩:=hf1.1.slice
 obtain⟨ay1,cy1,rfl,_⟩:=hg1.1.slice
 obtain⟨n1,g1,q1⟩:=x
 obtain⟨n2,g2,q2⟩:=y
 simp only at*
 subst e1
 subst e2
 by_cases hz0:n1=n2
 ·subst hz0
  by_cases hz1:g1=g2
  ·subst hz1
   by_cases hz2:q1=q2
   ·subst hz2
    have E:Hid (decide ((⟨n1,g1,q1⟩:Actn)=⟨n1,g1,q1⟩)=true):=decide_eq_true rfl
    have C1:Hid (∀ W,Pres w W→Cs 112 #[.slice ax0 g1.length cx0,.slice ay0 g1.length cy0] W fun e w'=>e=.returned (.bool true)∧Bl W w'):=fun W hp=>by have h:=equalFld_any _ _ _ _ W (hf0.pres hp).1 (hg0.pres hp).1 (by have h:g1.length*24≤_:=hf0.2;omega);rw[decide_eq_true rfl] at h;exact h
    have C2:Hid (∀ W,Pres w W→Cs 186 #[.slice ax1 q1.length cx1,.slice ay1 q1.length cy1] W fun e w'=>e=.returned (.bool true)∧Bl W w'):=fun W hp=>by have h:=equalStp_any _ _ _ _ W (hf1.pres hp).1 (hg1.pres hp).1 (by have h:q1.length*144≤_:=hf1.2;omega);rw[decide_eq_true rfl] at h;exact h
    have HB0:=hstart2 w 65 #[.string n1,.slice ax0 g1.length cx0,.slice ax1 q1.length cx1] #[.string n1,.slice ay0 g1.length cy0,.slice ay1 q1.length cy1]
    clear hf0 hg0 hf1 hg1
    go_enter Tryz.func116,Tryz.ntmps116
    go_upto_region 1 with fail
    generalize ((w.alloc _).alloc _)=W0 at HB0 ⊢
    obtain⟨pp0,pp1,pp2⟩:=HB0.out.one.c3
    obtain⟨qq0,qq1,qq2⟩:=HB0.out.two.c3
    go_wp2_with fail
    refine(C1.out _ (pres_below HB0.out.below)).mono ?_
    rintro e V0 ⟨rfl,hb0⟩
    have HB1:=hkeep2 HB0 hb0
    clear hb0 HB0 pp0 pp1 pp2 qq0 qq1 qq2
    obtain⟨pp0,pp1,pp2⟩:=HB1.out.one.c3
    obtain⟨qq0,qq1,qq2⟩:=HB1.out.two.c3
    go_wp2_with fail
    refine(C2.out _ (pres_below HB1.out.below)).mono ?_
    rintro e V1 ⟨rfl,hb1⟩
    have HB2:=hkeep2 HB1 hb1
    clear hb1 HB1 pp0 pp1 pp2 qq0 qq1 qq2
    obtain⟨pp0,pp1,pp2⟩:=HB2.out.one.c3
    obtain⟨qq0,qq1,qq2⟩:=HB2.out.two.c3
    go_wp2
    go_ret
    exact⟨by rw[E.out];rfl,HB2.out.below⟩
   ·have E:Hid (decide ((⟨n1,g1,q1⟩:Actn)=⟨n1,g1,q2⟩)=false):=decide_eq_false (fun h=>hz2 (by cases h;rfl))
    have C1:Hid (∀ W,Pres w W→Cs 112 #[.slice ax0 g1.length cx0,.slice ay0 g1.length cy0] W fun e w'=>e=.returned (.bool true)∧Bl W w'):=fun W hp=>by have h:=equalFld_any _ _ _ _ W (hf0.pres hp).1 (hg0.pres hp).1 (by have h:g1.length*24≤_:=hf0.2;omega);rw[decide_eq_true rfl] at h;exact h
    have C2:Hid (∀ W,Pres w W→Cs 186 #[.slice ax1 q1.length cx1,.slice ay1 q2.length cy1] W fun e w'=>e=.returned (.bool false)∧Bl W w'):=fun W hp=>by have h:=equalStp_any _ _ _ _ W (hf1.pres hp).1 (hg1.pres hp).1 (by have h:q1.length*144≤_:=hf1.2;omega);rw[decide_eq_false hz2] at h;exact h
    have HB0:=hstart2 w 65 #[.string n1,.slice ax0 g1.length cx0,.slice ax1 q1.length cx1] #[.string n1,.slice ay0 g1.length cy0,.slice ay1 q2.length cy1]
    clear hf0 hg0 hf1 hg1
    clear hz2
    go_enter Tryz.func116,Tryz.ntmps116
    go_upto_region 1 with fail
    generalize ((w.alloc _).alloc _)=W0 at HB0 ⊢
    obtain⟨pp0,pp1,pp2⟩:=HB0.out.one.c3
    obtain⟨qq0,qq1,qq2⟩:=HB0.out.two.c3
    go_wp2_with fail
    refine(C1.out _ (pres_below HB0.out.below)).mono ?_
    rintro e V0 ⟨rfl,hb0⟩
    have HB1:=hkeep2 HB0 hb0
    clear hb0 HB0 pp0 pp1 pp2 qq0 qq1 qq2
    obtain⟨pp0,pp1,pp2⟩:=HB1.out.one.c3
    obtain⟨qq0,qq1,qq2⟩:=HB1.out.two.c3
    go_wp2_with fail
    refine(C2.out _ (pres_below HB1.out.below)).mono ?_
    rintro e V1 ⟨rfl,hb1⟩
    have HB2:=hkeep2 HB1 hb1
    clear hb1 HB1 pp0 pp1 pp2 qq0 qq1 qq2
    obtain⟨pp0,pp1,pp2⟩:=HB2.out.one.c3
    obtain⟨qq0,qq1,qq2⟩:=HB2.out.two.c3
    go_wp2
    go_ret
    exact⟨by rw[E.out];rfl,HB2.out.below⟩
  ·have E:Hid (decide ((⟨n1,g1,q1⟩:Actn)=⟨n1,g2,q2⟩)=false):=decide_eq_false (fun h=>hz1 (by cases h;rfl))
   have C1:Hid (∀ W,Pres w W→Cs 112 #[.slice ax0 g1.length cx0,.slice ay0 g2.length cy0] W fun e w'=>e=.returned (.bool false)∧Bl W w'):=fun W hp=>by have h:=equalFld_any _ _ _ _ W (hf0.pres hp).1 (hg0.pres hp).1 (by have h:g1.length*24≤_:=hf0.2;omega);rw[decide_eq_false hz1] at h;exact h
   have HB0:=hstart2 w 65 #[.string n1,.slice ax0 g1.length cx0,.slice ax1 q1.length cx1] #[.string n1,.slice ay0 g2.length cy0,.slice ay1 q2.length cy1]
   clear hf0 hg0 hf1 hg1
   clear hz1
   go_enter Tryz.func116,Tryz.ntmps116
   go_upto_region 1 with fail
   generalize ((w.alloc _).alloc _)=W0 at HB0 ⊢
   obtain⟨pp0,pp1,pp2⟩:=HB0.out.one.c3
   obtain⟨qq0,qq1,qq2⟩:=HB0.out.two.c3
   go_wp2_with fail
   refine(C1.out _ (pres_below HB0.out.below)).mono ?_
   rintro e V0 ⟨rfl,hb0⟩
   have HB1:=hkeep2 HB0 hb0
   clear hb0 HB0 pp0 pp1 pp2 qq0 qq1 qq2
   obtain⟨pp0,pp1,pp2⟩:=HB1.out.one.c3
   obtain⟨qq0,qq1,qq2⟩:=HB1.out.two.c3
   go_wp2
   go_ret
   exact⟨by rw[E.out];rfl,HB1.out.below⟩
 ·have E:Hid (decide ((⟨n1,g1,q1⟩:Actn)=⟨n2,g2,q2⟩)=false):=decide_eq_false (fun h=>hz0 (by cases h;rfl))
  have ht:(n1.toList==n2.toList)=false:=by rw[txt_eq];exact decide_eq_false hz0
  have HB0:=hstart2 w 65 #[.string n1,.slice ax0 g1.length cx0,.slice ax1 q1.length cx1] #[.string n2,.slice ay0 g2.length cy0,.slice ay1 q2.length cy1]
  clear hf0 hg0 hf1 hg1
  clear hz0
  go_enter Tryz.func116,Tryz.ntmps116
  go_upto_region 1 with fail
  generalize ((w.alloc _).alloc _)=W0 at HB0 ⊢
  obtain⟨pp0,pp1,pp2⟩:=HB0.out.one.c3
  obtain⟨qq0,qq1,qq2⟩:=HB0.out.two.c3
  go_wp2
  go_ret
  exact⟨by rw[E.out];rfl,HB0.out.below⟩
theorem sameTbl_any (x y:Tbl)(cs ds:Array Value)(w:World)(hI:TblIs w cs x)(hJ:TblIs w ds y):Calls Tryz.prog 118 #[.agg cs,.agg ds] w fun e w'=>e=.returned (.bool (decide (x=y)))∧Below w.heap.size w w':=by
 obtain⟨v0,v1,v2,e1,_,hf0,hf1,hf2⟩:=hI
 obtain⟨u0,u1,u2,e2,_,hg0,hg1,hg2⟩:=hJ
 obtain⟨ax0,cx0,rfl,_⟩:=hf0.1.slice
 obtain⟨ay0,cy0,rfl,_⟩:=hg0.1.slice
 obtain⟨ax1,cx1,rfl,_⟩:=hf1.1.slice
 obtain⟨ay1,cy1,rfl,_⟩:=hg1.1.slice
 obtain⟨ax2,cx2,rfl,_⟩:=hf2.1.slice
 obtain⟨ay2,cy2,rfl,_⟩:=hg2.1.slice
 obtain⟨n1,g1,q1,i1,d1,b1⟩:=x
 obtain⟨n2,g2,q2,i2,d2,b2⟩:=y
 simp only at*
 subst e1
 subst e2
 by_cases hz0:n1=n2
 ·subst hz0
  by_cases hz1:g1=g2
  ·subst hz1
   by_cases hz2:q1=q2
   ·subst hz2
    by_cases hz3:i1=i2
    ·subst hz3
     by_cases hz4:d1=d2
     ·subst hz4
      by_cases hz5:b1=b2
      ·subst hz5
       have E:Hid (decide ((⟨n1,g1,q1,i1,d1,b1⟩:Tbl)=⟨n1,g1,q1,i1,d1,b1⟩)=true):=decide_eq_true rfl
       have C1:Hid (∀ W,Pres w W→Cs 187 #[.slice ax0 g1.length cx0,.slice ay0 g1.length cy0] W fun e w'=>e=.returned (.bool true)∧Bl W w'):=fun W hp=>by have h:=equalKy_any _ _ _ _ W (hf0.pres hp).1 (hg0.pres hp).1 (by have h:g1.length*40≤_:=hf0.2;omega);rw[decide_eq_true rfl] at h;exact h
       have C2:Hid (∀ W,Pres w W→Cs 188 #[.slice ax1 q1.length cx1,.slice ay1 q1.length cy1] W fun e w'=>e=.returned (.bool true)∧Bl W w'):=fun W hp=>by have h:=equalTxt_any _ _ _ _ W (hf1.pres hp).1 (hg1.pres hp).1 (by have h:q1.length*16≤_:=hf1.2;omega);rw[decide_eq_true rfl] at h;exact h
       have C4:Hid (∀ W,Pres w W→Cs 189 #[.agg #[.string d1.action,.slice ax2 d1.args.length cx2],.agg #[.string d1.action,.slice ay2 d1.args.length cy2]] W fun e w'=>e=.returned (.bool true)∧Bl W w'):=fun W hp=>by have h:=sameCall_any d1 d1 _ _ W (hf2.pres hp) (hg2.pres hp);rw[decide_eq_true rfl] at h;exact h
       have HB0:=hstart2 w 51 #[.string n1,.slice ax0 g1.length cx0,.slice ax1 q1.length cx1,.int .i64 i1,.string d1.action,.slice ax2 d1.args.length cx2,.bool b1] #[.string n1,.slice ay0 g1.length cy0,.slice ay1 q1.length cy1,.int .i64 i1,.string d1.action,.slice ay2 d1.args.length cy2,.bool b1]
       clear hf0 hg0 hf1 hg1 hf2 hg2
       go_enter Tryz.func118,Tryz.ntmps118
       go_upto_region 1 with fail
       generalize ((w.alloc _).alloc _)=W0 at HB0 ⊢
       obtain⟨pp0,pp1,pp2,pp3,pp4,pp5,pp6⟩:=HB0.out.one.c7
       obtain⟨qq0,qq1,qq2,qq3,qq4,qq5,qq6⟩:=HB0.out.two.c7
       go_wp2_with fail
       refine(C1.out _ (pres_below HB0.out.below)).mono ?_
       rintro e V0 ⟨rfl,hb0⟩
       have HB1:=hkeep2 HB0 hb0
       clear hb0 HB0 pp0 pp1 pp2 pp3 pp4 pp5 pp6 qq0 qq1 qq2 qq3 qq4 qq5 qq6
       obtain⟨pp0,pp1,pp2,pp3,pp4,pp5,pp6⟩:=HB1.out.one.c7
       obtain⟨qq0,qq1,qq2,qq3,qq4,qq5,qq6⟩:=HB1.out.two.c7
       go_wp2_with fail
       refine(C2.out _ (pres_below HB1.out.below)).mono ?_
       rintro e V1 ⟨rfl,hb1⟩
       have HB2:=hkeep2 HB1 hb1
       clear hb1 HB1 pp0 pp1 pp2 pp3 pp4 pp5 pp6 qq0 qq1 qq2 qq3 qq4 qq5 qq6
       obtain⟨pp0,pp1,pp2,pp3,pp4,pp5,pp6⟩:=HB2.out.one.c7
       obtain⟨qq0,qq1,qq2,qq3,qq4,qq5,qq6⟩:=HB2.out.two.c7
       go_wp2_with fail
       refine(C4.out _ (pres_below HB2.out.below)).mono ?_
       rintro e V2 ⟨rfl,hb2⟩
       have HB3:=hkeep2 HB2 hb2
       clear hb2 HB2 pp0 pp1 pp2 pp3 pp4 pp5 pp6 qq0 qq1 qq2 qq3 qq4 qq5 qq6
       obtain⟨pp0,pp1,pp2,pp3,pp4,pp5,pp6⟩:=HB3.out.one.c7
       obtain⟨qq0,qq1,qq2,qq3,qq4,qq5,qq6⟩:=HB3.out.two.c7
       go_wp2
       go_ret
       exact⟨by rw[E.out];rfl,HB3.out.below⟩
      ·have E:Hid (decide ((⟨n1,g1,q1,i1,d1,b1⟩:Tbl)=⟨n1,g1,q1,i1,d1,b2⟩)=false):=decide_eq_false (fun h=>hz5 (by cases h;rfl))
       have ht:(b1==b2)=false:=by simpa using hz5
       have C1:Hid (∀ W,Pres w W→Cs 187 #[.slice ax0 g1.length cx0,.slice ay0 g1.length cy0] W fun e w'=>e=.returned (.bool true)∧Bl W w'):=fun W hp=>by have h:=equalKy_any _ _ _ _ W (hf0.pres hp).1 (hg0.pres hp).1 (by have h:g1.length*40≤_:=hf0.2;omega);rw[decide_eq_true rfl] at h;exact h
       have C2:Hid (∀ W,Pres w W→Cs 188 #[.slice ax1 q1.length cx1,.slice ay1 q1.length cy1] W fun e w'=>e=.returned (.bool true)∧Bl W w'):=fun W hp=>by have h:=equalTxt_any _ _ _ _ W (hf1.pres hp).1 (hg1.pres hp).1 (by have h:q1.length*16≤_:=hf1.2;omega);rw[decide_eq_true rfl] at h;exact h
       have C4:Hid (∀ W,Pres w W→Cs 189 #[.agg #[.string d1.action,.slice ax2 d1.args.length cx2],.agg #[.string d1.action,.slice ay2 d1.args.length cy2]] W fun e w'=>e=.returned (.bool true)∧Bl W w'):=fun W hp=>by have h:=sameCall_any d1 d1 _ _ W (hf2.pres hp) (hg2.pres hp);rw[decide_eq_true rfl] at h;exact h
       have HB0:=hstart2 w 51 #[.string n1,.slice ax0 g1.length cx0,.slice ax1 q1.length cx1,.int .i64 i1,.string d1.action,.slice ax2 d1.args.length cx2,.bool b1] #[.string n1,.slice ay0 g1.length cy0,.slice ay1 q1.length cy1,.int .i64 i1,.string d1.action,.slice ay2 d1.args.length cy2,.bool b2]
       clear hf0 hg0 hf1 hg1 hf2 hg2
       clear hz5
       go_enter Tryz.func118,Tryz.ntmps118
       go_upto_region 1 with fail
       generalize ((w.alloc _).alloc _)=W0 at HB0 ⊢
       obtain⟨pp0,pp1,pp2,pp3,pp4,pp5,pp6⟩:=HB0.out.one.c7
       obtain⟨qq0,qq1,qq2,qq3,qq4,qq5,qq6⟩:=HB0.out.two.c7
       go_wp2_with fail
       refine(C1.out _ (pres_below HB0.out.below)).mono ?_
       rintro e V0 ⟨rfl,hb0⟩
       have HB1:=hkeep2 HB0 hb0
       clear hb0 HB0 pp0 pp1 pp2 pp3 pp4 pp5 pp6 qq0 qq1 qq2 qq3 qq4 qq5 qq6
       obtain⟨pp0,pp1,pp2,pp3,pp4,pp5,pp6⟩:=HB1.out.one.c7
       obtain⟨qq0,qq1,qq2,qq3,qq4,qq5,qq6⟩:=HB1.out.two.c7
       go_wp2_with fail
       refine(C2.out _ (pres_below HB1.out.below)).mono ?_
       rintro e V1 ⟨rfl,hb1⟩
       have HB2:=hkeep2 HB1 hb1
       clear hb1 HB1 pp0 pp1 pp2 pp3 pp4 pp5 pp6 qq0 qq1 qq2 qq3 qq4 qq5 qq6
       obtain⟨pp0,pp1,pp2,pp3,pp4,pp5,pp6⟩:=HB2.out.one.c7
       obtain⟨qq0,qq1,qq2,qq3,qq4,qq5,qq6⟩:=HB2.out.two.c7
       go_wp2_with fail
       refine(C4.out _ (pres_below HB2.out.below)).mono ?_
       rintro e V2 ⟨rfl,hb2⟩
       have HB3:=hkeep2 HB2 hb2
       clear hb2 HB2 pp0 pp1 pp2 pp3 pp4 pp5 pp6 qq0 qq1 qq2 qq3 qq4 qq5 qq6
       obtain⟨pp0,pp1,pp2,pp3,pp4,pp5,pp6⟩:=HB3.out.one.c7
       obtain⟨qq0,qq1,qq2,qq3,qq4,qq5,qq6⟩:=HB3.out.two.c7
       go_wp2
       go_ret
       exact⟨by rw[E.out];rfl,HB3.out.below⟩
     ·have E:Hid (decide ((⟨n1,g1,q1,i1,d1,b1⟩:Tbl)=⟨n1,g1,q1,i1,d2,b2⟩)=false):=decide_eq_false (fun h=>hz4 (by cases h;rfl))
      have C1:Hid (∀ W,Pres w W→Cs 187 #[.slice ax0 g1.length cx0,.slice ay0 g1.length cy0] W fun e w'=>e=.returned (.bool true)∧Bl W w'):=fun W hp=>by have h:=equalKy_any _ _ _ _ W (hf0.pres hp).1 (hg0.pres hp).1 (by have h:g1.length*40≤_:=hf0.2;omega);rw[decide_eq_true rfl] at h;exact h
      have C2:Hid (∀ W,Pres w W→Cs 188 #[.slice ax1 q1.length cx1,.slice ay1 q1.length cy1] W fun e w'=>e=.returned (.bool true)∧Bl W w'):=fun W hp=>by have h:=equalTxt_any _ _ _ _ W (hf1.pres hp).1 (hg1.pres hp).1 (by have h:q1.length*16≤_:=hf1.2;omega);rw[decide_eq_true rfl] at h;exact h
      have C4:Hid (∀ W,Pres w W→Cs 189 #[.agg #[.string d1.action,.slice ax2 d1.args.length cx2],.agg #[.string d2.action,.slice ay2 d2.args.length cy2]] W fun e w'=>e=.returned (.bool false)∧Bl W w'):=fun W hp=>by have h:=sameCall_any d1 d2 _ _ W (hf2.pres hp) (hg2.pres hp);rw[decide_eq_false hz4] at h;exact h
      have HB0:=hstart2 w 51 #[.string n1,.slice ax0 g1.length cx0,.slice ax1 q1.length cx1,.int .i64 i1,.string d1.action,.slice ax2 d1.args.length cx2,.bool b1] #[.string n1,.slice ay0 g1.length cy0,.slice ay1 q1.length cy1,.int .i64 i1,.string d2.action,.slice ay2 d2.args.length cy2,.bool b2]
      clear hf0 hg0 hf1 hg1 hf2 hg2
      clear hz4
      go_enter Tryz.func118,Tryz.ntmps118
      go_upto_region 1 with fail
      generalize ((w.alloc _).alloc _)=W0 at HB0 ⊢
      obtain⟨pp0,pp1,pp2,pp3,pp4,pp5,pp6⟩:=HB0.out.one.c7
      obtain⟨qq0,qq1,qq2,qq3,qq4,qq5,qq6⟩:=HB0.out.two.c7
      go_wp2_with fail
      refine(C1.out _ (pres_below HB0.out.below)).mono ?_
      rintro e V0 ⟨rfl,hb0⟩
      have HB1:=hkeep2 HB0 hb0
      clear hb0 HB0 pp0 pp1 pp2 pp3 pp4 pp5 pp6 qq0 qq1 qq2 qq3 qq4 qq5 qq6
      obtain⟨pp0,pp1,pp2,pp3,pp4,pp5,pp6⟩:=HB1.out.one.c7
      obtain⟨qq0,qq1,qq2,qq3,qq4,qq5,qq6⟩:=HB1.out.two.c7
      go_wp2_with fail
      refine(C2.out _ (pres_below HB1.out.below)).mono ?_
      rintro e V1 ⟨rfl,hb1⟩
      have HB2:=hkeep2 HB1 hb1
      clear hb1 HB1 pp0 pp1 pp2 pp3 pp4 pp5 pp6 qq0 qq1 qq2 qq3 qq4 qq5 qq6
      obtain⟨pp0,pp1,pp2,pp3,pp4,pp5,pp6⟩:=HB2.out.one.c7
      obtain⟨qq0,qq1,qq2,qq3,qq4,qq5,qq6⟩:=HB2.out.two.c7
      go_wp2_with fail
      refine(C4.out _ (pres_below HB2.out.below)).mono ?_
      rintro e V2 ⟨rfl,hb2⟩
      have HB3:=hkeep2 HB2 hb2
      clear hb2 HB2 pp0 pp1 pp2 pp3 pp4 pp5 pp6 qq0 qq1 qq2 qq3 qq4 qq5 qq6
      obtain⟨pp0,pp1,pp2,pp3,pp4,pp5,pp6⟩:=HB3.out.one.c7
      obtain⟨qq0,qq1,qq2,qq3,qq4,qq5,qq6⟩:=HB3.out.two.c7
      go_wp2
      go_ret
      exact⟨by rw[E.out];rfl,HB3.out.below⟩
    ·have E:Hid (decide ((⟨n1,g1,q1,i1,d1,b1⟩:Tbl)=⟨n1,g1,q1,i2,d2,b2⟩)=false):=decide_eq_false (fun h=>hz3 (by cases h;rfl))
     have ht:(i1==i2)=false:=by simpa using hz3
     have C1:Hid (∀ W,Pres w W→Cs 187 #[.slice ax0 g1.length cx0,.slice ay0 g1.length cy0] W fun e w'=>e=.returned (.bool true)∧Bl W w'):=fun W hp=>by have h:=equalKy_any _ _ _ _ W (hf0.pres hp).1 (hg0.pres hp).1 (by have h:g1.length*40≤_:=hf0.2;omega);rw[decide_eq_true rfl] at h;exact h
     have C2:Hid (∀ W,Pres w W→Cs 188 #[.slice ax1 q1.length cx1,.slice ay1 q1.length cy1] W fun e w'=>e=.returned (.bool true)∧Bl W w'):=fun W hp=>by have h:=equalTxt_any _ _ _ _ W (hf1.pres hp).1 (hg1.pres hp).1 (by have h:q1.length*16≤_:=hf1.2;omega);rw[decide_eq_true rfl] at h;exact h
     have HB0:=hstart2 w 51 #[.string n1,.slice ax0 g1.length cx0,.slice ax1 q1.length cx1,.int .i64 i1,.string d1.action,.slice ax2 d1.args.length cx2,.bool b1] #[.string n1,.slice ay0 g1.length cy0,.slice ay1 q1.length cy1,.int .i64 i2,.string d2.action,.slice ay2 d2.args.length cy2,.bool b2]
     clear hf0 hg0 hf1 hg1 hf2 hg2
     clear hz3
     go_enter Tryz.func118,Tryz.ntmps118
     go_upto_region 1 with fail
     generalize ((w.alloc _).alloc _)=W0 at HB0 ⊢
     obtain⟨pp0,pp1,pp2,pp3,pp4,pp5,pp6⟩:=HB0.out.one.c7
     obtain⟨qq0,qq1,qq2,qq3,qq4,qq5,qq6⟩:=HB0.out.two.c7
     go_wp2_with fail
     refine(C1.out _ (pres_below HB0.out.below)).mono ?_
     rintro e V0 ⟨rfl,hb0⟩
     have HB1:=hkeep2 HB0 hb0
     clear hb0 HB0 pp0 pp1 pp2 pp3 pp4 pp5 pp6 qq0 qq1 qq2 qq3 qq4 qq5 qq6
     obtain⟨pp0,pp1,pp2,pp3,pp4,pp5,pp6⟩:=HB1.out.one.c7
     obtain⟨qq0,qq1,qq2,qq3,qq4,qq5,qq6⟩:=HB1.out.two.c7
     go_wp2_with fail
     refine(C2.out _ (pres_below HB1.out.below)).mono ?_
     rintro e V1 ⟨rfl,hb1⟩
     have HB2:=hkeep2 HB1 hb1
     clear hb1 HB1 pp0 pp1 pp2 pp3 pp4 pp5 pp6 qq0 qq1 qq2 qq3 qq4 qq5 qq6
     obtain⟨pp0,pp1,pp2,pp3,pp4,pp5,pp6⟩:=HB2.out.one.c7
     obtain⟨qq0,qq1,qq2,qq3,qq4,qq5,qq6⟩:=HB2.out.two.c7
     go_wp2
     go_ret
     exact⟨by rw[E.out];rfl,HB2.out.below⟩
   ·have E:Hid (decide ((⟨n1,g1,q1,i1,d1,b1⟩:Tbl)=⟨n1,g1,q2,i2,d2,b2⟩)=false):=decide_eq_false (fun h=>hz2 (by cases h;rfl))
    have C1:Hid (∀ W,Pres w W→Cs 187 #[.slice ax0 g1.length cx0,.slice ay0 g1.length cy0] W fun e w'=>e=.returned (.bool true)∧Bl W w'):=fun W hp=>by have h:=equalKy_any _ _ _ _ W (hf0.pres hp).1 (hg0.pres hp).1 (by have h:g1.length*40≤_:=hf0.2;omega);rw[decide_eq_true rfl] at h;exact h
    have C2:Hid (∀ W,Pres w W→Cs 188 #[.slice ax1 q1.length cx1,.slice ay1 q2.length cy1] W fun e w'=>e=.returned (.bool false)∧Bl W w'):=fun W hp=>by have h:=equalTxt_any _ _ _ _ W (hf1.pres hp).1 (hg1.pres hp).1 (by have h:q1.length*16≤_:=hf1.2;omega);rw[decide_eq_false hz2] at h;exact h
    have HB0:=hstart2 w 51 #[.string n1,.slice ax0 g1.length cx0,.slice ax1 q1.length cx1,.int .i64 i1,.string d1.action,.slice ax2 d1.args.length cx2,.bool b1] #[.string n1,.slice ay0 g1.length cy0,.slice ay1 q2.length cy1,.int .i64 i2,.string d2.action,.slice ay2 d2.args.length cy2,.bool b2]
    clear hf0 hg0 hf1 hg1 hf2 hg2
    clear hz2
    go_enter Tryz.func118,Tryz.ntmps118
    go_upto_region 1 with fail
    generalize ((w.alloc _).alloc _)=W0 at HB0 ⊢
    obtain⟨pp0,pp1,pp2,pp3,pp4,pp5,pp6⟩:=HB0.out.one.c7
    obtain⟨qq0,qq1,qq2,qq3,qq4,qq5,qq6⟩:=HB0.out.two.c7
    go_wp2_with fail
    refine(C1.out _ (pres_below HB0.out.below)).mono ?_
    rintro e V0 ⟨rfl,hb0⟩
    have HB1:=hkeep2 HB0 hb0
    clear hb0 HB0 pp0 pp1 pp2 pp3 pp4 pp5 pp6 qq0 qq1 qq2 qq3 qq4 qq5 qq6
    obtain⟨pp0,pp1,pp2,pp3,pp4,pp5,pp6⟩:=HB1.out.one.c7
    obtain⟨qq0,qq1,qq2,qq3,qq4,qq5,qq6⟩:=HB1.out.two.c7
    go_wp2_with fail
    refine(C2.out _ (pres_below HB1.out.below)).mono ?_
    rintro e V1 ⟨rfl,hb1⟩
    have HB2:=hkeep2 HB1 hb1
    clear hb1 HB1 pp0 pp1 pp2 pp3 pp4 pp5 pp6 qq0 qq1 qq2 qq3 qq4 qq5 qq6
    obtain⟨pp0,pp1,pp2,pp3,pp4,pp5,pp6⟩:=HB2.out.one.c7
    obtain⟨qq0,qq1,qq2,qq3,qq4,qq5,qq6⟩:=HB2.out.two.c7
    go_wp2
    go_ret
    exact⟨by rw[E.out];rfl,HB2.out.below⟩
  ·have E:Hid (decide ((⟨n1,g1,q1,i1,d1,b1⟩:Tbl)=⟨n1,g2,q2,i2,d2,b2⟩)=false):=decide_eq_false (fun h=>hz1 (by cases h;rfl))
   have C1:Hid (∀ W,Pres w W→Cs 187 #[.slice ax0 g1.length cx0,.slice ay0 g2.length cy0] W fun e w'=>e=.returned (.bool false)∧Bl W w'):=fun W hp=>by have h:=equalKy_any _ _ _ _ W (hf0.pres hp).1 (hg0.pres hp).1 (by have h:g1.length*40≤_:=hf0.2;omega);rw[decide_eq_false hz1] at h;exact h
   have HB0:=hstart2 w 51 #[.string n1,.slice ax0 g1.length cx0,.slice ax1 q1.length cx1,.int .i64 i1,.string d1.action,.slice ax2 d1.args.length cx2,.bool b1] #[.string n1,.slice ay0 g2.length cy0,.slice ay1 q2.length cy1,.int .i64 i2,.string d2.action,.slice ay2 d2.args.length cy2,.bool b2]
   clear hf0 hg0 hf1 hg1 hf2 hg2
   clear hz1
   go_enter Tryz.func118,Tryz.ntmps118
   go_upto_region 1 with fail
   generalize ((w.alloc _).alloc _)=W0 at HB0 ⊢
   obtain⟨pp0,pp1,pp2,pp3,pp4,pp5,pp6⟩:=HB0.out.one.c7
   obtain⟨qq0,qq1,qq2,qq3,qq4,qq5,qq6⟩:=HB0.out.two.c7
   go_wp2_with fail
   refine(C1.out _ (pres_below HB0.out.below)).mono ?_
   rintro e V0 ⟨rfl,hb0⟩
   have HB1:=hkeep2 HB0 hb0
   clear hb0 HB0 pp0 pp1 pp2 pp3 pp4 pp5 pp6 qq0 qq1 qq2 qq3 qq4 qq5 qq6
   obtain⟨pp0,pp1,pp2,pp3,pp4,pp5,pp6⟩:=HB1.out.one.c7
   obtain⟨qq0,qq1,qq2,qq3,qq4,qq5,qq6⟩:=HB1.out.two.c7
   go_wp2
   go_ret
   exact⟨by rw[E.out];rfl,HB1.out.below⟩
 ·have E:Hid (decide ((⟨n1,g1,q1,i1,d1,b1⟩:Tbl)=⟨n2,g2,q2,i2,d2,b2⟩)=false):=decide_eq_false (fun h=>hz0 (by cases h;rfl))
  have ht:(n1.toList==n2.toList)=false:=by rw[txt_eq];exact decide_eq_false hz0
  have HB0:=hstart2 w 51 #[.string n1,.slice ax0 g1.length cx0,.slice ax1 q1.length cx1,.int .i64 i1,.string d1.action,.slice ax2 d1.args.length cx2,.bool b1] #[.string n2,.slice ay0 g2.length cy0,.slice ay1 q2.length cy1,.int .i64 i2,.string d2.action,.slice ay2 d2.args.length cy2,.bool b2]
  clear hf0 hg0 hf1 hg1 hf2 hg2
  clear hz0
  go_enter Tryz.func118,Tryz.ntmps118
  go_upto_region 1 with fail
  generalize ((w.alloc _).alloc _)=W0 at HB0 ⊢
  obtain⟨pp0,pp1,pp2,pp3,pp4,pp5,pp6⟩:=HB0.out.one.c7
  obtain⟨qq0,qq1,qq2,qq3,qq4,qq5,qq6⟩:=HB0.out.two.c7
  go_wp2
  go_ret
  exact⟨by rw[E.out];rfl,HB0.out.below⟩
end Go.Proofs.YtmbpclknhkbbkaaGreat
