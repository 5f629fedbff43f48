/- Package schema: slices. -/
import Derived.Test.YtmbpclknhkbbkaaGreatB14
set_option linter.unusedSimpArgs false
set_option linter.unusedVariables false
set_option maxHeartbeats 2000000
set_option maxRecDepth 100000
namespace Go.Proofs.YtmbpclknhkbbkaaGreat
open Go.RowKit
theorem fsz98:(Tryz.prog.info? 98).map (·.size)=some 6:=by kernel_rfl
theorem equalfSta_any (v v':Value)(xs ys:List Sta)(w:World)(hr:Row 6 StaIs w v xs)(hr':Row 6 StaIs w v' ys)(hlen:xs.length≤140737488351232)(hc:SameOk 114 StaIs xs ys):
  Calls Tryz.prog 113 #[v,v',.func (.func 114) #[] #[]] w fun e w'=>e=.returned (.bool (decide (xs=ys)))∧Below w.heap.size w w':=by
 obtain⟨a1,c1,rfl,h1⟩:=hr.slice
 obtain⟨a2,c2,rfl,h2⟩:=hr'.slice
 by_cases hne:¬ xs.length=ys.length
 ·have e:decide (xs=ys)=false:=by rw[decide_eq_false_iff_not];intro h;exact hne (by rw[h])
  rw[e]
  have hne':¬((xs.length:Int)=(ys.length:Int)):=by omega
  clear hr hr' h1 h2 e hc
  go_enter Tryz.func113,Tryz.ntmps113
  go_wp2
  go_ret
  exact⟨rfl,Below.refl _ _⟩
 have hne:=Classical.not_not.1 hne
 have HR:Hid (Row 6 StaIs w (.slice a1 xs.length c1) xs):=hr
 have HS:Hid (Row 6 StaIs w (.slice a2 ys.length c2) ys):=hr'
 have HC:Hid (SameOk 114 StaIs xs ys):=hc
 obtain⟨n,hn⟩:∃ n,n=xs.length:=⟨_,rfl⟩
 have HL:Hid (n=xs.length∧n=ys.length):=⟨hn,by omega⟩
 rw[← hne] at HS ⊢
 rw[← hn] at HR HS hlen ⊢
 clear hr hr' h1 h2 hn hne hc
 go_enter Tryz.func113,Tryz.ntmps113
 go_wp2_with fail
 go_loopw [17] (fun i wr=>∃ k:Nat,k≤n∧i=.int .i64 k∧decide (xs=ys)=decide (xs.drop k=ys.drop k)∧Below w.heap.size w wr) (fun i _=>n - (intOf i).toNat)
 case atStart=>exact⟨0,by omega,rfl,by simp,Below.refl _ _⟩
 case round=>
  obtain⟨k,hk,rfl,hd,hb⟩:=hrel
  by_cases hlt:k<n
  ·obtain⟨x,hx⟩:=gE HL.out.1 hlt
   obtain⟨y,hy⟩:=gE HL.out.2 hlt
   obtain⟨b,o,⟨cl⟩,rfl,hsx,hx1,hIx⟩:=HR.out.at hx
   obtain⟨b2,o2,⟨dl⟩,rfl,hsy,hy1,hIy⟩:=HS.out.at hy
   have hcs:cl.length=6:=hsx
   have hds:dl.length=6:=hsy
   have hz1:(Tryz.prog.info? 98).map (·.size)=some cl.length:=by rw[hcs];exact fsz98
   have hz2:(Tryz.prog.info? 98).map (·.size)=some dl.length:=by rw[hds];exact fsz98
   have HP:Hid (StaIs w cl.toArray x∧StaIs w dl.toArray y∧x ∈ xs∧y ∈ ys):=⟨hIx,hIy,List.mem_of_getElem? hx,List.mem_of_getElem? hy⟩
   have HD:Hid (decide (xs=ys)=(decide (x=y)&&decide (xs.drop (k+1)=ys.drop (k+1)))):=by
    have e:=drop_step hx hy
    show decide (xs=ys)=_
    rw[hd,e]
   have HB:Hid (Bl w wr):=hb
   have R1:Hid (wr.rangeAt b (o+k*6) cl):=fun j u hu=>pres_below hb _ _ (hx1 j u (by simpa using hu))
   have R2:Hid (w.rangeAt b2 (o2+k*6) dl):=fun j u hu=>(hy1 j u (by simpa using hu))
   have ST:Hid ((wr.alloc (.cells #[.string ⟨#[]⟩,.string ⟨#[]⟩,.string ⟨#[]⟩,.string ⟨#[]⟩,.slice none 0 0,.string ⟨#[]⟩] 98)).there wr.heap.size 0 cl.toArray.size):=there_new wr #[.string ⟨#[]⟩,.string ⟨#[]⟩,.string ⟨#[]⟩,.string ⟨#[]⟩,.slice none 0 0,.string ⟨#[]⟩] 98 (by simp[hcs])
   have ON1:Hid (cl.toArray.all (·.oneCell')=true):=sta_good.one hIx
   have ON2:Hid (dl.toArray.all (·.oneCell')=true):=sta_good.one hIy
   have H1:Hid (Below w.heap.size w ((wr.alloc (.cells #[.string ⟨#[]⟩,.string ⟨#[]⟩,.string ⟨#[]⟩,.string ⟨#[]⟩,.slice none 0 0,.string ⟨#[]⟩] 98)).setCells wr.heap.size 0 cl)∧((wr.alloc (.cells #[.string ⟨#[]⟩,.string ⟨#[]⟩,.string ⟨#[]⟩,.string ⟨#[]⟩,.slice none 0 0,.string ⟨#[]⟩] 98)).setCells wr.heap.size 0 cl).rangeAt wr.heap.size 0 cl):=
    ⟨below_setCells (hb.alloc hb.size _) hb.size _ _,World.rangeAt_setCells_same _ _ _ _ (there_new wr #[.string ⟨#[]⟩,.string ⟨#[]⟩,.string ⟨#[]⟩,.string ⟨#[]⟩,.slice none 0 0,.string ⟨#[]⟩] 98 (by simp[hcs]))⟩
   clear hd hb hx1 hy1 hx hy hIx hIy hsx hsy
   go_upto_region 6 with(first|(refine wpList_load_mid rfl 98 _ rfl b (o+k*6) rfl cl _ R1.out Tryz.underlying98 rfl hz1 ?_)|(refine wpList_store_mid rfl 98 _ _ rfl wr.heap.size 0 cl.toArray rfl rfl ST.out (by rw[List.size_toArray];exact hz1) ON1.out ?_))
   generalize ((wr.alloc (.cells #[.string ⟨#[]⟩,.string ⟨#[]⟩,.string ⟨#[]⟩,.string ⟨#[]⟩,.slice none 0 0,.string ⟨#[]⟩] 98)).setCells wr.heap.size 0 cl)=W1 at H1 ⊢
   have ST2:Hid ((W1.alloc (.cells #[.string ⟨#[]⟩,.string ⟨#[]⟩,.string ⟨#[]⟩,.string ⟨#[]⟩,.slice none 0 0,.string ⟨#[]⟩] 98)).there W1.heap.size 0 dl.toArray.size):=there_new W1 #[.string ⟨#[]⟩,.string ⟨#[]⟩,.string ⟨#[]⟩,.string ⟨#[]⟩,.slice none 0 0,.string ⟨#[]⟩] 98 (by simp[hds])
   have R3:Hid (W1.rangeAt b2 (o2+k*6) dl):=fun j u hu=>pres_below H1.out.1 _ _ (R2.out j u hu)
   have H2:Hid (Below w.heap.size w ((W1.alloc (.cells #[.string ⟨#[]⟩,.string ⟨#[]⟩,.string ⟨#[]⟩,.string ⟨#[]⟩,.slice none 0 0,.string ⟨#[]⟩] 98)).setCells W1.heap.size 0 dl)∧((W1.alloc (.cells #[.string ⟨#[]⟩,.string ⟨#[]⟩,.string ⟨#[]⟩,.string ⟨#[]⟩,.slice none 0 0,.string ⟨#[]⟩] 98)).setCells W1.heap.size 0 dl).rangeAt wr.heap.size 0 cl∧((W1.alloc (.cells #[.string ⟨#[]⟩,.string ⟨#[]⟩,.string ⟨#[]⟩,.string ⟨#[]⟩,.slice none 0 0,.string ⟨#[]⟩] 98)).setCells W1.heap.size 0 dl).rangeAt W1.heap.size 0 dl):=
    ⟨below_setCells (H1.out.1.alloc H1.out.1.size _) H1.out.1.size _ _,fun j u hu=>pres_below (below_setCells ((Below.refl _ _).alloc (Nat.le_refl _) _) (Nat.le_refl _) _ _) _ _ (H1.out.2 j u hu),World.rangeAt_setCells_same _ _ _ _ (there_new W1 #[.string ⟨#[]⟩,.string ⟨#[]⟩,.string ⟨#[]⟩,.string ⟨#[]⟩,.slice none 0 0,.string ⟨#[]⟩] 98 (by simp[hds]))⟩
   clear R1 ST R2 H1
   go_upto_region 7 with(first|(refine wpList_load_mid rfl 98 _ rfl b2 (o2+k*6) rfl dl _ R3.out Tryz.underlying98 rfl hz2 ?_)|(refine wpList_store_mid rfl 98 _ _ rfl W1.heap.size 0 dl.toArray rfl rfl ST2.out (by rw[List.size_toArray];exact hz2) ON2.out ?_))
   generalize ((W1.alloc (.cells #[.string ⟨#[]⟩,.string ⟨#[]⟩,.string ⟨#[]⟩,.string ⟨#[]⟩,.slice none 0 0,.string ⟨#[]⟩] 98)).setCells W1.heap.size 0 dl)=W2 at H2 ⊢
   have C:Hid (Cs 114 #[.agg cl.toArray,.agg dl.toArray] W2 fun e w'=>e=.returned (.bool (decide (x=y)))∧Hid (Bl w w')):=by
    refine(HC.out x HP.out.2.2.1 y HP.out.2.2.2 W2 cl.toArray dl.toArray (sta_good.pres (pres_below H2.out.1) HP.out.1) (sta_good.pres (pres_below H2.out.1) HP.out.2.1)).mono ?_
    rintro e w' ⟨rfl,hb⟩
    exact⟨rfl,bst H2.out.1 hb (Nat.le_refl _)⟩
   generalize decide (x=y)=r at*
   clear R3 ST2 ON1 ON2
   have R4:Hid (W2.rangeAt wr.heap.size 0 cl):=H2.out.2.1
   have R5:Hid (W2.rangeAt W1.heap.size 0 dl):=H2.out.2.2
   clear H2
   go_wp2_with (first|(refine wpList_load_mid rfl 98 _ rfl wr.heap.size 0 rfl cl _ R4.out Tryz.underlying98 rfl hz1 ?_)|(refine wpList_load_mid rfl 98 _ rfl W1.heap.size 0 rfl dl _ R5.out Tryz.underlying98 rfl hz2 ?_))
   refine C.out.mono ?_
   rintro e W3 ⟨rfl,H3⟩
   clear C R4 R5 HB
   cases r
   ·go_wp2
    go_ret
    exact⟨by rw[HD.out];rfl,H3.out⟩
   ·go_wp2
    exact⟨⟨k+1,by omega,by go_num,by rw[HD.out,Bool.true_and],H3.out⟩,by simp only[intOf];omega⟩
  ·have e:k=n:=by omega
   subst e
   have HE:decide (xs=ys)=true:=by
    rw[hd,decide_eq_true_eq]
    have h1:=HL.out.1;have h2:=HL.out.2
    rw[List.drop_of_length_le (by omega),List.drop_of_length_le (by omega)]
   clear hd
   have HE:Hid (decide (xs=ys)=true):=HE
   go_wp2
   go_ret
   exact⟨by rw[HE.out];rfl,hb⟩
theorem sameStg_all:∀(n:Nat)(x y:Stg),SizeOf.sizeOf x≤n→∀(cs ds:Array Value)(w:World),StgIs w x cs→StgIs w y ds→Calls Tryz.prog 120 #[.agg cs,.agg ds] w fun e w'=>e=.returned (.bool (decide (x=y)))∧Below w.heap.size w w'
 | 0,x,y,h,_,_,_,_,_=>by cases x;simp at h
 | n+1,x,y,h,cs,ds,w,hI,hJ=>by
  refine sameStg_step x y ?_ ?_ cs ds w hI hJ
  ·intro a ha b _ w cs ds hI hJ
   refine sameStg_all n a b ?_ cs ds w hI hJ
   have:=List.sizeOf_lt_of_mem ha
   cases x
   simp only[Stg.thn] at this
   simp at h
   omega
  ·intro a ha b _ w cs ds hI hJ
   refine sameStg_all n a b ?_ cs ds w hI hJ
   have:=List.sizeOf_lt_of_mem ha
   cases x
   simp only[Stg.els] at this
   simp at h
   omega
noncomputable instance:DecidableEq Sch:=fun _ _=>Classical.propDecidable _
theorem same_any (x y:Sch)(v v':Value)(w:World)(hI:SchIs w v x)(hJ:SchIs w v' y):Calls Tryz.prog 30 #[v,v'] w fun e w'=>e=.returned (.bool (decide (x=y)))∧Below w.heap.size w w':=by
 obtain⟨h1,m1,s1,k1,t1,g1⟩:=x
 obtain⟨h2,m2,s2,k2,t2,g2⟩:=y
 obtain⟨v0,v1,v2,v3,v4,v5,rfl,hf0,hf1,hf2,hf3,hf4,hf5⟩:=hI
 obtain⟨u0,u1,u2,u3,u4,u5,rfl,hg0,hg1,hg2,hg3,hg4,hg5⟩:=hJ
 simp only at*
 obtain⟨ax0,cx0,rfl,_⟩:=hf0.1.slice
 obtain⟨ay0,cy0,rfl,_⟩:=hg0.1.slice
 obtain⟨ax1,cx1,rfl,_⟩:=hf1.1.slice
 obtain⟨ay1,cy1,rfl,_⟩:=hg1.1.slice
 obtain⟨ax2,cx2,rfl,_⟩:=hf2.1.slice
 obtain⟨ay2,cy2,rfl,_⟩:=hg2.1.slice
 obtain⟨ax3,cx3,rfl,_⟩:=hf3.1.slice
 obtain⟨ay3,cy3,rfl,_⟩:=hg3.1.slice
 obtain⟨ax4,cx4,rfl,_⟩:=hf4.1.slice
 obtain⟨ay4,cy4,rfl,_⟩:=hg4.1.slice
 obtain⟨ax5,cx5,rfl,_⟩:=hf5.slice
 obtain⟨ay5,cy5,rfl,_⟩:=hg5.slice
 by_cases hz0:h1=h2
 ·subst hz0
  by_cases hz1:m1=m2
  ·subst hz1
   by_cases hz2:s1=s2
   ·subst hz2
    by_cases hz3:k1=k2
    ·subst hz3
     by_cases hz4:t1=t2
     ·subst hz4
      by_cases hz5:g1=g2
      ·subst hz5
       have E:Hid (decide ((⟨h1,m1,s1,k1,t1,g1⟩:Sch)=⟨h1,m1,s1,k1,t1,g1⟩)=true):=decide_eq_true rfl
       have C0:Hid (∀ W,Pres w W→Cs 110 #[.slice ax0 h1.length cx0,.slice ay0 h1.length cy0,.func (.func 111) #[] #[]] W fun e w'=>e=.returned (.bool true)∧Bl W w'):=fun W hp=>by have h:=equalfHdr_any _ _ _ _ W (hf0.pres hp).1 (hg0.pres hp).1 (by have h:h1.length*40≤_:=hf0.2;omega) (fun x _ y _ w cs ds hI hJ=>sameHdr_any x y cs ds w hI hJ);rw[decide_eq_true rfl] at h;exact h
       have C1:Hid (∀ W,Pres w W→Cs 112 #[.slice ax1 m1.length cx1,.slice ay1 m1.length cy1] W fun e w'=>e=.returned (.bool true)∧Bl W w'):=fun W hp=>by have h:=equalFld_any _ _ _ _ W (hf1.pres hp).1 (hg1.pres hp).1 (by have h:m1.length*24≤_:=hf1.2;omega);rw[decide_eq_true rfl] at h;exact h
       have C2:Hid (∀ W,Pres w W→Cs 113 #[.slice ax2 s1.length cx2,.slice ay2 s1.length cy2,.func (.func 114) #[] #[]] W fun e w'=>e=.returned (.bool true)∧Bl W w'):=fun W hp=>by have h:=equalfSta_any _ _ _ _ W (hf2.pres hp).1 (hg2.pres hp).1 (by have h:s1.length*104≤_:=hf2.2;omega) (fun x _ y _ w cs ds hI hJ=>sameSta_any x y cs ds w hI hJ);rw[decide_eq_true rfl] at h;exact h
       have C3:Hid (∀ W,Pres w W→Cs 115 #[.slice ax3 k1.length cx3,.slice ay3 k1.length cy3,.func (.func 116) #[] #[]] W fun e w'=>e=.returned (.bool true)∧Bl W w'):=fun W hp=>by have h:=equalfAct_any _ _ _ _ W (hf3.pres hp).1 (hg3.pres hp).1 (by have h:k1.length*64≤_:=hf3.2;omega) (fun x _ y _ w cs ds hI hJ=>sameAct_any x y cs ds w hI hJ);rw[decide_eq_true rfl] at h;exact h
       have C4:Hid (∀ W,Pres w W→Cs 117 #[.slice ax4 t1.length cx4,.slice ay4 t1.length cy4,.func (.func 118) #[] #[]] W fun e w'=>e=.returned (.bool true)∧Bl W w'):=fun W hp=>by have h:=equalfTbl_any _ _ _ _ W (hf4.pres hp).1 (hg4.pres hp).1 (by have h:t1.length*120≤_:=hf4.2;omega) (fun x _ y _ w cs ds hI hJ=>sameTbl_any x y cs ds w hI hJ);rw[decide_eq_true rfl] at h;exact h
       have C5:Hid (∀ W,Pres w W→Cs 119 #[.slice ax5 g1.length cx5,.slice ay5 g1.length cy5,.func (.func 120) #[] #[]] W fun e w'=>e=.returned (.bool true)∧Bl W w'):=fun W hp=>by have h:=equalfStg_any _ _ _ _ W (stgRow_row (hf5.pres hp)).1 (stgRow_row (hg5.pres hp)).1 (by have h:g1.length*176≤_:=(stgRow_row hf5).2;omega) (fun x _ y _ w cs ds hI hJ=>sameStg_all _ x y (Nat.le_refl _) cs ds w hI hJ);rw[decide_eq_true rfl] at h;exact h
       have HB0:=hstart2 w 34 #[.slice ax0 h1.length cx0,.slice ax1 m1.length cx1,.slice ax2 s1.length cx2,.slice ax3 k1.length cx3,.slice ax4 t1.length cx4,.slice ax5 g1.length cx5] #[.slice ay0 h1.length cy0,.slice ay1 m1.length cy1,.slice ay2 s1.length cy2,.slice ay3 k1.length cy3,.slice ay4 t1.length cy4,.slice ay5 g1.length cy5]
       clear hf0 hg0 hf1 hg1 hf2 hg2 hf3 hg3 hf4 hg4 hf5 hg5
       go_enter Tryz.func30,Tryz.ntmps30
       go_upto_region 1 with fail
       generalize ((w.alloc _).alloc _)=W0 at HB0 ⊢
       obtain⟨pp0,pp1,pp2,pp3,pp4,pp5⟩:=HB0.out.one.c6
       obtain⟨qq0,qq1,qq2,qq3,qq4,qq5⟩:=HB0.out.two.c6
       go_wp2_with fail
       refine(C0.out _ (pres_below HB0.out.below)).mono ?_
       rintro e V0 ⟨rfl,hb0⟩
       have HB1:=hkeep2 HB0 hb0
       clear hb0 HB0 pp0 pp1 pp2 pp3 pp4 pp5 qq0 qq1 qq2 qq3 qq4 qq5
       obtain⟨pp0,pp1,pp2,pp3,pp4,pp5⟩:=HB1.out.one.c6
       obtain⟨qq0,qq1,qq2,qq3,qq4,qq5⟩:=HB1.out.two.c6
       go_wp2_with fail
       refine(C1.out _ (pres_below HB1.out.below)).mono ?_
       rintro e V1 ⟨rfl,hb1⟩
       have HB2:=hkeep2 HB1 hb1
       clear hb1 HB1 pp0 pp1 pp2 pp3 pp4 pp5 qq0 qq1 qq2 qq3 qq4 qq5
       obtain⟨pp0,pp1,pp2,pp3,pp4,pp5⟩:=HB2.out.one.c6
       obtain⟨qq0,qq1,qq2,qq3,qq4,qq5⟩:=HB2.out.two.c6
       go_wp2_with fail
       refine(C2.out _ (pres_below HB2.out.below)).mono ?_
       rintro e V2 ⟨rfl,hb2⟩
       have HB3:=hkeep2 HB2 hb2
       clear hb2 HB2 pp0 pp1 pp2 pp3 pp4 pp5 qq0 qq1 qq2 qq3 qq4 qq5
       obtain⟨pp0,pp1,pp2,pp3,pp4,pp5⟩:=HB3.out.one.c6
       obtain⟨qq0,qq1,qq2,qq3,qq4,qq5⟩:=HB3.out.two.c6
       go_wp2_with fail
       refine(C3.out _ (pres_below HB3.out.below)).mono ?_
       rintro e V3 ⟨rfl,hb3⟩
       have HB4:=hkeep2 HB3 hb3
       clear hb3 HB3 pp0 pp1 pp2 pp3 pp4 pp5 qq0 qq1 qq2 qq3 qq4 qq5
       obtain⟨pp0,pp1,pp2,pp3,pp4,pp5⟩:=HB4.out.one.c6
       obtain⟨qq0,qq1,qq2,qq3,qq4,qq5⟩:=HB4.out.two.c6
       go_wp2_with fail
       refine(C4.out _ (pres_below HB4.out.below)).mono ?_
       rintro e V4 ⟨rfl,hb4⟩
       have HB5:=hkeep2 HB4 hb4
       clear hb4 HB4 pp0 pp1 pp2 pp3 pp4 pp5 qq0 qq1 qq2 qq3 qq4 qq5
       obtain⟨pp0,pp1,pp2,pp3,pp4,pp5⟩:=HB5.out.one.c6
       obtain⟨qq0,qq1,qq2,qq3,qq4,qq5⟩:=HB5.out.two.c6
       go_wp2_with fail
       refine(C5.out _ (pres_below HB5.out.below)).mono ?_
       rintro e V5 ⟨rfl,hb5⟩
       have HB6:=hkeep2 HB5 hb5
       clear hb5 HB5 pp0 pp1 pp2 pp3 pp4 pp5 qq0 qq1 qq2 qq3 qq4 qq5
       obtain⟨pp0,pp1,pp2,pp3,pp4,pp5⟩:=HB6.out.one.c6
       obtain⟨qq0,qq1,qq2,qq3,qq4,qq5⟩:=HB6.out.two.c6
       go_wp2
       go_ret
       exact⟨by rw[E.out];rfl,HB6.out.below⟩
      ·have E:Hid (decide ((⟨h1,m1,s1,k1,t1,g1⟩:Sch)=⟨h1,m1,s1,k1,t1,g2⟩)=false):=decide_eq_false (fun h=>hz5 (by cases h;rfl))
       have C0:Hid (∀ W,Pres w W→Cs 110 #[.slice ax0 h1.length cx0,.slice ay0 h1.length cy0,.func (.func 111) #[] #[]] W fun e w'=>e=.returned (.bool true)∧Bl W w'):=fun W hp=>by have h:=equalfHdr_any _ _ _ _ W (hf0.pres hp).1 (hg0.pres hp).1 (by have h:h1.length*40≤_:=hf0.2;omega) (fun x _ y _ w cs ds hI hJ=>sameHdr_any x y cs ds w hI hJ);rw[decide_eq_true rfl] at h;exact h
       have C1:Hid (∀ W,Pres w W→Cs 112 #[.slice ax1 m1.length cx1,.slice ay1 m1.length cy1] W fun e w'=>e=.returned (.bool true)∧Bl W w'):=fun W hp=>by have h:=equalFld_any _ _ _ _ W (hf1.pres hp).1 (hg1.pres hp).1 (by have h:m1.length*24≤_:=hf1.2;omega);rw[decide_eq_true rfl] at h;exact h
       have C2:Hid (∀ W,Pres w W→Cs 113 #[.slice ax2 s1.length cx2,.slice ay2 s1.length cy2,.func (.func 114) #[] #[]] W fun e w'=>e=.returned (.bool true)∧Bl W w'):=fun W hp=>by have h:=equalfSta_any _ _ _ _ W (hf2.pres hp).1 (hg2.pres hp).1 (by have h:s1.length*104≤_:=hf2.2;omega) (fun x _ y _ w cs ds hI hJ=>sameSta_any x y cs ds w hI hJ);rw[decide_eq_true rfl] at h;exact h
       have C3:Hid (∀ W,Pres w W→Cs 115 #[.slice ax3 k1.length cx3,.slice ay3 k1.length cy3,.func (.func 116) #[] #[]] W fun e w'=>e=.returned (.bool true)∧Bl W w'):=fun W hp=>by have h:=equalfAct_any _ _ _ _ W (hf3.pres hp).1 (hg3.pres hp).1 (by have h:k1.length*64≤_:=hf3.2;omega) (fun x _ y _ w cs ds hI hJ=>sameAct_any x y cs ds w hI hJ);rw[decide_eq_true rfl] at h;exact h
       have C4:Hid (∀ W,Pres w W→Cs 117 #[.slice ax4 t1.length cx4,.slice ay4 t1.length cy4,.func (.func 118) #[] #[]] W fun e w'=>e=.returned (.bool true)∧Bl W w'):=fun W hp=>by have h:=equalfTbl_any _ _ _ _ W (hf4.pres hp).1 (hg4.pres hp).1 (by have h:t1.length*120≤_:=hf4.2;omega) (fun x _ y _ w cs ds hI hJ=>sameTbl_any x y cs ds w hI hJ);rw[decide_eq_true rfl] at h;exact h
       have C5:Hid (∀ W,Pres w W→Cs 119 #[.slice ax5 g1.length cx5,.slice ay5 g2.length cy5,.func (.func 120) #[] #[]] W fun e w'=>e=.returned (.bool false)∧Bl W w'):=fun W hp=>by have h:=equalfStg_any _ _ _ _ W (stgRow_row (hf5.pres hp)).1 (stgRow_row (hg5.pres hp)).1 (by have h:g1.length*176≤_:=(stgRow_row hf5).2;omega) (fun x _ y _ w cs ds hI hJ=>sameStg_all _ x y (Nat.le_refl _) cs ds w hI hJ);rw[decide_eq_false hz5] at h;exact h
       have HB0:=hstart2 w 34 #[.slice ax0 h1.length cx0,.slice ax1 m1.length cx1,.slice ax2 s1.length cx2,.slice ax3 k1.length cx3,.slice ax4 t1.length cx4,.slice ax5 g1.length cx5] #[.slice ay0 h1.length cy0,.slice ay1 m1.length cy1,.slice ay2 s1.length cy2,.slice ay3 k1.length cy3,.slice ay4 t1.length cy4,.slice ay5 g2.length cy5]
       clear hf0 hg0 hf1 hg1 hf2 hg2 hf3 hg3 hf4 hg4 hf5 hg5
       clear hz5
       go_enter Tryz.func30,Tryz.ntmps30
       go_upto_region 1 with fail
       generalize ((w.alloc _).alloc _)=W0 at HB0 ⊢
       obtain⟨pp0,pp1,pp2,pp3,pp4,pp5⟩:=HB0.out.one.c6
       obtain⟨qq0,qq1,qq2,qq3,qq4,qq5⟩:=HB0.out.two.c6
       go_wp2_with fail
       refine(C0.out _ (pres_below HB0.out.below)).mono ?_
       rintro e V0 ⟨rfl,hb0⟩
       have HB1:=hkeep2 HB0 hb0
       clear hb0 HB0 pp0 pp1 pp2 pp3 pp4 pp5 qq0 qq1 qq2 qq3 qq4 qq5
       obtain⟨pp0,pp1,pp2,pp3,pp4,pp5⟩:=HB1.out.one.c6
       obtain⟨qq0,qq1,qq2,qq3,qq4,qq5⟩:=HB1.out.two.c6
       go_wp2_with fail
       refine(C1.out _ (pres_below HB1.out.below)).mono ?_
       rintro e V1 ⟨rfl,hb1⟩
       have HB2:=hkeep2 HB1 hb1
       clear hb1 HB1 pp0 pp1 pp2 pp3 pp4 pp5 qq0 qq1 qq2 qq3 qq4 qq5
       obtain⟨pp0,pp1,pp2,pp3,pp4,pp5⟩:=HB2.out.one.c6
       obtain⟨qq0,qq1,qq2,qq3,qq4,qq5⟩:=HB2.out.two.c6
       go_wp2_with fail
       refine(C2.out _ (pres_below HB2.out.below)).mono ?_
       rintro e V2 ⟨rfl,hb2⟩
       have HB3:=hkeep2 HB2 hb2
       clear hb2 HB2 pp0 pp1 pp2 pp3 pp4 pp5 qq0 qq1 qq2 qq3 qq4 qq5
       obtain⟨pp0,pp1,pp2,pp3,pp4,pp5⟩:=HB3.out.one.c6
       obtain⟨qq0,qq1,qq2,qq3,qq4,qq5⟩:=HB3.out.two.c6
       go_wp2_with fail
       refine(C3.out _ (pres_below HB3.out.below)).mono ?_
       rintro e V3 ⟨rfl,hb3⟩
       have HB4:=hkeep2 HB3 hb3
       clear hb3 HB3 pp0 pp1 pp2 pp3 pp4 pp5 qq0 qq1 qq2 qq3 qq4 qq5
       obtain⟨pp0,pp1,pp2,pp3,pp4,pp5⟩:=HB4.out.one.c6
       obtain⟨qq0,qq1,qq2,qq3,qq4,qq5⟩:=HB4.out.two.c6
       go_wp2_with fail
       refine(C4.out _ (pres_below HB4.out.below)).mono ?_
       rintro e V4 ⟨rfl,hb4⟩
       have HB5:=hkeep2 HB4 hb4
       clear hb4 HB4 pp0 pp1 pp2 pp3 pp4 pp5 qq0 qq1 qq2 qq3 qq4 qq5
       obtain⟨pp0,pp1,pp2,pp3,pp4,pp5⟩:=HB5.out.one.c6
       obtain⟨qq0,qq1,qq2,qq3,qq4,qq5⟩:=HB5.out.two.c6
       go_wp2_with fail
       refine(C5.out _ (pres_below HB5.out.below)).mono ?_
       rintro e V5 ⟨rfl,hb5⟩
       have HB6:=hkeep2 HB5 hb5
       clear hb5 HB5 pp0 pp1 pp2 pp3 pp4 pp5 qq0 qq1 qq2 qq3 qq4 qq5
       obtain⟨pp0,pp1,pp2,pp3,pp4,pp5⟩:=HB6.out.one.c6
       obtain⟨qq0,qq1,qq2,qq3,qq4,qq5⟩:=HB6.out.two.c6
       go_wp2
       go_ret
       exact⟨by rw[E.out];rfl,HB6.out.below⟩
     ·have E:Hid (decide ((⟨h1,m1,s1,k1,t1,g1⟩:Sch)=⟨h1,m1,s1,k1,t2,g2⟩)=false):=decide_eq_false (fun h=>hz4 (by cases h;rfl))
      have C0:Hid (∀ W,Pres w W→Cs 110 #[.slice ax0 h1.length cx0,.slice ay0 h1.length cy0,.func (.func 111) #[] #[]] W fun e w'=>e=.returned (.bool true)∧Bl W w'):=fun W hp=>by have h:=equalfHdr_any _ _ _ _ W (hf0.pres hp).1 (hg0.pres hp).1 (by have h:h1.length*40≤_:=hf0.2;omega) (fun x _ y _ w cs ds hI hJ=>sameHdr_any x y cs ds w hI hJ);rw[decide_eq_true rfl] at h;exact h
      have C1:Hid (∀ W,Pres w W→Cs 112 #[.slice ax1 m1.length cx1,.slice ay1 m1.length cy1] W fun e w'=>e=.returned (.bool true)∧Bl W w'):=fun W hp=>by have h:=equalFld_any _ _ _ _ W (hf1.pres hp).1 (hg1.pres hp).1 (by have h:m1.length*24≤_:=hf1.2;omega);rw[decide_eq_true rfl] at h;exact h
      have C2:Hid (∀ W,Pres w W→Cs 113 #[.slice ax2 s1.length cx2,.slice ay2 s1.length cy2,.func (.func 114) #[] #[]] W fun e w'=>e=.returned (.bool true)∧Bl W w'):=fun W hp=>by have h:=equalfSta_any _ _ _ _ W (hf2.pres hp).1 (hg2.pres hp).1 (by have h:s1.length*104≤_:=hf2.2;omega) (fun x _ y _ w cs ds hI hJ=>sameSta_any x y cs ds w hI hJ);rw[decide_eq_true rfl] at h;exact h
      have C3:Hid (∀ W,Pres w W→Cs 115 #[.slice ax3 k1.length cx3,.slice ay3 k1.length cy3,.func (.func 116) #[] #[]] W fun e w'=>e=.returned (.bool true)∧Bl W w'):=fun W hp=>by have h:=equalfAct_any _ _ _ _ W (hf3.pres hp).1 (hg3.pres hp).1 (by have h:k1.length*64≤_:=hf3.2;omega) (fun x _ y _ w cs ds hI hJ=>sameAct_any x y cs ds w hI hJ);rw[decide_eq_true rfl] at h;exact h
      have C4:Hid (∀ W,Pres w W→Cs 117 #[.slice ax4 t1.length cx4,.slice ay4 t2.length cy4,.func (.func 118) #[] #[]] W fun e w'=>e=.returned (.bool false)∧Bl W w'):=fun W hp=>by have h:=equalfTbl_any _ _ _ _ W (hf4.pres hp).1 (hg4.pres hp).1 (by have h:t1.length*120≤_:=hf4.2;omega) (fun x _ y _ w cs ds hI hJ=>sameTbl_any x y cs ds w hI hJ);rw[decide_eq_false hz4] at h;exact h
      have HB0:=hstart2 w 34 #[.slice ax0 h1.length cx0,.slice ax1 m1.length cx1,.slice ax2 s1.length cx2,.slice ax3 k1.length cx3,.slice ax4 t1.length cx4,.slice ax5 g1.length cx5] #[.slice ay0 h1.length cy0,.slice ay1 m1.length cy1,.slice ay2 s1.length cy2,.slice ay3 k1.length cy3,.slice ay4 t2.length cy4,.slice ay5 g2.length cy5]
      clear hf0 hg0 hf1 hg1 hf2 hg2 hf3 hg3 hf4 hg4 hf5 hg5
      clear hz4
      go_enter Tryz.func30,Tryz.ntmps30
      go_upto_region 1 with fail
      generalize ((w.alloc _).alloc _)=W0 at HB0 ⊢
      obtain⟨pp0,pp1,pp2,pp3,pp4,pp5⟩:=HB0.out.one.c6
      obtain⟨qq0,qq1,qq2,qq3,qq4,qq5⟩:=HB0.out.two.c6
      go_wp2_with fail
      refine(C0.out _ (pres_below HB0.out.below)).mono ?_
      rintro e V0 ⟨rfl,hb0⟩
      have HB1:=hkeep2 HB0 hb0
      clear hb0 HB0 pp0 pp1 pp2 pp3 pp4 pp5 qq0 qq1 qq2 qq3 qq4 qq5
      obtain⟨pp0,pp1,pp2,pp3,pp4,pp5⟩:=HB1.out.one.c6
      obtain⟨qq0,qq1,qq2,qq3,qq4,qq5⟩:=HB1.out.two.c6
      go_wp2_with fail
      refine(C1.out _ (pres_below HB1.out.below)).mono ?_
      rintro e V1 ⟨rfl,hb1⟩
      have HB2:=hkeep2 HB1 hb1
      clear hb1 HB1 pp0 pp1 pp2 pp3 pp4 pp5 qq0 qq1 qq2 qq3 qq4 qq5
      obtain⟨pp0,pp1,pp2,pp3,pp4,pp5⟩:=HB2.out.one.c6
      obtain⟨qq0,qq1,qq2,qq3,qq4,qq5⟩:=HB2.out.two.c6
      go_wp2_with fail
      refine(C2.out _ (pres_below HB2.out.below)).mono ?_
      rintro e V2 ⟨rfl,hb2⟩
      have HB3:=hkeep2 HB2 hb2
      clear hb2 HB2 pp0 pp1 pp2 pp3 pp4 pp5 qq0 qq1 qq2 qq3 qq4 qq5
      obtain⟨pp0,pp1,pp2,pp3,pp4,pp5⟩:=HB3.out.one.c6
      obtain⟨qq0,qq1,qq2,qq3,qq4,qq5⟩:=HB3.out.two.c6
      go_wp2_with fail
      refine(C3.out _ (pres_below HB3.out.below)).mono ?_
      rintro e V3 ⟨rfl,hb3⟩
      have HB4:=hkeep2 HB3 hb3
      clear hb3 HB3 pp0 pp1 pp2 pp3 pp4 pp5 qq0 qq1 qq2 qq3 qq4 qq5
      obtain⟨pp0,pp1,pp2,pp3,pp4,pp5⟩:=HB4.out.one.c6
      obtain⟨qq0,qq1,qq2,qq3,qq4,qq5⟩:=HB4.out.two.c6
      go_wp2_with fail
      refine(C4.out _ (pres_below HB4.out.below)).mono ?_
      rintro e V4 ⟨rfl,hb4⟩
      have HB5:=hkeep2 HB4 hb4
      clear hb4 HB4 pp0 pp1 pp2 pp3 pp4 pp5 qq0 qq1 qq2 qq3 qq4 qq5
      obtain⟨pp0,pp1,pp2,pp3,pp4,pp5⟩:=HB5.out.one.c6
      obtain⟨qq0,qq1,qq2,qq3,qq4,qq5⟩:=HB5.out.two.c6
      go_wp2
      go_ret
      exact⟨by rw[E.out];rfl,HB5.out.below⟩
    ·have E:Hid (decide ((⟨h1,m1,s1,k1,t1,g1⟩:Sch)=⟨h1,m1,s1,k2,t2,g2⟩)=false):=decide_eq_false (fun h=>hz3 (by cases h;rfl))
     have C0:Hid (∀ W,Pres w W→Cs 110 #[.slice ax0 h1.length cx0,.slice ay0 h1.length cy0,.func (.func 111) #[] #[]] W fun e w'=>e=.returned (.bool true)∧Bl W w'):=fun W hp=>by have h:=equalfHdr_any _ _ _ _ W (hf0.pres hp).1 (hg0.pres hp).1 (by have h:h1.length*40≤_:=hf0.2;omega) (fun x _ y _ w cs ds hI hJ=>sameHdr_any x y cs ds w hI hJ);rw[decide_eq_true rfl] at h;exact h
     have C1:Hid (∀ W,Pres w W→Cs 112 #[.slice ax1 m1.length cx1,.slice ay1 m1.length cy1] W fun e w'=>e=.returned (.bool true)∧Bl W w'):=fun W hp=>by have h:=equalFld_any _ _ _ _ W (hf1.pres hp).1 (hg1.pres hp).1 (by have h:m1.length*24≤_:=hf1.2;omega);rw[decide_eq_true rfl] at h;exact h
     have C2:Hid (∀ W,Pres w W→Cs 113 #[.slice ax2 s1.length cx2,.slice ay2 s1.length cy2,.func (.func 114) #[] #[]] W fun e w'=>e=.returned (.bool true)∧Bl W w'):=fun W hp=>by have h:=equalfSta_any _ _ _ _ W (hf2.pres hp).1 (hg2.pres hp).1 (by have h:s1.length*104≤_:=hf2.2;omega) (fun x _ y _ w cs ds hI hJ=>sameSta_any x y cs ds w hI hJ);rw[decide_eq_true rfl] at h;exact h
     have C3:Hid (∀ W,Pres w W→Cs 115 #[.slice ax3 k1.length cx3,.slice ay3 k2.length cy3,.func (.func 116) #[] #[]] W fun e w'=>e=.returned (.bool false)∧Bl W w'):=fun W hp=>by have h:=equalfAct_any _ _ _ _ W (hf3.pres hp).1 (hg3.pres hp).1 (by have h:k1.length*64≤_:=hf3.2;omega) (fun x _ y _ w cs ds hI hJ=>sameAct_any x y cs ds w hI hJ);rw[decide_eq_false hz3] at h;exact h
     have HB0:=hstart2 w 34 #[.slice ax0 h1.length cx0,.slice ax1 m1.length cx1,.slice ax2 s1.length cx2,.slice ax3 k1.length cx3,.slice ax4 t1.length cx4,.slice ax5 g1.length cx5] #[.slice ay0 h1.length cy0,.slice ay1 m1.length cy1,.slice ay2 s1.length cy2,.slice ay3 k2.length cy3,.slice ay4 t2.length cy4,.slice ay5 g2.length cy5]
     clear hf0 hg0 hf1 hg1 hf2 hg2 hf3 hg3 hf4 hg4 hf5 hg5
     clear hz3
     go_enter Tryz.func30,Tryz.ntmps30
     go_upto_region 1 with fail
     generalize ((w.alloc _).alloc _)=W0 at HB0 ⊢
     obtain⟨pp0,pp1,pp2,pp3,pp4,pp5⟩:=HB0.out.one.c6
     obtain⟨qq0,qq1,qq2,qq3,qq4,qq5⟩:=HB0.out.two.c6
     go_wp2_with fail
     refine(C0.out _ (pres_below HB0.out.below)).mono ?_
     rintro e V0 ⟨rfl,hb0⟩
     have HB1:=hkeep2 HB0 hb0
     clear hb0 HB0 pp0 pp1 pp2 pp3 pp4 pp5 qq0 qq1 qq2 qq3 qq4 qq5
     obtain⟨pp0,pp1,pp2,pp3,pp4,pp5⟩:=HB1.out.one.c6
     obtain⟨qq0,qq1,qq2,qq3,qq4,qq5⟩:=HB1.out.two.c6
     go_wp2_with fail
     refine(C1.out _ (pres_below HB1.out.below)).mono ?_
     rintro e V1 ⟨rfl,hb1⟩
     have HB2:=hkeep2 HB1 hb1
     clear hb1 HB1 pp0 pp1 pp2 pp3 pp4 pp5 qq0 qq1 qq2 qq3 qq4 qq5
     obtain⟨pp0,pp1,pp2,pp3,pp4,pp5⟩:=HB2.out.one.c6
     obtain⟨qq0,qq1,qq2,qq3,qq4,qq5⟩:=HB2.out.two.c6
     go_wp2_with fail
     refine(C2.out _ (pres_below HB2.out.below)).mono ?_
     rintro e V2 ⟨rfl,hb2⟩
     have HB3:=hkeep2 HB2 hb2
     clear hb2 HB2 pp0 pp1 pp2 pp3 pp4 pp5 qq0 qq1 qq2 qq3 qq4 qq5
     obtain⟨pp0,pp1,pp2,pp3,pp4,pp5⟩:=HB3.out.one.c6
     obtain⟨qq0,qq1,qq2,qq3,qq4,qq5⟩:=HB3.out.two.c6
     go_wp2_with fail
     refine(C3.out _ (pres_below HB3.out.below)).mono ?_
     rintro e V3 ⟨rfl,hb3⟩
     have HB4:=hkeep2 HB3 hb3
     clear hb3 HB3 pp0 pp1 pp2 pp3 pp4 pp5 qq0 qq1 qq2 qq3 qq4 qq5
     obtain⟨pp0,pp1,pp2,pp3,pp4,pp5⟩:=HB4.out.one.c6
     obtain⟨qq0,qq1,qq2,qq3,qq4,qq5⟩:=HB4.out.two.c6
     go_wp2
     go_ret
     exact⟨by rw[E.out];rfl,HB4.out.below⟩
   ·have E:Hid (decide ((⟨h1,m1,s1,k1,t1,g1⟩:Sch)=⟨h1,m1,s2,k2,t2,g2⟩)=false):=decide_eq_false (fun h=>hz2 (by cases h;rfl))
    have C0:Hid (∀ W,Pres w W→Cs 110 #[.slice ax0 h1.length cx0,.slice ay0 h1.length cy0,.func (.func 111) #[] #[]] W fun e w'=>e=.returned (.bool true)∧Bl W w'):=fun W hp=>by have h:=equalfHdr_any _ _ _ _ W (hf0.pres hp).1 (hg0.pres hp).1 (by have h:h1.length*40≤_:=hf0.2;omega) (fun x _ y _ w cs ds hI hJ=>sameHdr_any x y cs ds w hI hJ);rw[decide_eq_true rfl] at h;exact h
    have C1:Hid (∀ W,Pres w W→Cs 112 #[.slice ax1 m1.length cx1,.slice ay1 m1.length cy1] W fun e w'=>e=.returned (.bool true)∧Bl W w'):=fun W hp=>by have h:=equalFld_any _ _ _ _ W (hf1.pres hp).1 (hg1.pres hp).1 (by have h:m1.length*24≤_:=hf1.2;omega);rw[decide_eq_true rfl] at h;exact h
    have C2:Hid (∀ W,Pres w W→Cs 113 #[.slice ax2 s1.length cx2,.slice ay2 s2.length cy2,.func (.func 114) #[] #[]] W fun e w'=>e=.returned (.bool false)∧Bl W w'):=fun W hp=>by have h:=equalfSta_any _ _ _ _ W (hf2.pres hp).1 (hg2.pres hp).1 (by have h:s1.length*104≤_:=hf2.2;omega) (fun x _ y _ w cs ds hI hJ=>sameSta_any x y cs ds w hI hJ);rw[decide_eq_false hz2] at h;exact h
    have HB0:=hstart2 w 34 #[.slice ax0 h1.length cx0,.slice ax1 m1.length cx1,.slice ax2 s1.length cx2,.slice ax3 k1.length cx3,.slice ax4 t1.length cx4,.slice ax5 g1.length cx5] #[.slice ay0 h1.length cy0,.slice ay1 m1.length cy1,.slice ay2 s2.length cy2,.slice ay3 k2.length cy3,.slice ay4 t2.length cy4,.slice ay5 g2.length cy5]
    clear hf0 hg0 hf1 hg1 hf2 hg2 hf3 hg3 hf4 hg4 hf5 hg5
    clear hz2
    go_enter Tryz.func30,Tryz.ntmps30
    go_upto_region 1 with fail
    generalize ((w.alloc _).alloc _)=W0 at HB0 ⊢
    obtain⟨pp0,pp1,pp2,pp3,pp4,pp5⟩:=HB0.out.one.c6
    obtain⟨qq0,qq1,qq2,qq3,qq4,qq5⟩:=HB0.out.two.c6
    go_wp2_with fail
    refine(C0.out _ (pres_below HB0.out.below)).mono ?_
    rintro e V0 ⟨rfl,hb0⟩
    have HB1:=hkeep2 HB0 hb0
    clear hb0 HB0 pp0 pp1 pp2 pp3 pp4 pp5 qq0 qq1 qq2 qq3 qq4 qq5
    obtain⟨pp0,pp1,pp2,pp3,pp4,pp5⟩:=HB1.out.one.c6
    obtain⟨qq0,qq1,qq2,qq3,qq4,qq5⟩:=HB1.out.two.c6
    go_wp2_with fail
    refine(C1.out _ (pres_below HB1.out.below)).mono ?_
    rintro e V1 ⟨rfl,hb1⟩
    have HB2:=hkeep2 HB1 hb1
    clear hb1 HB1 pp0 pp1 pp2 pp3 pp4 pp5 qq0 qq1 qq2 qq3 qq4 qq5
    obtain⟨pp0,pp1,pp2,pp3,pp4,pp5⟩:=HB2.out.one.c6
    obtain⟨qq0,qq1,qq2,qq3,qq4,qq5⟩:=HB2.out.two.c6
    go_wp2_with fail
    refine(C2.out _ (pres_below HB2.out.below)).mono ?_
    rintro e V2 ⟨rfl,hb2⟩
    have HB3:=hkeep2 HB2 hb2
    clear hb2 HB2 pp0 pp1 pp2 pp3 pp4 pp5 qq0 qq1 qq2 qq3 qq4 qq5
    obtain⟨pp0,pp1,pp2,pp3,pp4,pp5⟩:=HB3.out.one.c6
    obtain⟨qq0,qq1,qq2,qq3,qq4,qq5⟩:=HB3.out.two.c6
    go_wp2
    go_ret
    exact⟨by rw[E.out];rfl,HB3.out.below⟩
  ·have E:Hid (decide ((⟨h1,m1,s1,k1,t1,g1⟩:Sch)=⟨h1,m2,s2,k2,t2,g2⟩)=false):=decide_eq_false (fun h=>hz1 (by cases h;rfl))
   have C0:Hid (∀ W,Pres w W→Cs 110 #[.slice ax0 h1.length cx0,.slice ay0 h1.length cy0,.func (.func 111) #[] #[]] W fun e w'=>e=.returned (.bool true)∧Bl W w'):=fun W hp=>by have h:=equalfHdr_any _ _ _ _ W (hf0.pres hp).1 (hg0.pres hp).1 (by have h:h1.length*40≤_:=hf0.2;omega) (fun x _ y _ w cs ds hI hJ=>sameHdr_any x y cs ds w hI hJ);rw[decide_eq_true rfl] at h;exact h
   have C1:Hid (∀ W,Pres w W→Cs 112 #[.slice ax1 m1.length cx1,.slice ay1 m2.length cy1] W fun e w'=>e=.returned (.bool false)∧Bl W w'):=fun W hp=>by have h:=equalFld_any _ _ _ _ W (hf1.pres hp).1 (hg1.pres hp).1 (by have h:m1.length*24≤_:=hf1.2;omega);rw[decide_eq_false hz1] at h;exact h
   have HB0:=hstart2 w 34 #[.slice ax0 h1.length cx0,.slice ax1 m1.length cx1,.slice ax2 s1.length cx2,.slice ax3 k1.length cx3,.slice ax4 t1.length cx4,.slice ax5 g1.length cx5] #[.slice ay0 h1.length cy0,.slice ay1 m2.length cy1,.slice ay2 s2.length cy2,.slice ay3 k2.length cy3,.slice ay4 t2.length cy4,.slice ay5 g2.length cy5]
   clear hf0 hg0 hf1 hg1 hf2 hg2 hf3 hg3 hf4 hg4 hf5 hg5
   clear hz1
   go_enter Tryz.func30,Tryz.ntmps30
   go_upto_region 1 with fail
   generalize ((w.alloc _).alloc _)=W0 at HB0 ⊢
   obtain⟨pp0,pp1,pp2,pp3,pp4,pp5⟩:=HB0.out.one.c6
   obtain⟨qq0,qq1,qq2,qq3,qq4,qq5⟩:=HB0.out.two.c6
   go_wp2_with fail
   refine(C0.out _ (pres_below HB0.out.below)).mono ?_
   rintro e V0 ⟨rfl,hb0⟩
   have HB1:=hkeep2 HB0 hb0
   clear hb0 HB0 pp0 pp1 pp2 pp3 pp4 pp5 qq0 qq1 qq2 qq3 qq4 qq5
   obtain⟨pp0,pp1,pp2,pp3,pp4,pp5⟩:=HB1.out.one.c6
   obtain⟨qq0,qq1,qq2,qq3,qq4,qq5⟩:=HB1.out.two.c6
   go_wp2_with fail
   refine(C1.out _ (pres_below HB1.out.below)).mono ?_
   rintro e V1 ⟨rfl,hb1⟩
   have HB2:=hkeep2 HB1 hb1
   clear hb1 HB1 pp0 pp1 pp2 pp3 pp4 pp5 qq0 qq1 qq2 qq3 qq4 qq5
   obtain⟨pp0,pp1,pp2,pp3,pp4,pp5⟩:=HB2.out.one.c6
   obtain⟨qq0,qq1,qq2,qq3,qq4,qq5⟩:=HB2.out.two.c6
   go_wp2
   go_ret
   exact⟨by rw[E.out];rfl,HB2.out.below⟩
 ·have E:Hid (decide ((⟨h1,m1,s1,k1,t1,g1⟩:Sch)=⟨h2,m2,s2,k2,t2,g2⟩)=false):=decide_eq_false (fun h=>hz0 (by cases h;rfl))
  have C0:Hid (∀ W,Pres w W→Cs 110 #[.slice ax0 h1.length cx0,.slice ay0 h2.length cy0,.func (.func 111) #[] #[]] W fun e w'=>e=.returned (.bool false)∧Bl W w'):=fun W hp=>by have h:=equalfHdr_any _ _ _ _ W (hf0.pres hp).1 (hg0.pres hp).1 (by have h:h1.length*40≤_:=hf0.2;omega) (fun x _ y _ w cs ds hI hJ=>sameHdr_any x y cs ds w hI hJ);rw[decide_eq_false hz0] at h;exact h
  have HB0:=hstart2 w 34 #[.slice ax0 h1.length cx0,.slice ax1 m1.length cx1,.slice ax2 s1.length cx2,.slice ax3 k1.length cx3,.slice ax4 t1.length cx4,.slice ax5 g1.length cx5] #[.slice ay0 h2.length cy0,.slice ay1 m2.length cy1,.slice ay2 s2.length cy2,.slice ay3 k2.length cy3,.slice ay4 t2.length cy4,.slice ay5 g2.length cy5]
  clear hf0 hg0 hf1 hg1 hf2 hg2 hf3 hg3 hf4 hg4 hf5 hg5
  clear hz0
  go_enter Tryz.func30,Tryz.ntmps30
  go_upto_region 1 with fail
  generalize ((w.alloc _).alloc _)=W0 at HB0 ⊢
  obtain⟨pp0,pp1,pp2,pp3,pp4,pp5⟩:=HB0.out.one.c6
  obtain⟨qq0,qq1,qq2,qq3,qq4,qq5⟩:=HB0.out.two.c6
  go_wp2_with fail
  refine(C0.out _ (pres_below HB0.out.below)).mono ?_
  rintro e V0 ⟨rfl,hb0⟩
  have HB1:=hkeep2 HB0 hb0
  clear hb0 HB0 pp0 pp1 pp2 pp3 pp4 pp5 qq0 qq1 qq2 qq3 qq4 qq5
  obtain⟨pp0,pp1,pp2,pp3,pp4,pp5⟩:=HB1.out.one.c6
  obtain⟨qq0,qq1,qq2,qq3,qq4,qq5⟩:=HB1.out.two.c6
  go_wp2
  go_ret
  exact⟨by rw[E.out];rfl,HB1.out.below⟩
end Go.Proofs.YtmbpclknhkbbkaaGreat
