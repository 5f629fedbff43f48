/- Package schema: slices. -/
import Derived.Test.YtmbpclknhkbbkaaGreatB33
set_option linter.unusedSimpArgs false
set_option linter.unusedVariables false
set_option maxHeartbeats 2000000
set_option maxRecDepth 100000
namespace Go.Proofs.YtmbpclknhkbbkaaGreat
open Go.RowKit
theorem fsz127:(Tryz.prog.info? 127).map (·.size)=some 13:=by kernel_rfl
theorem equalfStg_any (v v':Value)(xs ys:List Stg)(w:World)(hr:Row 13 (fun w cs x=>StgIs w x cs) w v xs)(hr':Row 13 (fun w cs x=>StgIs w x cs) w v' ys)(hlen:xs.length≤140737488351232)(hc:SameOk 120 (fun w cs x=>StgIs w x cs) xs ys):
  Calls Tryz.prog 119 #[v,v',.func (.func 120) #[] #[]] w fun e w'=>e=.returned (.bool (decide (xs=ys)))∧Below w.heap.size w w':=by
 obtain⟨a1,c1,rfl,h1⟩:=hr.slice
 obtain⟨a2,c2,rfl,h2⟩:=hr'.slice
 by_cases hne:¬ xs.length=ys.length
 ·have e:decide (xs=ys)=false:=by rw[decide_eq_false_iff_not];intro h;exact hne (by rw[h])
  rw[e]
  have hne':¬((xs.length:Int)=(ys.length:Int)):=by omega
  clear hr hr' h1 h2 e hc
  go_enter Tryz.func119,Tryz.ntmps119
  go_wp2
  go_ret
  exact⟨rfl,Below.refl _ _⟩
 have hne:=Classical.not_not.1 hne
 have HR:Hid (Row 13 (fun w cs x=>StgIs w x cs) w (.slice a1 xs.length c1) xs):=hr
 have HS:Hid (Row 13 (fun w cs x=>StgIs w x cs) w (.slice a2 ys.length c2) ys):=hr'
 have HC:Hid (SameOk 120 (fun w cs x=>StgIs w x cs) xs ys):=hc
 obtain⟨n,hn⟩:∃ n,n=xs.length:=⟨_,rfl⟩
 have HL:Hid (n=xs.length∧n=ys.length):=⟨hn,by omega⟩
 rw[← hne] at HS ⊢
 rw[← hn] at HR HS hlen ⊢
 clear hr hr' h1 h2 hn hne hc
 go_enter Tryz.func119,Tryz.ntmps119
 go_wp2_with fail
 go_loopw [17] (fun i wr=>∃ k:Nat,k≤n∧i=.int .i64 k∧decide (xs=ys)=decide (xs.drop k=ys.drop k)∧Below w.heap.size w wr) (fun i _=>n - (intOf i).toNat)
 case atStart=>exact⟨0,by omega,rfl,by simp,Below.refl _ _⟩
 case round=>
  obtain⟨k,hk,rfl,hd,hb⟩:=hrel
  by_cases hlt:k<n
  ·obtain⟨x,hx⟩:=gE HL.out.1 hlt
   obtain⟨y,hy⟩:=gE HL.out.2 hlt
   obtain⟨b,o,⟨cl⟩,rfl,hsx,hx1,hIx⟩:=HR.out.at hx
   obtain⟨b2,o2,⟨dl⟩,rfl,hsy,hy1,hIy⟩:=HS.out.at hy
   have hcs:cl.length=13:=hsx
   have hds:dl.length=13:=hsy
   have hz1:(Tryz.prog.info? 127).map (·.size)=some cl.length:=by rw[hcs];exact fsz127
   have hz2:(Tryz.prog.info? 127).map (·.size)=some dl.length:=by rw[hds];exact fsz127
   have HP:Hid ((fun w cs x=>StgIs w x cs) w cl.toArray x∧(fun w cs x=>StgIs w x cs) w dl.toArray y∧x ∈ xs∧y ∈ ys):=⟨hIx,hIy,List.mem_of_getElem? hx,List.mem_of_getElem? hy⟩
   have HD:Hid (decide (xs=ys)=(decide (x=y)&&decide (xs.drop (k+1)=ys.drop (k+1)))):=by
    have e:=drop_step hx hy
    show decide (xs=ys)=_
    rw[hd,e]
   have HB:Hid (Bl w wr):=hb
   have R1:Hid (wr.rangeAt b (o+k*13) cl):=fun j u hu=>pres_below hb _ _ (hx1 j u (by simpa using hu))
   have R2:Hid (w.rangeAt b2 (o2+k*13) dl):=fun j u hu=>(hy1 j u (by simpa using hu))
   have ST:Hid ((wr.alloc (.cells #[.int .i64 0,.string ⟨#[]⟩,.int .i64 0,.string ⟨#[]⟩,.string ⟨#[]⟩,.int .u64 0,.int .u64 0,.string ⟨#[]⟩,.string ⟨#[]⟩,.int .u64 0,.int .u64 0,.slice none 0 0,.slice none 0 0] 127)).there wr.heap.size 0 cl.toArray.size):=there_new wr #[.int .i64 0,.string ⟨#[]⟩,.int .i64 0,.string ⟨#[]⟩,.string ⟨#[]⟩,.int .u64 0,.int .u64 0,.string ⟨#[]⟩,.string ⟨#[]⟩,.int .u64 0,.int .u64 0,.slice none 0 0,.slice none 0 0] 127 (by simp[hcs])
   have ON1:Hid (cl.toArray.all (·.oneCell')=true):=stg_good.one hIx
   have ON2:Hid (dl.toArray.all (·.oneCell')=true):=stg_good.one hIy
   have H1:Hid (Below w.heap.size w ((wr.alloc (.cells #[.int .i64 0,.string ⟨#[]⟩,.int .i64 0,.string ⟨#[]⟩,.string ⟨#[]⟩,.int .u64 0,.int .u64 0,.string ⟨#[]⟩,.string ⟨#[]⟩,.int .u64 0,.int .u64 0,.slice none 0 0,.slice none 0 0] 127)).setCells wr.heap.size 0 cl)∧((wr.alloc (.cells #[.int .i64 0,.string ⟨#[]⟩,.int .i64 0,.string ⟨#[]⟩,.string ⟨#[]⟩,.int .u64 0,.int .u64 0,.string ⟨#[]⟩,.string ⟨#[]⟩,.int .u64 0,.int .u64 0,.slice none 0 0,.slice none 0 0] 127)).setCells wr.heap.size 0 cl).rangeAt wr.heap.size 0 cl):=
    ⟨below_setCells (hb.alloc hb.size _) hb.size _ _,World.rangeAt_setCells_same _ _ _ _ (there_new wr #[.int .i64 0,.string ⟨#[]⟩,.int .i64 0,.string ⟨#[]⟩,.string ⟨#[]⟩,.int .u64 0,.int .u64 0,.string ⟨#[]⟩,.string ⟨#[]⟩,.int .u64 0,.int .u64 0,.slice none 0 0,.slice none 0 0] 127 (by simp[hcs]))⟩
   clear hd hb hx1 hy1 hx hy hIx hIy hsx hsy
   go_upto_region 6 with(first|(refine wpList_load_mid rfl 127 _ rfl b (o+k*13) rfl cl _ R1.out Tryz.underlying127 rfl hz1 ?_)|(refine wpList_store_mid rfl 127 _ _ rfl wr.heap.size 0 cl.toArray rfl rfl ST.out (by rw[List.size_toArray];exact hz1) ON1.out ?_))
   generalize ((wr.alloc (.cells #[.int .i64 0,.string ⟨#[]⟩,.int .i64 0,.string ⟨#[]⟩,.string ⟨#[]⟩,.int .u64 0,.int .u64 0,.string ⟨#[]⟩,.string ⟨#[]⟩,.int .u64 0,.int .u64 0,.slice none 0 0,.slice none 0 0] 127)).setCells wr.heap.size 0 cl)=W1 at H1 ⊢
   have ST2:Hid ((W1.alloc (.cells #[.int .i64 0,.string ⟨#[]⟩,.int .i64 0,.string ⟨#[]⟩,.string ⟨#[]⟩,.int .u64 0,.int .u64 0,.string ⟨#[]⟩,.string ⟨#[]⟩,.int .u64 0,.int .u64 0,.slice none 0 0,.slice none 0 0] 127)).there W1.heap.size 0 dl.toArray.size):=there_new W1 #[.int .i64 0,.string ⟨#[]⟩,.int .i64 0,.string ⟨#[]⟩,.string ⟨#[]⟩,.int .u64 0,.int .u64 0,.string ⟨#[]⟩,.string ⟨#[]⟩,.int .u64 0,.int .u64 0,.slice none 0 0,.slice none 0 0] 127 (by simp[hds])
   have R3:Hid (W1.rangeAt b2 (o2+k*13) dl):=fun j u hu=>pres_below H1.out.1 _ _ (R2.out j u hu)
   have H2:Hid (Below w.heap.size w ((W1.alloc (.cells #[.int .i64 0,.string ⟨#[]⟩,.int .i64 0,.string ⟨#[]⟩,.string ⟨#[]⟩,.int .u64 0,.int .u64 0,.string ⟨#[]⟩,.string ⟨#[]⟩,.int .u64 0,.int .u64 0,.slice none 0 0,.slice none 0 0] 127)).setCells W1.heap.size 0 dl)∧((W1.alloc (.cells #[.int .i64 0,.string ⟨#[]⟩,.int .i64 0,.string ⟨#[]⟩,.string ⟨#[]⟩,.int .u64 0,.int .u64 0,.string ⟨#[]⟩,.string ⟨#[]⟩,.int .u64 0,.int .u64 0,.slice none 0 0,.slice none 0 0] 127)).setCells W1.heap.size 0 dl).rangeAt wr.heap.size 0 cl∧((W1.alloc (.cells #[.int .i64 0,.string ⟨#[]⟩,.int .i64 0,.string ⟨#[]⟩,.string ⟨#[]⟩,.int .u64 0,.int .u64 0,.string ⟨#[]⟩,.string ⟨#[]⟩,.int .u64 0,.int .u64 0,.slice none 0 0,.slice none 0 0] 127)).setCells W1.heap.size 0 dl).rangeAt W1.heap.size 0 dl):=
    ⟨below_setCells (H1.out.1.alloc H1.out.1.size _) H1.out.1.size _ _,fun j u hu=>pres_below (below_setCells ((Below.refl _ _).alloc (Nat.le_refl _) _) (Nat.le_refl _) _ _) _ _ (H1.out.2 j u hu),World.rangeAt_setCells_same _ _ _ _ (there_new W1 #[.int .i64 0,.string ⟨#[]⟩,.int .i64 0,.string ⟨#[]⟩,.string ⟨#[]⟩,.int .u64 0,.int .u64 0,.string ⟨#[]⟩,.string ⟨#[]⟩,.int .u64 0,.int .u64 0,.slice none 0 0,.slice none 0 0] 127 (by simp[hds]))⟩
   clear R1 ST R2 H1
   go_upto_region 7 with(first|(refine wpList_load_mid rfl 127 _ rfl b2 (o2+k*13) rfl dl _ R3.out Tryz.underlying127 rfl hz2 ?_)|(refine wpList_store_mid rfl 127 _ _ rfl W1.heap.size 0 dl.toArray rfl rfl ST2.out (by rw[List.size_toArray];exact hz2) ON2.out ?_))
   generalize ((W1.alloc (.cells #[.int .i64 0,.string ⟨#[]⟩,.int .i64 0,.string ⟨#[]⟩,.string ⟨#[]⟩,.int .u64 0,.int .u64 0,.string ⟨#[]⟩,.string ⟨#[]⟩,.int .u64 0,.int .u64 0,.slice none 0 0,.slice none 0 0] 127)).setCells W1.heap.size 0 dl)=W2 at H2 ⊢
   have C:Hid (Cs 120 #[.agg cl.toArray,.agg dl.toArray] W2 fun e w'=>e=.returned (.bool (decide (x=y)))∧Hid (Bl w w')):=by
    refine(HC.out x HP.out.2.2.1 y HP.out.2.2.2 W2 cl.toArray dl.toArray (stg_good.pres (pres_below H2.out.1) HP.out.1) (stg_good.pres (pres_below H2.out.1) HP.out.2.1)).mono ?_
    rintro e w' ⟨rfl,hb⟩
    exact⟨rfl,bst H2.out.1 hb (Nat.le_refl _)⟩
   generalize decide (x=y)=r at*
   clear R3 ST2 ON1 ON2
   have R4:Hid (W2.rangeAt wr.heap.size 0 cl):=H2.out.2.1
   have R5:Hid (W2.rangeAt W1.heap.size 0 dl):=H2.out.2.2
   clear H2
   go_wp2_with (first|(refine wpList_load_mid rfl 127 _ rfl wr.heap.size 0 rfl cl _ R4.out Tryz.underlying127 rfl hz1 ?_)|(refine wpList_load_mid rfl 127 _ rfl W1.heap.size 0 rfl dl _ R5.out Tryz.underlying127 rfl hz2 ?_))
   refine C.out.mono ?_
   rintro e W3 ⟨rfl,H3⟩
   clear C R4 R5 HB
   cases r
   ·go_wp2
    go_ret
    exact⟨by rw[HD.out];rfl,H3.out⟩
   ·go_wp2
    exact⟨⟨k+1,by omega,by go_num,by rw[HD.out,Bool.true_and],H3.out⟩,by simp only[intOf];omega⟩
  ·have e:k=n:=by omega
   subst e
   have HE:decide (xs=ys)=true:=by
    rw[hd,decide_eq_true_eq]
    have h1:=HL.out.1;have h2:=HL.out.2
    rw[List.drop_of_length_le (by omega),List.drop_of_length_le (by omega)]
   clear hd
   have HE:Hid (decide (xs=ys)=true):=HE
   go_wp2
   go_ret
   exact⟨by rw[HE.out];rfl,hb⟩
theorem sameStg_step (x y:Stg)(HC0:SameOk 120 (fun w cs x=>StgIs w x cs) x.thn y.thn)(HC1:SameOk 120 (fun w cs x=>StgIs w x cs) x.els y.els)(cs ds:Array Value)(w:World)(hI:StgIs w x cs)(hJ:StgIs w y ds):Calls Tryz.prog 120 #[.agg cs,.agg ds] w fun e w'=>e=.returned (.bool (decide (x=y)))∧Below w.heap.size w w':=by
 obtain⟨v0,v1,e1,_,hf0,hf1⟩:=((stgIs_iff _ _ _).1 hI)
 obtain⟨u0,u1,e2,_,hg0,hg1⟩:=((stgIs_iff _ _ _).1 hJ)
 obtain⟨ax0,cx0,rfl,_⟩:=hf0.slice
 obtain⟨ay0,cy0,rfl,_⟩:=hg0.slice
 obtain⟨ax1,cx1,rfl,_⟩:=hf1.slice
 obtain⟨ay1,cy1,rfl,_⟩:=hg1.slice
 clear hI hJ
 obtain⟨i1,n1,t1,g1,q1⟩:=x
 obtain⟨i2,n2,t2,g2,q2⟩:=y
 simp only[Stg.kind,Stg.table,Stg.test,Stg.thn,Stg.els] at*
 subst e1
 subst e2
 by_cases hz0:i1=i2
 ·subst hz0
  by_cases hz1:n1=n2
  ·subst hz1
   by_cases hz2:t1=t2
   ·subst hz2
    by_cases hz3:g1=g2
    ·subst hz3
     by_cases hz4:q1=q2
     ·subst hz4
      have E:Hid (decide ((.mk i1 n1 t1 g1 q1:Stg)=.mk i1 n1 t1 g1 q1)=true):=decide_eq_true rfl
      have hr2:∀ u:World,(binOp .eql 125 (.agg #[.int .i64 t1.kind,.string t1.a.ref.head,.string t1.a.ref.name,.int .u64 (hiOf t1.a.const),.int .u64 (loOf t1.a.const),.string t1.b.ref.head,.string t1.b.ref.name,.int .u64 (hiOf t1.b.const),.int .u64 (loOf t1.b.const)]) (.agg #[.int .i64 t1.kind,.string t1.a.ref.head,.string t1.a.ref.name,.int .u64 (hiOf t1.a.const),.int .u64 (loOf t1.a.const),.string t1.b.ref.head,.string t1.b.ref.name,.int .u64 (hiOf t1.b.const),.int .u64 (loOf t1.b.const)])).run Tryz.prog u=.ok (.bool true) u:=fun u=>by have:=run_eq125 t1 t1 u;rw[decide_eq_true rfl] at this;exact this
      have C3:Hid (∀ W,Pres w W→Cs 119 #[.slice ax0 g1.length cx0,.slice ay0 g1.length cy0,.func (.func 120) #[] #[]] W fun e w'=>e=.returned (.bool true)∧Bl W w'):=fun W hp=>by have h:=equalfStg_any _ _ _ _ W (stgRow_row (hf0.pres hp)).1 (stgRow_row (hg0.pres hp)).1 (by have h:g1.length*176≤_:=(stgRow_row hf0).2;omega) HC0;rw[decide_eq_true rfl] at h;exact h
      have C4:Hid (∀ W,Pres w W→Cs 119 #[.slice ax1 q1.length cx1,.slice ay1 q1.length cy1,.func (.func 120) #[] #[]] W fun e w'=>e=.returned (.bool true)∧Bl W w'):=fun W hp=>by have h:=equalfStg_any _ _ _ _ W (stgRow_row (hf1.pres hp)).1 (stgRow_row (hg1.pres hp)).1 (by have h:q1.length*176≤_:=(stgRow_row hf1).2;omega) HC1;rw[decide_eq_true rfl] at h;exact h
      have HB0:=hstart2 w 127 #[.int .i64 i1,.string n1,.int .i64 t1.kind,.string t1.a.ref.head,.string t1.a.ref.name,.int .u64 (hiOf t1.a.const),.int .u64 (loOf t1.a.const),.string t1.b.ref.head,.string t1.b.ref.name,.int .u64 (hiOf t1.b.const),.int .u64 (loOf t1.b.const),.slice ax0 g1.length cx0,.slice ax1 q1.length cx1] #[.int .i64 i1,.string n1,.int .i64 t1.kind,.string t1.a.ref.head,.string t1.a.ref.name,.int .u64 (hiOf t1.a.const),.int .u64 (loOf t1.a.const),.string t1.b.ref.head,.string t1.b.ref.name,.int .u64 (hiOf t1.b.const),.int .u64 (loOf t1.b.const),.slice ay0 g1.length cy0,.slice ay1 q1.length cy1]
      clear hf0 hg0 hf1 hg1 HC0 HC1
      go_enter Tryz.func120,Tryz.ntmps120
      go_upto_region 1 with fail
      generalize ((w.alloc _).alloc _)=W0 at HB0 ⊢
      obtain⟨pp0,pp1,pp2,pp3,pp4,pp5,pp6,pp7,pp8,pp9,pp10,pp11,pp12⟩:=HB0.out.one.c13
      obtain⟨qq0,qq1,qq2,qq3,qq4,qq5,qq6,qq7,qq8,qq9,qq10,qq11,qq12⟩:=HB0.out.two.c13
      go_wp2_with fail
      refine(C3.out _ (pres_below HB0.out.below)).mono ?_
      rintro e V0 ⟨rfl,hb0⟩
      have HB1:=hkeep2 HB0 hb0
      clear hb0 HB0 pp0 pp1 pp2 pp3 pp4 pp5 pp6 pp7 pp8 pp9 pp10 pp11 pp12 qq0 qq1 qq2 qq3 qq4 qq5 qq6 qq7 qq8 qq9 qq10 qq11 qq12
      obtain⟨pp0,pp1,pp2,pp3,pp4,pp5,pp6,pp7,pp8,pp9,pp10,pp11,pp12⟩:=HB1.out.one.c13
      obtain⟨qq0,qq1,qq2,qq3,qq4,qq5,qq6,qq7,qq8,qq9,qq10,qq11,qq12⟩:=HB1.out.two.c13
      go_wp2_with fail
      refine(C4.out _ (pres_below HB1.out.below)).mono ?_
      rintro e V1 ⟨rfl,hb1⟩
      have HB2:=hkeep2 HB1 hb1
      clear hb1 HB1 pp0 pp1 pp2 pp3 pp4 pp5 pp6 pp7 pp8 pp9 pp10 pp11 pp12 qq0 qq1 qq2 qq3 qq4 qq5 qq6 qq7 qq8 qq9 qq10 qq11 qq12
      obtain⟨pp0,pp1,pp2,pp3,pp4,pp5,pp6,pp7,pp8,pp9,pp10,pp11,pp12⟩:=HB2.out.one.c13
      obtain⟨qq0,qq1,qq2,qq3,qq4,qq5,qq6,qq7,qq8,qq9,qq10,qq11,qq12⟩:=HB2.out.two.c13
      go_wp2
      go_ret
      exact⟨by rw[E.out];rfl,HB2.out.below⟩
     ·have E:Hid (decide ((.mk i1 n1 t1 g1 q1:Stg)=.mk i1 n1 t1 g1 q2)=false):=decide_eq_false (fun h=>hz4 (by cases h;rfl))
      have hr2:∀ u:World,(binOp .eql 125 (.agg #[.int .i64 t1.kind,.string t1.a.ref.head,.string t1.a.ref.name,.int .u64 (hiOf t1.a.const),.int .u64 (loOf t1.a.const),.string t1.b.ref.head,.string t1.b.ref.name,.int .u64 (hiOf t1.b.const),.int .u64 (loOf t1.b.const)]) (.agg #[.int .i64 t1.kind,.string t1.a.ref.head,.string t1.a.ref.name,.int .u64 (hiOf t1.a.const),.int .u64 (loOf t1.a.const),.string t1.b.ref.head,.string t1.b.ref.name,.int .u64 (hiOf t1.b.const),.int .u64 (loOf t1.b.const)])).run Tryz.prog u=.ok (.bool true) u:=fun u=>by have:=run_eq125 t1 t1 u;rw[decide_eq_true rfl] at this;exact this
      have C3:Hid (∀ W,Pres w W→Cs 119 #[.slice ax0 g1.length cx0,.slice ay0 g1.length cy0,.func (.func 120) #[] #[]] W fun e w'=>e=.returned (.bool true)∧Bl W w'):=fun W hp=>by have h:=equalfStg_any _ _ _ _ W (stgRow_row (hf0.pres hp)).1 (stgRow_row (hg0.pres hp)).1 (by have h:g1.length*176≤_:=(stgRow_row hf0).2;omega) HC0;rw[decide_eq_true rfl] at h;exact h
      have C4:Hid (∀ W,Pres w W→Cs 119 #[.slice ax1 q1.length cx1,.slice ay1 q2.length cy1,.func (.func 120) #[] #[]] W fun e w'=>e=.returned (.bool false)∧Bl W w'):=fun W hp=>by have h:=equalfStg_any _ _ _ _ W (stgRow_row (hf1.pres hp)).1 (stgRow_row (hg1.pres hp)).1 (by have h:q1.length*176≤_:=(stgRow_row hf1).2;omega) HC1;rw[decide_eq_false hz4] at h;exact h
      have HB0:=hstart2 w 127 #[.int .i64 i1,.string n1,.int .i64 t1.kind,.string t1.a.ref.head,.string t1.a.ref.name,.int .u64 (hiOf t1.a.const),.int .u64 (loOf t1.a.const),.string t1.b.ref.head,.string t1.b.ref.name,.int .u64 (hiOf t1.b.const),.int .u64 (loOf t1.b.const),.slice ax0 g1.length cx0,.slice ax1 q1.length cx1] #[.int .i64 i1,.string n1,.int .i64 t1.kind,.string t1.a.ref.head,.string t1.a.ref.name,.int .u64 (hiOf t1.a.const),.int .u64 (loOf t1.a.const),.string t1.b.ref.head,.string t1.b.ref.name,.int .u64 (hiOf t1.b.const),.int .u64 (loOf t1.b.const),.slice ay0 g1.length cy0,.slice ay1 q2.length cy1]
      clear hf0 hg0 hf1 hg1 HC0 HC1
      clear hz4
      go_enter Tryz.func120,Tryz.ntmps120
      go_upto_region 1 with fail
      generalize ((w.alloc _).alloc _)=W0 at HB0 ⊢
      obtain⟨pp0,pp1,pp2,pp3,pp4,pp5,pp6,pp7,pp8,pp9,pp10,pp11,pp12⟩:=HB0.out.one.c13
      obtain⟨qq0,qq1,qq2,qq3,qq4,qq5,qq6,qq7,qq8,qq9,qq10,qq11,qq12⟩:=HB0.out.two.c13
      go_wp2_with fail
      refine(C3.out _ (pres_below HB0.out.below)).mono ?_
      rintro e V0 ⟨rfl,hb0⟩
      have HB1:=hkeep2 HB0 hb0
      clear hb0 HB0 pp0 pp1 pp2 pp3 pp4 pp5 pp6 pp7 pp8 pp9 pp10 pp11 pp12 qq0 qq1 qq2 qq3 qq4 qq5 qq6 qq7 qq8 qq9 qq10 qq11 qq12
      obtain⟨pp0,pp1,pp2,pp3,pp4,pp5,pp6,pp7,pp8,pp9,pp10,pp11,pp12⟩:=HB1.out.one.c13
      obtain⟨qq0,qq1,qq2,qq3,qq4,qq5,qq6,qq7,qq8,qq9,qq10,qq11,qq12⟩:=HB1.out.two.c13
      go_wp2_with fail
      refine(C4.out _ (pres_below HB1.out.below)).mono ?_
      rintro e V1 ⟨rfl,hb1⟩
      have HB2:=hkeep2 HB1 hb1
      clear hb1 HB1 pp0 pp1 pp2 pp3 pp4 pp5 pp6 pp7 pp8 pp9 pp10 pp11 pp12 qq0 qq1 qq2 qq3 qq4 qq5 qq6 qq7 qq8 qq9 qq10 qq11 qq12
      obtain⟨pp0,pp1,pp2,pp3,pp4,pp5,pp6,pp7,pp8,pp9,pp10,pp11,pp12⟩:=HB2.out.one.c13
      obtain⟨qq0,qq1,qq2,qq3,qq4,qq5,qq6,qq7,qq8,qq9,qq10,qq11,qq12⟩:=HB2.out.two.c13
      go_wp2
      go_ret
      exact⟨by rw[E.out];rfl,HB2.out.below⟩
    ·have E:Hid (decide ((.mk i1 n1 t1 g1 q1:Stg)=.mk i1 n1 t1 g2 q2)=false):=decide_eq_false (fun h=>hz3 (by cases h;rfl))
     have hr2:∀ u:World,(binOp .eql 125 (.agg #[.int .i64 t1.kind,.string t1.a.ref.head,.string t1.a.ref.name,.int .u64 (hiOf t1.a.const),.int .u64 (loOf t1.a.const),.string t1.b.ref.head,.string t1.b.ref.name,.int .u64 (hiOf t1.b.const),.int .u64 (loOf t1.b.const)]) (.agg #[.int .i64 t1.kind,.string t1.a.ref.head,.string t1.a.ref.name,.int .u64 (hiOf t1.a.const),.int .u64 (loOf t1.a.const),.string t1.b.ref.head,.string t1.b.ref.name,.int .u64 (hiOf t1.b.const),.int .u64 (loOf t1.b.const)])).run Tryz.prog u=.ok (.bool true) u:=fun u=>by have:=run_eq125 t1 t1 u;rw[decide_eq_true rfl] at this;exact this
     have C3:Hid (∀ W,Pres w W→Cs 119 #[.slice ax0 g1.length cx0,.slice ay0 g2.length cy0,.func (.func 120) #[] #[]] W fun e w'=>e=.returned (.bool false)∧Bl W w'):=fun W hp=>by have h:=equalfStg_any _ _ _ _ W (stgRow_row (hf0.pres hp)).1 (stgRow_row (hg0.pres hp)).1 (by have h:g1.length*176≤_:=(stgRow_row hf0).2;omega) HC0;rw[decide_eq_false hz3] at h;exact h
     have HB0:=hstart2 w 127 #[.int .i64 i1,.string n1,.int .i64 t1.kind,.string t1.a.ref.head,.string t1.a.ref.name,.int .u64 (hiOf t1.a.const),.int .u64 (loOf t1.a.const),.string t1.b.ref.head,.string t1.b.ref.name,.int .u64 (hiOf t1.b.const),.int .u64 (loOf t1.b.const),.slice ax0 g1.length cx0,.slice ax1 q1.length cx1] #[.int .i64 i1,.string n1,.int .i64 t1.kind,.string t1.a.ref.head,.string t1.a.ref.name,.int .u64 (hiOf t1.a.const),.int .u64 (loOf t1.a.const),.string t1.b.ref.head,.string t1.b.ref.name,.int .u64 (hiOf t1.b.const),.int .u64 (loOf t1.b.const),.slice ay0 g2.length cy0,.slice ay1 q2.length cy1]
     clear hf0 hg0 hf1 hg1 HC0 HC1
     clear hz3
     go_enter Tryz.func120,Tryz.ntmps120
     go_upto_region 1 with fail
     generalize ((w.alloc _).alloc _)=W0 at HB0 ⊢
     obtain⟨pp0,pp1,pp2,pp3,pp4,pp5,pp6,pp7,pp8,pp9,pp10,pp11,pp12⟩:=HB0.out.one.c13
     obtain⟨qq0,qq1,qq2,qq3,qq4,qq5,qq6,qq7,qq8,qq9,qq10,qq11,qq12⟩:=HB0.out.two.c13
     go_wp2_with fail
     refine(C3.out _ (pres_below HB0.out.below)).mono ?_
     rintro e V0 ⟨rfl,hb0⟩
     have HB1:=hkeep2 HB0 hb0
     clear hb0 HB0 pp0 pp1 pp2 pp3 pp4 pp5 pp6 pp7 pp8 pp9 pp10 pp11 pp12 qq0 qq1 qq2 qq3 qq4 qq5 qq6 qq7 qq8 qq9 qq10 qq11 qq12
     obtain⟨pp0,pp1,pp2,pp3,pp4,pp5,pp6,pp7,pp8,pp9,pp10,pp11,pp12⟩:=HB1.out.one.c13
     obtain⟨qq0,qq1,qq2,qq3,qq4,qq5,qq6,qq7,qq8,qq9,qq10,qq11,qq12⟩:=HB1.out.two.c13
     go_wp2
     go_ret
     exact⟨by rw[E.out];rfl,HB1.out.below⟩
   ·have E:Hid (decide ((.mk i1 n1 t1 g1 q1:Stg)=.mk i1 n1 t2 g2 q2)=false):=decide_eq_false (fun h=>hz2 (by cases h;rfl))
    have ht:∀ u:World,(binOp .eql 125 (.agg #[.int .i64 t1.kind,.string t1.a.ref.head,.string t1.a.ref.name,.int .u64 (hiOf t1.a.const),.int .u64 (loOf t1.a.const),.string t1.b.ref.head,.string t1.b.ref.name,.int .u64 (hiOf t1.b.const),.int .u64 (loOf t1.b.const)]) (.agg #[.int .i64 t2.kind,.string t2.a.ref.head,.string t2.a.ref.name,.int .u64 (hiOf t2.a.const),.int .u64 (loOf t2.a.const),.string t2.b.ref.head,.string t2.b.ref.name,.int .u64 (hiOf t2.b.const),.int .u64 (loOf t2.b.const)])).run Tryz.prog u=.ok (.bool false) u:=fun u=>by have:=run_eq125 t1 t2 u;rw[decide_eq_false hz2] at this;exact this
    have HB0:=hstart2 w 127 #[.int .i64 i1,.string n1,.int .i64 t1.kind,.string t1.a.ref.head,.string t1.a.ref.name,.int .u64 (hiOf t1.a.const),.int .u64 (loOf t1.a.const),.string t1.b.ref.head,.string t1.b.ref.name,.int .u64 (hiOf t1.b.const),.int .u64 (loOf t1.b.const),.slice ax0 g1.length cx0,.slice ax1 q1.length cx1] #[.int .i64 i1,.string n1,.int .i64 t2.kind,.string t2.a.ref.head,.string t2.a.ref.name,.int .u64 (hiOf t2.a.const),.int .u64 (loOf t2.a.const),.string t2.b.ref.head,.string t2.b.ref.name,.int .u64 (hiOf t2.b.const),.int .u64 (loOf t2.b.const),.slice ay0 g2.length cy0,.slice ay1 q2.length cy1]
    clear hf0 hg0 hf1 hg1 HC0 HC1
    clear hz2
    go_enter Tryz.func120,Tryz.ntmps120
    go_upto_region 1 with fail
    generalize ((w.alloc _).alloc _)=W0 at HB0 ⊢
    obtain⟨pp0,pp1,pp2,pp3,pp4,pp5,pp6,pp7,pp8,pp9,pp10,pp11,pp12⟩:=HB0.out.one.c13
    obtain⟨qq0,qq1,qq2,qq3,qq4,qq5,qq6,qq7,qq8,qq9,qq10,qq11,qq12⟩:=HB0.out.two.c13
    go_wp2
    go_ret
    exact⟨by rw[E.out];rfl,HB0.out.below⟩
  ·have E:Hid (decide ((.mk i1 n1 t1 g1 q1:Stg)=.mk i1 n2 t2 g2 q2)=false):=decide_eq_false (fun h=>hz1 (by cases h;rfl))
   have ht:(n1.toList==n2.toList)=false:=by rw[txt_eq];exact decide_eq_false hz1
   have HB0:=hstart2 w 127 #[.int .i64 i1,.string n1,.int .i64 t1.kind,.string t1.a.ref.head,.string t1.a.ref.name,.int .u64 (hiOf t1.a.const),.int .u64 (loOf t1.a.const),.string t1.b.ref.head,.string t1.b.ref.name,.int .u64 (hiOf t1.b.const),.int .u64 (loOf t1.b.const),.slice ax0 g1.length cx0,.slice ax1 q1.length cx1] #[.int .i64 i1,.string n2,.int .i64 t2.kind,.string t2.a.ref.head,.string t2.a.ref.name,.int .u64 (hiOf t2.a.const),.int .u64 (loOf t2.a.const),.string t2.b.ref.head,.string t2.b.ref.name,.int .u64 (hiOf t2.b.const),.int .u64 (loOf t2.b.const),.slice ay0 g2.length cy0,.slice ay1 q2.length cy1]
   clear hf0 hg0 hf1 hg1 HC0 HC1
   clear hz1
   go_enter Tryz.func120,Tryz.ntmps120
   go_upto_region 1 with fail
   generalize ((w.alloc _).alloc _)=W0 at HB0 ⊢
   obtain⟨pp0,pp1,pp2,pp3,pp4,pp5,pp6,pp7,pp8,pp9,pp10,pp11,pp12⟩:=HB0.out.one.c13
   obtain⟨qq0,qq1,qq2,qq3,qq4,qq5,qq6,qq7,qq8,qq9,qq10,qq11,qq12⟩:=HB0.out.two.c13
   go_wp2
   go_ret
   exact⟨by rw[E.out];rfl,HB0.out.below⟩
 ·have E:Hid (decide ((.mk i1 n1 t1 g1 q1:Stg)=.mk i2 n2 t2 g2 q2)=false):=decide_eq_false (fun h=>hz0 (by cases h;rfl))
  have ht:(i1==i2)=false:=by simpa using hz0
  have HB0:=hstart2 w 127 #[.int .i64 i1,.string n1,.int .i64 t1.kind,.string t1.a.ref.head,.string t1.a.ref.name,.int .u64 (hiOf t1.a.const),.int .u64 (loOf t1.a.const),.string t1.b.ref.head,.string t1.b.ref.name,.int .u64 (hiOf t1.b.const),.int .u64 (loOf t1.b.const),.slice ax0 g1.length cx0,.slice ax1 q1.length cx1] #[.int .i64 i2,.string n2,.int .i64 t2.kind,.string t2.a.ref.head,.string t2.a.ref.name,.int .u64 (hiOf t2.a.const),.int .u64 (loOf t2.a.const),.string t2.b.ref.head,.string t2.b.ref.name,.int .u64 (hiOf t2.b.const),.int .u64 (loOf t2.b.const),.slice ay0 g2.length cy0,.slice ay1 q2.length cy1]
  clear hf0 hg0 hf1 hg1 HC0 HC1
  clear hz0
  go_enter Tryz.func120,Tryz.ntmps120
  go_upto_region 1 with fail
  generalize ((w.alloc _).alloc _)=W0 at HB0 ⊢
  obtain⟨pp0,pp1,pp2,pp3,pp4,pp5,pp6,pp7,pp8,pp9,pp10,pp11,pp12⟩:=HB0.out.one.c13
  obtain⟨qq0,qq1,qq2,qq3,qq4,qq5,qq6,qq7,qq8,qq9,qq10,qq11,qq12⟩:=HB0.out.two.c13
  go_wp2
  go_ret
  exact⟨by rw[E.out];rfl,HB0.out.below⟩
end Go.Proofs.YtmbpclknhkbbkaaGreat
