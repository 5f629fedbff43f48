/- Package schema: each, over Sta. -/
import Derived.Test.YtmbpclknhkbbkaaGreatB11
set_option linter.unusedSimpArgs false
set_option linter.unusedVariables false
set_option maxHeartbeats 2000000
set_option maxRecDepth 100000
namespace Go.Proofs.YtmbpclknhkbbkaaGreat
open Go.RowKit
theorem info98:(Tryz.prog.info? 98).map (fun i=>(i.zero,i.size,i.bytes))=some (some (.agg #[.string ⟨#[]⟩,.string ⟨#[]⟩,.string ⟨#[]⟩,.string ⟨#[]⟩,.slice none 0 0,.string ⟨#[]⟩]),6,104):=by kernel_rfl
theorem isz98:(Tryz.prog.info? 98).map (·.size)=some 6:=by kernel_rfl
theorem eachSta_any (v:Value)(xs:List Sta)(w:World)(hr:Row 6 StaIs w v xs)(hl:Len 104 xs)(hc:CopyOk 100 6 StaIs xs):
  Calls Tryz.prog 99 #[v,.func (.func 100) #[] #[]] w fun e w'=>∃ v',e=.returned v'∧Row 6 StaIs (upw w.heap.size w') v' xs∧Below w.heap.size w w':=by
 obtain⟨ad,cap,rfl,hcap⟩:=hr.slice
 by_cases h0:xs=[]
 ·subst h0
  go_enter Tryz.func99,Tryz.ntmps99
  go_wp2
  go_ret
  exact⟨_,rfl,⟨none,0,rfl,Nat.le_refl _,.inl rfl⟩,Below.refl _ _⟩
 have hlen:xs.length*104≤140737488351232:=hl
 have hpos:0<xs.length:=List.length_pos_iff.2 h0
 obtain⟨i0,hi,hz0,hz1,hz2⟩:=info_of info98
 have HR:Hid (Row 6 StaIs w (.slice ad xs.length cap) xs):=hr
 have HC:Hid (CopyOk 100 6 StaIs xs):=hc
 obtain⟨n,hn⟩:∃ n,n=xs.length:=⟨_,rfl⟩
 have HL:Hid (n=xs.length):=hn
 rw[← hn] at hlen hpos HR ⊢
 have hne:((n:Int)==0)=false:=by simp;omega
 have hb1:i0.bytes*n≤281474976710656:=by rw[hz2];omega
 have hb2:n≤maxLen:=by unfold maxLen;omega
 clear hr hc hl hn hcap h0
 go_enter Tryz.func99,Tryz.ntmps99
 go_wp2_with (at_make;refine wpList_make_full _ rfl _ _ 29 rfl w.heap.size 98 i0 (.agg #[.string ⟨#[]⟩,.string ⟨#[]⟩,.string ⟨#[]⟩,.string ⟨#[]⟩,.slice none 0 0,.string ⟨#[]⟩]) 6 Tryz.underlying29 hi hz0 hz1 _ _ _ _ n rfl rfl rfl rfl hb1 hb2 (Nat.le_refl _) ?_)
 intro w1 hown hgr
 have HE0:Hid (EachAt 6 98 StaIs w w.heap.size n xs w1 0):=EachAt.start hown hgr
 clear hown hgr hb1 hb2 hi hz0 hz1 hz2
 go_wp2_with fail
 go_loopw [16] (fun i wr=>∃ k:Nat,k≤n∧i=.int .i64 k∧EachAt 6 98 StaIs w w.heap.size n xs wr k) (fun i _=>n - (intOf i).toNat)
 case atStart=>exact⟨0,by omega,rfl,HE0.out⟩
 case round=>
  obtain⟨k,hk,rfl,hE⟩:=hrel
  have HE:Hid (EachAt 6 98 StaIs w w.heap.size n xs wr k):=hE
  clear hE HE0
  by_cases hlt:k<n
  ·obtain⟨x,hx⟩:=gE HL.out hlt
   obtain⟨b,o,⟨cl⟩,rfl,hsz,hcl,hI⟩:=HR.out.at hx
   have hcs:cl.length=6:=hsz
   have hz:=isz98
   have hz':(Tryz.prog.info? 98).map (·.size)=some cl.length:=by rw[hcs];exact hz
   have R1:Hid (wr.rangeAt b (o+k*6) cl):=fun j u hu=>pres_below HE.out.below _ _ (hcl j u (by simpa using hu))
   have ST2:Hid ((wr.alloc (.cells #[.string ⟨#[]⟩,.string ⟨#[]⟩,.string ⟨#[]⟩,.string ⟨#[]⟩,.slice none 0 0,.string ⟨#[]⟩] 98)).there wr.heap.size 0 cl.toArray.size):=there_new wr #[.string ⟨#[]⟩,.string ⟨#[]⟩,.string ⟨#[]⟩,.string ⟨#[]⟩,.slice none 0 0,.string ⟨#[]⟩] 98 (by simp[hcs])
   have ON:Hid (cl.toArray.all (·.oneCell')=true):=sta_good.one hI
   have R3:Hid (((wr.alloc (.cells #[.string ⟨#[]⟩,.string ⟨#[]⟩,.string ⟨#[]⟩,.string ⟨#[]⟩,.slice none 0 0,.string ⟨#[]⟩] 98)).setCells wr.heap.size 0 cl).rangeAt wr.heap.size 0 cl):=World.rangeAt_setCells_same _ _ _ _ (there_new wr #[.string ⟨#[]⟩,.string ⟨#[]⟩,.string ⟨#[]⟩,.string ⟨#[]⟩,.slice none 0 0,.string ⟨#[]⟩] 98 (by simp[hcs]))
   have B2:Hid (Bl wr ((wr.alloc (.cells #[.string ⟨#[]⟩,.string ⟨#[]⟩,.string ⟨#[]⟩,.string ⟨#[]⟩,.slice none 0 0,.string ⟨#[]⟩] 98)).setCells wr.heap.size 0 cl)):=below_setCells ((Below.refl _ _).alloc (Nat.le_refl _) _) (Nat.le_refl _) _ _
   have C:Hid (Cs 100 #[.agg cl.toArray] ((wr.alloc (.cells #[.string ⟨#[]⟩,.string ⟨#[]⟩,.string ⟨#[]⟩,.string ⟨#[]⟩,.slice none 0 0,.string ⟨#[]⟩] 98)).setCells wr.heap.size 0 cl) fun e w'=>∃ dl:List Value,e=.returned (.agg dl.toArray)∧Hid (dl.length=6∧dl.toArray.all (·.oneCell')=true∧StaIs (upw wr.heap.size w') dl.toArray x∧Bl wr w'∧w'.there w.heap.size (k*6) dl.toArray.size)):=by
    refine(HC.out x (List.mem_of_getElem? hx) _ cl.toArray (sta_good.pres ((pres_below HE.out.below).trans (pres_below B2.out)) hI)).mono ?_
    rintro e w' ⟨⟨dl⟩,rfl,h1,h2⟩
    have hd:dl.length=6:=sta_good.size h1
    refine⟨dl,rfl,hd,sta_good.one h1,sta_good.pres (up_mono _ (size_setCells_le _ _ _ _)) h1,B2.out.trans (h2.mono B2.out.size),?_⟩
    exact HE.out.there (B2.out.trans (h2.mono B2.out.size)) hlt (by simp[hd])
   have HX:Hid (xs[k]?=some x):=hx
   clear hx hcl hI hsz
   go_wp2_with (first|(refine wpList_load_mid rfl 98 _ rfl b (o+k*6) rfl cl _ R1.out Tryz.underlying98 rfl hz' ?_)|(refine wpList_store_mid rfl 98 _ _ rfl wr.heap.size 0 cl.toArray rfl rfl ST2.out (by rw[List.size_toArray];exact hz') ON.out ?_)|(refine wpList_load_mid rfl 98 _ rfl wr.heap.size 0 rfl cl _ R3.out Tryz.underlying98 rfl hz' ?_))
   refine C.out.mono ?_
   rintro e w3 ⟨dl,rfl,H3⟩
   clear C R1 ST2 ON R3 B2
   have hd':(Tryz.prog.info? 98).map (·.size)=some dl.toArray.size:=by rw[List.size_toArray,H3.out.1];exact hz
   have HE4:Hid (EachAt 6 98 StaIs w w.heap.size n xs (w3.setCells w.heap.size (k*6) dl) (k+1)):=EachAt.step sta_good HE.out H3.out.2.2.2.1 hlt HX.out H3.out.1 H3.out.2.2.1
   go_wp2_with (refine wpList_store_mid rfl 98 _ _ rfl w.heap.size (k*6) dl.toArray rfl rfl H3.out.2.2.2.2 hd' H3.out.2.1 ?_)
   exact⟨⟨k+1,by omega,by go_num,HE4.out⟩,by simp only[intOf];omega⟩
  ·have e:k=n:=by omega
   subst e
   go_wp2
   go_ret
   exact⟨_,rfl,HE.out.fin sta_good HL.out,HE.out.below⟩
theorem info65:(Tryz.prog.info? 65).map (fun i=>(i.zero,i.size,i.bytes))=some (some (.agg #[.string ⟨#[]⟩,.slice none 0 0,.slice none 0 0]),3,64):=by kernel_rfl
theorem isz65:(Tryz.prog.info? 65).map (·.size)=some 3:=by kernel_rfl
theorem eachAct_any (v:Value)(xs:List Actn)(w:World)(hr:Row 3 ActIs w v xs)(hl:Len 64 xs)(hc:CopyOk 102 3 ActIs xs):
  Calls Tryz.prog 101 #[v,.func (.func 102) #[] #[]] w fun e w'=>∃ v',e=.returned v'∧Row 3 ActIs (upw w.heap.size w') v' xs∧Below w.heap.size w w':=by
 obtain⟨ad,cap,rfl,hcap⟩:=hr.slice
 by_cases h0:xs=[]
 ·subst h0
  go_enter Tryz.func101,Tryz.ntmps101
  go_wp2
  go_ret
  exact⟨_,rfl,⟨none,0,rfl,Nat.le_refl _,.inl rfl⟩,Below.refl _ _⟩
 have hlen:xs.length*64≤140737488351232:=hl
 have hpos:0<xs.length:=List.length_pos_iff.2 h0
 obtain⟨i0,hi,hz0,hz1,hz2⟩:=info_of info65
 have HR:Hid (Row 3 ActIs w (.slice ad xs.length cap) xs):=hr
 have HC:Hid (CopyOk 102 3 ActIs xs):=hc
 obtain⟨n,hn⟩:∃ n,n=xs.length:=⟨_,rfl⟩
 have HL:Hid (n=xs.length):=hn
 rw[← hn] at hlen hpos HR ⊢
 have hne:((n:Int)==0)=false:=by simp;omega
 have hb1:i0.bytes*n≤281474976710656:=by rw[hz2];omega
 have hb2:n≤maxLen:=by unfold maxLen;omega
 clear hr hc hl hn hcap h0
 go_enter Tryz.func101,Tryz.ntmps101
 go_wp2_with (at_make;refine wpList_make_full _ rfl _ _ 30 rfl w.heap.size 65 i0 (.agg #[.string ⟨#[]⟩,.slice none 0 0,.slice none 0 0]) 3 Tryz.underlying30 hi hz0 hz1 _ _ _ _ n rfl rfl rfl rfl hb1 hb2 (Nat.le_refl _) ?_)
 intro w1 hown hgr
 have HE0:Hid (EachAt 3 65 ActIs w w.heap.size n xs w1 0):=EachAt.start hown hgr
 clear hown hgr hb1 hb2 hi hz0 hz1 hz2
 go_wp2_with fail
 go_loopw [16] (fun i wr=>∃ k:Nat,k≤n∧i=.int .i64 k∧EachAt 3 65 ActIs w w.heap.size n xs wr k) (fun i _=>n - (intOf i).toNat)
 case atStart=>exact⟨0,by omega,rfl,HE0.out⟩
 case round=>
  obtain⟨k,hk,rfl,hE⟩:=hrel
  have HE:Hid (EachAt 3 65 ActIs w w.heap.size n xs wr k):=hE
  clear hE HE0
  by_cases hlt:k<n
  ·obtain⟨x,hx⟩:=gE HL.out hlt
   obtain⟨b,o,⟨cl⟩,rfl,hsz,hcl,hI⟩:=HR.out.at hx
   have hcs:cl.length=3:=hsz
   have hz:=isz65
   have hz':(Tryz.prog.info? 65).map (·.size)=some cl.length:=by rw[hcs];exact hz
   have R1:Hid (wr.rangeAt b (o+k*3) cl):=fun j u hu=>pres_below HE.out.below _ _ (hcl j u (by simpa using hu))
   have ST2:Hid ((wr.alloc (.cells #[.string ⟨#[]⟩,.slice none 0 0,.slice none 0 0] 65)).there wr.heap.size 0 cl.toArray.size):=there_new wr #[.string ⟨#[]⟩,.slice none 0 0,.slice none 0 0] 65 (by simp[hcs])
   have ON:Hid (cl.toArray.all (·.oneCell')=true):=act_good.one hI
   have R3:Hid (((wr.alloc (.cells #[.string ⟨#[]⟩,.slice none 0 0,.slice none 0 0] 65)).setCells wr.heap.size 0 cl).rangeAt wr.heap.size 0 cl):=World.rangeAt_setCells_same _ _ _ _ (there_new wr #[.string ⟨#[]⟩,.slice none 0 0,.slice none 0 0] 65 (by simp[hcs]))
   have B2:Hid (Bl wr ((wr.alloc (.cells #[.string ⟨#[]⟩,.slice none 0 0,.slice none 0 0] 65)).setCells wr.heap.size 0 cl)):=below_setCells ((Below.refl _ _).alloc (Nat.le_refl _) _) (Nat.le_refl _) _ _
   have C:Hid (Cs 102 #[.agg cl.toArray] ((wr.alloc (.cells #[.string ⟨#[]⟩,.slice none 0 0,.slice none 0 0] 65)).setCells wr.heap.size 0 cl) fun e w'=>∃ dl:List Value,e=.returned (.agg dl.toArray)∧Hid (dl.length=3∧dl.toArray.all (·.oneCell')=true∧ActIs (upw wr.heap.size w') dl.toArray x∧Bl wr w'∧w'.there w.heap.size (k*3) dl.toArray.size)):=by
    refine(HC.out x (List.mem_of_getElem? hx) _ cl.toArray (act_good.pres ((pres_below HE.out.below).trans (pres_below B2.out)) hI)).mono ?_
    rintro e w' ⟨⟨dl⟩,rfl,h1,h2⟩
    have hd:dl.length=3:=act_good.size h1
    refine⟨dl,rfl,hd,act_good.one h1,act_good.pres (up_mono _ (size_setCells_le _ _ _ _)) h1,B2.out.trans (h2.mono B2.out.size),?_⟩
    exact HE.out.there (B2.out.trans (h2.mono B2.out.size)) hlt (by simp[hd])
   have HX:Hid (xs[k]?=some x):=hx
   clear hx hcl hI hsz
   go_wp2_with (first|(refine wpList_load_mid rfl 65 _ rfl b (o+k*3) rfl cl _ R1.out Tryz.underlying65 rfl hz' ?_)|(refine wpList_store_mid rfl 65 _ _ rfl wr.heap.size 0 cl.toArray rfl rfl ST2.out (by rw[List.size_toArray];exact hz') ON.out ?_)|(refine wpList_load_mid rfl 65 _ rfl wr.heap.size 0 rfl cl _ R3.out Tryz.underlying65 rfl hz' ?_))
   refine C.out.mono ?_
   rintro e w3 ⟨dl,rfl,H3⟩
   clear C R1 ST2 ON R3 B2
   have hd':(Tryz.prog.info? 65).map (·.size)=some dl.toArray.size:=by rw[List.size_toArray,H3.out.1];exact hz
   have HE4:Hid (EachAt 3 65 ActIs w w.heap.size n xs (w3.setCells w.heap.size (k*3) dl) (k+1)):=EachAt.step act_good HE.out H3.out.2.2.2.1 hlt HX.out H3.out.1 H3.out.2.2.1
   go_wp2_with (refine wpList_store_mid rfl 65 _ _ rfl w.heap.size (k*3) dl.toArray rfl rfl H3.out.2.2.2.2 hd' H3.out.2.1 ?_)
   exact⟨⟨k+1,by omega,by go_num,HE4.out⟩,by simp only[intOf];omega⟩
  ·have e:k=n:=by omega
   subst e
   go_wp2
   go_ret
   exact⟨_,rfl,HE.out.fin act_good HL.out,HE.out.below⟩
theorem info51:(Tryz.prog.info? 51).map (fun i=>(i.zero,i.size,i.bytes))=some (some (.agg #[.string ⟨#[]⟩,.slice none 0 0,.slice none 0 0,.int .i64 0,.string ⟨#[]⟩,.slice none 0 0,.bool false]),7,120):=by kernel_rfl
theorem isz51:(Tryz.prog.info? 51).map (·.size)=some 7:=by kernel_rfl
theorem eachTbl_any (v:Value)(xs:List Tbl)(w:World)(hr:Row 7 TblIs w v xs)(hl:Len 120 xs)(hc:CopyOk 104 7 TblIs xs):
  Calls Tryz.prog 103 #[v,.func (.func 104) #[] #[]] w fun e w'=>∃ v',e=.returned v'∧Row 7 TblIs (upw w.heap.size w') v' xs∧Below w.heap.size w w':=by
 obtain⟨ad,cap,rfl,hcap⟩:=hr.slice
 by_cases h0:xs=[]
 ·subst h0
  go_enter Tryz.func103,Tryz.ntmps103
  go_wp2
  go_ret
  exact⟨_,rfl,⟨none,0,rfl,Nat.le_refl _,.inl rfl⟩,Below.refl _ _⟩
 have hlen:xs.length*120≤140737488351232:=hl
 have hpos:0<xs.length:=List.length_pos_iff.2 h0
 obtain⟨i0,hi,hz0,hz1,hz2⟩:=info_of info51
 have HR:Hid (Row 7 TblIs w (.slice ad xs.length cap) xs):=hr
 have HC:Hid (CopyOk 104 7 TblIs xs):=hc
 obtain⟨n,hn⟩:∃ n,n=xs.length:=⟨_,rfl⟩
 have HL:Hid (n=xs.length):=hn
 rw[← hn] at hlen hpos HR ⊢
 have hne:((n:Int)==0)=false:=by simp;omega
 have hb1:i0.bytes*n≤281474976710656:=by rw[hz2];omega
 have hb2:n≤maxLen:=by unfold maxLen;omega
 clear hr hc hl hn hcap h0
 go_enter Tryz.func103,Tryz.ntmps103
 go_wp2_with (at_make;refine wpList_make_full _ rfl _ _ 31 rfl w.heap.size 51 i0 (.agg #[.string ⟨#[]⟩,.slice none 0 0,.slice none 0 0,.int .i64 0,.string ⟨#[]⟩,.slice none 0 0,.bool false]) 7 Tryz.underlying31 hi hz0 hz1 _ _ _ _ n rfl rfl rfl rfl hb1 hb2 (Nat.le_refl _) ?_)
 intro w1 hown hgr
 have HE0:Hid (EachAt 7 51 TblIs w w.heap.size n xs w1 0):=EachAt.start hown hgr
 clear hown hgr hb1 hb2 hi hz0 hz1 hz2
 go_wp2_with fail
 go_loopw [16] (fun i wr=>∃ k:Nat,k≤n∧i=.int .i64 k∧EachAt 7 51 TblIs w w.heap.size n xs wr k) (fun i _=>n - (intOf i).toNat)
 case atStart=>exact⟨0,by omega,rfl,HE0.out⟩
 case round=>
  obtain⟨k,hk,rfl,hE⟩:=hrel
  have HE:Hid (EachAt 7 51 TblIs w w.heap.size n xs wr k):=hE
  clear hE HE0
  by_cases hlt:k<n
  ·obtain⟨x,hx⟩:=gE HL.out hlt
   obtain⟨b,o,⟨cl⟩,rfl,hsz,hcl,hI⟩:=HR.out.at hx
   have hcs:cl.length=7:=hsz
   have hz:=isz51
   have hz':(Tryz.prog.info? 51).map (·.size)=some cl.length:=by rw[hcs];exact hz
   have R1:Hid (wr.rangeAt b (o+k*7) cl):=fun j u hu=>pres_below HE.out.below _ _ (hcl j u (by simpa using hu))
   have ST2:Hid ((wr.alloc (.cells #[.string ⟨#[]⟩,.slice none 0 0,.slice none 0 0,.int .i64 0,.string ⟨#[]⟩,.slice none 0 0,.bool false] 51)).there wr.heap.size 0 cl.toArray.size):=there_new wr #[.string ⟨#[]⟩,.slice none 0 0,.slice none 0 0,.int .i64 0,.string ⟨#[]⟩,.slice none 0 0,.bool false] 51 (by simp[hcs])
   have ON:Hid (cl.toArray.all (·.oneCell')=true):=tbl_good.one hI
   have R3:Hid (((wr.alloc (.cells #[.string ⟨#[]⟩,.slice none 0 0,.slice none 0 0,.int .i64 0,.string ⟨#[]⟩,.slice none 0 0,.bool false] 51)).setCells wr.heap.size 0 cl).rangeAt wr.heap.size 0 cl):=World.rangeAt_setCells_same _ _ _ _ (there_new wr #[.string ⟨#[]⟩,.slice none 0 0,.slice none 0 0,.int .i64 0,.string ⟨#[]⟩,.slice none 0 0,.bool false] 51 (by simp[hcs]))
   have B2:Hid (Bl wr ((wr.alloc (.cells #[.string ⟨#[]⟩,.slice none 0 0,.slice none 0 0,.int .i64 0,.string ⟨#[]⟩,.slice none 0 0,.bool false] 51)).setCells wr.heap.size 0 cl)):=below_setCells ((Below.refl _ _).alloc (Nat.le_refl _) _) (Nat.le_refl _) _ _
   have C:Hid (Cs 104 #[.agg cl.toArray] ((wr.alloc (.cells #[.string ⟨#[]⟩,.slice none 0 0,.slice none 0 0,.int .i64 0,.string ⟨#[]⟩,.slice none 0 0,.bool false] 51)).setCells wr.heap.size 0 cl) fun e w'=>∃ dl:List Value,e=.returned (.agg dl.toArray)∧Hid (dl.length=7∧dl.toArray.all (·.oneCell')=true∧TblIs (upw wr.heap.size w') dl.toArray x∧Bl wr w'∧w'.there w.heap.size (k*7) dl.toArray.size)):=by
    refine(HC.out x (List.mem_of_getElem? hx) _ cl.toArray (tbl_good.pres ((pres_below HE.out.below).trans (pres_below B2.out)) hI)).mono ?_
    rintro e w' ⟨⟨dl⟩,rfl,h1,h2⟩
    have hd:dl.length=7:=tbl_good.size h1
    refine⟨dl,rfl,hd,tbl_good.one h1,tbl_good.pres (up_mono _ (size_setCells_le _ _ _ _)) h1,B2.out.trans (h2.mono B2.out.size),?_⟩
    exact HE.out.there (B2.out.trans (h2.mono B2.out.size)) hlt (by simp[hd])
   have HX:Hid (xs[k]?=some x):=hx
   clear hx hcl hI hsz
   go_wp2_with (first|(refine wpList_load_mid rfl 51 _ rfl b (o+k*7) rfl cl _ R1.out Tryz.underlying51 rfl hz' ?_)|(refine wpList_store_mid rfl 51 _ _ rfl wr.heap.size 0 cl.toArray rfl rfl ST2.out (by rw[List.size_toArray];exact hz') ON.out ?_)|(refine wpList_load_mid rfl 51 _ rfl wr.heap.size 0 rfl cl _ R3.out Tryz.underlying51 rfl hz' ?_))
   refine C.out.mono ?_
   rintro e w3 ⟨dl,rfl,H3⟩
   clear C R1 ST2 ON R3 B2
   have hd':(Tryz.prog.info? 51).map (·.size)=some dl.toArray.size:=by rw[List.size_toArray,H3.out.1];exact hz
   have HE4:Hid (EachAt 7 51 TblIs w w.heap.size n xs (w3.setCells w.heap.size (k*7) dl) (k+1)):=EachAt.step tbl_good HE.out H3.out.2.2.2.1 hlt HX.out H3.out.1 H3.out.2.2.1
   go_wp2_with (refine wpList_store_mid rfl 51 _ _ rfl w.heap.size (k*7) dl.toArray rfl rfl H3.out.2.2.2.2 hd' H3.out.2.1 ?_)
   exact⟨⟨k+1,by omega,by go_num,HE4.out⟩,by simp only[intOf];omega⟩
  ·have e:k=n:=by omega
   subst e
   go_wp2
   go_ret
   exact⟨_,rfl,HE.out.fin tbl_good HL.out,HE.out.below⟩
theorem copyStg_all:∀(n:Nat)(x:Stg),SizeOf.sizeOf x≤n→∀(w:World)(cs:Array Value),StgIs w x cs→Calls Tryz.prog 106 #[.agg cs] w fun e w'=>∃ cs',e=.returned (.agg cs')∧StgIs (upw w.heap.size w') x cs'∧Below w.heap.size w w'
 | 0,x,h,_,_,_=>by cases x;simp at h
 | n+1,x,h,w,cs,hI=>by
  refine copyStg_step x ?_ ?_ cs w hI
  ·intro y hy w cs hI
   refine copyStg_all n y ?_ w cs hI
   have:=List.sizeOf_lt_of_mem hy
   cases x
   simp only[Stg.thn] at this
   simp at h
   omega
  ·intro y hy w cs hI
   refine copyStg_all n y ?_ w cs hI
   have:=List.sizeOf_lt_of_mem hy
   cases x
   simp only[Stg.els] at this
   simp at h
   omega
theorem six_of {w:World}{u0 u1 u2 u3 u4 u5:Value}{zs:Array Value}{V:World}(h:Hid (Box2 w 34 #[u0,u1,u2,u3,u4,u5] zs V)):V.cell? ⟨w.heap.size,0,none⟩=some u0∧V.cell? ⟨w.heap.size,1,none⟩=some u1∧V.cell? ⟨w.heap.size,2,none⟩=some u2∧V.cell? ⟨w.heap.size,3,none⟩=some u3∧V.cell? ⟨w.heap.size,4,none⟩=some u4∧V.cell? ⟨w.heap.size,5,none⟩=some u5:=
 ⟨h.out.one.cell 0 rfl,h.out.one.cell 1 rfl,h.out.one.cell 2 rfl,h.out.one.cell 3 rfl,h.out.one.cell 4 rfl,h.out.one.cell 5 rfl⟩
theorem six_set {w:World}{u0 u1 u2 u3 u4 u5:Value}{zs:Array Value}{V:World}(h:Box2 w 34 #[u0,u1,u2,u3,u4,u5] zs V)(i:Nat)(v:Value):Box2 w 34 #[u0,u1,u2,u3,u4,u5] (zs.setIfInBounds i v) (V.setCell ⟨w.heap.size+1,i,none⟩ v):=
 ⟨h.one.kept (S:=fun k=>k=w.heap.size+1) (Kept.set (S:=fun k=>k=w.heap.size+1) (p:=⟨w.heap.size+1,i,none⟩) (Kept.refl _ _) rfl _) (by omega),h.two.set i v,h.below.setCell (by show w.heap.size≤w.heap.size+1;omega) _⟩
theorem six_end {w:World}{u0 u1 u2 u3 u4 u5:Value}{zs:Array Value}{V:World}(h:Hid (Box2 w 34 #[u0,u1,u2,u3,u4,u5] zs V))(v0 v1 v2 v3 v4 v5:Value):
  Hid (Box2 w 34 #[u0,u1,u2,u3,u4,u5] ((((((zs.setIfInBounds 0 v0).setIfInBounds 1 v1).setIfInBounds 2 v2).setIfInBounds 3 v3).setIfInBounds 4 v4).setIfInBounds 5 v5) ((((((V.setCell ⟨w.heap.size+1,0,none⟩ v0).setCell ⟨w.heap.size+1,1,none⟩ v1).setCell ⟨w.heap.size+1,2,none⟩ v2).setCell ⟨w.heap.size+1,3,none⟩ v3).setCell ⟨w.heap.size+1,4,none⟩ v4).setCell ⟨w.heap.size+1,5,none⟩ v5)):=
 six_set (six_set (six_set (six_set (six_set (six_set h.out 0 v0) 1 v1) 2 v2) 3 v3) 4 v4) 5 v5
theorem six_kept {w:World}(V:World)(v0 v1 v2 v3 v4 v5:Value):Kept (fun k=>k<w.heap.size+2) V ((((((V.setCell ⟨w.heap.size+1,0,none⟩ v0).setCell ⟨w.heap.size+1,1,none⟩ v1).setCell ⟨w.heap.size+1,2,none⟩ v2).setCell ⟨w.heap.size+1,3,none⟩ v3).setCell ⟨w.heap.size+1,4,none⟩ v4).setCell ⟨w.heap.size+1,5,none⟩ v5):=by
 have h:∀(W W':World) (i:Nat) (v:Value),Kept (fun k=>k<w.heap.size+2) W W'→Kept (fun k=>k<w.heap.size+2) W (W'.setCell ⟨w.heap.size+1,i,none⟩ v):=fun W W' i v k=>Kept.set (S:=fun k=>k<w.heap.size+2) (p:=⟨w.heap.size+1,i,none⟩) k (by show w.heap.size+1<_;omega) v
 exact h _ _ _ _ (h _ _ _ _ (h _ _ _ _ (h _ _ _ _ (h _ _ _ _ (h _ _ _ _ (Kept.refl _ V))))))
theorem StgRow.copied {W V:World}{u:Value}{xs:List Stg}(h:Row 13 (fun w cs x=>StgIs w x cs) (upw W.heap.size V) u xs)(hl:Len 176 xs):StgRow (upw W.heap.size V) u xs:=row_stgRow h hl
theorem copyC0 {w:World}{cs zs:Array Value}{u:Value}{xs:List Hdr}(h:Hid (HdrRow w u xs))(W:World)(hB:Hid (Box2 w 34 cs zs W)):Calls Tryz.prog 95 #[u,.func (.func 96) #[] #[]] W fun e V=>∃ a' c',e=.returned (.slice a' xs.length c')∧Hid (HdrRow (upw W.heap.size V) (.slice a' xs.length c') xs)∧Hid (Below W.heap.size W V)∧Hid (Box2 w 34 cs zs V):=by
 have hp:Pres w W:=pres_below hB.out.below
 refine(each_sliced (eachHdr_any _ _ W (h.out.pres hp).1 h.out.2 (fun x _ w cs hI=>copyHdr_any x cs w hI))).mono ?_
 rintro e V ⟨a',c',rfl,hr,hb⟩
 have hk:=hB.out.keep hb
 exact⟨a',c',rfl,⟨hr,h.out.2⟩,hb,hk⟩
theorem copyC1 {w:World}{cs zs:Array Value}{u:Value}{xs:List Fld}(h:Hid (FldRow w u xs))(W:World)(hB:Hid (Box2 w 34 cs zs W)):Calls Tryz.prog 97 #[u,.func (.func 98) #[] #[]] W fun e V=>∃ a' c',e=.returned (.slice a' xs.length c')∧Hid (FldRow (upw W.heap.size V) (.slice a' xs.length c') xs)∧Hid (Below W.heap.size W V)∧Hid (Box2 w 34 cs zs V):=by
 have hp:Pres w W:=pres_below hB.out.below
 refine(each_sliced (eachFld_any _ _ W (h.out.pres hp).1 h.out.2 (flat_copies copyFld_any))).mono ?_
 rintro e V ⟨a',c',rfl,hr,hb⟩
 have hk:=hB.out.keep hb
 exact⟨a',c',rfl,⟨hr,h.out.2⟩,hb,hk⟩
theorem copyC2 {w:World}{cs zs:Array Value}{u:Value}{xs:List Sta}(h:Hid (StaRow w u xs))(W:World)(hB:Hid (Box2 w 34 cs zs W)):Calls Tryz.prog 99 #[u,.func (.func 100) #[] #[]] W fun e V=>∃ a' c',e=.returned (.slice a' xs.length c')∧Hid (StaRow (upw W.heap.size V) (.slice a' xs.length c') xs)∧Hid (Below W.heap.size W V)∧Hid (Box2 w 34 cs zs V):=by
 have hp:Pres w W:=pres_below hB.out.below
 refine(each_sliced (eachSta_any _ _ W (h.out.pres hp).1 h.out.2 (fun x _ w cs hI=>copySta_any x cs w hI))).mono ?_
 rintro e V ⟨a',c',rfl,hr,hb⟩
 have hk:=hB.out.keep hb
 exact⟨a',c',rfl,⟨hr,h.out.2⟩,hb,hk⟩
theorem copyC3 {w:World}{cs zs:Array Value}{u:Value}{xs:List Actn}(h:Hid (ActRow w u xs))(W:World)(hB:Hid (Box2 w 34 cs zs W)):Calls Tryz.prog 101 #[u,.func (.func 102) #[] #[]] W fun e V=>∃ a' c',e=.returned (.slice a' xs.length c')∧Hid (ActRow (upw W.heap.size V) (.slice a' xs.length c') xs)∧Hid (Below W.heap.size W V)∧Hid (Box2 w 34 cs zs V):=by
 have hp:Pres w W:=pres_below hB.out.below
 refine(each_sliced (eachAct_any _ _ W (h.out.pres hp).1 h.out.2 (fun x _ w cs hI=>copyAct_any x cs w hI))).mono ?_
 rintro e V ⟨a',c',rfl,hr,hb⟩
 have hk:=hB.out.keep hb
 exact⟨a',c',rfl,⟨hr,h.out.2⟩,hb,hk⟩
theorem copyC4 {w:World}{cs zs:Array Value}{u:Value}{xs:List Tbl}(h:Hid (TblRow w u xs))(W:World)(hB:Hid (Box2 w 34 cs zs W)):Calls Tryz.prog 103 #[u,.func (.func 104) #[] #[]] W fun e V=>∃ a' c',e=.returned (.slice a' xs.length c')∧Hid (TblRow (upw W.heap.size V) (.slice a' xs.length c') xs)∧Hid (Below W.heap.size W V)∧Hid (Box2 w 34 cs zs V):=by
 have hp:Pres w W:=pres_below hB.out.below
 refine(each_sliced (eachTbl_any _ _ W (h.out.pres hp).1 h.out.2 (fun x _ w cs hI=>copyTbl_any x cs w hI))).mono ?_
 rintro e V ⟨a',c',rfl,hr,hb⟩
 have hk:=hB.out.keep hb
 exact⟨a',c',rfl,⟨hr,h.out.2⟩,hb,hk⟩
theorem copyC5 {w:World}{cs:Array Value}{u:Value}{xs:List Stg}(h:Hid (StgRow w u xs))(W:World)(hB:Hid (Box2 w 34 cs #[.slice none 0 0,.slice none 0 0,.slice none 0 0,.slice none 0 0,.slice none 0 0,.slice none 0 0] W)):Calls Tryz.prog 105 #[u,.func (.func 106) #[] #[]] W fun e V=>∃ a' c',e=.returned (.slice a' xs.length c')∧V.cell? ⟨w.heap.size+1,0,none⟩=some (.slice none 0 0)∧V.cell? ⟨w.heap.size+1,1,none⟩=some (.slice none 0 0)∧V.cell? ⟨w.heap.size+1,2,none⟩=some (.slice none 0 0)∧V.cell? ⟨w.heap.size+1,3,none⟩=some (.slice none 0 0)∧V.cell? ⟨w.heap.size+1,4,none⟩=some (.slice none 0 0)∧V.cell? ⟨w.heap.size+1,5,none⟩=some (.slice none 0 0)∧V.frozen? ⟨w.heap.size+1,0,none⟩=false∧V.frozen? ⟨w.heap.size+1,1,none⟩=false∧V.frozen? ⟨w.heap.size+1,2,none⟩=false∧V.frozen? ⟨w.heap.size+1,3,none⟩=false∧V.frozen? ⟨w.heap.size+1,4,none⟩=false∧V.frozen? ⟨w.heap.size+1,5,none⟩=false∧Hid (StgRow (upw W.heap.size V) (.slice a' xs.length c') xs)∧Hid (Below W.heap.size W V)∧Hid (Box2 w 34 cs #[.slice none 0 0,.slice none 0 0,.slice none 0 0,.slice none 0 0,.slice none 0 0,.slice none 0 0] V):=by
 have hp:Pres w W:=pres_below hB.out.below
 refine(each_sliced (eachStg_any _ _ W (stgRow_row (h.out.pres hp)).1 (stgRow_row h.out).2 (fun x _ w cs hI=>copyStg_all _ x (Nat.le_refl _) w cs hI))).mono ?_
 rintro e V ⟨a',c',rfl,hr,hb⟩
 have hk:=hB.out.keep hb
 exact⟨a',c',rfl,hk.two.cell 0 rfl,hk.two.cell 1 rfl,hk.two.cell 2 rfl,hk.two.cell 3 rfl,hk.two.cell 4 rfl,hk.two.cell 5 rfl,hk.two.frozen 0,hk.two.frozen 1,hk.two.frozen 2,hk.two.frozen 3,hk.two.frozen 4,hk.two.frozen 5,row_stgRow hr (stgRow_row h.out).2,hb,hk⟩
theorem copy_any (v:Value)(s:Sch)(w:World)(h:SchIs w v s):Calls Tryz.prog 28 #[v] w fun e w'=>∃ v',e=.returned v'∧SchIs (upw w.heap.size w') v' s∧Below w.heap.size w w':=by
 obtain⟨u0,u1,u2,u3,u4,u5,rfl,h0,h1,h2,h3,h4,h5⟩:=h
 have H0:Hid (HdrRow w u0 s.headers):=h0
 have H1:Hid (FldRow w u1 s.metas):=h1
 have H2:Hid (StaRow w u2 s.states):=h2
 have H3:Hid (ActRow w u3 s.actions):=h3
 have H4:Hid (TblRow w u4 s.tables):=h4
 have H5:Hid (StgRow w u5 s.control):=h5
 obtain⟨a0,c0,e0,_⟩:=h0.1.slice
 have o0:u0.oneCell'=true:=by rw[e0];rfl
 clear e0
 obtain⟨a1,c1,e1,_⟩:=h1.1.slice
 have o1:u1.oneCell'=true:=by rw[e1];rfl
 clear e1
 obtain⟨a2,c2,e2,_⟩:=h2.1.slice
 have o2:u2.oneCell'=true:=by rw[e2];rfl
 clear e2
 obtain⟨a3,c3,e3,_⟩:=h3.1.slice
 have o3:u3.oneCell'=true:=by rw[e3];rfl
 clear e3
 obtain⟨a4,c4,e4,_⟩:=h4.1.slice
 have o4:u4.oneCell'=true:=by rw[e4];rfl
 clear e4
 obtain⟨a5,c5,e5,_⟩:=h5.slice
 have o5:u5.oneCell'=true:=by rw[e5];rfl
 clear e5
 clear h0 h1 h2 h3 h4 h5
 have HB:Hid (Box2 w 34 #[u0,u1,u2,u3,u4,u5] #[.slice none 0 0,.slice none 0 0,.slice none 0 0,.slice none 0 0,.slice none 0 0,.slice none 0 0] (((w.alloc (.cells #[u0,u1,u2,u3,u4,u5] 34)).alloc (.cells #[.slice none 0 0,.slice none 0 0,.slice none 0 0,.slice none 0 0,.slice none 0 0,.slice none 0 0] 34)).drew)):=(Box2.start w 34 _ _).drew
 generalize hn0:s.headers=x0 at H0
 generalize hn1:s.metas=x1 at H1
 generalize hn2:s.states=x2 at H2
 generalize hn3:s.actions=x3 at H3
 generalize hn4:s.tables=x4 at H4
 generalize hn5:s.control=x5 at H5
 go_enter Tryz.func28,Tryz.ntmps28
 go_wp2_with fail
 go_region_held3 (fun w'=>w'.cell? ⟨w.heap.size,0,none⟩=some u0∧w'.cell? ⟨w.heap.size,1,none⟩=some u1∧w'.cell? ⟨w.heap.size,2,none⟩=some u2∧w'.cell? ⟨w.heap.size,3,none⟩=some u3∧w'.cell? ⟨w.heap.size,4,none⟩=some u4∧w'.cell? ⟨w.heap.size,5,none⟩=some u5)
  (first|exact six_of (by with_reducible assumption)|exact six_of (six_end K5 _ _ _ _ _ _))
  (first
    | (go_at_call 95; refine (copyC0 H0 _ (by with_reducible assumption)).mono ?_; rintro e V0 ⟨b0, d0, rfl, R0, B0, K0⟩)
    | (go_at_call 97; refine (copyC1 H1 _ (by with_reducible assumption)).mono ?_; rintro e V1 ⟨b1, d1, rfl, R1, B1, K1⟩)
    | (go_at_call 99; refine (copyC2 H2 _ (by with_reducible assumption)).mono ?_; rintro e V2 ⟨b2, d2, rfl, R2, B2, K2⟩)
    | (go_at_call 101; refine (copyC3 H3 _ (by with_reducible assumption)).mono ?_; rintro e V3 ⟨b3, d3, rfl, R3, B3, K3⟩)
    | (go_at_call 103; refine (copyC4 H4 _ (by with_reducible assumption)).mono ?_; rintro e V4 ⟨b4, d4, rfl, R4, B4, K4⟩)
    | (go_at_call 105; refine (copyC5 H5 _ (by with_reducible assumption)).mono ?_; rintro e V5 ⟨b5, d5, rfl, z0, z1, z2, z3, z4, z5, y0, y1, y2, y3, y4, y5, R5, B5, K5⟩))
 clear z0 z1 z2 z3 z4 z5 y0 y1 y2 y3 y4 y5
 have HE:Hid (Blk ((((((V5.setCell ⟨w.heap.size+1,0,none⟩ (.slice b0 x0.length d0)).setCell ⟨w.heap.size+1,1,none⟩ (.slice b1 x1.length d1)).setCell ⟨w.heap.size+1,2,none⟩ (.slice b2 x2.length d2)).setCell ⟨w.heap.size+1,3,none⟩ (.slice b3 x3.length d3)).setCell ⟨w.heap.size+1,4,none⟩ (.slice b4 x4.length d4)).setCell ⟨w.heap.size+1,5,none⟩ (.slice b5 x5.length d5)) (w.heap.size+1) #[.slice b0 x0.length d0,.slice b1 x1.length d1,.slice b2 x2.length d2,.slice b3 x3.length d3,.slice b4 x4.length d4,.slice b5 x5.length d5] 34∧Bl w ((((((V5.setCell ⟨w.heap.size+1,0,none⟩ (.slice b0 x0.length d0)).setCell ⟨w.heap.size+1,1,none⟩ (.slice b1 x1.length d1)).setCell ⟨w.heap.size+1,2,none⟩ (.slice b2 x2.length d2)).setCell ⟨w.heap.size+1,3,none⟩ (.slice b3 x3.length d3)).setCell ⟨w.heap.size+1,4,none⟩ (.slice b4 x4.length d4)).setCell ⟨w.heap.size+1,5,none⟩ (.slice b5 x5.length d5))∧Pres (upw (w.heap.size+2) V5) (upw (w.heap.size+2) ((((((V5.setCell ⟨w.heap.size+1,0,none⟩ (.slice b0 x0.length d0)).setCell ⟨w.heap.size+1,1,none⟩ (.slice b1 x1.length d1)).setCell ⟨w.heap.size+1,2,none⟩ (.slice b2 x2.length d2)).setCell ⟨w.heap.size+1,3,none⟩ (.slice b3 x3.length d3)).setCell ⟨w.heap.size+1,4,none⟩ (.slice b4 x4.length d4)).setCell ⟨w.heap.size+1,5,none⟩ (.slice b5 x5.length d5)))):=by
  have h:=six_end K5 (.slice b0 x0.length d0) (.slice b1 x1.length d1) (.slice b2 x2.length d2) (.slice b3 x3.length d3) (.slice b4 x4.length d4) (.slice b5 x5.length d5)
  refine⟨h.out.two,h.out.below,up_kept ?_⟩
  exact(six_kept V5 _ _ _ _ _ _)
 rename_i hHeld
 clear hHeld
 generalize ((((((V5.setCell ⟨w.heap.size+1,0,none⟩ (.slice b0 x0.length d0)).setCell ⟨w.heap.size+1,1,none⟩ (.slice b1 x1.length d1)).setCell ⟨w.heap.size+1,2,none⟩ (.slice b2 x2.length d2)).setCell ⟨w.heap.size+1,3,none⟩ (.slice b3 x3.length d3)).setCell ⟨w.heap.size+1,4,none⟩ (.slice b4 x4.length d4)).setCell ⟨w.heap.size+1,5,none⟩ (.slice b5 x5.length d5))=WF at HE ⊢
 obtain⟨k0,k1,k2,k3,k4,k5⟩:=HE.out.1.c6
 have P5:=HE.out.2.2.trans (up_mono WF (show w.heap.size≤w.heap.size+2 by omega))
 have P4:=(up_below (B:=w.heap.size+2) B5.out).trans P5
 have P3:=(up_below (B:=w.heap.size+2) B4.out).trans P4
 have P2:=(up_below (B:=w.heap.size+2) B3.out).trans P3
 have P1:=(up_below (B:=w.heap.size+2) B2.out).trans P2
 have P0:=(up_below (B:=w.heap.size+2) B1.out).trans P1
 have T0:Hid (HdrRow (upw w.heap.size WF) (.slice b0 x0.length d0) s.headers):=by
  show HdrRow _ _ _
  rw[hn0]
  exact(R0.out.pres ((up_mono _ (HB.out.size)).trans P0))
 have T1:Hid (FldRow (upw w.heap.size WF) (.slice b1 x1.length d1) s.metas):=by
  show FldRow _ _ _
  rw[hn1]
  exact(R1.out.pres ((up_mono _ (K0.out.size)).trans P1))
 have T2:Hid (StaRow (upw w.heap.size WF) (.slice b2 x2.length d2) s.states):=by
  show StaRow _ _ _
  rw[hn2]
  exact(R2.out.pres ((up_mono _ (K1.out.size)).trans P2))
 have T3:Hid (ActRow (upw w.heap.size WF) (.slice b3 x3.length d3) s.actions):=by
  show ActRow _ _ _
  rw[hn3]
  exact(R3.out.pres ((up_mono _ (K2.out.size)).trans P3))
 have T4:Hid (TblRow (upw w.heap.size WF) (.slice b4 x4.length d4) s.tables):=by
  show TblRow _ _ _
  rw[hn4]
  exact(R4.out.pres ((up_mono _ (K3.out.size)).trans P4))
 have T5:Hid (StgRow (upw w.heap.size WF) (.slice b5 x5.length d5) s.control):=by
  show StgRow _ _ _
  rw[hn5]
  exact(R5.out.pres ((up_mono _ (K4.out.size)).trans P5))
 clear P0 P1 P2 P3 P4 P5
 go_wp2
 refine bodyPost_ret (v:=.agg #[.slice b0 x0.length d0,.slice b1 x1.length d1,.slice b2 x2.length d2,.slice b3 x3.length d3,.slice b4 x4.length d4,.slice b5 x5.length d5]) (by simp[results,Tryz.results28,go_sem,k0,k1,k2,k3,k4,k5]) rfl ⟨_,rfl,⟨_,_,_,_,_,_,rfl,T0.out,T1.out,T2.out,T3.out,T4.out,T5.out⟩,HE.out.2.1⟩
end Go.Proofs.YtmbpclknhkbbkaaGreat
