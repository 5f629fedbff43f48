/- Package schema: each, over texts. -/
import Derived.Test.YtmbpclknhkbbkaaGreatB24
set_option linter.unusedSimpArgs false
set_option linter.unusedVariables false
set_option maxHeartbeats 2000000
set_option maxRecDepth 100000
namespace Go.Proofs.YtmbpclknhkbbkaaGreat
open Go.RowKit
theorem txt_good:Good 1 (Flat TxtC Okt):=flat_good (fun _=>rfl) (fun _=>by simp[TxtC,Value.oneCell'])
theorem info9:(Tryz.prog.info? 9).map (fun i=>(i.zero,i.size,i.bytes))=some (some (.string ⟨#[]⟩),1,16):=by kernel_rfl
theorem eachTxt_any (v:Value)(xs:List ByteArray)(w:World)(hr:Row 1 (Flat TxtC Okt) w v xs)(hl:Len 16 xs):
  Calls Tryz.prog 183 #[v,.func (.func 87) #[] #[]] w fun e w'=>∃ v',e=.returned v'∧Row 1 (Flat TxtC Okt) (upw w.heap.size w') v' xs∧Below w.heap.size w w':=by
 obtain⟨ad,cap,rfl,hcap⟩:=hr.slice
 by_cases h0:xs=[]
 ·subst h0
  go_enter Tryz.func183,Tryz.ntmps183
  go_wp2
  go_ret
  exact⟨_,rfl,⟨none,0,rfl,Nat.le_refl _,.inl rfl⟩,Below.refl _ _⟩
 have hlen:xs.length*16≤140737488351232:=hl
 have hpos:0<xs.length:=List.length_pos_iff.2 h0
 obtain⟨i0,hi,hz0,hz1,hz2⟩:=info_of info9
 have HR:Hid (Row 1 (Flat TxtC Okt) w (.slice ad xs.length cap) xs):=hr
 obtain⟨n,hn⟩:∃ n,n=xs.length:=⟨_,rfl⟩
 have HL:Hid (n=xs.length):=hn
 rw[← hn] at hlen hpos HR ⊢
 have hne:((n:Int)==0)=false:=by simp;omega
 have hb1:i0.bytes*n≤281474976710656:=by rw[hz2];omega
 have hb2:n≤maxLen:=by unfold maxLen;omega
 clear hr hl hn hcap h0
 go_enter Tryz.func183,Tryz.ntmps183
 go_wp2_with (at_make;refine wpList_make_full _ rfl _ _ 36 rfl w.heap.size 9 i0 (.string ⟨#[]⟩) 1 Tryz.underlying36 hi hz0 hz1 _ _ _ _ n rfl rfl rfl rfl hb1 hb2 (Nat.le_refl _) ?_)
 intro w1 hown hgr
 have HE0:Hid (EachAt 1 9 (Flat TxtC Okt) w w.heap.size n xs w1 0):=EachAt.start hown hgr
 clear hown hgr hb1 hb2 hi hz0 hz1 hz2
 go_wp2_with fail
 go_loopw [16] (fun i wr=>∃ k:Nat,k≤n∧i=.int .i64 k∧EachAt 1 9 (Flat TxtC Okt) w w.heap.size n xs wr k) (fun i _=>n - (intOf i).toNat)
 case atStart=>exact⟨0,by omega,rfl,HE0.out⟩
 case round=>
  obtain⟨k,hk,rfl,hE⟩:=hrel
  have HE:Hid (EachAt 1 9 (Flat TxtC Okt) w w.heap.size n xs wr k):=hE
  clear hE HE0
  by_cases hlt:k<n
  ·obtain⟨x,hx⟩:=gE HL.out hlt
   obtain⟨b,o,cs,rfl,hsz,hcl,rfl,hok⟩:=HR.out.at hx
   have R1:wr.cell? ⟨b,o+k,none⟩=some (.string x):=by
    have:=pres_below HE.out.below _ _ (hcl 0 (.string x) rfl)
    simpa using this
   have C:Hid (Cs 87 #[.string x] wr fun e w'=>e=.returned (.string x)∧(w'.cell? ⟨w.heap.size,k,none⟩).isSome=true∧w'.frozen? ⟨w.heap.size,k,none⟩=false∧Hid (Bl wr w')):=by
    refine(clone_any x wr hok).mono ?_
    rintro e w' ⟨rfl,hb⟩
    have:=HE.out.there hb hlt rfl 0 (by omega)
    simp only[Nat.mul_one,Nat.add_zero] at this
    exact⟨rfl,this.1,this.2,hb⟩
   have HX:Hid (xs[k]?=some x∧Okt x):=⟨hx,hok⟩
   clear hx hcl hok hsz
   go_wp2_with fail
   refine C.out.mono ?_
   rintro e w3 ⟨rfl,hs,hf,H3⟩
   obtain⟨u,hu⟩:=Option.isSome_iff_exists.1 hs
   clear C R1 hs
   have HE4:Hid (EachAt 1 9 (Flat TxtC Okt) w w.heap.size n xs (w3.setCell ⟨w.heap.size,k,none⟩ (.string x)) (k+1)):=by
    have:=EachAt.step txt_good HE.out H3.out hlt HX.out.1 (dl:=[.string x]) rfl ⟨rfl,HX.out.2⟩
    simp only[World.setCells,Nat.mul_one] at this
    exact this
   go_wp2_with fail
   exact⟨⟨k+1,by omega,by go_num,HE4.out⟩,by simp only[intOf];omega⟩
  ·have e:k=n:=by omega
   subst e
   go_wp2
   go_ret
   exact⟨_,rfl,HE.out.fin txt_good HL.out,HE.out.below⟩
theorem info167:(Tryz.prog.info? 167).map (fun i=>(i.zero,i.size,i.bytes))=some (some (.agg #[.int .i64 0,.string ⟨#[]⟩,.string ⟨#[]⟩,.int .i64 0,.string ⟨#[]⟩,.string ⟨#[]⟩,.int .u64 0,.int .u64 0,.string ⟨#[]⟩,.string ⟨#[]⟩,.int .u64 0,.int .u64 0]),12,144):=by kernel_rfl
theorem isz167:(Tryz.prog.info? 167).map (·.size)=some 12:=by kernel_rfl
theorem eachStp_any (v:Value)(xs:List Stp)(w:World)(hr:Row 12 (Flat StpC StpOk) w v xs)(hl:Len 144 xs)(hc:CopyOk 180 12 (Flat StpC StpOk) xs):
  Calls Tryz.prog 179 #[v,.func (.func 180) #[] #[]] w fun e w'=>∃ v',e=.returned v'∧Row 12 (Flat StpC StpOk) (upw w.heap.size w') v' xs∧Below w.heap.size w w':=by
 obtain⟨ad,cap,rfl,hcap⟩:=hr.slice
 by_cases h0:xs=[]
 ·subst h0
  go_enter Tryz.func179,Tryz.ntmps179
  go_wp2
  go_ret
  exact⟨_,rfl,⟨none,0,rfl,Nat.le_refl _,.inl rfl⟩,Below.refl _ _⟩
 have hlen:xs.length*144≤140737488351232:=hl
 have hpos:0<xs.length:=List.length_pos_iff.2 h0
 obtain⟨i0,hi,hz0,hz1,hz2⟩:=info_of info167
 have HR:Hid (Row 12 (Flat StpC StpOk) w (.slice ad xs.length cap) xs):=hr
 have HC:Hid (CopyOk 180 12 (Flat StpC StpOk) xs):=hc
 obtain⟨n,hn⟩:∃ n,n=xs.length:=⟨_,rfl⟩
 have HL:Hid (n=xs.length):=hn
 rw[← hn] at hlen hpos HR ⊢
 have hne:((n:Int)==0)=false:=by simp;omega
 have hb1:i0.bytes*n≤281474976710656:=by rw[hz2];omega
 have hb2:n≤maxLen:=by unfold maxLen;omega
 clear hr hc hl hn hcap h0
 go_enter Tryz.func179,Tryz.ntmps179
 go_wp2_with (at_make;refine wpList_make_full _ rfl _ _ 63 rfl w.heap.size 167 i0 (.agg #[.int .i64 0,.string ⟨#[]⟩,.string ⟨#[]⟩,.int .i64 0,.string ⟨#[]⟩,.string ⟨#[]⟩,.int .u64 0,.int .u64 0,.string ⟨#[]⟩,.string ⟨#[]⟩,.int .u64 0,.int .u64 0]) 12 Tryz.underlying63 hi hz0 hz1 _ _ _ _ n rfl rfl rfl rfl hb1 hb2 (Nat.le_refl _) ?_)
 intro w1 hown hgr
 have HE0:Hid (EachAt 12 167 (Flat StpC StpOk) w w.heap.size n xs w1 0):=EachAt.start hown hgr
 clear hown hgr hb1 hb2 hi hz0 hz1 hz2
 go_wp2_with fail
 go_loopw [16] (fun i wr=>∃ k:Nat,k≤n∧i=.int .i64 k∧EachAt 12 167 (Flat StpC StpOk) w w.heap.size n xs wr k) (fun i _=>n - (intOf i).toNat)
 case atStart=>exact⟨0,by omega,rfl,HE0.out⟩
 case round=>
  obtain⟨k,hk,rfl,hE⟩:=hrel
  have HE:Hid (EachAt 12 167 (Flat StpC StpOk) w w.heap.size n xs wr k):=hE
  clear hE HE0
  by_cases hlt:k<n
  ·obtain⟨x,hx⟩:=gE HL.out hlt
   obtain⟨b,o,⟨cl⟩,rfl,hsz,hcl,hI⟩:=HR.out.at hx
   have hcs:cl.length=12:=hsz
   have hz:=isz167
   have hz':(Tryz.prog.info? 167).map (·.size)=some cl.length:=by rw[hcs];exact hz
   have R1:Hid (wr.rangeAt b (o+k*12) cl):=fun j u hu=>pres_below HE.out.below _ _ (hcl j u (by simpa using hu))
   have ST2:Hid ((wr.alloc (.cells #[.int .i64 0,.string ⟨#[]⟩,.string ⟨#[]⟩,.int .i64 0,.string ⟨#[]⟩,.string ⟨#[]⟩,.int .u64 0,.int .u64 0,.string ⟨#[]⟩,.string ⟨#[]⟩,.int .u64 0,.int .u64 0] 167)).there wr.heap.size 0 cl.toArray.size):=there_new wr #[.int .i64 0,.string ⟨#[]⟩,.string ⟨#[]⟩,.int .i64 0,.string ⟨#[]⟩,.string ⟨#[]⟩,.int .u64 0,.int .u64 0,.string ⟨#[]⟩,.string ⟨#[]⟩,.int .u64 0,.int .u64 0] 167 (by simp[hcs])
   have ON:Hid (cl.toArray.all (·.oneCell')=true):=stp_good.one hI
   have R3:Hid (((wr.alloc (.cells #[.int .i64 0,.string ⟨#[]⟩,.string ⟨#[]⟩,.int .i64 0,.string ⟨#[]⟩,.string ⟨#[]⟩,.int .u64 0,.int .u64 0,.string ⟨#[]⟩,.string ⟨#[]⟩,.int .u64 0,.int .u64 0] 167)).setCells wr.heap.size 0 cl).rangeAt wr.heap.size 0 cl):=World.rangeAt_setCells_same _ _ _ _ (there_new wr #[.int .i64 0,.string ⟨#[]⟩,.string ⟨#[]⟩,.int .i64 0,.string ⟨#[]⟩,.string ⟨#[]⟩,.int .u64 0,.int .u64 0,.string ⟨#[]⟩,.string ⟨#[]⟩,.int .u64 0,.int .u64 0] 167 (by simp[hcs]))
   have B2:Hid (Bl wr ((wr.alloc (.cells #[.int .i64 0,.string ⟨#[]⟩,.string ⟨#[]⟩,.int .i64 0,.string ⟨#[]⟩,.string ⟨#[]⟩,.int .u64 0,.int .u64 0,.string ⟨#[]⟩,.string ⟨#[]⟩,.int .u64 0,.int .u64 0] 167)).setCells wr.heap.size 0 cl)):=below_setCells ((Below.refl _ _).alloc (Nat.le_refl _) _) (Nat.le_refl _) _ _
   have C:Hid (Cs 180 #[.agg cl.toArray] ((wr.alloc (.cells #[.int .i64 0,.string ⟨#[]⟩,.string ⟨#[]⟩,.int .i64 0,.string ⟨#[]⟩,.string ⟨#[]⟩,.int .u64 0,.int .u64 0,.string ⟨#[]⟩,.string ⟨#[]⟩,.int .u64 0,.int .u64 0] 167)).setCells wr.heap.size 0 cl) fun e w'=>∃ dl:List Value,e=.returned (.agg dl.toArray)∧Hid (dl.length=12∧dl.toArray.all (·.oneCell')=true∧(Flat StpC StpOk) (upw wr.heap.size w') dl.toArray x∧Bl wr w'∧w'.there w.heap.size (k*12) dl.toArray.size)):=by
    refine(HC.out x (List.mem_of_getElem? hx) _ cl.toArray (stp_good.pres ((pres_below HE.out.below).trans (pres_below B2.out)) hI)).mono ?_
    rintro e w' ⟨⟨dl⟩,rfl,h1,h2⟩
    have hd:dl.length=12:=stp_good.size h1
    refine⟨dl,rfl,hd,stp_good.one h1,stp_good.pres (up_mono _ (size_setCells_le _ _ _ _)) h1,B2.out.trans (h2.mono B2.out.size),?_⟩
    exact HE.out.there (B2.out.trans (h2.mono B2.out.size)) hlt (by simp[hd])
   have HX:Hid (xs[k]?=some x):=hx
   clear hx hcl hI hsz
   go_wp2_with (first|(refine wpList_load_mid rfl 167 _ rfl b (o+k*12) rfl cl _ R1.out Tryz.underlying167 rfl hz' ?_)|(refine wpList_store_mid rfl 167 _ _ rfl wr.heap.size 0 cl.toArray rfl rfl ST2.out (by rw[List.size_toArray];exact hz') ON.out ?_)|(refine wpList_load_mid rfl 167 _ rfl wr.heap.size 0 rfl cl _ R3.out Tryz.underlying167 rfl hz' ?_))
   refine C.out.mono ?_
   rintro e w3 ⟨dl,rfl,H3⟩
   clear C R1 ST2 ON R3 B2
   have hd':(Tryz.prog.info? 167).map (·.size)=some dl.toArray.size:=by rw[List.size_toArray,H3.out.1];exact hz
   have HE4:Hid (EachAt 12 167 (Flat StpC StpOk) w w.heap.size n xs (w3.setCells w.heap.size (k*12) dl) (k+1)):=EachAt.step stp_good HE.out H3.out.2.2.2.1 hlt HX.out H3.out.1 H3.out.2.2.1
   go_wp2_with (refine wpList_store_mid rfl 167 _ _ rfl w.heap.size (k*12) dl.toArray rfl rfl H3.out.2.2.2.2 hd' H3.out.2.1 ?_)
   exact⟨⟨k+1,by omega,by go_num,HE4.out⟩,by simp only[intOf];omega⟩
  ·have e:k=n:=by omega
   subst e
   go_wp2
   go_ret
   exact⟨_,rfl,HE.out.fin stp_good HL.out,HE.out.below⟩
theorem info116:(Tryz.prog.info? 116).map (fun i=>(i.zero,i.size,i.bytes))=some (some (.agg #[.string ⟨#[]⟩,.string ⟨#[]⟩,.int .i64 0]),3,40):=by kernel_rfl
theorem isz116:(Tryz.prog.info? 116).map (·.size)=some 3:=by kernel_rfl
theorem eachKy_any (v:Value)(xs:List Ky)(w:World)(hr:Row 3 (Flat KyC KyOk) w v xs)(hl:Len 40 xs)(hc:CopyOk 182 3 (Flat KyC KyOk) xs):
  Calls Tryz.prog 181 #[v,.func (.func 182) #[] #[]] w fun e w'=>∃ v',e=.returned v'∧Row 3 (Flat KyC KyOk) (upw w.heap.size w') v' xs∧Below w.heap.size w w':=by
 obtain⟨ad,cap,rfl,hcap⟩:=hr.slice
 by_cases h0:xs=[]
 ·subst h0
  go_enter Tryz.func181,Tryz.ntmps181
  go_wp2
  go_ret
  exact⟨_,rfl,⟨none,0,rfl,Nat.le_refl _,.inl rfl⟩,Below.refl _ _⟩
 have hlen:xs.length*40≤140737488351232:=hl
 have hpos:0<xs.length:=List.length_pos_iff.2 h0
 obtain⟨i0,hi,hz0,hz1,hz2⟩:=info_of info116
 have HR:Hid (Row 3 (Flat KyC KyOk) w (.slice ad xs.length cap) xs):=hr
 have HC:Hid (CopyOk 182 3 (Flat KyC KyOk) xs):=hc
 obtain⟨n,hn⟩:∃ n,n=xs.length:=⟨_,rfl⟩
 have HL:Hid (n=xs.length):=hn
 rw[← hn] at hlen hpos HR ⊢
 have hne:((n:Int)==0)=false:=by simp;omega
 have hb1:i0.bytes*n≤281474976710656:=by rw[hz2];omega
 have hb2:n≤maxLen:=by unfold maxLen;omega
 clear hr hc hl hn hcap h0
 go_enter Tryz.func181,Tryz.ntmps181
 go_wp2_with (at_make;refine wpList_make_full _ rfl _ _ 49 rfl w.heap.size 116 i0 (.agg #[.string ⟨#[]⟩,.string ⟨#[]⟩,.int .i64 0]) 3 Tryz.underlying49 hi hz0 hz1 _ _ _ _ n rfl rfl rfl rfl hb1 hb2 (Nat.le_refl _) ?_)
 intro w1 hown hgr
 have HE0:Hid (EachAt 3 116 (Flat KyC KyOk) w w.heap.size n xs w1 0):=EachAt.start hown hgr
 clear hown hgr hb1 hb2 hi hz0 hz1 hz2
 go_wp2_with fail
 go_loopw [16] (fun i wr=>∃ k:Nat,k≤n∧i=.int .i64 k∧EachAt 3 116 (Flat KyC KyOk) w w.heap.size n xs wr k) (fun i _=>n - (intOf i).toNat)
 case atStart=>exact⟨0,by omega,rfl,HE0.out⟩
 case round=>
  obtain⟨k,hk,rfl,hE⟩:=hrel
  have HE:Hid (EachAt 3 116 (Flat KyC KyOk) w w.heap.size n xs wr k):=hE
  clear hE HE0
  by_cases hlt:k<n
  ·obtain⟨x,hx⟩:=gE HL.out hlt
   obtain⟨b,o,⟨cl⟩,rfl,hsz,hcl,hI⟩:=HR.out.at hx
   have hcs:cl.length=3:=hsz
   have hz:=isz116
   have hz':(Tryz.prog.info? 116).map (·.size)=some cl.length:=by rw[hcs];exact hz
   have R1:Hid (wr.rangeAt b (o+k*3) cl):=fun j u hu=>pres_below HE.out.below _ _ (hcl j u (by simpa using hu))
   have ST2:Hid ((wr.alloc (.cells #[.string ⟨#[]⟩,.string ⟨#[]⟩,.int .i64 0] 116)).there wr.heap.size 0 cl.toArray.size):=there_new wr #[.string ⟨#[]⟩,.string ⟨#[]⟩,.int .i64 0] 116 (by simp[hcs])
   have ON:Hid (cl.toArray.all (·.oneCell')=true):=ky_good.one hI
   have R3:Hid (((wr.alloc (.cells #[.string ⟨#[]⟩,.string ⟨#[]⟩,.int .i64 0] 116)).setCells wr.heap.size 0 cl).rangeAt wr.heap.size 0 cl):=World.rangeAt_setCells_same _ _ _ _ (there_new wr #[.string ⟨#[]⟩,.string ⟨#[]⟩,.int .i64 0] 116 (by simp[hcs]))
   have B2:Hid (Bl wr ((wr.alloc (.cells #[.string ⟨#[]⟩,.string ⟨#[]⟩,.int .i64 0] 116)).setCells wr.heap.size 0 cl)):=below_setCells ((Below.refl _ _).alloc (Nat.le_refl _) _) (Nat.le_refl _) _ _
   have C:Hid (Cs 182 #[.agg cl.toArray] ((wr.alloc (.cells #[.string ⟨#[]⟩,.string ⟨#[]⟩,.int .i64 0] 116)).setCells wr.heap.size 0 cl) fun e w'=>∃ dl:List Value,e=.returned (.agg dl.toArray)∧Hid (dl.length=3∧dl.toArray.all (·.oneCell')=true∧(Flat KyC KyOk) (upw wr.heap.size w') dl.toArray x∧Bl wr w'∧w'.there w.heap.size (k*3) dl.toArray.size)):=by
    refine(HC.out x (List.mem_of_getElem? hx) _ cl.toArray (ky_good.pres ((pres_below HE.out.below).trans (pres_below B2.out)) hI)).mono ?_
    rintro e w' ⟨⟨dl⟩,rfl,h1,h2⟩
    have hd:dl.length=3:=ky_good.size h1
    refine⟨dl,rfl,hd,ky_good.one h1,ky_good.pres (up_mono _ (size_setCells_le _ _ _ _)) h1,B2.out.trans (h2.mono B2.out.size),?_⟩
    exact HE.out.there (B2.out.trans (h2.mono B2.out.size)) hlt (by simp[hd])
   have HX:Hid (xs[k]?=some x):=hx
   clear hx hcl hI hsz
   go_wp2_with (first|(refine wpList_load_mid rfl 116 _ rfl b (o+k*3) rfl cl _ R1.out Tryz.underlying116 rfl hz' ?_)|(refine wpList_store_mid rfl 116 _ _ rfl wr.heap.size 0 cl.toArray rfl rfl ST2.out (by rw[List.size_toArray];exact hz') ON.out ?_)|(refine wpList_load_mid rfl 116 _ rfl wr.heap.size 0 rfl cl _ R3.out Tryz.underlying116 rfl hz' ?_))
   refine C.out.mono ?_
   rintro e w3 ⟨dl,rfl,H3⟩
   clear C R1 ST2 ON R3 B2
   have hd':(Tryz.prog.info? 116).map (·.size)=some dl.toArray.size:=by rw[List.size_toArray,H3.out.1];exact hz
   have HE4:Hid (EachAt 3 116 (Flat KyC KyOk) w w.heap.size n xs (w3.setCells w.heap.size (k*3) dl) (k+1)):=EachAt.step ky_good HE.out H3.out.2.2.2.1 hlt HX.out H3.out.1 H3.out.2.2.1
   go_wp2_with (refine wpList_store_mid rfl 116 _ _ rfl w.heap.size (k*3) dl.toArray rfl rfl H3.out.2.2.2.2 hd' H3.out.2.1 ?_)
   exact⟨⟨k+1,by omega,by go_num,HE4.out⟩,by simp only[intOf];omega⟩
  ·have e:k=n:=by omega
   subst e
   go_wp2
   go_ret
   exact⟨_,rfl,HE.out.fin ky_good HL.out,HE.out.below⟩
theorem copyTbl_any (x:Tbl)(cs:Array Value)(w:World)(hI:TblIs w cs x):Calls Tryz.prog 104 #[.agg cs] w fun e w'=>∃ cs',e=.returned (.agg cs')∧TblIs (upw w.heap.size w') cs' x∧Below w.heap.size w w':=by
 obtain⟨v0,v1,v2,rfl,okn,hf0,hf1,hf2⟩:=hI
 obtain⟨a0,c0,rfl,_⟩:=hf0.1.slice
 obtain⟨a1,c1,rfl,_⟩:=hf1.1.slice
 obtain⟨a2,c2,rfl,_⟩:=hf2.1.slice
 have HB0:Hid (Box3 w 51 #[.string x.name,.slice a0 x.keys.length c0,.slice a1 x.actions.length c1,.int .i64 x.size,.string x.dflt.action,.slice a2 x.dflt.args.length c2,.bool x.fixed] #[.string ⟨#[]⟩,.slice none 0 0,.slice none 0 0,.int .i64 0,.string ⟨#[]⟩,.slice none 0 0,.bool false] (fun _=>True) ((w.alloc (.cells #[.string x.name,.slice a0 x.keys.length c0,.slice a1 x.actions.length c1,.int .i64 x.size,.string x.dflt.action,.slice a2 x.dflt.args.length c2,.bool x.fixed] 51)).alloc (.cells #[.string ⟨#[]⟩,.slice none 0 0,.slice none 0 0,.int .i64 0,.string ⟨#[]⟩,.slice none 0 0,.bool false] 51))):=Box3.start w 51 _ _
 have C0:Hid (∀ w,Cs 87 #[.string x.name] w fun e w'=>e=.returned (.string x.name)∧Bl w w'):=fun w=>clone_any _ w (okn.1)
 have C1:Hid (∀ W,Pres w W→Cs 181 #[.slice a0 x.keys.length c0,.func (.func 182) #[] #[]] W fun e w'=>∃ a' c',e=.returned (.slice a' x.keys.length c')∧Row 3 (Flat KyC KyOk) (upw W.heap.size w') (.slice a' x.keys.length c') x.keys∧Bl W w'):=fun W hp=>each_sliced (eachKy_any _ _ W (hf0.pres hp).1 hf0.2 (flat_copies copyKy_any))
 have C2:Hid (∀ W,Pres w W→Cs 183 #[.slice a1 x.actions.length c1,.func (.func 87) #[] #[]] W fun e w'=>∃ a' c',e=.returned (.slice a' x.actions.length c')∧Row 1 (Flat TxtC Okt) (upw W.heap.size w') (.slice a' x.actions.length c') x.actions∧Bl W w'):=fun W hp=>each_sliced (eachTxt_any _ _ W (hf1.pres hp).1 hf1.2)
 have C3:Hid (∀ w,Cs 87 #[.string x.dflt.action] w fun e w'=>e=.returned (.string x.dflt.action)∧Bl w w'):=fun w=>clone_any _ w (okn.2.2)
 have C4:Hid (∀ W,Pres w W→∀ ty,∃ a' c' w',(Builtin.append_ #[43,43] ty #[.slice none 0 0,.slice a2 x.dflt.args.length c2]).run Tryz.prog W=.ok (.slice a' x.dflt.args.length c') w'∧Row 2 (Flat BitC Is128) (upw W.heap.size w') (.slice a' x.dflt.args.length c') x.dflt.args∧Bl W w'):=fun W hp ty=>append_copy W ty _ _ (hf2.pres hp).1 hf2.2
 go_enter Tryz.func104,Tryz.ntmps104
 go_upto_region 1 with fail
 generalize ((w.alloc _).alloc _)=W0 at HB0 ⊢
 have c0_:=HB0.out.one.cell 0 (v:=.string x.name) rfl
 go_wp2_with fail
 refine(C0.out _).mono ?_
 rintro e V0 ⟨rfl,hb0⟩
 have HK0:=hkeep3 HB0 hb0
 clear hb0 HB0 c0_
 have c0_:=HK0.out.one.cell 0 (v:=.string x.name) rfl
 have f0:=HK0.out.one.frozen 0
 have HB1:Hid (Box3 w 51 #[.string x.name,.slice a0 x.keys.length c0,.slice a1 x.actions.length c1,.int .i64 x.size,.string x.dflt.action,.slice a2 x.dflt.args.length c2,.bool x.fixed] #[.string ⟨#[]⟩,.slice none 0 0,.slice none 0 0,.int .i64 0,.string ⟨#[]⟩,.slice none 0 0,.bool false] (fun _=>True) (V0.setCell ⟨w.heap.size,0,none⟩ (.string x.name))):=HK0.out.same rfl
 go_upto_region 2 with fail
 generalize V0.setCell ⟨w.heap.size,0,none⟩ (.string x.name)=W1 at HB1 ⊢
 clear c0_ f0 HK0
 have c1_:=HB1.out.one.cell 1 (v:=.slice a0 x.keys.length c0) rfl
 go_wp2_with fail
 refine(C1.out _ (pres_below HB1.out.below)).mono ?_
 rintro e V1 ⟨b0,d0,rfl,hr0,hb1⟩
 have hr0:(fun u=>Row 3 (Flat KyC KyOk) u (.slice b0 x.keys.length d0) x.keys) (upw (w.heap.size+2) V1):=hr0.pres (up_mono _ HB1.out.size) (fun _ _ _ h=>h)
 have HK1:=hkeep3 HB1 hb1
 clear hb1 HB1 c1_
 have c1_:=HK1.out.one.cell 1 (v:=.slice a0 x.keys.length c0) rfl
 have f1:=HK1.out.one.frozen 1
 have HB2:Hid (Box3 w 51 #[.string x.name,.slice b0 x.keys.length d0,.slice a1 x.actions.length c1,.int .i64 x.size,.string x.dflt.action,.slice a2 x.dflt.args.length c2,.bool x.fixed] #[.string ⟨#[]⟩,.slice none 0 0,.slice none 0 0,.int .i64 0,.string ⟨#[]⟩,.slice none 0 0,.bool false] (fun u=>(fun _=>True) u∧(fun u=>Row 3 (Flat KyC KyOk) u (.slice b0 x.keys.length d0) x.keys) u) (V1.setCell ⟨w.heap.size,1,none⟩ (.slice b0 x.keys.length d0))):=HK1.out.put (i:=1) (R:=(fun u=>Row 3 (Flat KyC KyOk) u (.slice b0 x.keys.length d0) x.keys)) (fun _ _ h=>fun h1=>Row.pres h1 h (fun _ _ _ h=>h)) hr0
 clear hr0
 go_upto_region 3 with fail
 generalize V1.setCell ⟨w.heap.size,1,none⟩ (.slice b0 x.keys.length d0)=W2 at HB2 ⊢
 clear c1_ f1 HK1
 have c2_:=HB2.out.one.cell 2 (v:=.slice a1 x.actions.length c1) rfl
 go_wp2_with fail
 refine(C2.out _ (pres_below HB2.out.below)).mono ?_
 rintro e V2 ⟨b1,d1,rfl,hr1,hb2⟩
 have hr1:(fun u=>Row 1 (Flat TxtC Okt) u (.slice b1 x.actions.length d1) x.actions) (upw (w.heap.size+2) V2):=hr1.pres (up_mono _ HB2.out.size) (fun _ _ _ h=>h)
 have HK2:=hkeep3 HB2 hb2
 clear hb2 HB2 c2_
 have c2_:=HK2.out.one.cell 2 (v:=.slice a1 x.actions.length c1) rfl
 have f2:=HK2.out.one.frozen 2
 have HB3:Hid (Box3 w 51 #[.string x.name,.slice b0 x.keys.length d0,.slice b1 x.actions.length d1,.int .i64 x.size,.string x.dflt.action,.slice a2 x.dflt.args.length c2,.bool x.fixed] #[.string ⟨#[]⟩,.slice none 0 0,.slice none 0 0,.int .i64 0,.string ⟨#[]⟩,.slice none 0 0,.bool false] (fun u=>(fun u=>(fun _=>True) u∧(fun u=>Row 3 (Flat KyC KyOk) u (.slice b0 x.keys.length d0) x.keys) u) u∧(fun u=>Row 1 (Flat TxtC Okt) u (.slice b1 x.actions.length d1) x.actions) u) (V2.setCell ⟨w.heap.size,2,none⟩ (.slice b1 x.actions.length d1))):=HK2.out.put (i:=2) (R:=(fun u=>Row 1 (Flat TxtC Okt) u (.slice b1 x.actions.length d1) x.actions)) (fun _ _ h=>fun h1=>Row.pres h1 h (fun _ _ _ h=>h)) hr1
 clear hr1
 go_upto_region 4 with fail
 generalize V2.setCell ⟨w.heap.size,2,none⟩ (.slice b1 x.actions.length d1)=W3 at HB3 ⊢
 clear c2_ f2 HK2
 have c3_:=HB3.out.one.cell 4 (v:=.string x.dflt.action) rfl
 go_wp2_with fail
 refine(C3.out _).mono ?_
 rintro e V3 ⟨rfl,hb3⟩
 have HK3:=hkeep3 HB3 hb3
 clear hb3 HB3 c3_
 have c3_:=HK3.out.one.cell 4 (v:=.string x.dflt.action) rfl
 have f3:=HK3.out.one.frozen 4
 have HB4:Hid (Box3 w 51 #[.string x.name,.slice b0 x.keys.length d0,.slice b1 x.actions.length d1,.int .i64 x.size,.string x.dflt.action,.slice a2 x.dflt.args.length c2,.bool x.fixed] #[.string ⟨#[]⟩,.slice none 0 0,.slice none 0 0,.int .i64 0,.string ⟨#[]⟩,.slice none 0 0,.bool false] (fun u=>(fun u=>(fun _=>True) u∧(fun u=>Row 3 (Flat KyC KyOk) u (.slice b0 x.keys.length d0) x.keys) u) u∧(fun u=>Row 1 (Flat TxtC Okt) u (.slice b1 x.actions.length d1) x.actions) u) (V3.setCell ⟨w.heap.size,4,none⟩ (.string x.dflt.action))):=HK3.out.same rfl
 go_upto_region 5 with fail
 generalize V3.setCell ⟨w.heap.size,4,none⟩ (.string x.dflt.action)=W4 at HB4 ⊢
 clear c3_ f3 HK3
 have c4_:=HB4.out.one.cell 5 (v:=.slice a2 x.dflt.args.length c2) rfl
 obtain⟨b2,d2,V4,ha4,hr2,hb4⟩:=C4.out W4 (pres_below HB4.out.below) 43
 have HA4:Hid ((Builtin.append_ #[43,43] 43 #[.slice none 0 0,.slice a2 x.dflt.args.length c2]).run Tryz.prog W4=.ok (.slice b2 x.dflt.args.length d2) V4):=ha4
 clear ha4
 have cc4:=c4_
 have hr2:(fun u=>Row 2 (Flat BitC Is128) u (.slice b2 x.dflt.args.length d2) x.dflt.args) (upw (w.heap.size+2) V4):=hr2.pres (up_mono _ HB4.out.size) (fun _ _ _ h=>h)
 have HK4:=hkeep3 HB4 hb4
 clear hb4 HB4 c4_
 have c4_:=HK4.out.one.cell 5 (v:=.slice a2 x.dflt.args.length c2) rfl
 have f4:=HK4.out.one.frozen 5
 have HB5:Hid (Box3 w 51 #[.string x.name,.slice b0 x.keys.length d0,.slice b1 x.actions.length d1,.int .i64 x.size,.string x.dflt.action,.slice b2 x.dflt.args.length d2,.bool x.fixed] #[.string ⟨#[]⟩,.slice none 0 0,.slice none 0 0,.int .i64 0,.string ⟨#[]⟩,.slice none 0 0,.bool false] (fun u=>(fun u=>(fun u=>(fun _=>True) u∧(fun u=>Row 3 (Flat KyC KyOk) u (.slice b0 x.keys.length d0) x.keys) u) u∧(fun u=>Row 1 (Flat TxtC Okt) u (.slice b1 x.actions.length d1) x.actions) u) u∧(fun u=>Row 2 (Flat BitC Is128) u (.slice b2 x.dflt.args.length d2) x.dflt.args) u) (V4.setCell ⟨w.heap.size,5,none⟩ (.slice b2 x.dflt.args.length d2))):=HK4.out.put (i:=5) (R:=(fun u=>Row 2 (Flat BitC Is128) u (.slice b2 x.dflt.args.length d2) x.dflt.args)) (fun _ _ h=>fun h1=>Row.pres h1 h (fun _ _ _ h=>h)) hr2
 clear hr2
 go_upto_region 6 with(at_builtin;refine wpList_append_is rfl _ _ 43 rfl _ _ rfl rfl HA4.out ?_)
 generalize V4.setCell ⟨w.heap.size,5,none⟩ (.slice b2 x.dflt.args.length d2)=W5 at HB5 ⊢
 clear c4_ f4 HK4
 have RG:Hid (W5.rangeAt w.heap.size 0 ([.string x.name,.slice b0 x.keys.length d0,.slice b1 x.actions.length d1,.int .i64 x.size,.string x.dflt.action,.slice b2 x.dflt.args.length d2,.bool x.fixed]:List Value)):=blk_range HB5.out.one
 have TH:Hid (W5.there (w.heap.size+1) 0 ([.string x.name,.slice b0 x.keys.length d0,.slice b1 x.actions.length d1,.int .i64 x.size,.string x.dflt.action,.slice b2 x.dflt.args.length d2,.bool x.fixed]:List Value).toArray.size):=blk_there HB5.out.two (by simp)
 have HF:Hid ((W5.setCells (w.heap.size+1) 0 ([.string x.name,.slice b0 x.keys.length d0,.slice b1 x.actions.length d1,.int .i64 x.size,.string x.dflt.action,.slice b2 x.dflt.args.length d2,.bool x.fixed]:List Value)).rangeAt (w.heap.size+1) 0 ([.string x.name,.slice b0 x.keys.length d0,.slice b1 x.actions.length d1,.int .i64 x.size,.string x.dflt.action,.slice b2 x.dflt.args.length d2,.bool x.fixed]:List Value)∧(fun u=>(fun u=>(fun u=>(fun _=>True) u∧(fun u=>Row 3 (Flat KyC KyOk) u (.slice b0 x.keys.length d0) x.keys) u) u∧(fun u=>Row 1 (Flat TxtC Okt) u (.slice b1 x.actions.length d1) x.actions) u) u∧(fun u=>Row 2 (Flat BitC Is128) u (.slice b2 x.dflt.args.length d2) x.dflt.args) u) (upw w.heap.size (W5.setCells (w.heap.size+1) 0 ([.string x.name,.slice b0 x.keys.length d0,.slice b1 x.actions.length d1,.int .i64 x.size,.string x.dflt.action,.slice b2 x.dflt.args.length d2,.bool x.fixed]:List Value)))∧Bl w (W5.setCells (w.heap.size+1) 0 ([.string x.name,.slice b0 x.keys.length d0,.slice b1 x.actions.length d1,.int .i64 x.size,.string x.dflt.action,.slice b2 x.dflt.args.length d2,.bool x.fixed]:List Value))):=⟨World.rangeAt_setCells_same _ _ _ _ TH.out,HB5.out.qfin 0 _,HB5.out.fin 0 _⟩
 have hz:(Tryz.prog.info? 51).map (·.size)=some ([.string x.name,.slice b0 x.keys.length d0,.slice b1 x.actions.length d1,.int .i64 x.size,.string x.dflt.action,.slice b2 x.dflt.args.length d2,.bool x.fixed]:List Value).length:=by kernel_rfl
 have on:([.string x.name,.slice b0 x.keys.length d0,.slice b1 x.actions.length d1,.int .i64 x.size,.string x.dflt.action,.slice b2 x.dflt.args.length d2,.bool x.fixed]:List Value).toArray.all (·.oneCell')=true:=by simp[Value.oneCell']
 have ON:Hid (([.string x.name,.slice b0 x.keys.length d0,.slice b1 x.actions.length d1,.int .i64 x.size,.string x.dflt.action,.slice b2 x.dflt.args.length d2,.bool x.fixed]:List Value).toArray.all (·.oneCell')=true):=on
 clear on
 generalize hCL:([.string x.name,.slice b0 x.keys.length d0,.slice b1 x.actions.length d1,.int .i64 x.size,.string x.dflt.action,.slice b2 x.dflt.args.length d2,.bool x.fixed]:List Value)=cl at RG TH HF hz ON
 go_wp2_with (first|(refine wpList_load_mid rfl 51 _ rfl w.heap.size 0 rfl cl _ RG.out Tryz.underlying51 rfl hz ?_)|(refine wpList_store_mid rfl 51 _ _ rfl (w.heap.size+1) 0 cl.toArray rfl rfl TH.out (by rw[List.size_toArray];exact hz) ON.out ?_))
 clear TH RG ON
 generalize W5.setCells (w.heap.size+1) 0 cl=WF at HF ⊢
 subst hCL
 have k0:=HF.out.1 0 (.string x.name) rfl
 have k1:=HF.out.1 1 (.slice b0 x.keys.length d0) rfl
 have k2:=HF.out.1 2 (.slice b1 x.actions.length d1) rfl
 have k3:=HF.out.1 3 (.int .i64 x.size) rfl
 have k4:=HF.out.1 4 (.string x.dflt.action) rfl
 have k5:=HF.out.1 5 (.slice b2 x.dflt.args.length d2) rfl
 have k6:=HF.out.1 6 (.bool x.fixed) rfl
 simp only[Nat.zero_add] at k0 k1 k2 k3 k4 k5 k6
 refine bodyPost_ret (v:=.agg #[.string x.name,.slice b0 x.keys.length d0,.slice b1 x.actions.length d1,.int .i64 x.size,.string x.dflt.action,.slice b2 x.dflt.args.length d2,.bool x.fixed]) (by simp[results,Tryz.results104,go_sem,k0,k1,k2,k3,k4,k5,k6]) rfl ⟨_,rfl,⟨_,_,_,rfl,okn,⟨HF.out.2.1.1.1.2,hf0.2⟩,⟨HF.out.2.1.1.2,hf1.2⟩,⟨HF.out.2.1.2,hf2.2⟩⟩,HF.out.2.2⟩
theorem copyStg_step (x:Stg)(HC0:CopyOk 106 13 (fun w cs x=>StgIs w x cs) x.thn)(HC1:CopyOk 106 13 (fun w cs x=>StgIs w x cs) x.els)(cs:Array Value)(w:World)(hI:StgIs w x cs):Calls Tryz.prog 106 #[.agg cs] w fun e w'=>∃ cs',e=.returned (.agg cs')∧StgIs (upw w.heap.size w') x cs'∧Below w.heap.size w w':=by
 obtain⟨v0,v1,rfl,okn,hf0,hf1⟩:=(stgIs_iff w x cs).1 hI
 obtain⟨a0,c0,rfl,_⟩:=hf0.slice
 obtain⟨a1,c1,rfl,_⟩:=hf1.slice
 have HB0:Hid (Box3 w 127 #[.int .i64 x.kind,.string x.table,.int .i64 x.test.kind,.string x.test.a.ref.head,.string x.test.a.ref.name,.int .u64 (hiOf x.test.a.const),.int .u64 (loOf x.test.a.const),.string x.test.b.ref.head,.string x.test.b.ref.name,.int .u64 (hiOf x.test.b.const),.int .u64 (loOf x.test.b.const),.slice a0 x.thn.length c0,.slice a1 x.els.length c1] #[.int .i64 0,.string ⟨#[]⟩,.int .i64 0,.string ⟨#[]⟩,.string ⟨#[]⟩,.int .u64 0,.int .u64 0,.string ⟨#[]⟩,.string ⟨#[]⟩,.int .u64 0,.int .u64 0,.slice none 0 0,.slice none 0 0] (fun _=>True) ((w.alloc (.cells #[.int .i64 x.kind,.string x.table,.int .i64 x.test.kind,.string x.test.a.ref.head,.string x.test.a.ref.name,.int .u64 (hiOf x.test.a.const),.int .u64 (loOf x.test.a.const),.string x.test.b.ref.head,.string x.test.b.ref.name,.int .u64 (hiOf x.test.b.const),.int .u64 (loOf x.test.b.const),.slice a0 x.thn.length c0,.slice a1 x.els.length c1] 127)).alloc (.cells #[.int .i64 0,.string ⟨#[]⟩,.int .i64 0,.string ⟨#[]⟩,.string ⟨#[]⟩,.int .u64 0,.int .u64 0,.string ⟨#[]⟩,.string ⟨#[]⟩,.int .u64 0,.int .u64 0,.slice none 0 0,.slice none 0 0] 127))):=Box3.start w 127 _ _
 have C0:Hid (∀ w,Cs 87 #[.string x.table] w fun e w'=>e=.returned (.string x.table)∧Bl w w'):=fun w=>clone_any _ w (okn.2.1)
 have C1:Hid (∀ w,Cs 184 #[.agg (OpdC x.test.a)] w fun e w'=>e=.returned (.agg (OpdC x.test.a))∧Bl w w'):=fun w=>copyOpd_any x.test.a (okn.2.2.2.1) w
 have C2:Hid (∀ w,Cs 184 #[.agg (OpdC x.test.b)] w fun e w'=>e=.returned (.agg (OpdC x.test.b))∧Bl w w'):=fun w=>copyOpd_any x.test.b (okn.2.2.2.2) w
 have C3:Hid (∀ W,Pres w W→Cs 105 #[.slice a0 x.thn.length c0,.func (.func 106) #[] #[]] W fun e w'=>∃ a' c',e=.returned (.slice a' x.thn.length c')∧Row 13 (fun w cs x=>StgIs w x cs) (upw W.heap.size w') (.slice a' x.thn.length c') x.thn∧Bl W w'):=fun W hp=>each_sliced (eachStg_any _ _ W (stgRow_row (hf0.pres hp)).1 (stgRow_row hf0).2 HC0)
 have C4:Hid (∀ W,Pres w W→Cs 105 #[.slice a1 x.els.length c1,.func (.func 106) #[] #[]] W fun e w'=>∃ a' c',e=.returned (.slice a' x.els.length c')∧Row 13 (fun w cs x=>StgIs w x cs) (upw W.heap.size w') (.slice a' x.els.length c') x.els∧Bl W w'):=fun W hp=>each_sliced (eachStg_any _ _ W (stgRow_row (hf1.pres hp)).1 (stgRow_row hf1).2 HC1)
 go_enter Tryz.func106,Tryz.ntmps106
 go_upto_region 1 with fail
 generalize ((w.alloc _).alloc _)=W0 at HB0 ⊢
 have c0_:=HB0.out.one.cell 1 (v:=.string x.table) rfl
 go_wp2_with fail
 refine(C0.out _).mono ?_
 rintro e V0 ⟨rfl,hb0⟩
 have HK0:=hkeep3 HB0 hb0
 clear hb0 HB0 c0_
 have c0_:=HK0.out.one.cell 1 (v:=.string x.table) rfl
 have f0:=HK0.out.one.frozen 1
 have HB1:Hid (Box3 w 127 #[.int .i64 x.kind,.string x.table,.int .i64 x.test.kind,.string x.test.a.ref.head,.string x.test.a.ref.name,.int .u64 (hiOf x.test.a.const),.int .u64 (loOf x.test.a.const),.string x.test.b.ref.head,.string x.test.b.ref.name,.int .u64 (hiOf x.test.b.const),.int .u64 (loOf x.test.b.const),.slice a0 x.thn.length c0,.slice a1 x.els.length c1] #[.int .i64 0,.string ⟨#[]⟩,.int .i64 0,.string ⟨#[]⟩,.string ⟨#[]⟩,.int .u64 0,.int .u64 0,.string ⟨#[]⟩,.string ⟨#[]⟩,.int .u64 0,.int .u64 0,.slice none 0 0,.slice none 0 0] (fun _=>True) (V0.setCell ⟨w.heap.size,1,none⟩ (.string x.table))):=HK0.out.same rfl
 go_upto_region 2 with fail
 generalize V0.setCell ⟨w.heap.size,1,none⟩ (.string x.table)=W1 at HB1 ⊢
 clear c0_ f0 HK0
 have RG1:Hid (W1.rangeAt w.heap.size 3 ([.string x.test.a.ref.head,.string x.test.a.ref.name,.int .u64 (hiOf x.test.a.const),.int .u64 (loOf x.test.a.const)]:List Value)):=blk_part (l:=([.int .i64 x.kind,.string x.table,.int .i64 x.test.kind,.string x.test.a.ref.head,.string x.test.a.ref.name,.int .u64 (hiOf x.test.a.const),.int .u64 (loOf x.test.a.const),.string x.test.b.ref.head,.string x.test.b.ref.name,.int .u64 (hiOf x.test.b.const),.int .u64 (loOf x.test.b.const),.slice a0 x.thn.length c0,.slice a1 x.els.length c1]:List Value)) HB1.out.one 3 rfl
 go_wp2_with (refine wpList_load_mid rfl 123 _ rfl w.heap.size 3 rfl ([.string x.test.a.ref.head,.string x.test.a.ref.name,.int .u64 (hiOf x.test.a.const),.int .u64 (loOf x.test.a.const)]:List Value) _ RG1.out Tryz.underlying123 rfl (by kernel_rfl) ?_)
 refine(C1.out _).mono ?_
 rintro e V1 ⟨rfl,hb1⟩
 have HK1:=hkeep3 HB1 hb1
 clear hb1 HB1 RG1
 have TH1:Hid (V1.there w.heap.size 3 ([.string x.test.a.ref.head,.string x.test.a.ref.name,.int .u64 (hiOf x.test.a.const),.int .u64 (loOf x.test.a.const)]:List Value).toArray.size):=blk_there HK1.out.one (by simp)
 have HB2:Hid (Box3 w 127 #[.int .i64 x.kind,.string x.table,.int .i64 x.test.kind,.string x.test.a.ref.head,.string x.test.a.ref.name,.int .u64 (hiOf x.test.a.const),.int .u64 (loOf x.test.a.const),.string x.test.b.ref.head,.string x.test.b.ref.name,.int .u64 (hiOf x.test.b.const),.int .u64 (loOf x.test.b.const),.slice a0 x.thn.length c0,.slice a1 x.els.length c1] #[.int .i64 0,.string ⟨#[]⟩,.int .i64 0,.string ⟨#[]⟩,.string ⟨#[]⟩,.int .u64 0,.int .u64 0,.string ⟨#[]⟩,.string ⟨#[]⟩,.int .u64 0,.int .u64 0,.slice none 0 0,.slice none 0 0] (fun _=>True) (V1.setCells w.heap.size 3 ([.string x.test.a.ref.head,.string x.test.a.ref.name,.int .u64 (hiOf x.test.a.const),.int .u64 (loOf x.test.a.const)]:List Value))):=HK1.out.part 3
 go_upto_region 3 with(refine wpList_store_mid rfl 123 _ _ rfl w.heap.size 3 ([.string x.test.a.ref.head,.string x.test.a.ref.name,.int .u64 (hiOf x.test.a.const),.int .u64 (loOf x.test.a.const)]:List Value).toArray rfl rfl TH1.out (by kernel_rfl) (by simp[Value.oneCell']) ?_)
 generalize V1.setCells w.heap.size 3 ([.string x.test.a.ref.head,.string x.test.a.ref.name,.int .u64 (hiOf x.test.a.const),.int .u64 (loOf x.test.a.const)]:List Value)=W2 at HB2 ⊢
 clear TH1 HK1
 have RG2:Hid (W2.rangeAt w.heap.size 7 ([.string x.test.b.ref.head,.string x.test.b.ref.name,.int .u64 (hiOf x.test.b.const),.int .u64 (loOf x.test.b.const)]:List Value)):=blk_part (l:=([.int .i64 x.kind,.string x.table,.int .i64 x.test.kind,.string x.test.a.ref.head,.string x.test.a.ref.name,.int .u64 (hiOf x.test.a.const),.int .u64 (loOf x.test.a.const),.string x.test.b.ref.head,.string x.test.b.ref.name,.int .u64 (hiOf x.test.b.const),.int .u64 (loOf x.test.b.const),.slice a0 x.thn.length c0,.slice a1 x.els.length c1]:List Value)) HB2.out.one 7 rfl
 go_wp2_with (refine wpList_load_mid rfl 123 _ rfl w.heap.size 7 rfl ([.string x.test.b.ref.head,.string x.test.b.ref.name,.int .u64 (hiOf x.test.b.const),.int .u64 (loOf x.test.b.const)]:List Value) _ RG2.out Tryz.underlying123 rfl (by kernel_rfl) ?_)
 refine(C2.out _).mono ?_
 rintro e V2 ⟨rfl,hb2⟩
 have HK2:=hkeep3 HB2 hb2
 clear hb2 HB2 RG2
 have TH2:Hid (V2.there w.heap.size 7 ([.string x.test.b.ref.head,.string x.test.b.ref.name,.int .u64 (hiOf x.test.b.const),.int .u64 (loOf x.test.b.const)]:List Value).toArray.size):=blk_there HK2.out.one (by simp)
 have HB3:Hid (Box3 w 127 #[.int .i64 x.kind,.string x.table,.int .i64 x.test.kind,.string x.test.a.ref.head,.string x.test.a.ref.name,.int .u64 (hiOf x.test.a.const),.int .u64 (loOf x.test.a.const),.string x.test.b.ref.head,.string x.test.b.ref.name,.int .u64 (hiOf x.test.b.const),.int .u64 (loOf x.test.b.const),.slice a0 x.thn.length c0,.slice a1 x.els.length c1] #[.int .i64 0,.string ⟨#[]⟩,.int .i64 0,.string ⟨#[]⟩,.string ⟨#[]⟩,.int .u64 0,.int .u64 0,.string ⟨#[]⟩,.string ⟨#[]⟩,.int .u64 0,.int .u64 0,.slice none 0 0,.slice none 0 0] (fun _=>True) (V2.setCells w.heap.size 7 ([.string x.test.b.ref.head,.string x.test.b.ref.name,.int .u64 (hiOf x.test.b.const),.int .u64 (loOf x.test.b.const)]:List Value))):=HK2.out.part 7
 go_upto_region 4 with(refine wpList_store_mid rfl 123 _ _ rfl w.heap.size 7 ([.string x.test.b.ref.head,.string x.test.b.ref.name,.int .u64 (hiOf x.test.b.const),.int .u64 (loOf x.test.b.const)]:List Value).toArray rfl rfl TH2.out (by kernel_rfl) (by simp[Value.oneCell']) ?_)
 generalize V2.setCells w.heap.size 7 ([.string x.test.b.ref.head,.string x.test.b.ref.name,.int .u64 (hiOf x.test.b.const),.int .u64 (loOf x.test.b.const)]:List Value)=W3 at HB3 ⊢
 clear TH2 HK2
 have c3_:=HB3.out.one.cell 11 (v:=.slice a0 x.thn.length c0) rfl
 go_wp2_with fail
 refine(C3.out _ (pres_below HB3.out.below)).mono ?_
 rintro e V3 ⟨b0,d0,rfl,hr0,hb3⟩
 have hr0:(fun u=>Row 13 (fun w cs x=>StgIs w x cs) u (.slice b0 x.thn.length d0) x.thn) (upw (w.heap.size+2) V3):=hr0.pres (up_mono _ HB3.out.size) (fun _ _ _ h=>h.pres (up_mono _ HB3.out.size))
 have HK3:=hkeep3 HB3 hb3
 clear hb3 HB3 c3_
 have c3_:=HK3.out.one.cell 11 (v:=.slice a0 x.thn.length c0) rfl
 have f3:=HK3.out.one.frozen 11
 have HB4:Hid (Box3 w 127 #[.int .i64 x.kind,.string x.table,.int .i64 x.test.kind,.string x.test.a.ref.head,.string x.test.a.ref.name,.int .u64 (hiOf x.test.a.const),.int .u64 (loOf x.test.a.const),.string x.test.b.ref.head,.string x.test.b.ref.name,.int .u64 (hiOf x.test.b.const),.int .u64 (loOf x.test.b.const),.slice b0 x.thn.length d0,.slice a1 x.els.length c1] #[.int .i64 0,.string ⟨#[]⟩,.int .i64 0,.string ⟨#[]⟩,.string ⟨#[]⟩,.int .u64 0,.int .u64 0,.string ⟨#[]⟩,.string ⟨#[]⟩,.int .u64 0,.int .u64 0,.slice none 0 0,.slice none 0 0] (fun u=>(fun _=>True) u∧(fun u=>Row 13 (fun w cs x=>StgIs w x cs) u (.slice b0 x.thn.length d0) x.thn) u) (V3.setCell ⟨w.heap.size,11,none⟩ (.slice b0 x.thn.length d0))):=HK3.out.put (i:=11) (R:=(fun u=>Row 13 (fun w cs x=>StgIs w x cs) u (.slice b0 x.thn.length d0) x.thn)) (fun _ _ h=>fun h1=>Row.pres h1 h (fun _ _ _ h2=>h2.pres h)) hr0
 clear hr0
 go_upto_region 5 with fail
 generalize V3.setCell ⟨w.heap.size,11,none⟩ (.slice b0 x.thn.length d0)=W4 at HB4 ⊢
 clear c3_ f3 HK3
 have c4_:=HB4.out.one.cell 12 (v:=.slice a1 x.els.length c1) rfl
 go_wp2_with fail
 refine(C4.out _ (pres_below HB4.out.below)).mono ?_
 rintro e V4 ⟨b1,d1,rfl,hr1,hb4⟩
 have hr1:(fun u=>Row 13 (fun w cs x=>StgIs w x cs) u (.slice b1 x.els.length d1) x.els) (upw (w.heap.size+2) V4):=hr1.pres (up_mono _ HB4.out.size) (fun _ _ _ h=>h.pres (up_mono _ HB4.out.size))
 have HK4:=hkeep3 HB4 hb4
 clear hb4 HB4 c4_
 have c4_:=HK4.out.one.cell 12 (v:=.slice a1 x.els.length c1) rfl
 have f4:=HK4.out.one.frozen 12
 have HB5:Hid (Box3 w 127 #[.int .i64 x.kind,.string x.table,.int .i64 x.test.kind,.string x.test.a.ref.head,.string x.test.a.ref.name,.int .u64 (hiOf x.test.a.const),.int .u64 (loOf x.test.a.const),.string x.test.b.ref.head,.string x.test.b.ref.name,.int .u64 (hiOf x.test.b.const),.int .u64 (loOf x.test.b.const),.slice b0 x.thn.length d0,.slice b1 x.els.length d1] #[.int .i64 0,.string ⟨#[]⟩,.int .i64 0,.string ⟨#[]⟩,.string ⟨#[]⟩,.int .u64 0,.int .u64 0,.string ⟨#[]⟩,.string ⟨#[]⟩,.int .u64 0,.int .u64 0,.slice none 0 0,.slice none 0 0] (fun u=>(fun u=>(fun _=>True) u∧(fun u=>Row 13 (fun w cs x=>StgIs w x cs) u (.slice b0 x.thn.length d0) x.thn) u) u∧(fun u=>Row 13 (fun w cs x=>StgIs w x cs) u (.slice b1 x.els.length d1) x.els) u) (V4.setCell ⟨w.heap.size,12,none⟩ (.slice b1 x.els.length d1))):=HK4.out.put (i:=12) (R:=(fun u=>Row 13 (fun w cs x=>StgIs w x cs) u (.slice b1 x.els.length d1) x.els)) (fun _ _ h=>fun h1=>Row.pres h1 h (fun _ _ _ h2=>h2.pres h)) hr1
 clear hr1
 go_upto_region 6 with fail
 generalize V4.setCell ⟨w.heap.size,12,none⟩ (.slice b1 x.els.length d1)=W5 at HB5 ⊢
 clear c4_ f4 HK4
 have RG:Hid (W5.rangeAt w.heap.size 0 ([.int .i64 x.kind,.string x.table,.int .i64 x.test.kind,.string x.test.a.ref.head,.string x.test.a.ref.name,.int .u64 (hiOf x.test.a.const),.int .u64 (loOf x.test.a.const),.string x.test.b.ref.head,.string x.test.b.ref.name,.int .u64 (hiOf x.test.b.const),.int .u64 (loOf x.test.b.const),.slice b0 x.thn.length d0,.slice b1 x.els.length d1]:List Value)):=blk_range HB5.out.one
 have TH:Hid (W5.there (w.heap.size+1) 0 ([.int .i64 x.kind,.string x.table,.int .i64 x.test.kind,.string x.test.a.ref.head,.string x.test.a.ref.name,.int .u64 (hiOf x.test.a.const),.int .u64 (loOf x.test.a.const),.string x.test.b.ref.head,.string x.test.b.ref.name,.int .u64 (hiOf x.test.b.const),.int .u64 (loOf x.test.b.const),.slice b0 x.thn.length d0,.slice b1 x.els.length d1]:List Value).toArray.size):=blk_there HB5.out.two (by simp)
 have HF:Hid ((W5.setCells (w.heap.size+1) 0 ([.int .i64 x.kind,.string x.table,.int .i64 x.test.kind,.string x.test.a.ref.head,.string x.test.a.ref.name,.int .u64 (hiOf x.test.a.const),.int .u64 (loOf x.test.a.const),.string x.test.b.ref.head,.string x.test.b.ref.name,.int .u64 (hiOf x.test.b.const),.int .u64 (loOf x.test.b.const),.slice b0 x.thn.length d0,.slice b1 x.els.length d1]:List Value)).rangeAt (w.heap.size+1) 0 ([.int .i64 x.kind,.string x.table,.int .i64 x.test.kind,.string x.test.a.ref.head,.string x.test.a.ref.name,.int .u64 (hiOf x.test.a.const),.int .u64 (loOf x.test.a.const),.string x.test.b.ref.head,.string x.test.b.ref.name,.int .u64 (hiOf x.test.b.const),.int .u64 (loOf x.test.b.const),.slice b0 x.thn.length d0,.slice b1 x.els.length d1]:List Value)∧(fun u=>(fun u=>(fun _=>True) u∧(fun u=>Row 13 (fun w cs x=>StgIs w x cs) u (.slice b0 x.thn.length d0) x.thn) u) u∧(fun u=>Row 13 (fun w cs x=>StgIs w x cs) u (.slice b1 x.els.length d1) x.els) u) (upw w.heap.size (W5.setCells (w.heap.size+1) 0 ([.int .i64 x.kind,.string x.table,.int .i64 x.test.kind,.string x.test.a.ref.head,.string x.test.a.ref.name,.int .u64 (hiOf x.test.a.const),.int .u64 (loOf x.test.a.const),.string x.test.b.ref.head,.string x.test.b.ref.name,.int .u64 (hiOf x.test.b.const),.int .u64 (loOf x.test.b.const),.slice b0 x.thn.length d0,.slice b1 x.els.length d1]:List Value)))∧Bl w (W5.setCells (w.heap.size+1) 0 ([.int .i64 x.kind,.string x.table,.int .i64 x.test.kind,.string x.test.a.ref.head,.string x.test.a.ref.name,.int .u64 (hiOf x.test.a.const),.int .u64 (loOf x.test.a.const),.string x.test.b.ref.head,.string x.test.b.ref.name,.int .u64 (hiOf x.test.b.const),.int .u64 (loOf x.test.b.const),.slice b0 x.thn.length d0,.slice b1 x.els.length d1]:List Value))):=⟨World.rangeAt_setCells_same _ _ _ _ TH.out,HB5.out.qfin 0 _,HB5.out.fin 0 _⟩
 have hz:(Tryz.prog.info? 127).map (·.size)=some ([.int .i64 x.kind,.string x.table,.int .i64 x.test.kind,.string x.test.a.ref.head,.string x.test.a.ref.name,.int .u64 (hiOf x.test.a.const),.int .u64 (loOf x.test.a.const),.string x.test.b.ref.head,.string x.test.b.ref.name,.int .u64 (hiOf x.test.b.const),.int .u64 (loOf x.test.b.const),.slice b0 x.thn.length d0,.slice b1 x.els.length d1]:List Value).length:=by kernel_rfl
 have on:([.int .i64 x.kind,.string x.table,.int .i64 x.test.kind,.string x.test.a.ref.head,.string x.test.a.ref.name,.int .u64 (hiOf x.test.a.const),.int .u64 (loOf x.test.a.const),.string x.test.b.ref.head,.string x.test.b.ref.name,.int .u64 (hiOf x.test.b.const),.int .u64 (loOf x.test.b.const),.slice b0 x.thn.length d0,.slice b1 x.els.length d1]:List Value).toArray.all (·.oneCell')=true:=by simp[Value.oneCell']
 have ON:Hid (([.int .i64 x.kind,.string x.table,.int .i64 x.test.kind,.string x.test.a.ref.head,.string x.test.a.ref.name,.int .u64 (hiOf x.test.a.const),.int .u64 (loOf x.test.a.const),.string x.test.b.ref.head,.string x.test.b.ref.name,.int .u64 (hiOf x.test.b.const),.int .u64 (loOf x.test.b.const),.slice b0 x.thn.length d0,.slice b1 x.els.length d1]:List Value).toArray.all (·.oneCell')=true):=on
 clear on
 generalize hCL:([.int .i64 x.kind,.string x.table,.int .i64 x.test.kind,.string x.test.a.ref.head,.string x.test.a.ref.name,.int .u64 (hiOf x.test.a.const),.int .u64 (loOf x.test.a.const),.string x.test.b.ref.head,.string x.test.b.ref.name,.int .u64 (hiOf x.test.b.const),.int .u64 (loOf x.test.b.const),.slice b0 x.thn.length d0,.slice b1 x.els.length d1]:List Value)=cl at RG TH HF hz ON
 go_wp2_with (first|(refine wpList_load_mid rfl 127 _ rfl w.heap.size 0 rfl cl _ RG.out Tryz.underlying127 rfl hz ?_)|(refine wpList_store_mid rfl 127 _ _ rfl (w.heap.size+1) 0 cl.toArray rfl rfl TH.out (by rw[List.size_toArray];exact hz) ON.out ?_))
 clear TH RG ON
 generalize W5.setCells (w.heap.size+1) 0 cl=WF at HF ⊢
 subst hCL
 have k0:=HF.out.1 0 (.int .i64 x.kind) rfl
 have k1:=HF.out.1 1 (.string x.table) rfl
 have k2:=HF.out.1 2 (.int .i64 x.test.kind) rfl
 have k3:=HF.out.1 3 (.string x.test.a.ref.head) rfl
 have k4:=HF.out.1 4 (.string x.test.a.ref.name) rfl
 have k5:=HF.out.1 5 (.int .u64 (hiOf x.test.a.const)) rfl
 have k6:=HF.out.1 6 (.int .u64 (loOf x.test.a.const)) rfl
 have k7:=HF.out.1 7 (.string x.test.b.ref.head) rfl
 have k8:=HF.out.1 8 (.string x.test.b.ref.name) rfl
 have k9:=HF.out.1 9 (.int .u64 (hiOf x.test.b.const)) rfl
 have k10:=HF.out.1 10 (.int .u64 (loOf x.test.b.const)) rfl
 have k11:=HF.out.1 11 (.slice b0 x.thn.length d0) rfl
 have k12:=HF.out.1 12 (.slice b1 x.els.length d1) rfl
 simp only[Nat.zero_add] at k0 k1 k2 k3 k4 k5 k6 k7 k8 k9 k10 k11 k12
 refine bodyPost_ret (v:=.agg #[.int .i64 x.kind,.string x.table,.int .i64 x.test.kind,.string x.test.a.ref.head,.string x.test.a.ref.name,.int .u64 (hiOf x.test.a.const),.int .u64 (loOf x.test.a.const),.string x.test.b.ref.head,.string x.test.b.ref.name,.int .u64 (hiOf x.test.b.const),.int .u64 (loOf x.test.b.const),.slice b0 x.thn.length d0,.slice b1 x.els.length d1]) (by simp[results,Tryz.results106,go_sem,k0,k1,k2,k3,k4,k5,k6,k7,k8,k9,k10,k11,k12]) rfl ⟨_,rfl,(stgIs_iff _ x _).2 (⟨_,_,rfl,okn,row_stgRow HF.out.2.1.1.2 (stgRow_row hf0).2,row_stgRow HF.out.2.1.2 (stgRow_row hf1).2⟩),HF.out.2.2⟩
end Go.Proofs.YtmbpclknhkbbkaaGreat
