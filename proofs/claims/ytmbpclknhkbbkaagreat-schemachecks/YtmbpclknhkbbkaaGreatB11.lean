/- Package schema: copies, part by part. -/
import Derived.Test.YtmbpclknhkbbkaaGreatB34
set_option linter.unusedSimpArgs false
set_option linter.unusedVariables false
set_option maxHeartbeats 1000000
set_option maxRecDepth 100000
namespace Go.Proofs.YtmbpclknhkbbkaaGreat
open Go.RowKit
theorem copyHdr_any (x:Hdr)(cs:Array Value)(w:World)(hI:HdrIs w cs x):Calls Tryz.prog 96 #[.agg cs] w fun e w'=>∃ cs',e=.returned (.agg cs')∧HdrIs (upw w.heap.size w') cs' x∧Below w.heap.size w w':=by
 obtain⟨v0,rfl,okn,hf0⟩:=hI
 obtain⟨a0,c0,rfl,_⟩:=hf0.1.slice
 have HB0:Hid (Box3 w 60 #[.string x.name,.slice a0 x.fields.length c0] #[.string ⟨#[]⟩,.slice none 0 0] (fun _=>True) ((w.alloc (.cells #[.string x.name,.slice a0 x.fields.length c0] 60)).alloc (.cells #[.string ⟨#[]⟩,.slice none 0 0] 60))):=Box3.start w 60 _ _
 have C0:Hid (∀ w,Cs 87 #[.string x.name] w fun e w'=>e=.returned (.string x.name)∧Bl w w'):=fun w=>clone_any _ w (okn)
 have C1:Hid (∀ W,Pres w W→Cs 97 #[.slice a0 x.fields.length c0,.func (.func 98) #[] #[]] W fun e w'=>∃ a' c',e=.returned (.slice a' x.fields.length c')∧Row 2 (Flat FldC FldOk) (upw W.heap.size w') (.slice a' x.fields.length c') x.fields∧Bl W w'):=fun W hp=>each_sliced (eachFld_any _ _ W (hf0.pres hp).1 hf0.2 (flat_copies copyFld_any))
 go_enter Tryz.func96,Tryz.ntmps96
 go_upto_region 1 with fail
 generalize ((w.alloc _).alloc _)=W0 at HB0 ⊢
 have c0_:=HB0.out.one.cell 0 (v:=.string x.name) rfl
 go_wp2_with fail
 refine(C0.out _).mono ?_
 rintro e V0 ⟨rfl,hb0⟩
 have HK0:=hkeep3 HB0 hb0
 clear hb0 HB0 c0_
 have c0_:=HK0.out.one.cell 0 (v:=.string x.name) rfl
 have f0:=HK0.out.one.frozen 0
 have HB1:Hid (Box3 w 60 #[.string x.name,.slice a0 x.fields.length c0] #[.string ⟨#[]⟩,.slice none 0 0] (fun _=>True) (V0.setCell ⟨w.heap.size,0,none⟩ (.string x.name))):=HK0.out.same rfl
 go_upto_region 2 with fail
 generalize V0.setCell ⟨w.heap.size,0,none⟩ (.string x.name)=W1 at HB1 ⊢
 clear c0_ f0 HK0
 have c1_:=HB1.out.one.cell 1 (v:=.slice a0 x.fields.length c0) rfl
 go_wp2_with fail
 refine(C1.out _ (pres_below HB1.out.below)).mono ?_
 rintro e V1 ⟨b0,d0,rfl,hr0,hb1⟩
 have hr0:(fun u=>Row 2 (Flat FldC FldOk) u (.slice b0 x.fields.length d0) x.fields) (upw (w.heap.size+2) V1):=hr0.pres (up_mono _ HB1.out.size) (fun _ _ _ h=>h)
 have HK1:=hkeep3 HB1 hb1
 clear hb1 HB1 c1_
 have c1_:=HK1.out.one.cell 1 (v:=.slice a0 x.fields.length c0) rfl
 have f1:=HK1.out.one.frozen 1
 have HB2:Hid (Box3 w 60 #[.string x.name,.slice b0 x.fields.length d0] #[.string ⟨#[]⟩,.slice none 0 0] (fun u=>(fun _=>True) u∧(fun u=>Row 2 (Flat FldC FldOk) u (.slice b0 x.fields.length d0) x.fields) u) (V1.setCell ⟨w.heap.size,1,none⟩ (.slice b0 x.fields.length d0))):=HK1.out.put (i:=1) (R:=(fun u=>Row 2 (Flat FldC FldOk) u (.slice b0 x.fields.length d0) x.fields)) (fun _ _ h=>fun h1=>Row.pres h1 h (fun _ _ _ h=>h)) hr0
 clear hr0
 go_upto_region 3 with fail
 generalize V1.setCell ⟨w.heap.size,1,none⟩ (.slice b0 x.fields.length d0)=W2 at HB2 ⊢
 clear c1_ f1 HK1
 have RG:Hid (W2.rangeAt w.heap.size 0 ([.string x.name,.slice b0 x.fields.length d0]:List Value)):=blk_range HB2.out.one
 have TH:Hid (W2.there (w.heap.size+1) 0 ([.string x.name,.slice b0 x.fields.length d0]:List Value).toArray.size):=blk_there HB2.out.two (by simp)
 have HF:Hid ((W2.setCells (w.heap.size+1) 0 ([.string x.name,.slice b0 x.fields.length d0]:List Value)).rangeAt (w.heap.size+1) 0 ([.string x.name,.slice b0 x.fields.length d0]:List Value)∧(fun u=>(fun _=>True) u∧(fun u=>Row 2 (Flat FldC FldOk) u (.slice b0 x.fields.length d0) x.fields) u) (upw w.heap.size (W2.setCells (w.heap.size+1) 0 ([.string x.name,.slice b0 x.fields.length d0]:List Value)))∧Bl w (W2.setCells (w.heap.size+1) 0 ([.string x.name,.slice b0 x.fields.length d0]:List Value))):=⟨World.rangeAt_setCells_same _ _ _ _ TH.out,HB2.out.qfin 0 _,HB2.out.fin 0 _⟩
 have hz:(Tryz.prog.info? 60).map (·.size)=some ([.string x.name,.slice b0 x.fields.length d0]:List Value).length:=by kernel_rfl
 have on:([.string x.name,.slice b0 x.fields.length d0]:List Value).toArray.all (·.oneCell')=true:=by simp[Value.oneCell']
 have ON:Hid (([.string x.name,.slice b0 x.fields.length d0]:List Value).toArray.all (·.oneCell')=true):=on
 clear on
 generalize hCL:([.string x.name,.slice b0 x.fields.length d0]:List Value)=cl at RG TH HF hz ON
 go_wp2_with (first|(refine wpList_load_mid rfl 60 _ rfl w.heap.size 0 rfl cl _ RG.out Tryz.underlying60 rfl hz ?_)|(refine wpList_store_mid rfl 60 _ _ rfl (w.heap.size+1) 0 cl.toArray rfl rfl TH.out (by rw[List.size_toArray];exact hz) ON.out ?_))
 clear TH RG ON
 generalize W2.setCells (w.heap.size+1) 0 cl=WF at HF ⊢
 subst hCL
 have k0:=HF.out.1 0 (.string x.name) rfl
 have k1:=HF.out.1 1 (.slice b0 x.fields.length d0) rfl
 simp only[Nat.zero_add] at k0 k1
 refine bodyPost_ret (v:=.agg #[.string x.name,.slice b0 x.fields.length d0]) (by simp[results,Tryz.results96,go_sem,k0,k1]) rfl ⟨_,rfl,⟨_,rfl,okn,⟨HF.out.2.1.2,hf0.2⟩⟩,HF.out.2.2⟩
theorem copySta_any (x:Sta)(cs:Array Value)(w:World)(hI:StaIs w cs x):Calls Tryz.prog 100 #[.agg cs] w fun e w'=>∃ cs',e=.returned (.agg cs')∧StaIs (upw w.heap.size w') cs' x∧Below w.heap.size w w':=by
 obtain⟨v0,rfl,okn,hf0⟩:=hI
 obtain⟨a0,c0,rfl,_⟩:=hf0.1.slice
 have HB0:Hid (Box3 w 98 #[.string x.name,.string x.header,.string x.on.head,.string x.on.name,.slice a0 x.cases.length c0,.string x.next] #[.string ⟨#[]⟩,.string ⟨#[]⟩,.string ⟨#[]⟩,.string ⟨#[]⟩,.slice none 0 0,.string ⟨#[]⟩] (fun _=>True) ((w.alloc (.cells #[.string x.name,.string x.header,.string x.on.head,.string x.on.name,.slice a0 x.cases.length c0,.string x.next] 98)).alloc (.cells #[.string ⟨#[]⟩,.string ⟨#[]⟩,.string ⟨#[]⟩,.string ⟨#[]⟩,.slice none 0 0,.string ⟨#[]⟩] 98))):=Box3.start w 98 _ _
 have C0:Hid (∀ w,Cs 87 #[.string x.name] w fun e w'=>e=.returned (.string x.name)∧Bl w w'):=fun w=>clone_any _ w (okn.1)
 have C1:Hid (∀ w,Cs 87 #[.string x.header] w fun e w'=>e=.returned (.string x.header)∧Bl w w'):=fun w=>clone_any _ w (okn.2.1)
 have C2:Hid (∀ w,Cs 176 #[.agg #[.string x.on.head,.string x.on.name]] w fun e w'=>e=.returned (.agg #[.string x.on.head,.string x.on.name])∧Bl w w'):=fun w=>copyRef_any x.on (okn.2.2.1) (okn.2.2.2.1) w
 have C3:Hid (∀ W,Pres w W→Cs 177 #[.slice a0 x.cases.length c0,.func (.func 178) #[] #[]] W fun e w'=>∃ a' c',e=.returned (.slice a' x.cases.length c')∧Row 5 (Flat CasC CasOk) (upw W.heap.size w') (.slice a' x.cases.length c') x.cases∧Bl W w'):=fun W hp=>each_sliced (eachCas_any _ _ W (hf0.pres hp).1 hf0.2 (flat_copies copyCas_any))
 have C4:Hid (∀ w,Cs 87 #[.string x.next] w fun e w'=>e=.returned (.string x.next)∧Bl w w'):=fun w=>clone_any _ w (okn.2.2.2.2)
 go_enter Tryz.func100,Tryz.ntmps100
 go_upto_region 1 with fail
 generalize ((w.alloc _).alloc _)=W0 at HB0 ⊢
 have c0_:=HB0.out.one.cell 0 (v:=.string x.name) rfl
 go_wp2_with fail
 refine(C0.out _).mono ?_
 rintro e V0 ⟨rfl,hb0⟩
 have HK0:=hkeep3 HB0 hb0
 clear hb0 HB0 c0_
 have c0_:=HK0.out.one.cell 0 (v:=.string x.name) rfl
 have f0:=HK0.out.one.frozen 0
 have HB1:Hid (Box3 w 98 #[.string x.name,.string x.header,.string x.on.head,.string x.on.name,.slice a0 x.cases.length c0,.string x.next] #[.string ⟨#[]⟩,.string ⟨#[]⟩,.string ⟨#[]⟩,.string ⟨#[]⟩,.slice none 0 0,.string ⟨#[]⟩] (fun _=>True) (V0.setCell ⟨w.heap.size,0,none⟩ (.string x.name))):=HK0.out.same rfl
 go_upto_region 2 with fail
 generalize V0.setCell ⟨w.heap.size,0,none⟩ (.string x.name)=W1 at HB1 ⊢
 clear c0_ f0 HK0
 have c1_:=HB1.out.one.cell 1 (v:=.string x.header) rfl
 go_wp2_with fail
 refine(C1.out _).mono ?_
 rintro e V1 ⟨rfl,hb1⟩
 have HK1:=hkeep3 HB1 hb1
 clear hb1 HB1 c1_
 have c1_:=HK1.out.one.cell 1 (v:=.string x.header) rfl
 have f1:=HK1.out.one.frozen 1
 have HB2:Hid (Box3 w 98 #[.string x.name,.string x.header,.string x.on.head,.string x.on.name,.slice a0 x.cases.length c0,.string x.next] #[.string ⟨#[]⟩,.string ⟨#[]⟩,.string ⟨#[]⟩,.string ⟨#[]⟩,.slice none 0 0,.string ⟨#[]⟩] (fun _=>True) (V1.setCell ⟨w.heap.size,1,none⟩ (.string x.header))):=HK1.out.same rfl
 go_upto_region 3 with fail
 generalize V1.setCell ⟨w.heap.size,1,none⟩ (.string x.header)=W2 at HB2 ⊢
 clear c1_ f1 HK1
 have RG2:Hid (W2.rangeAt w.heap.size 2 ([.string x.on.head,.string x.on.name]:List Value)):=blk_part (l:=([.string x.name,.string x.header,.string x.on.head,.string x.on.name,.slice a0 x.cases.length c0,.string x.next]:List Value)) HB2.out.one 2 rfl
 go_wp2_with (refine wpList_load_mid rfl 42 _ rfl w.heap.size 2 rfl ([.string x.on.head,.string x.on.name]:List Value) _ RG2.out Tryz.underlying42 rfl (by kernel_rfl) ?_)
 refine(C2.out _).mono ?_
 rintro e V2 ⟨rfl,hb2⟩
 have HK2:=hkeep3 HB2 hb2
 clear hb2 HB2 RG2
 have TH2:Hid (V2.there w.heap.size 2 ([.string x.on.head,.string x.on.name]:List Value).toArray.size):=blk_there HK2.out.one (by simp)
 have HB3:Hid (Box3 w 98 #[.string x.name,.string x.header,.string x.on.head,.string x.on.name,.slice a0 x.cases.length c0,.string x.next] #[.string ⟨#[]⟩,.string ⟨#[]⟩,.string ⟨#[]⟩,.string ⟨#[]⟩,.slice none 0 0,.string ⟨#[]⟩] (fun _=>True) (V2.setCells w.heap.size 2 ([.string x.on.head,.string x.on.name]:List Value))):=HK2.out.part 2
 go_upto_region 4 with(refine wpList_store_mid rfl 42 _ _ rfl w.heap.size 2 ([.string x.on.head,.string x.on.name]:List Value).toArray rfl rfl TH2.out (by kernel_rfl) (by simp[Value.oneCell']) ?_)
 generalize V2.setCells w.heap.size 2 ([.string x.on.head,.string x.on.name]:List Value)=W3 at HB3 ⊢
 clear TH2 HK2
 have c3_:=HB3.out.one.cell 4 (v:=.slice a0 x.cases.length c0) rfl
 go_wp2_with fail
 refine(C3.out _ (pres_below HB3.out.below)).mono ?_
 rintro e V3 ⟨b0,d0,rfl,hr0,hb3⟩
 have hr0:(fun u=>Row 5 (Flat CasC CasOk) u (.slice b0 x.cases.length d0) x.cases) (upw (w.heap.size+2) V3):=hr0.pres (up_mono _ HB3.out.size) (fun _ _ _ h=>h)
 have HK3:=hkeep3 HB3 hb3
 clear hb3 HB3 c3_
 have c3_:=HK3.out.one.cell 4 (v:=.slice a0 x.cases.length c0) rfl
 have f3:=HK3.out.one.frozen 4
 have HB4:Hid (Box3 w 98 #[.string x.name,.string x.header,.string x.on.head,.string x.on.name,.slice b0 x.cases.length d0,.string x.next] #[.string ⟨#[]⟩,.string ⟨#[]⟩,.string ⟨#[]⟩,.string ⟨#[]⟩,.slice none 0 0,.string ⟨#[]⟩] (fun u=>(fun _=>True) u∧(fun u=>Row 5 (Flat CasC CasOk) u (.slice b0 x.cases.length d0) x.cases) u) (V3.setCell ⟨w.heap.size,4,none⟩ (.slice b0 x.cases.length d0))):=HK3.out.put (i:=4) (R:=(fun u=>Row 5 (Flat CasC CasOk) u (.slice b0 x.cases.length d0) x.cases)) (fun _ _ h=>fun h1=>Row.pres h1 h (fun _ _ _ h=>h)) hr0
 clear hr0
 go_upto_region 5 with fail
 generalize V3.setCell ⟨w.heap.size,4,none⟩ (.slice b0 x.cases.length d0)=W4 at HB4 ⊢
 clear c3_ f3 HK3
 have c4_:=HB4.out.one.cell 5 (v:=.string x.next) rfl
 go_wp2_with fail
 refine(C4.out _).mono ?_
 rintro e V4 ⟨rfl,hb4⟩
 have HK4:=hkeep3 HB4 hb4
 clear hb4 HB4 c4_
 have c4_:=HK4.out.one.cell 5 (v:=.string x.next) rfl
 have f4:=HK4.out.one.frozen 5
 have HB5:Hid (Box3 w 98 #[.string x.name,.string x.header,.string x.on.head,.string x.on.name,.slice b0 x.cases.length d0,.string x.next] #[.string ⟨#[]⟩,.string ⟨#[]⟩,.string ⟨#[]⟩,.string ⟨#[]⟩,.slice none 0 0,.string ⟨#[]⟩] (fun u=>(fun _=>True) u∧(fun u=>Row 5 (Flat CasC CasOk) u (.slice b0 x.cases.length d0) x.cases) u) (V4.setCell ⟨w.heap.size,5,none⟩ (.string x.next))):=HK4.out.same rfl
 go_upto_region 6 with fail
 generalize V4.setCell ⟨w.heap.size,5,none⟩ (.string x.next)=W5 at HB5 ⊢
 clear c4_ f4 HK4
 have RG:Hid (W5.rangeAt w.heap.size 0 ([.string x.name,.string x.header,.string x.on.head,.string x.on.name,.slice b0 x.cases.length d0,.string x.next]:List Value)):=blk_range HB5.out.one
 have TH:Hid (W5.there (w.heap.size+1) 0 ([.string x.name,.string x.header,.string x.on.head,.string x.on.name,.slice b0 x.cases.length d0,.string x.next]:List Value).toArray.size):=blk_there HB5.out.two (by simp)
 have HF:Hid ((W5.setCells (w.heap.size+1) 0 ([.string x.name,.string x.header,.string x.on.head,.string x.on.name,.slice b0 x.cases.length d0,.string x.next]:List Value)).rangeAt (w.heap.size+1) 0 ([.string x.name,.string x.header,.string x.on.head,.string x.on.name,.slice b0 x.cases.length d0,.string x.next]:List Value)∧(fun u=>(fun _=>True) u∧(fun u=>Row 5 (Flat CasC CasOk) u (.slice b0 x.cases.length d0) x.cases) u) (upw w.heap.size (W5.setCells (w.heap.size+1) 0 ([.string x.name,.string x.header,.string x.on.head,.string x.on.name,.slice b0 x.cases.length d0,.string x.next]:List Value)))∧Bl w (W5.setCells (w.heap.size+1) 0 ([.string x.name,.string x.header,.string x.on.head,.string x.on.name,.slice b0 x.cases.length d0,.string x.next]:List Value))):=⟨World.rangeAt_setCells_same _ _ _ _ TH.out,HB5.out.qfin 0 _,HB5.out.fin 0 _⟩
 have hz:(Tryz.prog.info? 98).map (·.size)=some ([.string x.name,.string x.header,.string x.on.head,.string x.on.name,.slice b0 x.cases.length d0,.string x.next]:List Value).length:=by kernel_rfl
 have on:([.string x.name,.string x.header,.string x.on.head,.string x.on.name,.slice b0 x.cases.length d0,.string x.next]:List Value).toArray.all (·.oneCell')=true:=by simp[Value.oneCell']
 have ON:Hid (([.string x.name,.string x.header,.string x.on.head,.string x.on.name,.slice b0 x.cases.length d0,.string x.next]:List Value).toArray.all (·.oneCell')=true):=on
 clear on
 generalize hCL:([.string x.name,.string x.header,.string x.on.head,.string x.on.name,.slice b0 x.cases.length d0,.string x.next]:List Value)=cl at RG TH HF hz ON
 go_wp2_with (first|(refine wpList_load_mid rfl 98 _ rfl w.heap.size 0 rfl cl _ RG.out Tryz.underlying98 rfl hz ?_)|(refine wpList_store_mid rfl 98 _ _ rfl (w.heap.size+1) 0 cl.toArray rfl rfl TH.out (by rw[List.size_toArray];exact hz) ON.out ?_))
 clear TH RG ON
 generalize W5.setCells (w.heap.size+1) 0 cl=WF at HF ⊢
 subst hCL
 have k0:=HF.out.1 0 (.string x.name) rfl
 have k1:=HF.out.1 1 (.string x.header) rfl
 have k2:=HF.out.1 2 (.string x.on.head) rfl
 have k3:=HF.out.1 3 (.string x.on.name) rfl
 have k4:=HF.out.1 4 (.slice b0 x.cases.length d0) rfl
 have k5:=HF.out.1 5 (.string x.next) rfl
 simp only[Nat.zero_add] at k0 k1 k2 k3 k4 k5
 refine bodyPost_ret (v:=.agg #[.string x.name,.string x.header,.string x.on.head,.string x.on.name,.slice b0 x.cases.length d0,.string x.next]) (by simp[results,Tryz.results100,go_sem,k0,k1,k2,k3,k4,k5]) rfl ⟨_,rfl,⟨_,rfl,okn,⟨HF.out.2.1.2,hf0.2⟩⟩,HF.out.2.2⟩
theorem copyAct_any (x:Actn)(cs:Array Value)(w:World)(hI:ActIs w cs x):Calls Tryz.prog 102 #[.agg cs] w fun e w'=>∃ cs',e=.returned (.agg cs')∧ActIs (upw w.heap.size w') cs' x∧Below w.heap.size w w':=by
 obtain⟨v0,v1,rfl,okn,hf0,hf1⟩:=hI
 obtain⟨a0,c0,rfl,_⟩:=hf0.1.slice
 obtain⟨a1,c1,rfl,_⟩:=hf1.1.slice
 have HB0:Hid (Box3 w 65 #[.string x.name,.slice a0 x.params.length c0,.slice a1 x.steps.length c1] #[.string ⟨#[]⟩,.slice none 0 0,.slice none 0 0] (fun _=>True) ((w.alloc (.cells #[.string x.name,.slice a0 x.params.length c0,.slice a1 x.steps.length c1] 65)).alloc (.cells #[.string ⟨#[]⟩,.slice none 0 0,.slice none 0 0] 65))):=Box3.start w 65 _ _
 have C0:Hid (∀ w,Cs 87 #[.string x.name] w fun e w'=>e=.returned (.string x.name)∧Bl w w'):=fun w=>clone_any _ w (okn)
 have C1:Hid (∀ W,Pres w W→Cs 97 #[.slice a0 x.params.length c0,.func (.func 98) #[] #[]] W fun e w'=>∃ a' c',e=.returned (.slice a' x.params.length c')∧Row 2 (Flat FldC FldOk) (upw W.heap.size w') (.slice a' x.params.length c') x.params∧Bl W w'):=fun W hp=>each_sliced (eachFld_any _ _ W (hf0.pres hp).1 hf0.2 (flat_copies copyFld_any))
 have C2:Hid (∀ W,Pres w W→Cs 179 #[.slice a1 x.steps.length c1,.func (.func 180) #[] #[]] W fun e w'=>∃ a' c',e=.returned (.slice a' x.steps.length c')∧Row 12 (Flat StpC StpOk) (upw W.heap.size w') (.slice a' x.steps.length c') x.steps∧Bl W w'):=fun W hp=>each_sliced (eachStp_any _ _ W (hf1.pres hp).1 hf1.2 (flat_copies copyStp_any))
 go_enter Tryz.func102,Tryz.ntmps102
 go_upto_region 1 with fail
 generalize ((w.alloc _).alloc _)=W0 at HB0 ⊢
 have c0_:=HB0.out.one.cell 0 (v:=.string x.name) rfl
 go_wp2_with fail
 refine(C0.out _).mono ?_
 rintro e V0 ⟨rfl,hb0⟩
 have HK0:=hkeep3 HB0 hb0
 clear hb0 HB0 c0_
 have c0_:=HK0.out.one.cell 0 (v:=.string x.name) rfl
 have f0:=HK0.out.one.frozen 0
 have HB1:Hid (Box3 w 65 #[.string x.name,.slice a0 x.params.length c0,.slice a1 x.steps.length c1] #[.string ⟨#[]⟩,.slice none 0 0,.slice none 0 0] (fun _=>True) (V0.setCell ⟨w.heap.size,0,none⟩ (.string x.name))):=HK0.out.same rfl
 go_upto_region 2 with fail
 generalize V0.setCell ⟨w.heap.size,0,none⟩ (.string x.name)=W1 at HB1 ⊢
 clear c0_ f0 HK0
 have c1_:=HB1.out.one.cell 1 (v:=.slice a0 x.params.length c0) rfl
 go_wp2_with fail
 refine(C1.out _ (pres_below HB1.out.below)).mono ?_
 rintro e V1 ⟨b0,d0,rfl,hr0,hb1⟩
 have hr0:(fun u=>Row 2 (Flat FldC FldOk) u (.slice b0 x.params.length d0) x.params) (upw (w.heap.size+2) V1):=hr0.pres (up_mono _ HB1.out.size) (fun _ _ _ h=>h)
 have HK1:=hkeep3 HB1 hb1
 clear hb1 HB1 c1_
 have c1_:=HK1.out.one.cell 1 (v:=.slice a0 x.params.length c0) rfl
 have f1:=HK1.out.one.frozen 1
 have HB2:Hid (Box3 w 65 #[.string x.name,.slice b0 x.params.length d0,.slice a1 x.steps.length c1] #[.string ⟨#[]⟩,.slice none 0 0,.slice none 0 0] (fun u=>(fun _=>True) u∧(fun u=>Row 2 (Flat FldC FldOk) u (.slice b0 x.params.length d0) x.params) u) (V1.setCell ⟨w.heap.size,1,none⟩ (.slice b0 x.params.length d0))):=HK1.out.put (i:=1) (R:=(fun u=>Row 2 (Flat FldC FldOk) u (.slice b0 x.params.length d0) x.params)) (fun _ _ h=>fun h1=>Row.pres h1 h (fun _ _ _ h=>h)) hr0
 clear hr0
 go_upto_region 3 with fail
 generalize V1.setCell ⟨w.heap.size,1,none⟩ (.slice b0 x.params.length d0)=W2 at HB2 ⊢
 clear c1_ f1 HK1
 have c2_:=HB2.out.one.cell 2 (v:=.slice a1 x.steps.length c1) rfl
 go_wp2_with fail
 refine(C2.out _ (pres_below HB2.out.below)).mono ?_
 rintro e V2 ⟨b1,d1,rfl,hr1,hb2⟩
 have hr1:(fun u=>Row 12 (Flat StpC StpOk) u (.slice b1 x.steps.length d1) x.steps) (upw (w.heap.size+2) V2):=hr1.pres (up_mono _ HB2.out.size) (fun _ _ _ h=>h)
 have HK2:=hkeep3 HB2 hb2
 clear hb2 HB2 c2_
 have c2_:=HK2.out.one.cell 2 (v:=.slice a1 x.steps.length c1) rfl
 have f2:=HK2.out.one.frozen 2
 have HB3:Hid (Box3 w 65 #[.string x.name,.slice b0 x.params.length d0,.slice b1 x.steps.length d1] #[.string ⟨#[]⟩,.slice none 0 0,.slice none 0 0] (fun u=>(fun u=>(fun _=>True) u∧(fun u=>Row 2 (Flat FldC FldOk) u (.slice b0 x.params.length d0) x.params) u) u∧(fun u=>Row 12 (Flat StpC StpOk) u (.slice b1 x.steps.length d1) x.steps) u) (V2.setCell ⟨w.heap.size,2,none⟩ (.slice b1 x.steps.length d1))):=HK2.out.put (i:=2) (R:=(fun u=>Row 12 (Flat StpC StpOk) u (.slice b1 x.steps.length d1) x.steps)) (fun _ _ h=>fun h1=>Row.pres h1 h (fun _ _ _ h=>h)) hr1
 clear hr1
 go_upto_region 4 with fail
 generalize V2.setCell ⟨w.heap.size,2,none⟩ (.slice b1 x.steps.length d1)=W3 at HB3 ⊢
 clear c2_ f2 HK2
 have RG:Hid (W3.rangeAt w.heap.size 0 ([.string x.name,.slice b0 x.params.length d0,.slice b1 x.steps.length d1]:List Value)):=blk_range HB3.out.one
 have TH:Hid (W3.there (w.heap.size+1) 0 ([.string x.name,.slice b0 x.params.length d0,.slice b1 x.steps.length d1]:List Value).toArray.size):=blk_there HB3.out.two (by simp)
 have HF:Hid ((W3.setCells (w.heap.size+1) 0 ([.string x.name,.slice b0 x.params.length d0,.slice b1 x.steps.length d1]:List Value)).rangeAt (w.heap.size+1) 0 ([.string x.name,.slice b0 x.params.length d0,.slice b1 x.steps.length d1]:List Value)∧(fun u=>(fun u=>(fun _=>True) u∧(fun u=>Row 2 (Flat FldC FldOk) u (.slice b0 x.params.length d0) x.params) u) u∧(fun u=>Row 12 (Flat StpC StpOk) u (.slice b1 x.steps.length d1) x.steps) u) (upw w.heap.size (W3.setCells (w.heap.size+1) 0 ([.string x.name,.slice b0 x.params.length d0,.slice b1 x.steps.length d1]:List Value)))∧Bl w (W3.setCells (w.heap.size+1) 0 ([.string x.name,.slice b0 x.params.length d0,.slice b1 x.steps.length d1]:List Value))):=⟨World.rangeAt_setCells_same _ _ _ _ TH.out,HB3.out.qfin 0 _,HB3.out.fin 0 _⟩
 have hz:(Tryz.prog.info? 65).map (·.size)=some ([.string x.name,.slice b0 x.params.length d0,.slice b1 x.steps.length d1]:List Value).length:=by kernel_rfl
 have on:([.string x.name,.slice b0 x.params.length d0,.slice b1 x.steps.length d1]:List Value).toArray.all (·.oneCell')=true:=by simp[Value.oneCell']
 have ON:Hid (([.string x.name,.slice b0 x.params.length d0,.slice b1 x.steps.length d1]:List Value).toArray.all (·.oneCell')=true):=on
 clear on
 generalize hCL:([.string x.name,.slice b0 x.params.length d0,.slice b1 x.steps.length d1]:List Value)=cl at RG TH HF hz ON
 go_wp2_with (first|(refine wpList_load_mid rfl 65 _ rfl w.heap.size 0 rfl cl _ RG.out Tryz.underlying65 rfl hz ?_)|(refine wpList_store_mid rfl 65 _ _ rfl (w.heap.size+1) 0 cl.toArray rfl rfl TH.out (by rw[List.size_toArray];exact hz) ON.out ?_))
 clear TH RG ON
 generalize W3.setCells (w.heap.size+1) 0 cl=WF at HF ⊢
 subst hCL
 have k0:=HF.out.1 0 (.string x.name) rfl
 have k1:=HF.out.1 1 (.slice b0 x.params.length d0) rfl
 have k2:=HF.out.1 2 (.slice b1 x.steps.length d1) rfl
 simp only[Nat.zero_add] at k0 k1 k2
 refine bodyPost_ret (v:=.agg #[.string x.name,.slice b0 x.params.length d0,.slice b1 x.steps.length d1]) (by simp[results,Tryz.results102,go_sem,k0,k1,k2]) rfl ⟨_,rfl,⟨_,_,rfl,okn,⟨HF.out.2.1.1.2,hf0.2⟩,⟨HF.out.2.1.2,hf1.2⟩⟩,HF.out.2.2⟩
end Go.Proofs.YtmbpclknhkbbkaaGreat
