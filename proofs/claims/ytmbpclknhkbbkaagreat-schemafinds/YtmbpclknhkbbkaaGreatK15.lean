/- Package schema: copies, part by part. -/
import Derived.Test.YtmbpclknhkbbkaaGreatK37
import Derived.Test.YtmbpclknhkbbkaaGreatK30
import Derived.Test.YtmbpclknhkbbkaaGreatK24
set_option linter.unusedSimpArgs false
set_option linter.unusedVariables false
namespace Go.Proofs.YtmbpclknhkbbkaaGreat
open Go.RowKit
set_option linter.unusedVariables false
set_option linter.unusedSimpArgs false

set_option maxHeartbeats 1000000 in
set_option maxRecDepth 100000 in
theorem copyStg_step (x : Stg) (HC0 : CopyOk 106 13 (fun w cs x => StgIs w x cs) x.thn) (HC1 : CopyOk 106 13 (fun w cs x => StgIs w x cs) x.els) (cs : Array Value) (w : World) (hI : StgIs w x cs) : Calls Tryz.prog 106 #[.agg cs] w fun e w' => ∃ cs',e = .returned (.agg cs') ∧ StgIs (upw w.heap.size w') x cs' ∧ Below w.heap.size w w' := by
 obtain ⟨v0,v1,rfl,okn,hf0,hf1⟩ := (stgIs_iff w x cs).1 hI
 obtain ⟨a0,c0,rfl,_⟩ := hf0.slice
 obtain ⟨a1,c1,rfl,_⟩ := hf1.slice
 have HB0 : Hid (Box3 w 127 #[.int .i64 x.kind,.string x.table,.int .i64 x.test.kind,.string x.test.a.ref.head,.string x.test.a.ref.name,.int .u64 (hiOf x.test.a.const),.int .u64 (loOf x.test.a.const),.string x.test.b.ref.head,.string x.test.b.ref.name,.int .u64 (hiOf x.test.b.const),.int .u64 (loOf x.test.b.const),.slice a0 x.thn.length c0,.slice a1 x.els.length c1] #[.int .i64 0,.string ⟨#[]⟩,.int .i64 0,.string ⟨#[]⟩,.string ⟨#[]⟩,.int .u64 0,.int .u64 0,.string ⟨#[]⟩,.string ⟨#[]⟩,.int .u64 0,.int .u64 0,.slice none 0 0,.slice none 0 0] (fun _ => True) ((w.alloc (.cells #[.int .i64 x.kind,.string x.table,.int .i64 x.test.kind,.string x.test.a.ref.head,.string x.test.a.ref.name,.int .u64 (hiOf x.test.a.const),.int .u64 (loOf x.test.a.const),.string x.test.b.ref.head,.string x.test.b.ref.name,.int .u64 (hiOf x.test.b.const),.int .u64 (loOf x.test.b.const),.slice a0 x.thn.length c0,.slice a1 x.els.length c1] 127)).alloc (.cells #[.int .i64 0,.string ⟨#[]⟩,.int .i64 0,.string ⟨#[]⟩,.string ⟨#[]⟩,.int .u64 0,.int .u64 0,.string ⟨#[]⟩,.string ⟨#[]⟩,.int .u64 0,.int .u64 0,.slice none 0 0,.slice none 0 0] 127))) := Box3.start w 127 _ _
 have C0 : Hid (∀ w,Calls Tryz.prog 87 #[.string x.table] w fun e w' => e = .returned (.string x.table) ∧ Below w.heap.size w w') := fun w => clone_any _ w (okn.2.1)
 have C1 : Hid (∀ w,Calls Tryz.prog 184 #[.agg #[.string x.test.a.ref.head,.string x.test.a.ref.name,.int .u64 (hiOf x.test.a.const),.int .u64 (loOf x.test.a.const)]] w fun e w' => e = .returned (.agg #[.string x.test.a.ref.head,.string x.test.a.ref.name,.int .u64 (hiOf x.test.a.const),.int .u64 (loOf x.test.a.const)]) ∧ Below w.heap.size w w') := fun w => copyOpd_any x.test.a (okn.2.2.2.1) w
 have C2 : Hid (∀ w,Calls Tryz.prog 184 #[.agg #[.string x.test.b.ref.head,.string x.test.b.ref.name,.int .u64 (hiOf x.test.b.const),.int .u64 (loOf x.test.b.const)]] w fun e w' => e = .returned (.agg #[.string x.test.b.ref.head,.string x.test.b.ref.name,.int .u64 (hiOf x.test.b.const),.int .u64 (loOf x.test.b.const)]) ∧ Below w.heap.size w w') := fun w => copyOpd_any x.test.b (okn.2.2.2.2) w
 have C3 : Hid (∀ W,Pres w W → Calls Tryz.prog 105 #[.slice a0 x.thn.length c0,.func (.func 106) #[] #[]] W fun e w' => ∃ a' c',e = .returned (.slice a' x.thn.length c') ∧ Row 13 (fun w cs x => StgIs w x cs) (upw W.heap.size w') (.slice a' x.thn.length c') x.thn ∧ Below W.heap.size W w') := fun W hp => each_sliced (eachStg_any _ _ W (stgRow_row (hf0.pres hp)).1 (stgRow_row hf0).2 HC0)
 have C4 : Hid (∀ W,Pres w W → Calls Tryz.prog 105 #[.slice a1 x.els.length c1,.func (.func 106) #[] #[]] W fun e w' => ∃ a' c',e = .returned (.slice a' x.els.length c') ∧ Row 13 (fun w cs x => StgIs w x cs) (upw W.heap.size w') (.slice a' x.els.length c') x.els ∧ Below W.heap.size W w') := fun W hp => each_sliced (eachStg_any _ _ W (stgRow_row (hf1.pres hp)).1 (stgRow_row hf1).2 HC1)
 go_enter Tryz.func106,Tryz.ntmps106
 go_upto_region 1 with fail
 generalize ((w.alloc _).alloc _) = W0 at HB0 ⊢
 have c0_ := HB0.out.one.cell 1 (v := .string x.table) rfl
 go_wp2_with fail
 refine (C0.out _).mono ?_
 rintro e V0 ⟨rfl,hb0⟩
 have HK0 := hkeep3 HB0 hb0
 clear hb0 HB0 c0_
 have c0_ := HK0.out.one.cell 1 (v := .string x.table) rfl
 have f0 := HK0.out.one.frozen 1
 have HB1 : Hid (Box3 w 127 #[.int .i64 x.kind,.string x.table,.int .i64 x.test.kind,.string x.test.a.ref.head,.string x.test.a.ref.name,.int .u64 (hiOf x.test.a.const),.int .u64 (loOf x.test.a.const),.string x.test.b.ref.head,.string x.test.b.ref.name,.int .u64 (hiOf x.test.b.const),.int .u64 (loOf x.test.b.const),.slice a0 x.thn.length c0,.slice a1 x.els.length c1] #[.int .i64 0,.string ⟨#[]⟩,.int .i64 0,.string ⟨#[]⟩,.string ⟨#[]⟩,.int .u64 0,.int .u64 0,.string ⟨#[]⟩,.string ⟨#[]⟩,.int .u64 0,.int .u64 0,.slice none 0 0,.slice none 0 0] (fun _ => True) (V0.setCell ⟨w.heap.size,1,none⟩ (.string x.table))) := HK0.out.same rfl
 go_upto_region 2 with fail
 generalize V0.setCell ⟨w.heap.size,1,none⟩ (.string x.table) = W1 at HB1 ⊢
 clear c0_ f0 HK0
 have RG1 : Hid (W1.rangeAt w.heap.size 3 ([.string x.test.a.ref.head,.string x.test.a.ref.name,.int .u64 (hiOf x.test.a.const),.int .u64 (loOf x.test.a.const)] : List Value)) := blk_part (l := ([.int .i64 x.kind,.string x.table,.int .i64 x.test.kind,.string x.test.a.ref.head,.string x.test.a.ref.name,.int .u64 (hiOf x.test.a.const),.int .u64 (loOf x.test.a.const),.string x.test.b.ref.head,.string x.test.b.ref.name,.int .u64 (hiOf x.test.b.const),.int .u64 (loOf x.test.b.const),.slice a0 x.thn.length c0,.slice a1 x.els.length c1] : List Value)) HB1.out.one 3 rfl
 go_wp2_with (refine wpList_load_mid rfl 123 _ rfl w.heap.size 3 rfl ([.string x.test.a.ref.head,.string x.test.a.ref.name,.int .u64 (hiOf x.test.a.const),.int .u64 (loOf x.test.a.const)] : List Value) _ RG1.out Tryz.underlying123 rfl (by kernel_rfl) ?_)
 refine (C1.out _).mono ?_
 rintro e V1 ⟨rfl,hb1⟩
 have HK1 := hkeep3 HB1 hb1
 clear hb1 HB1 RG1
 have TH1 : Hid (V1.there w.heap.size 3 ([.string x.test.a.ref.head,.string x.test.a.ref.name,.int .u64 (hiOf x.test.a.const),.int .u64 (loOf x.test.a.const)] : List Value).toArray.size) := blk_there HK1.out.one (by simp)
 have HB2 : Hid (Box3 w 127 #[.int .i64 x.kind,.string x.table,.int .i64 x.test.kind,.string x.test.a.ref.head,.string x.test.a.ref.name,.int .u64 (hiOf x.test.a.const),.int .u64 (loOf x.test.a.const),.string x.test.b.ref.head,.string x.test.b.ref.name,.int .u64 (hiOf x.test.b.const),.int .u64 (loOf x.test.b.const),.slice a0 x.thn.length c0,.slice a1 x.els.length c1] #[.int .i64 0,.string ⟨#[]⟩,.int .i64 0,.string ⟨#[]⟩,.string ⟨#[]⟩,.int .u64 0,.int .u64 0,.string ⟨#[]⟩,.string ⟨#[]⟩,.int .u64 0,.int .u64 0,.slice none 0 0,.slice none 0 0] (fun _ => True) (V1.setCells w.heap.size 3 ([.string x.test.a.ref.head,.string x.test.a.ref.name,.int .u64 (hiOf x.test.a.const),.int .u64 (loOf x.test.a.const)] : List Value))) := HK1.out.part 3
 go_upto_region 3 with (refine wpList_store_mid rfl 123 _ _ rfl w.heap.size 3 ([.string x.test.a.ref.head,.string x.test.a.ref.name,.int .u64 (hiOf x.test.a.const),.int .u64 (loOf x.test.a.const)] : List Value).toArray rfl rfl TH1.out (by kernel_rfl) (by simp [Value.oneCell']) ?_)
 generalize V1.setCells w.heap.size 3 ([.string x.test.a.ref.head,.string x.test.a.ref.name,.int .u64 (hiOf x.test.a.const),.int .u64 (loOf x.test.a.const)] : List Value) = W2 at HB2 ⊢
 clear TH1 HK1
 have RG2 : Hid (W2.rangeAt w.heap.size 7 ([.string x.test.b.ref.head,.string x.test.b.ref.name,.int .u64 (hiOf x.test.b.const),.int .u64 (loOf x.test.b.const)] : List Value)) := blk_part (l := ([.int .i64 x.kind,.string x.table,.int .i64 x.test.kind,.string x.test.a.ref.head,.string x.test.a.ref.name,.int .u64 (hiOf x.test.a.const),.int .u64 (loOf x.test.a.const),.string x.test.b.ref.head,.string x.test.b.ref.name,.int .u64 (hiOf x.test.b.const),.int .u64 (loOf x.test.b.const),.slice a0 x.thn.length c0,.slice a1 x.els.length c1] : List Value)) HB2.out.one 7 rfl
 go_wp2_with (refine wpList_load_mid rfl 123 _ rfl w.heap.size 7 rfl ([.string x.test.b.ref.head,.string x.test.b.ref.name,.int .u64 (hiOf x.test.b.const),.int .u64 (loOf x.test.b.const)] : List Value) _ RG2.out Tryz.underlying123 rfl (by kernel_rfl) ?_)
 refine (C2.out _).mono ?_
 rintro e V2 ⟨rfl,hb2⟩
 have HK2 := hkeep3 HB2 hb2
 clear hb2 HB2 RG2
 have TH2 : Hid (V2.there w.heap.size 7 ([.string x.test.b.ref.head,.string x.test.b.ref.name,.int .u64 (hiOf x.test.b.const),.int .u64 (loOf x.test.b.const)] : List Value).toArray.size) := blk_there HK2.out.one (by simp)
 have HB3 : Hid (Box3 w 127 #[.int .i64 x.kind,.string x.table,.int .i64 x.test.kind,.string x.test.a.ref.head,.string x.test.a.ref.name,.int .u64 (hiOf x.test.a.const),.int .u64 (loOf x.test.a.const),.string x.test.b.ref.head,.string x.test.b.ref.name,.int .u64 (hiOf x.test.b.const),.int .u64 (loOf x.test.b.const),.slice a0 x.thn.length c0,.slice a1 x.els.length c1] #[.int .i64 0,.string ⟨#[]⟩,.int .i64 0,.string ⟨#[]⟩,.string ⟨#[]⟩,.int .u64 0,.int .u64 0,.string ⟨#[]⟩,.string ⟨#[]⟩,.int .u64 0,.int .u64 0,.slice none 0 0,.slice none 0 0] (fun _ => True) (V2.setCells w.heap.size 7 ([.string x.test.b.ref.head,.string x.test.b.ref.name,.int .u64 (hiOf x.test.b.const),.int .u64 (loOf x.test.b.const)] : List Value))) := HK2.out.part 7
 go_upto_region 4 with (refine wpList_store_mid rfl 123 _ _ rfl w.heap.size 7 ([.string x.test.b.ref.head,.string x.test.b.ref.name,.int .u64 (hiOf x.test.b.const),.int .u64 (loOf x.test.b.const)] : List Value).toArray rfl rfl TH2.out (by kernel_rfl) (by simp [Value.oneCell']) ?_)
 generalize V2.setCells w.heap.size 7 ([.string x.test.b.ref.head,.string x.test.b.ref.name,.int .u64 (hiOf x.test.b.const),.int .u64 (loOf x.test.b.const)] : List Value) = W3 at HB3 ⊢
 clear TH2 HK2
 have c3_ := HB3.out.one.cell 11 (v := .slice a0 x.thn.length c0) rfl
 go_wp2_with fail
 refine (C3.out _ (pres_below HB3.out.below)).mono ?_
 rintro e V3 ⟨b0,d0,rfl,hr0,hb3⟩
 have hr0 : (fun u => Row 13 (fun w cs x => StgIs w x cs) u (.slice b0 x.thn.length d0) x.thn) (upw (w.heap.size + 2) V3) := hr0.pres (up_mono _ HB3.out.size) (fun _ _ _ h => h.pres (up_mono _ HB3.out.size))
 have HK3 := hkeep3 HB3 hb3
 clear hb3 HB3 c3_
 have c3_ := HK3.out.one.cell 11 (v := .slice a0 x.thn.length c0) rfl
 have f3 := HK3.out.one.frozen 11
 have HB4 : Hid (Box3 w 127 #[.int .i64 x.kind,.string x.table,.int .i64 x.test.kind,.string x.test.a.ref.head,.string x.test.a.ref.name,.int .u64 (hiOf x.test.a.const),.int .u64 (loOf x.test.a.const),.string x.test.b.ref.head,.string x.test.b.ref.name,.int .u64 (hiOf x.test.b.const),.int .u64 (loOf x.test.b.const),.slice b0 x.thn.length d0,.slice a1 x.els.length c1] #[.int .i64 0,.string ⟨#[]⟩,.int .i64 0,.string ⟨#[]⟩,.string ⟨#[]⟩,.int .u64 0,.int .u64 0,.string ⟨#[]⟩,.string ⟨#[]⟩,.int .u64 0,.int .u64 0,.slice none 0 0,.slice none 0 0] (fun u => (fun _ => True) u ∧ (fun u => Row 13 (fun w cs x => StgIs w x cs) u (.slice b0 x.thn.length d0) x.thn) u) (V3.setCell ⟨w.heap.size,11,none⟩ (.slice b0 x.thn.length d0))) := HK3.out.put (i := 11) (R := (fun u => Row 13 (fun w cs x => StgIs w x cs) u (.slice b0 x.thn.length d0) x.thn)) (fun _ _ h => fun h1 => Row.pres h1 h (fun _ _ _ h2 => h2.pres h)) hr0
 clear hr0
 go_upto_region 5 with fail
 generalize V3.setCell ⟨w.heap.size,11,none⟩ (.slice b0 x.thn.length d0) = W4 at HB4 ⊢
 clear c3_ f3 HK3
 have c4_ := HB4.out.one.cell 12 (v := .slice a1 x.els.length c1) rfl
 go_wp2_with fail
 refine (C4.out _ (pres_below HB4.out.below)).mono ?_
 rintro e V4 ⟨b1,d1,rfl,hr1,hb4⟩
 have hr1 : (fun u => Row 13 (fun w cs x => StgIs w x cs) u (.slice b1 x.els.length d1) x.els) (upw (w.heap.size + 2) V4) := hr1.pres (up_mono _ HB4.out.size) (fun _ _ _ h => h.pres (up_mono _ HB4.out.size))
 have HK4 := hkeep3 HB4 hb4
 clear hb4 HB4 c4_
 have c4_ := HK4.out.one.cell 12 (v := .slice a1 x.els.length c1) rfl
 have f4 := HK4.out.one.frozen 12
 have HB5 : Hid (Box3 w 127 #[.int .i64 x.kind,.string x.table,.int .i64 x.test.kind,.string x.test.a.ref.head,.string x.test.a.ref.name,.int .u64 (hiOf x.test.a.const),.int .u64 (loOf x.test.a.const),.string x.test.b.ref.head,.string x.test.b.ref.name,.int .u64 (hiOf x.test.b.const),.int .u64 (loOf x.test.b.const),.slice b0 x.thn.length d0,.slice b1 x.els.length d1] #[.int .i64 0,.string ⟨#[]⟩,.int .i64 0,.string ⟨#[]⟩,.string ⟨#[]⟩,.int .u64 0,.int .u64 0,.string ⟨#[]⟩,.string ⟨#[]⟩,.int .u64 0,.int .u64 0,.slice none 0 0,.slice none 0 0] (fun u => (fun u => (fun _ => True) u ∧ (fun u => Row 13 (fun w cs x => StgIs w x cs) u (.slice b0 x.thn.length d0) x.thn) u) u ∧ (fun u => Row 13 (fun w cs x => StgIs w x cs) u (.slice b1 x.els.length d1) x.els) u) (V4.setCell ⟨w.heap.size,12,none⟩ (.slice b1 x.els.length d1))) := HK4.out.put (i := 12) (R := (fun u => Row 13 (fun w cs x => StgIs w x cs) u (.slice b1 x.els.length d1) x.els)) (fun _ _ h => fun h1 => Row.pres h1 h (fun _ _ _ h2 => h2.pres h)) hr1
 clear hr1
 go_upto_region 6 with fail
 generalize V4.setCell ⟨w.heap.size,12,none⟩ (.slice b1 x.els.length d1) = W5 at HB5 ⊢
 clear c4_ f4 HK4
 have RG : Hid (W5.rangeAt w.heap.size 0 ([.int .i64 x.kind,.string x.table,.int .i64 x.test.kind,.string x.test.a.ref.head,.string x.test.a.ref.name,.int .u64 (hiOf x.test.a.const),.int .u64 (loOf x.test.a.const),.string x.test.b.ref.head,.string x.test.b.ref.name,.int .u64 (hiOf x.test.b.const),.int .u64 (loOf x.test.b.const),.slice b0 x.thn.length d0,.slice b1 x.els.length d1] : List Value)) := blk_range HB5.out.one
 have TH : Hid (W5.there (w.heap.size + 1) 0 ([.int .i64 x.kind,.string x.table,.int .i64 x.test.kind,.string x.test.a.ref.head,.string x.test.a.ref.name,.int .u64 (hiOf x.test.a.const),.int .u64 (loOf x.test.a.const),.string x.test.b.ref.head,.string x.test.b.ref.name,.int .u64 (hiOf x.test.b.const),.int .u64 (loOf x.test.b.const),.slice b0 x.thn.length d0,.slice b1 x.els.length d1] : List Value).toArray.size) := blk_there HB5.out.two (by simp)
 have HF : Hid ((W5.setCells (w.heap.size + 1) 0 ([.int .i64 x.kind,.string x.table,.int .i64 x.test.kind,.string x.test.a.ref.head,.string x.test.a.ref.name,.int .u64 (hiOf x.test.a.const),.int .u64 (loOf x.test.a.const),.string x.test.b.ref.head,.string x.test.b.ref.name,.int .u64 (hiOf x.test.b.const),.int .u64 (loOf x.test.b.const),.slice b0 x.thn.length d0,.slice b1 x.els.length d1] : List Value)).rangeAt (w.heap.size + 1) 0 ([.int .i64 x.kind,.string x.table,.int .i64 x.test.kind,.string x.test.a.ref.head,.string x.test.a.ref.name,.int .u64 (hiOf x.test.a.const),.int .u64 (loOf x.test.a.const),.string x.test.b.ref.head,.string x.test.b.ref.name,.int .u64 (hiOf x.test.b.const),.int .u64 (loOf x.test.b.const),.slice b0 x.thn.length d0,.slice b1 x.els.length d1] : List Value) ∧ (fun u => (fun u => (fun _ => True) u ∧ (fun u => Row 13 (fun w cs x => StgIs w x cs) u (.slice b0 x.thn.length d0) x.thn) u) u ∧ (fun u => Row 13 (fun w cs x => StgIs w x cs) u (.slice b1 x.els.length d1) x.els) u) (upw w.heap.size (W5.setCells (w.heap.size + 1) 0 ([.int .i64 x.kind,.string x.table,.int .i64 x.test.kind,.string x.test.a.ref.head,.string x.test.a.ref.name,.int .u64 (hiOf x.test.a.const),.int .u64 (loOf x.test.a.const),.string x.test.b.ref.head,.string x.test.b.ref.name,.int .u64 (hiOf x.test.b.const),.int .u64 (loOf x.test.b.const),.slice b0 x.thn.length d0,.slice b1 x.els.length d1] : List Value))) ∧ Below w.heap.size w (W5.setCells (w.heap.size + 1) 0 ([.int .i64 x.kind,.string x.table,.int .i64 x.test.kind,.string x.test.a.ref.head,.string x.test.a.ref.name,.int .u64 (hiOf x.test.a.const),.int .u64 (loOf x.test.a.const),.string x.test.b.ref.head,.string x.test.b.ref.name,.int .u64 (hiOf x.test.b.const),.int .u64 (loOf x.test.b.const),.slice b0 x.thn.length d0,.slice b1 x.els.length d1] : List Value))) := ⟨World.rangeAt_setCells_same _ _ _ _ TH.out,HB5.out.qfin 0 _,HB5.out.fin 0 _⟩
 have hz : (Tryz.prog.info? 127).map (·.size) = some ([.int .i64 x.kind,.string x.table,.int .i64 x.test.kind,.string x.test.a.ref.head,.string x.test.a.ref.name,.int .u64 (hiOf x.test.a.const),.int .u64 (loOf x.test.a.const),.string x.test.b.ref.head,.string x.test.b.ref.name,.int .u64 (hiOf x.test.b.const),.int .u64 (loOf x.test.b.const),.slice b0 x.thn.length d0,.slice b1 x.els.length d1] : List Value).length := by kernel_rfl
 have on : ([.int .i64 x.kind,.string x.table,.int .i64 x.test.kind,.string x.test.a.ref.head,.string x.test.a.ref.name,.int .u64 (hiOf x.test.a.const),.int .u64 (loOf x.test.a.const),.string x.test.b.ref.head,.string x.test.b.ref.name,.int .u64 (hiOf x.test.b.const),.int .u64 (loOf x.test.b.const),.slice b0 x.thn.length d0,.slice b1 x.els.length d1] : List Value).toArray.all (·.oneCell') = true := by simp [Value.oneCell']
 have ON : Hid (([.int .i64 x.kind,.string x.table,.int .i64 x.test.kind,.string x.test.a.ref.head,.string x.test.a.ref.name,.int .u64 (hiOf x.test.a.const),.int .u64 (loOf x.test.a.const),.string x.test.b.ref.head,.string x.test.b.ref.name,.int .u64 (hiOf x.test.b.const),.int .u64 (loOf x.test.b.const),.slice b0 x.thn.length d0,.slice b1 x.els.length d1] : List Value).toArray.all (·.oneCell') = true) := on
 clear on
 generalize hCL : ([.int .i64 x.kind,.string x.table,.int .i64 x.test.kind,.string x.test.a.ref.head,.string x.test.a.ref.name,.int .u64 (hiOf x.test.a.const),.int .u64 (loOf x.test.a.const),.string x.test.b.ref.head,.string x.test.b.ref.name,.int .u64 (hiOf x.test.b.const),.int .u64 (loOf x.test.b.const),.slice b0 x.thn.length d0,.slice b1 x.els.length d1] : List Value) = cl at RG TH HF hz ON
 go_wp2_with (first | (refine wpList_load_mid rfl 127 _ rfl w.heap.size 0 rfl cl _ RG.out Tryz.underlying127 rfl hz ?_) | (refine wpList_store_mid rfl 127 _ _ rfl (w.heap.size + 1) 0 cl.toArray rfl rfl TH.out (by rw [List.size_toArray]; exact hz) ON.out ?_))
 clear TH RG ON
 generalize W5.setCells (w.heap.size + 1) 0 cl = WF at HF ⊢
 subst hCL
 have k0 := HF.out.1 0 (.int .i64 x.kind) rfl
 have k1 := HF.out.1 1 (.string x.table) rfl
 have k2 := HF.out.1 2 (.int .i64 x.test.kind) rfl
 have k3 := HF.out.1 3 (.string x.test.a.ref.head) rfl
 have k4 := HF.out.1 4 (.string x.test.a.ref.name) rfl
 have k5 := HF.out.1 5 (.int .u64 (hiOf x.test.a.const)) rfl
 have k6 := HF.out.1 6 (.int .u64 (loOf x.test.a.const)) rfl
 have k7 := HF.out.1 7 (.string x.test.b.ref.head) rfl
 have k8 := HF.out.1 8 (.string x.test.b.ref.name) rfl
 have k9 := HF.out.1 9 (.int .u64 (hiOf x.test.b.const)) rfl
 have k10 := HF.out.1 10 (.int .u64 (loOf x.test.b.const)) rfl
 have k11 := HF.out.1 11 (.slice b0 x.thn.length d0) rfl
 have k12 := HF.out.1 12 (.slice b1 x.els.length d1) rfl
 simp only [Nat.zero_add] at k0 k1 k2 k3 k4 k5 k6 k7 k8 k9 k10 k11 k12
 refine bodyPost_ret (v := .agg #[.int .i64 x.kind,.string x.table,.int .i64 x.test.kind,.string x.test.a.ref.head,.string x.test.a.ref.name,.int .u64 (hiOf x.test.a.const),.int .u64 (loOf x.test.a.const),.string x.test.b.ref.head,.string x.test.b.ref.name,.int .u64 (hiOf x.test.b.const),.int .u64 (loOf x.test.b.const),.slice b0 x.thn.length d0,.slice b1 x.els.length d1]) (by simp [results,Tryz.results106,go_sem,k0,k1,k2,k3,k4,k5,k6,k7,k8,k9,k10,k11,k12]) rfl ⟨_,rfl,(stgIs_iff _ x _).2 (⟨_,_,rfl,okn,row_stgRow HF.out.2.1.1.2 (stgRow_row hf0).2,row_stgRow HF.out.2.1.2 (stgRow_row hf1).2⟩),HF.out.2.2⟩
end Go.Proofs.YtmbpclknhkbbkaaGreat
