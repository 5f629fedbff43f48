/- Package schema: steps that are well ma. -/
import Derived.Test.YtmbpclknhkbbkaaGreatB03
set_option linter.unusedSimpArgs false
set_option linter.unusedVariables false
set_option maxHeartbeats 1000000
set_option maxRecDepth 100000
namespace Go.Proofs.YtmbpclknhkbbkaaGreat
open Go.RowKit
theorem isStep_2 (r:Rf)(p:Int)(a b:Opd)(w:World):Calls Tryz.prog 204 #[.agg #[.int .i64 2,.string r.head,.string r.name,.int .i64 p,.string a.ref.head,.string a.ref.name,.int .u64 (hiOf a.const),.int .u64 (loOf a.const),.string b.ref.head,.string b.ref.name,.int .u64 (hiOf b.const),.int .u64 (loOf b.const)]] w fun e w'=>e=.returned (.bool (decide ((⟨2,r,p,a,b⟩:Stp)=⟨2,zeroR,0,zeroO,zeroO⟩)&&(isOpN p&&(isOpd a&&isOpd b))))∧Below w.heap.size w w':=by
 have hE:∀ u:World,(binOp .eql 167 (.agg (stA 2 r p a b)) (.agg (zA 2))).run Tryz.prog u=.ok (.bool (decide ((⟨2,r,p,a,b⟩:Stp)=⟨2,zeroR,0,zeroO,zeroO⟩))) u:=fun u=>by
  have:=run_eq167 ⟨2,r,p,a,b⟩ ⟨2,zeroR,0,zeroO,zeroO⟩ u
  simpa[StpC,stA,zA,hiOf,loOf] using this
 have CO:Hid (∀ w,Cs 227 #[.int .i64 p] w fun e w'=>e=.returned (.bool (isOpN p))∧w'=w):=fun w=>isOp_any p w
 have CA:Hid (∀ w,Cs 228 #[.agg (OpdC a)] w fun e w'=>e=.returned (.bool (isOpd a))∧Bl w w'):=fun w=>isOperand_any a w
 have CB:Hid (∀ w,Cs 228 #[.agg (OpdC b)] w fun e w'=>e=.returned (.bool (isOpd b))∧Bl w w'):=fun w=>isOperand_any b w
 generalize decide ((⟨2,r,p,a,b⟩:Stp)=⟨2,zeroR,0,zeroO,zeroO⟩)=q at*
 generalize isOpN p=co at*
 generalize isOpd a=ca at*
 generalize isOpd b=cb at*
 have HB0:Hid (Blk (w.alloc (.cells (stA 2 r p a b) 167)) w.heap.size (stA 2 r p a b) 167∧Bl w (w.alloc (.cells (stA 2 r p a b) 167))):=⟨Blk.new _ _ _,(Below.refl _ _).alloc (Nat.le_refl _) _⟩
 go_enter Tryz.func204,Tryz.ntmps204
 go_upto_region 1 with fail
 generalize (w.alloc _)=W0 at HB0 ⊢
 have p0:=HB0.out.1.cell 0 (v:=.int .i64 2) rfl
 have hlt:w.heap.size<W0.heap.size:=HB0.out.1.lt
 have HN:Hid (Blk (W0.alloc (.cells (zA 0) 167)) W0.heap.size (zA 0) 167):=Blk.new _ _ _
 have TH:Hid ((W0.alloc (.cells (zA 0) 167)).there W0.heap.size 0 (zL 2).toArray.size):=blk_there HN.out (by simp)
 have HB1:Hid (Blk ((W0.alloc (.cells (zA 0) 167)).setCells W0.heap.size 0 (zL 2)) w.heap.size (stA 2 r p a b) 167∧Blk ((W0.alloc (.cells (zA 0) 167)).setCells W0.heap.size 0 (zL 2)) W0.heap.size (zA 2) 167∧Below w.heap.size w ((W0.alloc (.cells (zA 0) 167)).setCells W0.heap.size 0 (zL 2))):=
  ⟨HB0.out.1.below (below_setCells ((Below.refl _ _).alloc (Nat.le_refl _) _) (Nat.le_refl _) _ _),blk_over (zL 2) (pre:=[]) (old:=(zL 0)) rfl HN.out,below_setCells (HB0.out.2.alloc HB0.out.2.size _) HB0.out.2.size _ _⟩
 have on:(zL 2).toArray.all (·.oneCell')=true:=by simp[Value.oneCell']
 have ON:Hid ((zL 2).toArray.all (·.oneCell')=true):=on
 have hz:(Tryz.prog.info? 167).map (·.size)=some (zL 2).length:=by kernel_rfl
 clear on HN
 go_upto_region 2 with(refine wpList_store_mid rfl 167 _ _ rfl W0.heap.size 0 (zL 2).toArray rfl rfl TH.out (by rw[List.size_toArray];exact hz) ON.out ?_)
 generalize ((W0.alloc (.cells (zA 0) 167)).setCells W0.heap.size 0 (zL 2))=W1 at HB1 ⊢
 clear TH ON hz p0
 have p0:=HB1.out.1.cell 0 (v:=.int .i64 2) rfl
 go_upto_region 15 with fail
 have HB2:=HB1
 clear HB1 p0
 generalize W1=W2 at HB2 ⊢
 have R1:Hid (W2.rangeAt w.heap.size 0 (stL 2 r p a b)):=blk_range HB2.out.1
 have R2:Hid (W2.rangeAt W0.heap.size 0 (zL 2)):=blk_range HB2.out.2.1
 have p3:=HB2.out.1.cell 3 (v:=.int .i64 p) rfl
 have p4:=HB2.out.1.cell 4 (v:=.string a.ref.head) rfl
 have p5:=HB2.out.1.cell 5 (v:=.string a.ref.name) rfl
 have p6:=HB2.out.1.cell 6 (v:=.int .u64 (hiOf a.const)) rfl
 have p7:=HB2.out.1.cell 7 (v:=.int .u64 (loOf a.const)) rfl
 cases q
 ·go_wp2_with (first|(refine wpList_load_mid rfl 167 _ rfl w.heap.size 0 rfl (stL 2 r p a b) _ R1.out Tryz.underlying167 rfl (by kernel_rfl) ?_)|(refine wpList_load_mid rfl 167 _ rfl W0.heap.size 0 rfl (zL 2) _ R2.out Tryz.underlying167 rfl (by kernel_rfl) ?_))
  go_ret
  exact⟨rfl,HB2.out.2.2⟩
 go_wp2_with (first|(refine wpList_load_mid rfl 167 _ rfl w.heap.size 0 rfl (stL 2 r p a b) _ R1.out Tryz.underlying167 rfl (by kernel_rfl) ?_)|(refine wpList_load_mid rfl 167 _ rfl W0.heap.size 0 rfl (zL 2) _ R2.out Tryz.underlying167 rfl (by kernel_rfl) ?_))
 refine(CO.out _).mono ?_
 rintro e V0 ⟨rfl,rfl⟩
 cases co
 ·go_wp2
  go_ret
  exact⟨rfl,HB2.out.2.2⟩
 go_wp2_with fail
 refine(CA.out _).mono ?_
 rintro e V1 ⟨rfl,hb⟩
 have HB3:Hid (Blk V1 w.heap.size (stA 2 r p a b) 167∧Bl w V1):=⟨HB2.out.1.below hb,bst HB2.out.2.2 hb (Nat.le_refl _)⟩
 clear hb HB2 R1 R2 p3 p4 p5 p6 p7
 have p8:=HB3.out.1.cell 8 (v:=.string b.ref.head) rfl
 have p9:=HB3.out.1.cell 9 (v:=.string b.ref.name) rfl
 have p10:=HB3.out.1.cell 10 (v:=.int .u64 (hiOf b.const)) rfl
 have p11:=HB3.out.1.cell 11 (v:=.int .u64 (loOf b.const)) rfl
 cases ca
 ·go_wp2
  go_ret
  exact⟨rfl,HB3.out.2⟩
 go_wp2_with fail
 refine(CB.out _).mono ?_
 rintro e V2 ⟨rfl,hb⟩
 have HB4:Hid (Bl w V2):=bst HB3.out.2 hb (Nat.le_refl _)
 clear hb HB3 p8 p9 p10 p11
 go_wp2
 go_ret
 exact⟨rfl,HB4.out⟩
theorem isStep_6 (r:Rf)(p:Int)(a b:Opd)(w:World):Calls Tryz.prog 204 #[.agg #[.int .i64 6,.string r.head,.string r.name,.int .i64 p,.string a.ref.head,.string a.ref.name,.int .u64 (hiOf a.const),.int .u64 (loOf a.const),.string b.ref.head,.string b.ref.name,.int .u64 (hiOf b.const),.int .u64 (loOf b.const)]] w fun e w'=>e=.returned (.bool (decide ((⟨6,r,p,a,b⟩:Stp)=⟨6,zeroR,0,zeroO,zeroO⟩)&&(isOpN p&&(isOpd a&&isOpd b))))∧Below w.heap.size w w':=by
 have hE:∀ u:World,(binOp .eql 167 (.agg (stA 6 r p a b)) (.agg (zA 6))).run Tryz.prog u=.ok (.bool (decide ((⟨6,r,p,a,b⟩:Stp)=⟨6,zeroR,0,zeroO,zeroO⟩))) u:=fun u=>by
  have:=run_eq167 ⟨6,r,p,a,b⟩ ⟨6,zeroR,0,zeroO,zeroO⟩ u
  simpa[StpC,stA,zA,hiOf,loOf] using this
 have CO:Hid (∀ w,Cs 227 #[.int .i64 p] w fun e w'=>e=.returned (.bool (isOpN p))∧w'=w):=fun w=>isOp_any p w
 have CA:Hid (∀ w,Cs 228 #[.agg (OpdC a)] w fun e w'=>e=.returned (.bool (isOpd a))∧Bl w w'):=fun w=>isOperand_any a w
 have CB:Hid (∀ w,Cs 228 #[.agg (OpdC b)] w fun e w'=>e=.returned (.bool (isOpd b))∧Bl w w'):=fun w=>isOperand_any b w
 generalize decide ((⟨6,r,p,a,b⟩:Stp)=⟨6,zeroR,0,zeroO,zeroO⟩)=q at*
 generalize isOpN p=co at*
 generalize isOpd a=ca at*
 generalize isOpd b=cb at*
 have HB0:Hid (Blk (w.alloc (.cells (stA 6 r p a b) 167)) w.heap.size (stA 6 r p a b) 167∧Bl w (w.alloc (.cells (stA 6 r p a b) 167))):=⟨Blk.new _ _ _,(Below.refl _ _).alloc (Nat.le_refl _) _⟩
 go_enter Tryz.func204,Tryz.ntmps204
 go_upto_region 1 with fail
 generalize (w.alloc _)=W0 at HB0 ⊢
 have p0:=HB0.out.1.cell 0 (v:=.int .i64 6) rfl
 have hlt:w.heap.size<W0.heap.size:=HB0.out.1.lt
 have HN:Hid (Blk (W0.alloc (.cells (zA 0) 167)) W0.heap.size (zA 0) 167):=Blk.new _ _ _
 have TH:Hid ((W0.alloc (.cells (zA 0) 167)).there W0.heap.size 0 (zL 6).toArray.size):=blk_there HN.out (by simp)
 have HB1:Hid (Blk ((W0.alloc (.cells (zA 0) 167)).setCells W0.heap.size 0 (zL 6)) w.heap.size (stA 6 r p a b) 167∧Blk ((W0.alloc (.cells (zA 0) 167)).setCells W0.heap.size 0 (zL 6)) W0.heap.size (zA 6) 167∧Below w.heap.size w ((W0.alloc (.cells (zA 0) 167)).setCells W0.heap.size 0 (zL 6))):=
  ⟨HB0.out.1.below (below_setCells ((Below.refl _ _).alloc (Nat.le_refl _) _) (Nat.le_refl _) _ _),blk_over (zL 6) (pre:=[]) (old:=(zL 0)) rfl HN.out,below_setCells (HB0.out.2.alloc HB0.out.2.size _) HB0.out.2.size _ _⟩
 have on:(zL 6).toArray.all (·.oneCell')=true:=by simp[Value.oneCell']
 have ON:Hid ((zL 6).toArray.all (·.oneCell')=true):=on
 have hz:(Tryz.prog.info? 167).map (·.size)=some (zL 6).length:=by kernel_rfl
 clear on HN
 go_upto_region 2 with(refine wpList_store_mid rfl 167 _ _ rfl W0.heap.size 0 (zL 6).toArray rfl rfl TH.out (by rw[List.size_toArray];exact hz) ON.out ?_)
 generalize ((W0.alloc (.cells (zA 0) 167)).setCells W0.heap.size 0 (zL 6))=W1 at HB1 ⊢
 clear TH ON hz p0
 have p0:=HB1.out.1.cell 0 (v:=.int .i64 6) rfl
 go_upto_region 15 with fail
 have HB2:=HB1
 clear HB1 p0
 generalize W1=W2 at HB2 ⊢
 have R1:Hid (W2.rangeAt w.heap.size 0 (stL 6 r p a b)):=blk_range HB2.out.1
 have R2:Hid (W2.rangeAt W0.heap.size 0 (zL 6)):=blk_range HB2.out.2.1
 have p3:=HB2.out.1.cell 3 (v:=.int .i64 p) rfl
 have p4:=HB2.out.1.cell 4 (v:=.string a.ref.head) rfl
 have p5:=HB2.out.1.cell 5 (v:=.string a.ref.name) rfl
 have p6:=HB2.out.1.cell 6 (v:=.int .u64 (hiOf a.const)) rfl
 have p7:=HB2.out.1.cell 7 (v:=.int .u64 (loOf a.const)) rfl
 cases q
 ·go_wp2_with (first|(refine wpList_load_mid rfl 167 _ rfl w.heap.size 0 rfl (stL 6 r p a b) _ R1.out Tryz.underlying167 rfl (by kernel_rfl) ?_)|(refine wpList_load_mid rfl 167 _ rfl W0.heap.size 0 rfl (zL 6) _ R2.out Tryz.underlying167 rfl (by kernel_rfl) ?_))
  go_ret
  exact⟨rfl,HB2.out.2.2⟩
 go_wp2_with (first|(refine wpList_load_mid rfl 167 _ rfl w.heap.size 0 rfl (stL 6 r p a b) _ R1.out Tryz.underlying167 rfl (by kernel_rfl) ?_)|(refine wpList_load_mid rfl 167 _ rfl W0.heap.size 0 rfl (zL 6) _ R2.out Tryz.underlying167 rfl (by kernel_rfl) ?_))
 refine(CO.out _).mono ?_
 rintro e V0 ⟨rfl,rfl⟩
 cases co
 ·go_wp2
  go_ret
  exact⟨rfl,HB2.out.2.2⟩
 go_wp2_with fail
 refine(CA.out _).mono ?_
 rintro e V1 ⟨rfl,hb⟩
 have HB3:Hid (Blk V1 w.heap.size (stA 6 r p a b) 167∧Bl w V1):=⟨HB2.out.1.below hb,bst HB2.out.2.2 hb (Nat.le_refl _)⟩
 clear hb HB2 R1 R2 p3 p4 p5 p6 p7
 have p8:=HB3.out.1.cell 8 (v:=.string b.ref.head) rfl
 have p9:=HB3.out.1.cell 9 (v:=.string b.ref.name) rfl
 have p10:=HB3.out.1.cell 10 (v:=.int .u64 (hiOf b.const)) rfl
 have p11:=HB3.out.1.cell 11 (v:=.int .u64 (loOf b.const)) rfl
 cases ca
 ·go_wp2
  go_ret
  exact⟨rfl,HB3.out.2⟩
 go_wp2_with fail
 refine(CB.out _).mono ?_
 rintro e V2 ⟨rfl,hb⟩
 have HB4:Hid (Bl w V2):=bst HB3.out.2 hb (Nat.le_refl _)
 clear hb HB3 p8 p9 p10 p11
 go_wp2
 go_ret
 exact⟨rfl,HB4.out⟩
theorem isStep_3 (r:Rf)(p:Int)(a b:Opd)(w:World):Calls Tryz.prog 204 #[.agg #[.int .i64 3,.string r.head,.string r.name,.int .i64 p,.string a.ref.head,.string a.ref.name,.int .u64 (hiOf a.const),.int .u64 (loOf a.const),.string b.ref.head,.string b.ref.name,.int .u64 (hiOf b.const),.int .u64 (loOf b.const)]] w fun e w'=>e=.returned (.bool (decide ((⟨3,r,p,a,b⟩:Stp)=⟨3,⟨r.head,⟨#[]⟩⟩,0,zeroO,zeroO⟩)&&(isOpN p&&(isOpd a&&isOpd b))))∧Below w.heap.size w w':=by
 have hE:∀ u:World,(binOp .eql 167 (.agg (stA 3 r p a b)) (.agg #[.int .i64 3,.string r.head,.string ⟨#[]⟩,.int .i64 0,.string ⟨#[]⟩,.string ⟨#[]⟩,.int .u64 0,.int .u64 0,.string ⟨#[]⟩,.string ⟨#[]⟩,.int .u64 0,.int .u64 0])).run Tryz.prog u=.ok (.bool (decide ((⟨3,r,p,a,b⟩:Stp)=⟨3,⟨r.head,⟨#[]⟩⟩,0,zeroO,zeroO⟩))) u:=fun u=>by
  have:=run_eq167 ⟨3,r,p,a,b⟩ ⟨3,⟨r.head,⟨#[]⟩⟩,0,zeroO,zeroO⟩ u
  simpa[StpC,stA,zA,hiOf,loOf] using this
 have CO:Hid (∀ w,Cs 227 #[.int .i64 p] w fun e w'=>e=.returned (.bool (isOpN p))∧w'=w):=fun w=>isOp_any p w
 have CA:Hid (∀ w,Cs 228 #[.agg (OpdC a)] w fun e w'=>e=.returned (.bool (isOpd a))∧Bl w w'):=fun w=>isOperand_any a w
 have CB:Hid (∀ w,Cs 228 #[.agg (OpdC b)] w fun e w'=>e=.returned (.bool (isOpd b))∧Bl w w'):=fun w=>isOperand_any b w
 generalize decide ((⟨3,r,p,a,b⟩:Stp)=⟨3,⟨r.head,⟨#[]⟩⟩,0,zeroO,zeroO⟩)=q at*
 generalize isOpN p=co at*
 generalize isOpd a=ca at*
 generalize isOpd b=cb at*
 have HB0:Hid (Blk (w.alloc (.cells (stA 3 r p a b) 167)) w.heap.size (stA 3 r p a b) 167∧Bl w (w.alloc (.cells (stA 3 r p a b) 167))):=⟨Blk.new _ _ _,(Below.refl _ _).alloc (Nat.le_refl _) _⟩
 go_enter Tryz.func204,Tryz.ntmps204
 go_upto_region 1 with fail
 generalize (w.alloc _)=W0 at HB0 ⊢
 have p0:=HB0.out.1.cell 0 (v:=.int .i64 3) rfl
 have hlt:w.heap.size<W0.heap.size:=HB0.out.1.lt
 have HN:Hid (Blk (W0.alloc (.cells (zA 0) 167)) W0.heap.size (zA 0) 167):=Blk.new _ _ _
 have TH:Hid ((W0.alloc (.cells (zA 0) 167)).there W0.heap.size 0 (zL 3).toArray.size):=blk_there HN.out (by simp)
 have HB1:Hid (Blk ((W0.alloc (.cells (zA 0) 167)).setCells W0.heap.size 0 (zL 3)) w.heap.size (stA 3 r p a b) 167∧Blk ((W0.alloc (.cells (zA 0) 167)).setCells W0.heap.size 0 (zL 3)) W0.heap.size (zA 3) 167∧Below w.heap.size w ((W0.alloc (.cells (zA 0) 167)).setCells W0.heap.size 0 (zL 3))):=
  ⟨HB0.out.1.below (below_setCells ((Below.refl _ _).alloc (Nat.le_refl _) _) (Nat.le_refl _) _ _),blk_over (zL 3) (pre:=[]) (old:=(zL 0)) rfl HN.out,below_setCells (HB0.out.2.alloc HB0.out.2.size _) HB0.out.2.size _ _⟩
 have on:(zL 3).toArray.all (·.oneCell')=true:=by simp[Value.oneCell']
 have ON:Hid ((zL 3).toArray.all (·.oneCell')=true):=on
 have hz:(Tryz.prog.info? 167).map (·.size)=some (zL 3).length:=by kernel_rfl
 clear on HN
 go_upto_region 2 with(refine wpList_store_mid rfl 167 _ _ rfl W0.heap.size 0 (zL 3).toArray rfl rfl TH.out (by rw[List.size_toArray];exact hz) ON.out ?_)
 generalize ((W0.alloc (.cells (zA 0) 167)).setCells W0.heap.size 0 (zL 3))=W1 at HB1 ⊢
 clear TH ON hz p0
 have p0:=HB1.out.1.cell 0 (v:=.int .i64 3) rfl
 have p1:=HB1.out.1.cell 1 (v:=.string r.head) rfl
 have m1:=HB1.out.2.1.cell 1 (v:=.string ⟨#[]⟩) rfl
 have f1:=HB1.out.2.1.frozen 1
 have HB2:Hid (Blk (W1.setCell ⟨W0.heap.size,1,none⟩ (.string r.head)) w.heap.size (stA 3 r p a b) 167∧Blk (W1.setCell ⟨W0.heap.size,1,none⟩ (.string r.head)) W0.heap.size #[.int .i64 3,.string r.head,.string ⟨#[]⟩,.int .i64 0,.string ⟨#[]⟩,.string ⟨#[]⟩,.int .u64 0,.int .u64 0,.string ⟨#[]⟩,.string ⟨#[]⟩,.int .u64 0,.int .u64 0] 167∧Bl w (W1.setCell ⟨W0.heap.size,1,none⟩ (.string r.head))):=⟨HB1.out.1.kept (S:=fun k=>k=W0.heap.size) (Kept.set (S:=fun k=>k=W0.heap.size) (p:=⟨W0.heap.size,1,none⟩) (Kept.refl _ W1) rfl _) (by omega),(HB1.out.2.1.set 1 _),(HB1.out.2.2.setCell (by show w.heap.size≤W0.heap.size;omega) _)⟩
 go_upto_region 15 with fail
 generalize (W1.setCell ⟨W0.heap.size,1,none⟩ (.string r.head))=W2 at HB2 ⊢
 clear HB1 p0 p1 m1 f1
 have R1:Hid (W2.rangeAt w.heap.size 0 (stL 3 r p a b)):=blk_range HB2.out.1
 have R2:Hid (W2.rangeAt W0.heap.size 0 ([.int .i64 3,.string r.head,.string ⟨#[]⟩,.int .i64 0,.string ⟨#[]⟩,.string ⟨#[]⟩,.int .u64 0,.int .u64 0,.string ⟨#[]⟩,.string ⟨#[]⟩,.int .u64 0,.int .u64 0]:List Value)):=blk_range HB2.out.2.1
 have p3:=HB2.out.1.cell 3 (v:=.int .i64 p) rfl
 have p4:=HB2.out.1.cell 4 (v:=.string a.ref.head) rfl
 have p5:=HB2.out.1.cell 5 (v:=.string a.ref.name) rfl
 have p6:=HB2.out.1.cell 6 (v:=.int .u64 (hiOf a.const)) rfl
 have p7:=HB2.out.1.cell 7 (v:=.int .u64 (loOf a.const)) rfl
 cases q
 ·go_wp2_with (first|(refine wpList_load_mid rfl 167 _ rfl w.heap.size 0 rfl (stL 3 r p a b) _ R1.out Tryz.underlying167 rfl (by kernel_rfl) ?_)|(refine wpList_load_mid rfl 167 _ rfl W0.heap.size 0 rfl ([.int .i64 3,.string r.head,.string ⟨#[]⟩,.int .i64 0,.string ⟨#[]⟩,.string ⟨#[]⟩,.int .u64 0,.int .u64 0,.string ⟨#[]⟩,.string ⟨#[]⟩,.int .u64 0,.int .u64 0]:List Value) _ R2.out Tryz.underlying167 rfl (by kernel_rfl) ?_))
  go_ret
  exact⟨rfl,HB2.out.2.2⟩
 go_wp2_with (first|(refine wpList_load_mid rfl 167 _ rfl w.heap.size 0 rfl (stL 3 r p a b) _ R1.out Tryz.underlying167 rfl (by kernel_rfl) ?_)|(refine wpList_load_mid rfl 167 _ rfl W0.heap.size 0 rfl ([.int .i64 3,.string r.head,.string ⟨#[]⟩,.int .i64 0,.string ⟨#[]⟩,.string ⟨#[]⟩,.int .u64 0,.int .u64 0,.string ⟨#[]⟩,.string ⟨#[]⟩,.int .u64 0,.int .u64 0]:List Value) _ R2.out Tryz.underlying167 rfl (by kernel_rfl) ?_))
 refine(CO.out _).mono ?_
 rintro e V0 ⟨rfl,rfl⟩
 cases co
 ·go_wp2
  go_ret
  exact⟨rfl,HB2.out.2.2⟩
 go_wp2_with fail
 refine(CA.out _).mono ?_
 rintro e V1 ⟨rfl,hb⟩
 have HB3:Hid (Blk V1 w.heap.size (stA 3 r p a b) 167∧Bl w V1):=⟨HB2.out.1.below hb,bst HB2.out.2.2 hb (Nat.le_refl _)⟩
 clear hb HB2 R1 R2 p3 p4 p5 p6 p7
 have p8:=HB3.out.1.cell 8 (v:=.string b.ref.head) rfl
 have p9:=HB3.out.1.cell 9 (v:=.string b.ref.name) rfl
 have p10:=HB3.out.1.cell 10 (v:=.int .u64 (hiOf b.const)) rfl
 have p11:=HB3.out.1.cell 11 (v:=.int .u64 (loOf b.const)) rfl
 cases ca
 ·go_wp2
  go_ret
  exact⟨rfl,HB3.out.2⟩
 go_wp2_with fail
 refine(CB.out _).mono ?_
 rintro e V2 ⟨rfl,hb⟩
 have HB4:Hid (Bl w V2):=bst HB3.out.2 hb (Nat.le_refl _)
 clear hb HB3 p8 p9 p10 p11
 go_wp2
 go_ret
 exact⟨rfl,HB4.out⟩
theorem isStep_4 (r:Rf)(p:Int)(a b:Opd)(w:World):Calls Tryz.prog 204 #[.agg #[.int .i64 4,.string r.head,.string r.name,.int .i64 p,.string a.ref.head,.string a.ref.name,.int .u64 (hiOf a.const),.int .u64 (loOf a.const),.string b.ref.head,.string b.ref.name,.int .u64 (hiOf b.const),.int .u64 (loOf b.const)]] w fun e w'=>e=.returned (.bool (decide ((⟨4,r,p,a,b⟩:Stp)=⟨4,⟨r.head,⟨#[]⟩⟩,0,zeroO,zeroO⟩)&&(isOpN p&&(isOpd a&&isOpd b))))∧Below w.heap.size w w':=by
 have hE:∀ u:World,(binOp .eql 167 (.agg (stA 4 r p a b)) (.agg #[.int .i64 4,.string r.head,.string ⟨#[]⟩,.int .i64 0,.string ⟨#[]⟩,.string ⟨#[]⟩,.int .u64 0,.int .u64 0,.string ⟨#[]⟩,.string ⟨#[]⟩,.int .u64 0,.int .u64 0])).run Tryz.prog u=.ok (.bool (decide ((⟨4,r,p,a,b⟩:Stp)=⟨4,⟨r.head,⟨#[]⟩⟩,0,zeroO,zeroO⟩))) u:=fun u=>by
  have:=run_eq167 ⟨4,r,p,a,b⟩ ⟨4,⟨r.head,⟨#[]⟩⟩,0,zeroO,zeroO⟩ u
  simpa[StpC,stA,zA,hiOf,loOf] using this
 have CO:Hid (∀ w,Cs 227 #[.int .i64 p] w fun e w'=>e=.returned (.bool (isOpN p))∧w'=w):=fun w=>isOp_any p w
 have CA:Hid (∀ w,Cs 228 #[.agg (OpdC a)] w fun e w'=>e=.returned (.bool (isOpd a))∧Bl w w'):=fun w=>isOperand_any a w
 have CB:Hid (∀ w,Cs 228 #[.agg (OpdC b)] w fun e w'=>e=.returned (.bool (isOpd b))∧Bl w w'):=fun w=>isOperand_any b w
 generalize decide ((⟨4,r,p,a,b⟩:Stp)=⟨4,⟨r.head,⟨#[]⟩⟩,0,zeroO,zeroO⟩)=q at*
 generalize isOpN p=co at*
 generalize isOpd a=ca at*
 generalize isOpd b=cb at*
 have HB0:Hid (Blk (w.alloc (.cells (stA 4 r p a b) 167)) w.heap.size (stA 4 r p a b) 167∧Bl w (w.alloc (.cells (stA 4 r p a b) 167))):=⟨Blk.new _ _ _,(Below.refl _ _).alloc (Nat.le_refl _) _⟩
 go_enter Tryz.func204,Tryz.ntmps204
 go_upto_region 1 with fail
 generalize (w.alloc _)=W0 at HB0 ⊢
 have p0:=HB0.out.1.cell 0 (v:=.int .i64 4) rfl
 have hlt:w.heap.size<W0.heap.size:=HB0.out.1.lt
 have HN:Hid (Blk (W0.alloc (.cells (zA 0) 167)) W0.heap.size (zA 0) 167):=Blk.new _ _ _
 have TH:Hid ((W0.alloc (.cells (zA 0) 167)).there W0.heap.size 0 (zL 4).toArray.size):=blk_there HN.out (by simp)
 have HB1:Hid (Blk ((W0.alloc (.cells (zA 0) 167)).setCells W0.heap.size 0 (zL 4)) w.heap.size (stA 4 r p a b) 167∧Blk ((W0.alloc (.cells (zA 0) 167)).setCells W0.heap.size 0 (zL 4)) W0.heap.size (zA 4) 167∧Below w.heap.size w ((W0.alloc (.cells (zA 0) 167)).setCells W0.heap.size 0 (zL 4))):=
  ⟨HB0.out.1.below (below_setCells ((Below.refl _ _).alloc (Nat.le_refl _) _) (Nat.le_refl _) _ _),blk_over (zL 4) (pre:=[]) (old:=(zL 0)) rfl HN.out,below_setCells (HB0.out.2.alloc HB0.out.2.size _) HB0.out.2.size _ _⟩
 have on:(zL 4).toArray.all (·.oneCell')=true:=by simp[Value.oneCell']
 have ON:Hid ((zL 4).toArray.all (·.oneCell')=true):=on
 have hz:(Tryz.prog.info? 167).map (·.size)=some (zL 4).length:=by kernel_rfl
 clear on HN
 go_upto_region 2 with(refine wpList_store_mid rfl 167 _ _ rfl W0.heap.size 0 (zL 4).toArray rfl rfl TH.out (by rw[List.size_toArray];exact hz) ON.out ?_)
 generalize ((W0.alloc (.cells (zA 0) 167)).setCells W0.heap.size 0 (zL 4))=W1 at HB1 ⊢
 clear TH ON hz p0
 have p0:=HB1.out.1.cell 0 (v:=.int .i64 4) rfl
 have p1:=HB1.out.1.cell 1 (v:=.string r.head) rfl
 have m1:=HB1.out.2.1.cell 1 (v:=.string ⟨#[]⟩) rfl
 have f1:=HB1.out.2.1.frozen 1
 have HB2:Hid (Blk (W1.setCell ⟨W0.heap.size,1,none⟩ (.string r.head)) w.heap.size (stA 4 r p a b) 167∧Blk (W1.setCell ⟨W0.heap.size,1,none⟩ (.string r.head)) W0.heap.size #[.int .i64 4,.string r.head,.string ⟨#[]⟩,.int .i64 0,.string ⟨#[]⟩,.string ⟨#[]⟩,.int .u64 0,.int .u64 0,.string ⟨#[]⟩,.string ⟨#[]⟩,.int .u64 0,.int .u64 0] 167∧Bl w (W1.setCell ⟨W0.heap.size,1,none⟩ (.string r.head))):=⟨HB1.out.1.kept (S:=fun k=>k=W0.heap.size) (Kept.set (S:=fun k=>k=W0.heap.size) (p:=⟨W0.heap.size,1,none⟩) (Kept.refl _ W1) rfl _) (by omega),(HB1.out.2.1.set 1 _),(HB1.out.2.2.setCell (by show w.heap.size≤W0.heap.size;omega) _)⟩
 go_upto_region 15 with fail
 generalize (W1.setCell ⟨W0.heap.size,1,none⟩ (.string r.head))=W2 at HB2 ⊢
 clear HB1 p0 p1 m1 f1
 have R1:Hid (W2.rangeAt w.heap.size 0 (stL 4 r p a b)):=blk_range HB2.out.1
 have R2:Hid (W2.rangeAt W0.heap.size 0 ([.int .i64 4,.string r.head,.string ⟨#[]⟩,.int .i64 0,.string ⟨#[]⟩,.string ⟨#[]⟩,.int .u64 0,.int .u64 0,.string ⟨#[]⟩,.string ⟨#[]⟩,.int .u64 0,.int .u64 0]:List Value)):=blk_range HB2.out.2.1
 have p3:=HB2.out.1.cell 3 (v:=.int .i64 p) rfl
 have p4:=HB2.out.1.cell 4 (v:=.string a.ref.head) rfl
 have p5:=HB2.out.1.cell 5 (v:=.string a.ref.name) rfl
 have p6:=HB2.out.1.cell 6 (v:=.int .u64 (hiOf a.const)) rfl
 have p7:=HB2.out.1.cell 7 (v:=.int .u64 (loOf a.const)) rfl
 cases q
 ·go_wp2_with (first|(refine wpList_load_mid rfl 167 _ rfl w.heap.size 0 rfl (stL 4 r p a b) _ R1.out Tryz.underlying167 rfl (by kernel_rfl) ?_)|(refine wpList_load_mid rfl 167 _ rfl W0.heap.size 0 rfl ([.int .i64 4,.string r.head,.string ⟨#[]⟩,.int .i64 0,.string ⟨#[]⟩,.string ⟨#[]⟩,.int .u64 0,.int .u64 0,.string ⟨#[]⟩,.string ⟨#[]⟩,.int .u64 0,.int .u64 0]:List Value) _ R2.out Tryz.underlying167 rfl (by kernel_rfl) ?_))
  go_ret
  exact⟨rfl,HB2.out.2.2⟩
 go_wp2_with (first|(refine wpList_load_mid rfl 167 _ rfl w.heap.size 0 rfl (stL 4 r p a b) _ R1.out Tryz.underlying167 rfl (by kernel_rfl) ?_)|(refine wpList_load_mid rfl 167 _ rfl W0.heap.size 0 rfl ([.int .i64 4,.string r.head,.string ⟨#[]⟩,.int .i64 0,.string ⟨#[]⟩,.string ⟨#[]⟩,.int .u64 0,.int .u64 0,.string ⟨#[]⟩,.string ⟨#[]⟩,.int .u64 0,.int .u64 0]:List Value) _ R2.out Tryz.underlying167 rfl (by kernel_rfl) ?_))
 refine(CO.out _).mono ?_
 rintro e V0 ⟨rfl,rfl⟩
 cases co
 ·go_wp2
  go_ret
  exact⟨rfl,HB2.out.2.2⟩
 go_wp2_with fail
 refine(CA.out _).mono ?_
 rintro e V1 ⟨rfl,hb⟩
 have HB3:Hid (Blk V1 w.heap.size (stA 4 r p a b) 167∧Bl w V1):=⟨HB2.out.1.below hb,bst HB2.out.2.2 hb (Nat.le_refl _)⟩
 clear hb HB2 R1 R2 p3 p4 p5 p6 p7
 have p8:=HB3.out.1.cell 8 (v:=.string b.ref.head) rfl
 have p9:=HB3.out.1.cell 9 (v:=.string b.ref.name) rfl
 have p10:=HB3.out.1.cell 10 (v:=.int .u64 (hiOf b.const)) rfl
 have p11:=HB3.out.1.cell 11 (v:=.int .u64 (loOf b.const)) rfl
 cases ca
 ·go_wp2
  go_ret
  exact⟨rfl,HB3.out.2⟩
 go_wp2_with fail
 refine(CB.out _).mono ?_
 rintro e V2 ⟨rfl,hb⟩
 have HB4:Hid (Bl w V2):=bst HB3.out.2 hb (Nat.le_refl _)
 clear hb HB3 p8 p9 p10 p11
 go_wp2
 go_ret
 exact⟨rfl,HB4.out⟩
theorem isStep_5 (r:Rf)(p:Int)(a b:Opd)(w:World):Calls Tryz.prog 204 #[.agg #[.int .i64 5,.string r.head,.string r.name,.int .i64 p,.string a.ref.head,.string a.ref.name,.int .u64 (hiOf a.const),.int .u64 (loOf a.const),.string b.ref.head,.string b.ref.name,.int .u64 (hiOf b.const),.int .u64 (loOf b.const)]] w fun e w'=>e=.returned (.bool (decide ((⟨5,r,p,a,b⟩:Stp)=⟨5,r,0,zeroO,zeroO⟩)&&(isOpN p&&(isOpd a&&isOpd b))))∧Below w.heap.size w w':=by
 have hE:∀ u:World,(binOp .eql 167 (.agg (stA 5 r p a b)) (.agg #[.int .i64 5,.string r.head,.string r.name,.int .i64 0,.string ⟨#[]⟩,.string ⟨#[]⟩,.int .u64 0,.int .u64 0,.string ⟨#[]⟩,.string ⟨#[]⟩,.int .u64 0,.int .u64 0])).run Tryz.prog u=.ok (.bool (decide ((⟨5,r,p,a,b⟩:Stp)=⟨5,r,0,zeroO,zeroO⟩))) u:=fun u=>by
  have:=run_eq167 ⟨5,r,p,a,b⟩ ⟨5,r,0,zeroO,zeroO⟩ u
  simpa[StpC,stA,zA,hiOf,loOf] using this
 have CO:Hid (∀ w,Cs 227 #[.int .i64 p] w fun e w'=>e=.returned (.bool (isOpN p))∧w'=w):=fun w=>isOp_any p w
 have CA:Hid (∀ w,Cs 228 #[.agg (OpdC a)] w fun e w'=>e=.returned (.bool (isOpd a))∧Bl w w'):=fun w=>isOperand_any a w
 have CB:Hid (∀ w,Cs 228 #[.agg (OpdC b)] w fun e w'=>e=.returned (.bool (isOpd b))∧Bl w w'):=fun w=>isOperand_any b w
 generalize decide ((⟨5,r,p,a,b⟩:Stp)=⟨5,r,0,zeroO,zeroO⟩)=q at*
 generalize isOpN p=co at*
 generalize isOpd a=ca at*
 generalize isOpd b=cb at*
 have HB0:Hid (Blk (w.alloc (.cells (stA 5 r p a b) 167)) w.heap.size (stA 5 r p a b) 167∧Bl w (w.alloc (.cells (stA 5 r p a b) 167))):=⟨Blk.new _ _ _,(Below.refl _ _).alloc (Nat.le_refl _) _⟩
 go_enter Tryz.func204,Tryz.ntmps204
 go_upto_region 1 with fail
 generalize (w.alloc _)=W0 at HB0 ⊢
 have p0:=HB0.out.1.cell 0 (v:=.int .i64 5) rfl
 have hlt:w.heap.size<W0.heap.size:=HB0.out.1.lt
 have HN:Hid (Blk (W0.alloc (.cells (zA 0) 167)) W0.heap.size (zA 0) 167):=Blk.new _ _ _
 have TH:Hid ((W0.alloc (.cells (zA 0) 167)).there W0.heap.size 0 (zL 5).toArray.size):=blk_there HN.out (by simp)
 have HB1:Hid (Blk ((W0.alloc (.cells (zA 0) 167)).setCells W0.heap.size 0 (zL 5)) w.heap.size (stA 5 r p a b) 167∧Blk ((W0.alloc (.cells (zA 0) 167)).setCells W0.heap.size 0 (zL 5)) W0.heap.size (zA 5) 167∧Below w.heap.size w ((W0.alloc (.cells (zA 0) 167)).setCells W0.heap.size 0 (zL 5))):=
  ⟨HB0.out.1.below (below_setCells ((Below.refl _ _).alloc (Nat.le_refl _) _) (Nat.le_refl _) _ _),blk_over (zL 5) (pre:=[]) (old:=(zL 0)) rfl HN.out,below_setCells (HB0.out.2.alloc HB0.out.2.size _) HB0.out.2.size _ _⟩
 have on:(zL 5).toArray.all (·.oneCell')=true:=by simp[Value.oneCell']
 have ON:Hid ((zL 5).toArray.all (·.oneCell')=true):=on
 have hz:(Tryz.prog.info? 167).map (·.size)=some (zL 5).length:=by kernel_rfl
 clear on HN
 go_upto_region 2 with(refine wpList_store_mid rfl 167 _ _ rfl W0.heap.size 0 (zL 5).toArray rfl rfl TH.out (by rw[List.size_toArray];exact hz) ON.out ?_)
 generalize ((W0.alloc (.cells (zA 0) 167)).setCells W0.heap.size 0 (zL 5))=W1 at HB1 ⊢
 clear TH ON hz p0
 have p0:=HB1.out.1.cell 0 (v:=.int .i64 5) rfl
 have p1:=HB1.out.1.cell 1 (v:=.string r.head) rfl
 have m1:=HB1.out.2.1.cell 1 (v:=.string ⟨#[]⟩) rfl
 have f1:=HB1.out.2.1.frozen 1
 have p2:=HB1.out.1.cell 2 (v:=.string r.name) rfl
 have m2:=HB1.out.2.1.cell 2 (v:=.string ⟨#[]⟩) rfl
 have f2:=HB1.out.2.1.frozen 2
 have HB2:Hid (Blk ((W1.setCell ⟨W0.heap.size,1,none⟩ (.string r.head)).setCell ⟨W0.heap.size,2,none⟩ (.string r.name)) w.heap.size (stA 5 r p a b) 167∧Blk ((W1.setCell ⟨W0.heap.size,1,none⟩ (.string r.head)).setCell ⟨W0.heap.size,2,none⟩ (.string r.name)) W0.heap.size #[.int .i64 5,.string r.head,.string r.name,.int .i64 0,.string ⟨#[]⟩,.string ⟨#[]⟩,.int .u64 0,.int .u64 0,.string ⟨#[]⟩,.string ⟨#[]⟩,.int .u64 0,.int .u64 0] 167∧Bl w ((W1.setCell ⟨W0.heap.size,1,none⟩ (.string r.head)).setCell ⟨W0.heap.size,2,none⟩ (.string r.name))):=⟨HB1.out.1.kept (S:=fun k=>k=W0.heap.size) (Kept.set (S:=fun k=>k=W0.heap.size) (p:=⟨W0.heap.size,2,none⟩) (Kept.set (S:=fun k=>k=W0.heap.size) (p:=⟨W0.heap.size,1,none⟩) (Kept.refl _ W1) rfl _) rfl _) (by omega),((HB1.out.2.1.set 1 _).set 2 _),((HB1.out.2.2.setCell (by show w.heap.size≤W0.heap.size;omega) _).setCell (by show w.heap.size≤W0.heap.size;omega) _)⟩
 go_upto_region 15 with fail
 generalize ((W1.setCell ⟨W0.heap.size,1,none⟩ (.string r.head)).setCell ⟨W0.heap.size,2,none⟩ (.string r.name))=W2 at HB2 ⊢
 clear HB1 p0 p1 m1 f1 p2 m2 f2
 have R1:Hid (W2.rangeAt w.heap.size 0 (stL 5 r p a b)):=blk_range HB2.out.1
 have R2:Hid (W2.rangeAt W0.heap.size 0 ([.int .i64 5,.string r.head,.string r.name,.int .i64 0,.string ⟨#[]⟩,.string ⟨#[]⟩,.int .u64 0,.int .u64 0,.string ⟨#[]⟩,.string ⟨#[]⟩,.int .u64 0,.int .u64 0]:List Value)):=blk_range HB2.out.2.1
 have p3:=HB2.out.1.cell 3 (v:=.int .i64 p) rfl
 have p4:=HB2.out.1.cell 4 (v:=.string a.ref.head) rfl
 have p5:=HB2.out.1.cell 5 (v:=.string a.ref.name) rfl
 have p6:=HB2.out.1.cell 6 (v:=.int .u64 (hiOf a.const)) rfl
 have p7:=HB2.out.1.cell 7 (v:=.int .u64 (loOf a.const)) rfl
 cases q
 ·go_wp2_with (first|(refine wpList_load_mid rfl 167 _ rfl w.heap.size 0 rfl (stL 5 r p a b) _ R1.out Tryz.underlying167 rfl (by kernel_rfl) ?_)|(refine wpList_load_mid rfl 167 _ rfl W0.heap.size 0 rfl ([.int .i64 5,.string r.head,.string r.name,.int .i64 0,.string ⟨#[]⟩,.string ⟨#[]⟩,.int .u64 0,.int .u64 0,.string ⟨#[]⟩,.string ⟨#[]⟩,.int .u64 0,.int .u64 0]:List Value) _ R2.out Tryz.underlying167 rfl (by kernel_rfl) ?_))
  go_ret
  exact⟨rfl,HB2.out.2.2⟩
 go_wp2_with (first|(refine wpList_load_mid rfl 167 _ rfl w.heap.size 0 rfl (stL 5 r p a b) _ R1.out Tryz.underlying167 rfl (by kernel_rfl) ?_)|(refine wpList_load_mid rfl 167 _ rfl W0.heap.size 0 rfl ([.int .i64 5,.string r.head,.string r.name,.int .i64 0,.string ⟨#[]⟩,.string ⟨#[]⟩,.int .u64 0,.int .u64 0,.string ⟨#[]⟩,.string ⟨#[]⟩,.int .u64 0,.int .u64 0]:List Value) _ R2.out Tryz.underlying167 rfl (by kernel_rfl) ?_))
 refine(CO.out _).mono ?_
 rintro e V0 ⟨rfl,rfl⟩
 cases co
 ·go_wp2
  go_ret
  exact⟨rfl,HB2.out.2.2⟩
 go_wp2_with fail
 refine(CA.out _).mono ?_
 rintro e V1 ⟨rfl,hb⟩
 have HB3:Hid (Blk V1 w.heap.size (stA 5 r p a b) 167∧Bl w V1):=⟨HB2.out.1.below hb,bst HB2.out.2.2 hb (Nat.le_refl _)⟩
 clear hb HB2 R1 R2 p3 p4 p5 p6 p7
 have p8:=HB3.out.1.cell 8 (v:=.string b.ref.head) rfl
 have p9:=HB3.out.1.cell 9 (v:=.string b.ref.name) rfl
 have p10:=HB3.out.1.cell 10 (v:=.int .u64 (hiOf b.const)) rfl
 have p11:=HB3.out.1.cell 11 (v:=.int .u64 (loOf b.const)) rfl
 cases ca
 ·go_wp2
  go_ret
  exact⟨rfl,HB3.out.2⟩
 go_wp2_with fail
 refine(CB.out _).mono ?_
 rintro e V2 ⟨rfl,hb⟩
 have HB4:Hid (Bl w V2):=bst HB3.out.2 hb (Nat.le_refl _)
 clear hb HB3 p8 p9 p10 p11
 go_wp2
 go_ret
 exact⟨rfl,HB4.out⟩
theorem isStep_not (k:Int)(h1:¬ k=1)(h2:¬ k=2)(h3:¬ k=3)(h4:¬ k=4)(h5:¬ k=5)(h6:¬ k=6)(r:Rf)(p:Int)(a b:Opd)(w:World):Calls Tryz.prog 204 #[.agg #[.int .i64 k,.string r.head,.string r.name,.int .i64 p,.string a.ref.head,.string a.ref.name,.int .u64 (hiOf a.const),.int .u64 (loOf a.const),.string b.ref.head,.string b.ref.name,.int .u64 (hiOf b.const),.int .u64 (loOf b.const)]] w fun e w'=>e=.returned (.bool false)∧Below w.heap.size w w':=by
 have k1:(k==1)=false:=by simpa using h1
 have k2:(k==2)=false:=by simpa using h2
 have k3:(k==3)=false:=by simpa using h3
 have k4:(k==4)=false:=by simpa using h4
 have k5:(k==5)=false:=by simpa using h5
 have k6:(k==6)=false:=by simpa using h6
 have HB0:Hid (Blk (w.alloc (.cells (stA k r p a b) 167)) w.heap.size (stA k r p a b) 167∧Bl w (w.alloc (.cells (stA k r p a b) 167))):=⟨Blk.new _ _ _,(Below.refl _ _).alloc (Nat.le_refl _) _⟩
 go_enter Tryz.func204,Tryz.ntmps204
 go_upto_region 1 with fail
 generalize (w.alloc _)=W0 at HB0 ⊢
 have p0:=HB0.out.1.cell 0 (v:=.int .i64 k) rfl
 have hlt:w.heap.size<W0.heap.size:=HB0.out.1.lt
 have HN:Hid (Blk (W0.alloc (.cells (zA 0) 167)) W0.heap.size (zA 0) 167):=Blk.new _ _ _
 have TH:Hid ((W0.alloc (.cells (zA 0) 167)).there W0.heap.size 0 (zL k).toArray.size):=blk_there HN.out (by simp)
 have HB1:Hid (Blk ((W0.alloc (.cells (zA 0) 167)).setCells W0.heap.size 0 (zL k)) w.heap.size (stA k r p a b) 167∧Blk ((W0.alloc (.cells (zA 0) 167)).setCells W0.heap.size 0 (zL k)) W0.heap.size (zA k) 167∧Below w.heap.size w ((W0.alloc (.cells (zA 0) 167)).setCells W0.heap.size 0 (zL k))):=
  ⟨HB0.out.1.below (below_setCells ((Below.refl _ _).alloc (Nat.le_refl _) _) (Nat.le_refl _) _ _),blk_over (zL k) (pre:=[]) (old:=(zL 0)) rfl HN.out,below_setCells (HB0.out.2.alloc HB0.out.2.size _) HB0.out.2.size _ _⟩
 have on:(zL k).toArray.all (·.oneCell')=true:=by simp[Value.oneCell']
 have ON:Hid ((zL k).toArray.all (·.oneCell')=true):=on
 have hz:(Tryz.prog.info? 167).map (·.size)=some (zL k).length:=by kernel_rfl
 clear on HN
 go_upto_region 2 with(refine wpList_store_mid rfl 167 _ _ rfl W0.heap.size 0 (zL k).toArray rfl rfl TH.out (by rw[List.size_toArray];exact hz) ON.out ?_)
 generalize ((W0.alloc (.cells (zA 0) 167)).setCells W0.heap.size 0 (zL k))=W1 at HB1 ⊢
 clear TH ON hz p0
 have p0:=HB1.out.1.cell 0 (v:=.int .i64 k) rfl
 go_wp2
 go_ret
 exact⟨rfl,HB1.out.2.2⟩
end Go.Proofs.YtmbpclknhkbbkaaGreat
