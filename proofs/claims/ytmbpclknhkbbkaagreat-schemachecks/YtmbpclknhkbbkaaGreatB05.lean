/- Package schema: steps that are well ma. -/
import Derived.Test.YtmbpclknhkbbkaaGreatB03
set_option linter.unusedSimpArgs false
set_option linter.unusedVariables false
set_option maxHeartbeats 1000000
set_option maxRecDepth 100000
namespace Go.Proofs.YtmbpclknhkbbkaaGreat
open Go.RowKit
theorem isStep_1z (r:Rf)(a b:Opd)(w:World):Calls Tryz.prog 204 #[.agg #[.int .i64 1,.string r.head,.string r.name,.int .i64 0,.string a.ref.head,.string a.ref.name,.int .u64 (hiOf a.const),.int .u64 (loOf a.const),.string b.ref.head,.string b.ref.name,.int .u64 (hiOf b.const),.int .u64 (loOf b.const)]] w fun e w'=>e=.returned (.bool (decide ((⟨1,r,0,a,b⟩:Stp)=⟨1,r,0,a,zeroO⟩)&&(isOpN 0&&(isOpd a&&isOpd b))))∧Below w.heap.size w w':=by
 have hE:∀ u:World,(binOp .eql 167 (.agg (stA 1 r 0 a b)) (.agg #[.int .i64 1,.string r.head,.string r.name,.int .i64 0,.string a.ref.head,.string a.ref.name,.int .u64 (hiOf a.const),.int .u64 (loOf a.const),.string ⟨#[]⟩,.string ⟨#[]⟩,.int .u64 0,.int .u64 0])).run Tryz.prog u=.ok (.bool (decide ((⟨1,r,0,a,b⟩:Stp)=⟨1,r,0,a,zeroO⟩))) u:=fun u=>by
  have:=run_eq167 ⟨1,r,0,a,b⟩ ⟨1,r,0,a,zeroO⟩ u
  simpa[StpC,stA,zA,hiOf,loOf] using this
 have CO:Hid (∀ w,Cs 227 #[.int .i64 0] w fun e w'=>e=.returned (.bool (isOpN 0))∧w'=w):=fun w=>isOp_any 0 w
 have CA:Hid (∀ w,Cs 228 #[.agg (OpdC a)] w fun e w'=>e=.returned (.bool (isOpd a))∧Bl w w'):=fun w=>isOperand_any a w
 have CB:Hid (∀ w,Cs 228 #[.agg (OpdC b)] w fun e w'=>e=.returned (.bool (isOpd b))∧Bl w w'):=fun w=>isOperand_any b w
 generalize decide ((⟨1,r,0,a,b⟩:Stp)=⟨1,r,0,a,zeroO⟩)=q at*
 generalize isOpN 0=co at*
 generalize isOpd a=ca at*
 generalize isOpd b=cb at*
 have HB0:Hid (Blk (w.alloc (.cells (stA 1 r 0 a b) 167)) w.heap.size (stA 1 r 0 a b) 167∧Bl w (w.alloc (.cells (stA 1 r 0 a b) 167))):=⟨Blk.new _ _ _,(Below.refl _ _).alloc (Nat.le_refl _) _⟩
 go_enter Tryz.func204,Tryz.ntmps204
 go_upto_region 1 with fail
 generalize (w.alloc _)=W0 at HB0 ⊢
 have p0:=HB0.out.1.cell 0 (v:=.int .i64 1) rfl
 have hlt:w.heap.size<W0.heap.size:=HB0.out.1.lt
 have HN:Hid (Blk (W0.alloc (.cells (zA 0) 167)) W0.heap.size (zA 0) 167):=Blk.new _ _ _
 have TH:Hid ((W0.alloc (.cells (zA 0) 167)).there W0.heap.size 0 (zL 1).toArray.size):=blk_there HN.out (by simp)
 have HB1:Hid (Blk ((W0.alloc (.cells (zA 0) 167)).setCells W0.heap.size 0 (zL 1)) w.heap.size (stA 1 r 0 a b) 167∧Blk ((W0.alloc (.cells (zA 0) 167)).setCells W0.heap.size 0 (zL 1)) W0.heap.size (zA 1) 167∧Below w.heap.size w ((W0.alloc (.cells (zA 0) 167)).setCells W0.heap.size 0 (zL 1))):=
  ⟨HB0.out.1.below (below_setCells ((Below.refl _ _).alloc (Nat.le_refl _) _) (Nat.le_refl _) _ _),blk_over (zL 1) (pre:=[]) (old:=(zL 0)) rfl HN.out,below_setCells (HB0.out.2.alloc HB0.out.2.size _) HB0.out.2.size _ _⟩
 have on:(zL 1).toArray.all (·.oneCell')=true:=by simp[Value.oneCell']
 have ON:Hid ((zL 1).toArray.all (·.oneCell')=true):=on
 have hz:(Tryz.prog.info? 167).map (·.size)=some (zL 1).length:=by kernel_rfl
 clear on HN
 go_upto_region 2 with(refine wpList_store_mid rfl 167 _ _ rfl W0.heap.size 0 (zL 1).toArray rfl rfl TH.out (by rw[List.size_toArray];exact hz) ON.out ?_)
 generalize ((W0.alloc (.cells (zA 0) 167)).setCells W0.heap.size 0 (zL 1))=W1 at HB1 ⊢
 clear TH ON hz p0
 have p0:=HB1.out.1.cell 0 (v:=.int .i64 1) rfl
 have p1:=HB1.out.1.cell 1 (v:=.string r.head) rfl
 have m1:=HB1.out.2.1.cell 1 (v:=.string ⟨#[]⟩) rfl
 have f1:=HB1.out.2.1.frozen 1
 have p2:=HB1.out.1.cell 2 (v:=.string r.name) rfl
 have m2:=HB1.out.2.1.cell 2 (v:=.string ⟨#[]⟩) rfl
 have f2:=HB1.out.2.1.frozen 2
 have p3:=HB1.out.1.cell 3 (v:=.int .i64 0) rfl
 have m3:=HB1.out.2.1.cell 3 (v:=.int .i64 0) rfl
 have f3:=HB1.out.2.1.frozen 3
 have p4:=HB1.out.1.cell 4 (v:=.string a.ref.head) rfl
 have m4:=HB1.out.2.1.cell 4 (v:=.string ⟨#[]⟩) rfl
 have f4:=HB1.out.2.1.frozen 4
 have p5:=HB1.out.1.cell 5 (v:=.string a.ref.name) rfl
 have m5:=HB1.out.2.1.cell 5 (v:=.string ⟨#[]⟩) rfl
 have f5:=HB1.out.2.1.frozen 5
 have p6:=HB1.out.1.cell 6 (v:=.int .u64 (hiOf a.const)) rfl
 have m6:=HB1.out.2.1.cell 6 (v:=.int .u64 0) rfl
 have f6:=HB1.out.2.1.frozen 6
 have p7:=HB1.out.1.cell 7 (v:=.int .u64 (loOf a.const)) rfl
 have m7:=HB1.out.2.1.cell 7 (v:=.int .u64 0) rfl
 have f7:=HB1.out.2.1.frozen 7
 have HBx:Hid (Blk (((((((W1.setCell ⟨W0.heap.size,1,none⟩ (.string r.head)).setCell ⟨W0.heap.size,2,none⟩ (.string r.name)).setCell ⟨W0.heap.size,3,none⟩ (.int .i64 0)).setCell ⟨W0.heap.size,4,none⟩ (.string a.ref.head)).setCell ⟨W0.heap.size,5,none⟩ (.string a.ref.name)).setCell ⟨W0.heap.size,6,none⟩ (.int .u64 (hiOf a.const))).setCell ⟨W0.heap.size,7,none⟩ (.int .u64 (loOf a.const))).drew w.heap.size (stA 1 r 0 a b) 167∧Blk (((((((W1.setCell ⟨W0.heap.size,1,none⟩ (.string r.head)).setCell ⟨W0.heap.size,2,none⟩ (.string r.name)).setCell ⟨W0.heap.size,3,none⟩ (.int .i64 0)).setCell ⟨W0.heap.size,4,none⟩ (.string a.ref.head)).setCell ⟨W0.heap.size,5,none⟩ (.string a.ref.name)).setCell ⟨W0.heap.size,6,none⟩ (.int .u64 (hiOf a.const))).setCell ⟨W0.heap.size,7,none⟩ (.int .u64 (loOf a.const))).drew W0.heap.size #[.int .i64 1,.string r.head,.string r.name,.int .i64 0,.string a.ref.head,.string a.ref.name,.int .u64 (hiOf a.const),.int .u64 (loOf a.const),.string ⟨#[]⟩,.string ⟨#[]⟩,.int .u64 0,.int .u64 0] 167∧Below w.heap.size w (((((((W1.setCell ⟨W0.heap.size,1,none⟩ (.string r.head)).setCell ⟨W0.heap.size,2,none⟩ (.string r.name)).setCell ⟨W0.heap.size,3,none⟩ (.int .i64 0)).setCell ⟨W0.heap.size,4,none⟩ (.string a.ref.head)).setCell ⟨W0.heap.size,5,none⟩ (.string a.ref.name)).setCell ⟨W0.heap.size,6,none⟩ (.int .u64 (hiOf a.const))).setCell ⟨W0.heap.size,7,none⟩ (.int .u64 (loOf a.const))).drew):=
  ⟨(HB1.out.1.kept (S:=fun k=>k=W0.heap.size) (Kept.set (S:=fun k=>k=W0.heap.size) (p:=⟨W0.heap.size,7,none⟩) (Kept.set (S:=fun k=>k=W0.heap.size) (p:=⟨W0.heap.size,6,none⟩) (Kept.set (S:=fun k=>k=W0.heap.size) (p:=⟨W0.heap.size,5,none⟩) (Kept.set (S:=fun k=>k=W0.heap.size) (p:=⟨W0.heap.size,4,none⟩) (Kept.set (S:=fun k=>k=W0.heap.size) (p:=⟨W0.heap.size,3,none⟩) (Kept.set (S:=fun k=>k=W0.heap.size) (p:=⟨W0.heap.size,2,none⟩) (Kept.set (S:=fun k=>k=W0.heap.size) (p:=⟨W0.heap.size,1,none⟩) (Kept.refl _ W1) rfl _) rfl _) rfl _) rfl _) rfl _) rfl _) rfl _) (by omega)).below ((Below.refl _ _).drew),(show Blk (((((((W1.setCell ⟨W0.heap.size,1,none⟩ (.string r.head)).setCell ⟨W0.heap.size,2,none⟩ (.string r.name)).setCell ⟨W0.heap.size,3,none⟩ (.int .i64 0)).setCell ⟨W0.heap.size,4,none⟩ (.string a.ref.head)).setCell ⟨W0.heap.size,5,none⟩ (.string a.ref.name)).setCell ⟨W0.heap.size,6,none⟩ (.int .u64 (hiOf a.const))).setCell ⟨W0.heap.size,7,none⟩ (.int .u64 (loOf a.const))) W0.heap.size #[.int .i64 1,.string r.head,.string r.name,.int .i64 0,.string a.ref.head,.string a.ref.name,.int .u64 (hiOf a.const),.int .u64 (loOf a.const),.string ⟨#[]⟩,.string ⟨#[]⟩,.int .u64 0,.int .u64 0] 167 from(((((((HB1.out.2.1.set 1 _).set 2 _).set 3 _).set 4 _).set 5 _).set 6 _).set 7 _)).below ((Below.refl _ _).drew),(((((((HB1.out.2.2.setCell (by show w.heap.size≤W0.heap.size;omega) _).setCell (by show w.heap.size≤W0.heap.size;omega) _).setCell (by show w.heap.size≤W0.heap.size;omega) _).setCell (by show w.heap.size≤W0.heap.size;omega) _).setCell (by show w.heap.size≤W0.heap.size;omega) _).setCell (by show w.heap.size≤W0.heap.size;omega) _).setCell (by show w.heap.size≤W0.heap.size;omega) _).drew⟩
 go_wp2_with fail
 go_region
 generalize (((((((W1.setCell ⟨W0.heap.size,1,none⟩ (.string r.head)).setCell ⟨W0.heap.size,2,none⟩ (.string r.name)).setCell ⟨W0.heap.size,3,none⟩ (.int .i64 0)).setCell ⟨W0.heap.size,4,none⟩ (.string a.ref.head)).setCell ⟨W0.heap.size,5,none⟩ (.string a.ref.name)).setCell ⟨W0.heap.size,6,none⟩ (.int .u64 (hiOf a.const))).setCell ⟨W0.heap.size,7,none⟩ (.int .u64 (loOf a.const))).drew=Wx at HBx ⊢
 clear HB1 p0 p1 m1 f1 p2 m2 f2 p3 m3 f3 p4 m4 f4 p5 m5 f5 p6 m6 f6 p7 m7 f7
 have p3:=HBx.out.1.cell 3 (v:=.int .i64 0) rfl
 go_upto_region 15 with fail
 have HB2:=HBx
 clear HBx p3
 generalize Wx=W2 at HB2 ⊢
 have R1:Hid (W2.rangeAt w.heap.size 0 (stL 1 r 0 a b)):=blk_range HB2.out.1
 have R2:Hid (W2.rangeAt W0.heap.size 0 ([.int .i64 1,.string r.head,.string r.name,.int .i64 0,.string a.ref.head,.string a.ref.name,.int .u64 (hiOf a.const),.int .u64 (loOf a.const),.string ⟨#[]⟩,.string ⟨#[]⟩,.int .u64 0,.int .u64 0]:List Value)):=blk_range HB2.out.2.1
 have p3:=HB2.out.1.cell 3 (v:=.int .i64 0) rfl
 have p4:=HB2.out.1.cell 4 (v:=.string a.ref.head) rfl
 have p5:=HB2.out.1.cell 5 (v:=.string a.ref.name) rfl
 have p6:=HB2.out.1.cell 6 (v:=.int .u64 (hiOf a.const)) rfl
 have p7:=HB2.out.1.cell 7 (v:=.int .u64 (loOf a.const)) rfl
 cases q
 ·go_wp2_with (first|(refine wpList_load_mid rfl 167 _ rfl w.heap.size 0 rfl (stL 1 r 0 a b) _ R1.out Tryz.underlying167 rfl (by kernel_rfl) ?_)|(refine wpList_load_mid rfl 167 _ rfl W0.heap.size 0 rfl ([.int .i64 1,.string r.head,.string r.name,.int .i64 0,.string a.ref.head,.string a.ref.name,.int .u64 (hiOf a.const),.int .u64 (loOf a.const),.string ⟨#[]⟩,.string ⟨#[]⟩,.int .u64 0,.int .u64 0]:List Value) _ R2.out Tryz.underlying167 rfl (by kernel_rfl) ?_))
  go_ret
  exact⟨rfl,HB2.out.2.2⟩
 go_wp2_with (first|(refine wpList_load_mid rfl 167 _ rfl w.heap.size 0 rfl (stL 1 r 0 a b) _ R1.out Tryz.underlying167 rfl (by kernel_rfl) ?_)|(refine wpList_load_mid rfl 167 _ rfl W0.heap.size 0 rfl ([.int .i64 1,.string r.head,.string r.name,.int .i64 0,.string a.ref.head,.string a.ref.name,.int .u64 (hiOf a.const),.int .u64 (loOf a.const),.string ⟨#[]⟩,.string ⟨#[]⟩,.int .u64 0,.int .u64 0]:List Value) _ R2.out Tryz.underlying167 rfl (by kernel_rfl) ?_))
 refine(CO.out _).mono ?_
 rintro e V0 ⟨rfl,rfl⟩
 cases co
 ·go_wp2
  go_ret
  exact⟨rfl,HB2.out.2.2⟩
 go_wp2_with fail
 refine(CA.out _).mono ?_
 rintro e V1 ⟨rfl,hb⟩
 have HB3:Hid (Blk V1 w.heap.size (stA 1 r 0 a b) 167∧Bl w V1):=⟨HB2.out.1.below hb,bst HB2.out.2.2 hb (Nat.le_refl _)⟩
 clear hb HB2 R1 R2 p3 p4 p5 p6 p7
 have p8:=HB3.out.1.cell 8 (v:=.string b.ref.head) rfl
 have p9:=HB3.out.1.cell 9 (v:=.string b.ref.name) rfl
 have p10:=HB3.out.1.cell 10 (v:=.int .u64 (hiOf b.const)) rfl
 have p11:=HB3.out.1.cell 11 (v:=.int .u64 (loOf b.const)) rfl
 cases ca
 ·go_wp2
  go_ret
  exact⟨rfl,HB3.out.2⟩
 go_wp2_with fail
 refine(CB.out _).mono ?_
 rintro e V2 ⟨rfl,hb⟩
 have HB4:Hid (Bl w V2):=bst HB3.out.2 hb (Nat.le_refl _)
 clear hb HB3 p8 p9 p10 p11
 go_wp2
 go_ret
 exact⟨rfl,HB4.out⟩
theorem isStep_1n (r:Rf)(p:Int)(hp:¬ p=0)(a b:Opd)(w:World):Calls Tryz.prog 204 #[.agg #[.int .i64 1,.string r.head,.string r.name,.int .i64 p,.string a.ref.head,.string a.ref.name,.int .u64 (hiOf a.const),.int .u64 (loOf a.const),.string b.ref.head,.string b.ref.name,.int .u64 (hiOf b.const),.int .u64 (loOf b.const)]] w fun e w'=>e=.returned (.bool (decide ((⟨1,r,p,a,b⟩:Stp)=⟨1,r,p,a,b⟩)&&(isOpN p&&(isOpd a&&isOpd b))))∧Below w.heap.size w w':=by
 have hE:∀ u:World,(binOp .eql 167 (.agg (stA 1 r p a b)) (.agg (stA 1 r p a b))).run Tryz.prog u=.ok (.bool (decide ((⟨1,r,p,a,b⟩:Stp)=⟨1,r,p,a,b⟩))) u:=fun u=>by
  have:=run_eq167 ⟨1,r,p,a,b⟩ ⟨1,r,p,a,b⟩ u
  simpa[StpC,stA,zA,hiOf,loOf] using this
 have hp1:(p==0)=false:=by simpa using hp
 have hp2:(p != 0)=true:=by simpa using hp
 have CO:Hid (∀ w,Cs 227 #[.int .i64 p] w fun e w'=>e=.returned (.bool (isOpN p))∧w'=w):=fun w=>isOp_any p w
 have CA:Hid (∀ w,Cs 228 #[.agg (OpdC a)] w fun e w'=>e=.returned (.bool (isOpd a))∧Bl w w'):=fun w=>isOperand_any a w
 have CB:Hid (∀ w,Cs 228 #[.agg (OpdC b)] w fun e w'=>e=.returned (.bool (isOpd b))∧Bl w w'):=fun w=>isOperand_any b w
 generalize decide ((⟨1,r,p,a,b⟩:Stp)=⟨1,r,p,a,b⟩)=q at*
 generalize isOpN p=co at*
 generalize isOpd a=ca at*
 generalize isOpd b=cb at*
 have HB0:Hid (Blk (w.alloc (.cells (stA 1 r p a b) 167)) w.heap.size (stA 1 r p a b) 167∧Bl w (w.alloc (.cells (stA 1 r p a b) 167))):=⟨Blk.new _ _ _,(Below.refl _ _).alloc (Nat.le_refl _) _⟩
 go_enter Tryz.func204,Tryz.ntmps204
 go_upto_region 1 with fail
 generalize (w.alloc _)=W0 at HB0 ⊢
 have p0:=HB0.out.1.cell 0 (v:=.int .i64 1) rfl
 have hlt:w.heap.size<W0.heap.size:=HB0.out.1.lt
 have HN:Hid (Blk (W0.alloc (.cells (zA 0) 167)) W0.heap.size (zA 0) 167):=Blk.new _ _ _
 have TH:Hid ((W0.alloc (.cells (zA 0) 167)).there W0.heap.size 0 (zL 1).toArray.size):=blk_there HN.out (by simp)
 have HB1:Hid (Blk ((W0.alloc (.cells (zA 0) 167)).setCells W0.heap.size 0 (zL 1)) w.heap.size (stA 1 r p a b) 167∧Blk ((W0.alloc (.cells (zA 0) 167)).setCells W0.heap.size 0 (zL 1)) W0.heap.size (zA 1) 167∧Below w.heap.size w ((W0.alloc (.cells (zA 0) 167)).setCells W0.heap.size 0 (zL 1))):=
  ⟨HB0.out.1.below (below_setCells ((Below.refl _ _).alloc (Nat.le_refl _) _) (Nat.le_refl _) _ _),blk_over (zL 1) (pre:=[]) (old:=(zL 0)) rfl HN.out,below_setCells (HB0.out.2.alloc HB0.out.2.size _) HB0.out.2.size _ _⟩
 have on:(zL 1).toArray.all (·.oneCell')=true:=by simp[Value.oneCell']
 have ON:Hid ((zL 1).toArray.all (·.oneCell')=true):=on
 have hz:(Tryz.prog.info? 167).map (·.size)=some (zL 1).length:=by kernel_rfl
 clear on HN
 go_upto_region 2 with(refine wpList_store_mid rfl 167 _ _ rfl W0.heap.size 0 (zL 1).toArray rfl rfl TH.out (by rw[List.size_toArray];exact hz) ON.out ?_)
 generalize ((W0.alloc (.cells (zA 0) 167)).setCells W0.heap.size 0 (zL 1))=W1 at HB1 ⊢
 clear TH ON hz p0
 have p0:=HB1.out.1.cell 0 (v:=.int .i64 1) rfl
 have p1:=HB1.out.1.cell 1 (v:=.string r.head) rfl
 have m1:=HB1.out.2.1.cell 1 (v:=.string ⟨#[]⟩) rfl
 have f1:=HB1.out.2.1.frozen 1
 have p2:=HB1.out.1.cell 2 (v:=.string r.name) rfl
 have m2:=HB1.out.2.1.cell 2 (v:=.string ⟨#[]⟩) rfl
 have f2:=HB1.out.2.1.frozen 2
 have p3:=HB1.out.1.cell 3 (v:=.int .i64 p) rfl
 have m3:=HB1.out.2.1.cell 3 (v:=.int .i64 0) rfl
 have f3:=HB1.out.2.1.frozen 3
 have p4:=HB1.out.1.cell 4 (v:=.string a.ref.head) rfl
 have m4:=HB1.out.2.1.cell 4 (v:=.string ⟨#[]⟩) rfl
 have f4:=HB1.out.2.1.frozen 4
 have p5:=HB1.out.1.cell 5 (v:=.string a.ref.name) rfl
 have m5:=HB1.out.2.1.cell 5 (v:=.string ⟨#[]⟩) rfl
 have f5:=HB1.out.2.1.frozen 5
 have p6:=HB1.out.1.cell 6 (v:=.int .u64 (hiOf a.const)) rfl
 have m6:=HB1.out.2.1.cell 6 (v:=.int .u64 0) rfl
 have f6:=HB1.out.2.1.frozen 6
 have p7:=HB1.out.1.cell 7 (v:=.int .u64 (loOf a.const)) rfl
 have m7:=HB1.out.2.1.cell 7 (v:=.int .u64 0) rfl
 have f7:=HB1.out.2.1.frozen 7
 have HBx:Hid (Blk (((((((W1.setCell ⟨W0.heap.size,1,none⟩ (.string r.head)).setCell ⟨W0.heap.size,2,none⟩ (.string r.name)).setCell ⟨W0.heap.size,3,none⟩ (.int .i64 p)).setCell ⟨W0.heap.size,4,none⟩ (.string a.ref.head)).setCell ⟨W0.heap.size,5,none⟩ (.string a.ref.name)).setCell ⟨W0.heap.size,6,none⟩ (.int .u64 (hiOf a.const))).setCell ⟨W0.heap.size,7,none⟩ (.int .u64 (loOf a.const))).drew w.heap.size (stA 1 r p a b) 167∧Blk (((((((W1.setCell ⟨W0.heap.size,1,none⟩ (.string r.head)).setCell ⟨W0.heap.size,2,none⟩ (.string r.name)).setCell ⟨W0.heap.size,3,none⟩ (.int .i64 p)).setCell ⟨W0.heap.size,4,none⟩ (.string a.ref.head)).setCell ⟨W0.heap.size,5,none⟩ (.string a.ref.name)).setCell ⟨W0.heap.size,6,none⟩ (.int .u64 (hiOf a.const))).setCell ⟨W0.heap.size,7,none⟩ (.int .u64 (loOf a.const))).drew W0.heap.size #[.int .i64 1,.string r.head,.string r.name,.int .i64 p,.string a.ref.head,.string a.ref.name,.int .u64 (hiOf a.const),.int .u64 (loOf a.const),.string ⟨#[]⟩,.string ⟨#[]⟩,.int .u64 0,.int .u64 0] 167∧Below w.heap.size w (((((((W1.setCell ⟨W0.heap.size,1,none⟩ (.string r.head)).setCell ⟨W0.heap.size,2,none⟩ (.string r.name)).setCell ⟨W0.heap.size,3,none⟩ (.int .i64 p)).setCell ⟨W0.heap.size,4,none⟩ (.string a.ref.head)).setCell ⟨W0.heap.size,5,none⟩ (.string a.ref.name)).setCell ⟨W0.heap.size,6,none⟩ (.int .u64 (hiOf a.const))).setCell ⟨W0.heap.size,7,none⟩ (.int .u64 (loOf a.const))).drew):=
  ⟨(HB1.out.1.kept (S:=fun k=>k=W0.heap.size) (Kept.set (S:=fun k=>k=W0.heap.size) (p:=⟨W0.heap.size,7,none⟩) (Kept.set (S:=fun k=>k=W0.heap.size) (p:=⟨W0.heap.size,6,none⟩) (Kept.set (S:=fun k=>k=W0.heap.size) (p:=⟨W0.heap.size,5,none⟩) (Kept.set (S:=fun k=>k=W0.heap.size) (p:=⟨W0.heap.size,4,none⟩) (Kept.set (S:=fun k=>k=W0.heap.size) (p:=⟨W0.heap.size,3,none⟩) (Kept.set (S:=fun k=>k=W0.heap.size) (p:=⟨W0.heap.size,2,none⟩) (Kept.set (S:=fun k=>k=W0.heap.size) (p:=⟨W0.heap.size,1,none⟩) (Kept.refl _ W1) rfl _) rfl _) rfl _) rfl _) rfl _) rfl _) rfl _) (by omega)).below ((Below.refl _ _).drew),(show Blk (((((((W1.setCell ⟨W0.heap.size,1,none⟩ (.string r.head)).setCell ⟨W0.heap.size,2,none⟩ (.string r.name)).setCell ⟨W0.heap.size,3,none⟩ (.int .i64 p)).setCell ⟨W0.heap.size,4,none⟩ (.string a.ref.head)).setCell ⟨W0.heap.size,5,none⟩ (.string a.ref.name)).setCell ⟨W0.heap.size,6,none⟩ (.int .u64 (hiOf a.const))).setCell ⟨W0.heap.size,7,none⟩ (.int .u64 (loOf a.const))) W0.heap.size #[.int .i64 1,.string r.head,.string r.name,.int .i64 p,.string a.ref.head,.string a.ref.name,.int .u64 (hiOf a.const),.int .u64 (loOf a.const),.string ⟨#[]⟩,.string ⟨#[]⟩,.int .u64 0,.int .u64 0] 167 from(((((((HB1.out.2.1.set 1 _).set 2 _).set 3 _).set 4 _).set 5 _).set 6 _).set 7 _)).below ((Below.refl _ _).drew),(((((((HB1.out.2.2.setCell (by show w.heap.size≤W0.heap.size;omega) _).setCell (by show w.heap.size≤W0.heap.size;omega) _).setCell (by show w.heap.size≤W0.heap.size;omega) _).setCell (by show w.heap.size≤W0.heap.size;omega) _).setCell (by show w.heap.size≤W0.heap.size;omega) _).setCell (by show w.heap.size≤W0.heap.size;omega) _).setCell (by show w.heap.size≤W0.heap.size;omega) _).drew⟩
 go_wp2_with fail
 go_region
 generalize (((((((W1.setCell ⟨W0.heap.size,1,none⟩ (.string r.head)).setCell ⟨W0.heap.size,2,none⟩ (.string r.name)).setCell ⟨W0.heap.size,3,none⟩ (.int .i64 p)).setCell ⟨W0.heap.size,4,none⟩ (.string a.ref.head)).setCell ⟨W0.heap.size,5,none⟩ (.string a.ref.name)).setCell ⟨W0.heap.size,6,none⟩ (.int .u64 (hiOf a.const))).setCell ⟨W0.heap.size,7,none⟩ (.int .u64 (loOf a.const))).drew=Wx at HBx ⊢
 clear HB1 p0 p1 m1 f1 p2 m2 f2 p3 m3 f3 p4 m4 f4 p5 m5 f5 p6 m6 f6 p7 m7 f7
 have p3:=HBx.out.1.cell 3 (v:=.int .i64 p) rfl
 have p8:=HBx.out.1.cell 8 (v:=.string b.ref.head) rfl
 have m8:=HBx.out.2.1.cell 8 (v:=.string ⟨#[]⟩) rfl
 have f8:=HBx.out.2.1.frozen 8
 have p9:=HBx.out.1.cell 9 (v:=.string b.ref.name) rfl
 have m9:=HBx.out.2.1.cell 9 (v:=.string ⟨#[]⟩) rfl
 have f9:=HBx.out.2.1.frozen 9
 have p10:=HBx.out.1.cell 10 (v:=.int .u64 (hiOf b.const)) rfl
 have m10:=HBx.out.2.1.cell 10 (v:=.int .u64 0) rfl
 have f10:=HBx.out.2.1.frozen 10
 have p11:=HBx.out.1.cell 11 (v:=.int .u64 (loOf b.const)) rfl
 have m11:=HBx.out.2.1.cell 11 (v:=.int .u64 0) rfl
 have f11:=HBx.out.2.1.frozen 11
 have HB2:Hid (Blk ((((Wx.setCell ⟨W0.heap.size,8,none⟩ (.string b.ref.head)).setCell ⟨W0.heap.size,9,none⟩ (.string b.ref.name)).setCell ⟨W0.heap.size,10,none⟩ (.int .u64 (hiOf b.const))).setCell ⟨W0.heap.size,11,none⟩ (.int .u64 (loOf b.const))) w.heap.size (stA 1 r p a b) 167∧Blk ((((Wx.setCell ⟨W0.heap.size,8,none⟩ (.string b.ref.head)).setCell ⟨W0.heap.size,9,none⟩ (.string b.ref.name)).setCell ⟨W0.heap.size,10,none⟩ (.int .u64 (hiOf b.const))).setCell ⟨W0.heap.size,11,none⟩ (.int .u64 (loOf b.const))) W0.heap.size (stA 1 r p a b) 167∧Bl w ((((Wx.setCell ⟨W0.heap.size,8,none⟩ (.string b.ref.head)).setCell ⟨W0.heap.size,9,none⟩ (.string b.ref.name)).setCell ⟨W0.heap.size,10,none⟩ (.int .u64 (hiOf b.const))).setCell ⟨W0.heap.size,11,none⟩ (.int .u64 (loOf b.const)))):=⟨HBx.out.1.kept (S:=fun k=>k=W0.heap.size) (Kept.set (S:=fun k=>k=W0.heap.size) (p:=⟨W0.heap.size,11,none⟩) (Kept.set (S:=fun k=>k=W0.heap.size) (p:=⟨W0.heap.size,10,none⟩) (Kept.set (S:=fun k=>k=W0.heap.size) (p:=⟨W0.heap.size,9,none⟩) (Kept.set (S:=fun k=>k=W0.heap.size) (p:=⟨W0.heap.size,8,none⟩) (Kept.refl _ Wx) rfl _) rfl _) rfl _) rfl _) (by omega),((((HBx.out.2.1.set 8 _).set 9 _).set 10 _).set 11 _),((((HBx.out.2.2.setCell (by show w.heap.size≤W0.heap.size;omega) _).setCell (by show w.heap.size≤W0.heap.size;omega) _).setCell (by show w.heap.size≤W0.heap.size;omega) _).setCell (by show w.heap.size≤W0.heap.size;omega) _)⟩
 go_upto_region 15 with fail
 generalize ((((Wx.setCell ⟨W0.heap.size,8,none⟩ (.string b.ref.head)).setCell ⟨W0.heap.size,9,none⟩ (.string b.ref.name)).setCell ⟨W0.heap.size,10,none⟩ (.int .u64 (hiOf b.const))).setCell ⟨W0.heap.size,11,none⟩ (.int .u64 (loOf b.const)))=W2 at HB2 ⊢
 clear HBx p3 p8 m8 f8 p9 m9 f9 p10 m10 f10 p11 m11 f11
 have R1:Hid (W2.rangeAt w.heap.size 0 (stL 1 r p a b)):=blk_range HB2.out.1
 have R2:Hid (W2.rangeAt W0.heap.size 0 (stL 1 r p a b)):=blk_range HB2.out.2.1
 have p3:=HB2.out.1.cell 3 (v:=.int .i64 p) rfl
 have p4:=HB2.out.1.cell 4 (v:=.string a.ref.head) rfl
 have p5:=HB2.out.1.cell 5 (v:=.string a.ref.name) rfl
 have p6:=HB2.out.1.cell 6 (v:=.int .u64 (hiOf a.const)) rfl
 have p7:=HB2.out.1.cell 7 (v:=.int .u64 (loOf a.const)) rfl
 cases q
 ·go_wp2_with (first|(refine wpList_load_mid rfl 167 _ rfl w.heap.size 0 rfl (stL 1 r p a b) _ R1.out Tryz.underlying167 rfl (by kernel_rfl) ?_)|(refine wpList_load_mid rfl 167 _ rfl W0.heap.size 0 rfl (stL 1 r p a b) _ R2.out Tryz.underlying167 rfl (by kernel_rfl) ?_))
  go_ret
  exact⟨rfl,HB2.out.2.2⟩
 go_wp2_with (first|(refine wpList_load_mid rfl 167 _ rfl w.heap.size 0 rfl (stL 1 r p a b) _ R1.out Tryz.underlying167 rfl (by kernel_rfl) ?_)|(refine wpList_load_mid rfl 167 _ rfl W0.heap.size 0 rfl (stL 1 r p a b) _ R2.out Tryz.underlying167 rfl (by kernel_rfl) ?_))
 refine(CO.out _).mono ?_
 rintro e V0 ⟨rfl,rfl⟩
 cases co
 ·go_wp2
  go_ret
  exact⟨rfl,HB2.out.2.2⟩
 go_wp2_with fail
 refine(CA.out _).mono ?_
 rintro e V1 ⟨rfl,hb⟩
 have HB3:Hid (Blk V1 w.heap.size (stA 1 r p a b) 167∧Bl w V1):=⟨HB2.out.1.below hb,bst HB2.out.2.2 hb (Nat.le_refl _)⟩
 clear hb HB2 R1 R2 p3 p4 p5 p6 p7
 have p8:=HB3.out.1.cell 8 (v:=.string b.ref.head) rfl
 have p9:=HB3.out.1.cell 9 (v:=.string b.ref.name) rfl
 have p10:=HB3.out.1.cell 10 (v:=.int .u64 (hiOf b.const)) rfl
 have p11:=HB3.out.1.cell 11 (v:=.int .u64 (loOf b.const)) rfl
 cases ca
 ·go_wp2
  go_ret
  exact⟨rfl,HB3.out.2⟩
 go_wp2_with fail
 refine(CB.out _).mono ?_
 rintro e V2 ⟨rfl,hb⟩
 have HB4:Hid (Bl w V2):=bst HB3.out.2 hb (Nat.le_refl _)
 clear hb HB3 p8 p9 p10 p11
 go_wp2
 go_ret
 exact⟨rfl,HB4.out⟩
end Go.Proofs.YtmbpclknhkbbkaaGreat
