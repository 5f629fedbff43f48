/- Package schema: stages that are well m. -/
import Derived.Test.YtmbpclknhkbbkaaGreatB26
set_option linter.unusedSimpArgs false
set_option linter.unusedVariables false
set_option maxHeartbeats 4000000
set_option maxRecDepth 100000
namespace Go.Proofs.YtmbpclknhkbbkaaGreat
open Go.RowKit
abbrev zeroT:Tst:=⟨0,zeroO,zeroO⟩
theorem zero_test (t:Tst)(u:World):(binOp .eql 125 (.agg #[.int .i64 t.kind,.string t.a.ref.head,.string t.a.ref.name,.int .u64 (hiOf t.a.const),.int .u64 (loOf t.a.const),.string t.b.ref.head,.string t.b.ref.name,.int .u64 (hiOf t.b.const),.int .u64 (loOf t.b.const)]) (.agg #[.int .i64 0,.string ⟨#[]⟩,.string ⟨#[]⟩,.int .u64 0,.int .u64 0,.string ⟨#[]⟩,.string ⟨#[]⟩,.int .u64 0,.int .u64 0])).run Tryz.prog u=.ok (.bool (decide (t=zeroT))) u:=by
 have:=run_eq125 t zeroT u
 simpa[TstC,hiOf,loOf] using this
theorem int_zero (m:Nat):((m:Int)==0)=decide (m=0):=by rw[Bool.eq_iff_iff];simp
def isStg (x:Stg):Bool:=
 if x.kind=1 then decide (x.test=zeroT)
 else if x.kind=2 then decide (x.table=⟨#[]⟩)&&isTst x.test
 else if x.kind=3 then decide (x.table=⟨#[]⟩)&&(decide (x.test=zeroT)&&(decide (x.thn.length=0)&&decide (x.els.length=0)))
 else false
theorem isStage_1 (a0 a1:Option Addr)(c0 c1:Nat)(t:Tst)(n:ByteArray)(m0 m1:Nat)(w:World):Calls Tryz.prog 206 #[.agg #[.int .i64 1,.string n,.int .i64 t.kind,.string t.a.ref.head,.string t.a.ref.name,.int .u64 (hiOf t.a.const),.int .u64 (loOf t.a.const),.string t.b.ref.head,.string t.b.ref.name,.int .u64 (hiOf t.b.const),.int .u64 (loOf t.b.const),.slice a0 m0 c0,.slice a1 m1 c1]] w fun e w'=>e=.returned (.bool (decide (t=zeroT)))∧Below w.heap.size w w':=by
 have hE:∀ u:World,(binOp .eql 125 (.agg #[.int .i64 t.kind,.string t.a.ref.head,.string t.a.ref.name,.int .u64 (hiOf t.a.const),.int .u64 (loOf t.a.const),.string t.b.ref.head,.string t.b.ref.name,.int .u64 (hiOf t.b.const),.int .u64 (loOf t.b.const)]) (.agg #[.int .i64 0,.string ⟨#[]⟩,.string ⟨#[]⟩,.int .u64 0,.int .u64 0,.string ⟨#[]⟩,.string ⟨#[]⟩,.int .u64 0,.int .u64 0])).run Tryz.prog u=.ok (.bool (decide (t=zeroT))) u:=fun u=>zero_test t u
 generalize decide (t=zeroT)=z at*
 have HB0:Hid (Blk (w.alloc (.cells #[.int .i64 1,.string n,.int .i64 t.kind,.string t.a.ref.head,.string t.a.ref.name,.int .u64 (hiOf t.a.const),.int .u64 (loOf t.a.const),.string t.b.ref.head,.string t.b.ref.name,.int .u64 (hiOf t.b.const),.int .u64 (loOf t.b.const),.slice a0 m0 c0,.slice a1 m1 c1] 127)) w.heap.size #[.int .i64 1,.string n,.int .i64 t.kind,.string t.a.ref.head,.string t.a.ref.name,.int .u64 (hiOf t.a.const),.int .u64 (loOf t.a.const),.string t.b.ref.head,.string t.b.ref.name,.int .u64 (hiOf t.b.const),.int .u64 (loOf t.b.const),.slice a0 m0 c0,.slice a1 m1 c1] 127∧Bl w (w.alloc (.cells #[.int .i64 1,.string n,.int .i64 t.kind,.string t.a.ref.head,.string t.a.ref.name,.int .u64 (hiOf t.a.const),.int .u64 (loOf t.a.const),.string t.b.ref.head,.string t.b.ref.name,.int .u64 (hiOf t.b.const),.int .u64 (loOf t.b.const),.slice a0 m0 c0,.slice a1 m1 c1] 127))):=⟨Blk.new _ _ _,(Below.refl _ _).alloc (Nat.le_refl _) _⟩
 go_enter Tryz.func206,Tryz.ntmps206
 go_upto_region 1 with fail
 generalize (w.alloc _)=W0 at HB0 ⊢
 have p0:=HB0.out.1.cell 0 (v:=.int .i64 1) rfl
 have p1:=HB0.out.1.cell 1 (v:=.string n) rfl
 have p11:=HB0.out.1.cell 11 (v:=.slice a0 m0 c0) rfl
 have p12:=HB0.out.1.cell 12 (v:=.slice a1 m1 c1) rfl
 have R1:Hid (W0.rangeAt w.heap.size 2 ([.int .i64 t.kind,.string t.a.ref.head,.string t.a.ref.name,.int .u64 (hiOf t.a.const),.int .u64 (loOf t.a.const),.string t.b.ref.head,.string t.b.ref.name,.int .u64 (hiOf t.b.const),.int .u64 (loOf t.b.const)]:List Value)):=blk_part (l:=([.int .i64 1,.string n,.int .i64 t.kind,.string t.a.ref.head,.string t.a.ref.name,.int .u64 (hiOf t.a.const),.int .u64 (loOf t.a.const),.string t.b.ref.head,.string t.b.ref.name,.int .u64 (hiOf t.b.const),.int .u64 (loOf t.b.const),.slice a0 m0 c0,.slice a1 m1 c1]:List Value)) HB0.out.1 2 rfl
 go_wp2_with (refine wpList_load_mid rfl 125 _ rfl w.heap.size 2 rfl ([.int .i64 t.kind,.string t.a.ref.head,.string t.a.ref.name,.int .u64 (hiOf t.a.const),.int .u64 (loOf t.a.const),.string t.b.ref.head,.string t.b.ref.name,.int .u64 (hiOf t.b.const),.int .u64 (loOf t.b.const)]:List Value) _ R1.out Tryz.underlying125 rfl (by kernel_rfl) ?_)
 go_ret
 exact⟨rfl,HB0.out.2⟩
theorem isStage_2y (a0 a1:Option Addr)(c0 c1:Nat)(t:Tst)(m0 m1:Nat)(w:World):Calls Tryz.prog 206 #[.agg #[.int .i64 2,.string ⟨#[]⟩,.int .i64 t.kind,.string t.a.ref.head,.string t.a.ref.name,.int .u64 (hiOf t.a.const),.int .u64 (loOf t.a.const),.string t.b.ref.head,.string t.b.ref.name,.int .u64 (hiOf t.b.const),.int .u64 (loOf t.b.const),.slice a0 m0 c0,.slice a1 m1 c1]] w fun e w'=>e=.returned (.bool (isTst t))∧Below w.heap.size w w':=by
 have hE:∀ u:World,(binOp .eql 125 (.agg #[.int .i64 t.kind,.string t.a.ref.head,.string t.a.ref.name,.int .u64 (hiOf t.a.const),.int .u64 (loOf t.a.const),.string t.b.ref.head,.string t.b.ref.name,.int .u64 (hiOf t.b.const),.int .u64 (loOf t.b.const)]) (.agg #[.int .i64 0,.string ⟨#[]⟩,.string ⟨#[]⟩,.int .u64 0,.int .u64 0,.string ⟨#[]⟩,.string ⟨#[]⟩,.int .u64 0,.int .u64 0])).run Tryz.prog u=.ok (.bool (decide (t=zeroT))) u:=fun u=>zero_test t u
 have CT:Hid (∀ w,Cs 232 #[.agg (TstC t)] w fun e w'=>e=.returned (.bool (isTst t))∧Bl w w'):=fun w=>isTest_any t w
 generalize isTst t=ct at*
 generalize decide (t=zeroT)=z at*
 have HB0:Hid (Blk (w.alloc (.cells #[.int .i64 2,.string ⟨#[]⟩,.int .i64 t.kind,.string t.a.ref.head,.string t.a.ref.name,.int .u64 (hiOf t.a.const),.int .u64 (loOf t.a.const),.string t.b.ref.head,.string t.b.ref.name,.int .u64 (hiOf t.b.const),.int .u64 (loOf t.b.const),.slice a0 m0 c0,.slice a1 m1 c1] 127)) w.heap.size #[.int .i64 2,.string ⟨#[]⟩,.int .i64 t.kind,.string t.a.ref.head,.string t.a.ref.name,.int .u64 (hiOf t.a.const),.int .u64 (loOf t.a.const),.string t.b.ref.head,.string t.b.ref.name,.int .u64 (hiOf t.b.const),.int .u64 (loOf t.b.const),.slice a0 m0 c0,.slice a1 m1 c1] 127∧Bl w (w.alloc (.cells #[.int .i64 2,.string ⟨#[]⟩,.int .i64 t.kind,.string t.a.ref.head,.string t.a.ref.name,.int .u64 (hiOf t.a.const),.int .u64 (loOf t.a.const),.string t.b.ref.head,.string t.b.ref.name,.int .u64 (hiOf t.b.const),.int .u64 (loOf t.b.const),.slice a0 m0 c0,.slice a1 m1 c1] 127))):=⟨Blk.new _ _ _,(Below.refl _ _).alloc (Nat.le_refl _) _⟩
 go_enter Tryz.func206,Tryz.ntmps206
 go_upto_region 1 with fail
 generalize (w.alloc _)=W0 at HB0 ⊢
 have p0:=HB0.out.1.cell 0 (v:=.int .i64 2) rfl
 have p1:=HB0.out.1.cell 1 (v:=.string ⟨#[]⟩) rfl
 have p11:=HB0.out.1.cell 11 (v:=.slice a0 m0 c0) rfl
 have p12:=HB0.out.1.cell 12 (v:=.slice a1 m1 c1) rfl
 have R1:Hid (W0.rangeAt w.heap.size 2 ([.int .i64 t.kind,.string t.a.ref.head,.string t.a.ref.name,.int .u64 (hiOf t.a.const),.int .u64 (loOf t.a.const),.string t.b.ref.head,.string t.b.ref.name,.int .u64 (hiOf t.b.const),.int .u64 (loOf t.b.const)]:List Value)):=blk_part (l:=([.int .i64 2,.string ⟨#[]⟩,.int .i64 t.kind,.string t.a.ref.head,.string t.a.ref.name,.int .u64 (hiOf t.a.const),.int .u64 (loOf t.a.const),.string t.b.ref.head,.string t.b.ref.name,.int .u64 (hiOf t.b.const),.int .u64 (loOf t.b.const),.slice a0 m0 c0,.slice a1 m1 c1]:List Value)) HB0.out.1 2 rfl
 have p2:=HB0.out.1.cell 2 (v:=.int .i64 t.kind) rfl
 have p3:=HB0.out.1.cell 3 (v:=.string t.a.ref.head) rfl
 have p4:=HB0.out.1.cell 4 (v:=.string t.a.ref.name) rfl
 have p5:=HB0.out.1.cell 5 (v:=.int .u64 (hiOf t.a.const)) rfl
 have p6:=HB0.out.1.cell 6 (v:=.int .u64 (loOf t.a.const)) rfl
 have p7:=HB0.out.1.cell 7 (v:=.string t.b.ref.head) rfl
 have p8:=HB0.out.1.cell 8 (v:=.string t.b.ref.name) rfl
 have p9:=HB0.out.1.cell 9 (v:=.int .u64 (hiOf t.b.const)) rfl
 have p10:=HB0.out.1.cell 10 (v:=.int .u64 (loOf t.b.const)) rfl
 go_wp2_with (refine wpList_load_mid rfl 125 _ rfl w.heap.size 2 rfl ([.int .i64 t.kind,.string t.a.ref.head,.string t.a.ref.name,.int .u64 (hiOf t.a.const),.int .u64 (loOf t.a.const),.string t.b.ref.head,.string t.b.ref.name,.int .u64 (hiOf t.b.const),.int .u64 (loOf t.b.const)]:List Value) _ R1.out Tryz.underlying125 rfl (by kernel_rfl) ?_)
 refine(CT.out _).mono ?_
 rintro e V ⟨rfl,hb⟩
 have HB1:Hid (Bl w V):=bst HB0.out.2 hb (Nat.le_refl _)
 clear hb
 go_wp2
 go_ret
 exact⟨rfl,HB1.out⟩
theorem isStage_2n (a0 a1:Option Addr)(c0 c1:Nat)(t:Tst)(n:ByteArray)(hn:¬ n=⟨#[]⟩)(m0 m1:Nat)(w:World):Calls Tryz.prog 206 #[.agg #[.int .i64 2,.string n,.int .i64 t.kind,.string t.a.ref.head,.string t.a.ref.name,.int .u64 (hiOf t.a.const),.int .u64 (loOf t.a.const),.string t.b.ref.head,.string t.b.ref.name,.int .u64 (hiOf t.b.const),.int .u64 (loOf t.b.const),.slice a0 m0 c0,.slice a1 m1 c1]] w fun e w'=>e=.returned (.bool (false))∧Below w.heap.size w w':=by
 have hE:∀ u:World,(binOp .eql 125 (.agg #[.int .i64 t.kind,.string t.a.ref.head,.string t.a.ref.name,.int .u64 (hiOf t.a.const),.int .u64 (loOf t.a.const),.string t.b.ref.head,.string t.b.ref.name,.int .u64 (hiOf t.b.const),.int .u64 (loOf t.b.const)]) (.agg #[.int .i64 0,.string ⟨#[]⟩,.string ⟨#[]⟩,.int .u64 0,.int .u64 0,.string ⟨#[]⟩,.string ⟨#[]⟩,.int .u64 0,.int .u64 0])).run Tryz.prog u=.ok (.bool (decide (t=zeroT))) u:=fun u=>zero_test t u
 have hn1:(n.toList==[])=false:=by rw[lit_eq];exact decide_eq_false hn
 have hn2:n.toList.isEmpty=false:=by rw[emp_eq];exact decide_eq_false hn
 generalize decide (t=zeroT)=z at*
 have HB0:Hid (Blk (w.alloc (.cells #[.int .i64 2,.string n,.int .i64 t.kind,.string t.a.ref.head,.string t.a.ref.name,.int .u64 (hiOf t.a.const),.int .u64 (loOf t.a.const),.string t.b.ref.head,.string t.b.ref.name,.int .u64 (hiOf t.b.const),.int .u64 (loOf t.b.const),.slice a0 m0 c0,.slice a1 m1 c1] 127)) w.heap.size #[.int .i64 2,.string n,.int .i64 t.kind,.string t.a.ref.head,.string t.a.ref.name,.int .u64 (hiOf t.a.const),.int .u64 (loOf t.a.const),.string t.b.ref.head,.string t.b.ref.name,.int .u64 (hiOf t.b.const),.int .u64 (loOf t.b.const),.slice a0 m0 c0,.slice a1 m1 c1] 127∧Bl w (w.alloc (.cells #[.int .i64 2,.string n,.int .i64 t.kind,.string t.a.ref.head,.string t.a.ref.name,.int .u64 (hiOf t.a.const),.int .u64 (loOf t.a.const),.string t.b.ref.head,.string t.b.ref.name,.int .u64 (hiOf t.b.const),.int .u64 (loOf t.b.const),.slice a0 m0 c0,.slice a1 m1 c1] 127))):=⟨Blk.new _ _ _,(Below.refl _ _).alloc (Nat.le_refl _) _⟩
 go_enter Tryz.func206,Tryz.ntmps206
 go_upto_region 1 with fail
 generalize (w.alloc _)=W0 at HB0 ⊢
 have p0:=HB0.out.1.cell 0 (v:=.int .i64 2) rfl
 have p1:=HB0.out.1.cell 1 (v:=.string n) rfl
 have p11:=HB0.out.1.cell 11 (v:=.slice a0 m0 c0) rfl
 have p12:=HB0.out.1.cell 12 (v:=.slice a1 m1 c1) rfl
 have R1:Hid (W0.rangeAt w.heap.size 2 ([.int .i64 t.kind,.string t.a.ref.head,.string t.a.ref.name,.int .u64 (hiOf t.a.const),.int .u64 (loOf t.a.const),.string t.b.ref.head,.string t.b.ref.name,.int .u64 (hiOf t.b.const),.int .u64 (loOf t.b.const)]:List Value)):=blk_part (l:=([.int .i64 2,.string n,.int .i64 t.kind,.string t.a.ref.head,.string t.a.ref.name,.int .u64 (hiOf t.a.const),.int .u64 (loOf t.a.const),.string t.b.ref.head,.string t.b.ref.name,.int .u64 (hiOf t.b.const),.int .u64 (loOf t.b.const),.slice a0 m0 c0,.slice a1 m1 c1]:List Value)) HB0.out.1 2 rfl
 go_wp2_with (refine wpList_load_mid rfl 125 _ rfl w.heap.size 2 rfl ([.int .i64 t.kind,.string t.a.ref.head,.string t.a.ref.name,.int .u64 (hiOf t.a.const),.int .u64 (loOf t.a.const),.string t.b.ref.head,.string t.b.ref.name,.int .u64 (hiOf t.b.const),.int .u64 (loOf t.b.const)]:List Value) _ R1.out Tryz.underlying125 rfl (by kernel_rfl) ?_)
 go_ret
 exact⟨rfl,HB0.out.2⟩
theorem isStage_3n (a0 a1:Option Addr)(c0 c1:Nat)(t:Tst)(n:ByteArray)(hn:¬ n=⟨#[]⟩)(m0 m1:Nat)(w:World):Calls Tryz.prog 206 #[.agg #[.int .i64 3,.string n,.int .i64 t.kind,.string t.a.ref.head,.string t.a.ref.name,.int .u64 (hiOf t.a.const),.int .u64 (loOf t.a.const),.string t.b.ref.head,.string t.b.ref.name,.int .u64 (hiOf t.b.const),.int .u64 (loOf t.b.const),.slice a0 m0 c0,.slice a1 m1 c1]] w fun e w'=>e=.returned (.bool (false))∧Below w.heap.size w w':=by
 have hE:∀ u:World,(binOp .eql 125 (.agg #[.int .i64 t.kind,.string t.a.ref.head,.string t.a.ref.name,.int .u64 (hiOf t.a.const),.int .u64 (loOf t.a.const),.string t.b.ref.head,.string t.b.ref.name,.int .u64 (hiOf t.b.const),.int .u64 (loOf t.b.const)]) (.agg #[.int .i64 0,.string ⟨#[]⟩,.string ⟨#[]⟩,.int .u64 0,.int .u64 0,.string ⟨#[]⟩,.string ⟨#[]⟩,.int .u64 0,.int .u64 0])).run Tryz.prog u=.ok (.bool (decide (t=zeroT))) u:=fun u=>zero_test t u
 have hn1:(n.toList==[])=false:=by rw[lit_eq];exact decide_eq_false hn
 have hn2:n.toList.isEmpty=false:=by rw[emp_eq];exact decide_eq_false hn
 generalize decide (t=zeroT)=z at*
 have HB0:Hid (Blk (w.alloc (.cells #[.int .i64 3,.string n,.int .i64 t.kind,.string t.a.ref.head,.string t.a.ref.name,.int .u64 (hiOf t.a.const),.int .u64 (loOf t.a.const),.string t.b.ref.head,.string t.b.ref.name,.int .u64 (hiOf t.b.const),.int .u64 (loOf t.b.const),.slice a0 m0 c0,.slice a1 m1 c1] 127)) w.heap.size #[.int .i64 3,.string n,.int .i64 t.kind,.string t.a.ref.head,.string t.a.ref.name,.int .u64 (hiOf t.a.const),.int .u64 (loOf t.a.const),.string t.b.ref.head,.string t.b.ref.name,.int .u64 (hiOf t.b.const),.int .u64 (loOf t.b.const),.slice a0 m0 c0,.slice a1 m1 c1] 127∧Bl w (w.alloc (.cells #[.int .i64 3,.string n,.int .i64 t.kind,.string t.a.ref.head,.string t.a.ref.name,.int .u64 (hiOf t.a.const),.int .u64 (loOf t.a.const),.string t.b.ref.head,.string t.b.ref.name,.int .u64 (hiOf t.b.const),.int .u64 (loOf t.b.const),.slice a0 m0 c0,.slice a1 m1 c1] 127))):=⟨Blk.new _ _ _,(Below.refl _ _).alloc (Nat.le_refl _) _⟩
 go_enter Tryz.func206,Tryz.ntmps206
 go_upto_region 1 with fail
 generalize (w.alloc _)=W0 at HB0 ⊢
 have p0:=HB0.out.1.cell 0 (v:=.int .i64 3) rfl
 have p1:=HB0.out.1.cell 1 (v:=.string n) rfl
 have p11:=HB0.out.1.cell 11 (v:=.slice a0 m0 c0) rfl
 have p12:=HB0.out.1.cell 12 (v:=.slice a1 m1 c1) rfl
 have R1:Hid (W0.rangeAt w.heap.size 2 ([.int .i64 t.kind,.string t.a.ref.head,.string t.a.ref.name,.int .u64 (hiOf t.a.const),.int .u64 (loOf t.a.const),.string t.b.ref.head,.string t.b.ref.name,.int .u64 (hiOf t.b.const),.int .u64 (loOf t.b.const)]:List Value)):=blk_part (l:=([.int .i64 3,.string n,.int .i64 t.kind,.string t.a.ref.head,.string t.a.ref.name,.int .u64 (hiOf t.a.const),.int .u64 (loOf t.a.const),.string t.b.ref.head,.string t.b.ref.name,.int .u64 (hiOf t.b.const),.int .u64 (loOf t.b.const),.slice a0 m0 c0,.slice a1 m1 c1]:List Value)) HB0.out.1 2 rfl
 go_wp2_with (refine wpList_load_mid rfl 125 _ rfl w.heap.size 2 rfl ([.int .i64 t.kind,.string t.a.ref.head,.string t.a.ref.name,.int .u64 (hiOf t.a.const),.int .u64 (loOf t.a.const),.string t.b.ref.head,.string t.b.ref.name,.int .u64 (hiOf t.b.const),.int .u64 (loOf t.b.const)]:List Value) _ R1.out Tryz.underlying125 rfl (by kernel_rfl) ?_)
 go_ret
 exact⟨rfl,HB0.out.2⟩
theorem isStage_3 (a0 a1:Option Addr)(c0 c1:Nat)(t:Tst)(m0 m1:Nat)(w:World):Calls Tryz.prog 206 #[.agg #[.int .i64 3,.string ⟨#[]⟩,.int .i64 t.kind,.string t.a.ref.head,.string t.a.ref.name,.int .u64 (hiOf t.a.const),.int .u64 (loOf t.a.const),.string t.b.ref.head,.string t.b.ref.name,.int .u64 (hiOf t.b.const),.int .u64 (loOf t.b.const),.slice a0 m0 c0,.slice a1 m1 c1]] w fun e w'=>e=.returned (.bool (decide (t=zeroT)&&(decide (m0=0)&&decide (m1=0))))∧Below w.heap.size w w':=by
 have hE:∀ u:World,(binOp .eql 125 (.agg #[.int .i64 t.kind,.string t.a.ref.head,.string t.a.ref.name,.int .u64 (hiOf t.a.const),.int .u64 (loOf t.a.const),.string t.b.ref.head,.string t.b.ref.name,.int .u64 (hiOf t.b.const),.int .u64 (loOf t.b.const)]) (.agg #[.int .i64 0,.string ⟨#[]⟩,.string ⟨#[]⟩,.int .u64 0,.int .u64 0,.string ⟨#[]⟩,.string ⟨#[]⟩,.int .u64 0,.int .u64 0])).run Tryz.prog u=.ok (.bool (decide (t=zeroT))) u:=fun u=>zero_test t u
 generalize decide (t=zeroT)=z at*
 have HB0:Hid (Blk (w.alloc (.cells #[.int .i64 3,.string ⟨#[]⟩,.int .i64 t.kind,.string t.a.ref.head,.string t.a.ref.name,.int .u64 (hiOf t.a.const),.int .u64 (loOf t.a.const),.string t.b.ref.head,.string t.b.ref.name,.int .u64 (hiOf t.b.const),.int .u64 (loOf t.b.const),.slice a0 m0 c0,.slice a1 m1 c1] 127)) w.heap.size #[.int .i64 3,.string ⟨#[]⟩,.int .i64 t.kind,.string t.a.ref.head,.string t.a.ref.name,.int .u64 (hiOf t.a.const),.int .u64 (loOf t.a.const),.string t.b.ref.head,.string t.b.ref.name,.int .u64 (hiOf t.b.const),.int .u64 (loOf t.b.const),.slice a0 m0 c0,.slice a1 m1 c1] 127∧Bl w (w.alloc (.cells #[.int .i64 3,.string ⟨#[]⟩,.int .i64 t.kind,.string t.a.ref.head,.string t.a.ref.name,.int .u64 (hiOf t.a.const),.int .u64 (loOf t.a.const),.string t.b.ref.head,.string t.b.ref.name,.int .u64 (hiOf t.b.const),.int .u64 (loOf t.b.const),.slice a0 m0 c0,.slice a1 m1 c1] 127))):=⟨Blk.new _ _ _,(Below.refl _ _).alloc (Nat.le_refl _) _⟩
 go_enter Tryz.func206,Tryz.ntmps206
 go_upto_region 1 with fail
 generalize (w.alloc _)=W0 at HB0 ⊢
 have p0:=HB0.out.1.cell 0 (v:=.int .i64 3) rfl
 have p1:=HB0.out.1.cell 1 (v:=.string ⟨#[]⟩) rfl
 have p11:=HB0.out.1.cell 11 (v:=.slice a0 m0 c0) rfl
 have p12:=HB0.out.1.cell 12 (v:=.slice a1 m1 c1) rfl
 have R1:Hid (W0.rangeAt w.heap.size 2 ([.int .i64 t.kind,.string t.a.ref.head,.string t.a.ref.name,.int .u64 (hiOf t.a.const),.int .u64 (loOf t.a.const),.string t.b.ref.head,.string t.b.ref.name,.int .u64 (hiOf t.b.const),.int .u64 (loOf t.b.const)]:List Value)):=blk_part (l:=([.int .i64 3,.string ⟨#[]⟩,.int .i64 t.kind,.string t.a.ref.head,.string t.a.ref.name,.int .u64 (hiOf t.a.const),.int .u64 (loOf t.a.const),.string t.b.ref.head,.string t.b.ref.name,.int .u64 (hiOf t.b.const),.int .u64 (loOf t.b.const),.slice a0 m0 c0,.slice a1 m1 c1]:List Value)) HB0.out.1 2 rfl
 have HQ0:Hid (((m0:Int)==0)=decide (m0=0)):=int_zero m0
 have HQ1:Hid (((m1:Int)==0)=decide (m1=0)):=int_zero m1
 cases z
 ·go_wp2_with (refine wpList_load_mid rfl 125 _ rfl w.heap.size 2 rfl ([.int .i64 t.kind,.string t.a.ref.head,.string t.a.ref.name,.int .u64 (hiOf t.a.const),.int .u64 (loOf t.a.const),.string t.b.ref.head,.string t.b.ref.name,.int .u64 (hiOf t.b.const),.int .u64 (loOf t.b.const)]:List Value) _ R1.out Tryz.underlying125 rfl (by kernel_rfl) ?_)
  go_ret
  exact⟨rfl,HB0.out.2⟩
 ·by_cases h0:m0=0
  ·subst h0
   go_wp2_with (refine wpList_load_mid rfl 125 _ rfl w.heap.size 2 rfl ([.int .i64 t.kind,.string t.a.ref.head,.string t.a.ref.name,.int .u64 (hiOf t.a.const),.int .u64 (loOf t.a.const),.string t.b.ref.head,.string t.b.ref.name,.int .u64 (hiOf t.b.const),.int .u64 (loOf t.b.const)]:List Value) _ R1.out Tryz.underlying125 rfl (by kernel_rfl) ?_)
   go_ret
   exact⟨by rw[← HQ1.out];rfl,HB0.out.2⟩
  ·have h0':((m0:Int)==0)=false:=by rw[int_zero];exact decide_eq_false h0
   have HD:Hid (decide (m0=0)=false):=decide_eq_false h0
   go_wp2_with (refine wpList_load_mid rfl 125 _ rfl w.heap.size 2 rfl ([.int .i64 t.kind,.string t.a.ref.head,.string t.a.ref.name,.int .u64 (hiOf t.a.const),.int .u64 (loOf t.a.const),.string t.b.ref.head,.string t.b.ref.name,.int .u64 (hiOf t.b.const),.int .u64 (loOf t.b.const)]:List Value) _ R1.out Tryz.underlying125 rfl (by kernel_rfl) ?_)
   go_ret
   exact⟨by rw[HD.out];rfl,HB0.out.2⟩
theorem isStage_not (a0 a1:Option Addr)(c0 c1:Nat)(t:Tst)(k:Int)(h1:¬ k=1)(h2:¬ k=2)(h3:¬ k=3)(n:ByteArray)(m0 m1:Nat)(w:World):Calls Tryz.prog 206 #[.agg #[.int .i64 k,.string n,.int .i64 t.kind,.string t.a.ref.head,.string t.a.ref.name,.int .u64 (hiOf t.a.const),.int .u64 (loOf t.a.const),.string t.b.ref.head,.string t.b.ref.name,.int .u64 (hiOf t.b.const),.int .u64 (loOf t.b.const),.slice a0 m0 c0,.slice a1 m1 c1]] w fun e w'=>e=.returned (.bool (false))∧Below w.heap.size w w':=by
 have hE:∀ u:World,(binOp .eql 125 (.agg #[.int .i64 t.kind,.string t.a.ref.head,.string t.a.ref.name,.int .u64 (hiOf t.a.const),.int .u64 (loOf t.a.const),.string t.b.ref.head,.string t.b.ref.name,.int .u64 (hiOf t.b.const),.int .u64 (loOf t.b.const)]) (.agg #[.int .i64 0,.string ⟨#[]⟩,.string ⟨#[]⟩,.int .u64 0,.int .u64 0,.string ⟨#[]⟩,.string ⟨#[]⟩,.int .u64 0,.int .u64 0])).run Tryz.prog u=.ok (.bool (decide (t=zeroT))) u:=fun u=>zero_test t u
 have k1:(k==1)=false:=by simpa using h1
 have k2:(k==2)=false:=by simpa using h2
 have k3:(k==3)=false:=by simpa using h3
 generalize decide (t=zeroT)=z at*
 have HB0:Hid (Blk (w.alloc (.cells #[.int .i64 k,.string n,.int .i64 t.kind,.string t.a.ref.head,.string t.a.ref.name,.int .u64 (hiOf t.a.const),.int .u64 (loOf t.a.const),.string t.b.ref.head,.string t.b.ref.name,.int .u64 (hiOf t.b.const),.int .u64 (loOf t.b.const),.slice a0 m0 c0,.slice a1 m1 c1] 127)) w.heap.size #[.int .i64 k,.string n,.int .i64 t.kind,.string t.a.ref.head,.string t.a.ref.name,.int .u64 (hiOf t.a.const),.int .u64 (loOf t.a.const),.string t.b.ref.head,.string t.b.ref.name,.int .u64 (hiOf t.b.const),.int .u64 (loOf t.b.const),.slice a0 m0 c0,.slice a1 m1 c1] 127∧Bl w (w.alloc (.cells #[.int .i64 k,.string n,.int .i64 t.kind,.string t.a.ref.head,.string t.a.ref.name,.int .u64 (hiOf t.a.const),.int .u64 (loOf t.a.const),.string t.b.ref.head,.string t.b.ref.name,.int .u64 (hiOf t.b.const),.int .u64 (loOf t.b.const),.slice a0 m0 c0,.slice a1 m1 c1] 127))):=⟨Blk.new _ _ _,(Below.refl _ _).alloc (Nat.le_refl _) _⟩
 go_enter Tryz.func206,Tryz.ntmps206
 go_upto_region 1 with fail
 generalize (w.alloc _)=W0 at HB0 ⊢
 have p0:=HB0.out.1.cell 0 (v:=.int .i64 k) rfl
 have p1:=HB0.out.1.cell 1 (v:=.string n) rfl
 have p11:=HB0.out.1.cell 11 (v:=.slice a0 m0 c0) rfl
 have p12:=HB0.out.1.cell 12 (v:=.slice a1 m1 c1) rfl
 have R1:Hid (W0.rangeAt w.heap.size 2 ([.int .i64 t.kind,.string t.a.ref.head,.string t.a.ref.name,.int .u64 (hiOf t.a.const),.int .u64 (loOf t.a.const),.string t.b.ref.head,.string t.b.ref.name,.int .u64 (hiOf t.b.const),.int .u64 (loOf t.b.const)]:List Value)):=blk_part (l:=([.int .i64 k,.string n,.int .i64 t.kind,.string t.a.ref.head,.string t.a.ref.name,.int .u64 (hiOf t.a.const),.int .u64 (loOf t.a.const),.string t.b.ref.head,.string t.b.ref.name,.int .u64 (hiOf t.b.const),.int .u64 (loOf t.b.const),.slice a0 m0 c0,.slice a1 m1 c1]:List Value)) HB0.out.1 2 rfl
 go_wp2_with (refine wpList_load_mid rfl 125 _ rfl w.heap.size 2 rfl ([.int .i64 t.kind,.string t.a.ref.head,.string t.a.ref.name,.int .u64 (hiOf t.a.const),.int .u64 (loOf t.a.const),.string t.b.ref.head,.string t.b.ref.name,.int .u64 (hiOf t.b.const),.int .u64 (loOf t.b.const)]:List Value) _ R1.out Tryz.underlying125 rfl (by kernel_rfl) ?_)
 go_ret
 exact⟨rfl,HB0.out.2⟩
theorem isStage_any (x:Stg)(cs:Array Value)(w:World)(hI:StgIs w x cs):Calls Tryz.prog 206 #[.agg cs] w fun e w'=>e=.returned (.bool (isStg x))∧Below w.heap.size w w':=by
 obtain⟨v0,v1,rfl,_,h0,h1⟩:=(stgIs_iff w x cs).1 hI
 obtain⟨a0,c0,rfl,_⟩:=h0.slice
 obtain⟨a1,c1,rfl,_⟩:=h1.slice
 clear hI h0 h1
 unfold isStg
 generalize x.kind=k
 generalize x.table=n
 generalize x.test=t
 generalize x.thn.length=m0
 generalize x.els.length=m1
 by_cases e1:k=1
 ·subst e1;rw[if_pos rfl];exact isStage_1 a0 a1 c0 c1 t n m0 m1 w
 rw[if_neg e1]
 by_cases e2:k=2
 ·subst e2;rw[if_pos rfl]
  by_cases hn:n=⟨#[]⟩
  ·subst hn;rw[decide_eq_true rfl,Bool.true_and];exact isStage_2y a0 a1 c0 c1 t m0 m1 w
  ·rw[decide_eq_false hn,Bool.false_and];exact isStage_2n a0 a1 c0 c1 t n hn m0 m1 w
 rw[if_neg e2]
 by_cases e3:k=3
 ·subst e3;rw[if_pos rfl]
  by_cases hn:n=⟨#[]⟩
  ·subst hn;rw[decide_eq_true rfl,Bool.true_and];exact isStage_3 a0 a1 c0 c1 t m0 m1 w
  ·rw[decide_eq_false hn,Bool.false_and];exact isStage_3n a0 a1 c0 c1 t n hn m0 m1 w
 rw[if_neg e3]
 exact isStage_not a0 a1 c0 c1 t k e1 e2 e3 n m0 m1 w
def testE (hh:ByteArray→Bool)(W:Rf→Int)(t:Tst):Int:=
 if t.kind=1 then(if hh t.a.ref.head=false then 72 else 0)
 else if(isCst t.a||decide (0<W t.a.ref))=false then 72 else if(isCst t.b||decide (0<W t.b.ref))=false then 72
 else if isCst t.a=true then(if fitsN t.a.const (W t.b.ref)=false then 73 else 0) else if isCst t.b=true then(if fitsN t.b.const (W t.a.ref)=false then 73 else 0)
 else if W t.a.ref=W t.b.ref then 0 else 73
theorem checkTest_any (w:World)(cb wb hb m:Nat)(g:Rf→Option Int)(hns:List ByteArray)(v0 v1 v2 v3 v4 v5 ac:Value)(tb:Nat)(th:ByteArray)(t:Tst)(ht:TstOk t)(hB:Blk w cb (ChkC v0 v1 v2 v3 v4 v5 th (.map (some wb)) (.map (some hb)) ac (.map (some tb))) 110)(hW:MapR w wb m g)(hH:SetT w hb hns):
  Calls Tryz.prog 207 #[.pointer (some ⟨cb,0,none⟩),.agg (TstC t)] w fun e w'=>Below w.heap.size w w'∧Res (testE (hasT hns) (fun r=>(g r).getD 0) t) th e:=by
 obtain⟨k0,⟨k1,k2,hoka⟩,k4,k5,hokb⟩:=ht
 have HRR : Hid (testE (hasT hns) (fun r => (g r).getD 0) t = if t.kind = 1 then (if hasT hns t.a.ref.head = false then 72 else 0)
   else if (isCst t.a || decide (0 < (g t.a.ref).getD 0)) = false then 72 else if (isCst t.b || decide (0 < (g t.b.ref).getD 0)) = false then 72
   else if isCst t.a = true then (if fitsN t.a.const ((g t.b.ref).getD 0) = false then 73 else 0) else if isCst t.b = true then (if fitsN t.b.const ((g t.a.ref).getD 0) = false then 73 else 0)
   else if (g t.a.ref).getD 0 = (g t.b.ref).getD 0 then 0 else 73) := rfl
 generalize testE (hasT hns) (fun r=>(g r).getD 0) t=R at*
 have HA:Hid (Bl w (w.alloc (.cells (TstC t) 125))):=(Below.refl _ _).alloc (Nat.le_refl _) _
 have HX:Hid (Blk (w.alloc (.cells (TstC t) 125)) w.heap.size (TstC t) 125):=Blk.new _ _ _
 have HQ:Hid (Blk (w.alloc (.cells (TstC t) 125)) cb (ChkC v0 v1 v2 v3 v4 v5 th (.map (some wb)) (.map (some hb)) ac (.map (some tb))) 110):=hB.below HA.out
 have HM:Hid (MapR (w.alloc (.cells (TstC t) 125)) wb m g):=hW.below HA.out
 have HH:Hid (SetT (w.alloc (.cells (TstC t) 125)) hb hns):=hH.below HA.out
 clear hB hW hH
 unfold TstC
 go_enter Tryz.func207,Tryz.ntmps207
 go_upto_region 1 with fail
 generalize (w.alloc _)=W at HA HX HQ HM HH ⊢
 obtain⟨xb,hxb⟩:∃ xb,xb=w.heap.size:=⟨_,rfl⟩
 rw[← hxb] at HX ⊢
 clear hxb
 have x0:=HX.out.cell 0 (v:=.int .i64 t.kind) rfl
 have x1:=HX.out.cell 1 (v:=.string t.a.ref.head) rfl
 have x2:=HX.out.cell 2 (v:=.string t.a.ref.name) rfl
 have x5:=HX.out.cell 5 (v:=.string t.b.ref.head) rfl
 have x6:=HX.out.cell 6 (v:=.string t.b.ref.name) rfl
 have CY:Hid (∀ r w,Cs 145 #[.pointer (some ⟨cb,0,none⟩),.bool true,.int .i64 r] w fun e w'=>e=.returned (.tuple #[])∧w'=w):=fun r w=>need_yes cb r w
 have CNo:Hid (∀ r k,Cs 145 #[.pointer (some ⟨cb,0,none⟩),.bool false,.int .i64 r] (W.drewN k) fun e w'=>e=.panicked [pf r th]∧w'=W.drewN k):=fun r k=>need_no cb r th (W.drewN k) (HQ.out.cell 6 rfl)
 have HBd:Hid (∀ k,Bl w (W.drewN k)):=fun k=>⟨HA.out.os,HA.out.tape,HA.out.output,HA.out.size,HA.out.block⟩
 by_cases hk:t.kind=1
 ·have HE0:Hid (R=if hasT hns t.a.ref.head=false then 72 else 0):=by show _=_;rw[HRR.out,if_pos hk]
  have q8:=HQ.out.cell 8 (v:=.map (some hb)) rfl
  have CH:Hid (∀ k,Cs 198 #[.map (some hb),.string t.a.ref.head] (W.drewN k) fun e w'=>e=.returned (.bool (hasT hns t.a.ref.head))∧w'=W.drewN k):=fun k=>has_any (w:=W.drewN k) HH.out t.a.ref.head k1
  rw[hk] at x0
  clear HRR hk
  go_upto_region 2 with fail
  cases hhq:hasT hns t.a.ref.head with
  | false=>
   rw[hhq] at CH
   have HE:Hid (R=72):=by show _=_;rw[HE0.out,if_pos hhq]
   clear HE0 hhq
   refine region_ends_lit (by kernel_rfl) (by kernel_rfl) (by kernel_rfl) rfl ?_
   simp only[swapLast,stand]
   repeat (go_big_quiet_step ((go_at_call 198;exact Calls.quiet_of_same (CH.out _))))
   refine wpQuiet_nil ?_
   intro wq hwq Kq
   obtain⟨kq,hwq⟩:=hwq
   subst hwq
   unfold Oper.wp
   go_simp
   refine(CNo.out _ _).mono ?_
   rintro e w1 ⟨rfl,hw1⟩
   rw[hw1]
   exact⟨rfl,HBd.out _,by rw[HE.out];exact .inr ⟨by decide,rfl⟩⟩
  | true=>
   rw[hhq] at CH
   have HE:Hid (R=0):=by show _=_;rw[HE0.out,if_neg (by rw[hhq];decide)]
   clear HE0 hhq
   go_quiet (first
     | (go_at_call 198; exact Calls.quiet_of_same (CH.out _))
     | (go_at_call 145; exact Calls.quiet_of_same (CY.out _ _)))
   go_wp2
   first|go_end0|refine bodyPost_ret (results_none rfl _ _ _) rfl ?_
   exact⟨HBd.out _,by rw[HE.out];exact .inl ⟨rfl,rfl⟩⟩
 ·have hk':(t.kind==1)=false:=by simpa using hk
  have q7:=HQ.out.cell 7 (v:=.map (some wb)) rfl
  have hL1:∀ k,(Instr.lookup 107 (.map (some wb)) (.agg #[.string t.a.ref.head,.string t.a.ref.name]) false).run Tryz.prog (W.drewN k)=.ok (.int .i64 ((g t.a.ref).getD 0)) (W.drewN k):=fun k=>MapR.look1 (w:=W.drewN k) HM.out t.a.ref k1 k2
  have hL2:∀ k,(Instr.lookup 107 (.map (some wb)) (.agg #[.string t.b.ref.head,.string t.b.ref.name]) false).run Tryz.prog (W.drewN k)=.ok (.int .i64 ((g t.b.ref).getD 0)) (W.drewN k):=fun k=>MapR.look1 (w:=W.drewN k) HM.out t.b.ref k4 k5
  have HRR2 : Hid (R = if (isCst t.a || decide (0 < (g t.a.ref).getD 0)) = false then 72 else if (isCst t.b || decide (0 < (g t.b.ref).getD 0)) = false then 72
    else if isCst t.a = true then (if fitsN t.a.const ((g t.b.ref).getD 0) = false then 73 else 0) else if isCst t.b = true then (if fitsN t.b.const ((g t.a.ref).getD 0) = false then 73 else 0)
    else if (g t.a.ref).getD 0 = (g t.b.ref).getD 0 then 0 else 73) := by show _ = _; rw [HRR.out, if_neg hk]
  generalize (g t.a.ref).getD 0=wa at*
  generalize (g t.b.ref).getD 0=wbv at*
  clear HRR hk CNo
  go_upto_region 3 with fail
  go_quiet (fail)
  have HX3:Hid (Blk (W.drewN nq) xb (TstC t) 125):=HX.out
  have HQ3:Hid (Blk (W.drewN nq) cb (ChkC v0 v1 v2 v3 v4 v5 th (.map (some wb)) (.map (some hb)) ac (.map (some tb))) 110):=HQ.out
  have HB3:Hid (Bl w (W.drewN nq)):=HBd.out nq
  generalize W.drewN nq=W3 at HX3 HQ3 HB3 ⊢
  clear HX HQ HM HH HA HBd x0 x1 x2 x5 x6 q7 hL1 hL2 CY
  have y0:=HX3.out.cell 1 (v:=.string t.a.ref.head) rfl
  have y1:=HX3.out.cell 2 (v:=.string t.a.ref.name) rfl
  have y2:=HX3.out.cell 3 (v:=.int .u64 (hiOf t.a.const)) rfl
  have y3:=HX3.out.cell 4 (v:=.int .u64 (loOf t.a.const)) rfl
  have CC:Hid (Cs 230 #[.agg (OpdC t.a)] W3 fun e w'=>e=.returned (.bool (isCst t.a))∧Bl W3 w'):=isConst_any t.a W3
  go_upto_region 4 with fail
  go_cut [] from 36 to 44 (fun wx=>Hid (Blk wx xb #[.int .i64 t.kind,.string t.a.ref.head,.string t.a.ref.name,.int .u64 (hiOf t.a.const),.int .u64 (loOf t.a.const),.string t.b.ref.head,.string t.b.ref.name,.int .u64 (hiOf t.b.const),.int .u64 (loOf t.b.const)] 125∧Blk wx cb (ChkC v0 v1 v2 v3 v4 v5 th (.map (some wb)) (.map (some hb)) ac (.map (some tb))) 110∧Below w.heap.size w wx∧(isCst t.a||decide (0<wa))=true))
  case first=>
   generalize hic:isCst t.a=ica at*
   go_wp2_with fail
   refine CC.out.mono ?_
   rintro e W4 ⟨rfl,hb4⟩
   have HX4:=hblk HX3 hb4
   have HQ4:=hblk HQ3 hb4
   have HB4:Hid (Bl w W4):=bst HB3.out hb4 (Nat.le_refl _)
   have CN:Hid (∀ b r,Cs 145 #[.pointer (some ⟨cb,0,none⟩),.bool b,.int .i64 r] W4 fun e w'=>w'=W4∧((b=true∧e=.returned (.tuple #[]))∨(b=false∧e=.panicked [pf r th]))):=need_two (HQ4.out.cell 6 rfl)
   clear hb4 CC y0 y1 y2 y3
   cases ica with
   | true=>
    go_wp2_with fail
    refine(CN.out _ _).mono ?_
    rintro e w2 ⟨hw2,hh⟩
    obtain rfl:=Eq.symm hw2
    rcases hh with⟨hq,rfl⟩|⟨hq,rfl⟩
    ·go_wp2_with fail
     go_meet
     exact⟨HX4.out,HQ4.out,HB4.out,rfl⟩
    ·cases hq
   | false=>
    go_wp2_with fail
    refine(CN.out _ _).mono ?_
    rintro e w2 ⟨hw2,hh⟩
    obtain rfl:=Eq.symm hw2
    rcases hh with⟨hq,rfl⟩|⟨hq,rfl⟩
    ·have HZ:Hid ((false||decide (0<wa))=true):=by show _=_;simpa using hq
     clear hq
     go_wp2_with fail
     go_meet
     exact⟨HX4.out,HQ4.out,HB4.out,HZ.out⟩
    ·have HE:Hid (R=72):=by show _=_;rw[HRR2.out,if_pos (by simpa using hq)]
     clear hq
     go_wp2
     exact⟨rfl,HB4.out,by rw[HE.out];exact .inr ⟨by decide,rfl⟩⟩
  case rest=>
  have HX4:Hid (Blk wc xb (TstC t) 125):=hcut.out.1
  have HQ4:Hid (Blk wc cb (ChkC v0 v1 v2 v3 v4 v5 th (.map (some wb)) (.map (some hb)) ac (.map (some tb))) 110):=hcut.out.2.1
  have HB4:Hid (Bl w wc):=hcut.out.2.2.1
  have hza:=hcut.out.2.2.2
  have HRR3:Hid (R=if(isCst t.b||decide (0<wbv))=false then 72 else if isCst t.a=true then(if fitsN t.a.const wbv=false then 73 else 0) else if isCst t.b=true then(if fitsN t.b.const wa=false then 73 else 0) else if wa=wbv then 0 else 73):=by show _=_;rw[HRR2.out,if_neg (by rw[hza];decide)]
  clear HRR2 hza hcut
  generalize wc=W4 at HX4 HQ4 HB4 ⊢
  clear HX3 HQ3 HB3 CC y0 y1 y2 y3
  have y0:=HX4.out.cell 5 (v:=.string t.b.ref.head) rfl
  have y1:=HX4.out.cell 6 (v:=.string t.b.ref.name) rfl
  have y2:=HX4.out.cell 7 (v:=.int .u64 (hiOf t.b.const)) rfl
  have y3:=HX4.out.cell 8 (v:=.int .u64 (loOf t.b.const)) rfl
  have CC:Hid (Cs 230 #[.agg (OpdC t.b)] W4 fun e w'=>e=.returned (.bool (isCst t.b))∧Bl W4 w'):=isConst_any t.b W4
  go_upto_region 5 with fail
  go_cut [] from 45 to 53 (fun wx=>Hid (Blk wx xb #[.int .i64 t.kind,.string t.a.ref.head,.string t.a.ref.name,.int .u64 (hiOf t.a.const),.int .u64 (loOf t.a.const),.string t.b.ref.head,.string t.b.ref.name,.int .u64 (hiOf t.b.const),.int .u64 (loOf t.b.const)] 125∧Blk wx cb (ChkC v0 v1 v2 v3 v4 v5 th (.map (some wb)) (.map (some hb)) ac (.map (some tb))) 110∧Below w.heap.size w wx∧(isCst t.b||decide (0<wbv))=true))
  case first=>
   generalize hic:isCst t.b=icb at*
   go_wp2_with fail
   refine CC.out.mono ?_
   rintro e W5 ⟨rfl,hb5⟩
   have HX5:=hblk HX4 hb5
   have HQ5:=hblk HQ4 hb5
   have HB5:Hid (Bl w W5):=bst HB4.out hb5 (Nat.le_refl _)
   have CN:Hid (∀ b r,Cs 145 #[.pointer (some ⟨cb,0,none⟩),.bool b,.int .i64 r] W5 fun e w'=>w'=W5∧((b=true∧e=.returned (.tuple #[]))∨(b=false∧e=.panicked [pf r th]))):=need_two (HQ5.out.cell 6 rfl)
   clear hb5 CC y0 y1 y2 y3
   cases icb with
   | true=>
    go_wp2_with fail
    refine(CN.out _ _).mono ?_
    rintro e w2 ⟨hw2,hh⟩
    obtain rfl:=Eq.symm hw2
    rcases hh with⟨hq,rfl⟩|⟨hq,rfl⟩
    ·go_wp2_with fail
     go_meet
     exact⟨HX5.out,HQ5.out,HB5.out,rfl⟩
    ·cases hq
   | false=>
    go_wp2_with fail
    refine(CN.out _ _).mono ?_
    rintro e w2 ⟨hw2,hh⟩
    obtain rfl:=Eq.symm hw2
    rcases hh with⟨hq,rfl⟩|⟨hq,rfl⟩
    ·have HZ:Hid ((false||decide (0<wbv))=true):=by show _=_;simpa using hq
     clear hq
     go_wp2_with fail
     go_meet
     exact⟨HX5.out,HQ5.out,HB5.out,HZ.out⟩
    ·have HE:Hid (R=72):=by show _=_;rw[HRR3.out,if_pos (by simpa using hq)]
     clear hq
     go_wp2
     exact⟨rfl,HB5.out,by rw[HE.out];exact .inr ⟨by decide,rfl⟩⟩
  case rest=>
  have HX5:Hid (Blk wc xb (TstC t) 125):=hcut.out.1
  have HQ5:Hid (Blk wc cb (ChkC v0 v1 v2 v3 v4 v5 th (.map (some wb)) (.map (some hb)) ac (.map (some tb))) 110):=hcut.out.2.1
  have HB5:Hid (Bl w wc):=hcut.out.2.2.1
  have hzb:=hcut.out.2.2.2
  have HRR4:Hid (R=if isCst t.a=true then(if fitsN t.a.const wbv=false then 73 else 0) else if isCst t.b=true then(if fitsN t.b.const wa=false then 73 else 0) else if wa=wbv then 0 else 73):=by show _=_;rw[HRR3.out,if_neg (by rw[hzb];decide)]
  clear HRR3 hzb hcut
  generalize wc=W5 at HX5 HQ5 HB5 ⊢
  clear HX4 HQ4 HB4 CC y0 y1 y2 y3
  have y0:=HX5.out.cell 1 (v:=.string t.a.ref.head) rfl
  have y1:=HX5.out.cell 2 (v:=.string t.a.ref.name) rfl
  have y2:=HX5.out.cell 3 (v:=.int .u64 (hiOf t.a.const)) rfl
  have y3:=HX5.out.cell 4 (v:=.int .u64 (loOf t.a.const)) rfl
  have CC:Hid (Cs 230 #[.agg (OpdC t.a)] W5 fun e w'=>e=.returned (.bool (isCst t.a))∧Bl W5 w'):=isConst_any t.a W5
  generalize isCst t.a=ica at*
  go_wp2_with fail
  refine CC.out.mono ?_
  rintro e W6 ⟨rfl,hb6⟩
  have HX6:=hblk HX5 hb6
  have HQ6:=hblk HQ5 hb6
  have HB6:Hid (Bl w W6):=bst HB5.out hb6 (Nat.le_refl _)
  clear hb6 CC y0 y1 y2 y3 HX5 HQ5 HB5
  cases ica with
  | true=>
   have HRR5:Hid (R=if fitsN t.a.const wbv=false then 73 else 0):=by show _=_;rw[HRR4.out];rfl
   clear HRR4
   have CF:Hid (Cs 199 #[.agg #[.int .u64 (hiOf t.a.const),.int .u64 (loOf t.a.const)],.int .i64 wbv] W6 fun e w'=>e=.returned (.bool (fitsN t.a.const wbv))∧Bl W6 w'):=fits_any t.a.const hoka wbv W6
   have z2:=HX6.out.cell 3 (v:=.int .u64 (hiOf t.a.const)) rfl
   have z3:=HX6.out.cell 4 (v:=.int .u64 (loOf t.a.const)) rfl
   generalize fitsN t.a.const wbv=fb at*
   go_wp2_with fail
   refine CF.out.mono ?_
   rintro e W7 ⟨rfl,hbx⟩
   have HQ7:=hblk HQ6 hbx
   have HB7:Hid (Bl w W7):=bst HB6.out hbx (Nat.le_refl _)
   have CN:Hid (∀ b r,Cs 145 #[.pointer (some ⟨cb,0,none⟩),.bool b,.int .i64 r] W7 fun e w'=>w'=W7∧((b=true∧e=.returned (.tuple #[]))∨(b=false∧e=.panicked [pf r th]))):=need_two (HQ7.out.cell 6 rfl)
   clear hbx CF z2 z3
   go_wp2_with fail
   refine(CN.out _ _).mono ?_
   rintro e w2 ⟨hw2,hh⟩
   obtain rfl:=Eq.symm hw2
   rcases hh with⟨hq,rfl⟩|⟨hq,rfl⟩
   case inr=>
    have HE:Hid (R=73):=by show _=_;rw[HRR5.out,if_pos hq]
    clear hq
    go_wp2
    exact⟨rfl,HB7.out,by rw[HE.out];exact .inr ⟨by decide,rfl⟩⟩
   case inl=>
    have HE:Hid (R=0):=by show _=_;rw[HRR5.out,if_neg (by rw[hq];decide)]
    clear hq
    go_wp2
    first|go_end0|refine bodyPost_ret (results_none rfl _ _ _) rfl ?_
    exact⟨HB7.out,by rw[HE.out];exact .inl ⟨rfl,rfl⟩⟩
  | false=>
   have HRR5:Hid (R=if isCst t.b=true then(if fitsN t.b.const wa=false then 73 else 0) else if wa=wbv then 0 else 73):=by show _=_;rw[HRR4.out];rfl
   clear HRR4
   have y0:=HX6.out.cell 5 (v:=.string t.b.ref.head) rfl
   have y1:=HX6.out.cell 6 (v:=.string t.b.ref.name) rfl
   have y2:=HX6.out.cell 7 (v:=.int .u64 (hiOf t.b.const)) rfl
   have y3:=HX6.out.cell 8 (v:=.int .u64 (loOf t.b.const)) rfl
   have CC:Hid (Cs 230 #[.agg (OpdC t.b)] W6 fun e w'=>e=.returned (.bool (isCst t.b))∧Bl W6 w'):=isConst_any t.b W6
   generalize isCst t.b=icb at*
   go_wp2_with fail
   refine CC.out.mono ?_
   rintro e W7 ⟨rfl,hb7⟩
   have HX7:=hblk HX6 hb7
   have HQ7:=hblk HQ6 hb7
   have HB7:Hid (Bl w W7):=bst HB6.out hb7 (Nat.le_refl _)
   clear hb7 CC y0 y1 y2 y3 HX6 HQ6 HB6
   cases icb with
   | true=>
    have HRR6:Hid (R=if fitsN t.b.const wa=false then 73 else 0):=by show _=_;rw[HRR5.out];rfl
    clear HRR5
    have CF:Hid (Cs 199 #[.agg #[.int .u64 (hiOf t.b.const),.int .u64 (loOf t.b.const)],.int .i64 wa] W7 fun e w'=>e=.returned (.bool (fitsN t.b.const wa))∧Bl W7 w'):=fits_any t.b.const hokb wa W7
    have z2:=HX7.out.cell 7 (v:=.int .u64 (hiOf t.b.const)) rfl
    have z3:=HX7.out.cell 8 (v:=.int .u64 (loOf t.b.const)) rfl
    generalize fitsN t.b.const wa=fb at*
    go_wp2_with fail
    refine CF.out.mono ?_
    rintro e W8 ⟨rfl,hbx⟩
    have HQ8:=hblk HQ7 hbx
    have HB8:Hid (Bl w W8):=bst HB7.out hbx (Nat.le_refl _)
    have CN:Hid (∀ b r,Cs 145 #[.pointer (some ⟨cb,0,none⟩),.bool b,.int .i64 r] W8 fun e w'=>w'=W8∧((b=true∧e=.returned (.tuple #[]))∨(b=false∧e=.panicked [pf r th]))):=need_two (HQ8.out.cell 6 rfl)
    clear hbx CF z2 z3
    go_wp2_with fail
    refine(CN.out _ _).mono ?_
    rintro e w2 ⟨hw2,hh⟩
    obtain rfl:=Eq.symm hw2
    rcases hh with⟨hq,rfl⟩|⟨hq,rfl⟩
    case inr=>
     have HE:Hid (R=73):=by show _=_;rw[HRR6.out,if_pos hq]
     clear hq
     go_wp2
     exact⟨rfl,HB8.out,by rw[HE.out];exact .inr ⟨by decide,rfl⟩⟩
    case inl=>
     have HE:Hid (R=0):=by show _=_;rw[HRR6.out,if_neg (by rw[hq];decide)]
     clear hq
     go_wp2
     first|go_end0|refine bodyPost_ret (results_none rfl _ _ _) rfl ?_
     exact⟨HB8.out,by rw[HE.out];exact .inl ⟨rfl,rfl⟩⟩
   | false=>
    have HRR6:Hid (R=if wa=wbv then 0 else 73):=by show _=_;rw[HRR5.out];rfl
    clear HRR5
    have CN:Hid (∀ b r,Cs 145 #[.pointer (some ⟨cb,0,none⟩),.bool b,.int .i64 r] W7 fun e w'=>w'=W7∧((b=true∧e=.returned (.tuple #[]))∨(b=false∧e=.panicked [pf r th]))):=need_two (HQ7.out.cell 6 rfl)
    go_wp2_with fail
    refine(CN.out _ _).mono ?_
    rintro e w2 ⟨hw2,hh⟩
    obtain rfl:=Eq.symm hw2
    rcases hh with⟨hq,rfl⟩|⟨hq,rfl⟩
    case inr=>
     have HE:Hid (R=73):=by show _=_;rw[HRR6.out,if_neg (by simpa using hq)]
     clear hq
     go_wp2
     exact⟨rfl,HB7.out,by rw[HE.out];exact .inr ⟨by decide,rfl⟩⟩
    case inl=>
     have HE:Hid (R=0):=by show _=_;rw[HRR6.out,if_pos (by simpa using hq)]
     clear hq
     go_wp2
     first|go_end0|refine bodyPost_ret (results_none rfl _ _ _) rfl ?_
     exact⟨HB7.out,by rw[HE.out];exact .inl ⟨rfl,rfl⟩⟩
end Go.Proofs.YtmbpclknhkbbkaaGreat
