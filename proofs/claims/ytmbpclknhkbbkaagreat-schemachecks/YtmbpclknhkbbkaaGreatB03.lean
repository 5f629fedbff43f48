/- Package schema: what goes into a place. -/
import Derived.Test.YtmbpclknhkbbkaaGreatB24
set_option linter.unusedSimpArgs false
set_option linter.unusedVariables false
set_option maxHeartbeats 1000000
set_option maxRecDepth 100000
namespace Go.Proofs.YtmbpclknhkbbkaaGreat
open Go.RowKit
def goesB (n:Int)(o:Opd)(m:Int):Bool:=if isCst o then fitsN o.const n else decide (m=n)
theorem goesInto_any (n:Int)(o:Opd)(m:Int)(ok:Is128 o.const)(w:World):Calls Tryz.prog 231 #[.int .i64 n,.agg (OpdC o),.int .i64 m] w fun e w'=>e=.returned (.bool (goesB n o m))∧Below w.heap.size w w':=by
 have C:Hid (∀ w,Cs 230 #[.agg (OpdC o)] w fun e w'=>e=.returned (.bool (isCst o))∧Bl w w'):=fun w=>isConst_any o w
 have CF:Hid (∀ w,Cs 199 #[.agg #[.int .u64 (hiOf o.const),.int .u64 (loOf o.const)],.int .i64 n] w fun e w'=>e=.returned (.bool (fitsN o.const n))∧Bl w w'):=fun w=>fits_any o.const ok n w
 have HE:Hid (goesB n o m=if isCst o then fitsN o.const n else decide (m=n)):=rfl
 have HQ:Hid ((m==n)=decide (m=n)):=by
  show(m==n)=decide (m=n)
  rfl
 generalize goesB n o m=r at*
 generalize fitsN o.const n=f at*
 generalize isCst o=c at*
 unfold OpdC
 have HB0:Hid (Bl w (w.alloc (.cells (OpdC o) 123))):=(Below.refl _ _).alloc (Nat.le_refl _) _
 have HK:Hid (∀ V,Below (w.alloc (.cells (OpdC o) 123)).heap.size (w.alloc (.cells (OpdC o) 123)) V→V.cell? ⟨w.heap.size,2,none⟩=some (.int .u64 (hiOf o.const))∧V.cell? ⟨w.heap.size,3,none⟩=some (.int .u64 (loOf o.const))∧Hid (Bl w V)):=fun V hb=>
  ⟨((Blk.new w _ 123).below hb).cell 2 rfl,((Blk.new w _ 123).below hb).cell 3 rfl,bst HB0.out hb (Nat.le_refl _)⟩
 go_enter Tryz.func231,Tryz.ntmps231
 go_wp2_with fail
 refine(C.out _).mono ?_
 rintro e w1 ⟨rfl,hb⟩
 obtain⟨q2,q3,HB1⟩:=HK.out _ hb
 clear hb HK HB0
 cases c
 ·go_wp2
  go_ret
  refine⟨?_,HB1.out⟩
  rw[HE.out]
  simp[← HQ.out]
 ·go_wp2_with fail
  refine(CF.out _).mono ?_
  rintro e w2 ⟨rfl,hb⟩
  have HB2:Hid (Bl w w2):=bst HB1.out hb (Nat.le_refl _)
  clear hb
  go_wp2
  go_ret
  refine⟨?_,HB2.out⟩
  rw[HE.out]
  rfl
def isTst (t:Tst):Bool:=
 if t.kind=1 then decide (t=⟨1,⟨⟨t.a.ref.head,⟨#[]⟩⟩,0⟩,zeroO⟩)
 else if t.kind=2∨t.kind=3∨t.kind=4∨t.kind=5 then isOpd t.a&&isOpd t.b else false
theorem blk_over {b:Nat}{t:TypeId}(vs:List Value):∀ {W:World}{pre old:List Value},old.length=vs.length→Blk W b ⟨pre++old⟩ t→Blk (W.setCells b pre.length vs) b ⟨pre++vs⟩ t:=by
 induction vs with
 | nil=>intro W pre old hl h;rw[List.eq_nil_of_length_eq_zero hl] at h;exact h
 | cons v vs ih=>
  intro W pre old hl h
  match old,hl with
  | x :: old,hl=>
   rw[World.setCells]
   have k:=h.set pre.length v
   have e:(⟨pre++x :: old⟩:Array Value).setIfInBounds pre.length v=⟨(pre++[v])++old⟩:=by simp
   rw[e] at k
   have:=ih (pre:=pre++[v]) (old:=old) (by simpa using hl) k
   simpa using this
theorem blk_nine {W:World}{b:Nat}{t:TypeId}{cs:Array Value}(h:Blk W b cs t)(v0 v1 v2 v3 v4 v5 v6 v7 v8:Value)(hs:cs.size=9):Blk (W.setCells b 0 [v0,v1,v2,v3,v4,v5,v6,v7,v8]) b #[v0,v1,v2,v3,v4,v5,v6,v7,v8] t:=by
 obtain⟨cl⟩:=cs
 exact blk_over [v0,v1,v2,v3,v4,v5,v6,v7,v8] (pre:=[]) (old:=cl) hs h
theorem nine_all (a:Opd):([.int .i64 1,.string ⟨#[]⟩,.string ⟨#[]⟩,.int .u64 0,.int .u64 0,.string ⟨#[]⟩,.string ⟨#[]⟩,.int .u64 0,.int .u64 0]:List Value).toArray.all (·.oneCell')=true:=by simp[Value.oneCell']
theorem isTest_one (a b:Opd)(w:World):Calls Tryz.prog 232 #[.agg #[.int .i64 1,.string a.ref.head,.string a.ref.name,.int .u64 (hiOf a.const),.int .u64 (loOf a.const),.string b.ref.head,.string b.ref.name,.int .u64 (hiOf b.const),.int .u64 (loOf b.const)]] w fun e w'=>e=.returned (.bool (decide ((⟨1,a,b⟩:Tst)=⟨1,⟨⟨a.ref.head,⟨#[]⟩⟩,0⟩,zeroO⟩)))∧Below w.heap.size w w':=by
 have hE:∀ u:World,(binOp .eql 125 (.agg #[.int .i64 1,.string a.ref.head,.string a.ref.name,.int .u64 (hiOf a.const),.int .u64 (loOf a.const),.string b.ref.head,.string b.ref.name,.int .u64 (hiOf b.const),.int .u64 (loOf b.const)]) (.agg #[.int .i64 1,.string a.ref.head,.string ⟨#[]⟩,.int .u64 0,.int .u64 0,.string ⟨#[]⟩,.string ⟨#[]⟩,.int .u64 0,.int .u64 0])).run Tryz.prog u=.ok (.bool (decide ((⟨1,a,b⟩:Tst)=⟨1,⟨⟨a.ref.head,⟨#[]⟩⟩,0⟩,zeroO⟩))) u:=fun u=>by
  have:=run_eq125 ⟨1,a,b⟩ ⟨1,⟨⟨a.ref.head,⟨#[]⟩⟩,0⟩,zeroO⟩ u
  simpa[TstC,hiOf,loOf] using this
 generalize decide ((⟨1,a,b⟩:Tst)=⟨1,⟨⟨a.ref.head,⟨#[]⟩⟩,0⟩,zeroO⟩)=r at*
 have HB0:Hid (Blk (w.alloc (.cells #[.int .i64 1,.string a.ref.head,.string a.ref.name,.int .u64 (hiOf a.const),.int .u64 (loOf a.const),.string b.ref.head,.string b.ref.name,.int .u64 (hiOf b.const),.int .u64 (loOf b.const)] 125)) w.heap.size #[.int .i64 1,.string a.ref.head,.string a.ref.name,.int .u64 (hiOf a.const),.int .u64 (loOf a.const),.string b.ref.head,.string b.ref.name,.int .u64 (hiOf b.const),.int .u64 (loOf b.const)] 125∧Bl w (w.alloc (.cells #[.int .i64 1,.string a.ref.head,.string a.ref.name,.int .u64 (hiOf a.const),.int .u64 (loOf a.const),.string b.ref.head,.string b.ref.name,.int .u64 (hiOf b.const),.int .u64 (loOf b.const)] 125))):=⟨Blk.new _ _ _,(Below.refl _ _).alloc (Nat.le_refl _) _⟩
 go_enter Tryz.func232,Tryz.ntmps232
 go_upto_region 3 with fail
 generalize (w.alloc _)=W0 at HB0 ⊢
 have HN:Hid (Blk (W0.alloc (.cells #[.int .i64 0,.string ⟨#[]⟩,.string ⟨#[]⟩,.int .u64 0,.int .u64 0,.string ⟨#[]⟩,.string ⟨#[]⟩,.int .u64 0,.int .u64 0] 125)) W0.heap.size #[.int .i64 0,.string ⟨#[]⟩,.string ⟨#[]⟩,.int .u64 0,.int .u64 0,.string ⟨#[]⟩,.string ⟨#[]⟩,.int .u64 0,.int .u64 0] 125):=Blk.new _ _ _
 have TH:Hid ((W0.alloc (.cells #[.int .i64 0,.string ⟨#[]⟩,.string ⟨#[]⟩,.int .u64 0,.int .u64 0,.string ⟨#[]⟩,.string ⟨#[]⟩,.int .u64 0,.int .u64 0] 125)).there W0.heap.size 0 ([.int .i64 1,.string ⟨#[]⟩,.string ⟨#[]⟩,.int .u64 0,.int .u64 0,.string ⟨#[]⟩,.string ⟨#[]⟩,.int .u64 0,.int .u64 0]:List Value).toArray.size):=blk_there HN.out (by simp)
 have HB1:Hid (Blk ((W0.alloc (.cells #[.int .i64 0,.string ⟨#[]⟩,.string ⟨#[]⟩,.int .u64 0,.int .u64 0,.string ⟨#[]⟩,.string ⟨#[]⟩,.int .u64 0,.int .u64 0] 125)).setCells W0.heap.size 0 ([.int .i64 1,.string ⟨#[]⟩,.string ⟨#[]⟩,.int .u64 0,.int .u64 0,.string ⟨#[]⟩,.string ⟨#[]⟩,.int .u64 0,.int .u64 0]:List Value)) w.heap.size #[.int .i64 1,.string a.ref.head,.string a.ref.name,.int .u64 (hiOf a.const),.int .u64 (loOf a.const),.string b.ref.head,.string b.ref.name,.int .u64 (hiOf b.const),.int .u64 (loOf b.const)] 125∧Blk ((W0.alloc (.cells #[.int .i64 0,.string ⟨#[]⟩,.string ⟨#[]⟩,.int .u64 0,.int .u64 0,.string ⟨#[]⟩,.string ⟨#[]⟩,.int .u64 0,.int .u64 0] 125)).setCells W0.heap.size 0 ([.int .i64 1,.string ⟨#[]⟩,.string ⟨#[]⟩,.int .u64 0,.int .u64 0,.string ⟨#[]⟩,.string ⟨#[]⟩,.int .u64 0,.int .u64 0]:List Value)) W0.heap.size #[.int .i64 1,.string ⟨#[]⟩,.string ⟨#[]⟩,.int .u64 0,.int .u64 0,.string ⟨#[]⟩,.string ⟨#[]⟩,.int .u64 0,.int .u64 0] 125∧Below w.heap.size w ((W0.alloc (.cells #[.int .i64 0,.string ⟨#[]⟩,.string ⟨#[]⟩,.int .u64 0,.int .u64 0,.string ⟨#[]⟩,.string ⟨#[]⟩,.int .u64 0,.int .u64 0] 125)).setCells W0.heap.size 0 ([.int .i64 1,.string ⟨#[]⟩,.string ⟨#[]⟩,.int .u64 0,.int .u64 0,.string ⟨#[]⟩,.string ⟨#[]⟩,.int .u64 0,.int .u64 0]:List Value))):=
  ⟨HB0.out.1.below (below_setCells ((Below.refl _ _).alloc (Nat.le_refl _) _) (Nat.le_refl _) _ _),blk_nine HN.out _ _ _ _ _ _ _ _ _ (by simp),below_setCells (HB0.out.2.alloc HB0.out.2.size _) HB0.out.2.size _ _⟩
 have on:=nine_all a
 have ON:Hid (([.int .i64 1,.string ⟨#[]⟩,.string ⟨#[]⟩,.int .u64 0,.int .u64 0,.string ⟨#[]⟩,.string ⟨#[]⟩,.int .u64 0,.int .u64 0]:List Value).toArray.all (·.oneCell')=true):=on
 have hz:(Tryz.prog.info? 125).map (·.size)=some ([.int .i64 1,.string ⟨#[]⟩,.string ⟨#[]⟩,.int .u64 0,.int .u64 0,.string ⟨#[]⟩,.string ⟨#[]⟩,.int .u64 0,.int .u64 0]:List Value).length:=by kernel_rfl
 clear on HN
 go_upto_region 4 with(refine wpList_store_mid rfl 125 _ _ rfl W0.heap.size 0 ([.int .i64 1,.string ⟨#[]⟩,.string ⟨#[]⟩,.int .u64 0,.int .u64 0,.string ⟨#[]⟩,.string ⟨#[]⟩,.int .u64 0,.int .u64 0]:List Value).toArray rfl rfl TH.out (by rw[List.size_toArray];exact hz) ON.out ?_)
 generalize ((W0.alloc (.cells #[.int .i64 0,.string ⟨#[]⟩,.string ⟨#[]⟩,.int .u64 0,.int .u64 0,.string ⟨#[]⟩,.string ⟨#[]⟩,.int .u64 0,.int .u64 0] 125)).setCells W0.heap.size 0 ([.int .i64 1,.string ⟨#[]⟩,.string ⟨#[]⟩,.int .u64 0,.int .u64 0,.string ⟨#[]⟩,.string ⟨#[]⟩,.int .u64 0,.int .u64 0]:List Value))=W1 at HB1 ⊢
 clear TH ON hz
 have p1:=HB1.out.1.cell 1 (v:=.string a.ref.head) rfl
 have q1:=HB1.out.2.1.cell 1 (v:=.string ⟨#[]⟩) rfl
 have f1:=HB1.out.2.1.frozen 1
 have hlt:w.heap.size<W0.heap.size:=HB0.out.1.lt
 have HB2:Hid (Blk (W1.setCell ⟨W0.heap.size,1,none⟩ (.string a.ref.head)) w.heap.size #[.int .i64 1,.string a.ref.head,.string a.ref.name,.int .u64 (hiOf a.const),.int .u64 (loOf a.const),.string b.ref.head,.string b.ref.name,.int .u64 (hiOf b.const),.int .u64 (loOf b.const)] 125∧Blk (W1.setCell ⟨W0.heap.size,1,none⟩ (.string a.ref.head)) W0.heap.size #[.int .i64 1,.string a.ref.head,.string ⟨#[]⟩,.int .u64 0,.int .u64 0,.string ⟨#[]⟩,.string ⟨#[]⟩,.int .u64 0,.int .u64 0] 125∧Below w.heap.size w (W1.setCell ⟨W0.heap.size,1,none⟩ (.string a.ref.head))):=
  ⟨HB1.out.1.kept (S:=fun k=>k=W0.heap.size) (Kept.set (S:=fun k=>k=W0.heap.size) (p:=⟨W0.heap.size,1,none⟩) (Kept.refl _ _) rfl _) (by omega),HB1.out.2.1.set 1 _,HB1.out.2.2.setCell (by show w.heap.size≤W0.heap.size;omega) _⟩
 go_upto_region 5 with fail
 generalize (W1.setCell ⟨W0.heap.size,1,none⟩ (.string a.ref.head))=W2 at HB2 ⊢
 clear p1 q1 f1 HB1 HB0
 have R1:Hid (W2.rangeAt w.heap.size 0 ([.int .i64 1,.string a.ref.head,.string a.ref.name,.int .u64 (hiOf a.const),.int .u64 (loOf a.const),.string b.ref.head,.string b.ref.name,.int .u64 (hiOf b.const),.int .u64 (loOf b.const)]:List Value)):=blk_range HB2.out.1
 have R2:Hid (W2.rangeAt W0.heap.size 0 ([.int .i64 1,.string a.ref.head,.string ⟨#[]⟩,.int .u64 0,.int .u64 0,.string ⟨#[]⟩,.string ⟨#[]⟩,.int .u64 0,.int .u64 0]:List Value)):=blk_range HB2.out.2.1
 go_wp2_with (first|(refine wpList_load_mid rfl 125 _ rfl w.heap.size 0 rfl ([.int .i64 1,.string a.ref.head,.string a.ref.name,.int .u64 (hiOf a.const),.int .u64 (loOf a.const),.string b.ref.head,.string b.ref.name,.int .u64 (hiOf b.const),.int .u64 (loOf b.const)]:List Value) _ R1.out Tryz.underlying125 rfl (by kernel_rfl) ?_)|(refine wpList_load_mid rfl 125 _ rfl W0.heap.size 0 rfl ([.int .i64 1,.string a.ref.head,.string ⟨#[]⟩,.int .u64 0,.int .u64 0,.string ⟨#[]⟩,.string ⟨#[]⟩,.int .u64 0,.int .u64 0]:List Value) _ R2.out Tryz.underlying125 rfl (by kernel_rfl) ?_))
 go_ret
 exact⟨rfl,HB2.out.2.2⟩
theorem isTest_2 (a b:Opd)(w:World):Calls Tryz.prog 232 #[.agg #[.int .i64 2,.string a.ref.head,.string a.ref.name,.int .u64 (hiOf a.const),.int .u64 (loOf a.const),.string b.ref.head,.string b.ref.name,.int .u64 (hiOf b.const),.int .u64 (loOf b.const)]] w fun e w'=>e=.returned (.bool (isOpd a&&isOpd b))∧Below w.heap.size w w':=by
 have CA:Hid (∀ w,Cs 228 #[.agg (OpdC a)] w fun e w'=>e=.returned (.bool (isOpd a))∧Bl w w'):=fun w=>isOperand_any a w
 have CB:Hid (∀ w,Cs 228 #[.agg (OpdC b)] w fun e w'=>e=.returned (.bool (isOpd b))∧Bl w w'):=fun w=>isOperand_any b w
 generalize isOpd a=ra at*
 generalize isOpd b=rb at*
 have HB0:Hid (Blk (w.alloc (.cells #[.int .i64 2,.string a.ref.head,.string a.ref.name,.int .u64 (hiOf a.const),.int .u64 (loOf a.const),.string b.ref.head,.string b.ref.name,.int .u64 (hiOf b.const),.int .u64 (loOf b.const)] 125)) w.heap.size #[.int .i64 2,.string a.ref.head,.string a.ref.name,.int .u64 (hiOf a.const),.int .u64 (loOf a.const),.string b.ref.head,.string b.ref.name,.int .u64 (hiOf b.const),.int .u64 (loOf b.const)] 125∧Bl w (w.alloc (.cells #[.int .i64 2,.string a.ref.head,.string a.ref.name,.int .u64 (hiOf a.const),.int .u64 (loOf a.const),.string b.ref.head,.string b.ref.name,.int .u64 (hiOf b.const),.int .u64 (loOf b.const)] 125))):=⟨Blk.new _ _ _,(Below.refl _ _).alloc (Nat.le_refl _) _⟩
 go_enter Tryz.func232,Tryz.ntmps232
 go_upto_region 10 with fail
 generalize (w.alloc _)=W0 at HB0 ⊢
 have p1:=HB0.out.1.cell 1 (v:=.string a.ref.head) rfl
 have p2:=HB0.out.1.cell 2 (v:=.string a.ref.name) rfl
 have p3:=HB0.out.1.cell 3 (v:=.int .u64 (hiOf a.const)) rfl
 have p4:=HB0.out.1.cell 4 (v:=.int .u64 (loOf a.const)) rfl
 go_wp2_with fail
 refine(CA.out _).mono ?_
 rintro e V ⟨rfl,hb⟩
 have HB1:Hid (Blk V w.heap.size #[.int .i64 2,.string a.ref.head,.string a.ref.name,.int .u64 (hiOf a.const),.int .u64 (loOf a.const),.string b.ref.head,.string b.ref.name,.int .u64 (hiOf b.const),.int .u64 (loOf b.const)] 125∧Bl w V):=⟨HB0.out.1.below hb,bst HB0.out.2 hb (Nat.le_refl _)⟩
 clear hb HB0 p1 p2 p3 p4
 have p5:=HB1.out.1.cell 5 (v:=.string b.ref.head) rfl
 have p6:=HB1.out.1.cell 6 (v:=.string b.ref.name) rfl
 have p7:=HB1.out.1.cell 7 (v:=.int .u64 (hiOf b.const)) rfl
 have p8:=HB1.out.1.cell 8 (v:=.int .u64 (loOf b.const)) rfl
 cases ra
 ·go_wp2
  go_ret
  exact⟨rfl,HB1.out.2⟩
 ·go_wp2_with fail
  refine(CB.out _).mono ?_
  rintro e V1 ⟨rfl,hb⟩
  have HB2:Hid (Bl w V1):=bst HB1.out.2 hb (Nat.le_refl _)
  clear hb p5 p6 p7 p8
  go_wp2
  go_ret
  exact⟨rfl,HB2.out⟩
theorem isTest_3 (a b:Opd)(w:World):Calls Tryz.prog 232 #[.agg #[.int .i64 3,.string a.ref.head,.string a.ref.name,.int .u64 (hiOf a.const),.int .u64 (loOf a.const),.string b.ref.head,.string b.ref.name,.int .u64 (hiOf b.const),.int .u64 (loOf b.const)]] w fun e w'=>e=.returned (.bool (isOpd a&&isOpd b))∧Below w.heap.size w w':=by
 have CA:Hid (∀ w,Cs 228 #[.agg (OpdC a)] w fun e w'=>e=.returned (.bool (isOpd a))∧Bl w w'):=fun w=>isOperand_any a w
 have CB:Hid (∀ w,Cs 228 #[.agg (OpdC b)] w fun e w'=>e=.returned (.bool (isOpd b))∧Bl w w'):=fun w=>isOperand_any b w
 generalize isOpd a=ra at*
 generalize isOpd b=rb at*
 have HB0:Hid (Blk (w.alloc (.cells #[.int .i64 3,.string a.ref.head,.string a.ref.name,.int .u64 (hiOf a.const),.int .u64 (loOf a.const),.string b.ref.head,.string b.ref.name,.int .u64 (hiOf b.const),.int .u64 (loOf b.const)] 125)) w.heap.size #[.int .i64 3,.string a.ref.head,.string a.ref.name,.int .u64 (hiOf a.const),.int .u64 (loOf a.const),.string b.ref.head,.string b.ref.name,.int .u64 (hiOf b.const),.int .u64 (loOf b.const)] 125∧Bl w (w.alloc (.cells #[.int .i64 3,.string a.ref.head,.string a.ref.name,.int .u64 (hiOf a.const),.int .u64 (loOf a.const),.string b.ref.head,.string b.ref.name,.int .u64 (hiOf b.const),.int .u64 (loOf b.const)] 125))):=⟨Blk.new _ _ _,(Below.refl _ _).alloc (Nat.le_refl _) _⟩
 go_enter Tryz.func232,Tryz.ntmps232
 go_upto_region 10 with fail
 generalize (w.alloc _)=W0 at HB0 ⊢
 have p1:=HB0.out.1.cell 1 (v:=.string a.ref.head) rfl
 have p2:=HB0.out.1.cell 2 (v:=.string a.ref.name) rfl
 have p3:=HB0.out.1.cell 3 (v:=.int .u64 (hiOf a.const)) rfl
 have p4:=HB0.out.1.cell 4 (v:=.int .u64 (loOf a.const)) rfl
 go_wp2_with fail
 refine(CA.out _).mono ?_
 rintro e V ⟨rfl,hb⟩
 have HB1:Hid (Blk V w.heap.size #[.int .i64 3,.string a.ref.head,.string a.ref.name,.int .u64 (hiOf a.const),.int .u64 (loOf a.const),.string b.ref.head,.string b.ref.name,.int .u64 (hiOf b.const),.int .u64 (loOf b.const)] 125∧Bl w V):=⟨HB0.out.1.below hb,bst HB0.out.2 hb (Nat.le_refl _)⟩
 clear hb HB0 p1 p2 p3 p4
 have p5:=HB1.out.1.cell 5 (v:=.string b.ref.head) rfl
 have p6:=HB1.out.1.cell 6 (v:=.string b.ref.name) rfl
 have p7:=HB1.out.1.cell 7 (v:=.int .u64 (hiOf b.const)) rfl
 have p8:=HB1.out.1.cell 8 (v:=.int .u64 (loOf b.const)) rfl
 cases ra
 ·go_wp2
  go_ret
  exact⟨rfl,HB1.out.2⟩
 ·go_wp2_with fail
  refine(CB.out _).mono ?_
  rintro e V1 ⟨rfl,hb⟩
  have HB2:Hid (Bl w V1):=bst HB1.out.2 hb (Nat.le_refl _)
  clear hb p5 p6 p7 p8
  go_wp2
  go_ret
  exact⟨rfl,HB2.out⟩
theorem isTest_4 (a b:Opd)(w:World):Calls Tryz.prog 232 #[.agg #[.int .i64 4,.string a.ref.head,.string a.ref.name,.int .u64 (hiOf a.const),.int .u64 (loOf a.const),.string b.ref.head,.string b.ref.name,.int .u64 (hiOf b.const),.int .u64 (loOf b.const)]] w fun e w'=>e=.returned (.bool (isOpd a&&isOpd b))∧Below w.heap.size w w':=by
 have CA:Hid (∀ w,Cs 228 #[.agg (OpdC a)] w fun e w'=>e=.returned (.bool (isOpd a))∧Bl w w'):=fun w=>isOperand_any a w
 have CB:Hid (∀ w,Cs 228 #[.agg (OpdC b)] w fun e w'=>e=.returned (.bool (isOpd b))∧Bl w w'):=fun w=>isOperand_any b w
 generalize isOpd a=ra at*
 generalize isOpd b=rb at*
 have HB0:Hid (Blk (w.alloc (.cells #[.int .i64 4,.string a.ref.head,.string a.ref.name,.int .u64 (hiOf a.const),.int .u64 (loOf a.const),.string b.ref.head,.string b.ref.name,.int .u64 (hiOf b.const),.int .u64 (loOf b.const)] 125)) w.heap.size #[.int .i64 4,.string a.ref.head,.string a.ref.name,.int .u64 (hiOf a.const),.int .u64 (loOf a.const),.string b.ref.head,.string b.ref.name,.int .u64 (hiOf b.const),.int .u64 (loOf b.const)] 125∧Bl w (w.alloc (.cells #[.int .i64 4,.string a.ref.head,.string a.ref.name,.int .u64 (hiOf a.const),.int .u64 (loOf a.const),.string b.ref.head,.string b.ref.name,.int .u64 (hiOf b.const),.int .u64 (loOf b.const)] 125))):=⟨Blk.new _ _ _,(Below.refl _ _).alloc (Nat.le_refl _) _⟩
 go_enter Tryz.func232,Tryz.ntmps232
 go_upto_region 10 with fail
 generalize (w.alloc _)=W0 at HB0 ⊢
 have p1:=HB0.out.1.cell 1 (v:=.string a.ref.head) rfl
 have p2:=HB0.out.1.cell 2 (v:=.string a.ref.name) rfl
 have p3:=HB0.out.1.cell 3 (v:=.int .u64 (hiOf a.const)) rfl
 have p4:=HB0.out.1.cell 4 (v:=.int .u64 (loOf a.const)) rfl
 go_wp2_with fail
 refine(CA.out _).mono ?_
 rintro e V ⟨rfl,hb⟩
 have HB1:Hid (Blk V w.heap.size #[.int .i64 4,.string a.ref.head,.string a.ref.name,.int .u64 (hiOf a.const),.int .u64 (loOf a.const),.string b.ref.head,.string b.ref.name,.int .u64 (hiOf b.const),.int .u64 (loOf b.const)] 125∧Bl w V):=⟨HB0.out.1.below hb,bst HB0.out.2 hb (Nat.le_refl _)⟩
 clear hb HB0 p1 p2 p3 p4
 have p5:=HB1.out.1.cell 5 (v:=.string b.ref.head) rfl
 have p6:=HB1.out.1.cell 6 (v:=.string b.ref.name) rfl
 have p7:=HB1.out.1.cell 7 (v:=.int .u64 (hiOf b.const)) rfl
 have p8:=HB1.out.1.cell 8 (v:=.int .u64 (loOf b.const)) rfl
 cases ra
 ·go_wp2
  go_ret
  exact⟨rfl,HB1.out.2⟩
 ·go_wp2_with fail
  refine(CB.out _).mono ?_
  rintro e V1 ⟨rfl,hb⟩
  have HB2:Hid (Bl w V1):=bst HB1.out.2 hb (Nat.le_refl _)
  clear hb p5 p6 p7 p8
  go_wp2
  go_ret
  exact⟨rfl,HB2.out⟩
theorem isTest_5 (a b:Opd)(w:World):Calls Tryz.prog 232 #[.agg #[.int .i64 5,.string a.ref.head,.string a.ref.name,.int .u64 (hiOf a.const),.int .u64 (loOf a.const),.string b.ref.head,.string b.ref.name,.int .u64 (hiOf b.const),.int .u64 (loOf b.const)]] w fun e w'=>e=.returned (.bool (isOpd a&&isOpd b))∧Below w.heap.size w w':=by
 have CA:Hid (∀ w,Cs 228 #[.agg (OpdC a)] w fun e w'=>e=.returned (.bool (isOpd a))∧Bl w w'):=fun w=>isOperand_any a w
 have CB:Hid (∀ w,Cs 228 #[.agg (OpdC b)] w fun e w'=>e=.returned (.bool (isOpd b))∧Bl w w'):=fun w=>isOperand_any b w
 generalize isOpd a=ra at*
 generalize isOpd b=rb at*
 have HB0:Hid (Blk (w.alloc (.cells #[.int .i64 5,.string a.ref.head,.string a.ref.name,.int .u64 (hiOf a.const),.int .u64 (loOf a.const),.string b.ref.head,.string b.ref.name,.int .u64 (hiOf b.const),.int .u64 (loOf b.const)] 125)) w.heap.size #[.int .i64 5,.string a.ref.head,.string a.ref.name,.int .u64 (hiOf a.const),.int .u64 (loOf a.const),.string b.ref.head,.string b.ref.name,.int .u64 (hiOf b.const),.int .u64 (loOf b.const)] 125∧Bl w (w.alloc (.cells #[.int .i64 5,.string a.ref.head,.string a.ref.name,.int .u64 (hiOf a.const),.int .u64 (loOf a.const),.string b.ref.head,.string b.ref.name,.int .u64 (hiOf b.const),.int .u64 (loOf b.const)] 125))):=⟨Blk.new _ _ _,(Below.refl _ _).alloc (Nat.le_refl _) _⟩
 go_enter Tryz.func232,Tryz.ntmps232
 go_upto_region 10 with fail
 generalize (w.alloc _)=W0 at HB0 ⊢
 have p1:=HB0.out.1.cell 1 (v:=.string a.ref.head) rfl
 have p2:=HB0.out.1.cell 2 (v:=.string a.ref.name) rfl
 have p3:=HB0.out.1.cell 3 (v:=.int .u64 (hiOf a.const)) rfl
 have p4:=HB0.out.1.cell 4 (v:=.int .u64 (loOf a.const)) rfl
 go_wp2_with fail
 refine(CA.out _).mono ?_
 rintro e V ⟨rfl,hb⟩
 have HB1:Hid (Blk V w.heap.size #[.int .i64 5,.string a.ref.head,.string a.ref.name,.int .u64 (hiOf a.const),.int .u64 (loOf a.const),.string b.ref.head,.string b.ref.name,.int .u64 (hiOf b.const),.int .u64 (loOf b.const)] 125∧Bl w V):=⟨HB0.out.1.below hb,bst HB0.out.2 hb (Nat.le_refl _)⟩
 clear hb HB0 p1 p2 p3 p4
 have p5:=HB1.out.1.cell 5 (v:=.string b.ref.head) rfl
 have p6:=HB1.out.1.cell 6 (v:=.string b.ref.name) rfl
 have p7:=HB1.out.1.cell 7 (v:=.int .u64 (hiOf b.const)) rfl
 have p8:=HB1.out.1.cell 8 (v:=.int .u64 (loOf b.const)) rfl
 cases ra
 ·go_wp2
  go_ret
  exact⟨rfl,HB1.out.2⟩
 ·go_wp2_with fail
  refine(CB.out _).mono ?_
  rintro e V1 ⟨rfl,hb⟩
  have HB2:Hid (Bl w V1):=bst HB1.out.2 hb (Nat.le_refl _)
  clear hb p5 p6 p7 p8
  go_wp2
  go_ret
  exact⟨rfl,HB2.out⟩
theorem isTest_not (k:Int)(a b:Opd)(h1:¬ k=1)(h2:¬ k=2)(h3:¬ k=3)(h4:¬ k=4)(h5:¬ k=5)(w:World):Calls Tryz.prog 232 #[.agg #[.int .i64 k,.string a.ref.head,.string a.ref.name,.int .u64 (hiOf a.const),.int .u64 (loOf a.const),.string b.ref.head,.string b.ref.name,.int .u64 (hiOf b.const),.int .u64 (loOf b.const)]] w fun e w'=>e=.returned (.bool false)∧Below w.heap.size w w':=by
 have k1:(k==1)=false:=by simpa using h1
 have k2:(k==2)=false:=by simpa using h2
 have k3:(k==3)=false:=by simpa using h3
 have k4:(k==4)=false:=by simpa using h4
 have k5:(k==5)=false:=by simpa using h5
 have HB0:Hid (Bl w (w.alloc (.cells #[.int .i64 k,.string a.ref.head,.string a.ref.name,.int .u64 (hiOf a.const),.int .u64 (loOf a.const),.string b.ref.head,.string b.ref.name,.int .u64 (hiOf b.const),.int .u64 (loOf b.const)] 125))):=(Below.refl _ _).alloc (Nat.le_refl _) _
 go_enter Tryz.func232,Tryz.ntmps232
 go_wp2
 go_ret
 exact⟨rfl,HB0.out⟩
theorem isTest_any (t:Tst)(w:World):Calls Tryz.prog 232 #[.agg (TstC t)] w fun e w'=>e=.returned (.bool (isTst t))∧Below w.heap.size w w':=by
 obtain⟨k,a,b⟩:=t
 unfold isTst
 simp only
 by_cases h1:k=1
 ·subst h1;rw[if_pos rfl];exact isTest_one a b w
 rw[if_neg h1]
 by_cases h2:k=2
 ·subst h2;rw[if_pos (by simp)];exact isTest_2 a b w
 by_cases h3:k=3
 ·subst h3;rw[if_pos (by simp)];exact isTest_3 a b w
 by_cases h4:k=4
 ·subst h4;rw[if_pos (by simp)];exact isTest_4 a b w
 by_cases h5:k=5
 ·subst h5;rw[if_pos (by simp)];exact isTest_5 a b w
 rw[if_neg (by simp[h2,h3,h4,h5])]
 exact isTest_not k a b h1 h2 h3 h4 h5 w
abbrev stL (k:Int)(r:Rf)(p:Int)(a b:Opd):List Value:=[.int .i64 k,.string r.head,.string r.name,.int .i64 p,.string a.ref.head,.string a.ref.name,.int .u64 (hiOf a.const),.int .u64 (loOf a.const),.string b.ref.head,.string b.ref.name,.int .u64 (hiOf b.const),.int .u64 (loOf b.const)]
abbrev stA (k:Int)(r:Rf)(p:Int)(a b:Opd):Array Value:=#[.int .i64 k,.string r.head,.string r.name,.int .i64 p,.string a.ref.head,.string a.ref.name,.int .u64 (hiOf a.const),.int .u64 (loOf a.const),.string b.ref.head,.string b.ref.name,.int .u64 (hiOf b.const),.int .u64 (loOf b.const)]
abbrev zL (k:Int):List Value:=[.int .i64 k,.string ⟨#[]⟩,.string ⟨#[]⟩,.int .i64 0,.string ⟨#[]⟩,.string ⟨#[]⟩,.int .u64 0,.int .u64 0,.string ⟨#[]⟩,.string ⟨#[]⟩,.int .u64 0,.int .u64 0]
abbrev zA (k:Int):Array Value:=#[.int .i64 k,.string ⟨#[]⟩,.string ⟨#[]⟩,.int .i64 0,.string ⟨#[]⟩,.string ⟨#[]⟩,.int .u64 0,.int .u64 0,.string ⟨#[]⟩,.string ⟨#[]⟩,.int .u64 0,.int .u64 0]
end Go.Proofs.YtmbpclknhkbbkaaGreat
