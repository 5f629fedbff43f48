/- The library contracts that this seat u. -/
import Derived.Shelf.LaysM
import Derived.Shelf.Strconv.Clone
import Derived.Test.YtmbpclknhkbbkaaGreatB20
import Derived.Deep.CutRange
set_option linter.unusedSimpArgs false
set_option linter.unusedVariables false
set_option maxHeartbeats 2000000
set_option maxRecDepth 100000
namespace Go.Proofs
open Go.Shelf
def Tryz.laysM316_ren:Go.Shelf.Ren:=⟨fun|316=>171|n=>n,fun|9=>9|3=>3|4=>4|37=>245|0=>0|127=>246|5=>5|n=>n,fun|n=>n⟩
theorem Tryz.laysM316 : Go.Proofs.LaysM.n316 Tryz.prog Tryz.laysM316_ren := {
  mixed := by kernel_rfl
  f316 := Tryz.func171.trans (congrArg some (by kernel_rfl))
  t0 := Tryz.underlying0
  a0 := Tryz.isAgg0
  z0 := Tryz.sizeOf0
  v0 := Tryz.zeroValue0
  t3 := Tryz.underlying3
  a3 := Tryz.isAgg3
  z3 := Tryz.sizeOf3
  v3 := Tryz.zeroValue3
  t4 := Tryz.underlying4
  a4 := Tryz.isAgg4
  z4 := Tryz.sizeOf4
  v4 := Tryz.zeroValue4
  t9 := Tryz.underlying9
  a9 := Tryz.isAgg9
  z9 := Tryz.sizeOf9
  v9 := Tryz.zeroValue9
  t37 := Tryz.underlying245
  a37 := Tryz.isAgg245
  z37 := Tryz.sizeOf245
  v37 := Tryz.zeroValue245
  t127 := Tryz.underlying246
  a127 := Tryz.isAgg246
  z127 := Tryz.sizeOf246
  v127 := Tryz.zeroValue246
  t5 := Tryz.underlying5
  a5 := Tryz.isAgg5
  z5 := Tryz.sizeOf5
  v5 := Tryz.zeroValue5
  i0 := by kernel_rfl
  i3 := by kernel_rfl
  i4 := by kernel_rfl
  i5 := by kernel_rfl
  i9 := by kernel_rfl
  i37 := by kernel_rfl
  i127 := by kernel_rfl }
open Go.RowKit in
theorem Tryz.stringslite_Clone (s:ByteArray)(w:World)(hlim:s.size≤281474976710656):
  Calls Tryz.prog 171 #[.string s] w fun e w'=>e=.returned (.string s)∧Below w.heap.size w w':=Any.stringslite_Clone Tryz.laysM316 s w hlim
end Go.Proofs
namespace Go.Proofs.YtmbpclknhkbbkaaGreat
open Go.RowKit
theorem clone_any (s:ByteArray)(w:World)(h:Okt s):Calls Tryz.prog 87 #[.string s] w fun e w'=>e=.returned (.string s)∧Below w.heap.size w w':=by
 have C:Hid (Cs 171 #[.string s] w fun e w'=>e=.returned (.string s)∧Bl w w'):=Tryz.stringslite_Clone s w (by unfold Okt at h;omega)
 go_enter Tryz.func87,Tryz.ntmps87
 go_wp2_with fail
 refine C.out.mono ?_
 rintro e w1 ⟨rfl,hb⟩
 go_wp2
 go_ret
 exact⟨rfl,hb⟩
theorem blk_range {w:World}{b:Nat}{l:List Value}{t:TypeId}(h:Blk w b ⟨l⟩ t):w.rangeAt b 0 l:=fun j v hv=>by
 rw[Nat.zero_add];exact h.cell j (by simpa using hv)
structure Box2 (w:World)(T:Nat)(cs zs:Array Value)(W:World):Prop where
 one:Blk W w.heap.size cs T
 two:Blk W (w.heap.size+1) zs T
 below:Below w.heap.size w W
theorem Box2.start (w:World)(T:Nat)(cs zs:Array Value):Box2 w T cs zs ((w.alloc (.cells cs T)).alloc (.cells zs T)):=
 ⟨(Blk.new w cs T).below ((Below.refl _ _).alloc (Nat.le_refl _) _),by simpa using Blk.new (w.alloc (.cells cs T)) zs T,((Below.refl _ _).alloc (Nat.le_refl _) _).alloc (by simp) _⟩
section
variable {w:World} {T:Nat} {cs zs:Array Value} {W W':World}
theorem Box2.keep (h:Box2 w T cs zs W)(hb:Below W.heap.size W W'):Box2 w T cs zs W':=⟨h.one.below hb,h.two.below hb,bst h.below hb (Nat.le_refl _)⟩
theorem hkeep2 (h:Hid (Box2 w T cs zs W))(hb:Below W.heap.size W W'):Hid (Box2 w T cs zs W'):=h.out.keep hb
theorem hstart2 (w:World)(T:Nat)(cs zs:Array Value):Hid (Box2 w T cs zs ((w.alloc (.cells cs T)).alloc (.cells zs T))):=Box2.start w T cs zs
theorem Box2.drew (h:Box2 w T cs zs W):Box2 w T cs zs W.drew:=h.keep ((Below.refl _ _).drew)
theorem Box2.set (h:Box2 w T cs zs W)(i:Nat)(v:Value):Box2 w T (cs.setIfInBounds i v) zs (W.setCell ⟨w.heap.size,i,none⟩ v):=
 ⟨h.one.set i v,h.two.kept (S:=fun k=>k=w.heap.size) (Kept.set (S:=fun k=>k=w.heap.size) (p:=⟨w.heap.size,i,none⟩) (Kept.refl _ _) rfl _) (by omega),h.below.setCell (Nat.le_refl _) _⟩
theorem Box2.size (h:Box2 w T cs zs W):w.heap.size+2≤W.heap.size:=h.two.lt
theorem Box2.same (h:Box2 w T cs zs W){i:Nat}{v:Value}(hv:cs[i]?=some v):Box2 w T cs zs (W.setCell ⟨w.heap.size,i,none⟩ v):=by
 have:=h.set i v
 rwa [show cs.setIfInBounds i v = cs from by
   apply Array.ext_getElem?
   intro j
   rw [Array.getElem?_setIfInBounds]
   split
   · rename_i e; subst e
     have hlt := (Array.getElem?_eq_some_iff.1 hv).1
     rw [if_pos hlt, hv]
   · rfl] at this
theorem Box2.fin (h:Box2 w T cs zs W)(o:Nat)(vs:List Value):Below w.heap.size w (W.setCells (w.heap.size+1) o vs):=below_setCells h.below (by omega) o vs
end
theorem copyRef_any (r:Rf)(h1:Okt r.head)(h2:Okt r.name)(w:World):Calls Tryz.prog 176 #[.agg #[.string r.head,.string r.name]] w fun e w'=>e=.returned (.agg #[.string r.head,.string r.name])∧Below w.heap.size w w':=by
 have HB:Hid (Box2 w 42 #[.string r.head,.string r.name] #[.string ⟨#[]⟩,.string ⟨#[]⟩] (((w.alloc (.cells #[.string r.head,.string r.name] 42)).alloc (.cells #[.string ⟨#[]⟩,.string ⟨#[]⟩] 42)).drew)):=(Box2.start w 42 _ _).drew
 have CL:Hid (∀(s:ByteArray) (W:World),Okt s→Hid (Box2 w 42 #[.string r.head,.string r.name] #[.string ⟨#[]⟩,.string ⟨#[]⟩] W)→Cs 87 #[.string s] W fun e w'=>e=.returned (.string s)∧w'.cell? ⟨w.heap.size,0,none⟩=some (.string r.head)∧w'.cell? ⟨w.heap.size,1,none⟩=some (.string r.name)∧w'.cell? ⟨w.heap.size+1,0,none⟩=some (.string ⟨#[]⟩)∧w'.cell? ⟨w.heap.size+1,1,none⟩=some (.string ⟨#[]⟩)∧w'.frozen? ⟨w.heap.size+1,0,none⟩=false∧w'.frozen? ⟨w.heap.size+1,1,none⟩=false∧Hid (Box2 w 42 #[.string r.head,.string r.name] #[.string ⟨#[]⟩,.string ⟨#[]⟩] w')):=fun s W hs hB=>by
  refine(clone_any s W hs).mono ?_
  rintro e w' ⟨rfl,hb⟩
  have hk:=hB.out.keep hb
  exact⟨rfl,hk.one.cell 0 rfl,hk.one.cell 1 rfl,hk.two.cell 0 rfl,hk.two.cell 1 rfl,hk.two.frozen 0,hk.two.frozen 1,hk⟩
 obtain⟨hd,nm⟩:=r
 simp only at*
 go_enter Tryz.func176,Tryz.ntmps176
 go_wp2
 go_region_with (go_at_call 87;refine(CL.out _ _ (by assumption) (by assumption)).mono ?_;rintro e w2 ⟨rfl,q0,q1,q2,q3,q4,q5,HB2⟩)
 all_goals
  have HC:Blk ((w2.setCell ⟨w.heap.size+1,0,none⟩ (.string hd)).setCell ⟨w.heap.size+1,1,none⟩ (.string nm)) (w.heap.size+1) #[.string hd,.string nm] 42:=(HB2.out.two.set 0 _).set 1 _
  have k0:=HC.cell 0 (v:=.string hd) rfl
  have k1:=HC.cell 1 (v:=.string nm) rfl
  clear HC
  go_wp2
  refine bodyPost_ret (v:=.agg #[.string hd,.string nm]) (by simp[results,Tryz.results176,go_sem,k0,k1]) rfl ⟨rfl,(HB2.out.below.setCell (by simp) _).setCell (by simp) _⟩
theorem copyFld_any (x:Fld)(ok:FldOk x)(w:World):Calls Tryz.prog 98 #[.agg (FldC x)] w fun e w'=>e=.returned (.agg (FldC x))∧Below w.heap.size w w':=by
 have HB0:=hstart2 w 82 #[.string x.name,.int .i64 x.width] #[.string ⟨#[]⟩,.int .i64 0]
 have C0:Hid (∀ w,Cs 87 #[.string x.name] w fun e w'=>e=.returned (.string x.name)∧Bl w w'):=fun w=>clone_any _ w (ok.1)
 clear ok
 unfold FldC
 go_enter Tryz.func98,Tryz.ntmps98
 go_wp2_with fail
 refine(C0.out _).mono ?_
 rintro e w0 ⟨rfl,hb0⟩
 have HK0:=hkeep2 HB0 hb0
 clear hb0 HB0
 have HL0:Hid (Box2 w 82 #[.string x.name,.int .i64 x.width] #[.string ⟨#[]⟩,.int .i64 0] (w0.setCell ⟨w.heap.size,0,none⟩ (.string x.name))):=(HK0.out.same (i:=0) rfl)
 have c0_0:=HK0.out.one.cell 0 (v:=.string x.name) rfl
 have c0_1:=HK0.out.one.cell 1 (v:=.int .i64 x.width) rfl
 have f0_0:=HK0.out.one.frozen 0
 have hs0:=HK0.out.size
 have z0:=HK0.out.two.cell 0 (v:=.string ⟨#[]⟩) rfl
 have y0:=HK0.out.two.frozen 0
 have z1:=HK0.out.two.cell 1 (v:=.int .i64 0) rfl
 have y1:=HK0.out.two.frozen 1
 have HF:Hid (Blk (((w0.setCell ⟨w.heap.size,0,none⟩ (.string x.name)).setCell ⟨w.heap.size+1,0,none⟩ (.string x.name)).setCell ⟨w.heap.size+1,1,none⟩ (.int .i64 x.width)) (w.heap.size+1) #[.string x.name,.int .i64 x.width] 82∧Bl w (((w0.setCell ⟨w.heap.size,0,none⟩ (.string x.name)).setCell ⟨w.heap.size+1,0,none⟩ (.string x.name)).setCell ⟨w.heap.size+1,1,none⟩ (.int .i64 x.width))):=by
  have h:=HL0.out.two
  have hb:=HL0.out.below
  exact⟨((h.set 0 _).set 1 _),((hb.setCell (by simp) _).setCell (by simp) _)⟩
 go_wp2_with fail
 have k0:=HF.out.1.cell 0 (v:=.string x.name) rfl
 have k1:=HF.out.1.cell 1 (v:=.int .i64 x.width) rfl
 refine bodyPost_ret (v:=.agg #[.string x.name,.int .i64 x.width]) (by simp[results,Tryz.results98,go_sem,k0,k1]) rfl ⟨rfl,HF.out.2⟩
theorem copyCas_any (x:Cas)(ok:CasOk x)(w:World):Calls Tryz.prog 178 #[.agg (CasC x)] w fun e w'=>e=.returned (.agg (CasC x))∧Below w.heap.size w w':=by
 have HB0:=hstart2 w 165 #[.int .u64 (hiOf x.value),.int .u64 (loOf x.value),.int .u64 (hiOf x.mask),.int .u64 (loOf x.mask),.string x.next] #[.int .u64 0,.int .u64 0,.int .u64 0,.int .u64 0,.string ⟨#[]⟩]
 have C0:Hid (∀ w,Cs 87 #[.string x.next] w fun e w'=>e=.returned (.string x.next)∧Bl w w'):=fun w=>clone_any _ w (ok.2.2)
 clear ok
 unfold CasC
 go_enter Tryz.func178,Tryz.ntmps178
 go_wp2_with fail
 refine(C0.out _).mono ?_
 rintro e w0 ⟨rfl,hb0⟩
 have HK0:=hkeep2 HB0 hb0
 clear hb0 HB0
 have HL0:Hid (Box2 w 165 #[.int .u64 (hiOf x.value),.int .u64 (loOf x.value),.int .u64 (hiOf x.mask),.int .u64 (loOf x.mask),.string x.next] #[.int .u64 0,.int .u64 0,.int .u64 0,.int .u64 0,.string ⟨#[]⟩] (w0.setCell ⟨w.heap.size,4,none⟩ (.string x.next))):=(HK0.out.same (i:=4) rfl)
 obtain⟨c0_0,c0_1,c0_2,c0_3,c0_4⟩:=HK0.out.one.c5
 have f0_0:=HK0.out.one.frozen 4
 have hs0:=HK0.out.size
 have z0:=HK0.out.two.cell 0 (v:=.int .u64 0) rfl
 have y0:=HK0.out.two.frozen 0
 have z1:=HK0.out.two.cell 1 (v:=.int .u64 0) rfl
 have y1:=HK0.out.two.frozen 1
 have z2:=HK0.out.two.cell 2 (v:=.int .u64 0) rfl
 have y2:=HK0.out.two.frozen 2
 have z3:=HK0.out.two.cell 3 (v:=.int .u64 0) rfl
 have y3:=HK0.out.two.frozen 3
 have z4:=HK0.out.two.cell 4 (v:=.string ⟨#[]⟩) rfl
 have y4:=HK0.out.two.frozen 4
 have HF:Hid (Blk ((((((w0.setCell ⟨w.heap.size,4,none⟩ (.string x.next)).setCell ⟨w.heap.size+1,0,none⟩ (.int .u64 (hiOf x.value))).setCell ⟨w.heap.size+1,1,none⟩ (.int .u64 (loOf x.value))).setCell ⟨w.heap.size+1,2,none⟩ (.int .u64 (hiOf x.mask))).setCell ⟨w.heap.size+1,3,none⟩ (.int .u64 (loOf x.mask))).setCell ⟨w.heap.size+1,4,none⟩ (.string x.next)) (w.heap.size+1) #[.int .u64 (hiOf x.value),.int .u64 (loOf x.value),.int .u64 (hiOf x.mask),.int .u64 (loOf x.mask),.string x.next] 165∧Bl w ((((((w0.setCell ⟨w.heap.size,4,none⟩ (.string x.next)).setCell ⟨w.heap.size+1,0,none⟩ (.int .u64 (hiOf x.value))).setCell ⟨w.heap.size+1,1,none⟩ (.int .u64 (loOf x.value))).setCell ⟨w.heap.size+1,2,none⟩ (.int .u64 (hiOf x.mask))).setCell ⟨w.heap.size+1,3,none⟩ (.int .u64 (loOf x.mask))).setCell ⟨w.heap.size+1,4,none⟩ (.string x.next))):=by
  have h:=HL0.out.two
  have hb:=HL0.out.below
  exact⟨(((((h.set 0 _).set 1 _).set 2 _).set 3 _).set 4 _),(((((hb.setCell (by simp) _).setCell (by simp) _).setCell (by simp) _).setCell (by simp) _).setCell (by simp) _)⟩
 go_wp2_with fail
 obtain⟨k0,k1,k2,k3,k4⟩:=HF.out.1.c5
 refine bodyPost_ret (v:=.agg #[.int .u64 (hiOf x.value),.int .u64 (loOf x.value),.int .u64 (hiOf x.mask),.int .u64 (loOf x.mask),.string x.next]) (by simp[results,Tryz.results178,go_sem,k0,k1,k2,k3,k4]) rfl ⟨rfl,HF.out.2⟩
theorem copyOpd_any (x:Opd)(ok:OpdOk x)(w:World):Calls Tryz.prog 184 #[.agg (OpdC x)] w fun e w'=>e=.returned (.agg (OpdC x))∧Below w.heap.size w w':=by
 have HB0:=hstart2 w 123 #[.string x.ref.head,.string x.ref.name,.int .u64 (hiOf x.const),.int .u64 (loOf x.const)] #[.string ⟨#[]⟩,.string ⟨#[]⟩,.int .u64 0,.int .u64 0]
 have C0:Hid (∀ w,Cs 176 #[.agg #[.string x.ref.head,.string x.ref.name]] w fun e w'=>e=.returned (.agg #[.string x.ref.head,.string x.ref.name])∧Bl w w'):=fun w=>copyRef_any x.ref (ok.1) (ok.2.1) w
 clear ok
 unfold OpdC
 go_enter Tryz.func184,Tryz.ntmps184
 go_wp2_with fail
 refine(C0.out _).mono ?_
 rintro e w0 ⟨rfl,hb0⟩
 have HK0:=hkeep2 HB0 hb0
 clear hb0 HB0
 have HL0:Hid (Box2 w 123 (OpdC x) #[.string ⟨#[]⟩,.string ⟨#[]⟩,.int .u64 0,.int .u64 0] ((w0.setCell ⟨w.heap.size,0,none⟩ (.string x.ref.head)).setCell ⟨w.heap.size,1,none⟩ (.string x.ref.name))):=((HK0.out.same (i:=0) rfl).same (i:=1) rfl)
 obtain⟨c0_0,c0_1,c0_2,c0_3⟩:=HK0.out.one.c4
 have f0_0:=HK0.out.one.frozen 0
 have f0_1:=HK0.out.one.frozen 1
 have hs0:=HK0.out.size
 have z0:=HK0.out.two.cell 0 (v:=.string ⟨#[]⟩) rfl
 have y0:=HK0.out.two.frozen 0
 have z1:=HK0.out.two.cell 1 (v:=.string ⟨#[]⟩) rfl
 have y1:=HK0.out.two.frozen 1
 have z2:=HK0.out.two.cell 2 (v:=.int .u64 0) rfl
 have y2:=HK0.out.two.frozen 2
 have z3:=HK0.out.two.cell 3 (v:=.int .u64 0) rfl
 have y3:=HK0.out.two.frozen 3
 have HF:Hid (Blk ((((((w0.setCell ⟨w.heap.size,0,none⟩ (.string x.ref.head)).setCell ⟨w.heap.size,1,none⟩ (.string x.ref.name)).setCell ⟨w.heap.size+1,0,none⟩ (.string x.ref.head)).setCell ⟨w.heap.size+1,1,none⟩ (.string x.ref.name)).setCell ⟨w.heap.size+1,2,none⟩ (.int .u64 (hiOf x.const))).setCell ⟨w.heap.size+1,3,none⟩ (.int .u64 (loOf x.const))) (w.heap.size+1) (OpdC x) 123∧Bl w ((((((w0.setCell ⟨w.heap.size,0,none⟩ (.string x.ref.head)).setCell ⟨w.heap.size,1,none⟩ (.string x.ref.name)).setCell ⟨w.heap.size+1,0,none⟩ (.string x.ref.head)).setCell ⟨w.heap.size+1,1,none⟩ (.string x.ref.name)).setCell ⟨w.heap.size+1,2,none⟩ (.int .u64 (hiOf x.const))).setCell ⟨w.heap.size+1,3,none⟩ (.int .u64 (loOf x.const)))):=by
  have h:=HL0.out.two
  have hb:=HL0.out.below
  exact⟨((((h.set 0 _).set 1 _).set 2 _).set 3 _),((((hb.setCell (by simp) _).setCell (by simp) _).setCell (by simp) _).setCell (by simp) _)⟩
 go_wp2_with fail
 obtain⟨k0,k1,k2,k3⟩:=HF.out.1.c4
 refine bodyPost_ret (v:=.agg #[.string x.ref.head,.string x.ref.name,.int .u64 (hiOf x.const),.int .u64 (loOf x.const)]) (by simp[results,Tryz.results184,go_sem,k0,k1,k2,k3]) rfl ⟨rfl,HF.out.2⟩
theorem copyKy_any (x:Ky)(ok:KyOk x)(w:World):Calls Tryz.prog 182 #[.agg (KyC x)] w fun e w'=>e=.returned (.agg (KyC x))∧Below w.heap.size w w':=by
 have HB0:=hstart2 w 116 #[.string x.ref.head,.string x.ref.name,.int .i64 x.kind] #[.string ⟨#[]⟩,.string ⟨#[]⟩,.int .i64 0]
 have C0:Hid (∀ w,Cs 176 #[.agg #[.string x.ref.head,.string x.ref.name]] w fun e w'=>e=.returned (.agg #[.string x.ref.head,.string x.ref.name])∧Bl w w'):=fun w=>copyRef_any x.ref (ok.1) (ok.2.1) w
 clear ok
 unfold KyC
 go_enter Tryz.func182,Tryz.ntmps182
 go_wp2_with fail
 refine(C0.out _).mono ?_
 rintro e w0 ⟨rfl,hb0⟩
 have HK0:=hkeep2 HB0 hb0
 clear hb0 HB0
 have HL0:Hid (Box2 w 116 #[.string x.ref.head,.string x.ref.name,.int .i64 x.kind] #[.string ⟨#[]⟩,.string ⟨#[]⟩,.int .i64 0] ((w0.setCell ⟨w.heap.size,0,none⟩ (.string x.ref.head)).setCell ⟨w.heap.size,1,none⟩ (.string x.ref.name))):=((HK0.out.same (i:=0) rfl).same (i:=1) rfl)
 obtain⟨c0_0,c0_1,c0_2⟩:=HK0.out.one.c3
 have f0_0:=HK0.out.one.frozen 0
 have f0_1:=HK0.out.one.frozen 1
 have hs0:=HK0.out.size
 have z0:=HK0.out.two.cell 0 (v:=.string ⟨#[]⟩) rfl
 have y0:=HK0.out.two.frozen 0
 have z1:=HK0.out.two.cell 1 (v:=.string ⟨#[]⟩) rfl
 have y1:=HK0.out.two.frozen 1
 have z2:=HK0.out.two.cell 2 (v:=.int .i64 0) rfl
 have y2:=HK0.out.two.frozen 2
 have HF:Hid (Blk (((((w0.setCell ⟨w.heap.size,0,none⟩ (.string x.ref.head)).setCell ⟨w.heap.size,1,none⟩ (.string x.ref.name)).setCell ⟨w.heap.size+1,0,none⟩ (.string x.ref.head)).setCell ⟨w.heap.size+1,1,none⟩ (.string x.ref.name)).setCell ⟨w.heap.size+1,2,none⟩ (.int .i64 x.kind)) (w.heap.size+1) #[.string x.ref.head,.string x.ref.name,.int .i64 x.kind] 116∧Bl w (((((w0.setCell ⟨w.heap.size,0,none⟩ (.string x.ref.head)).setCell ⟨w.heap.size,1,none⟩ (.string x.ref.name)).setCell ⟨w.heap.size+1,0,none⟩ (.string x.ref.head)).setCell ⟨w.heap.size+1,1,none⟩ (.string x.ref.name)).setCell ⟨w.heap.size+1,2,none⟩ (.int .i64 x.kind))):=by
  have h:=HL0.out.two
  have hb:=HL0.out.below
  exact⟨(((h.set 0 _).set 1 _).set 2 _),(((hb.setCell (by simp) _).setCell (by simp) _).setCell (by simp) _)⟩
 go_wp2_with fail
 obtain⟨k0,k1,k2⟩:=HF.out.1.c3
 refine bodyPost_ret (v:=.agg #[.string x.ref.head,.string x.ref.name,.int .i64 x.kind]) (by simp[results,Tryz.results182,go_sem,k0,k1,k2]) rfl ⟨rfl,HF.out.2⟩
theorem sub_get {l p:List Value}{o:Nat}(hp:(l.drop o).take p.length=p){j:Nat}{v:Value}(hv:p[j]?=some v):l[o+j]?=some v:=by
 have hj:=(List.getElem?_eq_some_iff.1 hv).1
 rw[← hp,List.getElem?_take,if_pos (by omega),List.getElem?_drop] at hv
 exact hv
theorem blk_part {w:World}{b:Nat}{l p:List Value}{t:TypeId}(h:Blk w b ⟨l⟩ t)(o:Nat)(hp:(l.drop o).take p.length=p):w.rangeAt b o p:=fun j v hv=>by
 refine h.cell (o+j) ?_
 simpa using sub_get hp hv
theorem Box2.part0 {w:World}{T:Nat}{l:List Value}{zs:Array Value}{p:List Value}:∀ {W:World}{o:Nat},Box2 w T ⟨l⟩ zs W→(∀ j v,p[j]?=some v→l[o+j]?=some v)→Box2 w T ⟨l⟩ zs (W.setCells w.heap.size o p):=by
 induction p with
 | nil=>intro W o h _;exact h
 | cons v p ih=>
  intro W o h hp
  rw[World.setCells]
  refine ih (h.same (i:=o) (by simpa using hp 0 v rfl)) fun j u hu=>?_
  have:=hp (j+1) u (by simpa using hu)
  rwa [show o+(j+1)=o+1+j by omega] at this
theorem Box2.part {w:World}{T:Nat}{l:List Value}{zs:Array Value}{W:World}(h:Box2 w T ⟨l⟩ zs W)(o:Nat){p:List Value}(hp:(l.drop o).take p.length=p:=by rfl):Box2 w T ⟨l⟩ zs (W.setCells w.heap.size o p):=h.part0 fun _ _ hv=>sub_get hp hv
structure Box3 (w:World)(T:Nat)(cs zs:Array Value)(Q:World→Prop)(W:World):Prop extends Box2 w T cs zs W where
 q:Q (upw (w.heap.size+2) W)
 m:∀ {a b:World},Pres a b→Q a→Q b
theorem Box3.start (w:World)(T:Nat)(cs zs:Array Value):Box3 w T cs zs (fun _=>True) ((w.alloc (.cells cs T)).alloc (.cells zs T)):=⟨Box2.start w T cs zs,trivial,fun _ _=>trivial⟩
section
variable {w:World} {T:Nat} {cs zs:Array Value} {Q:World→Prop} {W W':World}
theorem Box3.size (h:Box3 w T cs zs Q W):w.heap.size+2≤W.heap.size:=h.toBox2.size
theorem Box3.keep (h:Box3 w T cs zs Q W)(hb:Below W.heap.size W W'):Box3 w T cs zs Q W':=⟨h.toBox2.keep hb,h.m (up_below hb) h.q,h.m⟩
theorem hkeep3 (h:Hid (Box3 w T cs zs Q W))(hb:Below W.heap.size W W'):Hid (Box3 w T cs zs Q W'):=h.out.keep hb
theorem Box3.same (h:Box3 w T cs zs Q W){i:Nat}{v:Value}(hv:cs[i]?=some v):Box3 w T cs zs Q (W.setCell ⟨w.heap.size,i,none⟩ v):=
 ⟨h.toBox2.same hv,h.m (up_kept (Kept.set (S:=fun k=>k<w.heap.size+2) (p:=⟨w.heap.size,i,none⟩) (Kept.refl _ _) (by show w.heap.size<_;omega) v)) h.q,h.m⟩
theorem Box3.part {l:List Value}(h:Box3 w T ⟨l⟩ zs Q W)(o:Nat){p:List Value}(hp:(l.drop o).take p.length=p:=by rfl):Box3 w T ⟨l⟩ zs Q (W.setCells w.heap.size o p):=
 ⟨h.toBox2.part o hp,h.m (up_kept ((setCells_kept w.heap.size p o W).mono (fun i _ e=>by omega))) h.q,h.m⟩
theorem Box3.put (h:Box3 w T cs zs Q W){i:Nat}{v:Value}{R:World→Prop}(hm:∀ a b:World,Pres a b→R a→R b)(hr:R (upw (w.heap.size+2) W)):Box3 w T (cs.setIfInBounds i v) zs (fun u=>Q u∧R u) (W.setCell ⟨w.heap.size,i,none⟩ v):=by
 have hp:Pres (upw (w.heap.size+2) W) (upw (w.heap.size+2) (W.setCell ⟨w.heap.size,i,none⟩ v)):=up_kept (Kept.set (S:=fun k=>k<w.heap.size+2) (p:=⟨w.heap.size,i,none⟩) (Kept.refl _ _) (by show w.heap.size<_;omega) v)
 exact⟨h.toBox2.set i v,⟨h.m hp h.q,hm _ _ hp hr⟩,fun hab hq=>⟨h.m hab hq.1,hm _ _ hab hq.2⟩⟩
theorem Box3.fin (h:Box3 w T cs zs Q W)(o:Nat)(vs:List Value):Below w.heap.size w (W.setCells (w.heap.size+1) o vs):=h.toBox2.fin o vs
theorem Box3.qfin (h:Box3 w T cs zs Q W)(o:Nat)(vs:List Value):Q (upw w.heap.size (W.setCells (w.heap.size+1) o vs)):=
 h.m ((up_kept ((setCells_kept (w.heap.size+1) vs o W).mono (T:=fun k=>k<w.heap.size+2) (fun i _ e=>by omega))).trans (up_mono _ (by omega))) h.q
end
theorem each_sliced {α:Type}{z F:Nat}{Is:World→Array Value→α→Prop}{ar:Array Value}{W:World}{xs:List α}(h:Calls Tryz.prog F ar W fun e w'=>∃ v',e=.returned v'∧Row z Is (upw W.heap.size w') v' xs∧Below W.heap.size W w'):
  Calls Tryz.prog F ar W fun e w'=>∃ a' c',e=.returned (.slice a' xs.length c')∧Row z Is (upw W.heap.size w') (.slice a' xs.length c') xs∧Below W.heap.size W w':=by
 refine h.mono ?_
 rintro e w' ⟨v',rfl,hr,hb⟩
 obtain⟨a,c,rfl,_⟩:=hr.slice
 exact⟨a,c,rfl,hr,hb⟩
theorem flat_copies {α:Type}{G z:Nat}{c:α→Array Value}{ok:α→Prop}{xs:List α}(h:∀ x,ok x→∀ w,Calls Tryz.prog G #[.agg (c x)] w fun e w'=>e=.returned (.agg (c x))∧Below w.heap.size w w'):CopyOk G z (Flat c ok) xs:=by
 rintro x _ w cs ⟨rfl,hk⟩
 refine(h x hk w).mono ?_
 rintro e w' ⟨rfl,hb⟩
 exact⟨_,rfl,⟨rfl,hk⟩,hb⟩
theorem copyStp_any (x:Stp)(ok:StpOk x)(w:World):Calls Tryz.prog 180 #[.agg (StpC x)] w fun e w'=>e=.returned (.agg (StpC x))∧Below w.heap.size w w':=by
 have HB0:=hstart2 w 167 #[.int .i64 x.kind,.string x.to.head,.string x.to.name,.int .i64 x.op,.string x.a.ref.head,.string x.a.ref.name,.int .u64 (hiOf x.a.const),.int .u64 (loOf x.a.const),.string x.b.ref.head,.string x.b.ref.name,.int .u64 (hiOf x.b.const),.int .u64 (loOf x.b.const)] #[.int .i64 0,.string ⟨#[]⟩,.string ⟨#[]⟩,.int .i64 0,.string ⟨#[]⟩,.string ⟨#[]⟩,.int .u64 0,.int .u64 0,.string ⟨#[]⟩,.string ⟨#[]⟩,.int .u64 0,.int .u64 0]
 have C0:Hid (∀ w,Cs 176 #[.agg #[.string x.to.head,.string x.to.name]] w fun e w'=>e=.returned (.agg #[.string x.to.head,.string x.to.name])∧Bl w w'):=fun w=>copyRef_any x.to (ok.2.1) (ok.2.2.1) w
 have C1:Hid (∀ w,Cs 184 #[.agg (OpdC x.a)] w fun e w'=>e=.returned (.agg (OpdC x.a))∧Bl w w'):=fun w=>copyOpd_any x.a (ok.2.2.2.2.1) w
 have C2:Hid (∀ w,Cs 184 #[.agg (OpdC x.b)] w fun e w'=>e=.returned (.agg (OpdC x.b))∧Bl w w'):=fun w=>copyOpd_any x.b (ok.2.2.2.2.2) w
 clear ok
 unfold StpC
 go_enter Tryz.func180,Tryz.ntmps180
 go_upto_region 1 with fail
 generalize ((w.alloc _).alloc _)=W0 at HB0 ⊢
 have RG0:Hid (W0.rangeAt w.heap.size 1 ([.string x.to.head,.string x.to.name]:List Value)):=blk_part (l:=([.int .i64 x.kind,.string x.to.head,.string x.to.name,.int .i64 x.op,.string x.a.ref.head,.string x.a.ref.name,.int .u64 (hiOf x.a.const),.int .u64 (loOf x.a.const),.string x.b.ref.head,.string x.b.ref.name,.int .u64 (hiOf x.b.const),.int .u64 (loOf x.b.const)]:List Value)) HB0.out.one 1 rfl
 go_wp2_with (refine wpList_load_mid rfl 42 _ rfl w.heap.size 1 rfl ([.string x.to.head,.string x.to.name]:List Value) _ RG0.out Tryz.underlying42 rfl (by kernel_rfl) ?_)
 refine(C0.out _).mono ?_
 rintro e V0 ⟨rfl,hb0⟩
 have HK0:=hkeep2 HB0 hb0
 clear hb0 HB0 RG0
 have TH0:Hid (V0.there w.heap.size 1 ([.string x.to.head,.string x.to.name]:List Value).toArray.size):=blk_there HK0.out.one (by simp)
 have HB1:Hid (Box2 w 167 (StpC x) #[.int .i64 0,.string ⟨#[]⟩,.string ⟨#[]⟩,.int .i64 0,.string ⟨#[]⟩,.string ⟨#[]⟩,.int .u64 0,.int .u64 0,.string ⟨#[]⟩,.string ⟨#[]⟩,.int .u64 0,.int .u64 0] (V0.setCells w.heap.size 1 ([.string x.to.head,.string x.to.name]:List Value))):=HK0.out.part 1
 go_upto_region 2 with(refine wpList_store_mid rfl 42 _ _ rfl w.heap.size 1 ([.string x.to.head,.string x.to.name]:List Value).toArray rfl rfl TH0.out (by kernel_rfl) (by simp[Value.oneCell']) ?_)
 generalize V0.setCells w.heap.size 1 ([.string x.to.head,.string x.to.name]:List Value)=W1 at HB1 ⊢
 clear TH0 HK0
 have RG1:Hid (W1.rangeAt w.heap.size 4 ([.string x.a.ref.head,.string x.a.ref.name,.int .u64 (hiOf x.a.const),.int .u64 (loOf x.a.const)]:List Value)):=blk_part (l:=([.int .i64 x.kind,.string x.to.head,.string x.to.name,.int .i64 x.op,.string x.a.ref.head,.string x.a.ref.name,.int .u64 (hiOf x.a.const),.int .u64 (loOf x.a.const),.string x.b.ref.head,.string x.b.ref.name,.int .u64 (hiOf x.b.const),.int .u64 (loOf x.b.const)]:List Value)) HB1.out.one 4 rfl
 go_wp2_with (refine wpList_load_mid rfl 123 _ rfl w.heap.size 4 rfl ([.string x.a.ref.head,.string x.a.ref.name,.int .u64 (hiOf x.a.const),.int .u64 (loOf x.a.const)]:List Value) _ RG1.out Tryz.underlying123 rfl (by kernel_rfl) ?_)
 refine(C1.out _).mono ?_
 rintro e V1 ⟨rfl,hb1⟩
 have HK1:=hkeep2 HB1 hb1
 clear hb1 HB1 RG1
 have TH1:Hid (V1.there w.heap.size 4 ([.string x.a.ref.head,.string x.a.ref.name,.int .u64 (hiOf x.a.const),.int .u64 (loOf x.a.const)]:List Value).toArray.size):=blk_there HK1.out.one (by simp)
 have HB2:Hid (Box2 w 167 (StpC x) #[.int .i64 0,.string ⟨#[]⟩,.string ⟨#[]⟩,.int .i64 0,.string ⟨#[]⟩,.string ⟨#[]⟩,.int .u64 0,.int .u64 0,.string ⟨#[]⟩,.string ⟨#[]⟩,.int .u64 0,.int .u64 0] (V1.setCells w.heap.size 4 ([.string x.a.ref.head,.string x.a.ref.name,.int .u64 (hiOf x.a.const),.int .u64 (loOf x.a.const)]:List Value))):=HK1.out.part 4
 go_upto_region 3 with(refine wpList_store_mid rfl 123 _ _ rfl w.heap.size 4 ([.string x.a.ref.head,.string x.a.ref.name,.int .u64 (hiOf x.a.const),.int .u64 (loOf x.a.const)]:List Value).toArray rfl rfl TH1.out (by kernel_rfl) (by simp[Value.oneCell']) ?_)
 generalize V1.setCells w.heap.size 4 ([.string x.a.ref.head,.string x.a.ref.name,.int .u64 (hiOf x.a.const),.int .u64 (loOf x.a.const)]:List Value)=W2 at HB2 ⊢
 clear TH1 HK1
 have RG2:Hid (W2.rangeAt w.heap.size 8 ([.string x.b.ref.head,.string x.b.ref.name,.int .u64 (hiOf x.b.const),.int .u64 (loOf x.b.const)]:List Value)):=blk_part (l:=([.int .i64 x.kind,.string x.to.head,.string x.to.name,.int .i64 x.op,.string x.a.ref.head,.string x.a.ref.name,.int .u64 (hiOf x.a.const),.int .u64 (loOf x.a.const),.string x.b.ref.head,.string x.b.ref.name,.int .u64 (hiOf x.b.const),.int .u64 (loOf x.b.const)]:List Value)) HB2.out.one 8 rfl
 go_wp2_with (refine wpList_load_mid rfl 123 _ rfl w.heap.size 8 rfl ([.string x.b.ref.head,.string x.b.ref.name,.int .u64 (hiOf x.b.const),.int .u64 (loOf x.b.const)]:List Value) _ RG2.out Tryz.underlying123 rfl (by kernel_rfl) ?_)
 refine(C2.out _).mono ?_
 rintro e V2 ⟨rfl,hb2⟩
 have HK2:=hkeep2 HB2 hb2
 clear hb2 HB2 RG2
 have TH2:Hid (V2.there w.heap.size 8 ([.string x.b.ref.head,.string x.b.ref.name,.int .u64 (hiOf x.b.const),.int .u64 (loOf x.b.const)]:List Value).toArray.size):=blk_there HK2.out.one (by simp)
 have HB3:Hid (Box2 w 167 (StpC x) #[.int .i64 0,.string ⟨#[]⟩,.string ⟨#[]⟩,.int .i64 0,.string ⟨#[]⟩,.string ⟨#[]⟩,.int .u64 0,.int .u64 0,.string ⟨#[]⟩,.string ⟨#[]⟩,.int .u64 0,.int .u64 0] (V2.setCells w.heap.size 8 ([.string x.b.ref.head,.string x.b.ref.name,.int .u64 (hiOf x.b.const),.int .u64 (loOf x.b.const)]:List Value))):=HK2.out.part 8
 go_upto_region 4 with(refine wpList_store_mid rfl 123 _ _ rfl w.heap.size 8 ([.string x.b.ref.head,.string x.b.ref.name,.int .u64 (hiOf x.b.const),.int .u64 (loOf x.b.const)]:List Value).toArray rfl rfl TH2.out (by kernel_rfl) (by simp[Value.oneCell']) ?_)
 generalize V2.setCells w.heap.size 8 ([.string x.b.ref.head,.string x.b.ref.name,.int .u64 (hiOf x.b.const),.int .u64 (loOf x.b.const)]:List Value)=W3 at HB3 ⊢
 clear TH2 HK2
 have RG:Hid (W3.rangeAt w.heap.size 0 ([.int .i64 x.kind,.string x.to.head,.string x.to.name,.int .i64 x.op,.string x.a.ref.head,.string x.a.ref.name,.int .u64 (hiOf x.a.const),.int .u64 (loOf x.a.const),.string x.b.ref.head,.string x.b.ref.name,.int .u64 (hiOf x.b.const),.int .u64 (loOf x.b.const)]:List Value)):=blk_range HB3.out.one
 have TH:Hid (W3.there (w.heap.size+1) 0 ([.int .i64 x.kind,.string x.to.head,.string x.to.name,.int .i64 x.op,.string x.a.ref.head,.string x.a.ref.name,.int .u64 (hiOf x.a.const),.int .u64 (loOf x.a.const),.string x.b.ref.head,.string x.b.ref.name,.int .u64 (hiOf x.b.const),.int .u64 (loOf x.b.const)]:List Value).toArray.size):=blk_there HB3.out.two (by simp)
 have HF:Hid ((W3.setCells (w.heap.size+1) 0 ([.int .i64 x.kind,.string x.to.head,.string x.to.name,.int .i64 x.op,.string x.a.ref.head,.string x.a.ref.name,.int .u64 (hiOf x.a.const),.int .u64 (loOf x.a.const),.string x.b.ref.head,.string x.b.ref.name,.int .u64 (hiOf x.b.const),.int .u64 (loOf x.b.const)]:List Value)).rangeAt (w.heap.size+1) 0 ([.int .i64 x.kind,.string x.to.head,.string x.to.name,.int .i64 x.op,.string x.a.ref.head,.string x.a.ref.name,.int .u64 (hiOf x.a.const),.int .u64 (loOf x.a.const),.string x.b.ref.head,.string x.b.ref.name,.int .u64 (hiOf x.b.const),.int .u64 (loOf x.b.const)]:List Value)∧Bl w (W3.setCells (w.heap.size+1) 0 ([.int .i64 x.kind,.string x.to.head,.string x.to.name,.int .i64 x.op,.string x.a.ref.head,.string x.a.ref.name,.int .u64 (hiOf x.a.const),.int .u64 (loOf x.a.const),.string x.b.ref.head,.string x.b.ref.name,.int .u64 (hiOf x.b.const),.int .u64 (loOf x.b.const)]:List Value))):=⟨World.rangeAt_setCells_same _ _ _ _ TH.out,HB3.out.fin 0 _⟩
 have hz:(Tryz.prog.info? 167).map (·.size)=some ([.int .i64 x.kind,.string x.to.head,.string x.to.name,.int .i64 x.op,.string x.a.ref.head,.string x.a.ref.name,.int .u64 (hiOf x.a.const),.int .u64 (loOf x.a.const),.string x.b.ref.head,.string x.b.ref.name,.int .u64 (hiOf x.b.const),.int .u64 (loOf x.b.const)]:List Value).length:=by kernel_rfl
 have on:([.int .i64 x.kind,.string x.to.head,.string x.to.name,.int .i64 x.op,.string x.a.ref.head,.string x.a.ref.name,.int .u64 (hiOf x.a.const),.int .u64 (loOf x.a.const),.string x.b.ref.head,.string x.b.ref.name,.int .u64 (hiOf x.b.const),.int .u64 (loOf x.b.const)]:List Value).toArray.all (·.oneCell')=true:=by simp[Value.oneCell']
 have ON:Hid (([.int .i64 x.kind,.string x.to.head,.string x.to.name,.int .i64 x.op,.string x.a.ref.head,.string x.a.ref.name,.int .u64 (hiOf x.a.const),.int .u64 (loOf x.a.const),.string x.b.ref.head,.string x.b.ref.name,.int .u64 (hiOf x.b.const),.int .u64 (loOf x.b.const)]:List Value).toArray.all (·.oneCell')=true):=on
 clear on
 generalize hCL:([.int .i64 x.kind,.string x.to.head,.string x.to.name,.int .i64 x.op,.string x.a.ref.head,.string x.a.ref.name,.int .u64 (hiOf x.a.const),.int .u64 (loOf x.a.const),.string x.b.ref.head,.string x.b.ref.name,.int .u64 (hiOf x.b.const),.int .u64 (loOf x.b.const)]:List Value)=cl at RG TH HF hz ON
 go_wp2_with (first|(refine wpList_load_mid rfl 167 _ rfl w.heap.size 0 rfl cl _ RG.out Tryz.underlying167 rfl hz ?_)|(refine wpList_store_mid rfl 167 _ _ rfl (w.heap.size+1) 0 cl.toArray rfl rfl TH.out (by rw[List.size_toArray];exact hz) ON.out ?_))
 clear TH RG ON
 generalize W3.setCells (w.heap.size+1) 0 cl=WF at HF ⊢
 subst hCL
 have k0:=HF.out.1 0 (.int .i64 x.kind) rfl
 have k1:=HF.out.1 1 (.string x.to.head) rfl
 have k2:=HF.out.1 2 (.string x.to.name) rfl
 have k3:=HF.out.1 3 (.int .i64 x.op) rfl
 have k4:=HF.out.1 4 (.string x.a.ref.head) rfl
 have k5:=HF.out.1 5 (.string x.a.ref.name) rfl
 have k6:=HF.out.1 6 (.int .u64 (hiOf x.a.const)) rfl
 have k7:=HF.out.1 7 (.int .u64 (loOf x.a.const)) rfl
 have k8:=HF.out.1 8 (.string x.b.ref.head) rfl
 have k9:=HF.out.1 9 (.string x.b.ref.name) rfl
 have k10:=HF.out.1 10 (.int .u64 (hiOf x.b.const)) rfl
 have k11:=HF.out.1 11 (.int .u64 (loOf x.b.const)) rfl
 simp only[Nat.zero_add] at k0 k1 k2 k3 k4 k5 k6 k7 k8 k9 k10 k11
 refine bodyPost_ret (v:=.agg #[.int .i64 x.kind,.string x.to.head,.string x.to.name,.int .i64 x.op,.string x.a.ref.head,.string x.a.ref.name,.int .u64 (hiOf x.a.const),.int .u64 (loOf x.a.const),.string x.b.ref.head,.string x.b.ref.name,.int .u64 (hiOf x.b.const),.int .u64 (loOf x.b.const)]) (by simp[results,Tryz.results180,go_sem,k0,k1,k2,k3,k4,k5,k6,k7,k8,k9,k10,k11]) rfl ⟨rfl,HF.out.2⟩
def kindF:List Ky→Int→Int
 |[],t=>t
 | k :: ks,t=>if k.kind=3∨k.kind=4 then 3 else if k.kind=2 then kindF ks 2 else kindF ks t
theorem kind_step {ks:List Ky}{i:Nat}{k:Ky}(hk:ks[i]?=some k)(t:Int):kindF (ks.drop i) t=if k.kind=3∨k.kind=4 then 3 else if k.kind=2 then kindF (ks.drop (i+1)) 2 else kindF (ks.drop (i+1)) t:=by
 obtain⟨h,e⟩:=List.getElem?_eq_some_iff.1 hk
 rw[List.drop_eq_getElem_cons h,e,kindF]
theorem kind_any (x:Tbl)(cs:Array Value)(w:World)(hI:TblIs w cs x):Calls Tryz.prog 20 #[.agg cs] w fun e w'=>e=.returned (.int .i64 (kindF x.keys 1))∧Below w.heap.size w w':=by
 obtain⟨v0,v1,v2,rfl,okn,hf,hf1,hf2⟩:=hI
 obtain⟨a1,c1,rfl,_⟩:=hf1.1.slice
 obtain⟨a2,c2,rfl,_⟩:=hf2.1.slice
 obtain⟨ad,cap,rfl,_⟩:=hf.1.slice
 have hlen:x.keys.length*40≤140737488351232:=hf.2
 have HR:Hid (Row 3 (Flat KyC KyOk) w (.slice ad x.keys.length cap) x.keys):=hf.1
 have HB0:Hid (Bl w (w.alloc (.cells #[.string x.name,.slice ad x.keys.length cap,.slice a1 x.actions.length c1,.int .i64 x.size,.string x.dflt.action,.slice a2 x.dflt.args.length c2,.bool x.fixed] 51))):=(Below.refl _ _).alloc (Nat.le_refl _) _
 obtain⟨R,hR⟩:∃ R,R=kindF x.keys 1:=⟨_,rfl⟩
 have H0:Hid (kindF (x.keys.drop 0) 1=R):=by rw[hR];rfl
 rw[← hR]
 clear hf hf1 hf2 okn hR
 obtain⟨n,hn⟩:∃ n,n=x.keys.length:=⟨_,rfl⟩
 have HL:Hid (n=x.keys.length):=hn
 rw[← hn] at hlen HR HB0 ⊢
 clear hn
 generalize x.keys=xs at*
 go_enter Tryz.func20,Tryz.ntmps20
 go_upto_region 2 with fail
 have p1:=(Blk.new w #[.string x.name,.slice ad n cap,.slice a1 x.actions.length c1,.int .i64 x.size,.string x.dflt.action,.slice a2 x.dflt.args.length c2,.bool x.fixed] 51).cell 1 (v:=.slice ad n cap) rfl
 generalize (w.alloc _)=W0 at HB0 p1 ⊢
 go_wp2_with fail
 go_loopw [3,9] (fun t i wr=>∃(k:Nat) (tt:Int),k≤n∧t=.int .i64 tt∧i=.int .i64 k∧Below w.heap.size w wr∧kindF (xs.drop k) tt=R) (fun _ i _=>n - (intOf i).toNat)
 case atStart=>exact⟨0,1,by omega,rfl,rfl,HB0.out,H0.out⟩
 case round=>
  obtain⟨k,tt,hk,rfl,rfl,hb,hd⟩:=hrel
  by_cases hlt:k<n
  ·obtain⟨y,hy⟩:=gE HL.out hlt
   obtain⟨b,o,cs,rfl,_,hc,rfl,_⟩:=HR.out.at hy
   have q0:wr.cell? ⟨b,o+k*3,none⟩=some (.string y.ref.head):=by have:=pres_below hb _ _ (hc 0 (.string y.ref.head) rfl);simpa using this
   have q1:wr.cell? ⟨b,o+k*3+1,none⟩=some (.string y.ref.name):=by have:=pres_below hb _ _ (hc 1 (.string y.ref.name) rfl);simpa using this
   have q2:wr.cell? ⟨b,o+k*3+2,none⟩=some (.int .i64 y.kind):=by have:=pres_below hb _ _ (hc 2 (.int .i64 y.kind) rfl);simpa using this
   rw[kind_step hy] at hd
   have HB:Hid (Bl w wr):=hb
   have hsz:=hb.size
   clear hb hc hy p1 HB0 H0
   by_cases k3:y.kind=3
   ·rw[k3] at hd q2
    have hD:R=3:=by simpa using hd.symm
    have HD:Hid (R=3):=hD
    clear hD
    clear hd
    go_wp2
    go_ret
    refine⟨by rw[HD.out];rfl,?_⟩
    refine HB.out.trans ?_
    go_grown
   ·by_cases k4:y.kind=4
    ·rw[k4] at hd q2
     have hD:R=3:=by simpa using hd.symm
     have HD:Hid (R=3):=hD
     clear hD
     clear hd
     go_wp2
     go_ret
     refine⟨by rw[HD.out];rfl,?_⟩
     refine HB.out.trans ?_
     go_grown
    ·by_cases k2:y.kind=2
     ·rw[k2] at hd q2
      have hD:kindF (xs.drop (k+1)) 2=R:=by simpa using hd
      have HD:Hid (kindF (xs.drop (k+1)) 2=R):=hD
      clear hD
      clear hd
      go_wp2
      refine⟨⟨k+1,2,by omega,rfl,by go_num,?_,HD.out⟩,by simp only[intOf];omega⟩
      refine HB.out.trans ?_
      go_grown
     ·have hD:kindF (xs.drop (k+1)) tt=R:=by simpa[k2,k3,k4] using hd
      have HD:Hid (kindF (xs.drop (k+1)) tt=R):=hD
      clear hD
      have k3':(y.kind==3)=false:=by simpa using k3
      have k4':(y.kind==4)=false:=by simpa using k4
      have k2':(y.kind==2)=false:=by simpa using k2
      clear hd
      go_wp2
      refine⟨⟨k+1,tt,by omega,rfl,by go_num,?_,HD.out⟩,by simp only[intOf];omega⟩
      refine HB.out.trans ?_
      go_grown
  ·have e:k=n:=by omega
   subst e
   have HD:Hid (R=tt):=by
    have h1:=HL.out
    rw[List.drop_of_length_le (by omega),kindF] at hd
    exact hd.symm
   clear hd
   go_wp2
   go_ret
   exact⟨by rw[HD.out];rfl,hb⟩
end Go.Proofs.YtmbpclknhkbbkaaGreat
