/- The document's leads and agrees; a sch. -/
import Derived.Test.YtmbpclknhkbbkaaGreatVkz
import Derived.Test.YtmbpclknhkbbkaaGreatB31
set_option linter.unusedSimpArgs false
set_option linter.unusedVariables false
set_option maxHeartbeats 4000000
namespace Go.Proofs.YtmbpclknhkbbkaaGreat
open Go.RowKit
structure Sb (w0:World)(xb:Nat)(v0 v1 v2 v3 v4 v5:Value)(s:Sch)(V:World):Prop where
 one:Blk V xb #[v0,v1,v2,v3,v4,v5] 34
 sch:SchIs V (.agg #[v0,v1,v2,v3,v4,v5]) s
 bel:Below w0.heap.size w0 V
section
variable {w0:World} {xb:Nat} {v0 v1 v2 v3 v4 v5:Value} {s:Sch} {V V':World}
theorem Sb.below (h:Sb w0 xb v0 v1 v2 v3 v4 v5 s V)(hb:Below V.heap.size V V'):Sb w0 xb v0 v1 v2 v3 v4 v5 s V':=⟨h.one.below hb,h.sch.pres (pres_below hb),bst h.bel hb⟩
theorem sb_new (hs:SchIs w0 (.agg #[v0,v1,v2,v3,v4,v5]) s):Sb w0 w0.heap.size v0 v1 v2 v3 v4 v5 s (w0.alloc (.cells #[v0,v1,v2,v3,v4,v5] 34)):=
 have h:Below w0.heap.size w0 (w0.alloc (.cells #[v0,v1,v2,v3,v4,v5] 34)):=(Below.refl _ _).alloc (Nat.le_refl _) _
 ⟨Blk.new _ _ _,hs.pres (pres_below h),h⟩
theorem Sb.c (h:Sb w0 xb v0 v1 v2 v3 v4 v5 s V):V.cell? ⟨xb,0,none⟩=some v0∧V.cell? ⟨xb,1,none⟩=some v1∧V.cell? ⟨xb,2,none⟩=some v2∧V.cell? ⟨xb,3,none⟩=some v3∧V.cell? ⟨xb,4,none⟩=some v4∧V.cell? ⟨xb,5,none⟩=some v5:=
 ⟨h.one.cell 0 rfl,h.one.cell 1 rfl,h.one.cell 2 rfl,h.one.cell 3 rfl,h.one.cell 4 rfl,h.one.cell 5 rfl⟩
theorem Sb.more (h:Sb w0 xb v0 v1 v2 v3 v4 v5 s V)(o:Obj):Sb w0 xb v0 v1 v2 v3 v4 v5 s (V.alloc o):=h.below ((Below.refl _ _).alloc (Nat.le_refl _) _)
theorem blk_two (w:World)(o:Obj)(cs:Array Value)(t:TypeId):Blk ((w.alloc o).alloc (.cells cs t)) (w.heap.size+1) cs t:=by
 have:=Blk.new (w.alloc o) cs t
 rwa [World.size_alloc] at this
end
def leadsB (s:Sch)(nx:ByteArray):Bool:=decide (0≤staAt s nx)||(decide (nx=tAcc)||decide (nx=tRej))
theorem leads_any (v:Value)(s:Sch)(nx:ByteArray)(w:World)(hs:SchIs w v s):Calls Tryz.prog 212 #[v,.string nx] w fun e w'=>e=.returned (.bool (leadsB s nx))∧Below w.heap.size w w':=by
 obtain⟨v0,v1,v2,v3,v4,v5,rfl,_⟩:=id hs
 have H:Hid (Sb w w.heap.size v0 v1 v2 v3 v4 v5 s (w.alloc (.cells #[v0,v1,v2,v3,v4,v5] 34))):=sb_new hs
 clear hs
 have C:Hid (∀ V,SchIs V (.agg #[v0,v1,v2,v3,v4,v5]) s→Cs 158 #[.agg #[v0,v1,v2,v3,v4,v5],.string nx] V fun e w'=>e=.returned (.int .i64 (staAt s nx))∧Bl V w'):=fun V h=>rstaAt_any _ s nx V h
 have e1:(nx.toList==[97,99,99,101,112,116])=decide (nx=tAcc):=lit_eq nx [97,99,99,101,112,116]
 have e2:(nx.toList==[114,101,106,101,99,116])=decide (nx=tRej):=lit_eq nx [114,101,106,101,99,116]
 unfold leadsB
 generalize decide (nx=tAcc)=b1 at*
 generalize decide (nx=tRej)=b2 at*
 generalize staAt s nx=n at*
 go_enter Tryz.func212,Tryz.ntmps212
 go_upto_region 1 with fail
 generalize (w.alloc _)=W0 at H ⊢
 obtain⟨xb,hxb⟩:∃ xb,xb=w.heap.size:=⟨_,rfl⟩
 rw[← hxb] at H ⊢
 clear hxb
 obtain⟨x0,x1,x2,x3,x4,x5⟩:=H.out.c
 go_wp2_with fail
 refine(C.out _ H.out.sch).mono ?_
 rintro e W1 ⟨rfl,hb⟩
 have H:Hid (Sb w xb v0 v1 v2 v3 v4 v5 s W1):=H.out.below hb
 clear hb
 clear C x0 x1 x2 x3 x4 x5
 by_cases h0:0≤n
 ·have h0':decide (0≤n)=true:=decide_eq_true h0
  go_wp2;go_ret;exact⟨by rw[h0'];rfl,H.out.bel⟩
 ·have h0':decide (0≤n)=false:=decide_eq_false h0
  cases b1<;>cases b2<;>(go_wp2;go_ret;exact⟨by rw[h0'];rfl,H.out.bel⟩)
def agreesB (o:Opd)(n m:Int):Bool:=if n=0 then fitsN o.const m else decide (n=m)
theorem agrees_any (o:Opd)(ok:Is128 o.const)(n m:Int)(w:World):Calls Tryz.prog 220 #[.agg #[.string o.ref.head,.string o.ref.name,.int .u64 (hiOf o.const),.int .u64 (loOf o.const)],.int .i64 n,.int .i64 m] w fun e w'=>e=.returned (.bool (agreesB o n m))∧Below w.heap.size w w':=by
 unfold agreesB
 have C:Hid (∀ V,Cs 169 #[.agg #[.int .u64 (hiOf o.const),.int .u64 (loOf o.const)],.int .i64 m] V fun e w'=>e=.returned (.bool (fitsN o.const m))∧Bl V w'):=fun V=>rfits_any o.const ok m V
 have HX:Hid (Blk (w.alloc (.cells (OpdC o) 123)) w.heap.size (OpdC o) 123):=Blk.new _ _ _
 have HB:Hid (Bl w (w.alloc (.cells (OpdC o) 123))):=(Below.refl _ _).alloc (Nat.le_refl _) _
 go_enter Tryz.func220,Tryz.ntmps220
 go_upto_region 1 with fail
 generalize (w.alloc _)=W0 at HX HB ⊢
 obtain⟨xb,hxb⟩:∃ xb,xb=w.heap.size:=⟨_,rfl⟩
 rw[← hxb] at HX ⊢
 clear hxb
 by_cases n0:n=0
 ·subst n0
  have x2:=HX.out.cell 2 (v:=.int .u64 (hiOf o.const)) rfl
  have x3:=HX.out.cell 3 (v:=.int .u64 (loOf o.const)) rfl
  go_wp2_with fail
  refine(C.out _).mono ?_
  rintro e W1 ⟨rfl,hb⟩
  have HB1:Hid (Bl w W1):=bst HB.out hb
  clear hb x2 x3 HX HB C
  go_wp2;go_ret;exact⟨rfl,HB1.out⟩
 ·have n0':(n==0)=false:=by simpa using n0
  have e:(n==m)=decide (n=m):=by rw[Bool.eq_iff_iff];simp
  go_wp2;go_ret;exact⟨rfl,HB.out⟩
theorem zref_any (r:Rf)(w:World):Calls Tryz.prog 209 #[.agg #[.string r.head,.string r.name]] w fun e w'=>e=.returned (.bool (decide (r=zeroR)))∧Below w.heap.size w w':=by
 obtain⟨h,n⟩:=r
 have e:decide ((⟨h,n⟩:Rf)=zeroR)=(decide (h=⟨#[]⟩)&&decide (n=⟨#[]⟩)):=by rw[Bool.eq_iff_iff];simp
 rw[e]
 have e1:=emp_eq h
 have e2:=lit_eq h []
 have e3:=emp_eq n
 have e4:=lit_eq n []
 generalize decide (h=⟨#[]⟩)=b1 at*
 generalize decide (n=⟨#[]⟩)=b2 at*
 clear e
 show Calls Tryz.prog 209 #[.agg #[.string h,.string n]] w _
 cases b1<;>cases b2<;>(go_enter Tryz.func209,Tryz.ntmps209;go_wp2;go_ret;refine⟨rfl,?_⟩;go_grown)
theorem zbits_any (n:Nat)(w:World):Calls Tryz.prog 235 #[.agg #[.int .u64 (hiOf n),.int .u64 (loOf n)]] w fun e w'=>e=.returned (.bool (decide (n=0)))∧Below w.heap.size w w':=by
 have e:decide (n=0)=(decide (hiOf n=0)&&decide (loOf n=0)):=by
  rw[Bool.eq_iff_iff,Bool.and_eq_true,decide_eq_true_iff,decide_eq_true_iff,decide_eq_true_iff]
  unfold hiOf loOf
  omega
 rw[e]
 have e1:(hiOf n==0)=decide (hiOf n=0):=by rw[Bool.eq_iff_iff];simp
 have e2:(loOf n==0)=decide (loOf n=0):=by rw[Bool.eq_iff_iff];simp
 generalize decide (hiOf n=0)=b1 at*
 generalize decide (loOf n=0)=b2 at*
 generalize hiOf n=x at*
 generalize loOf n=y at*
 clear e
 cases b1<;>cases b2<;>(go_enter Tryz.func235,Tryz.ntmps235;go_wp2;go_ret;refine⟨rfl,?_⟩;go_grown)
theorem zopd_any (o:Opd)(w:World):Calls Tryz.prog 233 #[.agg #[.string o.ref.head,.string o.ref.name,.int .u64 (hiOf o.const),.int .u64 (loOf o.const)]] w fun e w'=>e=.returned (.bool (decide (o=zeroO)))∧Below w.heap.size w w':=by
 have e:decide (o=zeroO)=(decide (o.ref=zeroR)&&decide (o.const=0)):=by
  obtain⟨r,c⟩:=o
  rw[Bool.eq_iff_iff];simp
 rw[e]
 have C1:Hid (∀ w,Cs 209 #[.agg #[.string o.ref.head,.string o.ref.name]] w fun e w'=>e=.returned (.bool (decide (o.ref=zeroR)))∧Bl w w'):=fun w=>zref_any o.ref w
 have C2:Hid (∀ w,Cs 235 #[.agg #[.int .u64 (hiOf o.const),.int .u64 (loOf o.const)]] w fun e w'=>e=.returned (.bool (decide (o.const=0)))∧Bl w w'):=fun w=>zbits_any o.const w
 generalize decide (o.ref=zeroR)=zr at*
 generalize decide (o.const=0)=zb at*
 clear e
 have HX:Hid (Blk (w.alloc (.cells (OpdC o) 123)) w.heap.size (OpdC o) 123):=Blk.new _ _ _
 have HB:Hid (Bl w (w.alloc (.cells (OpdC o) 123))):=(Below.refl _ _).alloc (Nat.le_refl _) _
 go_enter Tryz.func233,Tryz.ntmps233
 go_upto_region 1 with fail
 generalize (w.alloc _)=W0 at HB HX ⊢
 obtain⟨xb,hxb⟩:∃ xb,xb=w.heap.size:=⟨_,rfl⟩
 rw[← hxb] at HX ⊢
 clear hxb
 have x0:=HX.out.cell 0 (v:=.string o.ref.head) rfl
 have x1:=HX.out.cell 1 (v:=.string o.ref.name) rfl
 go_wp2_with fail
 refine(C1.out _).mono ?_
 rintro e W1 ⟨rfl,hb⟩
 have HB1:Hid (Bl w W1):=bst HB.out hb
 have HX1:=hblk HX hb
 clear hb HB HX C1 x0 x1
 have x2:=HX1.out.cell 2 (v:=.int .u64 (hiOf o.const)) rfl
 have x3:=HX1.out.cell 3 (v:=.int .u64 (loOf o.const)) rfl
 go_wp2_with fail
 refine(C2.out _).mono ?_
 rintro e W2 ⟨rfl,hb⟩
 have HB2:Hid (Bl w W2):=bst HB1.out hb
 have HX2:=hblk HX1 hb
 clear hb HB1 HX1 C2 x2 x3
 cases zr<;>cases zb<;>(go_wp2;go_ret;exact⟨rfl,HB2.out⟩)
theorem omade_any (o:Opd)(w:World):Calls Tryz.prog 234 #[.agg #[.string o.ref.head,.string o.ref.name,.int .u64 (hiOf o.const),.int .u64 (loOf o.const)]] w fun e w'=>e=.returned (.bool (isOpd o))∧Below w.heap.size w w':=by
 have e:isOpd o=(decide (o.ref=zeroR)||decide (o.const=0)):=rfl
 rw[e]
 have C1:Hid (∀ w,Cs 209 #[.agg #[.string o.ref.head,.string o.ref.name]] w fun e w'=>e=.returned (.bool (decide (o.ref=zeroR)))∧Bl w w'):=fun w=>zref_any o.ref w
 have C2:Hid (∀ w,Cs 235 #[.agg #[.int .u64 (hiOf o.const),.int .u64 (loOf o.const)]] w fun e w'=>e=.returned (.bool (decide (o.const=0)))∧Bl w w'):=fun w=>zbits_any o.const w
 generalize decide (o.ref=zeroR)=zr at*
 generalize decide (o.const=0)=zb at*
 clear e
 have HX:Hid (Blk (w.alloc (.cells (OpdC o) 123)) w.heap.size (OpdC o) 123):=Blk.new _ _ _
 have HB:Hid (Bl w (w.alloc (.cells (OpdC o) 123))):=(Below.refl _ _).alloc (Nat.le_refl _) _
 go_enter Tryz.func234,Tryz.ntmps234
 go_upto_region 1 with fail
 generalize (w.alloc _)=W0 at HB HX ⊢
 obtain⟨xb,hxb⟩:∃ xb,xb=w.heap.size:=⟨_,rfl⟩
 rw[← hxb] at HX ⊢
 clear hxb
 have x0:=HX.out.cell 0 (v:=.string o.ref.head) rfl
 have x1:=HX.out.cell 1 (v:=.string o.ref.name) rfl
 go_wp2_with fail
 refine(C1.out _).mono ?_
 rintro e W1 ⟨rfl,hb⟩
 have HB1:Hid (Bl w W1):=bst HB.out hb
 have HX1:=hblk HX hb
 clear hb HB HX C1 x0 x1
 have x2:=HX1.out.cell 2 (v:=.int .u64 (hiOf o.const)) rfl
 have x3:=HX1.out.cell 3 (v:=.int .u64 (loOf o.const)) rfl
 go_wp2_with fail
 refine(C2.out _).mono ?_
 rintro e W2 ⟨rfl,hb⟩
 have HB2:Hid (Bl w W2):=bst HB1.out hb
 have HX2:=hblk HX1 hb
 clear hb HB1 HX1 C2 x2 x3
 cases zr<;>cases zb<;>(go_wp2;go_ret;exact⟨rfl,HB2.out⟩)
theorem ztest_any (t:Tst)(w:World):Calls Tryz.prog 217 #[.agg #[.int .i64 t.kind,.string t.a.ref.head,.string t.a.ref.name,.int .u64 (hiOf t.a.const),.int .u64 (loOf t.a.const),.string t.b.ref.head,.string t.b.ref.name,.int .u64 (hiOf t.b.const),.int .u64 (loOf t.b.const)]] w fun e w'=>e=.returned (.bool (decide (t=zeroT)))∧Below w.heap.size w w':=by
 have e:decide (t=zeroT)=(decide (t.kind=0)&&(decide (t.a=zeroO)&&decide (t.b=zeroO))):=by
  obtain⟨k,a,b⟩:=t
  rw[Bool.eq_iff_iff];simp
 rw[e]
 have e1:(t.kind==0)=decide (t.kind=0):=by rw[Bool.eq_iff_iff];simp
 have C1:Hid (∀ w,Cs 233 #[.agg (OpdC t.a)] w fun e w'=>e=.returned (.bool (decide (t.a=zeroO)))∧Bl w w'):=fun w=>zopd_any t.a w
 have C2:Hid (∀ w,Cs 233 #[.agg (OpdC t.b)] w fun e w'=>e=.returned (.bool (decide (t.b=zeroO)))∧Bl w w'):=fun w=>zopd_any t.b w
 generalize decide (t.a=zeroO)=za at*
 generalize decide (t.b=zeroO)=zb at*
 generalize decide (t.kind=0)=zk at*
 clear e
 have HX:Hid (Blk (w.alloc (.cells (TstC t) 125)) w.heap.size (TstC t) 125):=Blk.new _ _ _
 have HB:Hid (Bl w (w.alloc (.cells (TstC t) 125))):=(Below.refl _ _).alloc (Nat.le_refl _) _
 go_enter Tryz.func217,Tryz.ntmps217
 go_upto_region 1 with fail
 generalize (w.alloc _)=W0 at HB HX ⊢
 obtain⟨xb,hxb⟩:∃ xb,xb=w.heap.size:=⟨_,rfl⟩
 rw[← hxb] at HX ⊢
 clear hxb
 have x1:=HX.out.cell 1 (v:=.string t.a.ref.head) rfl
 have x2:=HX.out.cell 2 (v:=.string t.a.ref.name) rfl
 have x3:=HX.out.cell 3 (v:=.int .u64 (hiOf t.a.const)) rfl
 have x4:=HX.out.cell 4 (v:=.int .u64 (loOf t.a.const)) rfl
 go_wp2_with fail
 refine(C1.out _).mono ?_
 rintro e W1 ⟨rfl,hb⟩
 have HB1:Hid (Bl w W1):=bst HB.out hb
 have HX1:=hblk HX hb
 clear hb HB HX C1 x1 x2 x3 x4
 have x5:=HX1.out.cell 5 (v:=.string t.b.ref.head) rfl
 have x6:=HX1.out.cell 6 (v:=.string t.b.ref.name) rfl
 have x7:=HX1.out.cell 7 (v:=.int .u64 (hiOf t.b.const)) rfl
 have x8:=HX1.out.cell 8 (v:=.int .u64 (loOf t.b.const)) rfl
 go_wp2_with fail
 refine(C2.out _).mono ?_
 rintro e W2 ⟨rfl,hb⟩
 have HB2:Hid (Bl w W2):=bst HB1.out hb
 have HX2:=hblk HX1 hb
 clear hb HB1 HX1 C2 x5 x6 x7 x8
 have x0:=HX2.out.cell 0 (v:=.int .i64 t.kind) rfl
 cases zk<;>cases za<;>cases zb<;>(go_wp2;go_ret;exact⟨rfl,HB2.out⟩)
theorem tmade_any (t:Tst)(w:World):Calls Tryz.prog 218 #[.agg #[.int .i64 t.kind,.string t.a.ref.head,.string t.a.ref.name,.int .u64 (hiOf t.a.const),.int .u64 (loOf t.a.const),.string t.b.ref.head,.string t.b.ref.name,.int .u64 (hiOf t.b.const),.int .u64 (loOf t.b.const)]] w fun e w'=>e=.returned (.bool (isTst t))∧Below w.heap.size w w':=by
 have e:isTst t=if t.kind=1 then(decide (t.a.ref.name=⟨#[]⟩)&&(decide (t.a.const=0)&&decide (t.b=zeroO))) else(decide (2≤t.kind)&&(decide (t.kind≤5)&&(isOpd t.a&&isOpd t.b))):=by
  unfold isTst
  by_cases k1:t.kind=1
  ·rw[if_pos k1,if_pos k1]
   obtain⟨k,⟨⟨h,n⟩,c⟩,b⟩:=t
   have k1:k=1:=k1
   subst k1
   rw[Bool.eq_iff_iff];simp[and_assoc]
  ·rw[if_neg k1,if_neg k1]
   by_cases k2:t.kind=2∨t.kind=3∨t.kind=4∨t.kind=5
   ·rw[if_pos k2,decide_eq_true (show 2≤t.kind by omega),decide_eq_true (show t.kind≤5 by omega)];rfl
   ·rw[if_neg k2]
    by_cases k3:2≤t.kind
    ·rw[decide_eq_false (show ¬ t.kind≤5 by omega)];simp
    ·rw[decide_eq_false k3];simp
 have H:Hid (isTst t=if t.kind=1 then(decide (t.a.ref.name=⟨#[]⟩)&&(decide (t.a.const=0)&&decide (t.b=zeroO))) else(decide (2≤t.kind)&&(decide (t.kind≤5)&&(isOpd t.a&&isOpd t.b)))):=e
 clear e
 generalize isTst t=R at*
 have C1:Hid (∀ w,Cs 235 #[.agg #[.int .u64 (hiOf t.a.const),.int .u64 (loOf t.a.const)]] w fun e w'=>e=.returned (.bool (decide (t.a.const=0)))∧Bl w w'):=fun w=>zbits_any t.a.const w
 have C2:Hid (∀ w,Cs 233 #[.agg (OpdC t.b)] w fun e w'=>e=.returned (.bool (decide (t.b=zeroO)))∧Bl w w'):=fun w=>zopd_any t.b w
 have C3:Hid (∀ w,Cs 234 #[.agg (OpdC t.a)] w fun e w'=>e=.returned (.bool (isOpd t.a))∧Bl w w'):=fun w=>omade_any t.a w
 have C4:Hid (∀ w,Cs 234 #[.agg (OpdC t.b)] w fun e w'=>e=.returned (.bool (isOpd t.b))∧Bl w w'):=fun w=>omade_any t.b w
 have e1:=emp_eq t.a.ref.name
 have e2:=lit_eq t.a.ref.name []
 generalize decide (t.a.const=0)=za at*
 generalize decide (t.b=zeroO)=zb at*
 generalize isOpd t.a=oa at*
 generalize isOpd t.b=ob at*
 generalize decide (t.a.ref.name=⟨#[]⟩)=zn at*
 have HX:Hid (Blk (w.alloc (.cells (TstC t) 125)) w.heap.size (TstC t) 125):=Blk.new _ _ _
 have HB:Hid (Bl w (w.alloc (.cells (TstC t) 125))):=(Below.refl _ _).alloc (Nat.le_refl _) _
 go_enter Tryz.func218,Tryz.ntmps218
 go_upto_region 1 with fail
 generalize (w.alloc _)=W0 at HB HX ⊢
 obtain⟨xb,hxb⟩:∃ xb,xb=w.heap.size:=⟨_,rfl⟩
 rw[← hxb] at HX ⊢
 clear hxb
 have x3:=HX.out.cell 3 (v:=.int .u64 (hiOf t.a.const)) rfl
 have x4:=HX.out.cell 4 (v:=.int .u64 (loOf t.a.const)) rfl
 go_wp2_with fail
 refine(C1.out _).mono ?_
 rintro e W1 ⟨rfl,hb⟩
 have HB1:Hid (Bl w W1):=bst HB.out hb
 have HX1:=hblk HX hb
 clear hb HB HX C1 x3 x4
 have x5:=HX1.out.cell 5 (v:=.string t.b.ref.head) rfl
 have x6:=HX1.out.cell 6 (v:=.string t.b.ref.name) rfl
 have x7:=HX1.out.cell 7 (v:=.int .u64 (hiOf t.b.const)) rfl
 have x8:=HX1.out.cell 8 (v:=.int .u64 (loOf t.b.const)) rfl
 go_wp2_with fail
 refine(C2.out _).mono ?_
 rintro e W2 ⟨rfl,hb⟩
 have HB2:Hid (Bl w W2):=bst HB1.out hb
 have HX2:=hblk HX1 hb
 clear hb HB1 HX1 C2 x5 x6 x7 x8
 have x0:=HX2.out.cell 0 (v:=.int .i64 t.kind) rfl
 by_cases k1:t.kind=1
 ·rw[k1] at x0
  have x2:=HX2.out.cell 2 (v:=.string t.a.ref.name) rfl
  clear C3 C4
  cases zn<;>cases za<;>cases zb<;>(go_wp2;go_ret;exact⟨by rw[H.out,if_pos k1];rfl,HB2.out⟩)
 ·have k1':(t.kind==1)=false:=by simpa using k1
  have x1:=HX2.out.cell 1 (v:=.string t.a.ref.head) rfl
  have x2:=HX2.out.cell 2 (v:=.string t.a.ref.name) rfl
  have x3:=HX2.out.cell 3 (v:=.int .u64 (hiOf t.a.const)) rfl
  have x4:=HX2.out.cell 4 (v:=.int .u64 (loOf t.a.const)) rfl
  go_wp2_with fail
  refine(C3.out _).mono ?_
  rintro e W3 ⟨rfl,hb⟩
  have HB3:Hid (Bl w W3):=bst HB2.out hb
  have HX3:=hblk HX2 hb
  clear hb HB2 HX2 C3 x0 x1 x2 x3 x4
  have x5:=HX3.out.cell 5 (v:=.string t.b.ref.head) rfl
  have x6:=HX3.out.cell 6 (v:=.string t.b.ref.name) rfl
  have x7:=HX3.out.cell 7 (v:=.int .u64 (hiOf t.b.const)) rfl
  have x8:=HX3.out.cell 8 (v:=.int .u64 (loOf t.b.const)) rfl
  go_wp2_with fail
  refine(C4.out _).mono ?_
  rintro e W4 ⟨rfl,hb⟩
  have HB4:Hid (Bl w W4):=bst HB3.out hb
  have HX4:=hblk HX3 hb
  clear hb HB3 HX3 C4 x5 x6 x7 x8
  have x0:=HX4.out.cell 0 (v:=.int .i64 t.kind) rfl
  by_cases k2:2≤t.kind
  ·have k2':decide (2≤t.kind)=true:=decide_eq_true k2
   by_cases k5:t.kind≤5
   ·have k5':decide (t.kind≤5)=true:=decide_eq_true k5
    cases oa<;>cases ob<;>(go_wp2;go_ret;exact⟨by rw[H.out,if_neg k1,k2',k5'];rfl,HB4.out⟩)
   ·have k5':decide (t.kind≤5)=false:=decide_eq_false k5
    go_wp2;go_ret;exact⟨by rw[H.out,if_neg k1,k2',k5'];rfl,HB4.out⟩
  ·have k2':decide (2≤t.kind)=false:=decide_eq_false k2
   go_wp2;go_ret;exact⟨by rw[H.out,if_neg k1,k2'];rfl,HB4.out⟩
theorem smade_any (y:Stg)(ta ea:Option Addr)(tc ec:Nat)(w:World):Calls Tryz.prog 163 #[.agg #[.int .i64 y.kind,.string y.table,.int .i64 y.test.kind,.string y.test.a.ref.head,.string y.test.a.ref.name,.int .u64 (hiOf y.test.a.const),.int .u64 (loOf y.test.a.const),.string y.test.b.ref.head,.string y.test.b.ref.name,.int .u64 (hiOf y.test.b.const),.int .u64 (loOf y.test.b.const),.slice ta y.thn.length tc,.slice ea y.els.length ec]] w fun e w'=>e=.returned (.bool (isStg y))∧Below w.heap.size w w':=by
 have H:Hid (isStg y=if y.kind=1 then decide (y.test=zeroT) else if y.kind=2 then decide (y.table=⟨#[]⟩)&&isTst y.test else if y.kind=3 then decide (y.table=⟨#[]⟩)&&(decide (y.test=zeroT)&&(decide (y.thn.length=0)&&decide (y.els.length=0))) else false):=rfl
 generalize isStg y=R at*
 have C1:Hid (∀ w,Cs 217 #[.agg (TstC y.test)] w fun e w'=>e=.returned (.bool (decide (y.test=zeroT)))∧Bl w w'):=fun w=>ztest_any y.test w
 have C2:Hid (∀ w,Cs 218 #[.agg (TstC y.test)] w fun e w'=>e=.returned (.bool (isTst y.test))∧Bl w w'):=fun w=>tmade_any y.test w
 have e1:=emp_eq y.table
 have e2:=lit_eq y.table []
 have e3:=int_zero y.thn.length
 have e4:=int_zero y.els.length
 generalize decide (y.test=zeroT)=zt at*
 generalize isTst y.test=it at*
 generalize decide (y.table=⟨#[]⟩)=zn at*
 generalize decide (y.thn.length=0)=l1 at*
 generalize decide (y.els.length=0)=l2 at*
 have HX:Hid (Blk (w.alloc (.cells #[.int .i64 y.kind,.string y.table,.int .i64 y.test.kind,.string y.test.a.ref.head,.string y.test.a.ref.name,.int .u64 (hiOf y.test.a.const),.int .u64 (loOf y.test.a.const),.string y.test.b.ref.head,.string y.test.b.ref.name,.int .u64 (hiOf y.test.b.const),.int .u64 (loOf y.test.b.const),.slice ta y.thn.length tc,.slice ea y.els.length ec] 127)) w.heap.size #[.int .i64 y.kind,.string y.table,.int .i64 y.test.kind,.string y.test.a.ref.head,.string y.test.a.ref.name,.int .u64 (hiOf y.test.a.const),.int .u64 (loOf y.test.a.const),.string y.test.b.ref.head,.string y.test.b.ref.name,.int .u64 (hiOf y.test.b.const),.int .u64 (loOf y.test.b.const),.slice ta y.thn.length tc,.slice ea y.els.length ec] 127):=Blk.new _ _ _
 have HB:Hid (Bl w (w.alloc (.cells #[.int .i64 y.kind,.string y.table,.int .i64 y.test.kind,.string y.test.a.ref.head,.string y.test.a.ref.name,.int .u64 (hiOf y.test.a.const),.int .u64 (loOf y.test.a.const),.string y.test.b.ref.head,.string y.test.b.ref.name,.int .u64 (hiOf y.test.b.const),.int .u64 (loOf y.test.b.const),.slice ta y.thn.length tc,.slice ea y.els.length ec] 127))):=(Below.refl _ _).alloc (Nat.le_refl _) _
 go_enter Tryz.func163,Tryz.ntmps163
 go_upto_region 1 with fail
 generalize (w.alloc _)=W0 at HB HX ⊢
 obtain⟨xb,hxb⟩:∃ xb,xb=w.heap.size:=⟨_,rfl⟩
 rw[← hxb] at HX ⊢
 clear hxb
 have x2:=HX.out.cell 2 (v:=.int .i64 y.test.kind) rfl
 have x3:=HX.out.cell 3 (v:=.string y.test.a.ref.head) rfl
 have x4:=HX.out.cell 4 (v:=.string y.test.a.ref.name) rfl
 have x5:=HX.out.cell 5 (v:=.int .u64 (hiOf y.test.a.const)) rfl
 have x6:=HX.out.cell 6 (v:=.int .u64 (loOf y.test.a.const)) rfl
 have x7:=HX.out.cell 7 (v:=.string y.test.b.ref.head) rfl
 have x8:=HX.out.cell 8 (v:=.string y.test.b.ref.name) rfl
 have x9:=HX.out.cell 9 (v:=.int .u64 (hiOf y.test.b.const)) rfl
 have x10:=HX.out.cell 10 (v:=.int .u64 (loOf y.test.b.const)) rfl
 go_wp2_with fail
 refine(C1.out _).mono ?_
 rintro e W1 ⟨rfl,hb⟩
 have HB1:Hid (Bl w W1):=bst HB.out hb
 have HX1:=hblk HX hb
 clear hb HB HX C1 x2 x3 x4 x5 x6 x7 x8 x9 x10
 have x2:=HX1.out.cell 2 (v:=.int .i64 y.test.kind) rfl
 have x3:=HX1.out.cell 3 (v:=.string y.test.a.ref.head) rfl
 have x4:=HX1.out.cell 4 (v:=.string y.test.a.ref.name) rfl
 have x5:=HX1.out.cell 5 (v:=.int .u64 (hiOf y.test.a.const)) rfl
 have x6:=HX1.out.cell 6 (v:=.int .u64 (loOf y.test.a.const)) rfl
 have x7:=HX1.out.cell 7 (v:=.string y.test.b.ref.head) rfl
 have x8:=HX1.out.cell 8 (v:=.string y.test.b.ref.name) rfl
 have x9:=HX1.out.cell 9 (v:=.int .u64 (hiOf y.test.b.const)) rfl
 have x10:=HX1.out.cell 10 (v:=.int .u64 (loOf y.test.b.const)) rfl
 go_wp2_with fail
 refine(C2.out _).mono ?_
 rintro e W2 ⟨rfl,hb⟩
 have HB2:Hid (Bl w W2):=bst HB1.out hb
 have HX2:=hblk HX1 hb
 clear hb HB1 HX1 C2 x2 x3 x4 x5 x6 x7 x8 x9 x10
 have x0:=HX2.out.cell 0 (v:=.int .i64 y.kind) rfl
 have x1:=HX2.out.cell 1 (v:=.string y.table) rfl
 by_cases k1:y.kind=1
 ·rw[k1] at x0
  go_wp2;go_ret;exact⟨by rw[H.out,if_pos k1];rfl,HB2.out⟩
 have k1':(y.kind==1)=false:=by simpa using k1
 by_cases k2:y.kind=2
 ·rw[k2] at x0
  cases zn<;>cases it<;>(go_wp2;go_ret;exact⟨by rw[H.out,if_neg k1,if_pos k2];rfl,HB2.out⟩)
 have k2':(y.kind==2)=false:=by simpa using k2
 by_cases k3:y.kind=3
 ·rw[k3] at x0
  have x11:=HX2.out.cell 11 (v:=.slice ta y.thn.length tc) rfl
  have x12:=HX2.out.cell 12 (v:=.slice ea y.els.length ec) rfl
  cases zn<;>cases zt<;>cases l1<;>cases l2<;>(go_wp2;go_ret;exact⟨by rw[H.out,if_neg k1,if_neg k2,if_pos k3];rfl,HB2.out⟩)
 have k3':(y.kind==3)=false:=by simpa using k3
 go_wp2;go_ret;exact⟨by rw[H.out,if_neg k1,if_neg k2,if_neg k3];rfl,HB2.out⟩
theorem stp_made (s:Stp):isStp s=if s.kind=1 then((decide (0≤s.op)&&decide (s.op≤5))&&((isOpd s.a&&isOpd s.b)&&(decide (s.op≠0)||decide (s.b=zeroO))))
  else if s.kind=2∨s.kind=6 then(decide (s.to=zeroR)&&(decide (s.op=0)&&(decide (s.a=zeroO)&&decide (s.b=zeroO))))
  else if s.kind=3∨s.kind=4 then(decide (s.to.name=⟨#[]⟩)&&(decide (s.op=0)&&(decide (s.a=zeroO)&&decide (s.b=zeroO))))
  else if s.kind=5 then(decide (s.op=0)&&(decide (s.a=zeroO)&&decide (s.b=zeroO))) else false:=by
 obtain⟨k,⟨h,n⟩,p,a,b⟩:=s
 unfold isStp madeStp isOpN
 simp only
 have hz:isOpd zeroO=true:=rfl
 by_cases k1:k=1
 ·subst k1
  simp only[if_true]
  by_cases p0:p=0
  ·subst p0
   by_cases hb:b=zeroO
   ·subst hb;simp[hz]
   ·simp[hb]
  ·simp[p0,Bool.and_assoc]
 by_cases k2:k=2
 ·subst k2;by_cases hp:p=0<;>by_cases ha:a=zeroO<;>by_cases hb:b=zeroO<;>simp[hp,ha,hb,hz]
 by_cases k3:k=3
 ·subst k3;by_cases hp:p=0<;>by_cases ha:a=zeroO<;>by_cases hb:b=zeroO<;>simp[hp,ha,hb,hz]
 by_cases k4:k=4
 ·subst k4;by_cases hp:p=0<;>by_cases ha:a=zeroO<;>by_cases hb:b=zeroO<;>simp[hp,ha,hb,hz]
 by_cases k5:k=5
 ·subst k5;by_cases hp:p=0<;>by_cases ha:a=zeroO<;>by_cases hb:b=zeroO<;>simp[hp,ha,hb,hz]
 by_cases k6:k=6
 ·subst k6;by_cases hp:p=0<;>by_cases ha:a=zeroO<;>by_cases hb:b=zeroO<;>simp[hp,ha,hb,hz]
 simp[k1,k2,k3,k4,k5,k6]
theorem pmade_any (s:Stp)(w:World):Calls Tryz.prog 214 #[.agg #[.int .i64 s.kind,.string s.to.head,.string s.to.name,.int .i64 s.op,.string s.a.ref.head,.string s.a.ref.name,.int .u64 (hiOf s.a.const),.int .u64 (loOf s.a.const),.string s.b.ref.head,.string s.b.ref.name,.int .u64 (hiOf s.b.const),.int .u64 (loOf s.b.const)]] w fun e w'=>e=.returned (.bool (isStp s))∧Below w.heap.size w w':=by
 have H:=stp_made s
 have H : Hid (isStp s = if s.kind = 1 then ((decide (0 ≤ s.op) && decide (s.op ≤ 5)) && ((isOpd s.a && isOpd s.b) && (decide (s.op ≠ 0) || decide (s.b = zeroO))))
   else if s.kind = 2 ∨ s.kind = 6 then (decide (s.to = zeroR) && (decide (s.op = 0) && (decide (s.a = zeroO) && decide (s.b = zeroO))))
   else if s.kind = 3 ∨ s.kind = 4 then (decide (s.to.name = ⟨#[]⟩) && (decide (s.op = 0) && (decide (s.a = zeroO) && decide (s.b = zeroO))))
   else if s.kind = 5 then (decide (s.op = 0) && (decide (s.a = zeroO) && decide (s.b = zeroO))) else false) := H
 generalize isStp s=R at*
 have C1:Hid (∀ w,Cs 209 #[.agg #[.string s.to.head,.string s.to.name]] w fun e w'=>e=.returned (.bool (decide (s.to=zeroR)))∧Bl w w'):=fun w=>zref_any s.to w
 have C2:Hid (∀ w,Cs 233 #[.agg (OpdC s.a)] w fun e w'=>e=.returned (.bool (decide (s.a=zeroO)))∧Bl w w'):=fun w=>zopd_any s.a w
 have C3:Hid (∀ w,Cs 233 #[.agg (OpdC s.b)] w fun e w'=>e=.returned (.bool (decide (s.b=zeroO)))∧Bl w w'):=fun w=>zopd_any s.b w
 have C4:Hid (∀ w,Cs 234 #[.agg (OpdC s.a)] w fun e w'=>e=.returned (.bool (isOpd s.a))∧Bl w w'):=fun w=>omade_any s.a w
 have C5:Hid (∀ w,Cs 234 #[.agg (OpdC s.b)] w fun e w'=>e=.returned (.bool (isOpd s.b))∧Bl w w'):=fun w=>omade_any s.b w
 have e1:=emp_eq s.to.name
 have e2:=lit_eq s.to.name []
 generalize decide (s.to=zeroR)=zr at*
 generalize decide (s.a=zeroO)=za at*
 generalize decide (s.b=zeroO)=zb at*
 generalize isOpd s.a=oa at*
 generalize isOpd s.b=ob at*
 generalize decide (s.to.name=⟨#[]⟩)=zn at*
 have HX:Hid (Blk (w.alloc (.cells (StpC s) 167)) w.heap.size (StpC s) 167):=Blk.new _ _ _
 have HB:Hid (Bl w (w.alloc (.cells (StpC s) 167))):=(Below.refl _ _).alloc (Nat.le_refl _) _
 go_enter Tryz.func214,Tryz.ntmps214
 go_upto_region 1 with fail
 generalize (w.alloc _)=W0 at HB HX ⊢
 obtain⟨xb,hxb⟩:∃ xb,xb=w.heap.size:=⟨_,rfl⟩
 rw[← hxb] at HX ⊢
 clear hxb
 have x1:=HX.out.cell 1 (v:=.string s.to.head) rfl
 have x2:=HX.out.cell 2 (v:=.string s.to.name) rfl
 go_wp2_with fail
 refine(C1.out _).mono ?_
 rintro e W1 ⟨rfl,hb⟩
 have HB1:Hid (Bl w W1):=bst HB.out hb
 have HX1:=hblk HX hb
 clear hb HB HX C1 x1 x2
 have x4:=HX1.out.cell 4 (v:=.string s.a.ref.head) rfl
 have x5:=HX1.out.cell 5 (v:=.string s.a.ref.name) rfl
 have x6:=HX1.out.cell 6 (v:=.int .u64 (hiOf s.a.const)) rfl
 have x7:=HX1.out.cell 7 (v:=.int .u64 (loOf s.a.const)) rfl
 go_wp2_with fail
 refine(C2.out _).mono ?_
 rintro e W2 ⟨rfl,hb⟩
 have HB2:Hid (Bl w W2):=bst HB1.out hb
 have HX2:=hblk HX1 hb
 clear hb HB1 HX1 C2 x4 x5 x6 x7
 have x8:=HX2.out.cell 8 (v:=.string s.b.ref.head) rfl
 have x9:=HX2.out.cell 9 (v:=.string s.b.ref.name) rfl
 have x10:=HX2.out.cell 10 (v:=.int .u64 (hiOf s.b.const)) rfl
 have x11:=HX2.out.cell 11 (v:=.int .u64 (loOf s.b.const)) rfl
 go_wp2_with fail
 refine(C3.out _).mono ?_
 rintro e W3 ⟨rfl,hb⟩
 have HB3:Hid (Bl w W3):=bst HB2.out hb
 have HX3:=hblk HX2 hb
 clear hb HB2 HX2 C3 x8 x9 x10 x11
 have x0:=HX3.out.cell 0 (v:=.int .i64 s.kind) rfl
 by_cases k1:s.kind=1
 ·rw[if_pos k1] at H
  rw[k1] at x0
  have x4:=HX3.out.cell 4 (v:=.string s.a.ref.head) rfl
  have x5:=HX3.out.cell 5 (v:=.string s.a.ref.name) rfl
  have x6:=HX3.out.cell 6 (v:=.int .u64 (hiOf s.a.const)) rfl
  have x7:=HX3.out.cell 7 (v:=.int .u64 (loOf s.a.const)) rfl
  go_wp2_with fail
  refine(C4.out _).mono ?_
  rintro e W4 ⟨rfl,hb⟩
  have HB4:Hid (Bl w W4):=bst HB3.out hb
  have HX4:=hblk HX3 hb
  clear hb HB3 HX3 C4 x0 x4 x5 x6 x7
  have x8:=HX4.out.cell 8 (v:=.string s.b.ref.head) rfl
  have x9:=HX4.out.cell 9 (v:=.string s.b.ref.name) rfl
  have x10:=HX4.out.cell 10 (v:=.int .u64 (hiOf s.b.const)) rfl
  have x11:=HX4.out.cell 11 (v:=.int .u64 (loOf s.b.const)) rfl
  go_wp2_with fail
  refine(C5.out _).mono ?_
  rintro e W5 ⟨rfl,hb⟩
  have HB5:Hid (Bl w W5):=bst HB4.out hb
  have HX5:=hblk HX4 hb
  clear hb HB4 HX4 C5 x8 x9 x10 x11
  have x3:=HX5.out.cell 3 (v:=.int .i64 s.op) rfl
  by_cases p0:0≤s.op
  ·have p0':decide (0≤s.op)=true:=decide_eq_true p0
   by_cases p5:s.op≤5
   ·have p5':decide (s.op≤5)=true:=decide_eq_true p5
    by_cases pz:s.op=0
    ·have pn:decide (s.op≠0)=false:=by simp[pz]
     rw[p0',p5',pn] at H
     rw[pz] at x3
     cases oa<;>cases ob<;>cases zb<;>(go_wp2;go_ret;exact⟨by rw[H.out];rfl,HB5.out⟩)
    ·have pn:decide (s.op≠0)=true:=by simp[pz]
     have pz':(s.op==0)=false:=by simpa using pz
     rw[p0',p5',pn] at H
     cases oa<;>cases ob<;>(go_wp2;go_ret;exact⟨by rw[H.out];rfl,HB5.out⟩)
   ·have p5':decide (s.op≤5)=false:=decide_eq_false p5
    rw[p0',p5'] at H
    go_wp2;go_ret;exact⟨by rw[H.out];rfl,HB5.out⟩
  ·have p0':decide (0≤s.op)=false:=decide_eq_false p0
   rw[p0'] at H
   go_wp2;go_ret;exact⟨by rw[H.out];rfl,HB5.out⟩
 rw[if_neg k1] at H
 have k1':(s.kind==1)=false:=by simpa using k1
 clear C4 C5
 have x3:=HX3.out.cell 3 (v:=.int .i64 s.op) rfl
 have x2:=HX3.out.cell 2 (v:=.string s.to.name) rfl
 have ez:(s.op==0)=decide (s.op=0):=by rw[Bool.eq_iff_iff];simp
 generalize decide (s.op=0)=zp at*
 by_cases k2:s.kind=2
 ·rw[if_pos (.inl k2)] at H
  rw[k2] at x0
  cases zr<;>cases zp<;>cases za<;>cases zb<;>(go_wp2;go_ret;exact⟨by rw[H.out];rfl,HB3.out⟩)
 have k2':(s.kind==2)=false:=by simpa using k2
 by_cases k6:s.kind=6
 ·rw[if_pos (.inr k6)] at H
  rw[k6] at x0
  cases zr<;>cases zp<;>cases za<;>cases zb<;>(go_wp2;go_ret;exact⟨by rw[H.out];rfl,HB3.out⟩)
 have k6':(s.kind==6)=false:=by simpa using k6
 rw[if_neg (by omega)] at H
 by_cases k3:s.kind=3
 ·rw[if_pos (.inl k3)] at H
  rw[k3] at x0
  cases zn<;>cases zp<;>cases za<;>cases zb<;>(go_wp2;go_ret;exact⟨by rw[H.out];rfl,HB3.out⟩)
 have k3':(s.kind==3)=false:=by simpa using k3
 by_cases k4:s.kind=4
 ·rw[if_pos (.inr k4)] at H
  rw[k4] at x0
  cases zn<;>cases zp<;>cases za<;>cases zb<;>(go_wp2;go_ret;exact⟨by rw[H.out];rfl,HB3.out⟩)
 have k4':(s.kind==4)=false:=by simpa using k4
 rw[if_neg (by omega)] at H
 by_cases k5:s.kind=5
 ·rw[if_pos k5] at H
  rw[k5] at x0
  cases zp<;>cases za<;>cases zb<;>(go_wp2;go_ret;exact⟨by rw[H.out];rfl,HB3.out⟩)
 have k5':(s.kind==5)=false:=by simpa using k5
 rw[if_neg k5] at H
 go_wp2;go_ret;exact⟨by rw[H.out];rfl,HB3.out⟩
end Go.Proofs.YtmbpclknhkbbkaaGreat
