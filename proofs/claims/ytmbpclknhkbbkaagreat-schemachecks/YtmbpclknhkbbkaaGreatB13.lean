/- Package schema: Check. -/
import Derived.Test.YtmbpclknhkbbkaaGreatB10
set_option linter.unusedSimpArgs false
set_option linter.unusedVariables false
set_option maxHeartbeats 4000000
set_option maxRecDepth 100000
namespace Go.Proofs.YtmbpclknhkbbkaaGreat
open Go.RowKit
def orE (a b:Option (Int × ByteArray)):Option (Int × ByteArray):=match a with
 | some r=>some r
 | none=>b
def hNames (s:Sch):List ByteArray:=(s.headers.map (·.name)).reverse
def aNames (s:Sch):List ByteArray:=(s.actions.map (·.name)).reverse
def tNames (s:Sch):List ByteArray:=(s.tables.map (·.name)).reverse
def widG (s:Sch):Rf→Int:=fun r=>(gOf s.metas s.headers r).getD 0
def headersE (hs:List Hdr):Option (Int × ByteArray):=if 32<hs.length then some (74,⟨#[104,101,97,100,101,114]⟩) else hdrsE hs []
def checkE (s:Sch):Option (Int × ByteArray):=
 orE (headersE s.headers) (orE (metaE s.metas) (orE (statesE (hasT (hNames s)) (widG s) s.states) (orE (actionsE (hasT (hNames s)) (widG s) s.actions)
   (orE (tablesE (widG s) (hasT (aNames s)) s) (controlE (hasT (hNames s)) (hasT (tNames s)) (widG s) s.control)))))
theorem orE_none (b:Option (Int × ByteArray)):orE none b=b:=rfl
theorem orE_some (r:Int × ByteArray)(b:Option (Int × ByteArray)):orE (some r) b=some r:=rfl
theorem check1_any (w0:World)(xb:Nat)(v0 v1 v2 v3 v4 v5:Value)(s:Sch)(hs:SchIs w0 (.agg #[v0,v1,v2,v3,v4,v5]) s)(hx:Blk w0 xb #[v0,v1,v2,v3,v4,v5] 34):
  Calls Tryz.prog 63 #[.pointer (some ⟨xb,0,none⟩)] w0 fun e w'=>Below w0.heap.size w0 w'∧Fnd (checkE s) e:=by
 have HS:Hid (SchIs w0 (.agg #[v0,v1,v2,v3,v4,v5]) s):=hs
 obtain⟨z0,z1,z2,z3,z4,z5,ez,h0,h1,h2,h3,h4,h5⟩:=hs
 simp only[Value.agg.injEq,Array.mk.injEq,List.cons.injEq,and_true] at ez
 obtain⟨rfl,rfl,rfl,rfl,rfl,rfl⟩:=ez
 obtain⟨i0,j0,rfl,_⟩:=h0.1.slice
 obtain⟨i1,j1,rfl,_⟩:=h1.1.slice
 obtain⟨i2,j2,rfl,_⟩:=h2.1.slice
 obtain⟨i3,j3,rfl,_⟩:=h3.1.slice
 obtain⟨i4,j4,rfl,_⟩:=h4.1.slice
 obtain⟨i5,j5,rfl,_⟩:=h5.slice
 have G0:Hid (HdrRow w0 (.slice i0 s.headers.length j0) s.headers):=h0
 have G1:Hid (FldRow w0 (.slice i1 s.metas.length j1) s.metas):=h1
 have G2:Hid (StaRow w0 (.slice i2 s.states.length j2) s.states):=h2
 have G3:Hid (ActRow w0 (.slice i3 s.actions.length j3) s.actions):=h3
 have G5:Hid (StgRow w0 (.slice i5 s.control.length j5) s.control):=h5
 generalize (Value.slice i0 s.headers.length j0)=v0 at*
 generalize (Value.slice i1 s.metas.length j1)=v1 at*
 generalize (Value.slice i2 s.states.length j2)=v2 at*
 generalize (Value.slice i3 s.actions.length j3)=v3 at*
 generalize (Value.slice i4 s.tables.length j4)=v4 at*
 generalize (Value.slice i5 s.control.length j5)=v5 at*
 have HXw:Hid (Blk w0 xb #[v0,v1,v2,v3,v4,v5] 34):=hx
 obtain⟨x0,x1,x2,x3,x4,x5⟩:=hx.c6
 have HRR : Hid (checkE s = orE (headersE s.headers) (orE (metaE s.metas) (orE (statesE (hasT (hNames s)) (widG s) s.states) (orE (actionsE (hasT (hNames s)) (widG s) s.actions)
   (orE (tablesE (widG s) (hasT (aNames s)) s) (controlE (hasT (hNames s)) (hasT (tNames s)) (widG s) s.control)))))) := rfl
 generalize checkE s=R at*
 clear h0 h1 h2 h3 h4 h5 hx
 go_enter Tryz.func63,Tryz.ntmps63
 go_upto_region 1 with fail
 have HA:Hid (Bl w0 (w0.alloc (.cells (ChkC v0 v1 v2 v3 v4 v5 ⟨#[]⟩ (.map none) (.map none) (.map none) (.map none)) 110))):=(Below.refl _ _).alloc (Nat.le_refl _) _
 have HQ:Hid (Blk (w0.alloc (.cells (ChkC v0 v1 v2 v3 v4 v5 ⟨#[]⟩ (.map none) (.map none) (.map none) (.map none)) 110)) w0.heap.size (ChkC v0 v1 v2 v3 v4 v5 ⟨#[]⟩ (.map none) (.map none) (.map none) (.map none)) 110):=Blk.new _ _ _
 have hxl:=HXw.out.lt
 generalize (w0.alloc _)=W1 at HA HQ ⊢
 obtain⟨cb,hcb⟩:∃ cb,cb=w0.heap.size:=⟨_,rfl⟩
 have hcb1:w0.heap.size≤cb:=by omega
 rw[← hcb] at HQ hxl ⊢
 have HBof:Hid (∀ a b,Bl w0 a→Kept (fun k=>k=cb) a b→Bl w0 b):=fun a b h k=>h.trans (k.below h.size (fun k e=>by omega))
 clear hcb x0 x1 x2 x3 x4 x5
 have HR0 : Hid (R = orE (headersE s.headers) (orE (metaE s.metas) (orE (statesE (hasT (hNames s)) (widG s) s.states) (orE (actionsE (hasT (hNames s)) (widG s) s.actions)
   (orE (tablesE (widG s) (hasT (aNames s)) s) (controlE (hasT (hNames s)) (hasT (tNames s)) (widG s) s.control)))))) := HRR.out
 clear HRR
 have C1 : Hid (Calls Tryz.prog 64 #[.pointer (some ⟨cb, 0, none⟩)] W1 fun e w' => Kept (fun k => k = cb) W1 w' ∧ Fnd (headersE s.headers) e ∧
     (e = .returned (.tuple #[]) → ∃ b th', W1.heap.size ≤ b ∧ Blk w' cb (ChkC v0 v1 v2 v3 v4 v5 th' (.map none) (.map (some b)) (.map none) (.map none)) 110 ∧ SetT w' b (hNames s))) := checkHeaders_any w0 s.headers v0 v1 v2 v3 v4 v5 G0.out cb W1 HA.out hcb1 _ _ _ _ _ HQ.out
 go_wp2_with fail
 refine C1.out.mono ?_
 rintro e W2 ⟨hk2,hfd,hok2⟩
 have HB2:Hid (Bl w0 W2):=HBof.out _ _ HA.out hk2
 have hsz12:=hk2.size
 have hW1:=HA.out.size
 have hcbl:=HQ.out.lt
 clear hk2 C1
 rcases hfd with⟨hE,rfl⟩|hfd
 case inr=>
  obtain⟨c,th2,hE,rfl⟩:=hfd
  have HE:Hid (R=some (c,th2)):=by show _=_;rw[HR0.out,hE];rfl
  clear hE hok2
  go_wp2
  exact⟨rfl,HB2.out,.inr ⟨_,_,HE.out,rfl⟩⟩
 obtain⟨hb,th2,hhb,hq2,hs2⟩:=hok2 rfl
 have HQ2:Hid (Blk W2 cb (ChkC v0 v1 v2 v3 v4 v5 th2 (.map none) (.map (some hb)) (.map none) (.map none)) 110):=hq2
 have HH2:Hid (SetT W2 hb (hNames s)):=hs2
 have hhc:hb≠cb:=mapBlk hs2 hq2
 have HR1 : Hid (R = orE (metaE s.metas) (orE (statesE (hasT (hNames s)) (widG s) s.states) (orE (actionsE (hasT (hNames s)) (widG s) s.actions)
   (orE (tablesE (widG s) (hasT (aNames s)) s) (controlE (hasT (hNames s)) (hasT (tNames s)) (widG s) s.control))))) := by show _ = _; rw [HR0.out, hE]; rfl
 have C2:Hid (Cs 65 #[.pointer (some ⟨cb,0,none⟩)] W2 fun e w'=>Kept (fun k=>k=cb) W2 w'∧Fnd (metaE s.metas) e∧(e=.returned (.tuple #[])→∃ th',Blk w' cb (ChkC v0 v1 v2 v3 v4 v5 th' (.map none) (.map (some hb)) (.map none) (.map none)) 110)):=checkMeta_any w0 s.metas v0 v1 v2 v3 v4 v5 G1.out cb W2 HB2.out hcb1 _ _ _ _ _ hq2
 clear hok2 hq2 hs2 hE HR0 HQ HA
 go_wp2_with fail
 refine C2.out.mono ?_
 rintro e W3 ⟨hk3,hfd,hok3⟩
 have HB3:Hid (Bl w0 W3):=HBof.out _ _ HB2.out hk3
 have HH3:Hid (SetT W3 hb (hNames s)):=HH2.out.kept hk3 hhc
 have HX3:Hid (Blk W3 xb #[v0,v1,v2,v3,v4,v5] 34):=HXw.out.below HB3.out
 clear hk3 C2 HB2 HH2
 rcases hfd with⟨hE,rfl⟩|hfd
 case inr=>
  obtain⟨c,th2,hE,rfl⟩:=hfd
  have HE:Hid (R=some (c,th2)):=by show _=_;rw[HR1.out,hE];rfl
  clear hE hok3
  go_wp2
  exact⟨rfl,HB3.out,.inr ⟨_,_,HE.out,rfl⟩⟩
 obtain⟨th3,hq3⟩:=hok3 rfl
 have HQ3:Hid (Blk W3 cb (ChkC v0 v1 v2 v3 v4 v5 th3 (.map none) (.map (some hb)) (.map none) (.map none)) 110):=hq3
 have HR2 : Hid (R = orE (statesE (hasT (hNames s)) (widG s) s.states) (orE (actionsE (hasT (hNames s)) (widG s) s.actions)
   (orE (tablesE (widG s) (hasT (aNames s)) s) (controlE (hasT (hNames s)) (hasT (tNames s)) (widG s) s.control)))) := by show _ = _; rw [HR1.out, hE]; rfl
 have C3:Hid (Cs 66 #[.agg #[v0,v1,v2,v3,v4,v5]] W3 fun e w'=>∃ b m,e=.returned (.map (some b))∧W3.heap.size≤b∧MapR w' b m (gOf s.metas s.headers)∧Bl W3 w'):=widthsOf_any _ s W3 (HS.out.pres (pres_below HB3.out))
 clear hok3 hq3 hE HR1
 obtain⟨x0,x1,x2,x3,x4,x5⟩:=HX3.out.c6
 go_wp2_with fail
 refine C3.out.mono ?_
 rintro e W4 ⟨wb,m,rfl,hwb3,hm4,hb4⟩
 have HQ4:=hblk HQ3 hb4
 have HH4:Hid (SetT W4 hb (hNames s)):=HH3.out.below hb4
 have HM4:Hid (MapR W4 wb m (gOf s.metas s.headers)):=hm4
 have HB4:Hid (Bl w0 W4):=HB3.out.trans (hb4.mono HB3.out.size)
 have hwc:wb≠cb:=mapBlkR hm4 HQ4.out
 have d7:=HQ4.out.cell 7 (v:=.map none) rfl
 have f7:=HQ4.out.frozen 7
 clear C3 hb4 hm4 HQ3 HH3 HB3 HX3 x0 x1 x2 x3 x4 x5
 go_upto_region 4 with fail
 have HKz:Hid (Kept (fun k=>k=cb) W4 (W4.setCell ⟨cb,7,none⟩ (.map (some wb)))):=Kept.set (S:=fun k=>k=cb) (Kept.refl _ _) rfl _
 have HQ5:Hid (Blk (W4.setCell ⟨cb,7,none⟩ (.map (some wb))) cb (ChkC v0 v1 v2 v3 v4 v5 th3 (.map (some wb)) (.map (some hb)) (.map none) (.map none)) 110):=HQ4.out.set 7 (.map (some wb))
 generalize (W4.setCell ⟨cb,7,none⟩ (.map (some wb)))=W5 at HKz HQ5 ⊢
 have HH5:Hid (SetT W5 hb (hNames s)):=HH4.out.kept HKz.out hhc
 have HM5:Hid (MapR W5 wb m (gOf s.metas s.headers)):=HM4.out.kept HKz.out hwc
 have HB5:Hid (Bl w0 W5):=HBof.out _ _ HB4.out HKz.out
 clear HQ4 HH4 HM4 HB4 HKz d7 f7
 have C4:Hid (Cs 67 #[.pointer (some ⟨cb,0,none⟩)] W5 fun e w'=>Kept (fun k=>k=cb) W5 w'∧Fnd (statesE (hasT (hNames s)) (widG s) s.states) e∧(e=.returned (.tuple #[])→∃ th',Blk w' cb (ChkC v0 v1 v2 v3 v4 v5 th' (.map (some wb)) (.map (some hb)) (.map none) (.map none)) 110)):=checkStates_any w0 W5 cb hb wb m _ _ v2 v0 v1 v3 v4 v5 _ _ _ s.states G2.out HB5.out hcb1 HQ5.out HH5.out HM5.out
 go_wp2_with fail
 refine C4.out.mono ?_
 rintro e W6 ⟨hk6,hfd,hok6⟩
 have HB6:Hid (Bl w0 W6):=HBof.out _ _ HB5.out hk6
 have HH6:Hid (SetT W6 hb (hNames s)):=HH5.out.kept hk6 hhc
 have HM6:Hid (MapR W6 wb m (gOf s.metas s.headers)):=HM5.out.kept hk6 hwc
 clear hk6 C4 HB5 HH5 HM5 HQ5
 rcases hfd with⟨hE,rfl⟩|hfd
 case inr=>
  obtain⟨c,th2,hE,rfl⟩:=hfd
  have HE:Hid (R=some (c,th2)):=by show _=_;rw[HR2.out,hE];rfl
  clear hE hok6
  go_wp2
  exact⟨rfl,HB6.out,.inr ⟨_,_,HE.out,rfl⟩⟩
 obtain⟨th6,hq6⟩:=hok6 rfl
 have HQ6:Hid (Blk W6 cb (ChkC v0 v1 v2 v3 v4 v5 th6 (.map (some wb)) (.map (some hb)) (.map none) (.map none)) 110):=hq6
 have HR3:Hid (R=orE (actionsE (hasT (hNames s)) (widG s) s.actions) (orE (tablesE (widG s) (hasT (aNames s)) s) (controlE (hasT (hNames s)) (hasT (tNames s)) (widG s) s.control))):=by show _=_;rw[HR2.out,hE];rfl
 have C5:Hid (Cs 68 #[.pointer (some ⟨cb,0,none⟩)] W6 fun e w'=>Kept (fun k=>k=cb) W6 w'∧Fnd (actionsE (hasT (hNames s)) (widG s) s.actions) e∧(e=.returned (.tuple #[])→∃ b th',W6.heap.size≤b∧Blk w' cb (ChkC v0 v1 v2 v3 v4 v5 th' (.map (some wb)) (.map (some hb)) (.map (some b)) (.map none)) 110∧SetT w' b (aNames s))):=checkActions_any w0 W6 cb hb wb m _ _ v3 v0 v1 v2 v4 v5 _ _ _ s.actions G3.out HB6.out hcb1 HQ6.out HH6.out HM6.out
 clear hok6 hq6 hE HR2
 go_wp2_with fail
 refine C5.out.mono ?_
 rintro e W7 ⟨hk7,hfd,hok7⟩
 have HB7:Hid (Bl w0 W7):=HBof.out _ _ HB6.out hk7
 have HH7:Hid (SetT W7 hb (hNames s)):=HH6.out.kept hk7 hhc
 have HM7:Hid (MapR W7 wb m (gOf s.metas s.headers)):=HM6.out.kept hk7 hwc
 clear hk7 C5 HB6 HH6 HM6 HQ6
 rcases hfd with⟨hE,rfl⟩|hfd
 case inr=>
  obtain⟨c,th2,hE,rfl⟩:=hfd
  have HE:Hid (R=some (c,th2)):=by show _=_;rw[HR3.out,hE];rfl
  clear hE hok7
  go_wp2
  exact⟨rfl,HB7.out,.inr ⟨_,_,HE.out,rfl⟩⟩
 obtain⟨ab,th7,hab7,hq7,hs7⟩:=hok7 rfl
 have HQ7:Hid (Blk W7 cb (ChkC v0 v1 v2 v3 v4 v5 th7 (.map (some wb)) (.map (some hb)) (.map (some ab)) (.map none)) 110):=hq7
 have HA7:Hid (SetT W7 ab (aNames s)):=hs7
 have hac:ab≠cb:=mapBlk hs7 hq7
 have HR4:Hid (R=orE (tablesE (widG s) (hasT (aNames s)) s) (controlE (hasT (hNames s)) (hasT (tNames s)) (widG s) s.control)):=by show _=_;rw[HR3.out,hE];rfl
 have C6:Hid (Cs 69 #[.pointer (some ⟨cb,0,none⟩)] W7 fun e w'=>Kept (fun k=>k=cb) W7 w'∧Fnd (tablesE (widG s) (hasT (aNames s)) s) e∧(e=.returned (.tuple #[])→∃ b th',W7.heap.size≤b∧Blk w' cb (ChkC v0 v1 v2 v3 v4 v5 th' (.map (some wb)) (.map (some hb)) (.map (some ab)) (.map (some b))) 110∧SetT w' b (tNames s))):=checkTables_any w0 W7 cb ab wb m _ _ v0 v1 v2 v3 v4 v5 _ _ _ s HS.out HB7.out hcb1 HQ7.out HA7.out HM7.out
 clear hok7 hq7 hs7 hE HR3
 go_wp2_with fail
 refine C6.out.mono ?_
 rintro e W8 ⟨hk8,hfd,hok8⟩
 have HB8:Hid (Bl w0 W8):=HBof.out _ _ HB7.out hk8
 have HH8:Hid (SetT W8 hb (hNames s)):=HH7.out.kept hk8 hhc
 have HM8:Hid (MapR W8 wb m (gOf s.metas s.headers)):=HM7.out.kept hk8 hwc
 clear hk8 C6 HB7 HH7 HM7 HQ7 HA7
 rcases hfd with⟨hE,rfl⟩|hfd
 case inr=>
  obtain⟨c,th2,hE,rfl⟩:=hfd
  have HE:Hid (R=some (c,th2)):=by show _=_;rw[HR4.out,hE];rfl
  clear hE hok8
  go_wp2
  exact⟨rfl,HB8.out,.inr ⟨_,_,HE.out,rfl⟩⟩
 obtain⟨tb,th8,htb8,hq8,hs8⟩:=hok8 rfl
 have HR5:Hid (R=controlE (hasT (hNames s)) (hasT (tNames s)) (widG s) s.control):=by show _=_;rw[HR4.out,hE];rfl
 have C7:Hid (Cs 70 #[.pointer (some ⟨cb,0,none⟩)] W8 fun e w'=>Bl w0 w'∧Fnd (controlE (hasT (hNames s)) (hasT (tNames s)) (widG s) s.control) e):=checkControl_any w0 W8 cb wb hb tb m _ _ _ v0 v1 v2 v3 v4 v5 _ _ s.control G5.out HB8.out hcb1 hq8 HM8.out HH8.out hs8
 clear hok8 hq8 hs8 hE HR4
 go_wp2_with fail
 refine C7.out.mono ?_
 rintro e W9 ⟨hb9,hfd⟩
 have HB9:Hid (Bl w0 W9):=hb9
 clear hb9 C7
 rcases hfd with⟨hE,rfl⟩|hfd
 case inr=>
  obtain⟨c,th2,hE,rfl⟩:=hfd
  have HE:Hid (R=some (c,th2)):=by show _=_;rw[HR5.out,hE]
  clear hE
  go_wp2
  exact⟨rfl,HB9.out,.inr ⟨_,_,HE.out,rfl⟩⟩
 have HE:Hid (R=none):=by show _=_;rw[HR5.out,hE]
 clear hE
 go_wp2
 first|go_end0|refine bodyPost_ret (results_none rfl _ _ _) rfl ?_
 exact⟨HB9.out,.inl ⟨HE.out,rfl⟩⟩
theorem idle144 (p:Addr)(w:World):CallsD Tryz.prog 144 #[.pointer (some p)] .returning w fun e u' w'=>e=.returned (.tuple #[])∧u'=.returning∧w'=w:=by
 refine callsD_of_wpS Tryz.func144 rfl fun c₀ cs hu=>?_
 apply wpS_seq
 apply wpS_region
 simp[wpOpsS,go_sem,recoverD,hu,Tryz.ntmps144,Exit.thenS]
 rw[show(#[Value.pointer (some p)]++((Array.replicate 6 undef).setIfInBounds 1 Value.nilIface).setIfInBounds 0 Value.nilIface)=#[Value.pointer (some p),Value.nilIface,Value.nilIface,undef,undef,undef,undef] from rfl]
 refine wpS_of_wp ?_
 go_wp2
 cases c₀
 simp_all[bodyPostS,results,Tryz.results144,Exit.thenS]
theorem assert104 (f:Int)(th:ByteArray)(w:World):(Instr.typeAssert (.iface 104 (.agg #[.int .i64 f,.string th])) 20 104 false).run Tryz.prog w=.ok (.agg #[.int .i64 f,.string th]) w:=by kernel_rfl
theorem catch144 (b:Nat)(x y:Value)(f:Int)(th:ByteArray)(w:World)(hb:Blk w b #[x,y] 104):
  CallsD Tryz.prog 144 #[.pointer (some ⟨b,0,none⟩)] (.panicking [pf f th]) w fun e u' w'=>e=.returned (.tuple #[])∧u'=.panicking [{ v:=.iface 104 (.agg #[.int .i64 f,.string th]),recovered:=true }]∧Blk w' b #[.int .i64 f,.string th] 104∧Kept (fun k=>k=b) w w':=by
 have h0:=hb.cell 0 (v:=x) rfl
 have h1:=hb.cell 1 (v:=y) rfl
 have f0:=hb.frozen 0
 have f1:=hb.frozen 1
 have HB1:Hid (Blk ((w.setCell ⟨b,0,none⟩ (.int .i64 f)).setCell ⟨b,1,none⟩ (.string th)) b #[.int .i64 f,.string th] 104):=by
  have:=(hb.set 0 (.int .i64 f)).set 1 (.string th)
  show Blk _ _ _ _
  simpa using this
 have HK:Hid (Kept (fun k=>k=b) w ((w.setCell ⟨b,0,none⟩ (.int .i64 f)).setCell ⟨b,1,none⟩ (.string th))):=Kept.set (S:=fun k=>k=b) (Kept.set (S:=fun k=>k=b) (Kept.refl _ _) rfl _) rfl _
 clear hb
 refine callsD_of_wpS Tryz.func144 rfl fun c₀ cs hu=>?_
 unfold pf at hu
 apply wpS_seq
 apply wpS_region
 simp[wpOpsS,go_sem,recoverD,hu,Tryz.ntmps144,Exit.thenS]
 rw[show(#[Value.pointer (some ⟨b,0,none⟩)]++((Array.replicate 6 undef).setIfInBounds 1 (Value.iface 104 (.agg #[.int .i64 f,.string th]))).setIfInBounds 0 (Value.iface 104 (.agg #[.int .i64 f,.string th])))=#[Value.pointer (some ⟨b,0,none⟩),Value.iface 104 (.agg #[.int .i64 f,.string th]),Value.iface 104 (.agg #[.int .i64 f,.string th]),undef,undef,undef,undef] from rfl]
 refine wpS_of_wp ?_
 have hta:=assert104 f th
 go_wp2
 change bodyPostS _ _ _ _ _ _ _ _ _
 simp[bodyPostS,results,Tryz.results144,Exit.thenS]
 exact⟨HB1.out,HK.out⟩
theorem mk_func:∀(fn:Fn)(first cap:Array Value)(w:World),(Instr.makeFunc fn first cap).run Tryz.prog w=.ok (.func fn first cap) w:=fun _ _ _ _=>rfl
def fndC (R:Option (Int × ByteArray)):Int:=(R.getD (0,⟨#[]⟩)).1
def fndT (R:Option (Int × ByteArray)):ByteArray:=(R.getD (0,⟨#[]⟩)).2
theorem caught_any (w:World)(xb:Nat)(R:Option (Int × ByteArray))(hC:∀ w1,Below w.heap.size w w1→Calls Tryz.prog 63 #[.pointer (some ⟨xb,0,none⟩)] w1 fun e w'=>Below w1.heap.size w1 w'∧Fnd R e):
  Calls Tryz.prog 62 #[.func (.func 63) #[] #[.pointer (some ⟨xb,0,none⟩)]] w fun e w'=>e=.returned (.agg #[.int .i64 (fndC R),.string (fndT R)])∧Below w.heap.size w w':=by
 have hmf:=mk_func
 have HB2:Hid (Bl w (w.alloc (.cells #[.int .i64 0,.string ⟨#[]⟩] 104))):=(Below.refl _ _).alloc (Nat.le_refl _) _
 have HX2:Hid (Blk (w.alloc (.cells #[.int .i64 0,.string ⟨#[]⟩] 104)) w.heap.size #[.int .i64 0,.string ⟨#[]⟩] 104):=Blk.new w _ 104
 have HC:Hid (Cs 63 #[.pointer (some ⟨xb,0,none⟩)] (w.alloc (.cells #[.int .i64 0,.string ⟨#[]⟩] 104)) fun e w'=>Below (w.alloc (.cells #[.int .i64 0,.string ⟨#[]⟩] 104)).heap.size (w.alloc (.cells #[.int .i64 0,.string ⟨#[]⟩] 104)) w'∧Fnd R e):=hC _ HB2.out
 clear hC
 go_enter_defers Tryz.func62,Tryz.ntmps62
 go_wp2_with fail
 generalize w.alloc _=W2 at*
 refine HC.out.mono ?_
 rintro e W3 ⟨hb3,hf⟩
 have HB3:Hid (Bl w W3):=bst HB2.out hb3 (by have:=HX2.out.lt;omega)
 have HX3:=hblk HX2 hb3
 have h0:=HX3.out.cell 0 (v:=.int .i64 0) rfl
 have h1:=HX3.out.cell 1 (v:=.string ⟨#[]⟩) rfl
 have f0:=HX3.out.frozen 0
 have f1:=HX3.out.frozen 1
 clear HC hb3 HB2 HX2
 rcases hf with⟨rfl,rfl⟩|⟨c,th,rfl,rfl⟩
 ·have HB4:Hid (Bl w ((W3.setCell ⟨w.heap.size,0,none⟩ (.int .i64 0)).setCell ⟨w.heap.size,1,none⟩ (.string ⟨#[]⟩))):=keptBelow HB3.out (Kept.set (S:=fun k=>k=w.heap.size) (Kept.set (S:=fun k=>k=w.heap.size) (Kept.refl _ _) rfl _) rfl _) (Nat.le_refl _)
  have HX4:Hid (Blk ((W3.setCell ⟨w.heap.size,0,none⟩ (.int .i64 0)).setCell ⟨w.heap.size,1,none⟩ (.string ⟨#[]⟩)) w.heap.size #[.int .i64 0,.string ⟨#[]⟩] 104):=by
   have:=(HX3.out.set 0 (.int .i64 0)).set 1 (.string ⟨#[]⟩)
   show Blk _ _ _ _
   simpa using this
  go_wp2
  generalize (W3.setCell ⟨w.heap.size,0,none⟩ (.int .i64 0)).setCell ⟨w.heap.size,1,none⟩ (.string ⟨#[]⟩)=W4 at HB4 HX4 ⊢
  have g0:=HX4.out.cell 0 (v:=.int .i64 0) rfl
  have g1:=HX4.out.cell 1 (v:=.string ⟨#[]⟩) rfl
  refine leaves_cons (f:=144) (args:=#[.pointer (some ⟨w.heap.size,0,none⟩)]) (by simp) (by simp[go_sem]) ?_
  refine(idle144 ⟨w.heap.size,0,none⟩ _).mono ?_
  rintro e u' w'' ⟨rfl,rfl,rfl⟩
  simp[Leaves,settle,results,Tryz.results62,go_sem,g0,g1,Result.andThen]
  exact⟨⟨rfl,rfl⟩,HB4.out⟩
 ·go_wp2
  refine leaves_cons (f:=144) (args:=#[.pointer (some ⟨w.heap.size,0,none⟩)]) (by simp) (by simp[go_sem]) ?_
  refine(catch144 w.heap.size _ _ c th _ HX3.out).mono ?_
  rintro e u' w'' ⟨rfl,rfl,hb,hk⟩
  have g0:=hb.cell 0 (v:=.int .i64 c) rfl
  have g1:=hb.cell 1 (v:=.string th) rfl
  simp[Leaves,settle,results,Tryz.results62,go_sem,g0,g1,Result.andThen]
  exact⟨⟨rfl,rfl⟩,keptBelow HB3.out hk (Nat.le_refl _)⟩
theorem check_any (v:Value)(s:Sch)(w:World)(hs:SchIs w v s):Calls Tryz.prog 15 #[v] w fun e w'=>e=.returned (.tuple #[.int .i64 (fndC (checkE s)),.string (fndT (checkE s))])∧Below w.heap.size w w':=by
 have hmf:=mk_func
 obtain⟨i0,j0,i1,j1,i2,j2,i3,j3,i4,j4,i5,j5,rfl,h0,h1,h2,h3,h4,h5⟩:=hs.parts
 clear h0 h1 h2 h3 h4 h5
 have hB0:Below w.heap.size w (w.alloc (.cells #[.slice i0 s.headers.length j0,.slice i1 s.metas.length j1,.slice i2 s.states.length j2,.slice i3 s.actions.length j3,.slice i4 s.tables.length j4,.slice i5 s.control.length j5] 34)):=(Below.refl _ _).alloc (Nat.le_refl _) _
 have hX0:Blk (w.alloc (.cells #[.slice i0 s.headers.length j0,.slice i1 s.metas.length j1,.slice i2 s.states.length j2,.slice i3 s.actions.length j3,.slice i4 s.tables.length j4,.slice i5 s.control.length j5] 34)) w.heap.size #[.slice i0 s.headers.length j0,.slice i1 s.metas.length j1,.slice i2 s.states.length j2,.slice i3 s.actions.length j3,.slice i4 s.tables.length j4,.slice i5 s.control.length j5] 34:=Blk.new w _ 34
 have hS0:=hs.pres (pres_below hB0)
 have HB0:Hid (Bl w (w.alloc (.cells #[.slice i0 s.headers.length j0,.slice i1 s.metas.length j1,.slice i2 s.states.length j2,.slice i3 s.actions.length j3,.slice i4 s.tables.length j4,.slice i5 s.control.length j5] 34))):=hB0
 have CC:Hid (Calls Tryz.prog 62 #[.func (.func 63) #[] #[.pointer (some ⟨w.heap.size,0,none⟩)]] (w.alloc (.cells #[.slice i0 s.headers.length j0,.slice i1 s.metas.length j1,.slice i2 s.states.length j2,.slice i3 s.actions.length j3,.slice i4 s.tables.length j4,.slice i5 s.control.length j5] 34)) fun e w'=>e=.returned (.agg #[.int .i64 (fndC (checkE s)),.string (fndT (checkE s))])∧Below (w.alloc (.cells #[.slice i0 s.headers.length j0,.slice i1 s.metas.length j1,.slice i2 s.states.length j2,.slice i3 s.actions.length j3,.slice i4 s.tables.length j4,.slice i5 s.control.length j5] 34)).heap.size (w.alloc (.cells #[.slice i0 s.headers.length j0,.slice i1 s.metas.length j1,.slice i2 s.states.length j2,.slice i3 s.actions.length j3,.slice i4 s.tables.length j4,.slice i5 s.control.length j5] 34)) w'):=
  caught_any _ _ _ (fun w1 hb=>check1_any w1 _ _ _ _ _ _ _ s (hS0.pres (pres_below hb)) (hX0.below hb))
 generalize checkE s=R at*
 clear hB0 hX0 hS0 hs
 go_enter Tryz.func15,Tryz.ntmps15
 go_wp2_with fail
 generalize (w.alloc _)=W0 at HB0 CC ⊢
 refine CC.out.mono ?_
 rintro e W1 ⟨rfl,hb1⟩
 have HB1:Hid (Bl w (W1.alloc (.cells #[.int .i64 (fndC R),.string (fndT R)] 104))):=(bst HB0.out hb1 (Nat.le_refl _)).alloc (bst HB0.out hb1 (Nat.le_refl _)).size _
 have HX1:Hid (Blk (W1.alloc (.cells #[.int .i64 (fndC R),.string (fndT R)] 104)) W1.heap.size #[.int .i64 (fndC R),.string (fndT R)] 104):=Blk.new W1 _ 104
 clear hb1 HB0 CC
 go_wp2
 generalize W1.alloc _=W2 at HB1 HX1 ⊢
 generalize W1.heap.size=n1 at HX1 ⊢
 have g0:=HX1.out.cell 0 (v:=.int .i64 (fndC R)) rfl
 have g1:=HX1.out.cell 1 (v:=.string (fndT R)) rfl
 clear HX1
 go_region
 generalize hW:W2.drew=W3
 have HB3:Hid (Below w.heap.size w W3):=by rw[← hW];exact HB1.out.drew
 clear hW HB1 g0 g1
 go_wp2
 first|go_ret2|go_ret|trace_state
 exact⟨rfl,HB3.out⟩
end Go.Proofs.YtmbpclknhkbbkaaGreat
