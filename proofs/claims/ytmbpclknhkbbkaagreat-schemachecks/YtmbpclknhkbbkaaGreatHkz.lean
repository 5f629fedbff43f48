/- The document's keys. -/
import Derived.Test.YtmbpclknhkbbkaaGreatHcz
import Derived.Test.YtmbpclknhkbbkaaGreatVm
set_option linter.unusedSimpArgs false
set_option linter.unusedVariables false
set_option maxHeartbeats 8000000
set_option maxRecDepth 100000
namespace Go.Proofs.YtmbpclknhkbbkaaGreat
open Go.RowKit
def keysLD (s:Sch)(kd:Int):List Ky→Bool→Int
 |[],_=>0
 | k :: ks,p=>if(widO s k.ref).isSome=false then 72 else if k.kind<1∨4<k.kind then 75 else if k.kind=2∧(p=true∨kd=3) then 75 else keysLD s kd ks (p||decide (k.kind=2))
theorem keysLD_step {s:Sch}{kd:Int}{ks:List Ky}{i:Nat}{k:Ky}(hk:ks[i]?=some k)(p:Bool):keysLD s kd (ks.drop i) p=if(widO s k.ref).isSome=false then 72 else if k.kind<1∨4<k.kind then 75 else if k.kind=2∧(p=true∨kd=3) then 75 else keysLD s kd (ks.drop (i+1)) (p||decide (k.kind=2)):=by
 obtain⟨h,e⟩:=List.getElem?_eq_some_iff.1 hk
 rw[List.drop_eq_getElem_cons h,e,keysLD]
def keysD (s:Sch)(ks:List Ky):Int:=if ¬(1≤ks.length∧ks.length≤8) then 74 else keysLD s (kindF ks 1) ks false
theorem rkeys_any (v:Value)(s:Sch)(t:Tbl)(cs:Array Value)(w:World)(hs:SchIs w v s)(hI:TblIs w cs t):Calls Tryz.prog 216 #[v,.agg cs] w fun e w'=>e=.returned (.int .i64 (keysD s t.keys))∧Below w.heap.size w w':=by
 obtain⟨v0,v1,v2,v3,v4,v5,rfl,_⟩:=id hs
 have HI:Hid (TblIs w cs t):=hI
 obtain⟨kv,av,dv,rfl,hok,hkr,har,hbr⟩:=hI
 obtain⟨ka,kc,rfl,hkc⟩:=hkr.1.slice
 obtain⟨ta,tc,rfl,htc⟩:=har.1.slice
 obtain⟨ba,bc,rfl,_⟩:=hbr.1.slice
 have hkl:t.keys.length*40≤140737488351232:=hkr.2
 have hal:t.actions.length*16≤140737488351232:=har.2
 have HKR:Hid (KyRow w (.slice ka t.keys.length kc) t.keys):=hkr
 have HAR:Hid (TxtRow w (.slice ta t.actions.length tc) t.actions):=har
 have HBR:Hid (BitRow w (.slice ba t.dflt.args.length bc) t.dflt.args):=hbr
 have hokc:Okt t.dflt.action:=hok.2.2
 have HR:Hid (keysD s t.keys=if ¬(1≤t.keys.length∧t.keys.length≤8) then 74 else keysLD s (kindF t.keys 1) t.keys false):=rfl
 generalize keysD s t.keys=R at*
 have C1:Hid (∀ V,Pres w V→Cs 21 #[.agg #[.string t.name,.slice ka t.keys.length kc,.slice ta t.actions.length tc,.int .i64 t.size,.string t.dflt.action,.slice ba t.dflt.args.length bc,.bool t.fixed]] V fun e w'=>e=.returned (.int .i64 (kindF t.keys 1))∧Bl V w'):=fun V hp=>rkind_any t _ V (HI.out.pres hp)
 have C2:Hid (∀ V r,SchIs V (.agg #[v0,v1,v2,v3,v4,v5]) s→Cs 165 #[.agg #[v0,v1,v2,v3,v4,v5],.agg #[.string r.head,.string r.name]] V fun e w'=>e=.returned (.tuple #[.int .i64 ((widO s r).getD 0),.bool (widO s r).isSome])∧Bl V w'):=fun V r h=>rwidth_any _ s r V h
 obtain⟨n,hn⟩:∃ n,n=t.keys.length:=⟨_,rfl⟩
 obtain⟨m,hm⟩:∃ m,m=t.actions.length:=⟨_,rfl⟩
 obtain⟨q,hq⟩:∃ q,q=t.dflt.args.length:=⟨_,rfl⟩
 have HL:Hid (n=t.keys.length):=hn
 have HM:Hid (m=t.actions.length):=hm
 rw[← hn] at HR HKR hkl C1 hkc ⊢
 rw[← hm] at C1 ⊢
 rw[← hq] at C1 ⊢
 have H:Hid (Sb w w.heap.size v0 v1 v2 v3 v4 v5 s ((w.alloc (.cells #[v0,v1,v2,v3,v4,v5] 34)).alloc (.cells #[.string t.name,.slice ka n kc,.slice ta m tc,.int .i64 t.size,.string t.dflt.action,.slice ba q bc,.bool t.fixed] 51))∧Blk ((w.alloc (.cells #[v0,v1,v2,v3,v4,v5] 34)).alloc (.cells #[.string t.name,.slice ka n kc,.slice ta m tc,.int .i64 t.size,.string t.dflt.action,.slice ba q bc,.bool t.fixed] 51)) (w.heap.size+1) #[.string t.name,.slice ka n kc,.slice ta m tc,.int .i64 t.size,.string t.dflt.action,.slice ba q bc,.bool t.fixed] 51):=⟨(sb_new hs).more _,blk_two _ _ _ _⟩
 clear hs hkr har hbr hok HI hn hm hq
 go_enter Tryz.func216,Tryz.ntmps216
 go_upto_region 1 with fail
 generalize ((w.alloc _).alloc _)=W0 at H ⊢
 obtain⟨xb,hxb⟩:∃ xb,xb=w.heap.size:=⟨_,rfl⟩
 obtain⟨zb,hzb⟩:∃ zb,zb=w.heap.size+1:=⟨_,rfl⟩
 rw[← hzb,← hxb] at H
 rw[← hzb,← hxb]
 clear hxb hzb
 have z1:=H.out.2.cell 1 (v:=.slice ka n kc) rfl
 by_cases h1:1≤n
 case neg=>
  have h1':decide ((n:Int)<1)=true:=decide_eq_true (by omega)
  rw[if_pos (by omega)] at HR
  go_wp2;go_ret;exact⟨by rw[HR.out];rfl,H.out.1.bel⟩
 have h1':decide ((n:Int)<1)=false:=decide_eq_false (by omega)
 by_cases h8:n≤8
 case neg=>
  have h8':decide ((8:Int)<n)=true:=decide_eq_true (by omega)
  rw[if_pos (by omega)] at HR
  go_wp2;go_ret;exact⟨by rw[HR.out];rfl,H.out.1.bel⟩
 have h8':decide ((8:Int)<n)=false:=decide_eq_false (by omega)
 have H0:Hid (keysLD s (kindF t.keys 1) (t.keys.drop 0) false=R):=by show _=_;rw[HR.out,if_neg (by omega)];rfl
 clear HR
 generalize kindF t.keys 1=kd at*
 have HP:Hid (Pres w W0):=pres_below H.out.1.bel
 clear z1
 obtain⟨z0,z1,z2,z3,z4,z5,z6⟩:=H.out.2.c7
 go_wp2_with fail
 refine(C1.out _ HP.out).mono ?_
 rintro e W1 ⟨rfl,hb⟩
 have H1:Hid (Sb w xb v0 v1 v2 v3 v4 v5 s W1∧Blk W1 zb #[.string t.name,.slice ka n kc,.slice ta m tc,.int .i64 t.size,.string t.dflt.action,.slice ba q bc,.bool t.fixed] 51):=⟨H.out.1.below hb,H.out.2.below hb⟩
 clear hb H z0 z1 z2 z3 z4 z5 z6 C1 HP
 go_wp2_with fail
 go_loopw [6,7] (fun p i wr=>∃(k:Nat) (pb:Bool),k≤n∧p=.bool pb∧i=.int .i64 k∧Aside (Sb w xb v0 v1 v2 v3 v4 v5 s wr∧Blk wr zb #[.string t.name,.slice ka n kc,.slice ta m tc,.int .i64 t.size,.string t.dflt.action,.slice ba q bc,.bool t.fixed] 51)∧Aside (keysLD s kd (t.keys.drop k) pb=R)) (fun _ i _=>n - (intOf i).toNat)
 case atStart=>exact⟨0,false,by omega,rfl,rfl,H1.out,H0.out⟩
 case round=>
  clear H0 H1
  obtain⟨k,pb,hk,rfl,rfl,hS,hd⟩:=hrel
  have H:Hid (Sb w xb v0 v1 v2 v3 v4 v5 s wr∧Blk wr zb #[.string t.name,.slice ka n kc,.slice ta m tc,.int .i64 t.size,.string t.dflt.action,.slice ba q bc,.bool t.fixed] 51):=hS.out
  have HD:Hid (keysLD s kd (t.keys.drop k) pb=R):=hd.out
  clear hS hd
  have z1:=H.out.2.cell 1 (v:=.slice ka n kc) rfl
  by_cases hlt:k<n
  ·obtain⟨y,hy⟩:=gE HL.out hlt
   obtain⟨b,o,cl,rfl,_,hc,rfl,_⟩:=HKR.out.1.at hy
   have HS:Hid (R=if(widO s y.ref).isSome=false then 72 else if y.kind<1∨4<y.kind then 75 else if y.kind=2∧(pb=true∨kd=3) then 75 else keysLD s kd (t.keys.drop (k+1)) (pb||decide (y.kind=2))):=by show _=_;rw[← HD.out,keysLD_step hy]
   have CW:Hid (∀ z:Grown wr,Cs 165 #[.agg #[v0,v1,v2,v3,v4,v5],.agg #[.string y.ref.head,.string y.ref.name]] (gw z) fun e w'=>e=.returned (.tuple #[.int .i64 ((widO s y.ref).getD 0),.bool (widO s y.ref).isSome])∧Below (gw z).heap.size (gw z) w'):=fun z=>C2.out _ y.ref (H.out.1.below (gw_below z)).sch
   have q0:∀ z:Grown wr,(gw z).cell? ⟨b,o+k*3,none⟩=some (.string y.ref.head):=gw_cell (by have:=pres_below H.out.1.bel _ _ (hc 0 _ rfl);simpa using this)
   have q1:∀ z:Grown wr,(gw z).cell? ⟨b,o+k*3+1,none⟩=some (.string y.ref.name):=gw_cell (by have:=pres_below H.out.1.bel _ _ (hc 1 _ rfl);simpa using this)
   have Q2:∀ z:Grown wr,(gw z).cell? ⟨b,o+k*3+2,none⟩=some (.int .i64 y.kind):=gw_cell (by have:=pres_below H.out.1.bel _ _ (hc 2 _ rfl);simpa using this)
   have HQ2:Hid (∀ z:Grown wr,(gw z).cell? ⟨b,o+k*3+2,none⟩=some (.int .i64 y.kind)):=Q2
   obtain⟨X0,X1,X2,X3,X4,X5⟩:=H.out.1.c
   have X0':=gw_cell X0
   have X1':=gw_cell X1
   have X2':=gw_cell X2
   have X3':=gw_cell X3
   have X4':=gw_cell X4
   have X5':=gw_cell X5
   have Z1':∀ z:Grown wr,(gw z).cell? ⟨zb,1,none⟩=some (.slice (some ⟨b,o,none⟩) n kc):=gw_cell z1
   have hdl:decide ((k:Int)<n)=true:=decide_eq_true (by omega)
   have hin:(0:Int)≤(k:Int)∧(k:Int)<(n:Int):=by omega
   clear hc hy HD Q2 X0 X1 X2 X3 X4 X5
   generalize (widO s y.ref).isSome=wo at*
   generalize (widO s y.ref).getD 0=wd at*
   go_upto_region 8 with fail
   refine region_grows (by kernel_rfl) (by kernel_rfl) ?_
   repeat (go_big_quiet_step ((go_at_call 165;exact calls_gw (CW.out _))))
   refine wpQuiet_nil ?_
   intro wq hwq
   obtain⟨zq,hwq⟩:=hwq
   subst hwq
   have H1:Hid (Sb w xb v0 v1 v2 v3 v4 v5 s (gw zq)∧Blk (gw zq) zb #[.string t.name,.slice (some ⟨b,o,none⟩) n kc,.slice ta m tc,.int .i64 t.size,.string t.dflt.action,.slice ba q bc,.bool t.fixed] 51):=⟨H.out.1.below (gw_below zq),H.out.2.below (gw_below zq)⟩
   clear H CW q0 q1 X0' X1' X2' X3' X4' X5' Z1' z1
   have q2:=HQ2.out zq
   clear HQ2
   generalize gw zq=V1 at H1 q2 ⊢
   cases wo with
   | false=>go_wp2;go_ret;exact⟨by rw[HS.out];rfl,H1.out.1.bel⟩
   | true=>
    rw[if_neg (by simp)] at HS
    have z1:=H1.out.2.cell 1 (v:=.slice (some ⟨b,o,none⟩) n kc) rfl
    by_cases k1:y.kind<1
    ·have k1':decide (y.kind<1)=true:=decide_eq_true k1
     rw[if_pos (.inl k1)] at HS
     go_wp2;go_ret;exact⟨by rw[HS.out];rfl,H1.out.1.bel⟩
    have k1':decide (y.kind<1)=false:=decide_eq_false k1
    by_cases k4:4<y.kind
    ·have k4':decide (4<y.kind)=true:=decide_eq_true k4
     rw[if_pos (.inr k4)] at HS
     go_wp2;go_ret;exact⟨by rw[HS.out];rfl,H1.out.1.bel⟩
    have k4':decide (4<y.kind)=false:=decide_eq_false k4
    rw[if_neg (by omega)] at HS
    by_cases k2:y.kind=2
    ·have HK:Hid (decide (y.kind=2)=true):=decide_eq_true k2
     rw[HK.out] at HS
     rw[k2] at q2
     cases pb with
     | true=>
      rw[if_pos ⟨k2,.inl rfl⟩] at HS
      go_wp2;go_ret;exact⟨by rw[HS.out];rfl,H1.out.1.bel⟩
     | false=>
      by_cases k3:kd=3
      ·rw[if_pos ⟨k2,.inr k3⟩] at HS
       subst k3
       go_wp2;go_ret;exact⟨by rw[HS.out];rfl,H1.out.1.bel⟩
      ·have k3':(kd==3)=false:=by simpa using k3
       rw[if_neg (by simp[k3])] at HS
       go_wp2
       exact⟨⟨k+1,true,by omega,rfl,by go_num,H1.out,HS.out.symm⟩,by simp only[intOf];omega⟩
    ·have HK:Hid (decide (y.kind=2)=false):=decide_eq_false k2
     have k2':(y.kind==2)=false:=by simpa using k2
     rw[if_neg (fun h=>k2 h.1),HK.out,Bool.or_false] at HS
     cases pb<;>(go_wp2;exact⟨⟨k+1,_,by omega,rfl,by go_num,H1.out,HS.out.symm⟩,by simp only[intOf];omega⟩)
  ·have e:k=n:=by omega
   subst e
   have HF:Hid (R=0):=by show _=_;rw[← HD.out,List.drop_of_length_le (by rw[← HL.out];omega)];rfl
   have hdl:decide ((k:Int)<k)=false:=decide_eq_false (by omega)
   go_wp2;go_ret;exact⟨by rw[HF.out];rfl,H.out.1.bel⟩
theorem hasT_sn (xs:List ByteArray)(k:Nat)(x:ByteArray):hasT (xs.take k) x=hasT (snN (fun x=>x) xs k) x:=by
 rw[Bool.eq_iff_iff,hasT_iff,hasT_iff]
 unfold snN
 rw[List.mem_reverse,List.map_id']
def tableD (s:Sch)(t:Tbl):Int:=if keysD s t.keys≠0 then keysD s t.keys else if canE (fun a=>decide (0≤actAt s a)) t.actions≠0 then canE (fun a=>decide (0≤actAt s a)) t.actions else if ¬(1≤t.size∧t.size≤4096) then 74 else callE s t.name t.dflt
theorem rtable_any (v:Value)(s:Sch)(t:Tbl)(cs:Array Value)(w:World)(hs:SchIs w v s)(hI:TblIs w cs t):Calls Tryz.prog 162 #[v,.agg cs] w fun e w'=>e=.returned (.int .i64 (tableD s t))∧Below w.heap.size w w':=by
 obtain⟨v0,v1,v2,v3,v4,v5,rfl,_⟩:=id hs
 have HI:Hid (TblIs w cs t):=hI
 obtain⟨kv,av,dv,rfl,hok,hkr,har,hbr⟩:=hI
 obtain⟨ka,kc,rfl,hkc⟩:=hkr.1.slice
 obtain⟨ta,tc,rfl,htc⟩:=har.1.slice
 obtain⟨ba,bc,rfl,_⟩:=hbr.1.slice
 have hkl:t.keys.length*40≤140737488351232:=hkr.2
 have hal:t.actions.length*16≤140737488351232:=har.2
 have HKR:Hid (KyRow w (.slice ka t.keys.length kc) t.keys):=hkr
 have HAR:Hid (TxtRow w (.slice ta t.actions.length tc) t.actions):=har
 have HBR:Hid (BitRow w (.slice ba t.dflt.args.length bc) t.dflt.args):=hbr
 have hokc:Okt t.dflt.action:=hok.2.2
 have HR:Hid (tableD s t=if keysD s t.keys≠0 then keysD s t.keys else if canE (fun a=>decide (0≤actAt s a)) t.actions≠0 then canE (fun a=>decide (0≤actAt s a)) t.actions else if ¬(1≤t.size∧t.size≤4096) then 74 else callE s t.name t.dflt):=rfl
 generalize tableD s t=R at*
 have C1:Hid (∀ V,SchIs V (.agg #[v0,v1,v2,v3,v4,v5]) s→Pres w V→Cs 216 #[.agg #[v0,v1,v2,v3,v4,v5],.agg #[.string t.name,.slice ka t.keys.length kc,.slice ta t.actions.length tc,.int .i64 t.size,.string t.dflt.action,.slice ba t.dflt.args.length bc,.bool t.fixed]] V fun e w'=>e=.returned (.int .i64 (keysD s t.keys))∧Bl V w'):=fun V h hp=>rkeys_any _ s t _ V h (HI.out.pres hp)
 have C2:Hid (∀ V a,SchIs V (.agg #[v0,v1,v2,v3,v4,v5]) s→Cs 130 #[.agg #[v0,v1,v2,v3,v4,v5],.string a] V fun e w'=>e=.returned (.int .i64 (actAt s a))∧Bl V w'):=fun V a h=>ractAt_any _ s a V h
 have C3:Hid (∀ V,SchIs V (.agg #[v0,v1,v2,v3,v4,v5]) s→Pres w V→Cs 83 #[.agg #[v0,v1,v2,v3,v4,v5],.string t.name,.agg #[.string t.dflt.action,.slice ba t.dflt.args.length bc]] V fun e w'=>e=.returned (.int .i64 (callE s t.name t.dflt))∧Bl V w'):=fun V h hp=>rcall_any _ s t.name _ t.dflt V h ⟨_,rfl,hokc,HBR.out.pres hp⟩
 have HCE:Hid (canE (fun a=>decide (0≤actAt s a)) t.actions=if ¬(1≤t.actions.length∧t.actions.length≤64) then 74 else canL (fun a=>decide (0≤actAt s a)) t.actions []):=rfl
 obtain⟨n,hn⟩:∃ n,n=t.keys.length:=⟨_,rfl⟩
 obtain⟨m,hm⟩:∃ m,m=t.actions.length:=⟨_,rfl⟩
 obtain⟨q,hq⟩:∃ q,q=t.dflt.args.length:=⟨_,rfl⟩
 have HL:Hid (n=t.keys.length):=hn
 have HM:Hid (m=t.actions.length):=hm
 rw[← hn] at C1 hkc ⊢
 rw[← hm] at C1 HAR hal htc HCE ⊢
 rw[← hq] at C1 C3 ⊢
 have H:Hid (Sb w w.heap.size v0 v1 v2 v3 v4 v5 s ((w.alloc (.cells #[v0,v1,v2,v3,v4,v5] 34)).alloc (.cells #[.string t.name,.slice ka n kc,.slice ta m tc,.int .i64 t.size,.string t.dflt.action,.slice ba q bc,.bool t.fixed] 51))∧Blk ((w.alloc (.cells #[v0,v1,v2,v3,v4,v5] 34)).alloc (.cells #[.string t.name,.slice ka n kc,.slice ta m tc,.int .i64 t.size,.string t.dflt.action,.slice ba q bc,.bool t.fixed] 51)) (w.heap.size+1) #[.string t.name,.slice ka n kc,.slice ta m tc,.int .i64 t.size,.string t.dflt.action,.slice ba q bc,.bool t.fixed] 51):=⟨(sb_new hs).more _,blk_two _ _ _ _⟩
 clear hs hkr har hbr hok HI hn hm hq
 go_enter Tryz.func162,Tryz.ntmps162
 go_upto_region 1 with fail
 generalize ((w.alloc _).alloc _)=W0 at H ⊢
 obtain⟨xb,hxb⟩:∃ xb,xb=w.heap.size:=⟨_,rfl⟩
 obtain⟨zb,hzb⟩:∃ zb,zb=w.heap.size+1:=⟨_,rfl⟩
 rw[← hzb,← hxb] at H
 rw[← hzb,← hxb]
 clear hxb hzb
 generalize keysD s t.keys=ke at*
 generalize callE s t.name t.dflt=cl at*
 generalize canE (fun a=>decide (0≤actAt s a)) t.actions=ce at*
 obtain⟨x0,x1,x2,x3,x4,x5⟩:=H.out.1.c
 obtain⟨z0,z1,z2,z3,z4,z5,z6⟩:=H.out.2.c7
 go_wp2_with fail
 refine(C1.out _ H.out.1.sch (pres_below H.out.1.bel)).mono ?_
 rintro e W1 ⟨rfl,hb⟩
 have H1:Hid (Sb w xb v0 v1 v2 v3 v4 v5 s W1∧Blk W1 zb #[.string t.name,.slice ka n kc,.slice ta m tc,.int .i64 t.size,.string t.dflt.action,.slice ba q bc,.bool t.fixed] 51):=⟨H.out.1.below hb,H.out.2.below hb⟩
 clear hb H x0 x1 x2 x3 x4 x5 z0 z1 z2 z3 z4 z5 z6 C1
 by_cases hk0:ke=0
 case neg=>
  have hk':(ke==0)=false:=by simpa using hk0
  rw[if_pos hk0] at HR
  go_wp2;go_ret;exact⟨by rw[HR.out];rfl,H1.out.1.bel⟩
 subst hk0
 rw[if_neg (by simp)] at HR
 have z2:=H1.out.2.cell 2 (v:=.slice ta m tc) rfl
 by_cases h1:1≤m
 case neg=>
  have h1':decide ((m:Int)<1)=true:=decide_eq_true (by omega)
  rw[if_pos (by omega)] at HCE
  rw[HCE.out,if_pos (by simp)] at HR
  go_wp2;go_ret;exact⟨by rw[HR.out];rfl,H1.out.1.bel⟩
 have h1':decide ((m:Int)<1)=false:=decide_eq_false (by omega)
 by_cases h8:m≤64
 case neg=>
  have h8':decide ((64:Int)<m)=true:=decide_eq_true (by omega)
  rw[if_pos (by omega)] at HCE
  rw[HCE.out,if_pos (by simp)] at HR
  go_wp2;go_ret;exact⟨by rw[HR.out];rfl,H1.out.1.bel⟩
 have h8':decide ((64:Int)<m)=false:=decide_eq_false (by omega)
 have H0:Hid (canL (fun a=>decide (0≤actAt s a)) (t.actions.drop 0) (snN (fun x=>x) t.actions 0)=ce):=by show _=_;rw[HCE.out,if_neg (by omega)];rfl
 clear HCE
 go_wp2_with fail
 clear z2
 go_loopw [6] (fun i wr=>∃(k:Nat),k≤m∧i=.int .i64 k∧Aside (Sb w xb v0 v1 v2 v3 v4 v5 s wr∧Blk wr zb #[.string t.name,.slice ka n kc,.slice ta m tc,.int .i64 t.size,.string t.dflt.action,.slice ba q bc,.bool t.fixed] 51)∧Aside (canL (fun a=>decide (0≤actAt s a)) (t.actions.drop k) (snN (fun x=>x) t.actions k)=ce)) (fun i _=>m - (intOf i).toNat)
 case atStart=>exact⟨0,by omega,rfl,H1.out,H0.out⟩
 case round=>
  clear H0 H1
  obtain⟨k,hk,rfl,hS,hd⟩:=hrel
  have H:Hid (Sb w xb v0 v1 v2 v3 v4 v5 s wr∧Blk wr zb #[.string t.name,.slice ka n kc,.slice ta m tc,.int .i64 t.size,.string t.dflt.action,.slice ba q bc,.bool t.fixed] 51):=hS.out
  have HD:Hid (canL (fun a=>decide (0≤actAt s a)) (t.actions.drop k) (snN (fun x=>x) t.actions k)=ce):=hd.out
  clear hS hd
  have z2:=H.out.2.cell 2 (v:=.slice ta m tc) rfl
  by_cases hlt:k<m
  ·obtain⟨y,hy⟩:=gE HM.out hlt
   obtain⟨b,o,cl',rfl,_,hc,rfl,_⟩:=HAR.out.1.at hy
   have HS:Hid (ce=if decide (0≤actAt s y)=false then 72 else if hasT (t.actions.take k) y=true then 71 else canL (fun a=>decide (0≤actAt s a)) (t.actions.drop (k+1)) (snN (fun x=>x) t.actions (k+1))):=by show _=_;rw[← HD.out,can_step hy,sn_succ hy,hasT_sn]
   have CA:Hid (∀ z:Grown wr,Cs 130 #[.agg #[v0,v1,v2,v3,v4,v5],.string y] (gw z) fun e w'=>e=.returned (.int .i64 (actAt s y))∧Below (gw z).heap.size (gw z) w'):=fun z=>C2.out _ y (H.out.1.below (gw_below z)).sch
   have CH:Hid (∀ V,Below w.heap.size w V→Cs 89 #[.slice (some ⟨b,o,none⟩) k tc,.string y] V fun e w'=>e=.returned (.bool (hasT (t.actions.take k) y))∧w'=V):=fun V h=>rhas_any _ (t.actions.take k) y V ((HAR.out.1.pres (pres_below h) (fun _ _ _ h=>h)).take hk) (by rw[List.length_take];omega)
   have HQ:Hid (∀ V,Bl w V→V.cell? ⟨b,o+k,none⟩=some (.string y)):=fun V h=>by have:=pres_below h _ _ (hc 0 _ rfl);simpa using this
   have q0:∀ z:Grown wr,(gw z).cell? ⟨b,o+k,none⟩=some (.string y):=gw_cell (HQ.out _ H.out.1.bel)
   obtain⟨X0,X1,X2,X3,X4,X5⟩:=H.out.1.c
   have X0':=gw_cell X0
   have X1':=gw_cell X1
   have X2':=gw_cell X2
   have X3':=gw_cell X3
   have X4':=gw_cell X4
   have X5':=gw_cell X5
   have Z2':∀ z:Grown wr,(gw z).cell? ⟨zb,2,none⟩=some (.slice (some ⟨b,o,none⟩) m tc):=gw_cell z2
   have hdl:decide ((k:Int)<m)=true:=decide_eq_true (by omega)
   have hin:(0:Int)≤(k:Int)∧(k:Int)<(m:Int):=by omega
   clear hc hy HD X0 X1 X2 X3 X4 X5
   obtain⟨nx,hnx⟩:∃ nx,nx=canL (fun a=>decide (0≤actAt s a)) (t.actions.drop (k+1)) (snN (fun x=>x) t.actions (k+1)):=⟨_,rfl⟩
   have HNX:Hid (nx=canL (fun a=>decide (0≤actAt s a)) (t.actions.drop (k+1)) (snN (fun x=>x) t.actions (k+1))):=hnx
   rw[← hnx] at HS
   clear hnx
   generalize hasT (t.actions.take k) y=hb0 at*
   obtain⟨ai,hai⟩:∃ ai,ai=actAt s y:=⟨_,rfl⟩
   rw[← hai] at CA HS
   clear hai
   go_upto_region 9 with fail
   refine region_grows (by kernel_rfl) (by kernel_rfl) ?_
   repeat (go_big_quiet_step ((go_at_call 130;exact calls_gw (CA.out _))))
   refine wpQuiet_nil ?_
   intro wq hwq
   obtain⟨zq,hwq⟩:=hwq
   subst hwq
   have H1:Hid (Sb w xb v0 v1 v2 v3 v4 v5 s (gw zq)∧Blk (gw zq) zb #[.string t.name,.slice ka n kc,.slice (some ⟨b,o,none⟩) m tc,.int .i64 t.size,.string t.dflt.action,.slice ba q bc,.bool t.fixed] 51):=⟨H.out.1.below (gw_below zq),H.out.2.below (gw_below zq)⟩
   clear H CA q0 X0' X1' X2' X3' X4' X5' Z2' z2
   generalize gw zq=V1 at H1 ⊢
   by_cases ha:ai<0
   ·have ha':decide (ai<0)=true:=decide_eq_true ha
    rw[if_pos (decide_eq_false (by omega))] at HS
    rw[HS.out,if_pos (by simp)] at HR
    go_wp2;go_ret;exact⟨by rw[HR.out];rfl,H1.out.1.bel⟩
   have ha':decide (ai<0)=false:=decide_eq_false ha
   rw[if_neg (by simp;omega)] at HS
   have z2':∀ z:Grown V1,(gw z).cell? ⟨zb,2,none⟩=some (.slice (some ⟨b,o,none⟩) m tc):=gw_cell (H1.out.2.cell 2 rfl)
   have q0':∀ z:Grown V1,(gw z).cell? ⟨b,o+k,none⟩=some (.string y):=gw_cell (HQ.out _ H1.out.1.bel)
   have CH1:Hid (∀ z:Grown V1,Cs 89 #[.slice (some ⟨b,o,none⟩) k tc,.string y] (gw z) fun e w'=>e=.returned (.bool hb0)∧w'=gw z):=fun z=>CH.out _ (H1.out.1.below (gw_below z)).bel
   have hkc2:k≤tc:=by omega
   go_upto_region 11 with fail
   refine region_grows (by kernel_rfl) (by kernel_rfl) ?_
   repeat (go_big_quiet_step ((go_at_call 89;exact calls_gw_same (CH1.out _))))
   refine wpQuiet_nil ?_
   intro wq hwq
   obtain⟨zq,hwq⟩:=hwq
   subst hwq
   have H3:Hid (Sb w xb v0 v1 v2 v3 v4 v5 s (gw zq)∧Blk (gw zq) zb #[.string t.name,.slice ka n kc,.slice (some ⟨b,o,none⟩) m tc,.int .i64 t.size,.string t.dflt.action,.slice ba q bc,.bool t.fixed] 51):=⟨H1.out.1.below (gw_below zq),H1.out.2.below (gw_below zq)⟩
   clear H1 CH1 CH q0' z2' HQ
   generalize gw zq=V2 at H3 ⊢
   cases hb0 with
   | true=>
    rw[if_pos rfl] at HS
    rw[HS.out,if_pos (by simp)] at HR
    go_wp2;go_ret;exact⟨by rw[HR.out];rfl,H3.out.1.bel⟩
   | false=>
    rw[if_neg (by simp)] at HS
    go_wp2
    exact⟨⟨k+1,by omega,by go_num,H3.out,by show _=_;rw[← HNX.out];exact HS.out.symm⟩,by simp only[intOf];omega⟩
  ·have e:k=m:=by omega
   subst e
   have HF:Hid (ce=0):=by show _=_;rw[← HD.out,List.drop_of_length_le (by rw[← HM.out];omega)];rfl
   have hdl:decide ((k:Int)<k)=false:=decide_eq_false (by omega)
   rw[HF.out,if_neg (by simp)] at HR
   have z3:=H.out.2.cell 3 (v:=.int .i64 t.size) rfl
   by_cases s1:t.size<1
   ·have s1':decide (t.size<1)=true:=decide_eq_true s1
    rw[if_pos (by omega)] at HR
    go_wp2;go_ret;exact⟨by rw[HR.out];rfl,H.out.1.bel⟩
   have s1':decide (t.size<1)=false:=decide_eq_false s1
   by_cases s2:4096<t.size
   ·have s2':decide (4096<t.size)=true:=decide_eq_true s2
    rw[if_pos (by omega)] at HR
    go_wp2;go_ret;exact⟨by rw[HR.out];rfl,H.out.1.bel⟩
   have s2':decide (4096<t.size)=false:=decide_eq_false s2
   rw[if_neg (by omega)] at HR
   obtain⟨x0,x1,x2,x3,x4,x5⟩:=H.out.1.c
   have z0:=H.out.2.cell 0 (v:=.string t.name) rfl
   have z4:=H.out.2.cell 4 (v:=.string t.dflt.action) rfl
   have z5:=H.out.2.cell 5 (v:=.slice ba q bc) rfl
   go_wp2_with fail
   refine(C3.out _ H.out.1.sch (pres_below H.out.1.bel)).mono ?_
   rintro e W5 ⟨rfl,hb⟩
   have H5:Hid (Sb w xb v0 v1 v2 v3 v4 v5 s W5):=H.out.1.below hb
   clear hb H x0 x1 x2 x3 x4 x5 z0 z2 z3 z4 z5 C3
   go_wp2;go_ret;exact⟨by rw[HR.out];rfl,H5.out.bel⟩
end Go.Proofs.YtmbpclknhkbbkaaGreat
