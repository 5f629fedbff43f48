/- The document's Call. -/
import Derived.Test.YtmbpclknhkbbkaaGreatVkz
import Derived.Test.YtmbpclknhkbbkaaGreatB15
set_option linter.unusedSimpArgs false
set_option linter.unusedVariables false
set_option maxHeartbeats 4000000
set_option maxRecDepth 100000
namespace Go.Proofs.YtmbpclknhkbbkaaGreat
open Go.RowKit
theorem fitAll_two {xs:List Nat}{ys:List Fld}{k:Nat}{x:Nat}{y:Fld}(hx:xs[k]?=some x)(hy:ys[k]?=some y):fitAll (xs.drop k) (ys.drop k)=(fitsN x y.width&&fitAll (xs.drop (k+1)) (ys.drop (k+1))):=by
 obtain⟨h1,e1⟩:=List.getElem?_eq_some_iff.1 hx
 obtain⟨h2,e2⟩:=List.getElem?_eq_some_iff.1 hy
 rw[List.drop_eq_getElem_cons h1,List.drop_eq_getElem_cons h2,e1,e2,fitAll]
theorem rcall_any (v:Value)(s:Sch)(name:ByteArray)(u:Value)(c:Cl)(w:World)(hs:SchIs w v s)(hc:ClIs w u c):Calls Tryz.prog 83 #[v,.string name,u] w fun e w'=>e=.returned (.int .i64 (callE s name c))∧Below w.heap.size w w':=by
 obtain⟨a0,c0,a1,c1,a2,c2,a3,c3,a4,c4,a5,c5,rfl,h0,h1,h2,h3,h4,h5⟩:=hs.parts
 obtain⟨ua,rfl,hca,hcr⟩:=hc
 obtain⟨ca,cc,rfl,_⟩:=hcr.1.slice
 have HS:Hid (SchIs w (.agg (bxA s a0 c0 a1 c1 a2 c2 a3 c3 a4 c4 a5 c5)) s):=hs
 have HT:Hid (TblRow w (.slice a4 s.tables.length c4) s.tables):=h4
 have HA:Hid (ActRow w (.slice a3 s.actions.length c3) s.actions):=h3
 have HG:Hid (BitRow w (.slice ca c.args.length cc) c.args):=hcr
 have HB0:Hid (Bl w ((w.alloc (.cells (bxA s a0 c0 a1 c1 a2 c2 a3 c3 a4 c4 a5 c5) 34)).alloc (.cells #[.string c.action,.slice ca c.args.length cc] 45))):=((Below.refl _ _).alloc (Nat.le_refl _) _).alloc (by simp) _
 have HX0:Hid (Blk ((w.alloc (.cells (bxA s a0 c0 a1 c1 a2 c2 a3 c3 a4 c4 a5 c5) 34)).alloc (.cells #[.string c.action,.slice ca c.args.length cc] 45)) w.heap.size (bxA s a0 c0 a1 c1 a2 c2 a3 c3 a4 c4 a5 c5) 34):=(Blk.new _ _ _).below ((Below.refl _ _).alloc (Nat.le_refl _) _)
 have HY0:Hid (Blk ((w.alloc (.cells (bxA s a0 c0 a1 c1 a2 c2 a3 c3 a4 c4 a5 c5) 34)).alloc (.cells #[.string c.action,.slice ca c.args.length cc] 45)) (w.heap.size+1) #[.string c.action,.slice ca c.args.length cc] 45):=by
  have:=Blk.new (w.alloc (.cells (bxA s a0 c0 a1 c1 a2 c2 a3 c3 a4 c4 a5 c5) 34)) #[.string c.action,.slice ca c.args.length cc] 45
  show Blk _ _ _ _
  simpa using this
 have CT:Hid (∀ W,Bl w W→Cs 131 #[.agg (bxA s a0 c0 a1 c1 a2 c2 a3 c3 a4 c4 a5 c5),.string name] W fun e w'=>e=.returned (.int .i64 (tblAt s name))∧Bl W w'):=fun W hb=>rtblAt_any _ s name W (hs.pres (pres_below hb))
 have CA:Hid (∀ W,Bl w W→Cs 130 #[.agg (bxA s a0 c0 a1 c1 a2 c2 a3 c3 a4 c4 a5 c5),.string c.action] W fun e w'=>e=.returned (.int .i64 (actAt s c.action))∧Bl W w'):=fun W hb=>ractAt_any _ s c.action W (hs.pres (pres_below hb))
 have HE : Hid (callE s name c = match s.tables.find? (fun x => decide (x.name = name)), s.actions.find? (fun x => decide (x.name = c.action)) with
   | none, _ => 110
   | some x, none => 113
   | some x, some a => if hasT x.actions c.action = true then (if fitAll c.args a.params = true then 0 else 76) else 113) := rfl
 generalize callE s name c=R at*
 clear hs h0 h1 h2 h3 h4 h5 hca hcr
 go_enter Tryz.func83,Tryz.ntmps83
 go_upto_region 1 with fail
 generalize ((w.alloc _).alloc _)=W0 at HB0 HX0 HY0 ⊢
 obtain⟨xb,hxb⟩:∃ xb,xb=w.heap.size:=⟨_,rfl⟩
 obtain⟨yb,hyb⟩:∃ yb,yb=w.heap.size+1:=⟨_,rfl⟩
 rw[← hxb] at HX0
 rw[← hyb] at HY0 ⊢
 rw[← hxb]
 clear hxb hyb
 obtain⟨x0,x1,x2,x3,x4,x5⟩:=HX0.out.c6
 go_wp2_with fail
 refine(CT.out _ HB0.out).mono ?_
 rintro e W1 ⟨rfl,hb⟩
 have HB1:Hid (Bl w W1):=bst HB0.out hb
 have HX1:=hblk HX0 hb
 have HY1:=hblk HY0 hb
 clear hb HB0 HX0 HY0 CT x0 x1 x2 x3 x4 x5
 rcases tblAt_find s name with⟨ht,hf⟩|⟨i,x,hx,hf,ht⟩
 ·have HR:Hid (R=110):=by show _=_;rw[HE.out,hf]
  rw[ht]
  clear HE hf ht
  go_wp2
  go_ret
  exact⟨by rw[HR.out];rfl,HB1.out⟩
 rw[ht]
 have HE2 : Hid (R = match s.actions.find? (fun x => decide (x.name = c.action)) with
   | none => 113
   | some a => if hasT x.actions c.action = true then (if fitAll c.args a.params = true then 0 else 76) else 113) := by
  show _=_
  rw[HE.out,hf]
  cases s.actions.find? (fun x=>decide (x.name=c.action))<;>rfl
 have hil:i<s.tables.length:=(List.getElem?_eq_some_iff.1 hx).1
 obtain⟨tb,tof,tcs,rfl,_,htc,vk,va,vd,rfl,_,_,htr,_⟩:=HT.out.1.at hx
 obtain⟨na,nc,rfl,_⟩:=htr.1.slice
 have HTR:Hid (TxtRow w (.slice na x.actions.length nc) x.actions):=htr
 have htk:=htc 2 (.slice na x.actions.length nc) rfl
 have hii:(0:Int)≤(i:Int)∧(i:Int)<(s.tables.length:Int):=by omega
 have hin:¬((i:Int)<0):=by omega
 clear HE hf ht hx htc htr HT
 obtain⟨x0,x1,x2,x3,x4,x5⟩:=HX1.out.c6
 have y0:=HY1.out.cell 0 (v:=.string c.action) rfl
 go_wp2_with fail
 refine(CA.out _ HB1.out).mono ?_
 rintro e W2 ⟨rfl,hb⟩
 have HB2:Hid (Bl w W2):=bst HB1.out hb
 have HX2:=hblk HX1 hb
 have HY2:=hblk HY1 hb
 clear hb HB1 HX1 HY1 CA y0 x0 x1 x2 x3 x4 x5
 have x4:=HX2.out.cell 4 (v:=.slice (some ⟨tb,tof,none⟩) s.tables.length c4) rfl
 have y0:=HY2.out.cell 0 (v:=.string c.action) rfl
 have t2:W2.cell? ⟨tb,tof+i*7+2,none⟩=some (.slice na x.actions.length nc):=pres_below HB2.out _ _ htk
 have CQ:Hid (∀ d,Cs 89 #[.slice na x.actions.length nc,.string c.action] (W2.drewN d) fun e w'=>e=.returned (.bool (hasT x.actions c.action))∧w'=W2.drewN d):=fun d=>rhas_any _ x.actions c.action _ ((HTR.out.pres (pres_below (below_drewN HB2.out d))).1) (by have h:x.actions.length*16≤_:=HTR.out.2;omega)
 go_upto_region 5 with fail
 go_quiet ((go_at_call 89;refine Calls.quiet_of_same (CQ.out _)))
 rename_i nq
 have HB3:Hid (Bl w (W2.drewN nq)):=below_drewN HB2.out _
 have HX3:Hid (Blk (W2.drewN nq) xb #[.slice a0 s.headers.length c0,.slice a1 s.metas.length c1,.slice a2 s.states.length c2,.slice a3 s.actions.length c3,.slice (some ⟨tb,tof,none⟩) s.tables.length c4,.slice a5 s.control.length c5] 34):=HX2.out
 have HY3:Hid (Blk (W2.drewN nq) yb #[.string c.action,.slice ca c.args.length cc] 45):=HY2.out
 clear HB2 HX2 HY2 CQ x4 y0 t2 HTR htk
 generalize W2.drewN nq=W3 at HB3 HX3 HY3 ⊢
 generalize hasT x.actions c.action=ht at*
 rcases actAt_find s c.action with⟨hac,hf⟩|⟨j,a,ha,hf,hac⟩
 ·have HR:Hid (R=113):=by show _=_;rw[HE2.out,hf]
  rw[hac]
  clear HE2 hf hac
  go_wp2
  go_ret
  exact⟨by rw[HR.out];rfl,HB3.out⟩
 rw[hac]
 have hjn:¬((j:Int)<0):=by omega
 cases ht
 ·have HR:Hid (R=113):=by show _=_;rw[HE2.out,hf];rfl
  clear HE2 hf hac
  go_wp2
  go_ret
  exact⟨by rw[HR.out];rfl,HB3.out⟩
 have HE3:Hid (R=if fitAll c.args a.params=true then 0 else 76):=by show _=_;rw[HE2.out,hf];rfl
 have hjl:j<s.actions.length:=(List.getElem?_eq_some_iff.1 ha).1
 obtain⟨ab,aof,acs,rfl,_,hak,pv,sv,rfl,_,hpr,_⟩:=HA.out.1.at ha
 obtain⟨pa,pc,rfl,_⟩:=hpr.1.slice
 have HPR:Hid (FldRow w (.slice pa a.params.length pc) a.params):=hpr
 have hpl:a.params.length*24≤140737488351232:=hpr.2
 have a1':W3.cell? ⟨ab,aof+j*3+1,none⟩=some (.slice pa a.params.length pc):=by have:=pres_below HB3.out _ _ (hak 1 (.slice pa a.params.length pc) rfl);simpa using this
 have hjj:(0:Int)≤(j:Int)∧(j:Int)<(s.actions.length:Int):=by omega
 have x3:=HX3.out.cell 3 (v:=.slice (some ⟨ab,aof,none⟩) s.actions.length c3) rfl
 have y1:=HY3.out.cell 1 (v:=.slice ca c.args.length cc) rfl
 clear HE2 hf hac ha hak hpr HA HS
 by_cases hne:¬ a.params.length=c.args.length
 ·have hne':¬((a.params.length:Int)=(c.args.length:Int)):=by omega
  have HR:Hid (R=76):=by show _=_;rw[HE3.out,fitAll_len _ _ (fun h=>hne h.symm)];rfl
  clear HE3
  go_wp2
  go_ret
  exact⟨by rw[HR.out];rfl,HB3.out⟩
 have hne:=Classical.not_not.1 hne
 obtain⟨n,hn⟩:∃ n,n=a.params.length:=⟨_,rfl⟩
 have HL:Hid (n=a.params.length∧n=c.args.length):=⟨hn,by omega⟩
 rw[← hne] at y1 HY3 HG
 rw[← hn] at y1 HY3 HG HPR hpl a1'
 clear hn hne
 have HGB:Hid (Row 2 (Flat BitC Is128) w (.slice ca n cc) c.args):=HG.out.1
 have HPB:Hid (Row 2 (Flat FldC FldOk) w (.slice pa n pc) a.params):=HPR.out.1
 have H00:Hid (fitAll c.args a.params=fitAll (c.args.drop 0) (a.params.drop 0)):=rfl
 generalize hfa:fitAll c.args a.params=fa at*
 clear HG HPR hfa
 generalize a.params=ys at*
 generalize c.args=zs at*
 go_wp2_with fail
 clear a1' x3 y1
 go_loopw [11] (fun k wr=>∃ kk:Nat,kk≤n∧k=.int .i64 kk∧Below w.heap.size w wr∧Blk wr yb #[.string c.action,.slice ca n cc] 45∧Aside (fa=fitAll (zs.drop kk) (ys.drop kk))) (fun k _=>n - (intOf k).toNat)
 case atStart=>exact⟨0,by omega,rfl,HB3.out,HY3.out,H00.out⟩
 case round=>
  obtain⟨kk,hkk,rfl,hb,hy,hA⟩:=hrel
  have HB:Hid (Bl w wr):=hb
  have HY:Hid (Blk wr yb #[.string c.action,.slice ca n cc] 45):=hy
  by_cases hlt:kk<n
  ·obtain⟨p,hp⟩:=gE HL.out.1 hlt
   obtain⟨q,hq⟩:=gE HL.out.2 hlt
   obtain⟨pb,po,cs,rfl,_,hpc,rfl,_⟩:=HPB.out.at hp
   obtain⟨qb,qo,cs2,rfl,_,hqc,rfl,hq128⟩:=HGB.out.at hq
   have CF:Hid (∀ z:Grown wr,Cs 169 #[.agg #[.int .u64 (hiOf q),.int .u64 (loOf q)],.int .i64 p.width] (gw z) fun e w'=>e=.returned (.bool (fitsN q p.width))∧Below (gw z).heap.size (gw z) w'):=fun z=>rfits_any q hq128 p.width _
   have HD:Hid (fa=(fitsN q p.width&&fitAll (zs.drop (kk+1)) (ys.drop (kk+1)))):=by show _=_;rw[hA.out,fitAll_two hq hp]
   generalize fitsN q p.width=fw at*
   have g1:∀ z:Grown wr,(gw z).cell? ⟨yb,1,none⟩=some (.slice (some ⟨qb,qo,none⟩) n cc):=gw_cell (hy.cell 1 rfl)
   have g2:∀ z:Grown wr,(gw z).cell? ⟨qb,qo+kk*2,none⟩=some (.int .u64 (hiOf q)):=gw_cell (by have:=pres_below hb _ _ (hqc 0 (.int .u64 (hiOf q)) rfl);simpa using this)
   have g3:∀ z:Grown wr,(gw z).cell? ⟨qb,qo+kk*2+1,none⟩=some (.int .u64 (loOf q)):=gw_cell (by have:=pres_below hb _ _ (hqc 1 (.int .u64 (loOf q)) rfl);simpa using this)
   have g4:∀ z:Grown wr,(gw z).cell? ⟨pb,po+kk*2+1,none⟩=some (.int .i64 p.width):=gw_cell (by have:=pres_below hb _ _ (hpc 1 (.int .i64 p.width) rfl);simpa using this)
   clear hA hb hy hp hq hpc hqc hq128
   generalize hiOf q=qh at*
   generalize loOf q=ql at*
   go_upto_region 14 with fail
   refine region_grows (by kernel_rfl) (by kernel_rfl) ?_
   repeat (go_big_quiet_step ((go_at_call 169;exact calls_gw (CF.out _))))
   refine wpQuiet_nil ?_
   intro wq hwq
   obtain⟨zq,hwq⟩:=hwq
   subst hwq
   have HB4:Hid (Bl w (gw zq)):=bst HB.out (gw_below zq) (Nat.le_refl _)
   have HY4:Hid (Blk (gw zq) yb #[.string c.action,.slice (some ⟨qb,qo,none⟩) n cc] 45):=HY.out.below (gw_below zq)
   clear CF g1 g2 g3 g4 HB HY
   generalize gw zq=W4 at HB4 HY4 ⊢
   cases fw
   ·have HR:Hid (R=76):=by show _=_;rw[HE3.out,HD.out];rfl
    clear HE3 HD
    go_wp2
    go_ret
    exact⟨by rw[HR.out];rfl,HB4.out⟩
   ·go_wp2
    exact⟨⟨kk+1,by omega,by go_num,HB4.out,HY4.out,by show _=_;rw[HD.out,Bool.true_and]⟩,by simp only[intOf];omega⟩
  ·have e:kk=n:=by omega
   subst e
   have HR:Hid (R=0):=by
    show _=_
    rw[HE3.out,hA.out,List.drop_of_length_le (by have:=HL.out.2;omega),List.drop_of_length_le (by have:=HL.out.1;omega)]
    rfl
   clear hA HE3
   go_wp2
   go_ret
   exact⟨by rw[HR.out];rfl,hb⟩
end Go.Proofs.YtmbpclknhkbbkaaGreat
