/- The document's Next. -/
import Derived.Test.YtmbpclknhkbbkaaGreatHbz
import Derived.Laws.OwnMore
set_option linter.unusedSimpArgs false
set_option linter.unusedVariables false
set_option maxHeartbeats 8000000
set_option maxRecDepth 100000
namespace Go.Proofs.YtmbpclknhkbbkaaGreat
open Go.RowKit
def edgeB (x y:Sta):Bool:=decide (x.next=y.name)||x.cases.any fun c=>decide (c.next=y.name)
theorem rnext_any (v:Value)(s:Sch)(i k:Nat)(x y:Sta)(w:World)(hs:SchIs w v s)(hx:s.states[i]?=some x)(hy:s.states[k]?=some y):Calls Tryz.prog 213 #[v,.int .i64 i,.int .i64 k] w fun e w'=>e=.returned (.bool (edgeB x y))∧Below w.heap.size w w':=by
 obtain⟨v0,v1,v2,v3,v4,v5,rfl,_,_,h0,_⟩:=id hs
 obtain⟨ad,cap,rfl,_⟩:=h0.1.slice
 have hlen:s.states.length*104≤140737488351232:=h0.2
 have hil:i<s.states.length:=(List.getElem?_eq_some_iff.1 hx).1
 have hkl:k<s.states.length:=(List.getElem?_eq_some_iff.1 hy).1
 obtain⟨b,o,cs,rfl,_,hc,hI⟩:=h0.1.at hx
 obtain⟨cv,rfl,_,hcr⟩:=hI
 obtain⟨ca,cc,rfl,_⟩:=hcr.1.slice
 have hml:x.cases.length*48≤140737488351232:=hcr.2
 obtain⟨b2,o2,cs2,e2,_,hc2,hI2⟩:=h0.1.at hy
 cases e2
 obtain⟨cv2,rfl,_⟩:=hI2
 have HCR:Hid (CasRow w (.slice ca x.cases.length cc) x.cases):=hcr
 obtain⟨n,hn⟩:∃ n,n=s.states.length:=⟨_,rfl⟩
 obtain⟨m,hm⟩:∃ m,m=x.cases.length:=⟨_,rfl⟩
 have HM:Hid (m=x.cases.length):=hm
 have H:Hid (Sb w w.heap.size v0 v1 (.slice (some ⟨b,o,none⟩) n cap) v3 v4 v5 s (w.alloc (.cells #[v0,v1,.slice (some ⟨b,o,none⟩) n cap,v3,v4,v5] 34))):=by rw[hn];exact sb_new hs
 have HV:Hid (∀ V,Bl w V→∀ j u,(#[.string x.name,.string x.header,.string x.on.head,.string x.on.name,.slice ca x.cases.length cc,.string x.next]:Array Value)[j]?=some u→V.cell? ⟨b,o+i*6+j,none⟩=some u):=fun V h j u hu=>pres_below h _ _ (hc j u hu)
 have HY:Hid (∀ V,Bl w V→V.cell? ⟨b,o+k*6,none⟩=some (.string y.name)):=fun V h=>by have:=pres_below h _ _ (hc2 0 _ rfl);simpa using this
 rw[← hm] at HCR hml HV
 rw[← hn] at hil hkl hlen ⊢
 clear hs h0 hx hy hc hc2 hcr hn hm
 obtain⟨R,hR⟩:∃ R,R=edgeB x y:=⟨_,rfl⟩
 have HE:Hid (R=(decide (x.next=y.name)||x.cases.any fun c=>decide (c.next=y.name))):=hR
 rw[← hR]
 clear hR
 go_enter Tryz.func213,Tryz.ntmps213
 go_upto_region 1 with fail
 generalize (w.alloc _)=W0 at H ⊢
 obtain⟨xb,hxb⟩:∃ xb,xb=w.heap.size:=⟨_,rfl⟩
 rw[← hxb] at H ⊢
 clear hxb
 obtain⟨_,_,x2,_⟩:=H.out.c
 have q0:W0.cell? ⟨b,o+i*6,none⟩=some (.string x.name):=by have:=HV.out W0 H.out.bel 0 _ rfl;simpa using this
 have q1:W0.cell? ⟨b,o+i*6+1,none⟩=some (.string x.header):=by have:=HV.out W0 H.out.bel 1 _ rfl;simpa using this
 have q2:W0.cell? ⟨b,o+i*6+2,none⟩=some (.string x.on.head):=by have:=HV.out W0 H.out.bel 2 _ rfl;simpa using this
 have q3:W0.cell? ⟨b,o+i*6+3,none⟩=some (.string x.on.name):=by have:=HV.out W0 H.out.bel 3 _ rfl;simpa using this
 have q4:W0.cell? ⟨b,o+i*6+4,none⟩=some (.slice ca m cc):=by have:=HV.out W0 H.out.bel 4 _ rfl;simpa using this
 have q5:W0.cell? ⟨b,o+i*6+5,none⟩=some (.string x.next):=by have:=HV.out W0 H.out.bel 5 _ rfl;simpa using this
 have hin:(0:Int)≤(i:Int)∧(i:Int)<(n:Int):=by omega
 have hkn:(0:Int)≤(k:Int)∧(k:Int)<(n:Int):=by omega
 go_upto_region 2 with fail
 have HA:Hid (Sb w xb v0 v1 (.slice (some ⟨b,o,none⟩) n cap) v3 v4 v5 s (W0.alloc (.cells #[.string x.name,.string x.header,.string x.on.head,.string x.on.name,.slice ca m cc,.string x.next] 98))∧Blk (W0.alloc (.cells #[.string x.name,.string x.header,.string x.on.head,.string x.on.name,.slice ca m cc,.string x.next] 98)) W0.heap.size #[.string x.name,.string x.header,.string x.on.head,.string x.on.name,.slice ca m cc,.string x.next] 98):=⟨H.out.more _,Blk.new _ _ _⟩
 clear q0 q1 q2 q3 q4 q5 x2 H HV
 generalize (W0.alloc _)=V0 at HA ⊢
 obtain⟨yb,hyb⟩:∃ yb,yb=W0.heap.size:=⟨_,rfl⟩
 rw[← hyb] at HA ⊢
 clear hyb
 obtain⟨_,_,x2,_⟩:=HA.out.1.c
 have y5:=HA.out.2.cell 5 (v:=.string x.next) rfl
 have n0:=HY.out V0 HA.out.1.bel
 have t1:(x.next.toList==y.name.toList)=decide (x.next=y.name):=txt_eq _ _
 go_quiet (fail)
 rename_i nq
 have hbq:Below V0.heap.size V0 (V0.drewN nq):=below_drewN (Below.refl _ _) _
 have H1:Hid (Sb w xb v0 v1 (.slice (some ⟨b,o,none⟩) n cap) v3 v4 v5 s (V0.drewN nq)∧Blk (V0.drewN nq) yb #[.string x.name,.string x.header,.string x.on.head,.string x.on.name,.slice ca m cc,.string x.next] 98):=⟨HA.out.1.below hbq,HA.out.2.below hbq⟩
 clear hbq HA x2 y5 n0
 generalize V0.drewN nq=V1 at H1 ⊢
 by_cases g1:x.next=y.name
 ·rw[decide_eq_true g1] at t1
  have HR:Hid (R=true):=by show _=_;rw[HE.out,decide_eq_true g1];rfl
  rw[decide_eq_true g1]
  go_wp2
  go_ret
  exact⟨by rw[HR.out];rfl,H1.out.1.bel⟩
 rw[decide_eq_false g1] at t1
 have H0:Hid (((x.cases.drop 0).any fun c=>decide (c.next=y.name))=R):=by show _=_;rw[HE.out,decide_eq_false g1];rfl
 rw[decide_eq_false g1]
 clear HE
 go_wp2_with fail
 go_loopw [8] (fun c wr=>∃ j:Nat,j≤m∧c=.int .i64 j∧Aside (Sb w xb v0 v1 (.slice (some ⟨b,o,none⟩) n cap) v3 v4 v5 s wr∧Blk wr yb #[.string x.name,.string x.header,.string x.on.head,.string x.on.name,.slice ca m cc,.string x.next] 98)∧Aside (((x.cases.drop j).any fun c=>decide (c.next=y.name))=R)) (fun c _=>m - (intOf c).toNat)
 case atStart=>exact⟨0,by omega,rfl,H1.out,H0.out⟩
 case round=>
  clear H0 H1 t1
  obtain⟨j,hj,rfl,hS,hd⟩:=hrel
  have H:Hid (Sb w xb v0 v1 (.slice (some ⟨b,o,none⟩) n cap) v3 v4 v5 s wr∧Blk wr yb #[.string x.name,.string x.header,.string x.on.head,.string x.on.name,.slice ca m cc,.string x.next] 98):=hS.out
  have HD:Hid (((x.cases.drop j).any fun c=>decide (c.next=y.name))=R):=hd.out
  clear hS hd
  have y4:=H.out.2.cell 4 (v:=.slice ca m cc) rfl
  by_cases hlt:j<m
  ·obtain⟨d,hdd⟩:=gE HM.out hlt
   obtain⟨b3,o3,cs3,rfl,_,hc3,rfl,_⟩:=HCR.out.1.at hdd
   have HST:Hid (R=(decide (d.next=y.name)||(x.cases.drop (j+1)).any fun c=>decide (c.next=y.name))):=by
    show _=_
    obtain⟨h,e⟩:=List.getElem?_eq_some_iff.1 hdd
    rw[← HD.out,List.drop_eq_getElem_cons h,e,List.any_cons]
   have r4:wr.cell? ⟨b3,o3+j*5+4,none⟩=some (.string d.next):=by have:=pres_below H.out.1.bel _ _ (hc3 4 (.string d.next) rfl);simpa using this
   obtain⟨_,_,x2,_⟩:=H.out.1.c
   have n0:=HY.out wr H.out.1.bel
   have t2:(d.next.toList==y.name.toList)=decide (d.next=y.name):=txt_eq _ _
   have hdl:decide ((j:Int)<m)=true:=decide_eq_true (by omega)
   have hjn:(0:Int)≤(j:Int)∧(j:Int)<(m:Int):=by omega
   clear hc3 hdd HD
   by_cases g2:d.next=y.name
   ·rw[decide_eq_true g2] at t2 HST
    clear g2
    go_upto_region 7 with fail
    go_quiet (fail)
    go_wp2
    go_ret
    exact⟨by rw[HST.out];rfl,below_drewN H.out.1.bel _⟩
   ·rw[decide_eq_false g2,Bool.false_or] at HST
    rw[decide_eq_false g2] at t2
    clear g2
    go_upto_region 7 with fail
    go_quiet (fail)
    rename_i nq
    have hbq:Below wr.heap.size wr (wr.drewN nq):=below_drewN (Below.refl _ _) _
    have H5:Hid (Sb w xb v0 v1 (.slice (some ⟨b,o,none⟩) n cap) v3 v4 v5 s (wr.drewN nq)∧Blk (wr.drewN nq) yb #[.string x.name,.string x.header,.string x.on.head,.string x.on.name,.slice (some ⟨b3,o3,none⟩) m cc,.string x.next] 98):=⟨H.out.1.below hbq,H.out.2.below hbq⟩
    clear hbq
    go_wp2
    exact⟨⟨j+1,by omega,by go_num,H5.out,HST.out.symm⟩,by simp only[intOf];omega⟩
  ·have e:j=m:=by omega
   subst e
   have HF:Hid (R=false):=by show _=_;rw[← HD.out,List.drop_of_length_le (by rw[← HM.out];omega)];rfl
   have hdl:decide ((j:Int)<j)=false:=decide_eq_false (by omega)
   go_wp2
   go_ret
   exact⟨by rw[HF.out];rfl,H.out.1.bel⟩
def Met (w:World)(b n:Nat)(M:Nat→Bool):Prop:=∃ cs,Blk w b cs 4∧cs.size=n∧∀ k,k<n→cs[k]?=some (.bool (M k))
theorem Met.below {w w':World}{b n:Nat}{M:Nat→Bool}(h:Met w b n M)(hk:Below w.heap.size w w'):Met w' b n M:=by obtain⟨cs,h,r⟩:=h;exact⟨cs,h.below hk,r⟩
theorem Met.get {w:World}{b n:Nat}{M:Nat→Bool}(h:Met w b n M){k:Nat}(hk:k<n):w.cell? ⟨b,k,none⟩=some (.bool (M k)):=by obtain⟨cs,h,_,r⟩:=h;exact h.cell _ (r k hk)
theorem Met.frozen {w:World}{b n:Nat}{M:Nat→Bool}(h:Met w b n M)(o:Nat):w.frozen? ⟨b,o,none⟩=false:=by obtain⟨cs,h,_⟩:=h;exact h.frozen _
theorem Met.set {w:World}{b n:Nat}{M:Nat→Bool}(h:Met w b n M){j:Nat}(hj:j<n)(v:Bool):Met (w.setCell ⟨b,j,none⟩ (.bool v)) b n (fun k=>if k=j then v else M k):=by
 obtain⟨cs,h,hs,r⟩:=h
 refine⟨_,h.set _ _,by simpa using hs,fun a ha=>?_⟩
 show _=some (Value.bool (if a=j then v else M a))
 by_cases e:a=j
 ·subst e
  rw[if_pos rfl,Array.getElem?_setIfInBounds_self_of_lt (by rw[hs];omega)]
 ·rw[if_neg e,Array.getElem?_setIfInBounds_ne (by omega)]
  exact r a ha
theorem sb_kept {w0:World}{xb:Nat}{v0 v1 v2 v3 v4 v5:Value}{s:Sch}{V V':World}{gb:Nat}(hs:SchIs w0 (.agg #[v0,v1,v2,v3,v4,v5]) s)(h:Sb w0 xb v0 v1 v2 v3 v4 v5 s V)(hk:Kept (fun k=>k=gb) V V')(hx:xb≠gb)(hg:w0.heap.size≤gb):Sb w0 xb v0 v1 v2 v3 v4 v5 s V':=
 have hb:Below w0.heap.size w0 V':=h.bel.trans (hk.below h.bel.size (fun k e=>by omega))
 ⟨h.one.kept hk hx,hs.pres (pres_below hb),hb⟩
def rB (E:Nat→Nat→Bool)(i a:Nat):Nat→(Nat→Bool)→Nat→Bool
 | 0,M=>M
 | b+1,M=>fun k=>if k=b then rB E i a b M b||(E a b&&(decide (a=i)||rB E i a b M a)) else rB E i a b M k
def rA (E:Nat→Nat→Bool)(i n:Nat):Nat→(Nat→Bool)→Nat→Bool
 | 0,M=>M
 | a+1,M=>if a≠i∧rA E i n a M a=false then rA E i n a M else rB E i a n (rA E i n a M)
def rT (E:Nat→Nat→Bool)(i n:Nat):Nat→(Nat→Bool)→Nat→Bool
 | 0,M=>M
 | t+1,M=>rA E i n n (rT E i n t M)
def edgeS (s:Sch)(a b:Nat):Bool:=match s.states[a]?,s.states[b]? with
 | some x,some y=>edgeB x y
 | _,_=>false
def roundD (s:Sch)(i:Nat):Bool:=rT (edgeS s) i s.states.length (s.states.length+1) (fun _=>false) i
theorem info4:(Tryz.prog.info? 4).map (fun i=>(i.zero,i.size,i.bytes))=some (some (.bool false),1,1):=by kernel_rfl
theorem rround_any (v:Value)(s:Sch)(i:Nat)(w:World)(hs:SchIs w v s)(hil:i<s.states.length):Calls Tryz.prog 160 #[v,.int .i64 i] w fun e w'=>e=.returned (.bool (roundD s i))∧Below w.heap.size w w':=by
 obtain⟨v0,v1,v2,v3,v4,v5,rfl,_,_,h0,_⟩:=id hs
 obtain⟨ad,cap,rfl,_⟩:=h0.1.slice
 have hlen:s.states.length*104≤140737488351232:=h0.2
 have H:Hid (Sb w w.heap.size v0 v1 (.slice ad s.states.length cap) v3 v4 v5 s (w.alloc (.cells #[v0,v1,.slice ad s.states.length cap,v3,v4,v5] 34))):=sb_new hs
 have HS0:Hid (SchIs w (.agg #[v0,v1,.slice ad s.states.length cap,v3,v4,v5]) s):=hs
 have HSZ:Hid ((w.alloc (.cells #[v0,v1,.slice ad s.states.length cap,v3,v4,v5] 34)).heap.size=w.heap.size+1):=World.size_alloc _ _
 clear hs h0
 obtain⟨i0,hi,hz0,hz1,hz3⟩:=info_of info4
 have HR:Hid (roundD s i=rT (edgeS s) i s.states.length (s.states.length+1) (fun _=>false) i):=rfl
 have CN:Hid (∀ V a b,SchIs V (.agg #[v0,v1,.slice ad s.states.length cap,v3,v4,v5]) s→a<s.states.length→b<s.states.length→Cs 213 #[.agg #[v0,v1,.slice ad s.states.length cap,v3,v4,v5],.int .i64 (a:Nat),.int .i64 (b:Nat)] V fun e w'=>e=.returned (.bool (edgeS s a b))∧Bl V w'):=fun V a b h ha hb=>by
  have h1:s.states[a]?=some s.states[a]:=List.getElem?_eq_getElem ha
  have h2:s.states[b]?=some s.states[b]:=List.getElem?_eq_getElem hb
  have e:edgeS s a b=edgeB s.states[a] s.states[b]:=by unfold edgeS;rw[h1,h2]
  rw[e]
  exact rnext_any _ s a b _ _ V h h1 h2
 generalize roundD s i=R at*
 generalize edgeS s=E at*
 obtain⟨n,hn⟩:∃ n,n=s.states.length:=⟨_,rfl⟩
 rw[← hn] at H HS0 HSZ HR CN hil hlen ⊢
 clear hn
 go_enter Tryz.func160,Tryz.ntmps160
 go_upto_region 1 with fail
 generalize (w.alloc _)=W0 at H HSZ ⊢
 obtain⟨xb,hxb⟩:∃ xb,xb=w.heap.size:=⟨_,rfl⟩
 rw[← hxb] at H ⊢
 have HXB:Hid (xb=w.heap.size):=hxb
 clear hxb
 obtain⟨_,_,x2,_⟩:=H.out.c
 have hb1:i0.bytes*n≤281474976710656:=by rw[hz3];omega
 have hb2:n≤maxLen:=by unfold maxLen;omega
 go_wp2_with (at_make;refine wpList_make_full _ rfl _ _ 89 rfl W0.heap.size 4 i0 (.bool false) 1 Tryz.underlying89 hi hz0 hz1 _ _ _ _ n rfl rfl rfl rfl hb1 hb2 (Nat.le_refl _) ?_)
 intro W1 hown hgr
 obtain⟨gb,hgb⟩:∃ gb,gb=W0.heap.size:=⟨_,rfl⟩
 have HM:Hid (Met W1 W0.heap.size n (fun _=>false)):=by
  rcases hown.2 with⟨e,_⟩|⟨g,cp,cur,e,_,hb,_,_,hsz,htk⟩
  ·cases e
  ·cases e
   refine⟨cur,hb,by rw[hsz];omega,fun k hk=>?_⟩
   have h1:=congrArg (fun l=>l[k]?) htk
   simp only[List.getElem?_take,Nat.mul_one,if_pos hk] at h1
   have h2:cur[k]?=cur.toList[k]?:=by simp
   rw[h2,h1]
   show(madeCells #[Value.bool false] n).toList[k]?=_
   rw[toList_madeCells_one,List.getElem?_replicate,if_pos hk]
 have HG:Hid (xb≠gb∧w.heap.size≤gb):=⟨by rw[HXB.out,hgb,HSZ.out];omega,by rw[hgb,HSZ.out];omega⟩
 have H1:Hid (Sb w xb v0 v1 (.slice ad n cap) v3 v4 v5 s W1∧Met W1 gb n (fun _=>false)):=by
  have k:Below W0.heap.size W0 W1:=(Kept.refl (fun _=>False) W0).grown hgr (fun k e=>by cases e) |>.below (Nat.le_refl _) (fun _ e=>e.elim)
  rw[hgb]
  exact⟨H.out.below k,HM.out⟩
 rw[← hgb]
 clear hown hgr hgb HM H x2 HSZ HXB hb1 hb2 hi hz0 hz1 hz3
 go_wp2_with fail
 go_loopw [7] (fun t wr=>∃ k:Nat,k≤n+1∧t=.int .i64 k∧Aside (Sb w xb v0 v1 (.slice ad n cap) v3 v4 v5 s wr∧Met wr gb n (rT E i n k (fun _=>false)))) (fun t _=>n+1 - (intOf t).toNat)
 case atStart=>exact⟨0,by omega,rfl,H1.out⟩
 case round=>
  clear H1
  obtain⟨k,hk,rfl,hS⟩:=hrel
  have H:Hid (Sb w xb v0 v1 (.slice ad n cap) v3 v4 v5 s wr∧Met wr gb n (rT E i n k (fun _=>false))):=hS.out
  clear hS
  by_cases hlt:k≤n
  ·have hdl:decide ((k:Int)≤n)=true:=decide_eq_true (by omega)
   have HRT:Hid (rT E i n (k+1) (fun _=>false)=rA E i n n (rT E i n k (fun _=>false))):=rfl
   generalize rT E i n k (fun _=>false)=P at*
   go_wp2_with fail
   go_loopw [8] (fun t wq=>∃ a:Nat,a≤n∧t=.int .i64 a∧Aside (Sb w xb v0 v1 (.slice ad n cap) v3 v4 v5 s wq∧Met wq gb n (rA E i n a P))) (fun t _=>n - (intOf t).toNat)
   case atStart=>exact⟨0,by omega,rfl,H.out⟩
   case round=>
    clear H
    obtain⟨a,ha,rfl,hS⟩:=hrel
    have H:Hid (Sb w xb v0 v1 (.slice ad n cap) v3 v4 v5 s wr∧Met wr gb n (rA E i n a P)):=hS.out
    clear hS
    by_cases hal:a<n
    ·have hdl2:decide ((a:Int)<n)=true:=decide_eq_true (by omega)
     have hin:(0:Int)≤(a:Int)∧(a:Int)<(n:Int):=by omega
     have HRA:Hid (rA E i n (a+1) P=if a≠i∧rA E i n a P a=false then rA E i n a P else rB E i a n (rA E i n a P)):=rfl
     have m0:=H.out.2.get hal
     generalize rA E i n a P=Q at*
     have KEY:Hid (¬(a≠i∧Q a=false)→rA E i n (a+1) P=rB E i a n Q):=fun h=>by rw[HRA.out,if_neg h]
     have SKIP:Hid (a≠i∧Q a=false→rA E i n (a+1) P=Q):=fun h=>by rw[HRA.out,if_pos h]
     clear HRA
     by_cases hai:a=i
     ·subst hai
      have HK:Hid (rA E a n (a+1) P=rB E a a n Q):=KEY.out (fun h=>h.1 rfl)
      clear KEY SKIP m0
      go_wp2_with fail
      go_loopw [9] (fun t wq=>∃ b:Nat,b≤n∧t=.int .i64 b∧Aside (Sb w xb v0 v1 (.slice ad n cap) v3 v4 v5 s wq∧Met wq gb n (rB E a a b Q))) (fun t _=>n - (intOf t).toNat)
      case atStart=>exact⟨0,by omega,rfl,H.out⟩
      case round=>
       clear H
       obtain⟨b,hb,rfl,hS⟩:=hrel
       have H:Hid (Sb w xb v0 v1 (.slice ad n cap) v3 v4 v5 s wr∧Met wr gb n (rB E a a b Q)):=hS.out
       clear hS
       by_cases hbl:b<n
       ·have hdl3:decide ((b:Int)<n)=true:=decide_eq_true (by omega)
        have hbn:(0:Int)≤(b:Int)∧(b:Int)<(n:Int):=by omega
        have HRB:Hid (rB E a a (b+1) Q=fun k=>if k=b then rB E a a b Q b||(E a b&&(decide (a=a)||rB E a a b Q a)) else rB E a a b Q k):=rfl
        generalize rB E a a b Q=Z at*
        obtain⟨x0,x1,x2,x3,x4,x5⟩:=H.out.1.c
        go_wp2_with fail
        refine(CN.out _ a b H.out.1.sch hal hbl).mono ?_
        rintro e V1 ⟨rfl,hbb⟩
        have H2:Hid (Sb w xb v0 v1 (.slice ad n cap) v3 v4 v5 s V1∧Met V1 gb n (Z)):=⟨H.out.1.below hbb,H.out.2.below hbb⟩
        clear hbb H x0 x1 x2 x3 x4 x5
        have HSET:Hid (∀ v:Bool,v=(Z b||(E a b&&(decide (a=a)||Z a)))→Sb w xb v0 v1 (.slice ad n cap) v3 v4 v5 s (V1.setCell ⟨gb,b,none⟩ (.bool v))∧Met (V1.setCell ⟨gb,b,none⟩ (.bool v)) gb n (rB E a a (b+1) Q)):=fun v hv=>by
         refine⟨sb_kept HS0.out H2.out.1 (Kept.set (S:=fun k=>k=gb) (Kept.refl _ _) rfl _) HG.out.1 HG.out.2,?_⟩
         rw[HRB.out]
         subst hv
         simpa using H2.out.2.set hbl _
        have mb:=H2.out.2.get hbl
        have ma:=H2.out.2.get hal
        have fz:=H2.out.2.frozen b
        clear HRB
        generalize E a b=eb at*
        cases hzb:Z b with
        | true=>
         rw[hzb] at mb HSET
         go_wp2
         exact⟨⟨b+1,by omega,by go_num,HSET.out true rfl⟩,by simp only[intOf];omega⟩
        | false=>
         rw[hzb] at mb HSET
         cases eb with
         | false=>
          go_wp2
          exact⟨⟨b+1,by omega,by go_num,HSET.out false rfl⟩,by simp only[intOf];omega⟩
         | true=>
          go_wp2
          exact⟨⟨b+1,by omega,by go_num,HSET.out true (by simp)⟩,by simp only[intOf];omega⟩
       ·have e:b=n:=by omega
        subst e
        have hdl3:decide ((b:Int)<b)=false:=decide_eq_false (by omega)
        go_wp2
        exact⟨⟨a+1,by omega,by go_num,by show _∧_;rw[HK.out];exact H.out⟩,by simp only[intOf];omega⟩
     ·have hne:¬(a:Int)=(i:Int):=by omega
      have hne':((a:Int)==(i:Int))=false:=by simpa using hne
      cases hq:Q a with
      | false=>
       rw[hq] at m0
       have HK:Hid (rA E i n (a+1) P=Q):=SKIP.out ⟨hai,hq⟩
       go_wp2
       exact⟨⟨a+1,by omega,by go_num,by show _∧_;rw[HK.out];exact H.out⟩,by simp only[intOf];omega⟩
      | true=>
       rw[hq] at m0
       have HK:Hid (rA E i n (a+1) P=rB E i a n Q):=KEY.out (fun h=>by rw[hq] at h;cases h.2)
       clear KEY SKIP hq
       go_wp2_with fail
       go_loopw [9] (fun t wq=>∃ b:Nat,b≤n∧t=.int .i64 b∧Aside (Sb w xb v0 v1 (.slice ad n cap) v3 v4 v5 s wq∧Met wq gb n (rB E i a b Q))) (fun t _=>n - (intOf t).toNat)
       case atStart=>exact⟨0,by omega,rfl,H.out⟩
       case round=>
        clear H
        obtain⟨b,hb,rfl,hS⟩:=hrel
        have H:Hid (Sb w xb v0 v1 (.slice ad n cap) v3 v4 v5 s wr∧Met wr gb n (rB E i a b Q)):=hS.out
        clear hS
        by_cases hbl:b<n
        ·have hdl3:decide ((b:Int)<n)=true:=decide_eq_true (by omega)
         have hbn:(0:Int)≤(b:Int)∧(b:Int)<(n:Int):=by omega
         have HRB:Hid (rB E i a (b+1) Q=fun k=>if k=b then rB E i a b Q b||(E a b&&(decide (a=i)||rB E i a b Q a)) else rB E i a b Q k):=rfl
         generalize rB E i a b Q=Z at*
         obtain⟨x0,x1,x2,x3,x4,x5⟩:=H.out.1.c
         go_wp2_with fail
         refine(CN.out _ a b H.out.1.sch hal hbl).mono ?_
         rintro e V1 ⟨rfl,hbb⟩
         have H2:Hid (Sb w xb v0 v1 (.slice ad n cap) v3 v4 v5 s V1∧Met V1 gb n (Z)):=⟨H.out.1.below hbb,H.out.2.below hbb⟩
         clear hbb H x0 x1 x2 x3 x4 x5
         have HSET:Hid (∀ v:Bool,v=(Z b||(E a b&&(decide (a=i)||Z a)))→Sb w xb v0 v1 (.slice ad n cap) v3 v4 v5 s (V1.setCell ⟨gb,b,none⟩ (.bool v))∧Met (V1.setCell ⟨gb,b,none⟩ (.bool v)) gb n (rB E i a (b+1) Q)):=fun v hv=>by
          refine⟨sb_kept HS0.out H2.out.1 (Kept.set (S:=fun k=>k=gb) (Kept.refl _ _) rfl _) HG.out.1 HG.out.2,?_⟩
          rw[HRB.out]
          subst hv
          simpa using H2.out.2.set hbl _
         have mb:=H2.out.2.get hbl
         have ma:=H2.out.2.get hal
         have fz:=H2.out.2.frozen b
         clear HRB
         generalize E a b=eb at*
         cases hzb:Z b with
         | true=>
          rw[hzb] at mb HSET
          go_wp2
          exact⟨⟨b+1,by omega,by go_num,HSET.out true rfl⟩,by simp only[intOf];omega⟩
         | false=>
          rw[hzb] at mb HSET
          cases eb with
          | false=>
           go_wp2
           exact⟨⟨b+1,by omega,by go_num,HSET.out false rfl⟩,by simp only[intOf];omega⟩
          | true=>
           cases hza:Z a with
           | true=>
            rw[hza] at ma
            go_wp2
            exact⟨⟨b+1,by omega,by go_num,HSET.out true (by rw[hza];simp)⟩,by simp only[intOf];omega⟩
           | false=>
            rw[hza] at ma
            go_wp2
            exact⟨⟨b+1,by omega,by go_num,HSET.out false (by rw[hza];simp[hai])⟩,by simp only[intOf];omega⟩
        ·have e:b=n:=by omega
         subst e
         have hdl3:decide ((b:Int)<b)=false:=decide_eq_false (by omega)
         go_wp2
         exact⟨⟨a+1,by omega,by go_num,by show _∧_;rw[HK.out];exact H.out⟩,by simp only[intOf];omega⟩
    ·have e:a=n:=by omega
     subst e
     have hdl2:decide ((a:Int)<a)=false:=decide_eq_false (by omega)
     go_wp2
     exact⟨⟨k+1,by omega,by go_num,by show _∧_;rw[HRT.out];exact H.out⟩,by simp only[intOf];omega⟩
  ·have e:k=n+1:=by omega
   subst e
   have hdl:decide (((n+1:Nat):Int)≤n)=false:=decide_eq_false (by omega)
   have hdl':¬((n:Int)+1≤n):=by omega
   have m0:=H.out.2.get hil
   have hin:(0:Int)≤(i:Int)∧(i:Int)<(n:Int):=by omega
   rw[← HR.out] at m0
   go_wp2
   go_ret
   exact⟨rfl,H.out.1.bel⟩
end Go.Proofs.YtmbpclknhkbbkaaGreat
