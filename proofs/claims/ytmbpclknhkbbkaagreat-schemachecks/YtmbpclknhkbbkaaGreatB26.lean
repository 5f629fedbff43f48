/- Package schema: a stage counted. -/
import Derived.Test.YtmbpclknhkbbkaaGreatB09
import Derived.Test.YtmbpclknhkbbkaaGreatB34
import Derived.Deep.RegionLaw
set_option linter.unusedSimpArgs false
set_option linter.unusedVariables false
set_option maxHeartbeats 4000000
set_option maxRecDepth 100000
namespace Go.Proofs.YtmbpclknhkbbkaaGreat
open Go.RowKit
theorem size1_any (cl:List Value)(hl:cl.length=13)(k c d:Int)(bc bd:Nat)(W:World)(hc:Blk W bc #[.int .i64 c] 3)(hd:Blk W bd #[.int .i64 d] 3)(hne:bc≠bd)(h0:0≤c)(h1:c≤1099511627776):
  Calls Tryz.prog 170 #[.agg cl.toArray,.int .i64 k,.pointer (some ⟨bc,0,none⟩),.pointer (some ⟨bd,0,none⟩)] W fun e w'=>e=.returned (.bool (decide (c+1≤128)))∧w'=((W.setCell ⟨bc,0,none⟩ (.int .i64 (c+1))).setCell ⟨bd,0,none⟩ (.int .i64 (max d k))).alloc (.cells cl.toArray 127):=by
 have p0:=hc.cell 0 (v:=.int .i64 c) rfl
 have p1:=hc.frozen 0
 have q0:=hd.cell 0 (v:=.int .i64 d) rfl
 have q1:=hd.frozen 0
 have l0:=hc.lt
 have l1:=hd.lt
 have hw:wrap64 (c+1)=c+1:=by unfold wrap64;omega
 clear hc hd
 go_enter Tryz.func170,Tryz.ntmps170
 go_wp2
 go_ret
 exact⟨rfl,rfl⟩
def szStp (s:Int × Int)(x:Stg)(d:Int):Except PanicEntry (Bool × (Int × Int)):=.ok (decide (s.1+1≤128),(s.1+1,max s.2 d))
def sizeE (xs:List Stg):Int:=match wlkL szStp xs 1 (0,0) with
 | .ok (_,s)=>if 128<s.1 then 74 else if 8<s.2 then 77 else 0
 | .error _=>0
def SzI (w0:World)(b1 b2:Nat)(m:Int)(s:Int × Int)(w:World):Prop:=Blk w b1 #[.int .i64 s.1] 3∧Blk w b2 #[.int .i64 s.2] 3∧Below w0.heap.size w0 w∧0≤s.1∧s.1≤m
theorem size_any (v:Value)(xs:List Stg)(w:World)(hr:StgRow w v xs):Calls Tryz.prog 84 #[v] w fun e w'=>e=.returned (.int .i64 (sizeE xs))∧Below w.heap.size w w':=by
 obtain⟨ad,cap,rfl,_⟩:=hr.slice
 have HR:Hid (StgRow w (.slice ad xs.length cap) xs):=hr
 have HA:Hid (Bl w ((w.alloc (.cells #[.int .i64 0] 3)).alloc (.cells #[.int .i64 0] 3))):=((Below.refl _ _).alloc (Nat.le_refl _) _).alloc (by simp) _
 have H1:Hid (Blk ((w.alloc (.cells #[.int .i64 0] 3)).alloc (.cells #[.int .i64 0] 3)) w.heap.size #[.int .i64 0] 3):=(Blk.new w _ 3).below ((Below.refl _ _).alloc (Nat.le_refl _) _)
 have H2:Hid (Blk ((w.alloc (.cells #[.int .i64 0] 3)).alloc (.cells #[.int .i64 0] 3)) (w.heap.size+1) #[.int .i64 0] 3):=by
  have:=Blk.new (w.alloc (.cells #[.int .i64 0] 3)) #[.int .i64 0] 3
  show Blk _ _ _ _
  simpa using this
 have HE : Hid (sizeE xs = match wlkL szStp xs 1 (0, 0) with
   | .ok (_, s) => if 128 < s.1 then 74 else if 8 < s.2 then 77 else 0
   | .error _ => 0) := rfl
 generalize sizeE xs=R at*
 clear hr
 have hmf:=mf
 go_enter Tryz.func84,Tryz.ntmps84
 go_upto_region 2 with fail
 generalize ((w.alloc _).alloc _)=W at HA H1 H2 ⊢
 have CW:Hid (Cs 85 #[.slice ad xs.length cap,.int .i64 1,.func (.func 170) #[] #[.pointer (some ⟨w.heap.size,0,none⟩),.pointer (some ⟨w.heap.size+1,0,none⟩)]] W fun e w'=>WOut (SzI w w.heap.size (w.heap.size+1) 128) (SzI w w.heap.size (w.heap.size+1) 129) (fun _ k=>k=w.heap.size∨k=w.heap.size+1) (fun _ _=>False) (0,0) W (wlkL szStp xs 1 (0,0)) e w'):=by
  refine walk170_any (SzI w w.heap.size (w.heap.size+1) 128) (SzI w w.heap.size (w.heap.size+1) 129) ?_ (fun _ k=>k=w.heap.size∨k=w.heap.size+1) (fun _ _=>False) szStp w _ _ ?_ ?_ ?_ ?_ (szL xs) xs _ 1 (0,0) W (Nat.le_refl _) HR.out ⟨H1.out,H2.out,HA.out,by decide,by decide⟩
  ·rintro s w1 ⟨h1,h2,h3,h4,h5⟩
   exact⟨h1,h2,h3,h4,by omega⟩
  ·rintro s w1 w2 ⟨h1,h2,h3,h4,h5⟩ hb
   exact⟨h1.below hb,h2.below hb,bst h3 hb (Nat.le_refl _),h4,h5⟩
  ·rintro s w1 ⟨h1,h2,h3,h4,h5⟩
   exact pres_below h3
  ·rintro s w1 k ⟨h1,h2,h3,h4,h5⟩ hk
   rcases hk with rfl|rfl
   ·exact h1.lt
   ·exact h2.lt
  ·rintro s w1 x cs d ⟨h1,h2,h3,h4,h5⟩ hx
   have hsz:cs.size=13:=stg_good.size hx
   obtain⟨cl⟩:=cs
   refine(size1_any cl hsz d s.1 s.2 w.heap.size (w.heap.size+1) w1 h1 h2 (by omega) h4 (by omega)).mono ?_
   rintro e w2 ⟨rfl,rfl⟩
   have hk:Kept (fun k=>k=w.heap.size∨k=w.heap.size+1) w1 (((w1.setCell ⟨w.heap.size,0,none⟩ (.int .i64 (s.1+1))).setCell ⟨w.heap.size+1,0,none⟩ (.int .i64 (max s.2 d))).alloc (.cells cl.toArray 127)):=Kept.alloc (Kept.set (S:=fun k=>k=w.heap.size∨k=w.heap.size+1) (Kept.set (S:=fun k=>k=w.heap.size∨k=w.heap.size+1) (Kept.refl _ _) (.inl rfl) _) (.inr rfl) _) _
   have hj:SzI w w.heap.size (w.heap.size+1) 129 (s.1+1,max s.2 d) (((w1.setCell ⟨w.heap.size,0,none⟩ (.int .i64 (s.1+1))).setCell ⟨w.heap.size+1,0,none⟩ (.int .i64 (max s.2 d))).alloc (.cells cl.toArray 127)):=by
    refine⟨?_,?_,?_,by show 0≤s.1+1;omega,by show s.1+1≤129;omega⟩
    ·refine Blk.below (Blk.kept (S:=fun k=>k=w.heap.size+1) (h1.set 0 (.int .i64 (s.1+1))) (Kept.set (S:=fun k=>k=w.heap.size+1) (Kept.refl _ _) rfl _) (by show ¬ _=_;omega)) ((Below.refl _ _).alloc (Nat.le_refl _) _)
    ·have h2':Blk (w1.setCell ⟨w.heap.size,0,none⟩ (.int .i64 (s.1+1))) (w.heap.size+1) #[.int .i64 s.2] 3:=h2.kept (S:=fun k=>k=w.heap.size) (Kept.set (S:=fun k=>k=w.heap.size) (Kept.refl _ _) rfl _) (by show ¬ _=_;omega)
     exact Blk.below (h2'.set 0 (.int .i64 (max s.2 d))) ((Below.refl _ _).alloc (Nat.le_refl _) _)
    ·exact h3.trans (hk.below h3.size (fun k e=>by omega))
   refine⟨rfl,fun hb=>?_,hj,hk,fun k h=>.inl h⟩
   obtain⟨j1,j2,j3,j4,j5⟩:=hj
   refine⟨j1,j2,j3,j4,?_⟩
   simpa using hb
 generalize wlkL szStp xs 1 (0,0)=r at*
 go_wp2_with fail
 refine CW.out.mono ?_
 intro e W2 hout
 cases r with
 | error p=>exact hout.2.elim
 | ok bs=>
  obtain⟨b,c,m⟩:=bs
  obtain⟨rfl,_,⟨h1,h2,h3,_,_⟩,_⟩:=hout
  have HB:Hid (Bl w W2):=h3
  have c1:=h1.cell 0 (v:=.int .i64 c) rfl
  have c2:=h2.cell 0 (v:=.int .i64 m) rfl
  have HE2:Hid (R=if 128<c then 74 else if 8<m then 77 else 0):=HE.out
  clear h1 h2 h3 HE CW HA H1 H2
  by_cases hc:128<c
  ·have hc':decide (128<c)=true:=decide_eq_true hc
   have HR2:Hid (R=74):=by show _=_;rw[HE2.out,if_pos hc]
   clear HE2
   go_wp2
   go_ret
   exact⟨by rw[HR2.out];rfl,HB.out⟩
  ·have hc':decide (128<c)=false:=decide_eq_false hc
   by_cases hm:8<m
   ·have hm':decide (8<m)=true:=decide_eq_true hm
    have HR2:Hid (R=77):=by show _=_;rw[HE2.out,if_neg hc,if_pos hm]
    clear HE2
    go_wp2
    go_ret
    exact⟨by rw[HR2.out];rfl,HB.out⟩
   ·have hm':decide (8<m)=false:=decide_eq_false hm
    have HR2:Hid (R=0):=by show _=_;rw[HE2.out,if_neg hc,if_neg hm]
    clear HE2
    go_wp2
    go_ret
    exact⟨by rw[HR2.out];rfl,HB.out⟩
theorem fuel_step {xs:List Stg}{k:Nat}{y:Stg}(hk:xs[k]?=some y)(f:Nat):f+szL (xs.drop k)=f+szL (xs.drop (k+1))+szL y.els+szL y.thn+1:=by
 obtain⟨h,e⟩:=List.getElem?_eq_some_iff.1 hk
 rw[List.drop_eq_getElem_cons h,e,szL,szS_eq]
 omega
def VKeep (own:World→Nat→Prop)(w w':World):Prop:=Kept (own w) w w'∧∀ k,own w' k→own w k∨w.heap.size≤k
theorem VKeep.refl (own:World→Nat→Prop)(w:World):VKeep own w w:=⟨Kept.refl _ _,fun _ h=>.inl h⟩
theorem VKeep.trans {own:World→Nat→Prop}{a b c:World}(h:VKeep own a b)(k:VKeep own b c):VKeep own a c:=
 ⟨⟨k.1.os.trans h.1.os, k.1.tape.trans h.1.tape, k.1.output.trans h.1.output, Nat.le_trans h.1.size k.1.size, fun i hi hs => (k.1.block i (Nat.lt_of_lt_of_le hi h.1.size) (fun hk => by
   rcases h.2 i hk with h1 | h1
   · exact hs h1
   · omega)).trans (h.1.block i hi hs)⟩, fun i hi => by
   rcases k.2 i hi with h1 | h1
   · exact h.2 i h1
   · exact .inr (Nat.le_trans h.1.size h1)⟩
theorem VKeep.grow {own:World→Nat→Prop}{a b c:World}(h:VKeep own a b)(ho:∀ k,own c k→own b k)(k:Below b.heap.size b c):VKeep own a c:=⟨h.1.trans (Kept.of_below k),fun i hi=>h.2 i (ho i hi)⟩
def VOut {σ:Type}(I J:σ→World→Prop)(own:World→Nat→Prop)(Z:PanicEntry→World→Prop)(w:World)(r:Except PanicEntry (Bool × σ))(e:Ending)(w':World):Prop:=match r with
 | .ok (b,s')=>e=.returned (.bool b)∧(b=true→I s' w')∧J s' w'∧VKeep own w w'
 | .error p=>e=.panicked [p]∧Z p w'
theorem walk86_fuel {σ:Type}(I:Nat→σ→World→Prop)(J:σ→World→Prop)(hIJ:∀ f s w,I f s w→J s w)(own:World→Nat→Prop)(Z:PanicEntry→World→Prop)(stp:σ→Stg→Int→Except PanicEntry (Bool × σ))(w0:World)(p1 p2:Addr)(hgrow:∀ f s w w',I f s w→Below w.heap.size w w'→I f s w')(hpres:∀ f s w,I f s w→Pres w0 w)(hown:∀ f s w k,I f s w→own w k→k<w.heap.size)(hog:∀ f s w w' k,I f s w→Below w.heap.size w w'→own w' k→own w k)
  (hstep:∀ f s w x cs d,I (f+1) s w→StgIs w0 x cs→Calls Tryz.prog 86 #[.agg cs,.int .i64 d,.pointer (some p1),.pointer (some p2)] w fun e w'=>VOut (I f) J own Z w (stp s x d) e w'):
  ∀(N f:Nat) (xs:List Stg) (v:Value) (d:Int) (s:σ) (w:World),szL xs≤N→StgRow w0 v xs→I (f+szL xs) s w→Calls Tryz.prog 85 #[v,.int .i64 d,.func (.func 86) #[] #[.pointer (some p1),.pointer (some p2)]] w fun e w'=>VOut (I f) J own Z w (wlkL stp xs d s) e w':=by
 intro N
 induction N using Nat.strongRecOn with
 | _ N ih=>
  intro f xs v d s w hN hr hI
  obtain⟨ad,cap,rfl,_⟩:=hr.slice
  have hlen:xs.length*176≤140737488351232:=(stgRow_row hr).2
  have HR:Hid (StgRow w0 (.slice ad xs.length cap) xs):=hr
  have HI0:Hid (I (f+szL xs) s w):=hI
  have HSZ:Hid (szL xs≤N):=hN
  have HGr:Hid (∀ f s w w',I f s w→Bl w w'→I f s w'):=hgrow
  have HPr:Hid (∀ f s w,I f s w→Pres w0 w):=hpres
  have HIJ:Hid (∀ f s w,I f s w→J s w):=hIJ
  have HOw:Hid (∀ f s w k,I f s w→own w k→k<w.heap.size):=hown
  have HOg:Hid (∀ f s w w' k,I f s w→Bl w w'→own w' k→own w k):=hog
  have HST:Hid (∀ f s w x cs d,I (f+1) s w→StgIs w0 x cs→Cs 86 #[.agg cs,.int .i64 d,.pointer (some p1),.pointer (some p2)] w fun e w'=>VOut (I f) J own Z w (stp s x d) e w'):=hstep
  have HIH:Hid (∀ M,M<N→∀(f:Nat) (xs:List Stg) (v:Value) (d:Int) (s:σ) (w:World),szL xs≤M→StgRow w0 v xs→I (f+szL xs) s w→Cs 85 #[v,.int .i64 d,.func (.func 86) #[] #[.pointer (some p1),.pointer (some p2)]] w fun e w'=>VOut (I f) J own Z w (wlkL stp xs d s) e w'):=ih
  obtain⟨R,hR⟩:∃ R,R=wlkL stp xs d s:=⟨_,rfl⟩
  have H0:Hid (wlkL stp (xs.drop 0) d s=R):=by rw[hR];rfl
  rw[← hR]
  obtain⟨n,hn⟩:∃ n,n=xs.length:=⟨_,rfl⟩
  have HN:Hid (n=xs.length):=hn
  rw[← hn] at hlen HR ⊢
  clear hn hR hr hI hN hgrow hpres hstep ih hown hog hIJ
  go_enter Tryz.func85,Tryz.ntmps85
  go_wp2_with fail
  go_loopw [11] (fun i wr=>∃(k:Nat) (s':σ),k≤n∧i=.int .i64 k∧I (f+szL (xs.drop k)) s' wr∧VKeep own w wr∧wlkL stp (xs.drop k) d s'=R) (fun i _=>n - (intOf i).toNat)
  case atStart=>exact⟨0,s,by omega,rfl,HI0.out,VKeep.refl _ _,H0.out⟩
  case round=>
   obtain⟨k,s1,hk,rfl,hI1,hK1,hd⟩:=hrel
   have HI00:Hid (I (f+szL (xs.drop k)) s1 wr):=hI1
   have HK0':Hid (VKeep own w wr):=hK1
   have HD0:Hid (wlkL stp (xs.drop k) d s1=R):=hd
   clear hI1 hd hK1
   by_cases hlt:k<n
   ·obtain⟨y,hy⟩:=gE HN.out hlt
    obtain⟨b,o,cs,rfl,_,hcc,hIs⟩:=(stgRow_row HR.out).1.at hy
    have HIs0:=hIs
    obtain⟨v1,v2,rfl,hok,hth,hel⟩:=(stgIs_iff w0 y cs).1 hIs
    obtain⟨ta,tc,rfl,_⟩:=hth.slice
    obtain⟨ea,ec,rfl,_⟩:=hel.slice
    have HIs:Hid (StgIs w0 y (sgA y ta tc ea ec)):=HIs0
    have HTh:Hid (StgRow w0 (.slice ta y.thn.length tc) y.thn):=hth
    have HEl:Hid (StgRow w0 (.slice ea y.els.length ec) y.els):=hel
    have HY:Hid (szL y.thn<N∧szL y.els<N):=by
     have h1:=szL_mem hy
     have h2:=HSZ.out
     rw[szS_eq] at h1
     exact⟨by omega,by omega⟩
    have HI0':Hid (I (f+szL (xs.drop (k+1))+szL y.els+szL y.thn+1) s1 wr):=by
     show I _ _ _
     rw[← fuel_step hy f]
     exact HI00.out
    have hpw:=HPr.out _ _ _ HI0'.out
    have q0:wr.cell? ⟨b,o+k*13,none⟩=some (.int .i64 y.kind):=by have:=hpw _ _ (hcc 0 _ rfl);simpa using this
    have q1:wr.cell? ⟨b,o+k*13+1,none⟩=some (.string y.table):=by have:=hpw _ _ (hcc 1 _ rfl);simpa using this
    have q2:wr.cell? ⟨b,o+k*13+2,none⟩=some (.int .i64 y.test.kind):=by have:=hpw _ _ (hcc 2 _ rfl);simpa using this
    have q3:wr.cell? ⟨b,o+k*13+3,none⟩=some (.string y.test.a.ref.head):=by have:=hpw _ _ (hcc 3 _ rfl);simpa using this
    have q4:wr.cell? ⟨b,o+k*13+4,none⟩=some (.string y.test.a.ref.name):=by have:=hpw _ _ (hcc 4 _ rfl);simpa using this
    have q5:wr.cell? ⟨b,o+k*13+5,none⟩=some (.int .u64 (hiOf y.test.a.const)):=by have:=hpw _ _ (hcc 5 _ rfl);simpa using this
    have q6:wr.cell? ⟨b,o+k*13+6,none⟩=some (.int .u64 (loOf y.test.a.const)):=by have:=hpw _ _ (hcc 6 _ rfl);simpa using this
    have q7:wr.cell? ⟨b,o+k*13+7,none⟩=some (.string y.test.b.ref.head):=by have:=hpw _ _ (hcc 7 _ rfl);simpa using this
    have q8:wr.cell? ⟨b,o+k*13+8,none⟩=some (.string y.test.b.ref.name):=by have:=hpw _ _ (hcc 8 _ rfl);simpa using this
    have q9:wr.cell? ⟨b,o+k*13+9,none⟩=some (.int .u64 (hiOf y.test.b.const)):=by have:=hpw _ _ (hcc 9 _ rfl);simpa using this
    have q10:wr.cell? ⟨b,o+k*13+10,none⟩=some (.int .u64 (loOf y.test.b.const)):=by have:=hpw _ _ (hcc 10 _ rfl);simpa using this
    have q11:wr.cell? ⟨b,o+k*13+11,none⟩=some (.slice ta y.thn.length tc):=by have:=hpw _ _ (hcc 11 _ rfl);simpa using this
    have q12:wr.cell? ⟨b,o+k*13+12,none⟩=some (.slice ea y.els.length ec):=by have:=hpw _ _ (hcc 12 _ rfl);simpa using this
    have HDz:Hid (andT (andT (stp s1 y d) (fun s1=>andT (wlkL stp y.thn (wrap64 (d+1)) s1) (fun s2=>wlkL stp y.els (wrap64 (d+1)) s2))) (fun s1=>wlkL stp (xs.drop (k+1)) d s1)=R):=by
     show _=_
     rw[← HD0.out,wlk_step hy,wlkS_eq]
    clear hcc hIs HIs0 hth hel hpw HD0 hok
    go_upto_region 4 with fail
    have HA:Hid (Bl wr (wr.alloc (.cells (sgA y ta tc ea ec) 127))):=(Below.refl _ _).alloc (Nat.le_refl _) _
    have HX1:Hid (Blk (wr.alloc (.cells (sgA y ta tc ea ec) 127)) wr.heap.size (sgA y ta tc ea ec) 127):=Blk.new _ _ _
    generalize (wr.alloc _)=W1 at HA HX1 ⊢
    have HI1:Hid (I (f+szL (xs.drop (k+1))+szL y.els+szL y.thn+1) s1 W1):=HGr.out _ _ _ _ HI0'.out HA.out
    have HKp1:Hid (VKeep own w W1):=HK0'.out.grow (fun k=>HOg.out _ _ _ _ k HI0'.out HA.out) HA.out
    have HNo1:Hid (¬ own W1 wr.heap.size):=fun h=>by have:=HOw.out _ _ _ _ HI0'.out (HOg.out _ _ _ _ _ HI0'.out HA.out h);omega
    obtain⟨xb,hxb⟩:∃ xb,xb=wr.heap.size:=⟨_,rfl⟩
    rw[← hxb] at HX1 HNo1 ⊢
    clear hxb HA HI0' HI00 HK0' q0 q1 q2 q3 q4 q5 q6 q7 q8 q9 q10 q11 q12
    obtain⟨x0,x1,x2,x3,x4,x5,x6,x7,x8,x9,x10,x11,x12⟩:=HX1.out.c13
    have CS:Hid (Cs 86 #[.agg (sgA y ta tc ea ec),.int .i64 d,.pointer (some p1),.pointer (some p2)] W1 fun e w'=>VOut (I (f+szL (xs.drop (k+1))+szL y.els+szL y.thn)) J own Z W1 (stp s1 y d) e w'):=HST.out _ s1 W1 y _ d HI1.out HIs.out
    generalize stp s1 y d=r1 at*
    go_wp2_with fail
    refine CS.out.mono ?_
    intro e W2 hout
    cases r1 with
    | error p=>
     obtain⟨rfl,hz⟩:=hout
     have HE:Hid (R=.error p):=by show _=_;rw[← HDz.out];rfl
     have HZ:Hid (Z p W2):=hz
     clear hz CS
     go_wp2
     exact⟨rfl,by rw[HE.out];exact⟨rfl,HZ.out⟩⟩
    | ok bs=>
     obtain⟨bb,s2⟩:=bs
     obtain⟨rfl,hIj,hJj,hKj⟩:=hout
     have HIi2:Hid (bb=true→I (f+szL (xs.drop (k+1))+szL y.els+szL y.thn) s2 W2):=hIj
     have HJ2:Hid (J s2 W2):=hJj
     have HKp2:Hid (VKeep own w W2):=HKp1.out.trans hKj
     have HX2:Hid (Blk W2 xb (sgA y ta tc ea ec) 127):=HX1.out.kept hKj.1 HNo1.out
     have HNo2:Hid (¬ own W2 xb):=by
      show ¬ _
      intro h
      rcases hKj.2 _ h with h1|h1
      ·exact HNo1.out h1
      ·have:=HX1.out.lt;omega
     clear hIj hJj hKj CS x0 x1 x2 x3 x4 x5 x6 x7 x8 x9 x10 x11 x12
     cases bb with
     | false=>
      have HE:Hid (R=.ok (false,s2)):=by show _=_;rw[← HDz.out];rfl
      go_wp2
      go_ret
      rw[HE.out]
      exact⟨rfl,(fun h=>by cases h),HJ2.out,HKp2.out⟩
     | true=>
      have HI2:Hid (I (f+szL (xs.drop (k+1))+szL y.els+szL y.thn) s2 W2):=HIi2.out (by trivial)
      have HD2:Hid (andT (andT (wlkL stp y.thn (wrap64 (d+1)) s2) (fun s2=>wlkL stp y.els (wrap64 (d+1)) s2)) (fun s1=>wlkL stp (xs.drop (k+1)) d s1)=R):=HDz.out
      clear HDz
      have x11:=HX2.out.cell 11 (v:=.slice ta y.thn.length tc) rfl
      have CT:Hid (Cs 85 #[.slice ta y.thn.length tc,.int .i64 (wrap64 (d+1)),.func (.func 86) #[] #[.pointer (some p1),.pointer (some p2)]] W2 fun e w'=>VOut (I (f+szL (xs.drop (k+1))+szL y.els)) J own Z W2 (wlkL stp y.thn (wrap64 (d+1)) s2) e w'):=HIH.out _ HY.out.1 _ y.thn _ _ s2 W2 (Nat.le_refl _) HTh.out HI2.out
      generalize wlkL stp y.thn (wrap64 (d+1)) s2=r2 at*
      go_wp2_with fail
      refine CT.out.mono ?_
      intro e W3 hout
      cases r2 with
      | error p=>
       obtain⟨rfl,hz⟩:=hout
       have HE:Hid (R=.error p):=by show _=_;rw[← HD2.out];rfl
       have HZ:Hid (Z p W3):=hz
       clear hz CT
       go_wp2
       exact⟨rfl,by rw[HE.out];exact⟨rfl,HZ.out⟩⟩
      | ok bs=>
       obtain⟨bb,s3⟩:=bs
       obtain⟨rfl,hIj,hJj,hKj⟩:=hout
       have HIi3:Hid (bb=true→I (f+szL (xs.drop (k+1))+szL y.els) s3 W3):=hIj
       have HJ3:Hid (J s3 W3):=hJj
       have HKp3:Hid (VKeep own w W3):=HKp2.out.trans hKj
       have HX3:Hid (Blk W3 xb (sgA y ta tc ea ec) 127):=HX2.out.kept hKj.1 HNo2.out
       clear hIj hJj hKj CT x11
       cases bb with
       | false=>
        have HE:Hid (R=.ok (false,s3)):=by show _=_;rw[← HD2.out];rfl
        go_wp2
        go_ret
        rw[HE.out]
        exact⟨rfl,(fun h=>by cases h),HJ3.out,HKp3.out⟩
       | true=>
        have HI3:Hid (I (f+szL (xs.drop (k+1))+szL y.els) s3 W3):=HIi3.out (by trivial)
        have HD3:Hid (andT (wlkL stp y.els (wrap64 (d+1)) s3) (fun s1=>wlkL stp (xs.drop (k+1)) d s1)=R):=HD2.out
        clear HD2
        have x12:=HX3.out.cell 12 (v:=.slice ea y.els.length ec) rfl
        have CT:Hid (Cs 85 #[.slice ea y.els.length ec,.int .i64 (wrap64 (d+1)),.func (.func 86) #[] #[.pointer (some p1),.pointer (some p2)]] W3 fun e w'=>VOut (I (f+szL (xs.drop (k+1)))) J own Z W3 (wlkL stp y.els (wrap64 (d+1)) s3) e w'):=HIH.out _ HY.out.2 _ y.els _ _ s3 W3 (Nat.le_refl _) HEl.out HI3.out
        generalize wlkL stp y.els (wrap64 (d+1)) s3=r3 at*
        go_wp2_with fail
        refine CT.out.mono ?_
        intro e W4 hout
        cases r3 with
        | error p=>
         obtain⟨rfl,hz⟩:=hout
         have HE:Hid (R=.error p):=by show _=_;rw[← HD3.out];rfl
         have HZ:Hid (Z p W4):=hz
         clear hz CT
         go_wp2
         exact⟨rfl,by rw[HE.out];exact⟨rfl,HZ.out⟩⟩
        | ok bs=>
         obtain⟨bb,s4⟩:=bs
         obtain⟨rfl,hIj,hJj,hKj⟩:=hout
         have HIi4:Hid (bb=true→I (f+szL (xs.drop (k+1))) s4 W4):=hIj
         have HJ4:Hid (J s4 W4):=hJj
         have HKp4:Hid (VKeep own w W4):=HKp3.out.trans hKj
         clear hIj hJj hKj CT x12
         cases bb with
         | false=>
          have HE:Hid (R=.ok (false,s4)):=by show _=_;rw[← HD3.out];rfl
          go_wp2
          go_ret
          rw[HE.out]
          exact⟨rfl,(fun h=>by cases h),HJ4.out,HKp4.out⟩
         | true=>
          have HI4:Hid (I (f+szL (xs.drop (k+1))) s4 W4):=HIi4.out (by trivial)
          have HE:Hid (wlkL stp (xs.drop (k+1)) d s4=R):=HD3.out
          go_wp2
          exact⟨⟨k+1,s4,by omega,by go_num,HI4.out,HKp4.out,HE.out⟩,by simp only[intOf];omega⟩
   ·have e:k=n:=by omega
    subst e
    have HE:Hid (R=.ok (true,s1)):=by
     have h1:=HN.out
     have h2:=HD0.out
     rw[List.drop_of_length_le (by omega),wlkL] at h2
     exact h2.symm
    have HI0':Hid (I f s1 wr):=by
     have h1:=HN.out
     have h2:=HI00.out
     rw[List.drop_of_length_le (by omega),szL,Nat.add_zero] at h2
     exact h2
    clear HD0 HI00
    go_wp2
    go_ret
    rw[HE.out]
    exact⟨rfl,fun _=>HI0'.out,HIJ.out _ _ _ HI0'.out,HK0'.out⟩
theorem sz_walk:∀(N:Nat)(xs:List Stg)(d:Int)(s:Int × Int),szL xs≤N→∃ b c m,wlkL szStp xs d s=.ok (b,(c,m))∧(b=true→c=s.1+szL xs)∧(b=false→128<c):=by
 intro N
 induction N using Nat.strongRecOn with
 | _ N ih=>
  intro xs d s hN
  cases xs with
  | nil=>exact⟨true,s.1,s.2,by rw[wlkL],(fun _=>by rw[szL];simp),(fun h=>by cases h)⟩
  | cons x xs=>
   rw[szL,szS_eq] at hN
   have hw:wlkL szStp (x :: xs) d s=andT (wlkS szStp x d s) (fun s1=>wlkL szStp xs d s1):=by rw[wlkL];rfl
   rw[hw,wlkS_eq]
   by_cases hb:s.1+1≤128
   ·have e0:szStp s x d=.ok (true,(s.1+1,max s.2 d)):=by unfold szStp;simp[hb]
    rw[e0]
    obtain⟨b1,c1,m1,e1,t1,f1⟩:=ih (szL x.thn) (by omega) x.thn (wrap64 (d+1)) (s.1+1,max s.2 d) (Nat.le_refl _)
    show ∃ b c m,andT (andT (wlkL szStp x.thn (wrap64 (d+1)) (s.1+1,max s.2 d)) _) _=_∧_
    rw[e1]
    cases b1 with
    | false=>exact⟨false,c1,m1,rfl,(fun h=>by cases h),f1⟩
    | true=>
     obtain⟨b2,c2,m2,e2,t2,f2⟩:=ih (szL x.els) (by omega) x.els (wrap64 (d+1)) (c1,m1) (Nat.le_refl _)
     show ∃ b c m,andT (wlkL szStp x.els (wrap64 (d+1)) (c1,m1)) _=_∧_
     rw[e2]
     cases b2 with
     | false=>exact⟨false,c2,m2,rfl,(fun h=>by cases h),f2⟩
     | true=>
      obtain⟨b3,c3,m3,e3,t3,f3⟩:=ih (szL xs) (by omega) xs d (c2,m2) (Nat.le_refl _)
      show ∃ b c m,wlkL szStp xs d (c2,m2)=_∧_
      rw[e3]
      have h1:c1=s.1+1+szL x.thn:=t1 rfl
      have h2:c2=c1+szL x.els:=t2 rfl
      refine⟨b3,c3,m3,rfl,fun h=>?_,f3⟩
      have h3:c3=c2+szL xs:=t3 h
      rw[szL,szS_eq]
      omega
   ·have e0:szStp s x d=.ok (false,(s.1+1,max s.2 d)):=by unfold szStp;simp[hb]
    rw[e0]
    exact⟨false,s.1+1,max s.2 d,rfl,(fun h=>by cases h),fun _=>by omega⟩
theorem size_le {xs:List Stg}(h:sizeE xs=0):szL xs≤128:=by
 obtain⟨b,c,m,e,ht,hf⟩:=sz_walk (szL xs) xs 1 (0,0) (Nat.le_refl _)
 unfold sizeE at h
 rw[e] at h
 simp only at h
 cases b with
 | false=>have:=hf rfl;rw[if_pos this] at h;cases h
 | true=>
  have h1:c=0+szL xs:=ht rfl
  by_cases h2:128<c
  ·rw[if_pos h2] at h;cases h
  ·omega
def apNew (out:List ByteArray)(y:Stg):List ByteArray:=if y.kind=1∧hasT out y.table=false then out++[y.table] else out
def apStp (out:List ByteArray)(y:Stg)(d:Int):Except PanicEntry (Bool × List ByteArray):=.ok (true,apNew out y)
def strsV (l:List ByteArray):List Value:=l.map .string
theorem strsV_snoc (l:List ByteArray)(x:ByteArray):strsV (l++[x])=strsV l++[.string x]:=by simp[strsV]
structure ApI (w0:World)(pm pl mb:Nat)(f:Nat)(out:List ByteArray)(w:World):Prop where
 below:Below w0.heap.size w0 w
 cm:Blk w pm #[.map (some mb)] 108
 st:SetT w mb out
 lst:∃ sv,Blk w pl #[sv] 36∧w.ownsRow w0.heap.size 9 1 sv out.length (strsV out)∧∀ k,sv.ownBlock=some k→k≠pl∧k≠pm∧k≠mb
 okt:∀ x ∈ out,Okt x
 fuel:out.length+f≤128
def apOwn (pl mb:Nat)(w:World)(k:Nat):Prop:=k=pl∨k=mb∨∃ sv,w.cell? ⟨pl,0,none⟩=some sv∧sv.ownBlock=some k
def Apart (w0:World)(pm pl mb:Nat):Prop:=w0.heap.size≤pm∧w0.heap.size≤pl∧w0.heap.size≤mb∧pm≠pl∧pm≠mb∧pl≠mb
theorem ApI.grow {w0:World}{pm pl mb f:Nat}{out:List ByteArray}{w w':World}(h:ApI w0 pm pl mb f out w)(hb:Below w.heap.size w w'):ApI w0 pm pl mb f out w':=by
 obtain⟨sv,h1,h2,h3⟩:=h.lst
 exact⟨h.below.trans (hb.mono h.below.size),h.cm.below hb,h.st.below hb,⟨sv,h1.below hb,ownsRow_kept (S:=fun _=>False) h2 (Kept.of_below hb) (fun _ _ e=>e),h3⟩,h.okt,h.fuel⟩
theorem ApI.own {w0:World}{pm pl mb f:Nat}{out:List ByteArray}{w:World}{k:Nat}(h:ApI w0 pm pl mb f out w)(hk:apOwn pl mb w k):k<w.heap.size:=by
 obtain⟨sv,h1,h2,h3⟩:=h.lst
 rcases hk with rfl|rfl|⟨sv',e,ek⟩
 ·exact h1.lt
 ·exact h.st.lt
 ·rw[h1.cell 0 (v:=sv) rfl] at e
  cases e
  exact(h2.lt k ek).2
theorem ApI.og {w0:World}{pm pl mb f:Nat}{out:List ByteArray}{w w':World}{k:Nat}(h:ApI w0 pm pl mb f out w)(hb:Below w.heap.size w w')(hk:apOwn pl mb w' k):apOwn pl mb w k:=by
 obtain⟨sv,h1,h2,h3⟩:=h.lst
 rcases hk with rfl|rfl|⟨sv',e,ek⟩
 ·exact .inl rfl
 ·exact .inr (.inl rfl)
 ·rw[(h1.below hb).cell 0 (v:=sv) rfl] at e
  cases e
  exact .inr (.inr ⟨sv,h1.cell 0 rfl,ek⟩)
theorem hasT_snoc (out:List ByteArray)(x s:ByteArray):hasT (x :: out) s=hasT (out++[x]) s:=by
 unfold hasT
 rw[List.any_append,List.any_cons,List.any_cons,List.any_nil,Bool.or_false,Bool.or_comm]
section
variable {w0 W1 W2 wb w6:World} {pm pl mb f g cap bc:Nat} {ba:Option Addr} {out:List ByteArray} {x:ByteArray}
theorem ap_mid (hap:Apart w0 pm pl mb)(h:ApI w0 pm pl mb (f+1) out W1)(hsv:Blk W1 pl #[.slice ba out.length bc] 36)(hk2:Kept (fun k=>k=mb) W1 W2)(hb:Below W2.heap.size W2 wb):
  Blk wb pl #[.slice ba out.length bc] 36∧wb.ownsRow w0.heap.size 9 1 (.slice ba out.length bc) out.length (strsV out)∧(∀ k,(Value.slice ba out.length bc).ownBlock=some k→k≠pl∧k≠pm∧k≠mb):=by
 obtain⟨_,_,_,_,h5,h6⟩:=hap
 obtain⟨sv,l1,l2,l3⟩:=h.lst
 have e1:=l1.cell 0 (v:=sv) rfl
 rw[hsv.cell 0 (v:=.slice ba out.length bc) rfl] at e1
 cases e1
 exact⟨(hsv.kept hk2 h6).below hb,ownsRow_kept (S:=fun _=>False) (ownsRow_kept l2 hk2 (fun k e=>(l3 k e).2.2)) (Kept.of_below hb) (fun _ _ e=>e),l3⟩
theorem ap_cell (hap:Apart w0 pm pl mb)(h:ApI w0 pm pl mb (f+1) out W1)(hsv:Blk W1 pl #[.slice ba out.length bc] 36)(hk2:Kept (fun k=>k=mb) W1 W2)(hb:Below W2.heap.size W2 wb)
  (hg:(wb.alloc (.cells #[.string x] 9)).grownBy w6 (Value.slice ba out.length bc).ownBlock):Blk w6 pl #[.slice ba out.length bc] 36:=by
 obtain⟨h1,h2,h3⟩:=ap_mid hap h hsv hk2 (hb.alloc hb.size (.cells #[.string x] 9))
 exact h1.kept (S:=fun k=>(Value.slice ba out.length bc).ownBlock=some k) ((Kept.refl _ _).grown hg (fun k e=>e)) (fun e=>(h3 _ e).1 rfl)
theorem ap_push (hap:Apart w0 pm pl mb)(h:ApI w0 pm pl mb (f+1) out W1)(hsv:Blk W1 pl #[.slice ba out.length bc] 36)(hS2:SetT W2 mb (x :: out))(hk2:Kept (fun k=>k=mb) W1 W2)(hx:Okt x)(hb:Below W2.heap.size W2 wb)
  (hg:(wb.alloc (.cells #[.string x] 9)).grownBy w6 (Value.slice ba out.length bc).ownBlock) (hown:w6.ownsRow w0.heap.size 9 1 (.slice (some ⟨g,0,none⟩) (out.length+1) cap) (out.length+1) (strsV out++[.string x]))
  (hwh:(Value.slice ba out.length bc).ownBlock=some g∨g=(wb.alloc (.cells #[.string x] 9)).heap.size):
  ApI w0 pm pl mb f (out++[x]) (w6.setCell ⟨pl,0,none⟩ (.slice (some ⟨g,0,none⟩) (out.length+1) cap))∧VKeep (apOwn pl mb) W1 (w6.setCell ⟨pl,0,none⟩ (.slice (some ⟨g,0,none⟩) (out.length+1) cap)):=by
 have hap0:=hap
 obtain⟨p1,p2,p3,p4,p5,p6⟩:=hap
 obtain⟨m1,m2,m3⟩:=ap_mid hap0 h hsv hk2 (Below.refl W2.heap.size W2)
 have hb':Below W2.heap.size W2 (wb.alloc (.cells #[.string x] 9)):=hb.alloc hb.size _
 have c6:=ap_cell hap0 h hsv hk2 hb hg
 have k6:Kept (fun k=>k=pl∨(Value.slice ba out.length bc).ownBlock=some k) W2 (w6.setCell ⟨pl,0,none⟩ (.slice (some ⟨g,0,none⟩) (out.length+1) cap)):=
  Kept.set (S:=fun k=>k=pl∨(Value.slice ba out.length bc).ownBlock=some k) ((Kept.of_below hb').grown hg (fun k e=>.inr e)) (.inl rfl) _
 have kW:Kept (apOwn pl mb W1) W1 (w6.setCell ⟨pl,0,none⟩ (.slice (some ⟨g,0,none⟩) (out.length+1) cap)):=
  (hk2.mono (fun k _ e => .inr (.inl e))).trans (k6.mono (fun k _ e => by
    rcases e with e | e
    · exact .inl e
    · exact .inr (.inr ⟨_, hsv.cell 0 rfl, e⟩)))
 have hsz:W1.heap.size≤(wb.alloc (.cells #[.string x] 9)).heap.size:=Nat.le_trans hk2.size hb'.size
 have lpl:=hsv.lt
 have lpm:=h.cm.lt
 have lmb:=h.st.lt
 have hgs:g≠pl∧g≠pm∧g≠mb:=by
  rcases hwh with e|e
  ·exact m3 _ e
  ·omega
 have hcell:(w6.setCell ⟨pl,0,none⟩ (.slice (some ⟨g,0,none⟩) (out.length+1) cap)).cell? ⟨pl,0,none⟩=some (.slice (some ⟨g,0,none⟩) (out.length+1) cap):=(c6.set 0 _).cell 0 rfl
 refine⟨⟨h.below.trans (kW.below h.below.size (fun k e=>?_)),h.cm.kept kW ?_,(hS2.kept k6 ?_).to (hasT_snoc out x),⟨_,c6.set 0 _,?_,fun k e=>?_⟩,fun z hz=>?_,?_⟩,kW,fun k e=>?_⟩
 ·rcases e with rfl|rfl|⟨sv,e1,e2⟩
  ·exact p2
  ·exact p3
  ·rw[hsv.cell 0 (v:=.slice ba out.length bc) rfl] at e1
   cases e1
   exact(m2.lt k e2).1
 ·rintro(e|e|⟨sv,e1,e2⟩)
  ·exact p4 e
  ·exact p5 e
  ·rw[hsv.cell 0 (v:=.slice ba out.length bc) rfl] at e1
   cases e1
   exact(m3 _ e2).2.1 rfl
 ·rintro(e|e)
  ·exact p6 e.symm
  ·exact(m3 _ e).2.2 rfl
 ·rw[List.length_append,strsV_snoc]
  exact ownsRow_kept (S := fun k => k = pl) hown (Kept.set (S := fun k => k = pl) (Kept.refl _ _) rfl _) (fun k e => by
    have : k = g := by simpa [Value.ownBlock] using e.symm
    rw [this]; exact hgs.1)
 ·have:k=g:=by simpa[Value.ownBlock] using e.symm
  rw[this];exact hgs
 ·rcases List.mem_append.1 hz with hz|hz
  ·exact h.okt z hz
  ·rw[List.mem_singleton.1 hz];exact hx
 ·have:=h.fuel
  rw[List.length_append]
  simp
  omega
 ·rcases e with e|e|⟨sv,e1,e2⟩
  ·exact .inl (.inl e)
  ·exact .inl (.inr (.inl e))
  ·rw[hcell] at e1
   cases e1
   have:k=g:=by simpa[Value.ownBlock] using e2.symm
   subst this
   rcases hwh with e|e
   ·exact .inl (.inr (.inr ⟨_,hsv.cell 0 rfl,e⟩))
   ·exact .inr (by omega)
end
theorem applied1_any (w0:World)(pm pl mb f:Nat)(hap:Apart w0 pm pl mb)(out:List ByteArray)(w:World)(y:Stg)(cs:Array Value)(d:Int)(h:ApI w0 pm pl mb (f+1) out w)(hy:StgIs w0 y cs):
  Calls Tryz.prog 86 #[.agg cs,.int .i64 d,.pointer (some ⟨pm,0,none⟩),.pointer (some ⟨pl,0,none⟩)] w fun e w'=>VOut (ApI w0 pm pl mb f) (ApI w0 pm pl mb 0) (apOwn pl mb) (fun _ _=>False) w (apStp out y d) e w':=by
 obtain⟨i0,hi,hz0,hz1,hz3⟩:=info_of info9
 obtain⟨v1',v2',rfl,hok,hth,hel⟩:=(stgIs_iff w0 y cs).1 hy
 obtain⟨ta,tc,rfl,_⟩:=hth.slice
 obtain⟨ea,ec,rfl,_⟩:=hel.slice
 have hot:Okt y.table:=hok.2.1
 have HI:Hid (ApI w0 pm pl mb (f+1) out w):=h
 have HAp:Hid (Apart w0 pm pl mb):=hap
 have HA:Hid (Bl w (w.alloc (.cells (sgA y ta tc ea ec) 127))):=(Below.refl _ _).alloc (Nat.le_refl _) _
 have HX:Hid (Blk (w.alloc (.cells (sgA y ta tc ea ec) 127)) w.heap.size (sgA y ta tc ea ec) 127):=Blk.new w _ 127
 have HI1:Hid (ApI w0 pm pl mb (f+1) out (w.alloc (.cells (sgA y ta tc ea ec) 127))):=h.grow HA.out
 have HG1:Hid (VKeep (apOwn pl mb) w (w.alloc (.cells (sgA y ta tc ea ec) 127))):=(VKeep.refl _ _).grow (fun k hk=>h.og HA.out hk) HA.out
 clear h hy hok hth hel hap
 have HR:Hid (apStp out y d=.ok (true,apNew out y)):=rfl
 have HN:Hid (apNew out y=if y.kind=1∧hasT out y.table=false then out++[y.table] else out):=rfl
 generalize apStp out y d=R at*
 generalize apNew out y=nw at*
 go_enter Tryz.func86,Tryz.ntmps86
 go_upto_region 1 with fail
 generalize (w.alloc _)=W1 at HX HA HI1 HG1 ⊢
 obtain⟨xb,hxb⟩:∃ xb,xb=w.heap.size:=⟨_,rfl⟩
 have hxm:xb≠mb:=by have:=HI.out.st.lt;omega
 rw[← hxb] at HX ⊢
 clear hxb
 have x0:=HX.out.cell 0 (v:=.int .i64 y.kind) rfl
 have x1:=HX.out.cell 1 (v:=.string y.table) rfl
 have a1:=HI1.out.cm.cell 0 (v:=.map (some mb)) rfl
 obtain⟨sv,hl1,hl2,hl3⟩:=HI1.out.lst
 obtain⟨ba,bc,rfl⟩:=ownsRow_slice hl2
 have l0:=hl1.cell 0 (v:=.slice ba out.length bc) rfl
 have fl0:=hl1.frozen 0
 obtain⟨c0,L⟩:=HI1.out.st.look hot
 have HSV:Hid (Blk W1 pl #[.slice ba out.length bc] 36):=hl1
 have HF1:Hid (ApI w0 pm pl mb f out W1∧ApI w0 pm pl mb 0 out W1):=⟨⟨HI1.out.below,HI1.out.cm,HI1.out.st,HI1.out.lst,HI1.out.okt,by have:=HI1.out.fuel;omega⟩,⟨HI1.out.below,HI1.out.cm,HI1.out.st,HI1.out.lst,HI1.out.okt,by have:=HI1.out.fuel;omega⟩⟩
 have HLn:Hid (out.length≤128):=by have:=HI1.out.fuel;show _≤_;omega
 clear hl1 hl2 hl3
 by_cases hk:y.kind=1
 case neg=>
  have HE:Hid (R=.ok (true,out)):=by show _=_;rw[HR.out,HN.out,if_neg (fun e=>hk e.1)]
  clear HN HR HI HI1
  go_wp2
  go_ret
  rw[HE.out]
  exact⟨rfl,fun _=>HF1.out.1,HF1.out.2,HG1.out⟩
 rw[hk] at x0 ⊢
 cases hm:hasT out y.table with
 | true=>
  rw[hm] at L
  have HE:Hid (R=.ok (true,out)):=by show _=_;rw[HR.out,HN.out,hm,if_neg (fun e=>by cases e.2)]
  clear HN HR HI HI1 hm
  go_wp2
  go_ret
  rw[HE.out]
  exact⟨rfl,fun _=>HF1.out.1,HF1.out.2,HG1.out⟩
 | false=>
  rw[hm] at L
  have HE:Hid (R=.ok (true,out++[y.table])):=by show _=_;rw[HR.out,HN.out,hm,if_pos ⟨hk,rfl⟩]
  obtain⟨W2,hput,hS2,hk2⟩:=HI1.out.st.put hot (out.length:Int)
  have HS2:Hid (SetT W2 mb (y.table :: out)):=hS2
  have HK2:Hid (Kept (fun k=>k=mb) W1 W2):=hk2
  have y1:W2.cell? ⟨xb,1,none⟩=some (.string y.table):=hk2.cell x1 hxm
  obtain⟨m1,m2,m3⟩:=ap_mid HAp.out HI1.out HSV.out hk2 (Below.refl W2.heap.size W2)
  have z0:=m1.cell 0 (v:=.slice ba out.length bc) rfl
  have zf0:=m1.frozen 0
  have CC:Hid (∀ w1:World,Cs 87 #[.string y.table] w1 fun e w'=>e=.returned (.string y.table)∧Hid (Bl w1 w')):=fun w1=>(clone_any y.table w1 hot).mono fun _ _ h=>⟨h.1,h.2⟩
  have HNs:Hid (∀ u ∈ [Value.string y.table],u.oneCell'=true):=fun u hu=>by rw[List.mem_singleton.1 hu];rfl
  have HRX:Hid (∀ wb:World,Bl W2 wb→(wb.alloc (.cells #[.string y.table] 9)).ownsRow w0.heap.size 9 1 (.slice ba out.length bc) out.length (strsV out)):=fun wb hb=>(ap_mid HAp.out HI1.out HSV.out hk2 hb).2.1.alloc _
  have HNX:Hid (∀(wb:World) (j:Nat) (u:Value),[Value.string y.table][j]?=some u→(wb.alloc (.cells #[.string y.table] 9)).cell? ((⟨wb.heap.size,0,none⟩:Addr).add j)=some u):=fun wb=>World.news_of_block (Blk.new wb #[.string y.table] 9)
  have HSZ:Hid (out.length+1≤maxLen∧(out.length+1)*16≤140737488355328∧∀ wb:World,Bl W2 wb→w0.heap.size≤(wb.alloc (.cells #[.string y.table] 9)).heap.size):=⟨by have:=HLn.out;unfold maxLen;omega,by have:=HLn.out;omega,fun wb hb=>by have:=hb.size;have:=hk2.size;have:=HI1.out.below.size;rw[World.size_alloc];omega⟩
  have KC:Hid (∀ wb:World,Bl W2 wb→wb.cell? ⟨pl,0,none⟩=some (.slice ba out.length bc)∧pl<wb.heap.size∧wb.frozen? ⟨pl,0,none⟩=false):=fun wb hb=>⟨(ap_mid HAp.out HI1.out HSV.out hk2 hb).1.cell 0 rfl,(ap_mid HAp.out HI1.out HSV.out hk2 hb).1.lt,(ap_mid HAp.out HI1.out HSV.out hk2 hb).1.frozen 0⟩
  have KE:Hid (∀ wb w6:World,Bl W2 wb→(wb.alloc (.cells #[.string y.table] 9)).grownBy w6 (Value.slice ba out.length bc).ownBlock→w6.cell? ⟨pl,0,none⟩=some (.slice ba out.length bc)∧pl<w6.heap.size∧w6.frozen? ⟨pl,0,none⟩=false):=fun wb w6 hb hg=>⟨(ap_cell HAp.out HI1.out HSV.out hk2 hb hg).cell 0 rfl,(ap_cell HAp.out HI1.out HSV.out hk2 hb hg).lt,(ap_cell HAp.out HI1.out HSV.out hk2 hb hg).frozen 0⟩
  have HP : Hid (∀ (wb w6 : World) (g cap : Nat), Below W2.heap.size W2 wb → (wb.alloc (.cells #[.string y.table] 9)).grownBy w6 (Value.slice ba out.length bc).ownBlock → w6.ownsRow w0.heap.size 9 1 (.slice (some ⟨g, 0, none⟩) (out.length + 1) cap) (out.length + 1) (strsV out ++ [.string y.table]) → ((Value.slice ba out.length bc).ownBlock = some g ∨ g = (wb.alloc (.cells #[.string y.table] 9)).heap.size) →
      ApI w0 pm pl mb f (out ++ [y.table]) (w6.setCell ⟨pl, 0, none⟩ (.slice (some ⟨g, 0, none⟩) (out.length + 1) cap)) ∧ VKeep (apOwn pl mb) w (w6.setCell ⟨pl, 0, none⟩ (.slice (some ⟨g, 0, none⟩) (out.length + 1) cap))) := fun wb w6 g cap hb hg ho hw => by
   obtain⟨q1,q2⟩:=ap_push HAp.out HI1.out HSV.out HS2.out HK2.out hot hb hg ho hw
   exact⟨q1,HG1.out.trans q2⟩
  have a2:W2.cell? ⟨pm,0,none⟩=some (.map (some mb)):=hk2.cell a1 HAp.out.2.2.2.2.1
  clear HN HR HI HI1 hm hS2 hk2 m1 m2 m3 HF1 HSV HS2 HK2
  generalize out.length=n at*
  go_upto_region 4 with fail
  clear x0 x1 a1 a2 l0 fl0 L hput
  go_region_law (first
    | (refine step_append_lies _ (by rfl) (.tmp 28) (.tmp 32) 36 (by rfl) w0.heap.size 9 i0 (.string ⟨#[]⟩) 1 16 Tryz.underlying36 hi hz0 hz1 hz3 rfl (by decide) (.slice ba n bc) n (strsV out) (by rfl) (by exact HRX.out w4 ⟨hb4.out.os, hb4.out.tape, hb4.out.output, hb4.out.size, hb4.out.block⟩) ⟨w4.heap.size, 0, none⟩ 1 1 [.string y.table] (by rfl) rfl (by exact HNX.out w4) HNs.out (by decide) HSZ.out.1 HSZ.out.2.1 (by exact HSZ.out.2.2 w4 ⟨hb4.out.os, hb4.out.tape, hb4.out.output, hb4.out.size, hb4.out.block⟩) _ (by rfl) ?_; intro g1 cap1 w6 hown hgr hwh hlt6; obtain ⟨ke1, ke2, ke3⟩ := KE.out w4 w6 ⟨hb4.out.os, hb4.out.tape, hb4.out.output, hb4.out.size, hb4.out.block⟩ hgr; have hend : Hid _ := HP.out w4 w6 g1 cap1 ⟨hb4.out.os, hb4.out.tape, hb4.out.output, hb4.out.size, hb4.out.block⟩ hgr hown hwh; clear hown hgr hwh)
    | (go_simp; refine (CC.out _).mono ?_; rintro e w4 ⟨rfl, hb4⟩; obtain ⟨kc1, kc2, kc3⟩ := KC.out w4 ⟨hb4.out.os, hb4.out.tape, hb4.out.output, hb4.out.size, hb4.out.block⟩))
  all_goals
   go_wp2
   go_ret
   rw[HE.out]
   obtain⟨q1,q2⟩:=hend.out
   exact⟨rfl,fun _=>q1,⟨q1.below,q1.cm,q1.st,q1.lst,q1.okt,by have:=q1.fuel;omega⟩,q2⟩
end Go.Proofs.YtmbpclknhkbbkaaGreat
