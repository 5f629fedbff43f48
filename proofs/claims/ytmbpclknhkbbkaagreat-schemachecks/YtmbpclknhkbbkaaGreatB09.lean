/- Package schema: walk, over each of its. -/
import Derived.Test.YtmbpclknhkbbkaaGreatB08
set_option linter.unusedSimpArgs false
set_option linter.unusedVariables false
set_option maxHeartbeats 4000000
set_option maxRecDepth 100000
namespace Go.Proofs.YtmbpclknhkbbkaaGreat
open Go.RowKit
mutual
def szS:Stg→Nat
 | .mk _ _ _ th el=>1+szL th+szL el
def szL:List Stg→Nat
 |[]=>0
 | x :: xs=>szS x+szL xs
end
mutual
def wlkS {σ:Type}(stp:σ→Stg→Int→Except PanicEntry (Bool × σ)):Stg→Int→σ→Except PanicEntry (Bool × σ)
 | .mk k t x th el,d,s=>match stp s (.mk k t x th el) d with
  | .error p=>.error p
  | .ok (false,s1)=>.ok (false,s1)
  | .ok (true,s1)=>match wlkL stp th (wrap64 (d+1)) s1 with
   | .error p=>.error p
   | .ok (false,s2)=>.ok (false,s2)
   | .ok (true,s2)=>wlkL stp el (wrap64 (d+1)) s2
def wlkL {σ:Type}(stp:σ→Stg→Int→Except PanicEntry (Bool × σ)):List Stg→Int→σ→Except PanicEntry (Bool × σ)
 |[],_,s=>.ok (true,s)
 | x :: xs,d,s=>match wlkS stp x d s with
  | .error p=>.error p
  | .ok (false,s1)=>.ok (false,s1)
  | .ok (true,s1)=>wlkL stp xs d s1
end
def andT {σ:Type}(r:Except PanicEntry (Bool × σ))(f:σ→Except PanicEntry (Bool × σ)):Except PanicEntry (Bool × σ):=match r with
 | .error p=>.error p
 | .ok (false,s)=>.ok (false,s)
 | .ok (true,s)=>f s
theorem wlkS_eq {σ:Type}(stp:σ→Stg→Int→Except PanicEntry (Bool × σ))(y:Stg)(d:Int)(s:σ):wlkS stp y d s=andT (stp s y d) (fun s1=>andT (wlkL stp y.thn (wrap64 (d+1)) s1) (fun s2=>wlkL stp y.els (wrap64 (d+1)) s2)):=by
 cases y;rw[wlkS];rfl
theorem wlk_step {σ:Type}{stp:σ→Stg→Int→Except PanicEntry (Bool × σ)}{xs:List Stg}{k:Nat}{y:Stg}(hk:xs[k]?=some y)(d:Int)(s:σ):wlkL stp (xs.drop k) d s=andT (wlkS stp y d s) (fun s1=>wlkL stp (xs.drop (k+1)) d s1):=by
 obtain⟨h,e⟩:=List.getElem?_eq_some_iff.1 hk
 rw[List.drop_eq_getElem_cons h,e,wlkL]
 rfl
theorem szL_mem:∀ {xs:List Stg}{k:Nat}{y:Stg},xs[k]?=some y→szS y≤szL xs
 |[],_,_,h=>by simp at h
 | x :: xs,0,y,h=>by simp at h;subst h;rw[szL];omega
 | x :: xs,k+1,y,h=>by
  have:=szL_mem (xs:=xs) (k:=k) (y:=y) (by simpa using h)
  rw[szL];omega
theorem szS_eq (y:Stg):szS y=1+szL y.thn+szL y.els:=by cases y;rw[szS];rfl
def WKeep {σ:Type}(own:σ→Nat→Prop)(s:σ)(w:World)(s':σ)(w':World):Prop:=Kept (own s) w w'∧∀ k,own s' k→own s k∨w.heap.size≤k
theorem WKeep.refl {σ:Type}(own:σ→Nat→Prop)(s:σ)(w:World):WKeep own s w s w:=⟨Kept.refl _ _,fun _ h=>.inl h⟩
theorem WKeep.trans {σ:Type}{own:σ→Nat→Prop}{s1 s2 s3:σ}{a b c:World}(h:WKeep own s1 a s2 b)(k:WKeep own s2 b s3 c):WKeep own s1 a s3 c:=
 ⟨⟨k.1.os.trans h.1.os, k.1.tape.trans h.1.tape, k.1.output.trans h.1.output, Nat.le_trans h.1.size k.1.size, fun i hi hs => (k.1.block i (Nat.lt_of_lt_of_le hi h.1.size) (fun hk => by
   rcases h.2 i hk with h1 | h1
   · exact hs h1
   · omega)).trans (h.1.block i hi hs)⟩, fun i hi => by
   rcases k.2 i hi with h1 | h1
   · exact h.2 i h1
   · exact .inr (Nat.le_trans h.1.size h1)⟩
theorem WKeep.grow {σ:Type}{own:σ→Nat→Prop}{s s':σ}{a b c:World}(h:WKeep own s a s' b)(k:Below b.heap.size b c):WKeep own s a s' c:=⟨h.1.trans (Kept.of_below k),h.2⟩
def WOut {σ:Type}(I J:σ→World→Prop)(own:σ→Nat→Prop)(Z:PanicEntry→World→Prop)(s:σ)(w:World)(r:Except PanicEntry (Bool × σ))(e:Ending)(w':World):Prop:=match r with
 | .ok (b,s')=>e=.returned (.bool b)∧(b=true→I s' w')∧J s' w'∧WKeep own s w s' w'
 | .error p=>e=.panicked [p]∧Z p w'
theorem walk170_any {σ:Type}(I J:σ→World→Prop)(hIJ:∀ s w,I s w→J s w)(own:σ→Nat→Prop)(Z:PanicEntry→World→Prop)(stp:σ→Stg→Int→Except PanicEntry (Bool × σ))(w0:World)(p1 p2:Addr)(hgrow:∀ s w w',I s w→Below w.heap.size w w'→I s w')(hpres:∀ s w,I s w→Pres w0 w)(hown:∀ s w k,I s w→own s k→k<w.heap.size)
  (hstep:∀ s w x cs d,I s w→StgIs w0 x cs→Calls Tryz.prog 170 #[.agg cs,.int .i64 d,.pointer (some p1),.pointer (some p2)] w fun e w'=>WOut I J own Z s w (stp s x d) e w'):
  ∀(N:Nat) (xs:List Stg) (v:Value) (d:Int) (s:σ) (w:World),szL xs≤N→StgRow w0 v xs→I s w→Calls Tryz.prog 85 #[v,.int .i64 d,.func (.func 170) #[] #[.pointer (some p1),.pointer (some p2)]] w fun e w'=>WOut I J own Z s w (wlkL stp xs d s) e w':=by
 intro N
 induction N using Nat.strongRecOn with
 | _ N ih=>
  intro xs v d s w hN hr hI
  obtain⟨ad,cap,rfl,_⟩:=hr.slice
  have hlen:xs.length*176≤140737488351232:=(stgRow_row hr).2
  have HR:Hid (StgRow w0 (.slice ad xs.length cap) xs):=hr
  have HI0:Hid (I s w):=hI
  have HSZ:Hid (szL xs≤N):=hN
  have HGr:Hid (∀ s w w',I s w→Bl w w'→I s w'):=hgrow
  have HPr:Hid (∀ s w,I s w→Pres w0 w):=hpres
  have HIJ:Hid (∀ s w,I s w→J s w):=hIJ
  have HOw:Hid (∀ s w k,I s w→own s k→k<w.heap.size):=hown
  have HST:Hid (∀ s w x cs d,I s w→StgIs w0 x cs→Cs 170 #[.agg cs,.int .i64 d,.pointer (some p1),.pointer (some p2)] w fun e w'=>WOut I J own Z s w (stp s x d) e w'):=hstep
  have HIH:Hid (∀ M,M<N→∀(xs:List Stg) (v:Value) (d:Int) (s:σ) (w:World),szL xs≤M→StgRow w0 v xs→I s w→Cs 85 #[v,.int .i64 d,.func (.func 170) #[] #[.pointer (some p1),.pointer (some p2)]] w fun e w'=>WOut I J own Z s w (wlkL stp xs d s) e w'):=ih
  obtain⟨R,hR⟩:∃ R,R=wlkL stp xs d s:=⟨_,rfl⟩
  have H0:Hid (wlkL stp (xs.drop 0) d s=R):=by rw[hR];rfl
  rw[← hR]
  obtain⟨n,hn⟩:∃ n,n=xs.length:=⟨_,rfl⟩
  have HN:Hid (n=xs.length):=hn
  rw[← hn] at hlen HR ⊢
  clear hn hR hr hI hN hgrow hpres hstep ih hown hIJ
  go_enter Tryz.func85,Tryz.ntmps85
  go_wp2_with fail
  go_loopw [11] (fun i wr=>∃(k:Nat) (s':σ),k≤n∧i=.int .i64 k∧I s' wr∧WKeep own s w s' wr∧wlkL stp (xs.drop k) d s'=R) (fun i _=>n - (intOf i).toNat)
  case atStart=>exact⟨0,s,by omega,rfl,HI0.out,WKeep.refl _ _ _,H0.out⟩
  case round=>
   obtain⟨k,s1,hk,rfl,hI1,hK1,hd⟩:=hrel
   have HI0':Hid (I s1 wr):=hI1
   have HK0':Hid (WKeep own s w s1 wr):=hK1
   have HD0:Hid (wlkL stp (xs.drop k) d s1=R):=hd
   clear hI1 hd hK1
   by_cases hlt:k<n
   ·obtain⟨y,hy⟩:=gE HN.out hlt
    obtain⟨b,o,cs,rfl,_,hcc,hIs⟩:=(stgRow_row HR.out).1.at hy
    have HIs0:=hIs
    obtain⟨v1,v2,rfl,hok,hth,hel⟩:=(stgIs_iff w0 y cs).1 hIs
    obtain⟨ta,tc,rfl,_⟩:=hth.slice
    obtain⟨ea,ec,rfl,_⟩:=hel.slice
    have HIs:Hid (StgIs w0 y (sgA y ta tc ea ec)):=HIs0
    have HTh:Hid (StgRow w0 (.slice ta y.thn.length tc) y.thn):=hth
    have HEl:Hid (StgRow w0 (.slice ea y.els.length ec) y.els):=hel
    have HY:Hid (szL y.thn<N∧szL y.els<N):=by
     have h1:=szL_mem hy
     have h2:=HSZ.out
     rw[szS_eq] at h1
     exact⟨by omega,by omega⟩
    have hpw:=HPr.out _ _ HI0'.out
    have q0:wr.cell? ⟨b,o+k*13,none⟩=some (.int .i64 y.kind):=by have:=hpw _ _ (hcc 0 _ rfl);simpa using this
    have q1:wr.cell? ⟨b,o+k*13+1,none⟩=some (.string y.table):=by have:=hpw _ _ (hcc 1 _ rfl);simpa using this
    have q2:wr.cell? ⟨b,o+k*13+2,none⟩=some (.int .i64 y.test.kind):=by have:=hpw _ _ (hcc 2 _ rfl);simpa using this
    have q3:wr.cell? ⟨b,o+k*13+3,none⟩=some (.string y.test.a.ref.head):=by have:=hpw _ _ (hcc 3 _ rfl);simpa using this
    have q4:wr.cell? ⟨b,o+k*13+4,none⟩=some (.string y.test.a.ref.name):=by have:=hpw _ _ (hcc 4 _ rfl);simpa using this
    have q5:wr.cell? ⟨b,o+k*13+5,none⟩=some (.int .u64 (hiOf y.test.a.const)):=by have:=hpw _ _ (hcc 5 _ rfl);simpa using this
    have q6:wr.cell? ⟨b,o+k*13+6,none⟩=some (.int .u64 (loOf y.test.a.const)):=by have:=hpw _ _ (hcc 6 _ rfl);simpa using this
    have q7:wr.cell? ⟨b,o+k*13+7,none⟩=some (.string y.test.b.ref.head):=by have:=hpw _ _ (hcc 7 _ rfl);simpa using this
    have q8:wr.cell? ⟨b,o+k*13+8,none⟩=some (.string y.test.b.ref.name):=by have:=hpw _ _ (hcc 8 _ rfl);simpa using this
    have q9:wr.cell? ⟨b,o+k*13+9,none⟩=some (.int .u64 (hiOf y.test.b.const)):=by have:=hpw _ _ (hcc 9 _ rfl);simpa using this
    have q10:wr.cell? ⟨b,o+k*13+10,none⟩=some (.int .u64 (loOf y.test.b.const)):=by have:=hpw _ _ (hcc 10 _ rfl);simpa using this
    have q11:wr.cell? ⟨b,o+k*13+11,none⟩=some (.slice ta y.thn.length tc):=by have:=hpw _ _ (hcc 11 _ rfl);simpa using this
    have q12:wr.cell? ⟨b,o+k*13+12,none⟩=some (.slice ea y.els.length ec):=by have:=hpw _ _ (hcc 12 _ rfl);simpa using this
    have HDz:Hid (andT (andT (stp s1 y d) (fun s1=>andT (wlkL stp y.thn (wrap64 (d+1)) s1) (fun s2=>wlkL stp y.els (wrap64 (d+1)) s2))) (fun s1=>wlkL stp (xs.drop (k+1)) d s1)=R):=by
     show _=_
     rw[← HD0.out,wlk_step hy,wlkS_eq]
    clear hcc hIs HIs0 hth hel hpw HD0 hok
    go_upto_region 4 with fail
    have HA:Hid (Bl wr (wr.alloc (.cells (sgA y ta tc ea ec) 127))):=(Below.refl _ _).alloc (Nat.le_refl _) _
    have HX1:Hid (Blk (wr.alloc (.cells (sgA y ta tc ea ec) 127)) wr.heap.size (sgA y ta tc ea ec) 127):=Blk.new _ _ _
    generalize (wr.alloc _)=W1 at HA HX1 ⊢
    have HI1:Hid (I s1 W1):=HGr.out _ _ _ HI0'.out HA.out
    have HKp1:Hid (WKeep own s w s1 W1):=HK0'.out.grow HA.out
    have HNo1:Hid (¬ own s1 wr.heap.size):=fun h=>by have:=HOw.out _ _ _ HI0'.out h;omega
    obtain⟨xb,hxb⟩:∃ xb,xb=wr.heap.size:=⟨_,rfl⟩
    rw[← hxb] at HX1 HNo1 ⊢
    clear hxb HA HI0' HK0' q0 q1 q2 q3 q4 q5 q6 q7 q8 q9 q10 q11 q12
    obtain⟨x0,x1,x2,x3,x4,x5,x6,x7,x8,x9,x10,x11,x12⟩:=HX1.out.c13
    have CS:Hid (Cs 170 #[.agg (sgA y ta tc ea ec),.int .i64 d,.pointer (some p1),.pointer (some p2)] W1 fun e w'=>WOut I J own Z s1 W1 (stp s1 y d) e w'):=HST.out s1 W1 y _ d HI1.out HIs.out
    generalize stp s1 y d=r1 at*
    go_wp2_with fail
    refine CS.out.mono ?_
    intro e W2 hout
    cases r1 with
    | error p=>
     obtain⟨rfl,hz⟩:=hout
     have HE:Hid (R=.error p):=by show _=_;rw[← HDz.out];rfl
     have HZ:Hid (Z p W2):=hz
     clear hz CS
     go_wp2
     exact⟨rfl,by rw[HE.out];exact⟨rfl,HZ.out⟩⟩
    | ok bs=>
     obtain⟨bb,s2⟩:=bs
     obtain⟨rfl,hIj,hJj,hKj⟩:=hout
     have HIi2:Hid (bb=true→I s2 W2):=hIj
     have HJ2:Hid (J s2 W2):=hJj
     have HKp2:Hid (WKeep own s w s2 W2):=HKp1.out.trans hKj
     have HX2:Hid (Blk W2 xb (sgA y ta tc ea ec) 127):=HX1.out.kept hKj.1 HNo1.out
     have HNo2:Hid (¬ own s2 xb):=by
      show ¬ _
      intro h
      rcases hKj.2 _ h with h1|h1
      ·exact HNo1.out h1
      ·have:=HX1.out.lt;omega
     clear hIj hJj hKj CS x0 x1 x2 x3 x4 x5 x6 x7 x8 x9 x10 x11 x12
     cases bb with
     | false=>
      have HE:Hid (R=.ok (false,s2)):=by show _=_;rw[← HDz.out];rfl
      go_wp2
      go_ret
      rw[HE.out]
      exact⟨rfl,(fun h=>by cases h),HJ2.out,HKp2.out⟩
     | true=>
      have HI2:Hid (I s2 W2):=HIi2.out (by trivial)
      have HD2:Hid (andT (andT (wlkL stp y.thn (wrap64 (d+1)) s2) (fun s2=>wlkL stp y.els (wrap64 (d+1)) s2)) (fun s1=>wlkL stp (xs.drop (k+1)) d s1)=R):=HDz.out
      clear HDz
      have x11:=HX2.out.cell 11 (v:=.slice ta y.thn.length tc) rfl
      have CT:Hid (Cs 85 #[.slice ta y.thn.length tc,.int .i64 (wrap64 (d+1)),.func (.func 170) #[] #[.pointer (some p1),.pointer (some p2)]] W2 fun e w'=>WOut I J own Z s2 W2 (wlkL stp y.thn (wrap64 (d+1)) s2) e w'):=HIH.out _ HY.out.1 y.thn _ _ s2 W2 (Nat.le_refl _) HTh.out HI2.out
      generalize wlkL stp y.thn (wrap64 (d+1)) s2=r2 at*
      go_wp2_with fail
      refine CT.out.mono ?_
      intro e W3 hout
      cases r2 with
      | error p=>
       obtain⟨rfl,hz⟩:=hout
       have HE:Hid (R=.error p):=by show _=_;rw[← HD2.out];rfl
       have HZ:Hid (Z p W3):=hz
       clear hz CT
       go_wp2
       exact⟨rfl,by rw[HE.out];exact⟨rfl,HZ.out⟩⟩
      | ok bs=>
       obtain⟨bb,s3⟩:=bs
       obtain⟨rfl,hIj,hJj,hKj⟩:=hout
       have HIi3:Hid (bb=true→I s3 W3):=hIj
       have HJ3:Hid (J s3 W3):=hJj
       have HKp3:Hid (WKeep own s w s3 W3):=HKp2.out.trans hKj
       have HX3:Hid (Blk W3 xb (sgA y ta tc ea ec) 127):=HX2.out.kept hKj.1 HNo2.out
       clear hIj hJj hKj CT x11
       cases bb with
       | false=>
        have HE:Hid (R=.ok (false,s3)):=by show _=_;rw[← HD2.out];rfl
        go_wp2
        go_ret
        rw[HE.out]
        exact⟨rfl,(fun h=>by cases h),HJ3.out,HKp3.out⟩
       | true=>
        have HI3:Hid (I s3 W3):=HIi3.out (by trivial)
        have HD3:Hid (andT (wlkL stp y.els (wrap64 (d+1)) s3) (fun s1=>wlkL stp (xs.drop (k+1)) d s1)=R):=HD2.out
        clear HD2
        have x12:=HX3.out.cell 12 (v:=.slice ea y.els.length ec) rfl
        have CT:Hid (Cs 85 #[.slice ea y.els.length ec,.int .i64 (wrap64 (d+1)),.func (.func 170) #[] #[.pointer (some p1),.pointer (some p2)]] W3 fun e w'=>WOut I J own Z s3 W3 (wlkL stp y.els (wrap64 (d+1)) s3) e w'):=HIH.out _ HY.out.2 y.els _ _ s3 W3 (Nat.le_refl _) HEl.out HI3.out
        generalize wlkL stp y.els (wrap64 (d+1)) s3=r3 at*
        go_wp2_with fail
        refine CT.out.mono ?_
        intro e W4 hout
        cases r3 with
        | error p=>
         obtain⟨rfl,hz⟩:=hout
         have HE:Hid (R=.error p):=by show _=_;rw[← HD3.out];rfl
         have HZ:Hid (Z p W4):=hz
         clear hz CT
         go_wp2
         exact⟨rfl,by rw[HE.out];exact⟨rfl,HZ.out⟩⟩
        | ok bs=>
         obtain⟨bb,s4⟩:=bs
         obtain⟨rfl,hIj,hJj,hKj⟩:=hout
         have HIi4:Hid (bb=true→I s4 W4):=hIj
         have HJ4:Hid (J s4 W4):=hJj
         have HKp4:Hid (WKeep own s w s4 W4):=HKp3.out.trans hKj
         clear hIj hJj hKj CT x12
         cases bb with
         | false=>
          have HE:Hid (R=.ok (false,s4)):=by show _=_;rw[← HD3.out];rfl
          go_wp2
          go_ret
          rw[HE.out]
          exact⟨rfl,(fun h=>by cases h),HJ4.out,HKp4.out⟩
         | true=>
          have HI4:Hid (I s4 W4):=HIi4.out (by trivial)
          have HE:Hid (wlkL stp (xs.drop (k+1)) d s4=R):=HD3.out
          go_wp2
          exact⟨⟨k+1,s4,by omega,by go_num,HI4.out,HKp4.out,HE.out⟩,by simp only[intOf];omega⟩
   ·have e:k=n:=by omega
    subst e
    have HE:Hid (R=.ok (true,s1)):=by
     have h1:=HN.out
     have h2:=HD0.out
     rw[List.drop_of_length_le (by omega),wlkL] at h2
     exact h2.symm
    clear HD0
    go_wp2
    go_ret
    rw[HE.out]
    exact⟨rfl,fun _=>HI0'.out,HIJ.out _ _ HI0'.out,HK0'.out⟩
theorem walk86_any {σ:Type}(I J:σ→World→Prop)(hIJ:∀ s w,I s w→J s w)(own:σ→Nat→Prop)(Z:PanicEntry→World→Prop)(stp:σ→Stg→Int→Except PanicEntry (Bool × σ))(w0:World)(p1 p2:Addr)(hgrow:∀ s w w',I s w→Below w.heap.size w w'→I s w')(hpres:∀ s w,I s w→Pres w0 w)(hown:∀ s w k,I s w→own s k→k<w.heap.size)
  (hstep:∀ s w x cs d,I s w→StgIs w0 x cs→Calls Tryz.prog 86 #[.agg cs,.int .i64 d,.pointer (some p1),.pointer (some p2)] w fun e w'=>WOut I J own Z s w (stp s x d) e w'):
  ∀(N:Nat) (xs:List Stg) (v:Value) (d:Int) (s:σ) (w:World),szL xs≤N→StgRow w0 v xs→I s w→Calls Tryz.prog 85 #[v,.int .i64 d,.func (.func 86) #[] #[.pointer (some p1),.pointer (some p2)]] w fun e w'=>WOut I J own Z s w (wlkL stp xs d s) e w':=by
 intro N
 induction N using Nat.strongRecOn with
 | _ N ih=>
  intro xs v d s w hN hr hI
  obtain⟨ad,cap,rfl,_⟩:=hr.slice
  have hlen:xs.length*176≤140737488351232:=(stgRow_row hr).2
  have HR:Hid (StgRow w0 (.slice ad xs.length cap) xs):=hr
  have HI0:Hid (I s w):=hI
  have HSZ:Hid (szL xs≤N):=hN
  have HGr:Hid (∀ s w w',I s w→Bl w w'→I s w'):=hgrow
  have HPr:Hid (∀ s w,I s w→Pres w0 w):=hpres
  have HIJ:Hid (∀ s w,I s w→J s w):=hIJ
  have HOw:Hid (∀ s w k,I s w→own s k→k<w.heap.size):=hown
  have HST:Hid (∀ s w x cs d,I s w→StgIs w0 x cs→Cs 86 #[.agg cs,.int .i64 d,.pointer (some p1),.pointer (some p2)] w fun e w'=>WOut I J own Z s w (stp s x d) e w'):=hstep
  have HIH:Hid (∀ M,M<N→∀(xs:List Stg) (v:Value) (d:Int) (s:σ) (w:World),szL xs≤M→StgRow w0 v xs→I s w→Cs 85 #[v,.int .i64 d,.func (.func 86) #[] #[.pointer (some p1),.pointer (some p2)]] w fun e w'=>WOut I J own Z s w (wlkL stp xs d s) e w'):=ih
  obtain⟨R,hR⟩:∃ R,R=wlkL stp xs d s:=⟨_,rfl⟩
  have H0:Hid (wlkL stp (xs.drop 0) d s=R):=by rw[hR];rfl
  rw[← hR]
  obtain⟨n,hn⟩:∃ n,n=xs.length:=⟨_,rfl⟩
  have HN:Hid (n=xs.length):=hn
  rw[← hn] at hlen HR ⊢
  clear hn hR hr hI hN hgrow hpres hstep ih hown hIJ
  go_enter Tryz.func85,Tryz.ntmps85
  go_wp2_with fail
  go_loopw [11] (fun i wr=>∃(k:Nat) (s':σ),k≤n∧i=.int .i64 k∧I s' wr∧WKeep own s w s' wr∧wlkL stp (xs.drop k) d s'=R) (fun i _=>n - (intOf i).toNat)
  case atStart=>exact⟨0,s,by omega,rfl,HI0.out,WKeep.refl _ _ _,H0.out⟩
  case round=>
   obtain⟨k,s1,hk,rfl,hI1,hK1,hd⟩:=hrel
   have HI0':Hid (I s1 wr):=hI1
   have HK0':Hid (WKeep own s w s1 wr):=hK1
   have HD0:Hid (wlkL stp (xs.drop k) d s1=R):=hd
   clear hI1 hd hK1
   by_cases hlt:k<n
   ·obtain⟨y,hy⟩:=gE HN.out hlt
    obtain⟨b,o,cs,rfl,_,hcc,hIs⟩:=(stgRow_row HR.out).1.at hy
    have HIs0:=hIs
    obtain⟨v1,v2,rfl,hok,hth,hel⟩:=(stgIs_iff w0 y cs).1 hIs
    obtain⟨ta,tc,rfl,_⟩:=hth.slice
    obtain⟨ea,ec,rfl,_⟩:=hel.slice
    have HIs:Hid (StgIs w0 y (sgA y ta tc ea ec)):=HIs0
    have HTh:Hid (StgRow w0 (.slice ta y.thn.length tc) y.thn):=hth
    have HEl:Hid (StgRow w0 (.slice ea y.els.length ec) y.els):=hel
    have HY:Hid (szL y.thn<N∧szL y.els<N):=by
     have h1:=szL_mem hy
     have h2:=HSZ.out
     rw[szS_eq] at h1
     exact⟨by omega,by omega⟩
    have hpw:=HPr.out _ _ HI0'.out
    have q0:wr.cell? ⟨b,o+k*13,none⟩=some (.int .i64 y.kind):=by have:=hpw _ _ (hcc 0 _ rfl);simpa using this
    have q1:wr.cell? ⟨b,o+k*13+1,none⟩=some (.string y.table):=by have:=hpw _ _ (hcc 1 _ rfl);simpa using this
    have q2:wr.cell? ⟨b,o+k*13+2,none⟩=some (.int .i64 y.test.kind):=by have:=hpw _ _ (hcc 2 _ rfl);simpa using this
    have q3:wr.cell? ⟨b,o+k*13+3,none⟩=some (.string y.test.a.ref.head):=by have:=hpw _ _ (hcc 3 _ rfl);simpa using this
    have q4:wr.cell? ⟨b,o+k*13+4,none⟩=some (.string y.test.a.ref.name):=by have:=hpw _ _ (hcc 4 _ rfl);simpa using this
    have q5:wr.cell? ⟨b,o+k*13+5,none⟩=some (.int .u64 (hiOf y.test.a.const)):=by have:=hpw _ _ (hcc 5 _ rfl);simpa using this
    have q6:wr.cell? ⟨b,o+k*13+6,none⟩=some (.int .u64 (loOf y.test.a.const)):=by have:=hpw _ _ (hcc 6 _ rfl);simpa using this
    have q7:wr.cell? ⟨b,o+k*13+7,none⟩=some (.string y.test.b.ref.head):=by have:=hpw _ _ (hcc 7 _ rfl);simpa using this
    have q8:wr.cell? ⟨b,o+k*13+8,none⟩=some (.string y.test.b.ref.name):=by have:=hpw _ _ (hcc 8 _ rfl);simpa using this
    have q9:wr.cell? ⟨b,o+k*13+9,none⟩=some (.int .u64 (hiOf y.test.b.const)):=by have:=hpw _ _ (hcc 9 _ rfl);simpa using this
    have q10:wr.cell? ⟨b,o+k*13+10,none⟩=some (.int .u64 (loOf y.test.b.const)):=by have:=hpw _ _ (hcc 10 _ rfl);simpa using this
    have q11:wr.cell? ⟨b,o+k*13+11,none⟩=some (.slice ta y.thn.length tc):=by have:=hpw _ _ (hcc 11 _ rfl);simpa using this
    have q12:wr.cell? ⟨b,o+k*13+12,none⟩=some (.slice ea y.els.length ec):=by have:=hpw _ _ (hcc 12 _ rfl);simpa using this
    have HDz:Hid (andT (andT (stp s1 y d) (fun s1=>andT (wlkL stp y.thn (wrap64 (d+1)) s1) (fun s2=>wlkL stp y.els (wrap64 (d+1)) s2))) (fun s1=>wlkL stp (xs.drop (k+1)) d s1)=R):=by
     show _=_
     rw[← HD0.out,wlk_step hy,wlkS_eq]
    clear hcc hIs HIs0 hth hel hpw HD0 hok
    go_upto_region 4 with fail
    have HA:Hid (Bl wr (wr.alloc (.cells (sgA y ta tc ea ec) 127))):=(Below.refl _ _).alloc (Nat.le_refl _) _
    have HX1:Hid (Blk (wr.alloc (.cells (sgA y ta tc ea ec) 127)) wr.heap.size (sgA y ta tc ea ec) 127):=Blk.new _ _ _
    generalize (wr.alloc _)=W1 at HA HX1 ⊢
    have HI1:Hid (I s1 W1):=HGr.out _ _ _ HI0'.out HA.out
    have HKp1:Hid (WKeep own s w s1 W1):=HK0'.out.grow HA.out
    have HNo1:Hid (¬ own s1 wr.heap.size):=fun h=>by have:=HOw.out _ _ _ HI0'.out h;omega
    obtain⟨xb,hxb⟩:∃ xb,xb=wr.heap.size:=⟨_,rfl⟩
    rw[← hxb] at HX1 HNo1 ⊢
    clear hxb HA HI0' HK0' q0 q1 q2 q3 q4 q5 q6 q7 q8 q9 q10 q11 q12
    obtain⟨x0,x1,x2,x3,x4,x5,x6,x7,x8,x9,x10,x11,x12⟩:=HX1.out.c13
    have CS:Hid (Cs 86 #[.agg (sgA y ta tc ea ec),.int .i64 d,.pointer (some p1),.pointer (some p2)] W1 fun e w'=>WOut I J own Z s1 W1 (stp s1 y d) e w'):=HST.out s1 W1 y _ d HI1.out HIs.out
    generalize stp s1 y d=r1 at*
    go_wp2_with fail
    refine CS.out.mono ?_
    intro e W2 hout
    cases r1 with
    | error p=>
     obtain⟨rfl,hz⟩:=hout
     have HE:Hid (R=.error p):=by show _=_;rw[← HDz.out];rfl
     have HZ:Hid (Z p W2):=hz
     clear hz CS
     go_wp2
     exact⟨rfl,by rw[HE.out];exact⟨rfl,HZ.out⟩⟩
    | ok bs=>
     obtain⟨bb,s2⟩:=bs
     obtain⟨rfl,hIj,hJj,hKj⟩:=hout
     have HIi2:Hid (bb=true→I s2 W2):=hIj
     have HJ2:Hid (J s2 W2):=hJj
     have HKp2:Hid (WKeep own s w s2 W2):=HKp1.out.trans hKj
     have HX2:Hid (Blk W2 xb (sgA y ta tc ea ec) 127):=HX1.out.kept hKj.1 HNo1.out
     have HNo2:Hid (¬ own s2 xb):=by
      show ¬ _
      intro h
      rcases hKj.2 _ h with h1|h1
      ·exact HNo1.out h1
      ·have:=HX1.out.lt;omega
     clear hIj hJj hKj CS x0 x1 x2 x3 x4 x5 x6 x7 x8 x9 x10 x11 x12
     cases bb with
     | false=>
      have HE:Hid (R=.ok (false,s2)):=by show _=_;rw[← HDz.out];rfl
      go_wp2
      go_ret
      rw[HE.out]
      exact⟨rfl,(fun h=>by cases h),HJ2.out,HKp2.out⟩
     | true=>
      have HI2:Hid (I s2 W2):=HIi2.out (by trivial)
      have HD2:Hid (andT (andT (wlkL stp y.thn (wrap64 (d+1)) s2) (fun s2=>wlkL stp y.els (wrap64 (d+1)) s2)) (fun s1=>wlkL stp (xs.drop (k+1)) d s1)=R):=HDz.out
      clear HDz
      have x11:=HX2.out.cell 11 (v:=.slice ta y.thn.length tc) rfl
      have CT:Hid (Cs 85 #[.slice ta y.thn.length tc,.int .i64 (wrap64 (d+1)),.func (.func 86) #[] #[.pointer (some p1),.pointer (some p2)]] W2 fun e w'=>WOut I J own Z s2 W2 (wlkL stp y.thn (wrap64 (d+1)) s2) e w'):=HIH.out _ HY.out.1 y.thn _ _ s2 W2 (Nat.le_refl _) HTh.out HI2.out
      generalize wlkL stp y.thn (wrap64 (d+1)) s2=r2 at*
      go_wp2_with fail
      refine CT.out.mono ?_
      intro e W3 hout
      cases r2 with
      | error p=>
       obtain⟨rfl,hz⟩:=hout
       have HE:Hid (R=.error p):=by show _=_;rw[← HD2.out];rfl
       have HZ:Hid (Z p W3):=hz
       clear hz CT
       go_wp2
       exact⟨rfl,by rw[HE.out];exact⟨rfl,HZ.out⟩⟩
      | ok bs=>
       obtain⟨bb,s3⟩:=bs
       obtain⟨rfl,hIj,hJj,hKj⟩:=hout
       have HIi3:Hid (bb=true→I s3 W3):=hIj
       have HJ3:Hid (J s3 W3):=hJj
       have HKp3:Hid (WKeep own s w s3 W3):=HKp2.out.trans hKj
       have HX3:Hid (Blk W3 xb (sgA y ta tc ea ec) 127):=HX2.out.kept hKj.1 HNo2.out
       clear hIj hJj hKj CT x11
       cases bb with
       | false=>
        have HE:Hid (R=.ok (false,s3)):=by show _=_;rw[← HD2.out];rfl
        go_wp2
        go_ret
        rw[HE.out]
        exact⟨rfl,(fun h=>by cases h),HJ3.out,HKp3.out⟩
       | true=>
        have HI3:Hid (I s3 W3):=HIi3.out (by trivial)
        have HD3:Hid (andT (wlkL stp y.els (wrap64 (d+1)) s3) (fun s1=>wlkL stp (xs.drop (k+1)) d s1)=R):=HD2.out
        clear HD2
        have x12:=HX3.out.cell 12 (v:=.slice ea y.els.length ec) rfl
        have CT:Hid (Cs 85 #[.slice ea y.els.length ec,.int .i64 (wrap64 (d+1)),.func (.func 86) #[] #[.pointer (some p1),.pointer (some p2)]] W3 fun e w'=>WOut I J own Z s3 W3 (wlkL stp y.els (wrap64 (d+1)) s3) e w'):=HIH.out _ HY.out.2 y.els _ _ s3 W3 (Nat.le_refl _) HEl.out HI3.out
        generalize wlkL stp y.els (wrap64 (d+1)) s3=r3 at*
        go_wp2_with fail
        refine CT.out.mono ?_
        intro e W4 hout
        cases r3 with
        | error p=>
         obtain⟨rfl,hz⟩:=hout
         have HE:Hid (R=.error p):=by show _=_;rw[← HD3.out];rfl
         have HZ:Hid (Z p W4):=hz
         clear hz CT
         go_wp2
         exact⟨rfl,by rw[HE.out];exact⟨rfl,HZ.out⟩⟩
        | ok bs=>
         obtain⟨bb,s4⟩:=bs
         obtain⟨rfl,hIj,hJj,hKj⟩:=hout
         have HIi4:Hid (bb=true→I s4 W4):=hIj
         have HJ4:Hid (J s4 W4):=hJj
         have HKp4:Hid (WKeep own s w s4 W4):=HKp3.out.trans hKj
         clear hIj hJj hKj CT x12
         cases bb with
         | false=>
          have HE:Hid (R=.ok (false,s4)):=by show _=_;rw[← HD3.out];rfl
          go_wp2
          go_ret
          rw[HE.out]
          exact⟨rfl,(fun h=>by cases h),HJ4.out,HKp4.out⟩
         | true=>
          have HI4:Hid (I s4 W4):=HIi4.out (by trivial)
          have HE:Hid (wlkL stp (xs.drop (k+1)) d s4=R):=HD3.out
          go_wp2
          exact⟨⟨k+1,s4,by omega,by go_num,HI4.out,HKp4.out,HE.out⟩,by simp only[intOf];omega⟩
   ·have e:k=n:=by omega
    subst e
    have HE:Hid (R=.ok (true,s1)):=by
     have h1:=HN.out
     have h2:=HD0.out
     rw[List.drop_of_length_le (by omega),wlkL] at h2
     exact h2.symm
    clear HD0
    go_wp2
    go_ret
    rw[HE.out]
    exact⟨rfl,fun _=>HI0'.out,HIJ.out _ _ HI0'.out,HK0'.out⟩
theorem walk155_any {σ:Type}(I J:σ→World→Prop)(hIJ:∀ s w,I s w→J s w)(own:σ→Nat→Prop)(Z:PanicEntry→World→Prop)(stp:σ→Stg→Int→Except PanicEntry (Bool × σ))(w0:World)(p1 p2:Addr)(hgrow:∀ s w w',I s w→Below w.heap.size w w'→I s w')(hpres:∀ s w,I s w→Pres w0 w)(hown:∀ s w k,I s w→own s k→k<w.heap.size)
  (hstep:∀ s w x cs d,I s w→StgIs w0 x cs→Calls Tryz.prog 155 #[.agg cs,.int .i64 d,.pointer (some p1),.pointer (some p2)] w fun e w'=>WOut I J own Z s w (stp s x d) e w'):
  ∀(N:Nat) (xs:List Stg) (v:Value) (d:Int) (s:σ) (w:World),szL xs≤N→StgRow w0 v xs→I s w→Calls Tryz.prog 85 #[v,.int .i64 d,.func (.func 155) #[] #[.pointer (some p1),.pointer (some p2)]] w fun e w'=>WOut I J own Z s w (wlkL stp xs d s) e w':=by
 intro N
 induction N using Nat.strongRecOn with
 | _ N ih=>
  intro xs v d s w hN hr hI
  obtain⟨ad,cap,rfl,_⟩:=hr.slice
  have hlen:xs.length*176≤140737488351232:=(stgRow_row hr).2
  have HR:Hid (StgRow w0 (.slice ad xs.length cap) xs):=hr
  have HI0:Hid (I s w):=hI
  have HSZ:Hid (szL xs≤N):=hN
  have HGr:Hid (∀ s w w',I s w→Bl w w'→I s w'):=hgrow
  have HPr:Hid (∀ s w,I s w→Pres w0 w):=hpres
  have HIJ:Hid (∀ s w,I s w→J s w):=hIJ
  have HOw:Hid (∀ s w k,I s w→own s k→k<w.heap.size):=hown
  have HST:Hid (∀ s w x cs d,I s w→StgIs w0 x cs→Cs 155 #[.agg cs,.int .i64 d,.pointer (some p1),.pointer (some p2)] w fun e w'=>WOut I J own Z s w (stp s x d) e w'):=hstep
  have HIH:Hid (∀ M,M<N→∀(xs:List Stg) (v:Value) (d:Int) (s:σ) (w:World),szL xs≤M→StgRow w0 v xs→I s w→Cs 85 #[v,.int .i64 d,.func (.func 155) #[] #[.pointer (some p1),.pointer (some p2)]] w fun e w'=>WOut I J own Z s w (wlkL stp xs d s) e w'):=ih
  obtain⟨R,hR⟩:∃ R,R=wlkL stp xs d s:=⟨_,rfl⟩
  have H0:Hid (wlkL stp (xs.drop 0) d s=R):=by rw[hR];rfl
  rw[← hR]
  obtain⟨n,hn⟩:∃ n,n=xs.length:=⟨_,rfl⟩
  have HN:Hid (n=xs.length):=hn
  rw[← hn] at hlen HR ⊢
  clear hn hR hr hI hN hgrow hpres hstep ih hown hIJ
  go_enter Tryz.func85,Tryz.ntmps85
  go_wp2_with fail
  go_loopw [11] (fun i wr=>∃(k:Nat) (s':σ),k≤n∧i=.int .i64 k∧I s' wr∧WKeep own s w s' wr∧wlkL stp (xs.drop k) d s'=R) (fun i _=>n - (intOf i).toNat)
  case atStart=>exact⟨0,s,by omega,rfl,HI0.out,WKeep.refl _ _ _,H0.out⟩
  case round=>
   obtain⟨k,s1,hk,rfl,hI1,hK1,hd⟩:=hrel
   have HI0':Hid (I s1 wr):=hI1
   have HK0':Hid (WKeep own s w s1 wr):=hK1
   have HD0:Hid (wlkL stp (xs.drop k) d s1=R):=hd
   clear hI1 hd hK1
   by_cases hlt:k<n
   ·obtain⟨y,hy⟩:=gE HN.out hlt
    obtain⟨b,o,cs,rfl,_,hcc,hIs⟩:=(stgRow_row HR.out).1.at hy
    have HIs0:=hIs
    obtain⟨v1,v2,rfl,hok,hth,hel⟩:=(stgIs_iff w0 y cs).1 hIs
    obtain⟨ta,tc,rfl,_⟩:=hth.slice
    obtain⟨ea,ec,rfl,_⟩:=hel.slice
    have HIs:Hid (StgIs w0 y (sgA y ta tc ea ec)):=HIs0
    have HTh:Hid (StgRow w0 (.slice ta y.thn.length tc) y.thn):=hth
    have HEl:Hid (StgRow w0 (.slice ea y.els.length ec) y.els):=hel
    have HY:Hid (szL y.thn<N∧szL y.els<N):=by
     have h1:=szL_mem hy
     have h2:=HSZ.out
     rw[szS_eq] at h1
     exact⟨by omega,by omega⟩
    have hpw:=HPr.out _ _ HI0'.out
    have q0:wr.cell? ⟨b,o+k*13,none⟩=some (.int .i64 y.kind):=by have:=hpw _ _ (hcc 0 _ rfl);simpa using this
    have q1:wr.cell? ⟨b,o+k*13+1,none⟩=some (.string y.table):=by have:=hpw _ _ (hcc 1 _ rfl);simpa using this
    have q2:wr.cell? ⟨b,o+k*13+2,none⟩=some (.int .i64 y.test.kind):=by have:=hpw _ _ (hcc 2 _ rfl);simpa using this
    have q3:wr.cell? ⟨b,o+k*13+3,none⟩=some (.string y.test.a.ref.head):=by have:=hpw _ _ (hcc 3 _ rfl);simpa using this
    have q4:wr.cell? ⟨b,o+k*13+4,none⟩=some (.string y.test.a.ref.name):=by have:=hpw _ _ (hcc 4 _ rfl);simpa using this
    have q5:wr.cell? ⟨b,o+k*13+5,none⟩=some (.int .u64 (hiOf y.test.a.const)):=by have:=hpw _ _ (hcc 5 _ rfl);simpa using this
    have q6:wr.cell? ⟨b,o+k*13+6,none⟩=some (.int .u64 (loOf y.test.a.const)):=by have:=hpw _ _ (hcc 6 _ rfl);simpa using this
    have q7:wr.cell? ⟨b,o+k*13+7,none⟩=some (.string y.test.b.ref.head):=by have:=hpw _ _ (hcc 7 _ rfl);simpa using this
    have q8:wr.cell? ⟨b,o+k*13+8,none⟩=some (.string y.test.b.ref.name):=by have:=hpw _ _ (hcc 8 _ rfl);simpa using this
    have q9:wr.cell? ⟨b,o+k*13+9,none⟩=some (.int .u64 (hiOf y.test.b.const)):=by have:=hpw _ _ (hcc 9 _ rfl);simpa using this
    have q10:wr.cell? ⟨b,o+k*13+10,none⟩=some (.int .u64 (loOf y.test.b.const)):=by have:=hpw _ _ (hcc 10 _ rfl);simpa using this
    have q11:wr.cell? ⟨b,o+k*13+11,none⟩=some (.slice ta y.thn.length tc):=by have:=hpw _ _ (hcc 11 _ rfl);simpa using this
    have q12:wr.cell? ⟨b,o+k*13+12,none⟩=some (.slice ea y.els.length ec):=by have:=hpw _ _ (hcc 12 _ rfl);simpa using this
    have HDz:Hid (andT (andT (stp s1 y d) (fun s1=>andT (wlkL stp y.thn (wrap64 (d+1)) s1) (fun s2=>wlkL stp y.els (wrap64 (d+1)) s2))) (fun s1=>wlkL stp (xs.drop (k+1)) d s1)=R):=by
     show _=_
     rw[← HD0.out,wlk_step hy,wlkS_eq]
    clear hcc hIs HIs0 hth hel hpw HD0 hok
    go_upto_region 4 with fail
    have HA:Hid (Bl wr (wr.alloc (.cells (sgA y ta tc ea ec) 127))):=(Below.refl _ _).alloc (Nat.le_refl _) _
    have HX1:Hid (Blk (wr.alloc (.cells (sgA y ta tc ea ec) 127)) wr.heap.size (sgA y ta tc ea ec) 127):=Blk.new _ _ _
    generalize (wr.alloc _)=W1 at HA HX1 ⊢
    have HI1:Hid (I s1 W1):=HGr.out _ _ _ HI0'.out HA.out
    have HKp1:Hid (WKeep own s w s1 W1):=HK0'.out.grow HA.out
    have HNo1:Hid (¬ own s1 wr.heap.size):=fun h=>by have:=HOw.out _ _ _ HI0'.out h;omega
    obtain⟨xb,hxb⟩:∃ xb,xb=wr.heap.size:=⟨_,rfl⟩
    rw[← hxb] at HX1 HNo1 ⊢
    clear hxb HA HI0' HK0' q0 q1 q2 q3 q4 q5 q6 q7 q8 q9 q10 q11 q12
    obtain⟨x0,x1,x2,x3,x4,x5,x6,x7,x8,x9,x10,x11,x12⟩:=HX1.out.c13
    have CS:Hid (Cs 155 #[.agg (sgA y ta tc ea ec),.int .i64 d,.pointer (some p1),.pointer (some p2)] W1 fun e w'=>WOut I J own Z s1 W1 (stp s1 y d) e w'):=HST.out s1 W1 y _ d HI1.out HIs.out
    generalize stp s1 y d=r1 at*
    go_wp2_with fail
    refine CS.out.mono ?_
    intro e W2 hout
    cases r1 with
    | error p=>
     obtain⟨rfl,hz⟩:=hout
     have HE:Hid (R=.error p):=by show _=_;rw[← HDz.out];rfl
     have HZ:Hid (Z p W2):=hz
     clear hz CS
     go_wp2
     exact⟨rfl,by rw[HE.out];exact⟨rfl,HZ.out⟩⟩
    | ok bs=>
     obtain⟨bb,s2⟩:=bs
     obtain⟨rfl,hIj,hJj,hKj⟩:=hout
     have HIi2:Hid (bb=true→I s2 W2):=hIj
     have HJ2:Hid (J s2 W2):=hJj
     have HKp2:Hid (WKeep own s w s2 W2):=HKp1.out.trans hKj
     have HX2:Hid (Blk W2 xb (sgA y ta tc ea ec) 127):=HX1.out.kept hKj.1 HNo1.out
     have HNo2:Hid (¬ own s2 xb):=by
      show ¬ _
      intro h
      rcases hKj.2 _ h with h1|h1
      ·exact HNo1.out h1
      ·have:=HX1.out.lt;omega
     clear hIj hJj hKj CS x0 x1 x2 x3 x4 x5 x6 x7 x8 x9 x10 x11 x12
     cases bb with
     | false=>
      have HE:Hid (R=.ok (false,s2)):=by show _=_;rw[← HDz.out];rfl
      go_wp2
      go_ret
      rw[HE.out]
      exact⟨rfl,(fun h=>by cases h),HJ2.out,HKp2.out⟩
     | true=>
      have HI2:Hid (I s2 W2):=HIi2.out (by trivial)
      have HD2:Hid (andT (andT (wlkL stp y.thn (wrap64 (d+1)) s2) (fun s2=>wlkL stp y.els (wrap64 (d+1)) s2)) (fun s1=>wlkL stp (xs.drop (k+1)) d s1)=R):=HDz.out
      clear HDz
      have x11:=HX2.out.cell 11 (v:=.slice ta y.thn.length tc) rfl
      have CT:Hid (Cs 85 #[.slice ta y.thn.length tc,.int .i64 (wrap64 (d+1)),.func (.func 155) #[] #[.pointer (some p1),.pointer (some p2)]] W2 fun e w'=>WOut I J own Z s2 W2 (wlkL stp y.thn (wrap64 (d+1)) s2) e w'):=HIH.out _ HY.out.1 y.thn _ _ s2 W2 (Nat.le_refl _) HTh.out HI2.out
      generalize wlkL stp y.thn (wrap64 (d+1)) s2=r2 at*
      go_wp2_with fail
      refine CT.out.mono ?_
      intro e W3 hout
      cases r2 with
      | error p=>
       obtain⟨rfl,hz⟩:=hout
       have HE:Hid (R=.error p):=by show _=_;rw[← HD2.out];rfl
       have HZ:Hid (Z p W3):=hz
       clear hz CT
       go_wp2
       exact⟨rfl,by rw[HE.out];exact⟨rfl,HZ.out⟩⟩
      | ok bs=>
       obtain⟨bb,s3⟩:=bs
       obtain⟨rfl,hIj,hJj,hKj⟩:=hout
       have HIi3:Hid (bb=true→I s3 W3):=hIj
       have HJ3:Hid (J s3 W3):=hJj
       have HKp3:Hid (WKeep own s w s3 W3):=HKp2.out.trans hKj
       have HX3:Hid (Blk W3 xb (sgA y ta tc ea ec) 127):=HX2.out.kept hKj.1 HNo2.out
       clear hIj hJj hKj CT x11
       cases bb with
       | false=>
        have HE:Hid (R=.ok (false,s3)):=by show _=_;rw[← HD2.out];rfl
        go_wp2
        go_ret
        rw[HE.out]
        exact⟨rfl,(fun h=>by cases h),HJ3.out,HKp3.out⟩
       | true=>
        have HI3:Hid (I s3 W3):=HIi3.out (by trivial)
        have HD3:Hid (andT (wlkL stp y.els (wrap64 (d+1)) s3) (fun s1=>wlkL stp (xs.drop (k+1)) d s1)=R):=HD2.out
        clear HD2
        have x12:=HX3.out.cell 12 (v:=.slice ea y.els.length ec) rfl
        have CT:Hid (Cs 85 #[.slice ea y.els.length ec,.int .i64 (wrap64 (d+1)),.func (.func 155) #[] #[.pointer (some p1),.pointer (some p2)]] W3 fun e w'=>WOut I J own Z s3 W3 (wlkL stp y.els (wrap64 (d+1)) s3) e w'):=HIH.out _ HY.out.2 y.els _ _ s3 W3 (Nat.le_refl _) HEl.out HI3.out
        generalize wlkL stp y.els (wrap64 (d+1)) s3=r3 at*
        go_wp2_with fail
        refine CT.out.mono ?_
        intro e W4 hout
        cases r3 with
        | error p=>
         obtain⟨rfl,hz⟩:=hout
         have HE:Hid (R=.error p):=by show _=_;rw[← HD3.out];rfl
         have HZ:Hid (Z p W4):=hz
         clear hz CT
         go_wp2
         exact⟨rfl,by rw[HE.out];exact⟨rfl,HZ.out⟩⟩
        | ok bs=>
         obtain⟨bb,s4⟩:=bs
         obtain⟨rfl,hIj,hJj,hKj⟩:=hout
         have HIi4:Hid (bb=true→I s4 W4):=hIj
         have HJ4:Hid (J s4 W4):=hJj
         have HKp4:Hid (WKeep own s w s4 W4):=HKp3.out.trans hKj
         clear hIj hJj hKj CT x12
         cases bb with
         | false=>
          have HE:Hid (R=.ok (false,s4)):=by show _=_;rw[← HD3.out];rfl
          go_wp2
          go_ret
          rw[HE.out]
          exact⟨rfl,(fun h=>by cases h),HJ4.out,HKp4.out⟩
         | true=>
          have HI4:Hid (I s4 W4):=HIi4.out (by trivial)
          have HE:Hid (wlkL stp (xs.drop (k+1)) d s4=R):=HD3.out
          go_wp2
          exact⟨⟨k+1,s4,by omega,by go_num,HI4.out,HKp4.out,HE.out⟩,by simp only[intOf];omega⟩
   ·have e:k=n:=by omega
    subst e
    have HE:Hid (R=.ok (true,s1)):=by
     have h1:=HN.out
     have h2:=HD0.out
     rw[List.drop_of_length_le (by omega),wlkL] at h2
     exact h2.symm
    clear HD0
    go_wp2
    go_ret
    rw[HE.out]
    exact⟨rfl,fun _=>HI0'.out,HIJ.out _ _ HI0'.out,HK0'.out⟩
end Go.Proofs.YtmbpclknhkbbkaaGreat
