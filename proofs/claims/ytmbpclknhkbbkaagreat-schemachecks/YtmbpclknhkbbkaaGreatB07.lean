/- Package schema's checker: checkKeys, c. -/
import Derived.Test.YtmbpclknhkbbkaaGreatB06
set_option linter.unusedSimpArgs false
set_option linter.unusedVariables false
set_option maxHeartbeats 4000000
set_option maxRecDepth 100000
namespace Go.Proofs.YtmbpclknhkbbkaaGreat
open Go.RowKit
def keysL (W:Rf→Int)(kd:Int):List Ky→Nat→Int
 |[],_=>0
 | k :: ks,p=>if ¬ 0<W k.ref then 72 else if ¬(1≤k.kind∧k.kind≤4) then 75 else if k.kind=2 then(if p+1=1∧kd=2 then keysL W kd ks (p+1) else 75) else keysL W kd ks p
theorem keys_step {W:Rf→Int}{kd:Int}{ks:List Ky}{i:Nat}{k:Ky}(hk:ks[i]?=some k)(p:Nat):keysL W kd (ks.drop i) p=if ¬ 0<W k.ref then 72 else if ¬(1≤k.kind∧k.kind≤4) then 75 else if k.kind=2 then(if p+1=1∧kd=2 then keysL W kd (ks.drop (i+1)) (p+1) else 75) else keysL W kd (ks.drop (i+1)) p:=by
 obtain⟨h,e⟩:=List.getElem?_eq_some_iff.1 hk
 rw[List.drop_eq_getElem_cons h,e,keysL]
def keysE (W:Rf→Int)(ks:List Ky):Int:=if ¬(1≤ks.length∧ks.length≤8) then 74 else keysL W (kindF ks 1) ks 0
theorem checkKeys_any (w:World)(cb wb m:Nat)(g:Rf→Option Int)(v0 v1 v2 v3 v4 v5 hd tb:Value)(ab:Nat)(th:ByteArray)(t:Tbl)(cs:Array Value)(hI:TblIs w cs t)(hB:Blk w cb (ChkC v0 v1 v2 v3 v4 v5 th (.map (some wb)) hd (.map (some ab)) tb) 110)(hW:MapR w wb m g):
  Calls Tryz.prog 153 #[.pointer (some ⟨cb,0,none⟩),.agg cs] w fun e w'=>Below w.heap.size w w'∧Res (keysE (fun r=>(g r).getD 0) t.keys) th e:=by
 have HTI:Hid (TblIs w cs t):=hI
 obtain⟨vk,va,vd,rfl,hok,hkr,har,hdr⟩:=hI
 obtain⟨ka,kc,rfl,_⟩:=hkr.1.slice
 obtain⟨ta,tc,rfl,_⟩:=har.1.slice
 obtain⟨da,dc,rfl,_⟩:=hdr.1.slice
 have hlen:t.keys.length*40≤140737488351232:=hkr.2
 have HKR:Hid (KyRow w (.slice ka t.keys.length kc) t.keys):=hkr
 have HRR:Hid (keysE (fun r=>(g r).getD 0) t.keys=if ¬(1≤t.keys.length∧t.keys.length≤8) then 74 else keysL (fun r=>(g r).getD 0) (kindF t.keys 1) t.keys 0):=rfl
 generalize keysE (fun r=>(g r).getD 0) t.keys=R at*
 obtain⟨kl,hkl⟩:∃ kl,kl=t.keys.length:=⟨_,rfl⟩
 have HKL:Hid (kl=t.keys.length):=hkl
 rw[← hkl] at hlen HKR HRR HTI ⊢
 clear hkl hkr har hdr hok
 have HA:Hid (Bl w (w.alloc (.cells #[.string t.name,.slice ka kl kc,.slice ta t.actions.length tc,.int .i64 t.size,.string t.dflt.action,.slice da t.dflt.args.length dc,.bool t.fixed] 51))):=(Below.refl _ _).alloc (Nat.le_refl _) _
 have HX:Hid (Blk (w.alloc (.cells #[.string t.name,.slice ka kl kc,.slice ta t.actions.length tc,.int .i64 t.size,.string t.dflt.action,.slice da t.dflt.args.length dc,.bool t.fixed] 51)) w.heap.size #[.string t.name,.slice ka kl kc,.slice ta t.actions.length tc,.int .i64 t.size,.string t.dflt.action,.slice da t.dflt.args.length dc,.bool t.fixed] 51):=Blk.new _ _ _
 have HQ:Hid (Blk (w.alloc (.cells #[.string t.name,.slice ka kl kc,.slice ta t.actions.length tc,.int .i64 t.size,.string t.dflt.action,.slice da t.dflt.args.length dc,.bool t.fixed] 51)) cb (ChkC v0 v1 v2 v3 v4 v5 th (.map (some wb)) hd (.map (some ab)) tb) 110):=hB.below HA.out
 have HM:Hid (MapR (w.alloc (.cells #[.string t.name,.slice ka kl kc,.slice ta t.actions.length tc,.int .i64 t.size,.string t.dflt.action,.slice da t.dflt.args.length dc,.bool t.fixed] 51)) wb m g):=hW.below HA.out
 clear hB hW
 go_enter Tryz.func153,Tryz.ntmps153
 go_upto_region 1 with fail
 generalize (w.alloc _)=W at HA HX HQ HM ⊢
 obtain⟨xb,hxb⟩:∃ xb,xb=w.heap.size:=⟨_,rfl⟩
 rw[← hxb] at HX ⊢
 clear hxb
 have x1:=HX.out.cell 1 (v:=.slice ka kl kc) rfl
 have CN:Hid (∀ b r,Cs 145 #[.pointer (some ⟨cb,0,none⟩),.bool b,.int .i64 r] W fun e w'=>w'=W∧((b=true∧e=.returned (.tuple #[]))∨(b=false∧e=.panicked [pf r th]))):=need_two (HQ.out.cell 6 rfl)
 by_cases h1:1≤kl
 case neg=>
  have h1':decide ((1:Int)≤(kl:Int))=false:=by simp;omega
  have HE:Hid (R=74):=by show _=_;rw[HRR.out,if_pos (by omega)]
  clear h1 HRR
  go_wp2_with fail
  refine(CN.out _ _).mono ?_
  rintro e w2 ⟨hw2,hh⟩
  obtain rfl:=Eq.symm hw2
  rcases hh with⟨hq,rfl⟩|⟨hq,rfl⟩
  ·cases hq
  ·go_wp2
   exact⟨rfl,HA.out,by rw[HE.out];exact .inr ⟨by decide,rfl⟩⟩
 case pos=>
  have h1':(1:Int)≤(kl:Int):=by omega
  go_wp2_with fail
  refine(CN.out _ _).mono ?_
  rintro e w2 ⟨hw2,hh⟩
  obtain rfl:=Eq.symm hw2
  rcases hh with⟨hq,rfl⟩|⟨hq,rfl⟩
  case inr=>
   have HE:Hid (R=74):=by show _=_;rw[HRR.out,if_pos (by simp at hq;omega)]
   clear hq
   go_wp2
   exact⟨rfl,HA.out,by rw[HE.out];exact .inr ⟨by decide,rfl⟩⟩
  case inl=>
   have HR1:Hid (R=keysL (fun r=>(g r).getD 0) (kindF t.keys 1) t.keys 0):=by show _=_;rw[HRR.out,if_neg (by simp at hq;omega)]
   have H0:Hid (keysL (fun r=>(g r).getD 0) (kindF t.keys 1) (t.keys.drop 0) 0=R):=by show _=_;rw[HR1.out];rfl
   have hkl8:kl≤8:=by simp at hq;omega
   have CK:Hid (∀ w1,Bl w w1→Cs 20 #[.agg #[.string t.name,.slice ka kl kc,.slice ta t.actions.length tc,.int .i64 t.size,.string t.dflt.action,.slice da t.dflt.args.length dc,.bool t.fixed]] w1 fun e w'=>e=.returned (.int .i64 (kindF t.keys 1))∧Bl w1 w'):=fun w1 hb=>kind_any t _ w1 (HTI.out.pres (pres_below hb))
   clear hq HRR HR1 CN h1
   generalize kindF t.keys 1=kd at*
   go_wp2_with fail
   go_loopw [4,22] (fun pv i wr=>∃(k p:Nat),k≤kl∧p≤k∧pv=.int .i64 p∧i=.int .i64 k∧Below w.heap.size w wr∧Blk wr xb #[.string t.name,.slice ka kl kc,.slice ta t.actions.length tc,.int .i64 t.size,.string t.dflt.action,.slice da t.dflt.args.length dc,.bool t.fixed] 51∧Blk wr cb (ChkC v0 v1 v2 v3 v4 v5 th (.map (some wb)) hd (.map (some ab)) tb) 110∧MapR wr wb m g∧keysL (fun r=>(g r).getD 0) kd (t.keys.drop k) p=R) (fun _ i _=>kl - (intOf i).toNat)
   case atStart=>exact⟨0,0,by omega,by omega,rfl,rfl,HA.out,HX.out,HQ.out,HM.out,H0.out⟩
   case round=>
    obtain⟨k,p,hk,hpk,rfl,rfl,hb,hx,hq,hm,hdd⟩:=hrel
    have HB2:Hid (Bl w wr):=hb
    have HX2:Hid (Blk wr xb #[.string t.name,.slice ka kl kc,.slice ta t.actions.length tc,.int .i64 t.size,.string t.dflt.action,.slice da t.dflt.args.length dc,.bool t.fixed] 51):=hx
    have HQ2:Hid (Blk wr cb (ChkC v0 v1 v2 v3 v4 v5 th (.map (some wb)) hd (.map (some ab)) tb) 110):=hq
    have HM2:Hid (MapR wr wb m g):=hm
    have HD2:Hid (keysL (fun r=>(g r).getD 0) kd (t.keys.drop k) p=R):=hdd
    clear hb hx hq hm hdd x1
    by_cases hlt:k<kl
    ·obtain⟨y,hy⟩:=gE HKL.out hlt
     obtain⟨b,o,cs,rfl,_,hcc,rfl,hyok⟩:=HKR.out.1.at hy
     have q0:wr.cell? ⟨b,o+k*3,none⟩=some (.string y.ref.head):=by have:=pres_below HB2.out _ _ (hcc 0 _ rfl);simpa using this
     have q1:wr.cell? ⟨b,o+k*3+1,none⟩=some (.string y.ref.name):=by have:=pres_below HB2.out _ _ (hcc 1 _ rfl);simpa using this
     have q2:wr.cell? ⟨b,o+k*3+2,none⟩=some (.int .i64 y.kind):=by have:=pres_below HB2.out _ _ (hcc 2 _ rfl);simpa using this
     have HX3:Hid (Blk wr xb #[.string t.name,.slice (some ⟨b,o,none⟩) kl kc,.slice ta t.actions.length tc,.int .i64 t.size,.string t.dflt.action,.slice da t.dflt.args.length dc,.bool t.fixed] 51):=HX2.out
     have HD3:Hid ((if ¬ 0<(g y.ref).getD 0 then 72 else if ¬(1≤y.kind∧y.kind≤4) then 75 else if y.kind=2 then(if p+1=1∧kd=2 then keysL (fun r=>(g r).getD 0) kd (t.keys.drop (k+1)) (p+1) else 75) else keysL (fun r=>(g r).getD 0) kd (t.keys.drop (k+1)) p)=R):=by show _=_;rw[← HD2.out,keys_step hy]
     clear hcc HX2 HD2 HX HQ HM
     go_upto_region 6 with fail
     have HAl:Hid (Bl wr (wr.alloc (.cells #[.string y.ref.head,.string y.ref.name,.int .i64 y.kind] 116))):=(Below.refl _ _).alloc (Nat.le_refl _) _
     have HY:Hid (Blk (wr.alloc (.cells #[.string y.ref.head,.string y.ref.name,.int .i64 y.kind] 116)) wr.heap.size #[.string y.ref.head,.string y.ref.name,.int .i64 y.kind] 116):=Blk.new _ _ _
     generalize (wr.alloc _)=W2 at HAl HY ⊢
     obtain⟨yb,hyb⟩:∃ yb,yb=wr.heap.size:=⟨_,rfl⟩
     rw[← hyb] at HY ⊢
     clear hyb q0 q1 q2
     have HB4:Hid (Bl w W2):=bst HB2.out HAl.out (Nat.le_refl _)
     have HX4:Hid (Blk W2 xb #[.string t.name,.slice (some ⟨b,o,none⟩) kl kc,.slice ta t.actions.length tc,.int .i64 t.size,.string t.dflt.action,.slice da t.dflt.args.length dc,.bool t.fixed] 51):=HX3.out.below HAl.out
     have HQ4:Hid (Blk W2 cb (ChkC v0 v1 v2 v3 v4 v5 th (.map (some wb)) hd (.map (some ab)) tb) 110):=HQ2.out.below HAl.out
     have HM4:Hid (MapR W2 wb m g):=HM2.out.below HAl.out
     clear HAl HB2 HX3 HQ2 HM2
     have y0:=HY.out.cell 0 (v:=.string y.ref.head) rfl
     have y1:=HY.out.cell 1 (v:=.string y.ref.name) rfl
     have q7:=HQ4.out.cell 7 (v:=.map (some wb)) rfl
     have hL:∀ k,(Instr.lookup 107 (.map (some wb)) (.agg #[.string y.ref.head,.string y.ref.name]) false).run Tryz.prog (W2.drewN k)=.ok (.int .i64 ((g y.ref).getD 0)) (W2.drewN k):=fun k=>MapR.look1 (w:=W2.drewN k) HM4.out y.ref hyok.1 hyok.2.1
     have CY:Hid (∀ r w,Cs 145 #[.pointer (some ⟨cb,0,none⟩),.bool true,.int .i64 r] w fun e w'=>e=.returned (.tuple #[])∧w'=w):=fun r w=>need_yes cb r w
     have CNo:Hid (∀ r k,Cs 145 #[.pointer (some ⟨cb,0,none⟩),.bool false,.int .i64 r] (W2.drewN k) fun e w'=>e=.panicked [pf r th]∧w'=W2.drewN k):=fun r k=>need_no cb r th (W2.drewN k) (HQ4.out.cell 6 rfl)
     have HBd:Hid (∀ k,Bl w (W2.drewN k)):=fun k=>⟨HB4.out.os,HB4.out.tape,HB4.out.output,HB4.out.size,HB4.out.block⟩
     generalize (g y.ref).getD 0=wv at*
     by_cases hpos:0<wv
     case neg=>
      have HE:Hid (R=72):=by show _=_;rw[← HD3.out,if_pos hpos]
      have hp1:decide (0<wv)=false:=decide_eq_false hpos
      clear HD3 hpos
      refine region_ends_lit (by kernel_rfl) (by kernel_rfl) (by kernel_rfl) rfl ?_
      simp only[swapLast,stand]
      repeat (go_big_quiet_step (fail))
      refine wpQuiet_nil ?_
      intro wq hwq Kq
      obtain⟨kq,hwq⟩:=hwq
      subst hwq
      unfold Oper.wp
      go_simp
      refine(CNo.out _ _).mono ?_
      rintro e w1 ⟨rfl,hw1⟩
      rw[hw1]
      exact⟨rfl,HBd.out _,by rw[HE.out];exact .inr ⟨by decide,rfl⟩⟩
     case pos=>
      have HD4:Hid ((if ¬(1≤y.kind∧y.kind≤4) then 75 else if y.kind=2 then(if p+1=1∧kd=2 then keysL (fun r=>(g r).getD 0) kd (t.keys.drop (k+1)) (p+1) else 75) else keysL (fun r=>(g r).getD 0) kd (t.keys.drop (k+1)) p)=R):=by
       show _=_
       have h:=HD3.out
       rw[if_neg (by omega)] at h
       exact h
      have hp1:decide (0<wv)=true:=decide_eq_true hpos
      clear HD3
      go_quiet ((go_at_call 145;exact Calls.quiet_of_same (CY.out _ _)))
      have HX5:Hid (Blk (W2.drewN nq) xb #[.string t.name,.slice (some ⟨b,o,none⟩) kl kc,.slice ta t.actions.length tc,.int .i64 t.size,.string t.dflt.action,.slice da t.dflt.args.length dc,.bool t.fixed] 51):=HX4.out
      have HQ5:Hid (Blk (W2.drewN nq) cb (ChkC v0 v1 v2 v3 v4 v5 th (.map (some wb)) hd (.map (some ab)) tb) 110):=HQ4.out
      have HM5:Hid (MapR (W2.drewN nq) wb m g):=HM4.out
      have HY5:Hid (Blk (W2.drewN nq) yb #[.string y.ref.head,.string y.ref.name,.int .i64 y.kind] 116):=HY.out
      have HB5:Hid (Bl w (W2.drewN nq)):=HBd.out nq
      generalize W2.drewN nq=W3 at HX5 HQ5 HM5 HY5 HB5 ⊢
      clear hL CNo HBd CY HX4 HQ4 HM4 HY HB4 y0 y1 q7
      have y2:=HY5.out.cell 2 (v:=.int .i64 y.kind) rfl
      have CN:Hid (∀ b r,Cs 145 #[.pointer (some ⟨cb,0,none⟩),.bool b,.int .i64 r] W3 fun e w'=>w'=W3∧((b=true∧e=.returned (.tuple #[]))∨(b=false∧e=.panicked [pf r th]))):=need_two (HQ5.out.cell 6 rfl)
      go_upto_region 7 with fail
      by_cases hk1:1≤y.kind
      case neg=>
       have hk1':decide (1≤y.kind)=false:=decide_eq_false hk1
       have HE:Hid (R=75):=by show _=_;rw[← HD4.out,if_pos (by omega)]
       clear hk1 HD4
       go_wp2_with fail
       refine(CN.out _ _).mono ?_
       rintro e w2 ⟨hw2,hh⟩
       obtain rfl:=Eq.symm hw2
       rcases hh with⟨hq,rfl⟩|⟨hq,rfl⟩
       ·cases hq
       ·go_wp2
        exact⟨rfl,HB5.out,by rw[HE.out];exact .inr ⟨by decide,rfl⟩⟩
      case pos=>
       have hk1':decide (1≤y.kind)=true:=decide_eq_true hk1
       go_wp2_with fail
       refine(CN.out _ _).mono ?_
       rintro e w2 ⟨hw2,hh⟩
       obtain rfl:=Eq.symm hw2
       rcases hh with⟨hq,rfl⟩|⟨hq,rfl⟩
       case inr=>
        have HE:Hid (R=75):=by show _=_;rw[← HD4.out,if_pos (by simp at hq;omega)]
        clear hq
        go_wp2
        exact⟨rfl,HB5.out,by rw[HE.out];exact .inr ⟨by decide,rfl⟩⟩
       case inl=>
        have HD5:Hid ((if y.kind=2 then(if p+1=1∧kd=2 then keysL (fun r=>(g r).getD 0) kd (t.keys.drop (k+1)) (p+1) else 75) else keysL (fun r=>(g r).getD 0) kd (t.keys.drop (k+1)) p)=R):=by
         show _=_
         have h:=HD4.out
         rw[if_neg (by simp at hq;omega)] at h
         exact h
        clear hq HD4
        by_cases hk2:y.kind=2
        ·have hk2':(y.kind==2)=true:=by simpa using hk2
         have HD6:Hid ((if p+1=1∧kd=2 then keysL (fun r=>(g r).getD 0) kd (t.keys.drop (k+1)) (p+1) else 75)=R):=by show _=_;rw[← HD5.out,if_pos hk2]
         clear HD5 hk2
         obtain⟨z0,z1,z2,z3,z4,z5,z6⟩:=HX5.out.c7
         by_cases hp0:p=0
         ·subst hp0
          have CK5:Hid (Cs 20 #[.agg #[.string t.name,.slice (some ⟨b,o,none⟩) kl kc,.slice ta t.actions.length tc,.int .i64 t.size,.string t.dflt.action,.slice da t.dflt.args.length dc,.bool t.fixed]] W3 fun e w'=>e=.returned (.int .i64 kd)∧Bl W3 w'):=CK.out W3 HB5.out
          clear CK
          go_wp2_with fail
          refine CK5.out.mono ?_
          rintro e W4 ⟨rfl,hb4⟩
          have HX6:=hblk HX5 hb4
          have HQ6:=hblk HQ5 hb4
          have HM6:Hid (MapR W4 wb m g):=HM5.out.below hb4
          have HB6:Hid (Bl w W4):=bst HB5.out hb4 (Nat.le_refl _)
          clear hb4 CN
          have CN:Hid (∀ b r,Cs 145 #[.pointer (some ⟨cb,0,none⟩),.bool b,.int .i64 r] W4 fun e w'=>w'=W4∧((b=true∧e=.returned (.tuple #[]))∨(b=false∧e=.panicked [pf r th]))):=need_two (HQ6.out.cell 6 rfl)
          go_wp2_with fail
          refine(CN.out _ _).mono ?_
          rintro e w2 ⟨hw2,hh⟩
          obtain rfl:=Eq.symm hw2
          rcases hh with⟨hq,rfl⟩|⟨hq,rfl⟩
          case inr=>
           have HE:Hid (R=75):=by show _=_;rw[← HD6.out,if_neg (fun h=>by rw[h.2] at hq;simp at hq)]
           clear hq
           go_wp2
           exact⟨rfl,HB6.out,by rw[HE.out];exact .inr ⟨by decide,rfl⟩⟩
          case inl=>
           have HE:Hid (keysL (fun r=>(g r).getD 0) kd (t.keys.drop (k+1)) (0+1)=R):=by show _=_;rw[← HD6.out,if_pos ⟨by trivial,by simpa using hq⟩]
           clear hq
           go_wp2
           exact⟨⟨k+1,1,by omega,by omega,rfl,by go_num,HB6.out,HX6.out,HQ6.out,HM6.out,HE.out⟩,by simp only[intOf];omega⟩
         ·have HE:Hid (R=75):=by show _=_;rw[← HD6.out,if_neg (by omega)]
          have hpn:((p:Int)+1==1)=false:=by simp;omega
          have hpn2:((p:Int)==0)=false:=by simp;omega
          clear HD6 CK
          go_wp2_with fail
          refine(CN.out _ _).mono ?_
          rintro e w2 ⟨hw2,hh⟩
          obtain rfl:=Eq.symm hw2
          rcases hh with⟨hq,rfl⟩|⟨hq,rfl⟩
          ·exfalso;revert hq;simp;try omega
          ·go_wp2
           exact⟨rfl,HB5.out,by rw[HE.out];exact .inr ⟨by decide,rfl⟩⟩
        ·have hk2':(y.kind==2)=false:=by simpa using hk2
         have HE:Hid (keysL (fun r=>(g r).getD 0) kd (t.keys.drop (k+1)) p=R):=by show _=_;rw[← HD5.out,if_neg hk2]
         clear HD5 hk2
         go_wp2
         exact⟨⟨k+1,p,by omega,by omega,rfl,by go_num,HB5.out,HX5.out,HQ5.out,HM5.out,HE.out⟩,by simp only[intOf];omega⟩
    ·have e:k=kl:=by omega
     subst e
     have HE:Hid (R=0):=by
      have h1:=HKL.out
      have h2:=HD2.out
      rw[List.drop_of_length_le (by omega),keysL] at h2
      exact h2.symm
     clear HD2
     go_wp2
     first|go_end0|refine bodyPost_ret (results_none rfl _ _ _) rfl ?_
     exact⟨HB2.out,by rw[HE.out];exact .inl ⟨rfl,rfl⟩⟩
def canL (hA:ByteArray→Bool):List ByteArray→List ByteArray→Int
 |[],_=>0
 | x :: xs,seen=>if hA x=false then 72 else if hasT seen x=true then 71 else canL hA xs (x :: seen)
theorem can_step {hA:ByteArray→Bool}{xs:List ByteArray}{i:Nat}{x:ByteArray}(hk:xs[i]?=some x)(seen:List ByteArray):canL hA (xs.drop i) seen=if hA x=false then 72 else if hasT seen x=true then 71 else canL hA (xs.drop (i+1)) (x :: seen):=by
 obtain⟨h,e⟩:=List.getElem?_eq_some_iff.1 hk
 rw[List.drop_eq_getElem_cons h,e,canL]
def canE (hA:ByteArray→Bool)(xs:List ByteArray):Int:=if ¬(1≤xs.length∧xs.length≤64) then 74 else canL hA xs []
theorem checkCan_any (w:World)(cb ab:Nat)(ans:List ByteArray)(v0 v1 v2 v3 v4 v5 wd hd tb:Value)(th:ByteArray)(v:Value)(xs:List ByteArray)(hr:TxtRow w v xs)(hB:Blk w cb (ChkC v0 v1 v2 v3 v4 v5 th wd hd (.map (some ab)) tb) 110)(hS:SetT w ab ans):
  Calls Tryz.prog 154 #[.pointer (some ⟨cb,0,none⟩),v] w fun e w'=>Below w.heap.size w w'∧Res (canE (hasT ans) xs) th e:=by
 obtain⟨ad,cap,rfl,_⟩:=hr.1.slice
 have hlen:xs.length*16≤140737488351232:=hr.2
 have HR:Hid (TxtRow w (.slice ad xs.length cap) xs):=hr
 have HQ:Hid (Blk w cb (ChkC v0 v1 v2 v3 v4 v5 th wd hd (.map (some ab)) tb) 110):=hB
 have HS:Hid (SetT w ab ans):=hS
 have HRR:Hid (canE (hasT ans) xs=if ¬(1≤xs.length∧xs.length≤64) then 74 else canL (hasT ans) xs []):=rfl
 generalize canE (hasT ans) xs=R at*
 obtain⟨n,hn⟩:∃ n,n=xs.length:=⟨_,rfl⟩
 have HN:Hid (n=xs.length):=hn
 rw[← hn] at hlen HR HRR ⊢
 clear hn hr hB hS
 have CN:Hid (∀ b r,Cs 145 #[.pointer (some ⟨cb,0,none⟩),.bool b,.int .i64 r] w fun e w'=>w'=w∧((b=true∧e=.returned (.tuple #[]))∨(b=false∧e=.panicked [pf r th]))):=need_two (HQ.out.cell 6 rfl)
 have hmm:=@run_makeMap Tryz.prog
 by_cases h1:1≤n
 case neg=>
  have h1':decide ((1:Int)≤(n:Int))=false:=by simp;omega
  have HE:Hid (R=74):=by show _=_;rw[HRR.out,if_pos (by omega)]
  clear h1 HRR
  go_enter Tryz.func154,Tryz.ntmps154
  go_wp2_with fail
  refine(CN.out _ _).mono ?_
  rintro e w2 ⟨hw2,hh⟩
  obtain rfl:=Eq.symm hw2
  rcases hh with⟨hq,rfl⟩|⟨hq,rfl⟩
  ·cases hq
  ·go_wp2
   exact⟨rfl,Below.refl _ _,by rw[HE.out];exact .inr ⟨by decide,rfl⟩⟩
 case pos=>
  have h1':(1:Int)≤(n:Int):=by omega
  go_enter Tryz.func154,Tryz.ntmps154
  go_wp2_with fail
  refine(CN.out _ _).mono ?_
  rintro e w2 ⟨hw2,hh⟩
  obtain rfl:=Eq.symm hw2
  rcases hh with⟨hq,rfl⟩|⟨hq,rfl⟩
  case inr=>
   have HE:Hid (R=74):=by show _=_;rw[HRR.out,if_pos (by simp at hq;omega)]
   clear hq
   go_wp2
   exact⟨rfl,Below.refl _ _,by rw[HE.out];exact .inr ⟨by decide,rfl⟩⟩
  case inl=>
   have H0:Hid (canL (hasT ans) (xs.drop 0) []=R):=by show _=_;rw[HRR.out,if_neg (by simp at hq;omega)];rfl
   clear hq HRR CN h1
   have HNw:Hid (SetT (w.alloc (.map #[] 0)) w.heap.size []∧Bl w (w.alloc (.map #[] 0))):=⟨SetT.new w,(Below.refl _ _).alloc (Nat.le_refl _) _⟩
   go_wp2_with fail
   go_loopw [20] (fun i wr=>∃(k:Nat) (seen:List ByteArray),k≤n∧i=.int .i64 k∧Below w.heap.size w wr∧SetT wr w.heap.size seen∧canL (hasT ans) (xs.drop k) seen=R) (fun i _=>n - (intOf i).toNat)
   case atStart=>exact⟨0,[],by omega,rfl,HNw.out.2,HNw.out.1,H0.out⟩
   case round=>
    obtain⟨k,seen,hk,rfl,hb,hset,hdd⟩:=hrel
    have HB2:Hid (Bl w wr):=hb
    have HS2:Hid (SetT wr w.heap.size seen):=hset
    by_cases hlt:k<n
    ·obtain⟨y,hy⟩:=gE HN.out hlt
     obtain⟨b,o,cs,rfl,_,hcc,rfl,hyok⟩:=HR.out.1.at hy
     have q0:wr.cell? ⟨b,o+k,none⟩=some (.string y):=by have:=pres_below hb _ _ (hcc 0 _ rfl);simpa using this
     rw[can_step hy] at hdd
     have HD2:Hid ((if hasT ans y=false then 72 else if hasT seen y=true then 71 else canL (hasT ans) (xs.drop (k+1)) (y :: seen))=R):=hdd
     have q9:=(HQ.out.below hb).cell 9 (v:=.map (some ab)) rfl
     have CH:Hid (Cs 198 #[.map (some ab),.string y] wr fun e w'=>e=.returned (.bool (hasT ans y))∧w'=wr):=has_any (HS.out.below hb) y hyok
     have CH2:Hid (Cs 198 #[.map (some w.heap.size),.string y] wr fun e w'=>e=.returned (.bool (hasT seen y))∧w'=wr):=has_any hset y hyok
     have HQ2:=hblk HQ hb
     have CN:Hid (∀ b r,Cs 145 #[.pointer (some ⟨cb,0,none⟩),.bool b,.int .i64 r] wr fun e w'=>w'=wr∧((b=true∧e=.returned (.tuple #[]))∨(b=false∧e=.panicked [pf r th]))):=need_two (HQ2.out.cell 6 rfl)
     have hsz:=hb.size
     clear hb hset hcc hdd
     go_wp2_with fail
     refine CH.out.mono ?_
     rintro e w2 ⟨rfl,hw2⟩
     obtain rfl:=Eq.symm hw2
     go_wp2_with fail
     refine(CN.out _ _).mono ?_
     rintro e w2 ⟨hw2,hh⟩
     obtain rfl:=Eq.symm hw2
     rcases hh with⟨hq,rfl⟩|⟨hq,rfl⟩
     case inr=>
      have HE:Hid (R=72):=by show _=_;rw[← HD2.out,if_pos hq]
      clear hq
      go_wp2
      exact⟨rfl,HB2.out,by rw[HE.out];exact .inr ⟨by decide,rfl⟩⟩
     case inl=>
      have HD3:Hid ((if hasT seen y=true then 71 else canL (hasT ans) (xs.drop (k+1)) (y :: seen))=R):=by
       show _=_
       have h:=HD2.out
       rw[if_neg (by rw[hq];decide)] at h
       exact h
      clear hq HD2
      go_wp2_with fail
      refine CH2.out.mono ?_
      rintro e w2 ⟨rfl,hw2⟩
      obtain rfl:=Eq.symm hw2
      go_wp2_with fail
      refine(CN.out _ _).mono ?_
      rintro e w2 ⟨hw2,hh⟩
      obtain rfl:=Eq.symm hw2
      rcases hh with⟨hq,rfl⟩|⟨hq,rfl⟩
      case inr=>
       have HE:Hid (R=71):=by show _=_;rw[← HD3.out,if_pos (by simpa using hq)]
       clear hq
       go_wp2
       exact⟨rfl,HB2.out,by rw[HE.out];exact .inr ⟨by decide,rfl⟩⟩
      case inl=>
       have HD4:Hid (canL (hasT ans) (xs.drop (k+1)) (y :: seen)=R):=by
        show _=_
        have h:=HD3.out
        have hq':hasT seen y=false:=by simpa using hq
        rw[if_neg (by rw[hq'];decide)] at h
        exact h
       obtain⟨W2,hput,hs3,hk3⟩:=HS2.out.put hyok (k:Int)
       have HS3:Hid (SetT W2 w.heap.size (y :: seen)):=hs3
       have HB3:Hid (Bl w W2):=keptBelow HB2.out hk3 (Nat.le_refl _)
       clear hq HD3 hs3 hk3 CN CH CH2
       go_wp2
       exact⟨⟨k+1,_,by omega,by go_num,HB3.out,HS3.out,HD4.out⟩,by simp only[intOf];omega⟩
    ·have e:k=n:=by omega
     subst e
     have HE:Hid (R=0):=by
      have h1:=HN.out
      rw[List.drop_of_length_le (by omega),canL] at hdd
      exact hdd.symm
     clear hdd hb hset
     go_wp2
     first|go_end0|refine bodyPost_ret (results_none rfl _ _ _) rfl ?_
     exact⟨HB2.out,by rw[HE.out];exact .inl ⟨rfl,rfl⟩⟩
end Go.Proofs.YtmbpclknhkbbkaaGreat
