/- The control gone over, as a list from . -/
import Derived.Test.YtmbpclknhkbbkaaGreatB27
set_option linter.unusedSimpArgs false
set_option linter.unusedVariables false
set_option maxHeartbeats 8000000
set_option maxRecDepth 100000
namespace Go.Proofs.YtmbpclknhkbbkaaGreat
open Go.RowKit
mutual
def preS:Stg→Int→List (Stg × Int)
 | .mk k t x th el,d=>(.mk k t x th el,d) ::(preL th (wrap64 (d+1))++preL el (wrap64 (d+1)))
def preL:List Stg→Int→List (Stg × Int)
 |[],_=>[]
 | x :: xs,d=>preS x d++preL xs d
end
theorem preS_eq (y:Stg)(d:Int):preS y d=(y,d) ::(preL y.thn (wrap64 (d+1))++preL y.els (wrap64 (d+1))):=by cases y;rw[preS];rfl
def foldW {σ:Type}(stp:σ→Stg→Int→Except PanicEntry (Bool × σ)):List (Stg × Int)→σ→Except PanicEntry (Bool × σ)
 |[],s=>.ok (true,s)
 | p :: l,s=>andT (stp s p.1 p.2) (fun s1=>foldW stp l s1)
theorem andT_assoc {σ:Type}(r:Except PanicEntry (Bool × σ))(f g:σ→Except PanicEntry (Bool × σ)):andT (andT r f) g=andT r (fun s=>andT (f s) g):=by
 rcases r with _|⟨_|_,_⟩<;>rfl
theorem foldW_append {σ:Type}(stp:σ→Stg→Int→Except PanicEntry (Bool × σ)):∀(l m:List (Stg × Int))(s:σ),foldW stp (l++m) s=andT (foldW stp l s) (fun s1=>foldW stp m s1)
 |[],m,s=>rfl
 | p :: l,m,s=>by
  rw[List.cons_append,foldW,foldW,andT_assoc]
  congr 1
  funext s1
  exact foldW_append stp l m s1
theorem wlk_fold {σ:Type}(stp:σ→Stg→Int→Except PanicEntry (Bool × σ)):∀(N:Nat)(xs:List Stg)(d:Int)(s:σ),szL xs≤N→wlkL stp xs d s=foldW stp (preL xs d) s:=by
 intro N
 induction N using Nat.strongRecOn with
 | _ N ih=>
  intro xs d s hN
  cases xs with
  | nil=>rw[wlkL,preL,foldW]
  | cons x xs=>
   rw[szL,szS_eq] at hN
   have hw:wlkL stp (x :: xs) d s=andT (wlkS stp x d s) (fun s1=>wlkL stp xs d s1):=by rw[wlkL];rfl
   rw[hw,wlkS_eq,preL,preS_eq,foldW_append,foldW]
   congr 1
   ·congr 1
    funext s1
    rw[foldW_append]
    rw[ih (szL x.thn) (by omega) x.thn _ _ (Nat.le_refl _)]
    congr 1
    funext s2
    exact ih (szL x.els) (by omega) x.els _ _ (Nat.le_refl _)
   ·funext s1
    exact ih (szL xs) (by omega) xs _ _ (Nat.le_refl _)
theorem pre_len:∀(N:Nat)(xs:List Stg)(d:Int),szL xs≤N→(preL xs d).length=szL xs:=by
 intro N
 induction N using Nat.strongRecOn with
 | _ N ih=>
  intro xs d hN
  cases xs with
  | nil=>rw[preL,szL];rfl
  | cons x xs=>
   rw[szL,szS_eq] at hN
   rw[preL,preS_eq,szL,szS_eq,List.length_append,List.length_cons,List.length_append,ih _ (by omega) x.thn _ (Nat.le_refl _),ih _ (by omega) x.els _ (Nat.le_refl _),ih _ (by omega) xs _ (Nat.le_refl _)]
   omega
def deepL (l:List (Stg × Int)):Bool:=l.any fun p=>decide (8<p.2)
theorem sz_fold:∀(l:List (Stg × Int))(c m:Int),0≤c→c≤128→∃ b c' m',foldW szStp l (c,m)=.ok (b,(c',m'))∧(c+l.length≤128→c'=c+l.length∧(8<m'↔8<m∨deepL l=true))∧(128<c+l.length→128<c')
 |[],c,m,h0,h1=>⟨true,c,m,rfl,fun _=>⟨by simp,by simp[deepL]⟩,fun h=>by simp at h;omega⟩
 | p :: l,c,m,h0,h1=>by
  rw[foldW]
  by_cases hc:c+1≤128
  ·have e0:szStp (c,m) p.1 p.2=.ok (true,(c+1,max m p.2)):=by unfold szStp;simp[hc]
   rw[e0]
   obtain⟨b,c',m',e,h2,h3⟩:=sz_fold l (c+1) (max m p.2) (by omega) hc
   refine⟨b,c',m',e,fun h=>?_,fun h=>h3 (by simp at h;omega)⟩
   simp only[List.length_cons] at h
   obtain⟨h4,h5⟩:=h2 (by omega)
   refine⟨by rw[h4];simp;omega,?_⟩
   rw[h5,show deepL (p :: l)=(decide (8<p.2)||deepL l) from rfl]
   simp only[Bool.or_eq_true,decide_eq_true_eq]
   constructor
   ·rintro(h|h)
    ·by_cases hm:8<m
     ·exact .inl hm
     ·exact .inr (.inl (by omega))
    ·exact .inr (.inr h)
   ·rintro(h|h|h)
    ·exact .inl (by omega)
    ·exact .inl (by omega)
    ·exact .inr h
  ·have e0:szStp (c,m) p.1 p.2=.ok (false,(c+1,max m p.2)):=by unfold szStp;simp[hc]
   rw[e0]
   refine⟨false,c+1,max m p.2,rfl,fun h=>?_,fun h=>by omega⟩
   simp at h
   omega
theorem sizeE_pre (xs:List Stg):sizeE xs=if 128<(preL xs 1).length then 74 else if deepL (preL xs 1)=true then 77 else 0:=by
 unfold sizeE
 rw[wlk_fold szStp _ xs 1 (0,0) (Nat.le_refl _)]
 obtain⟨b,c,m,e,h1,h2⟩:=sz_fold (preL xs 1) 0 0 (by omega) (by omega)
 rw[e]
 simp only
 by_cases h:128<(preL xs 1).length
 ·rw[if_pos h,if_pos (h2 (by omega))]
 ·obtain⟨h3,h4⟩:=h1 (by omega)
  rw[if_neg h,if_neg (by omega)]
  by_cases hd:deepL (preL xs 1)=true
  ·rw[if_pos hd,if_pos (h4.2 (.inr hd))]
  ·rw[if_neg hd,if_neg (fun h=>(h4.1 h).elim (by omega) hd)]
def appF (l:List (Stg × Int))(out:List ByteArray):List ByteArray:=l.foldl (fun o p=>apNew o p.1) out
theorem ap_fold:∀(l:List (Stg × Int))(out:List ByteArray),foldW apStp l out=.ok (true,appF l out)
 |[],out=>rfl
 | p :: l,out=>by
  rw[foldW]
  show foldW apStp l (apNew out p.1)=_
  rw[ap_fold l]
  rfl
theorem appL_pre (xs:List Stg):appL xs=appF (preL xs 1) []:=by
 unfold appL
 rw[wlk_fold apStp _ xs 1 [] (Nat.le_refl _),ap_fold]
mutual
def dstS:Stg→Int→List (Stg × Int)→List (Stg × Int)
 | .mk k t x th el,d,out=>dstL el (wrap64 (d+1)) (dstL th (wrap64 (d+1)) (out++[(.mk k t x th el,d)]))
def dstL:List Stg→Int→List (Stg × Int)→List (Stg × Int)
 |[],_,out=>out
 | x :: xs,d,out=>if out.length≤128 then dstL xs d (dstS x d out) else out
end
theorem dstS_eq (y:Stg)(d:Int)(out:List (Stg × Int)):dstS y d out=dstL y.els (wrap64 (d+1)) (dstL y.thn (wrap64 (d+1)) (out++[(y,d)])):=by cases y;rw[dstS];rfl
theorem dst_step {xs:List Stg}{k:Nat}{y:Stg}(hk:xs[k]?=some y)(d:Int)(out:List (Stg × Int)):dstL (xs.drop k) d out=if out.length≤128 then dstL (xs.drop (k+1)) d (dstS y d out) else out:=by
 obtain⟨h,e⟩:=List.getElem?_eq_some_iff.1 hk
 rw[List.drop_eq_getElem_cons h,e,dstL]
theorem dst_pre:∀(N:Nat)(xs:List Stg)(d:Int)(out:List (Stg × Int)),szL xs≤N→dstL xs d out=out++(preL xs d).take (129 - out.length):=by
 intro N
 induction N using Nat.strongRecOn with
 | _ N ih=>
  intro xs d out hN
  cases xs with
  | nil=>rw[dstL,preL];simp
  | cons x xs=>
   rw[szL,szS_eq] at hN
   rw[dstL,dstS_eq,preL,preS_eq]
   by_cases h:out.length≤128
   ·rw[if_pos h,ih _ (by omega) x.thn _ _ (Nat.le_refl _),ih _ (by omega) x.els _ _ (Nat.le_refl _),ih _ (by omega) xs _ _ (Nat.le_refl _)]
    generalize preL x.thn (wrap64 (d+1))=A
    generalize preL x.els (wrap64 (d+1))=B
    generalize preL xs d=C
    obtain⟨n,hn⟩:∃ n,129 - out.length=n+1:=⟨128 - out.length,by omega⟩
    rw[hn,List.cons_append,List.take_succ_cons,List.append_assoc A B C]
    simp only[List.append_assoc,List.length_append,List.length_cons,List.length_nil,List.length_take,List.take_append,List.cons_append,List.nil_append]
    have e1:129 - (out.length+(0+1))=n:=by omega
    rw[e1]
    have e2:129 - (out.length+(0+1+min n A.length))=n - A.length:=by omega
    have e2':129 - (out.length+(min n A.length+1))=n - A.length:=by omega
    have e3:129 - (out.length+(0+1+(min n A.length+min (n - A.length) B.length)))=n - A.length - B.length:=by omega
    have e3':129 - (out.length+(min n A.length+min (n - A.length) B.length+1))=n - A.length - B.length:=by omega
    simp only[e1,e2,e2',e3,e3',Nat.zero_add]
    first|rfl|(congr 4<;>omega)|skip
   ·rw[if_neg h,show 129 - out.length=0 by omega]
    simp
theorem dst_all (xs:List Stg):dstL xs 1 []=(preL xs 1).take 129:=by
 rw[dst_pre _ xs 1 [] (Nat.le_refl _)];simp
theorem info135:(Tryz.prog.info? 135).map (fun i=>(i.zero,i.size,i.bytes))=some (some (.agg #[.int .i64 0,.string ⟨#[]⟩,.int .i64 0,.string ⟨#[]⟩,.string ⟨#[]⟩,.int .u64 0,.int .u64 0,.string ⟨#[]⟩,.string ⟨#[]⟩,.int .u64 0,.int .u64 0,.slice none 0 0,.slice none 0 0,.int .i64 0]),14,184):=by kernel_rfl
def OutV (w:World):List (Stg × Int)→List Value→Prop
 |[],vs=>vs=[]
 | p :: l,vs=>∃ cs rest,StgIs w p.1 cs∧vs=cs.toList++(.int .i64 p.2 :: rest)∧OutV w l rest
theorem OutV.snoc {w:World}{y:Stg}{d:Int}{cs:Array Value}(hy:StgIs w y cs):∀ {l:List (Stg × Int)}{vs:List Value},OutV w l vs→OutV w (l++[(y,d)]) (vs++(cs.toList++[.int .i64 d]))
 |[],vs,h=>by
  have h:vs=[]:=h
  subst h
  exact⟨cs,[],hy,by simp,rfl⟩
 | p :: l,vs,h=>by
  obtain⟨c,rest,h1,rfl,h2⟩:=h
  exact⟨c,_,h1,by simp,h2.snoc hy⟩
structure DOut (w0:World)(B:Nat)(w:World)(out:List (Stg × Int))(sv:Value)(vs:List Value)(w':World):Prop where
 own:w'.ownsRow B 135 14 sv out.length vs
 val:OutV w0 out vs
 kept:Kept (fun k=>B≤k) w w'
 len:out.length≤129
 base:B≤w.heap.size
theorem DOut.slice {w0:World}{B:Nat}{w:World}{out:List (Stg × Int)}{sv:Value}{vs:List Value}{w':World}(h:DOut w0 B w out sv vs w'):∃ oa oc,sv=.slice oa out.length oc:=by
 rcases h.own.2 with⟨rfl,h0⟩|⟨g,cap,cur,rfl,_⟩
 ·exact⟨none,0,by rw[h0]⟩
 ·exact⟨_,_,rfl⟩
theorem DOut.block {w0:World}{B:Nat}{w:World}{out:List (Stg × Int)}{sv:Value}{vs:List Value}{w':World}(h:DOut w0 B w out sv vs w')(g:Nat)(e:sv.ownBlock=some g):B≤g:=by
 rcases h.own.2 with⟨rfl,_⟩|⟨g2,cap2,cur2,rfl,hb2,_⟩
 ·cases e
 ·have:g=g2:=by simpa[Value.ownBlock] using e.symm
  rw[this];exact hb2
theorem new_cells (w:World)(cs:List Value)(t:TypeId):∀ j u,cs[j]?=some u→(w.alloc (.cells cs.toArray t)).cell? ((⟨w.heap.size,0,none⟩:Addr).add j)=some u:=by
 intro j u hj
 have h:=(Blk.new w cs.toArray t).cell j (v:=u) (by simpa using hj)
 have e:(⟨w.heap.size,0,none⟩:Addr).add j=⟨w.heap.size,j,none⟩:=by
  unfold Addr.add
  by_cases h0:j=0
  ·simp[h0]
  ·simp[h0]
 rw[e]
 exact h
theorem dst_len:∀(N:Nat)(xs:List Stg)(d:Int)(out:List (Stg × Int)),szL xs≤N→out.length≤129→(dstL xs d out).length≤129:=by
 intro N xs d out hN h
 rw[dst_pre N xs d out hN,List.length_append,List.length_take]
 omega
theorem dst_any (w0:World)(B:Nat)(hB0:w0.heap.size≤B):∀(N:Nat)(xs:List Stg)(v:Value)(w:World)(out:List (Stg × Int))(vs:List Value)(sv:Value)(d:Int),szL xs≤N→StgRow w0 v xs→Below w0.heap.size w0 w→DOut w0 B w out sv vs w→
  Calls Tryz.prog 172 #[sv,v,.int .i64 d] w fun e w'=>∃ sv' vs',e=.returned sv'∧DOut w0 B w (dstL xs d out) sv' vs' w':=by
 intro N
 induction N using Nat.strongRecOn with
 | _ N ih=>
  intro xs v w out vs sv d hN hr hB hO
  obtain⟨ad,cap,rfl,_⟩:=hr.slice
  obtain⟨oa,oc,rfl⟩:=hO.slice
  have hlen:xs.length*176≤140737488351232:=(stgRow_row hr).2
  obtain⟨i0,hif,hz0,hz1,hz3⟩:=info_of info135
  have HR:Hid (StgRow w0 (.slice ad xs.length cap) xs):=hr
  have HB:Hid (Bl w0 w):=hB
  have HSZ:Hid (szL xs≤N):=hN
  have HIH:Hid (∀ M,M<N→∀(xs:List Stg) (v:Value) (w:World) (out:List (Stg × Int)) (vs:List Value) (sv:Value) (d:Int),szL xs≤M→StgRow w0 v xs→Bl w0 w→DOut w0 B w out sv vs w→Cs 172 #[sv,v,.int .i64 d] w fun e w'=>∃ sv' vs',e=.returned sv'∧DOut w0 B w (dstL xs d out) sv' vs' w'):=ih
  have HB0:Hid (w0.heap.size≤B):=hB0
  obtain⟨n,hn⟩:∃ n,n=xs.length:=⟨_,rfl⟩
  have HN:Hid (n=xs.length):=hn
  obtain⟨R,hR⟩:∃ R,R=dstL xs d out:=⟨_,rfl⟩
  obtain⟨m,hm⟩:∃ m,m=out.length:=⟨_,rfl⟩
  have HO:Hid (m=out.length∧dstL (xs.drop 0) d out=R∧DOut w0 B w out (.slice oa m oc) vs w):=⟨hm,hR.symm,by rw[hm];exact hO⟩
  rw[← hn] at hlen HR ⊢
  rw[← hR,← hm]
  clear hn hr hN hB hO ih hB0 hR hm
  go_enter Tryz.func172,Tryz.ntmps172
  go_wp2_with fail
  go_loopw [0,7] (fun o i wr=>∃(k m:Nat) (cur:List (Stg × Int)) (vs:List Value) (oa:Option Addr) (oc:Nat),k≤n∧o=.slice oa m oc∧i=.int .i64 k∧Aside (m=cur.length∧dstL (xs.drop k) d cur=R∧DOut w0 B w cur (.slice oa m oc) vs wr)) (fun _ i _=>n - (intOf i).toNat)
  case atStart=>exact⟨0,m,out,vs,oa,oc,by omega,rfl,rfl,HO.out⟩
  case round=>
   clear HO
   obtain⟨k,m,cur,vs,oa,oc,hk,rfl,rfl,hA⟩:=hrel
   have HA:Hid (m=cur.length∧dstL (xs.drop k) d cur=R∧DOut w0 B w cur (.slice oa m oc) vs wr):=hA.out
   have hm129:m≤129:=by rw[HA.out.1];exact HA.out.2.2.len
   clear hA
   by_cases hlt:k<n
   ·by_cases hfull:m≤128
    ·obtain⟨y,hy⟩:=gE HN.out hlt
     obtain⟨b,o,cs,rfl,_,hcc,hIs⟩:=(stgRow_row HR.out).1.at hy
     obtain⟨v1,v2,rfl,hok,hth,hel⟩:=(stgIs_iff w0 y cs).1 hIs
     obtain⟨ta,tc,rfl,_⟩:=hth.slice
     obtain⟨ea,ec,rfl,_⟩:=hel.slice
     have HTh:Hid (StgRow w0 (.slice ta y.thn.length tc) y.thn):=hth
     have HEl:Hid (StgRow w0 (.slice ea y.els.length ec) y.els):=hel
     have HIs:Hid (StgIs w0 y #[.int .i64 y.kind,.string y.table,.int .i64 y.test.kind,.string y.test.a.ref.head,.string y.test.a.ref.name,.int .u64 (hiOf y.test.a.const),.int .u64 (loOf y.test.a.const),.string y.test.b.ref.head,.string y.test.b.ref.name,.int .u64 (hiOf y.test.b.const),.int .u64 (loOf y.test.b.const),.slice ta y.thn.length tc,.slice ea y.els.length ec]):=hIs
     have HY:Hid (szL y.thn<N∧szL y.els<N):=by
      have h1:=szL_mem hy
      have h2:=HSZ.out
      rw[szS_eq] at h1
      exact⟨by omega,by omega⟩
     have HQ:Hid (∀ W,Bl w0 W→W.cell? ⟨b,o+k*13+11,none⟩=some (.slice ta y.thn.length tc)∧W.cell? ⟨b,o+k*13+12,none⟩=some (.slice ea y.els.length ec)):=by
      intro W hW
      have hpw:=pres_below hW
      exact⟨by have:=hpw _ _ (hcc 11 _ rfl);simpa using this,by have:=hpw _ _ (hcc 12 _ rfl);simpa using this⟩
     have HS:Hid (R=dstL (xs.drop (k+1)) d (dstL y.els (wrap64 (d+1)) (dstL y.thn (wrap64 (d+1)) (cur++[(y,d)])))):=by
      show _=_
      rw[← HA.out.2.1,dst_step hy,if_pos (by rw[← HA.out.1];exact hfull),dstS_eq]
     have HBr:Hid (Bl w0 wr):=HB.out.trans (HA.out.2.2.kept.below HB.out.size (fun k e=>Nat.le_trans HB0.out e))
     have R1:Hid (wr.rangeAt b (o+k*13) [.int .i64 y.kind,.string y.table,.int .i64 y.test.kind,.string y.test.a.ref.head,.string y.test.a.ref.name,.int .u64 (hiOf y.test.a.const),.int .u64 (loOf y.test.a.const),.string y.test.b.ref.head,.string y.test.b.ref.name,.int .u64 (hiOf y.test.b.const),.int .u64 (loOf y.test.b.const),.slice ta y.thn.length tc,.slice ea y.els.length ec]):=fun j u hu=>pres_below HBr.out _ _ (hcc j u (by simpa using hu))
     have hz':(Tryz.prog.info? 127).map (·.size)=some ([.int .i64 y.kind,.string y.table,.int .i64 y.test.kind,.string y.test.a.ref.head,.string y.test.a.ref.name,.int .u64 (hiOf y.test.a.const),.int .u64 (loOf y.test.a.const),.string y.test.b.ref.head,.string y.test.b.ref.name,.int .u64 (hiOf y.test.b.const),.int .u64 (loOf y.test.b.const),.slice ta y.thn.length tc,.slice ea y.els.length ec]:List Value).length:=isz127
     have hd:decide ((k:Int)<n)=true:=decide_eq_true (by omega)
     have hd2:decide ((m:Int)≤128)=true:=decide_eq_true (by omega)
     clear hcc hIs hth hel hok hy
     have hsz:B≤wr.heap.size:=Nat.le_trans HA.out.2.2.base HA.out.2.2.kept.size
     have HRA:Hid ((wr.alloc (.cells #[.int .i64 y.kind,.string y.table,.int .i64 y.test.kind,.string y.test.a.ref.head,.string y.test.a.ref.name,.int .u64 (hiOf y.test.a.const),.int .u64 (loOf y.test.a.const),.string y.test.b.ref.head,.string y.test.b.ref.name,.int .u64 (hiOf y.test.b.const),.int .u64 (loOf y.test.b.const),.slice ta y.thn.length tc,.slice ea y.els.length ec,.int .i64 d] 135)).ownsRow B 135 14 (.slice oa m oc) m vs):=by
      have h:=ownsRow_kept (S:=fun _=>False) HA.out.2.2.own (Kept.of_below ((Below.refl _ _).alloc (Nat.le_refl _) (.cells #[.int .i64 y.kind,.string y.table,.int .i64 y.test.kind,.string y.test.a.ref.head,.string y.test.a.ref.name,.int .u64 (hiOf y.test.a.const),.int .u64 (loOf y.test.a.const),.string y.test.b.ref.head,.string y.test.b.ref.name,.int .u64 (hiOf y.test.b.const),.int .u64 (loOf y.test.b.const),.slice ta y.thn.length tc,.slice ea y.els.length ec,.int .i64 d] 135))) (fun _ _ e=>e)
      rwa [← HA.out.1] at h
     have HEND:Hid (∀(w6:World) (g cap:Nat),(wr.alloc (.cells #[.int .i64 y.kind,.string y.table,.int .i64 y.test.kind,.string y.test.a.ref.head,.string y.test.a.ref.name,.int .u64 (hiOf y.test.a.const),.int .u64 (loOf y.test.a.const),.string y.test.b.ref.head,.string y.test.b.ref.name,.int .u64 (hiOf y.test.b.const),.int .u64 (loOf y.test.b.const),.slice ta y.thn.length tc,.slice ea y.els.length ec,.int .i64 d] 135)).grownBy w6 (Value.slice oa m oc).ownBlock→w6.ownsRow B 135 14 (.slice (some ⟨g,0,none⟩) (m+1) cap) (m+1) (vs++[.int .i64 y.kind,.string y.table,.int .i64 y.test.kind,.string y.test.a.ref.head,.string y.test.a.ref.name,.int .u64 (hiOf y.test.a.const),.int .u64 (loOf y.test.a.const),.string y.test.b.ref.head,.string y.test.b.ref.name,.int .u64 (hiOf y.test.b.const),.int .u64 (loOf y.test.b.const),.slice ta y.thn.length tc,.slice ea y.els.length ec,.int .i64 d])→DOut w0 B w (cur++[(y,d)]) (.slice (some ⟨g,0,none⟩) (m+1) cap) (vs++[.int .i64 y.kind,.string y.table,.int .i64 y.test.kind,.string y.test.a.ref.head,.string y.test.a.ref.name,.int .u64 (hiOf y.test.a.const),.int .u64 (loOf y.test.a.const),.string y.test.b.ref.head,.string y.test.b.ref.name,.int .u64 (hiOf y.test.b.const),.int .u64 (loOf y.test.b.const),.slice ta y.thn.length tc,.slice ea y.els.length ec,.int .i64 d]) w6):=fun w6 g cap hg hown=>by
      have k1:Kept (fun k=>B≤k) wr w6:=(Kept.of_below ((Below.refl wr.heap.size wr).alloc (Nat.le_refl _) (.cells #[.int .i64 y.kind,.string y.table,.int .i64 y.test.kind,.string y.test.a.ref.head,.string y.test.a.ref.name,.int .u64 (hiOf y.test.a.const),.int .u64 (loOf y.test.a.const),.string y.test.b.ref.head,.string y.test.b.ref.name,.int .u64 (hiOf y.test.b.const),.int .u64 (loOf y.test.b.const),.slice ta y.thn.length tc,.slice ea y.els.length ec,.int .i64 d] 135))).grown hg (fun k e=>HA.out.2.2.block k e)
      refine⟨?_,?_,HA.out.2.2.kept.trans k1,?_,HA.out.2.2.base⟩
      ·rw[List.length_append,← HA.out.1];exact hown
      ·exact HA.out.2.2.val.snoc HIs.out
      ·rw[List.length_append,← HA.out.1];show m+1≤129;omega
     have h63:m+1≤maxLen:=by unfold maxLen;omega
     have hby:(m+1)*184≤140737488355328:=by omega
     have hbs:B≤(wr.alloc (.cells #[.int .i64 y.kind,.string y.table,.int .i64 y.test.kind,.string y.test.a.ref.head,.string y.test.a.ref.name,.int .u64 (hiOf y.test.a.const),.int .u64 (loOf y.test.a.const),.string y.test.b.ref.head,.string y.test.b.ref.name,.int .u64 (hiOf y.test.b.const),.int .u64 (loOf y.test.b.const),.slice ta y.thn.length tc,.slice ea y.els.length ec,.int .i64 d] 135)).heap.size:=by rw[World.size_alloc];omega
     have hone:∀ u ∈ ([.int .i64 y.kind,.string y.table,.int .i64 y.test.kind,.string y.test.a.ref.head,.string y.test.a.ref.name,.int .u64 (hiOf y.test.a.const),.int .u64 (loOf y.test.a.const),.string y.test.b.ref.head,.string y.test.b.ref.name,.int .u64 (hiOf y.test.b.const),.int .u64 (loOf y.test.b.const),.slice ta y.thn.length tc,.slice ea y.els.length ec,.int .i64 d]:List Value),u.oneCell'=true:=by
      intro u hu
      simp only[List.mem_cons,List.not_mem_nil,or_false] at hu
      rcases hu with rfl|rfl|rfl|rfl|rfl|rfl|rfl|rfl|rfl|rfl|rfl|rfl|rfl|rfl<;>rfl
     go_wp2_with (first|(refine wpList_load_mid rfl 127 _ rfl b (o+k*13) rfl [.int .i64 y.kind,.string y.table,.int .i64 y.test.kind,.string y.test.a.ref.head,.string y.test.a.ref.name,.int .u64 (hiOf y.test.a.const),.int .u64 (loOf y.test.a.const),.string y.test.b.ref.head,.string y.test.b.ref.name,.int .u64 (hiOf y.test.b.const),.int .u64 (loOf y.test.b.const),.slice ta y.thn.length tc,.slice ea y.els.length ec] _ R1.out Tryz.underlying127 rfl hz' ?_)|(at_builtin;refine wpList_append_lies _ rfl _ _ 131 rfl B 135 i0 (.agg #[.int .i64 0,.string ⟨#[]⟩,.int .i64 0,.string ⟨#[]⟩,.string ⟨#[]⟩,.int .u64 0,.int .u64 0,.string ⟨#[]⟩,.string ⟨#[]⟩,.int .u64 0,.int .u64 0,.slice none 0 0,.slice none 0 0,.int .i64 0]) 14 184 Tryz.underlying131 hif hz0 hz1 hz3 rfl (by decide) _ _ _ rfl HRA.out ⟨wr.heap.size,0,none⟩ 1 1 [.int .i64 y.kind,.string y.table,.int .i64 y.test.kind,.string y.test.a.ref.head,.string y.test.a.ref.name,.int .u64 (hiOf y.test.a.const),.int .u64 (loOf y.test.a.const),.string y.test.b.ref.head,.string y.test.b.ref.name,.int .u64 (hiOf y.test.b.const),.int .u64 (loOf y.test.b.const),.slice ta y.thn.length tc,.slice ea y.els.length ec,.int .i64 d] rfl rfl (new_cells wr [.int .i64 y.kind,.string y.table,.int .i64 y.test.kind,.string y.test.a.ref.head,.string y.test.a.ref.name,.int .u64 (hiOf y.test.a.const),.int .u64 (loOf y.test.a.const),.string y.test.b.ref.head,.string y.test.b.ref.name,.int .u64 (hiOf y.test.b.const),.int .u64 (loOf y.test.b.const),.slice ta y.thn.length tc,.slice ea y.els.length ec,.int .i64 d] 135) hone (by decide) h63 hby hbs _ rfl ?_;intro g1 cap1 w6 hown hgr hwh hlt6;have HD1:Hid (DOut w0 B w (cur++[(y,d)]) (.slice (some ⟨g1,0,none⟩) (m+1) cap1) (vs++[.int .i64 y.kind,.string y.table,.int .i64 y.test.kind,.string y.test.a.ref.head,.string y.test.a.ref.name,.int .u64 (hiOf y.test.a.const),.int .u64 (loOf y.test.a.const),.string y.test.b.ref.head,.string y.test.b.ref.name,.int .u64 (hiOf y.test.b.const),.int .u64 (loOf y.test.b.const),.slice ta y.thn.length tc,.slice ea y.els.length ec,.int .i64 d]) w6):=HEND.out w6 g1 cap1 hgr hown;have HB1:Hid (Below w0.heap.size w0 w6):=HB.out.trans (HD1.out.kept.below HB.out.size (fun k e=>Nat.le_trans HB0.out e));obtain⟨q1,_⟩:=HQ.out _ HB1.out;clear hown hgr hwh hlt6 HEND HRA hone R1 hbs hsz))
     have C1:Hid (Cs 172 #[.slice (some ⟨g1,0,none⟩) (m+1) cap1,.slice ta y.thn.length tc,.int .i64 (wrap64 (d+1))] w6 fun e w'=>∃ sv' vs',e=.returned sv'∧DOut w0 B w6 (dstL y.thn (wrap64 (d+1)) (cur++[(y,d)])) sv' vs' w'):=HIH.out _ HY.out.1 y.thn _ w6 _ _ _ _ (Nat.le_refl _) HTh.out HB1.out ⟨HD1.out.own,HD1.out.val,Kept.refl _ _,HD1.out.len,Nat.le_trans HD1.out.base HD1.out.kept.size⟩
     refine C1.out.mono ?_
     rintro e W2 ⟨sv2,vs2,rfl,hO2⟩
     obtain⟨oa2,oc2,rfl⟩:=hO2.slice
     have HD2:Hid (DOut w0 B w (dstL y.thn (wrap64 (d+1)) (cur++[(y,d)])) (.slice oa2 (dstL y.thn (wrap64 (d+1)) (cur++[(y,d)])).length oc2) vs2 W2):=⟨hO2.own,hO2.val,HD1.out.kept.trans hO2.kept,hO2.len,HD1.out.base⟩
     have HB2:Hid (Bl w0 W2):=HB.out.trans (HD2.out.kept.below HB.out.size (fun k e=>Nat.le_trans HB0.out e))
     obtain⟨_,q2⟩:=HQ.out _ HB2.out
     clear hO2 C1 q1 HD1 HB1
     have C2:Hid (Cs 172 #[.slice oa2 (dstL y.thn (wrap64 (d+1)) (cur++[(y,d)])).length oc2,.slice ea y.els.length ec,.int .i64 (wrap64 (d+1))] W2 fun e w'=>∃ sv' vs',e=.returned sv'∧DOut w0 B W2 (dstL y.els (wrap64 (d+1)) (dstL y.thn (wrap64 (d+1)) (cur++[(y,d)]))) sv' vs' w'):=HIH.out _ HY.out.2 y.els _ W2 _ _ _ _ (Nat.le_refl _) HEl.out HB2.out ⟨HD2.out.own,HD2.out.val,Kept.refl _ _,HD2.out.len,Nat.le_trans HD2.out.base HD2.out.kept.size⟩
     generalize (dstL y.thn (wrap64 (d+1)) (cur++[(y,d)])).length=m2 at C2 ⊢
     go_wp2_with fail
     refine C2.out.mono ?_
     rintro e W3 ⟨sv3,vs3,rfl,hO3⟩
     obtain⟨oa3,oc3,rfl⟩:=hO3.slice
     have HD3:Hid (DOut w0 B w (dstL y.els (wrap64 (d+1)) (dstL y.thn (wrap64 (d+1)) (cur++[(y,d)]))) (.slice oa3 (dstL y.els (wrap64 (d+1)) (dstL y.thn (wrap64 (d+1)) (cur++[(y,d)]))).length oc3) vs3 W3):=⟨hO3.own,hO3.val,HD2.out.kept.trans hO3.kept,hO3.len,HD2.out.base⟩
     clear hO3 C2 q2 HD2 HB2
     generalize dstL y.els (wrap64 (d+1)) (dstL y.thn (wrap64 (d+1)) (cur++[(y,d)]))=L3 at HD3 HS ⊢
     obtain⟨m3,hm3⟩:∃ m3,m3=L3.length:=⟨_,rfl⟩
     rw[← hm3] at HD3 ⊢
     have HM3:Hid (m3=L3.length):=hm3
     clear hm3
     go_wp2
     exact⟨⟨k+1,m3,L3,vs3,oa3,oc3,by omega,rfl,by go_num,⟨HM3.out,HS.out.symm,HD3.out⟩⟩,by simp only[intOf];omega⟩
    ·have HF:Hid (R=cur):=by
      show _=_
      obtain⟨y,hy⟩:=gE HN.out hlt
      rw[← HA.out.2.1,dst_step hy,if_neg (by rw[← HA.out.1];omega)]
     have hd:decide ((k:Int)<n)=true:=decide_eq_true (by omega)
     have hd2:decide ((m:Int)≤128)=false:=decide_eq_false (by omega)
     go_wp2
     go_ret
     exact⟨_,vs,rfl,by rw[HF.out];exact HA.out.2.2⟩
   ·have e:k=n:=by omega
    subst e
    have HF:Hid (R=cur):=by
     show _=_
     rw[← HA.out.2.1,List.drop_of_length_le (by rw[← HN.out];omega),dstL]
    have hd:decide ((k:Int)<k)=false:=decide_eq_false (by omega)
    go_wp2
    go_ret
    exact⟨_,vs,rfl,by rw[HF.out];exact HA.out.2.2⟩
theorem OutV.at {w:World}:∀ {l:List (Stg × Int)}{vs:List Value},OutV w l vs→∀ {i:Nat}{p:Stg × Int},l[i]?=some p→∃ cs,StgIs w p.1 cs∧(∀ j u,cs[j]?=some u→vs[i*14+j]?=some u)∧vs[i*14+13]?=some (.int .i64 p.2)
 |[],vs,h,i,p,hp=>by simp at hp
 | q :: l,vs,h,0,p,hp=>by
  obtain⟨cs,rest,h1,rfl,h2⟩:=h
  simp only[List.getElem?_cons_zero,Option.some.injEq] at hp
  subst hp
  have hsz:cs.size=13:=stg_good.size h1
  have hl:cs.toList.length=13:=by simpa using hsz
  refine⟨cs,h1,fun j u hu=>?_,?_⟩
  ·have hj:j<cs.toList.length:=by
    have:=(Array.getElem?_eq_some_iff.1 hu).1
    simpa using this
   rw[Nat.zero_mul,Nat.zero_add,List.getElem?_append_left hj]
   simpa using hu
  ·rw[List.getElem?_append_right (by omega),hl]
   rfl
 | q :: l,vs,h,i+1,p,hp=>by
  obtain⟨cs,rest,h1,rfl,h2⟩:=h
  simp only[List.getElem?_cons_succ] at hp
  have hsz:cs.size=13:=stg_good.size h1
  have hl:cs.toList.length=13:=by simpa using hsz
  obtain⟨cs',h3,h4,h5⟩:=OutV.at h2 hp
  have key:∀ j,(cs.toList++(Value.int .i64 q.2 :: rest))[(i+1)*14+j]?=rest[i*14+j]?:=fun j=>by
   rw[List.getElem?_append_right (by omega),hl,show(i+1)*14+j - 13=i*14+j+1 by omega,List.getElem?_cons_succ]
  exact⟨cs',h3,fun j u hu=>by rw[key];exact h4 j u hu,by rw[key];exact h5⟩
theorem own_at {w:World}{B e z n:Nat}{oa:Option Addr}{oc:Nat}{vs:List Value}(h:w.ownsRow B e z (.slice oa n oc) n vs)(hn:0<n):∃ g,oa=some ⟨g,0,none⟩∧B≤g∧∀ j u,vs[j]?=some u→w.cell? ⟨g,j,none⟩=some u:=by
 have hl:=h.1
 have h0:=h
 rcases h.2 with⟨_,h1⟩|⟨g,cap,cur,hv,hb,_⟩
 ·omega
 ·cases hv
  refine⟨g,rfl,hb,fun j u hu=>?_⟩
  have hj:=(List.getElem?_eq_some_iff.1 hu).1
  have:=h0.cellAt (g:=g) (cap:=oc) j (by omega)
  rw[this];exact hu
theorem deep_step {l:List (Stg × Int)}{k:Nat}{p:Stg × Int}(hk:l[k]?=some p):deepL (l.drop k)=(decide (8<p.2)||deepL (l.drop (k+1))):=by
 obtain⟨h,e⟩:=List.getElem?_eq_some_iff.1 hk
 rw[List.drop_eq_getElem_cons h,e]
 rfl
def StgsOut (w0:World)(B:Nat)(xs:List Stg)(e:Ending)(w':World):Prop:=
 (sizeE xs=0∧∃ oa oc vs,e=.returned (.tuple #[.slice oa (preL xs 1).length oc,.int .i64 0])∧w'.ownsRow B 135 14 (.slice oa (preL xs 1).length oc) (preL xs 1).length vs∧OutV w0 (preL xs 1) vs∧(preL xs 1).length≤128)∨
 (sizeE xs≠0∧e=.returned (.tuple #[.slice none 0 0,.int .i64 (sizeE xs)]))
theorem rstages_any (v:Value)(s:Sch)(w:World)(hs:SchIs w v s):Calls Tryz.prog 88 #[v] w fun e w'=>StgsOut w (w.heap.size+1) s.control e w'∧Below w.heap.size w w':=by
 obtain⟨a0,c0,a1,c1,a2,c2,a3,c3,a4,c4,a5,c5,rfl,h0,h1,h2,h3,h4,h5⟩:=hs.parts
 have HB0:Hid (Bl w (w.alloc (.cells #[.slice a0 s.headers.length c0,.slice a1 s.metas.length c1,.slice a2 s.states.length c2,.slice a3 s.actions.length c3,.slice a4 s.tables.length c4,.slice a5 s.control.length c5] 34))):=(Below.refl _ _).alloc (Nat.le_refl _) _
 have HX0:Hid (Blk (w.alloc (.cells #[.slice a0 s.headers.length c0,.slice a1 s.metas.length c1,.slice a2 s.states.length c2,.slice a3 s.actions.length c3,.slice a4 s.tables.length c4,.slice a5 s.control.length c5] 34)) w.heap.size #[.slice a0 s.headers.length c0,.slice a1 s.metas.length c1,.slice a2 s.states.length c2,.slice a3 s.actions.length c3,.slice a4 s.tables.length c4,.slice a5 s.control.length c5] 34):=Blk.new _ _ _
 have HR:Hid (StgRow w (.slice a5 s.control.length c5) s.control):=h5
 have HSZ:Hid ((w.alloc (.cells #[.slice a0 s.headers.length c0,.slice a1 s.metas.length c1,.slice a2 s.states.length c2,.slice a3 s.actions.length c3,.slice a4 s.tables.length c4,.slice a5 s.control.length c5] 34)).heap.size=w.heap.size+1):=World.size_alloc _ _
 clear hs h0 h1 h2 h3 h4 h5
 generalize s.control=xs at*
 go_enter Tryz.func88,Tryz.ntmps88
 go_upto_region 1 with fail
 generalize (w.alloc _)=W0 at HB0 HX0 HSZ ⊢
 obtain⟨xb,hxb⟩:∃ xb,xb=w.heap.size:=⟨_,rfl⟩
 rw[← hxb] at HX0 ⊢
 have HXB:Hid (xb=w.heap.size):=hxb
 clear hxb
 have x5:=HX0.out.cell 5 (v:=.slice a5 xs.length c5) rfl
 have C1:Hid (Calls Tryz.prog 172 #[.slice none 0 0,.slice a5 xs.length c5,.int .i64 1] W0 fun e w'=>∃ sv' vs',e=.returned sv'∧DOut w (w.heap.size+1) W0 (dstL xs 1 []) sv' vs' w'):=
  dst_any w (w.heap.size+1) (by omega) _ xs _ W0 [] [] _ 1 (Nat.le_refl _) HR.out HB0.out ⟨World.ownsRow_nil W0 _ 135 14,rfl,Kept.refl _ _,by simp,by rw[HSZ.out];exact Nat.le_refl _⟩
 go_wp2_with fail
 refine C1.out.mono ?_
 rintro e W1 ⟨sv1,vs1,rfl,hO⟩
 obtain⟨oa,oc,rfl⟩:=hO.slice
 rw[dst_all] at hO ⊢
 have HB1:Hid (Bl w W1):=HB0.out.trans (hO.kept.below HB0.out.size (fun k e=>by omega))
 have HE:=sizeE_pre xs
 have HE:Hid (sizeE xs=if 128<(preL xs 1).length then 74 else if deepL (preL xs 1)=true then 77 else 0):=HE
 clear C1 x5 HX0 HB0 HSZ
 by_cases hbig:128<(preL xs 1).length
 ·have hl:((preL xs 1).take 129).length=129:=by rw[List.length_take];omega
  rw[hl]
  have HF:Hid (sizeE xs=74):=by show _=_;rw[HE.out,if_pos hbig]
  clear hO hl hbig HE
  go_wp2
  refine bodyPost_ret (v:=.tuple #[.slice none 0 0,.int .i64 74]) (by simp[results,Tryz.results88,go_sem]) rfl ⟨.inr ⟨?_,?_⟩,HB1.out⟩
  ·rw[HF.out];decide
  ·rw[HF.out]
 ·have ht:(preL xs 1).take 129=preL xs 1:=List.take_of_length_le (by omega)
  rw[ht] at hO ⊢
  have HO:Hid (DOut w (w.heap.size+1) W0 (preL xs 1) (.slice oa (preL xs 1).length oc) vs1 W1):=hO
  have HE2:Hid (sizeE xs=if deepL (preL xs 1)=true then 77 else 0):=by show _=_;rw[HE.out,if_neg hbig]
  have hm:(preL xs 1).length≤128:=by omega
  clear hO hbig ht HE
  obtain⟨L,hL⟩:∃ L,L=preL xs 1:=⟨_,rfl⟩
  obtain⟨m,hmm⟩:∃ m,m=(preL xs 1).length:=⟨_,rfl⟩
  have HM:Hid (m=L.length):=by show _=_;rw[hmm,hL]
  have HO2:Hid (W1.ownsRow (w.heap.size+1) 135 14 (.slice oa m oc) m vs1∧OutV w L vs1):=by
   have h1:=HO.out.own;have h2:=HO.out.val
   rw[← hmm] at h1
   rw[← hL] at h2
   exact⟨h1,h2⟩
  have HLL:Hid (L=preL xs 1):=hL
  have HMM:Hid (m=(preL xs 1).length):=hmm
  rw[← hL] at HE2
  rw[← hmm] at hm ⊢
  clear HO hL hmm
  have hd0:decide ((128:Int)<m)=false:=decide_eq_false (by omega)
  go_wp2_with fail
  go_loopw [5] (fun i wr=>∃ k:Nat,k≤m∧i=.int .i64 k∧wr=W1∧Aside (deepL L=deepL (L.drop k))) (fun i _=>m - (intOf i).toNat)
  case atStart=>exact⟨0,by omega,rfl,rfl,by show _=_;simp⟩
  case round=>
   obtain⟨k,hk,rfl,rfl,hd⟩:=hrel
   have HD:Hid (deepL L=deepL (L.drop k)):=hd.out
   clear hd
   by_cases hlt:k<m
   ·obtain⟨p,hp⟩:=gE HM.out hlt
    obtain⟨g,rfl,_,hg⟩:=own_at HO2.out.1 (by omega)
    obtain⟨cs,_,_,hdp⟩:=HO2.out.2.at hp
    have q:=hg _ _ hdp
    have hdl:decide ((k:Int)<m)=true:=decide_eq_true (by omega)
    have HST:Hid (deepL L=(decide (8<p.2)||deepL (L.drop (k+1)))):=by show _=_;rw[HD.out,deep_step hp]
    clear hg hdp hp
    generalize p.2=dp at*
    by_cases h8:8<dp
    ·have HF:Hid (sizeE xs=77):=by
      show _=_
      rw[HE2.out,HST.out,decide_eq_true h8,Bool.true_or,if_pos rfl]
     have h8':decide ((8:Int)<dp)=true:=decide_eq_true h8
     go_wp2
     refine bodyPost_ret (v:=.tuple #[.slice none 0 0,.int .i64 77]) (by simp[results,Tryz.results88,go_sem]) rfl ⟨.inr ⟨?_,?_⟩,HB1.out⟩
     ·rw[HF.out];decide
     ·rw[HF.out]
    ·have h8':decide ((8:Int)<dp)=false:=decide_eq_false h8
     go_wp2
     exact⟨⟨k+1,by omega,by go_num,by trivial,by show _=_;rw[HST.out,h8',Bool.false_or]⟩,by simp only[intOf];omega⟩
   ·have e:k=m:=by omega
    subst e
    have HF:Hid (sizeE xs=0):=by
     show _=_
     rw[HE2.out,HD.out,HM.out,List.drop_length]
     rfl
    have hdl:decide ((k:Int)<k)=false:=decide_eq_false (by omega)
    go_wp2
    refine bodyPost_ret (v:=.tuple #[.slice oa k oc,.int .i64 0]) (by simp[results,Tryz.results88,go_sem]) rfl ⟨.inl ⟨HF.out,oa,oc,vs1,?_⟩,HB1.out⟩
    rw[← HMM.out,← HLL.out]
    exact⟨rfl,HO2.out.1,HO2.out.2,hm⟩
end Go.Proofs.YtmbpclknhkbbkaaGreat
