/- What a sound schema's states are like:. -/
import Derived.Test.YtmbpclknhkbbkaaGreatB13
import Derived.Test.YtmbpclknhkbbkaaGreatVbz
set_option linter.unusedSimpArgs false
set_option linter.unusedVariables false
namespace Go.Proofs.YtmbpclknhkbbkaaGreat
open Go.RowKit
def W1 (P:Nat→Nat→Bool)(k a b:Nat):Bool:=P a b||(P a k&&P k b)
theorem jL_is (k i:Nat)(P:Nat→Nat→Bool):∀ m a b,jL k i m P a b=if a=i∧b<m then W1 P k a b else P a b
 | 0,a,b=>by simp[jL]
 | m+1,a,b=>by
  have h1:=jL_is k i P m
  rw[jL,stepW,setM]
  by_cases hab:a=i∧b=m
  ·obtain⟨rfl,rfl⟩:=hab
   rw[if_pos ⟨rfl,rfl⟩,if_pos ⟨rfl,by omega⟩,h1 a b,h1 a k,h1 k b,if_neg (by omega)]
   have e1:(if a=a∧k<b then W1 P k a k else P a k)=P a k:=by
    split
    ·unfold W1;cases P a k<;>simp
    ·rfl
   have e2:(if k=a∧b<b then W1 P k k b else P k b)=P k b:=if_neg (by omega)
   rw[e1,e2];rfl
  ·rw[if_neg hab,h1 a b]
   by_cases h:a=i∧b<m
   ·rw[if_pos h,if_pos ⟨h.1,by omega⟩]
   ·rw [if_neg h, if_neg (fun h' => by
      rcases Nat.lt_or_ge b m with hb | hb
      · exact h ⟨h'.1, hb⟩
      · exact hab ⟨h'.1, by omega⟩)]
theorem iL_is (n k:Nat)(P:Nat→Nat→Bool):∀ m a b,iL n k m P a b=if a<m∧b<n then W1 P k a b else P a b
 | 0,a,b=>by simp[iL]
 | m+1,a,b=>by
  have h1:=iL_is n k P m
  rw[iL,jL_is]
  by_cases hab:a=m∧b<n
  ·obtain⟨rfl,hb⟩:=hab
   rw[if_pos ⟨rfl,hb⟩,if_pos ⟨by omega,hb⟩]
   unfold W1
   rw[h1 a b,h1 a k,h1 k b,if_neg (by omega),if_neg (by omega)]
   have e2:(if k<a∧b<n then W1 P k k b else P k b)=P k b:=by
    split
    ·unfold W1;cases P k b<;>simp
    ·rfl
   rw[e2]
  ·rw[if_neg hab,h1 a b]
   by_cases h:a<m∧b<n
   ·rw[if_pos h,if_pos ⟨by omega,h.2⟩]
   ·rw [if_neg h, if_neg (fun h' => by
      rcases Nat.lt_or_ge a m with ha | ha
      · exact h ⟨ha, h'.2⟩
      · exact hab ⟨by omega, h'.2⟩)]
theorem bL_step (n k:Nat)(M:Nat→Nat→Bool){a b:Nat}(ha:a<n)(hb:b<n):bL n (k+1) M a b=W1 (bL n k M) k a b:=by rw[bL,iL_is,if_pos ⟨ha,hb⟩]
theorem bL_mono (n:Nat)(M:Nat→Nat→Bool){a b:Nat}(ha:a<n)(hb:b<n)(h:M a b=true):∀ k,bL n k M a b=true
 | 0=>h
 | k+1=>by rw[bL_step n k M ha hb,W1,bL_mono n M ha hb h k];rfl
theorem bL_closed (n:Nat)(M:Nat→Nat→Bool):∀ k,k≤n→∀ a b c,a<n→b<k→c<n→bL n k M a b=true→bL n k M b c=true→bL n k M a c=true
 | 0,_,a,b,c,_,hb,_,_,_=>by omega
 | k+1,hk,a,b,c,ha,hb,hc,h1,h2=>by
  have ih:=bL_closed n M k (by omega)
  rw[bL_step n k M ha (by omega),W1,Bool.or_eq_true,Bool.and_eq_true] at h1
  rw[bL_step n k M (by omega) hc,W1,Bool.or_eq_true,Bool.and_eq_true] at h2
  rw[bL_step n k M ha hc,W1,Bool.or_eq_true,Bool.and_eq_true]
  by_cases e:b=k
  ·subst e
   have g1:bL n b M a b=true:=h1.elim id (fun h=>h.1)
   have g2:bL n b M b c=true:=h2.elim id (fun h=>h.2)
   exact .inr ⟨g1,g2⟩
  ·have hb':b<k:=by omega
   rcases h1 with h1|⟨h1,h1'⟩
   ·rcases h2 with h2|⟨h2,h2'⟩
    ·exact .inl (ih a b c ha hb' hc h1 h2)
    ·exact .inr ⟨ih a b k ha hb' (by omega) h1 h2,h2'⟩
   ·rcases h2 with h2|⟨h2,h2'⟩
    ·exact .inr ⟨h1,ih k b c (by omega) hb' hc h1' h2⟩
    ·exact .inr ⟨h1,h2'⟩
theorem goF_mono {g:ByteArray→Option Int}{i:Nat}{M:Nat→Nat→Bool}{nx:ByteArray}{a b:Nat}(h:M a b=true):goF g i M nx a b=true:=by
 unfold goF
 cases g nx with
 | none=>exact h
 | some j=>
  show setM M i j.toNat true a b=true
  unfold setM;split
  ·rfl
  ·exact h
theorem goF_here {g:ByteArray→Option Int}{i:Nat}{M:Nat→Nat→Bool}{nx:ByteArray}{j:Int}(h:g nx=some j):goF g i M nx i j.toNat=true:=by
 unfold goF;rw[h];unfold setM;simp
theorem cL_mono {g:ByteArray→Option Int}{i:Nat}{cs:List Cas}{M:Nat→Nat→Bool}{a b:Nat}(h:M a b=true):∀ k,cL g i cs k M a b=true
 | 0=>h
 | k+1=>by
  rw[cL]
  cases cs[k]? with
  | none=>exact cL_mono h k
  | some c=>exact goF_mono (cL_mono h k)
theorem cL_here {g:ByteArray→Option Int}{i:Nat}{cs:List Cas}{M:Nat→Nat→Bool}{c:Cas}{q:Nat}{j:Int}(hq:cs[q]?=some c)(h:g c.next=some j):∀ k,q<k→cL g i cs k M i j.toNat=true
 | 0,hk=>by omega
 | k+1,hk=>by
  rw[cL]
  by_cases e:q=k
  ·subst e;rw[hq];exact goF_here h
  ·have:=cL_here (i:=i) (M:=M) hq h k (by omega)
   cases cs[k]? with
   | none=>exact this
   | some c=>exact goF_mono this
theorem rowF_mono {g:ByteArray→Option Int}{i:Nat}{x:Sta}{M:Nat→Nat→Bool}{a b:Nat}(h:M a b=true):rowF g i x M a b=true:=goF_mono (cL_mono h _)
def Goes (x:Sta)(nx:ByteArray):Prop:=nx=x.next∨∃(q:Nat)(c:Cas),x.cases[q]?=some c∧nx=c.next
theorem rowF_here {g:ByteArray→Option Int}{i:Nat}{x:Sta}{M:Nat→Nat→Bool}{nx:ByteArray}{j:Int}(hn:Goes x nx)(h:g nx=some j):rowF g i x M i j.toNat=true:=by
 rcases hn with rfl|⟨q,c,hq,rfl⟩
 ·exact goF_here h
 ·exact goF_mono (cL_here hq h _ (List.getElem?_eq_some_iff.1 hq).1)
theorem eL_here {g:ByteArray→Option Int}{xs:List Sta}{i:Nat}{x:Sta}{nx:ByteArray}{j:Int}(hx:xs[i]?=some x)(hn:Goes x nx)(h:g nx=some j):∀ k,i<k→eL g xs k i j.toNat=true
 | 0,hk=>by omega
 | k+1,hk=>by
  rw[eL]
  by_cases e:i=k
  ·subst e;rw[hx];exact rowF_here hn h
  ·have:=eL_here hx hn h k (by omega)
   cases xs[k]? with
   | none=>exact this
   | some c=>exact rowF_mono this
theorem first_none {M:Nat→Nat→Bool}:∀(xs:List Sta)(k:Nat),firstL M xs k=none→∀ i,i<xs.length→M (k+i) (k+i)=false
 |[],_,_,i,hi=>by simp at hi
 | x :: xs,k,h,i,hi=>by
  rw[firstL] at h
  split at h
  ·cases h
  ·rename_i hm
   cases i with
   | zero=>simpa using hm
   | succ i=>have:=first_none xs (k+1) h i (by simpa using hi);rwa [show k+(i+1)=k+1+i by omega]
theorem newE_zero {nm:ByteArray}{seen:List ByteArray}(h:newE nm seen=0):hasT seen nm=false:=by
 unfold newE at h
 split at h
 ·cases h
 ·split at h
  ·cases h
  ·rename_i h2;simpa using h2
theorem stsE_all {hh:ByteArray→Bool}{wd:Rf→Int}{nb:ByteArray→Bool}:∀(xs:List Sta)(seen:List ByteArray),stsE hh wd nb xs seen=none→(∀ x ∈ xs,hasT seen x.name=false∧stateE hh wd nb x=0)∧(xs.map (·.name)).Nodup
 |[],_,_=>by simp
 | x :: xs,seen,h=>by
  rw[stsE] at h
  split at h
  ·cases h
  ·split at h
   ·cases h
   ·rename_i h1 h2
    obtain⟨h3,h4⟩:=stsE_all xs _ h
    have hn:=newE_zero (Classical.not_not.1 h1)
    have hne:∀ y ∈ xs,¬ y.name=x.name:=fun y hy e=>by
     have:=(h3 y hy).1
     simp[hasT,e] at this
    refine⟨fun y hy=>?_,?_⟩
    ·rcases List.mem_cons.1 hy with rfl|hy
     ·exact⟨hn,Classical.not_not.1 h2⟩
     ·refine⟨?_,(h3 y hy).2⟩
      have:=(h3 y hy).1
      simp only[hasT,List.any_cons,Bool.or_eq_false_iff] at this ⊢
      exact this.2
    ·rw[List.map_cons,List.nodup_cons]
     refine⟨fun hm=>?_,h4⟩
     obtain⟨y,hy,e⟩:=List.mem_map.1 hm
     exact hne y hy e
theorem lastG_of {xs:List Sta}(hd:(xs.map (·.name)).Nodup){i:Nat}{x:Sta}(hx:xs[i]?=some x):∀ k,i<k→lastG xs k x.name=some (i:Int)
 | 0,hk=>by omega
 | k+1,hk=>by
  rw[lastG]
  by_cases e:i=k
  ·subst e;rw[hx];simp
  ·have h1:=lastG_of hd hx k (by omega)
   cases hy:xs[k]? with
   | none=>exact h1
   | some y=>
    simp only
    rw[if_neg,h1]
    intro he
    obtain⟨hi,ei⟩:=List.getElem?_eq_some_iff.1 hx
    obtain⟨hk',ek⟩:=List.getElem?_eq_some_iff.1 hy
    apply e
    refine(List.getElem_inj (xs:=xs.map (·.name)) (h₀:=by simpa using hi) (h₁:=by simpa using hk') hd).1 ?_
    simp[ei,ek,he]
structure StOk (s:Sch):Prop where
 few:s.states.length≤32
 names:(s.states.map (·.name)).Nodup
 hdr:∀ x ∈ s.states,hdrAt s x.header ≠ -1
 ways:∃ C:Nat→Nat→Bool,(∀ i,i<s.states.length→C i i=false)∧(∀ a b c,a<s.states.length→b<s.states.length→c<s.states.length→C a b=true→C b c=true→C a c=true)∧
  ∀(i:Nat) (x:Sta) (nx:ByteArray) (j:Nat) (y:Sta),s.states[i]?=some x→Goes x nx→s.states[j]?=some y→y.name=nx→C i j=true
theorem hdrAt_of {s:Sch}{nm:ByteArray}(h:hasT (hNames s) nm=true):hdrAt s nm ≠ -1:=by
 rcases idx_cases (fun h:Hdr=>decide (h.name=nm)) s.headers 0 with⟨h1,h2⟩|⟨i,x,_,_,_,h4,_⟩
 ·exfalso
  unfold hasT hNames at h
  obtain⟨y,hy,e⟩:=List.any_eq_true.1 h
  obtain⟨z,hz,rfl⟩:=List.mem_map.1 (List.mem_reverse.1 hy)
  have:=h2 z hz
  simp at this e
  exact this e.symm
 ·unfold hdrAt;rw[h4];omega
theorem stOk_of {s:Sch}(h:checkE s=none):StOk s:=by
 unfold checkE at h
 have hh:∀ a b,orE a b=none→a=none∧b=none:=fun a b h=>by cases a<;>simp[orE] at h ⊢;exact h
 obtain⟨_,h⟩:=hh _ _ h
 obtain⟨_,h⟩:=hh _ _ h
 obtain⟨hs,_⟩:=hh _ _ h
 clear h hh
 unfold statesE at hs
 split at hs
 ·cases hs
 ·rename_i hn
  cases h1:stsE (hasT (hNames s)) (widG s) (nextB (lastG s.states s.states.length)) s.states [] with
  | some r=>rw[h1] at hs;cases hs
  | none=>
   rw[h1] at hs
   simp only at hs
   obtain⟨h2,h3⟩:=stsE_all _ _ h1
   refine⟨by omega,h3,fun x hx=>hdrAt_of ?_,bL s.states.length s.states.length (eL (lastG s.states s.states.length) s.states s.states.length),fun i hi=>?_,fun a b c ha hb hc=>bL_closed _ _ _ (Nat.le_refl _) a b c ha hb hc,fun i x nx j y hx hg hy e=>?_⟩
   ·have:=(h2 x hx).2
    unfold stateE at this
    split at this
    ·cases this
    ·rename_i h4;simpa using h4
   ·have:=first_none _ _ hs i hi
    simpa using this
   ·have hi:=(List.getElem?_eq_some_iff.1 hx).1
    have hj:=(List.getElem?_eq_some_iff.1 hy).1
    refine bL_mono _ _ hi hj ?_ _
    have:=eL_here hx hg (by rw[← e];exact lastG_of h3 hy _ hj) s.states.length hi
    simpa using this
mutual
theorem wlkS_err {σ:Type}{stp:σ→Stg→Int→Except PanicEntry (Bool × σ)}{P:PanicEntry→Prop}(h:∀ s x d p,stp s x d=.error p→P p):∀(x:Stg)(d:Int)(s:σ)(p:PanicEntry),wlkS stp x d s=.error p→P p
 | .mk k t x th el,d,s,p,e=>by
  rw[wlkS] at e
  split at e
  ·rename_i q hq;cases e;exact h _ _ _ _ hq
  ·cases e
  ·split at e
   ·rename_i q hq;cases e;exact wlkL_err h th _ _ _ hq
   ·cases e
   ·exact wlkL_err h el _ _ _ e
theorem wlkL_err {σ:Type}{stp:σ→Stg→Int→Except PanicEntry (Bool × σ)}{P:PanicEntry→Prop}(h:∀ s x d p,stp s x d=.error p→P p):∀(xs:List Stg)(d:Int)(s:σ)(p:PanicEntry),wlkL stp xs d s=.error p→P p
 |[],d,s,p,e=>by rw[wlkL] at e;cases e
 | x :: xs,d,s,p,e=>by
  rw[wlkL] at e
  split at e
  ·rename_i q hq;cases e;exact wlkS_err h x _ _ _ hq
  ·cases e
  ·exact wlkL_err h xs _ _ _ e
end
def NZ (o:Option (Int × ByteArray)):Prop:=∀ r,o=some r→r.1≠0
theorem NZ.none:NZ none:=fun r e=>by cases e
theorem NZ.some {c:Int}{t:ByteArray}(h:c≠0):NZ (some (c,t)):=fun r e=>by cases e;exact h
theorem NZ.ite {p:Prop} [Decidable p]{a b:Option (Int × ByteArray)}(h:p→NZ a)(k:¬ p→NZ b):NZ (if p then a else b):=by
 split
 ·exact h ‹_›
 ·exact k ‹_›
theorem NZ.orE {a b:Option (Int × ByteArray)}(h:NZ a)(k:NZ b):NZ (orE a b):=by
 cases a
 ·exact k
 ·exact h
theorem hdrs_nz:∀(l:List Hdr)(seen:List ByteArray),NZ (hdrsE l seen)
 |[],_=>NZ.none
 | x :: l,seen=>by
  rw[hdrsE]
  exact .ite (fun h=>.some h) fun _=>.ite (fun _=>.some (by decide)) fun _=>.ite (fun h=>.some h) fun _=>.ite (fun _=>.some (by decide)) fun _=>hdrs_nz l _
theorem first_nz {M:Nat→Nat→Bool}:∀(l:List Sta)(i:Nat),NZ (firstL M l i)
 |[],_=>NZ.none
 | x :: l,i=>by rw[firstL];exact .ite (fun _=>.some (by decide)) fun _=>first_nz l _
theorem sts_nz {hh:ByteArray→Bool}{wd:Rf→Int}{nb:ByteArray→Bool}:∀(l:List Sta)(seen:List ByteArray),NZ (stsE hh wd nb l seen)
 |[],_=>NZ.none
 | x :: l,seen=>by rw[stsE];exact .ite (fun h=>.some h) fun _=>.ite (fun h=>.some h) fun _=>sts_nz l _
theorem acts_nz {hh:ByteArray→Bool}{wd:Rf→Int}:∀(l:List Actn)(seen:List ByteArray),NZ (actsE hh wd l seen)
 |[],_=>NZ.none
 | x :: l,seen=>by
  rw[actsE]
  exact .ite (fun h=>.some h) fun _=>.ite (fun _=>.some (by decide)) fun _=>.ite (fun h=>.some h) fun _=>.ite (fun h=>.some h) fun _=>acts_nz l _
theorem tbls_nz {W:Rf→Int}{hA:ByteArray→Bool}{cE:ByteArray→Cl→Int}:∀(l:List Tbl)(seen:List ByteArray),NZ (tblsE W hA cE l seen)
 |[],_=>NZ.none
 | x :: l,seen=>by
  rw[tblsE]
  exact .ite (fun h=>.some h) fun _=>.ite (fun h=>.some h) fun _=>.ite (fun h=>.some h) fun _=>.ite (fun _=>.some (by decide)) fun _=>.ite (fun h=>.some h) fun _=>tbls_nz l _
theorem check_nz (s:Sch):NZ (checkE s):=by
 unfold checkE
 refine .orE ?_ (.orE ?_ (.orE ?_ (.orE ?_ (.orE ?_ ?_))))
 ·exact .ite (fun _=>.some (by decide)) fun _=>hdrs_nz _ _
 ·exact .ite (fun _=>.some (by decide)) fun _=>.ite (fun h=>.some h) fun _=>.none
 ·refine .ite (fun _=>.some (by decide)) fun _=>?_
  cases h:stsE (hasT (hNames s)) (widG s) (nextB (lastG s.states s.states.length)) s.states [] with
  | some r=>
   have:=sts_nz (hh:=hasT (hNames s)) (wd:=widG s) (nb:=nextB (lastG s.states s.states.length)) s.states []
   rw[h] at this
   exact this
  | none=>exact first_nz _ _
 ·exact .ite (fun _=>.some (by decide)) fun _=>acts_nz _ _
 ·exact .ite (fun _=>.some (by decide)) fun _=>tbls_nz _ _
 ·refine .ite (fun h=>.some h) fun _=>?_
  cases h:wlkL (ctlStp (hasT (hNames s)) (hasT (tNames s)) (widG s)) s.control 1 [] with
  | ok r=>exact .none
  | error p=>
   refine fun r e=>?_
   cases e
   refine wlkL_err (P:=fun p=>(fOf p).1≠0) ?_ _ _ _ _ h
   intro a x d q hq
   unfold ctlStp at hq
   split at hq
   ·cases hq
   ·rename_i hne;cases hq;rw[fOf_pf];exact hne
end Go.Proofs.YtmbpclknhkbbkaaGreat
