/- The document's fields. -/
import Derived.Test.YtmbpclknhkbbkaaGreatHbz
import Derived.Test.YtmbpclknhkbbkaaGreatB13
set_option linter.unusedSimpArgs false
set_option linter.unusedVariables false
set_option maxHeartbeats 8000000
set_option maxRecDepth 100000
namespace Go.Proofs.YtmbpclknhkbbkaaGreat
open Go.RowKit
def fndV (r:Option (Int × ByteArray)):Value:=.tuple #[.int .i64 (fndC r),.string (fndT r)]
theorem Row.take {α:Type}{z:Nat}{Is:World→Array Value→α→Prop}{w:World}{ad:Option Addr}{n cap:Nat}{xs:List α}(h:Row z Is w (.slice ad n cap) xs){k:Nat}(hk:k≤n):Row z Is w (.slice ad k cap) (xs.take k):=by
 obtain⟨ad',cap',e,h1,h2⟩:=h
 cases e
 have hl:(xs.take k).length=k:=by rw[List.length_take];omega
 refine⟨ad,cap,by rw[hl],by rw[hl];omega,?_⟩
 rcases h2 with rfl|⟨b,o,rfl,h3⟩
 ·exact .inl (by simp)
 ·refine .inr ⟨b,o,rfl,fun i x hx=>h3 i x ?_⟩
  rw[List.getElem?_take] at hx
  by_cases hi:i<k
  ·rwa [if_pos hi] at hx
  ·rw[if_neg hi] at hx;cases hx
def snN {α:Type}(f:α→ByteArray)(xs:List α)(k:Nat):List ByteArray:=((xs.take k).map f).reverse
theorem sn_succ {α:Type}{f:α→ByteArray}{xs:List α}{k:Nat}{x:α}(hx:xs[k]?=some x):snN f xs (k+1)=f x :: snN f xs k:=by
 unfold snN
 rw[List.take_add_one,hx]
 simp
theorem hasT_iff (l:List ByteArray)(nm:ByteArray):hasT l nm=true↔nm ∈ l:=by
 unfold hasT
 rw[List.any_eq_true]
 constructor
 ·rintro⟨x,h1,h2⟩;rw[decide_eq_true_iff] at h2;rw[h2];exact h1
 ·intro h;exact⟨nm,h,by simp⟩
theorem sn_iff {α:Type}(f:α→ByteArray)(xs:List α)(k:Nat)(nm:ByteArray):hasT (snN f xs k) nm=true↔∃ j x,j<k∧xs[j]?=some x∧f x=nm:=by
 rw[hasT_iff]
 unfold snN
 rw[List.mem_reverse,List.mem_map]
 constructor
 ·rintro⟨x,h1,h2⟩
  obtain⟨j,hj⟩:=List.getElem?_of_mem h1
  rw[List.getElem?_take] at hj
  by_cases hi:j<k
  ·rw[if_pos hi] at hj;exact⟨j,x,hi,hj,h2⟩
  ·rw[if_neg hi] at hj;cases hj
 ·rintro⟨j,x,h1,h2,h3⟩
  refine⟨x,List.mem_of_getElem? (i:=j) ?_,h3⟩
  rw[List.getElem?_take,if_pos h1];exact h2
theorem idx_seen {α:Type}(f:α→ByteArray){xs:List α}{k:Nat}{x:α}(hx:xs[k]?=some x):decide (idxF (fun y=>decide (f y=f x)) xs 0<(k:Int))=hasT (snN f xs k) (f x):=by
 rw[Bool.eq_iff_iff,decide_eq_true_iff,sn_iff]
 rcases idx_cases (fun y=>decide (f y=f x)) xs 0 with⟨hi,hn⟩|⟨i,y,hlt,hy,hp,hi,hn⟩
 ·have:=hn x (List.mem_of_getElem? hx)
  simp at this
 ·rw[hi]
  constructor
  ·intro h;exact⟨i,y,by omega,hy,by simpa using hp⟩
  ·rintro⟨j,z,h1,h2,h3⟩
   by_cases hj:j<i
   ·have:=hn j z hj h2
    simp[h3] at this
   ·omega
theorem idx_take {α:Type}(f:α→ByteArray)(xs:List α)(k:Nat)(nm:ByteArray):decide (0≤idxF (fun y=>decide (f y=nm)) (xs.take k) 0)=hasT (snN f xs k) nm:=by
 rw[Bool.eq_iff_iff,decide_eq_true_iff,sn_iff]
 rcases idx_cases (fun y=>decide (f y=nm)) (xs.take k) 0 with⟨hi,hn⟩|⟨i,y,hlt,hy,hp,hi,hn⟩
 ·rw[hi]
  constructor
  ·intro h;omega
  ·rintro⟨j,z,h1,h2,h3⟩
   have:=hn z (List.mem_of_getElem? (i:=j) (by rw[List.getElem?_take,if_pos h1];exact h2))
   simp[h3] at this
 ·rw[hi]
  constructor
  ·intro _
   rw[List.getElem?_take] at hy
   by_cases hik:i<k
   ·rw[if_pos hik] at hy;exact⟨i,y,hik,hy,by simpa using hp⟩
   ·rw[if_neg hik] at hy;cases hy
  ·intro _;omega
theorem rfields_any (v:Value)(xs:List Fld)(w:World)(hr:FldRow w v xs):Calls Tryz.prog 157 #[v] w fun e w'=>e=.returned (.int .i64 (fldsE xs []))∧Below w.heap.size w w':=by
 obtain⟨ad,cap,rfl,hcap⟩:=hr.1.slice
 have hlen:xs.length*24≤140737488351232:=hr.2
 have HR:Hid (FldRow w (.slice ad xs.length cap) xs):=hr
 obtain⟨R,hR⟩:∃ R,R=fldsE xs []:=⟨_,rfl⟩
 have H0:Hid (fldsE (xs.drop 0) (snN (·.name) xs 0)=R):=by rw[hR];rfl
 rw[← hR]
 clear hr hR
 obtain⟨n,hn⟩:∃ n,n=xs.length:=⟨_,rfl⟩
 have HL:Hid (n=xs.length):=hn
 rw[← hn] at hlen hcap HR ⊢
 clear hn
 go_enter Tryz.func157,Tryz.ntmps157
 go_wp2_with fail
 go_loopw [3] (fun i wr=>∃ k:Nat,k≤n∧i=.int .i64 k∧Below w.heap.size w wr∧Aside (fldsE (xs.drop k) (snN (·.name) xs k)=R)) (fun i _=>n - (intOf i).toNat)
 case atStart=>exact⟨0,by omega,rfl,Below.refl _ _,H0.out⟩
 case round=>
  clear H0
  obtain⟨k,hk,rfl,hb,hd⟩:=hrel
  have HB:Hid (Bl w wr):=hb
  have HD:Hid (fldsE (xs.drop k) (snN (·.name) xs k)=R):=hd.out
  clear hd hb
  by_cases hlt:k<n
  ·obtain⟨x,hx⟩:=gE HL.out hlt
   obtain⟨b,o,cs,rfl,_,hc,rfl,hok⟩:=HR.out.1.at hx
   have HS:Hid (R=if newE x.name (snN (·.name) xs k)≠0 then newE x.name (snN (·.name) xs k) else if 0<posW x.width then fldsE (xs.drop (k+1)) (snN (·.name) xs (k+1)) else 73):=by
    show _=_
    rw[← HD.out,flds_step hx,sn_succ hx]
   have HW:Hid (newE x.name (snN (·.name) xs k)=if nameB x.name.data.toList=false then 70 else if decide (0≤fldAt (xs.take k) x.name)=true then 71 else 0):=by
    show _=_
    unfold newE fldAt
    rw[idx_take (fun y:Fld=>y.name)]
   have CN:Hid (∀ V,Cs 18 #[.string x.name] V fun e w'=>e=.returned (.bool (nameB x.name.data.toList))∧w'=V):=fun V=>risName_any x.name hok.1 V
   have CF : Hid (∀ z : Grown wr, Cs 208 #[.slice (some ⟨b, o, none⟩) k cap, .string x.name] (gw z) fun e w' => e = .returned (.int .i64 (fldAt (xs.take k) x.name)) ∧ w' = gw z) := fun z => rfield_any _ (xs.take k) x.name _ ⟨(HR.out.1.pres (pres_below (bst HB.out (gw_below z))) (fun _ _ _ h => h)).take hk, by
     have := HR.out.2
     unfold Len at this ⊢
     rw [List.length_take]; omega⟩
   have q0:wr.cell? ⟨b,o+k*2,none⟩=some (.string x.name):=by have:=pres_below HB.out _ _ (hc 0 (.string x.name) rfl);simpa using this
   have q1:wr.cell? ⟨b,o+k*2+1,none⟩=some (.int .i64 x.width):=by have:=pres_below HB.out _ _ (hc 1 (.int .i64 x.width) rfl);simpa using this
   have hdl:decide ((k:Int)<n)=true:=decide_eq_true (by omega)
   clear hc hx hok HD
   generalize fldAt (xs.take k) x.name=m at*
   obtain⟨nx,hnx⟩:∃ nx,nx=fldsE (xs.drop (k+1)) (snN (·.name) xs (k+1)):=⟨_,rfl⟩
   have HNX:Hid (nx=fldsE (xs.drop (k+1)) (snN (·.name) xs (k+1))):=hnx
   rw[← hnx] at HS
   clear hnx
   generalize newE x.name (snN (·.name) xs k)=ne at*
   generalize nameB x.name.data.toList=nb at*
   go_wp2_with fail
   refine(CN.out _).mono ?_
   rintro e wq ⟨rfl,hwq⟩
   rw[hwq]
   clear CN hwq wq
   cases nb with
   | false=>
    rw[if_pos rfl] at HW
    go_wp2
    go_ret
    exact⟨by rw[HS.out,HW.out];rfl,HB.out⟩
   | true=>
    rw[if_neg (by simp)] at HW
    have r0:∀ z:Grown wr,(gw z).cell? ⟨b,o+k*2,none⟩=some (.string x.name):=gw_cell q0
    have hin:(0:Int)≤(k:Int)∧(k:Int)<(n:Int):=by omega
    have hkc:k≤cap:=by omega
    go_upto_region 7 with fail
    refine region_grows (by kernel_rfl) (by kernel_rfl) ?_
    repeat (go_big_quiet_step ((go_at_call 208;exact calls_gw_same (CF.out _))))
    refine wpQuiet_nil ?_
    intro wq hwq
    obtain⟨zq,hwq⟩:=hwq
    subst hwq
    have HB2:Hid (Bl w (gw zq)):=bst HB.out (gw_below zq) (Nat.le_refl _)
    have q1':=gw_cell q1 zq
    clear CF q0 q1 r0 HB
    generalize gw zq=W2 at HB2 q1' ⊢
    by_cases hm:0≤m
    ·have hm':decide (0≤m)=true:=decide_eq_true hm
     rw[hm',if_pos rfl] at HW
     go_wp2
     go_ret
     exact⟨by rw[HS.out,HW.out];rfl,HB2.out⟩
    ·have hm':decide (0≤m)=false:=decide_eq_false hm
     rw[hm',if_neg (by simp)] at HW
     have HS2:Hid (R=if x.width<1∨128<x.width then 73 else nx):=by
      show _=_
      rw[HS.out,HW.out,if_neg (by simp)]
      unfold posW
      by_cases h:x.width<1∨128<x.width
      ·rw[if_pos h,if_pos h];rfl
      ·rw[if_neg h,if_neg h,if_pos (by omega)]
     clear HS HW
     by_cases h1:x.width<1
     ·have h1':decide (x.width<1)=true:=decide_eq_true h1
      go_wp2
      go_ret
      exact⟨by rw[HS2.out,if_pos (.inl h1)];rfl,HB2.out⟩
     ·have h1':decide (x.width<1)=false:=decide_eq_false h1
      by_cases h2:128<x.width
      ·have h2':decide (128<x.width)=true:=decide_eq_true h2
       go_wp2
       go_ret
       exact⟨by rw[HS2.out,if_pos (.inr h2)];rfl,HB2.out⟩
      ·have h2':decide (128<x.width)=false:=decide_eq_false h2
       have HS3:Hid (R=nx):=by show _=_;rw[HS2.out,if_neg (by omega)]
       go_wp2
       exact⟨⟨k+1,by omega,by go_num,HB2.out,by show _=_;rw[← HNX.out];exact HS3.out.symm⟩,by simp only[intOf];omega⟩
  ·have e:k=n:=by omega
   subst e
   have HF:Hid (R=0):=by show _=_;rw[← HD.out,List.drop_of_length_le (by rw[← HL.out];omega)];rfl
   have hdl:decide ((k:Int)<k)=false:=decide_eq_false (by omega)
   go_wp2
   go_ret
   exact⟨by rw[HF.out];rfl,HB.out⟩
theorem rmeta_any (v:Value)(s:Sch)(w:World)(hs:SchIs w v s):Calls Tryz.prog 72 #[v] w fun e w'=>e=.returned (fndV (metaE s.metas))∧Below w.heap.size w w':=by
 obtain⟨v0,v1,v2,v3,v4,v5,rfl,h0,h1,_⟩:=id hs
 obtain⟨ad,cap,rfl,_⟩:=h1.1.slice
 have H:Hid (Sb w w.heap.size v0 (.slice ad s.metas.length cap) v2 v3 v4 v5 s (w.alloc (.cells #[v0,.slice ad s.metas.length cap,v2,v3,v4,v5] 34))):=sb_new hs
 have HM:Hid (FldRow w (.slice ad s.metas.length cap) s.metas):=h1
 clear hs h0 h1
 have HE:Hid (metaE s.metas=if 32<s.metas.length then some (74,⟨#[109,101,116,97]⟩) else if fldsE s.metas []≠0 then some (fldsE s.metas [],⟨#[109,101,116,97]⟩) else none):=rfl
 generalize metaE s.metas=R at*
 go_enter Tryz.func72,Tryz.ntmps72
 go_upto_region 1 with fail
 generalize (w.alloc _)=W0 at H ⊢
 obtain⟨xb,hxb⟩:∃ xb,xb=w.heap.size:=⟨_,rfl⟩
 rw[← hxb] at H ⊢
 clear hxb
 obtain⟨_,x1,_⟩:=H.out.c
 by_cases h32:32<s.metas.length
 ·have h':decide ((32:Int)<s.metas.length)=true:=decide_eq_true (by omega)
  rw[if_pos h32] at HE
  go_wp2
  refine bodyPost_ret (v:=.tuple #[.int .i64 74,.string ⟨#[109,101,116,97]⟩]) (by simp[results,Tryz.results72,go_sem]) rfl ⟨by rw[HE.out];rfl,H.out.bel⟩
 have h':decide ((32:Int)<s.metas.length)=false:=decide_eq_false (by omega)
 rw[if_neg h32] at HE
 have C:Hid (Cs 157 #[.slice ad s.metas.length cap] W0 fun e w'=>e=.returned (.int .i64 (fldsE s.metas []))∧Bl W0 w'):=rfields_any _ s.metas W0 (HM.out.pres (pres_below H.out.bel))
 generalize fldsE s.metas []=E at*
 go_wp2_with fail
 refine C.out.mono ?_
 rintro e W1 ⟨rfl,hb⟩
 have H1:Hid (Sb w xb v0 (.slice ad s.metas.length cap) v2 v3 v4 v5 s W1):=H.out.below hb
 clear hb H C x1
 by_cases hE:E=0
 ·subst hE
  rw[if_neg (by simp)] at HE
  go_wp2
  refine bodyPost_ret (v:=.tuple #[.int .i64 0,.string ⟨#[]⟩]) (by simp[results,Tryz.results72,go_sem]) rfl ⟨by rw[HE.out];rfl,H1.out.bel⟩
 ·have hE':(E==0)=false:=by simpa using hE
  rw[if_pos hE] at HE
  go_wp2
  refine bodyPost_ret (v:=.tuple #[.int .i64 E,.string ⟨#[109,101,116,97]⟩]) (by simp[results,Tryz.results72,go_sem]) rfl ⟨by rw[HE.out];rfl,H1.out.bel⟩
theorem rheaders_any (v:Value)(s:Sch)(w:World)(hs:SchIs w v s):Calls Tryz.prog 71 #[v] w fun e w'=>e=.returned (fndV (headersE s.headers))∧Below w.heap.size w w':=by
 obtain⟨v0,v1,v2,v3,v4,v5,rfl,h0,_⟩:=id hs
 obtain⟨ad,cap,rfl,_⟩:=h0.1.slice
 have hlen:s.headers.length*40≤140737488351232:=h0.2
 have H:Hid (Sb w w.heap.size (.slice ad s.headers.length cap) v1 v2 v3 v4 v5 s (w.alloc (.cells #[.slice ad s.headers.length cap,v1,v2,v3,v4,v5] 34))):=sb_new hs
 have HR:Hid (HdrRow w (.slice ad s.headers.length cap) s.headers):=h0
 clear hs h0
 have HE:Hid (headersE s.headers=if 32<s.headers.length then some (74,⟨#[104,101,97,100,101,114]⟩) else hdrsE s.headers []):=rfl
 have CH:Hid (∀ V u nm,SchIs V u s→Cs 129 #[u,.string nm] V fun e w'=>e=.returned (.int .i64 (hdrAt s nm))∧Bl V w'):=fun V u nm h=>rhdrAt_any u s nm V h
 generalize headersE s.headers=R at*
 obtain⟨n,hn⟩:∃ n,n=s.headers.length:=⟨_,rfl⟩
 have HL:Hid (n=s.headers.length):=hn
 rw[← hn] at H HR HE hlen ⊢
 clear hn
 go_enter Tryz.func71,Tryz.ntmps71
 go_upto_region 1 with fail
 generalize (w.alloc _)=W0 at H ⊢
 obtain⟨xb,hxb⟩:∃ xb,xb=w.heap.size:=⟨_,rfl⟩
 rw[← hxb] at H ⊢
 clear hxb
 obtain⟨x0,_⟩:=H.out.c
 by_cases h32:32<n
 ·have h':decide ((32:Int)<n)=true:=decide_eq_true (by omega)
  rw[if_pos h32] at HE
  go_wp2
  refine bodyPost_ret (v:=.tuple #[.int .i64 74,.string ⟨#[104,101,97,100,101,114]⟩]) (by simp[results,Tryz.results71,go_sem]) rfl ⟨by rw[HE.out];rfl,H.out.bel⟩
 have h':decide ((32:Int)<n)=false:=decide_eq_false (by omega)
 have H0:Hid (hdrsE (s.headers.drop 0) (snN (·.name) s.headers 0)=R):=by show _=_;rw[HE.out,if_neg h32];rfl
 clear HE
 go_wp2_with fail
 clear x0
 go_loopw [4] (fun i wr=>∃ k:Nat,k≤n∧i=.int .i64 k∧Aside (Sb w xb (.slice ad n cap) v1 v2 v3 v4 v5 s wr)∧Aside (hdrsE (s.headers.drop k) (snN (·.name) s.headers k)=R)) (fun i _=>n - (intOf i).toNat)
 case atStart=>exact⟨0,by omega,rfl,H.out,H0.out⟩
 case round=>
  clear H0 H
  obtain⟨k,hk,rfl,hS,hd⟩:=hrel
  have H:Hid (Sb w xb (.slice ad n cap) v1 v2 v3 v4 v5 s wr):=hS.out
  have HD:Hid (hdrsE (s.headers.drop k) (snN (·.name) s.headers k)=R):=hd.out
  clear hS hd
  obtain⟨x0,_⟩:=H.out.c
  by_cases hlt:k<n
  ·obtain⟨y,hy⟩:=gE HL.out hlt
   obtain⟨b,o,cs,rfl,_,hc,hI⟩:=HR.out.1.at hy
   obtain⟨fv,rfl,hok,hfr⟩:=hI
   obtain⟨fa,fc,rfl,hfc⟩:=hfr.1.slice
   have HF:Hid (FldRow w (.slice fa y.fields.length fc) y.fields):=hfr
   have hnm:y.name.size≤140737488351232:=hok
   have hfl:y.fields.length*24≤140737488351232:=hfr.2
   have HS : Hid (R = if newE y.name (snN (·.name) s.headers k) ≠ 0 then some (newE y.name (snN (·.name) s.headers k), hWord ++ y.name)
       else if ¬ (1 ≤ y.fields.length ∧ y.fields.length ≤ 32) then some (74, hWord ++ y.name)
       else if fldsE y.fields [] ≠ 0 then some (fldsE y.fields [], hWord ++ y.name)
       else if (bitsW y.fields 0).tmod 8 ≠ 0 then some (73, hWord ++ y.name)
       else hdrsE (s.headers.drop (k + 1)) (snN (·.name) s.headers (k + 1))) := by
    show _=_
    rw[← HD.out,hdrs_step hy,sn_succ hy]
   have HW:Hid (newE y.name (snN (·.name) s.headers k)=if nameB y.name.data.toList=false then 70 else if decide (hdrAt s y.name<(k:Int))=true then 71 else 0):=by
    show _=_
    unfold newE hdrAt
    rw[idx_seen (fun y:Hdr=>y.name) hy]
   have CN:Hid (∀ V,Cs 18 #[.string y.name] V fun e w'=>e=.returned (.bool (nameB y.name.data.toList))∧w'=V):=fun V=>risName_any y.name hok V
   have CFd:Hid (∀ V,Bl w V→Cs 157 #[.slice fa y.fields.length fc] V fun e w'=>e=.returned (.int .i64 (fldsE y.fields []))∧Bl V w'):=fun V h=>rfields_any _ y.fields V (HF.out.pres (pres_below h))
   have q0:wr.cell? ⟨b,o+k*2,none⟩=some (.string y.name):=by have:=pres_below H.out.bel _ _ (hc 0 _ rfl);simpa using this
   have q1:wr.cell? ⟨b,o+k*2+1,none⟩=some (.slice fa y.fields.length fc):=by have:=pres_below H.out.bel _ _ (hc 1 _ rfl);simpa using this
   have hdl:decide ((k:Int)<n)=true:=decide_eq_true (by omega)
   have CA:Hid (∀ V,Sb w xb (.slice (some ⟨b,o,none⟩) n cap) v1 v2 v3 v4 v5 s V→Cs 129 #[.agg #[.slice (some ⟨b,o,none⟩) n cap,v1,v2,v3,v4,v5],.string y.name] V fun e w'=>e=.returned (.int .i64 (hdrAt s y.name))∧Bl V w'):=fun V h=>CH.out V _ y.name h.sch
   obtain⟨nx,hnx⟩:∃ nx,nx=hdrsE (s.headers.drop (k+1)) (snN (·.name) s.headers (k+1)):=⟨_,rfl⟩
   have HNX:Hid (nx=hdrsE (s.headers.drop (k+1)) (snN (·.name) s.headers (k+1))):=hnx
   rw[← hnx] at HS
   clear hnx hc hy hok hfr HD CH
   generalize hdrAt s y.name=m0 at*
   generalize newE y.name (snN (·.name) s.headers k)=ne at*
   generalize nameB y.name.data.toList=nb at*
   obtain⟨fe,hfe⟩:∃ fe,fe=fldsE y.fields []:=⟨_,rfl⟩
   rw[← hfe] at HS CFd
   clear hfe
   obtain⟨bw,hbw⟩:∃ bw,bw=bitsW y.fields 0:=⟨_,rfl⟩
   have HBW:Hid (bitsW (y.fields.drop 0) 0=bw):=hbw.symm
   rw[← hbw] at HS
   clear hbw
   obtain⟨m,hm⟩:∃ m,m=y.fields.length:=⟨_,rfl⟩
   have HM:Hid (m=y.fields.length):=hm
   rw[← hm] at HS HF hfl q1 CFd hfc
   clear hm
   go_upto_region 7 with fail
   have HA:Hid (Sb w xb (.slice (some ⟨b,o,none⟩) n cap) v1 v2 v3 v4 v5 s (wr.alloc (.cells #[.string y.name,.slice fa m fc] 60))):=H.out.more _
   have HY:Hid (Blk (wr.alloc (.cells #[.string y.name,.slice fa m fc] 60)) wr.heap.size #[.string y.name,.slice fa m fc] 60):=Blk.new _ _ _
   clear q0 q1 x0 H
   generalize (wr.alloc _)=V0 at HA HY ⊢
   obtain⟨yb,hyb⟩:∃ yb,yb=wr.heap.size:=⟨_,rfl⟩
   rw[← hyb] at HY ⊢
   clear hyb
   have y0:=HY.out.cell 0 (v:=.string y.name) rfl
   go_wp2_with fail
   refine(CN.out _).mono ?_
   rintro e wq ⟨rfl,hwq⟩
   rw[hwq]
   clear CN hwq wq
   cases nb with
   | false=>
    rw[if_pos rfl] at HW
    go_wp2
    refine bodyPost_ret (v:=.tuple #[.int .i64 70,.string (⟨#[104,101,97,100,101,114,32]⟩++y.name)]) (by simp[results,Tryz.results71,go_sem]) rfl ⟨by rw[HS.out,HW.out];rfl,HA.out.bel⟩
   | true=>
    rw[if_neg (by simp)] at HW
    obtain⟨x0,x1,x2,x3,x4,x5⟩:=HA.out.c
    go_wp2_with fail
    refine(CA.out _ HA.out).mono ?_
    rintro e V1 ⟨rfl,hb⟩
    have HA1:Hid (Sb w xb (.slice (some ⟨b,o,none⟩) n cap) v1 v2 v3 v4 v5 s V1):=HA.out.below hb
    have HY1:=hblk HY hb
    clear hb HA HY x0 x1 x2 x3 x4 x5 y0 CA
    by_cases hm:m0<(k:Int)
    ·have hm':decide (m0<(k:Int))=true:=decide_eq_true hm
     rw[hm',if_pos rfl] at HW
     go_wp2
     refine bodyPost_ret (v:=.tuple #[.int .i64 71,.string (⟨#[104,101,97,100,101,114,32]⟩++y.name)]) (by simp[results,Tryz.results71,go_sem]) rfl ⟨by rw[HS.out,HW.out];rfl,HA1.out.bel⟩
    have hm':decide (m0<(k:Int))=false:=decide_eq_false hm
    rw[hm',if_neg (by simp)] at HW
    have y1:=HY1.out.cell 1 (v:=.slice fa m fc) rfl
    by_cases hf1:1≤m
    case neg=>
     have h1':decide ((m:Int)<1)=true:=decide_eq_true (by omega)
     have HS2:Hid (R=some (74,hWord++y.name)):=by show _=_;rw[HS.out,HW.out,if_neg (by simp),if_pos (by omega)]
     go_wp2
     refine bodyPost_ret (v:=.tuple #[.int .i64 74,.string (⟨#[104,101,97,100,101,114,32]⟩++y.name)]) (by simp[results,Tryz.results71,go_sem]) rfl ⟨by rw[HS2.out];rfl,HA1.out.bel⟩
    have h1':decide ((m:Int)<1)=false:=decide_eq_false (by omega)
    by_cases hf2:m≤32
    case neg=>
     have h2':decide ((32:Int)<m)=true:=decide_eq_true (by omega)
     have HS2:Hid (R=some (74,hWord++y.name)):=by show _=_;rw[HS.out,HW.out,if_neg (by simp),if_pos (by omega)]
     go_wp2
     refine bodyPost_ret (v:=.tuple #[.int .i64 74,.string (⟨#[104,101,97,100,101,114,32]⟩++y.name)]) (by simp[results,Tryz.results71,go_sem]) rfl ⟨by rw[HS2.out];rfl,HA1.out.bel⟩
    have h2':decide ((32:Int)<m)=false:=decide_eq_false (by omega)
    have HS2:Hid (R=if fe≠0 then some (fe,hWord++y.name) else if bw.tmod 8≠0 then some (73,hWord++y.name) else nx):=by show _=_;rw[HS.out,HW.out,if_neg (by simp),if_neg (by omega)]
    clear HS HW
    go_wp2_with fail
    refine(CFd.out _ HA1.out.bel).mono ?_
    rintro e V2 ⟨rfl,hb⟩
    have HA2:Hid (Sb w xb (.slice (some ⟨b,o,none⟩) n cap) v1 v2 v3 v4 v5 s V2):=HA1.out.below hb
    have HY2:=hblk HY1 hb
    clear hb HA1 HY1 y1 CFd
    by_cases hE:fe=0
    case neg=>
     have hE':(fe==0)=false:=by simpa using hE
     rw[if_pos hE] at HS2
     go_wp2
     refine bodyPost_ret (v:=.tuple #[.int .i64 fe,.string (⟨#[104,101,97,100,101,114,32]⟩++y.name)]) (by simp[results,Tryz.results71,go_sem]) rfl ⟨by rw[HS2.out];rfl,HA2.out.bel⟩
    subst hE
    rw[if_neg (by simp)] at HS2
    go_wp2_with fail
    go_loopw [9,10] (fun a i wq=>∃(j:Nat) (c:Int),j≤m∧a=.int .i64 c∧i=.int .i64 j∧wq=V2∧Aside (bitsW (y.fields.drop j) c=bw)) (fun _ i _=>m - (intOf i).toNat)
    case atStart=>exact⟨0,0,by omega,rfl,rfl,rfl,HBW.out⟩
    case round=>
     clear HBW
     obtain⟨j,c,hj,rfl,rfl,hwq,hd⟩:=hrel
     obtain rfl:=Eq.symm hwq
     have HBW:Hid (bitsW (y.fields.drop j) c=bw):=hd.out
     clear hd
     have y1:=HY2.out.cell 1 (v:=.slice fa m fc) rfl
     by_cases hjl:j<m
     ·obtain⟨f,hf⟩:=gE HM.out hjl
      obtain⟨b2,o2,cs2,rfl,_,hc2,rfl,_⟩:=HF.out.1.at hf
      have r1:V2.cell? ⟨b2,o2+j*2+1,none⟩=some (.int .i64 f.width):=by have:=pres_below HA2.out.bel _ _ (hc2 1 (.int .i64 f.width) rfl);simpa using this
      have hdj:decide ((j:Int)<m)=true:=decide_eq_true (by omega)
      have HST:Hid (bitsW (y.fields.drop (j+1)) (wrap64 (c+f.width))=bw):=by show _=_;rw[← HBW.out,bits_step hf]
      clear hc2 hf HBW
      go_wp2
      exact⟨⟨j+1,_,by omega,rfl,by go_num,trivial,HST.out⟩,by simp only[intOf];omega⟩
     ·have e:j=m:=by omega
      subst e
      have HC:Hid (c=bw):=by
       show _=_
       have:=HBW.out
       rw[List.drop_of_length_le (by rw[← HM.out];omega)] at this
       exact this
      have hdj:decide ((j:Int)<j)=false:=decide_eq_false (by omega)
      rw[← HC.out] at HS2
      clear HBW
      by_cases ht:c.tmod 8=0
      ·have HS3:Hid (R=nx):=by show _=_;rw[HS2.out,if_neg (by simpa using ht)]
       go_wp2
       exact⟨⟨k+1,by omega,by go_num,HA2.out,by show _=_;rw[← HNX.out];exact HS3.out.symm⟩,by simp only[intOf];omega⟩
      ·have ht':(c.tmod 8==0)=false:=by simpa using ht
       rw[if_pos ht] at HS2
       go_wp2
       refine bodyPost_ret (v:=.tuple #[.int .i64 73,.string (⟨#[104,101,97,100,101,114,32]⟩++y.name)]) (by simp[results,Tryz.results71,go_sem]) rfl ⟨by rw[HS2.out];rfl,HA2.out.bel⟩
  ·have e:k=n:=by omega
   subst e
   have HF:Hid (R=none):=by show _=_;rw[← HD.out,List.drop_of_length_le (by rw[← HL.out];omega)];rfl
   have hdl:decide ((k:Int)<k)=false:=decide_eq_false (by omega)
   go_wp2
   refine bodyPost_ret (v:=.tuple #[.int .i64 0,.string ⟨#[]⟩]) (by simp[results,Tryz.results71,go_sem]) rfl ⟨by rw[HF.out];rfl,H.out.bel⟩
end Go.Proofs.YtmbpclknhkbbkaaGreat
