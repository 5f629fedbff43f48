/- The document's Fits. -/
import Derived.Test.YtmbpclknhkbbkaaGreatVbz
import Derived.Test.YtmbpclknhkbbkaaGreatB00
import Derived.Test.YtmbpclknhkbbkaaGreatB32
set_option linter.unusedSimpArgs false
set_option linter.unusedVariables false
set_option maxHeartbeats 2000000
namespace Go.Proofs.YtmbpclknhkbbkaaGreat
open Go.RowKit
theorem isW_nat (x:Nat)(h1:1≤x)(h2:x≤128):isW (x:Int)=true:=by unfold isW;simp;omega
theorem fits_nat (n x:Nat)(h1:1≤x)(h2:x≤128):fitsN n (x:Int)=decide (n<2 ^ x):=by unfold fitsN;rw[isW_nat x h1 h2,Bool.true_and,Int.toNat_natCast]
theorem nat_div_zero (a x:Nat):(((a:Nat):Int) / 2 ^ x==0)=decide (a<2 ^ x):=by
 rw[Bool.eq_iff_iff]
 simp only[beq_iff_eq,decide_eq_true_eq]
 have e:((a:Int) / 2 ^ x)=((a / 2 ^ x:Nat):Int):=by simp
 rw[e]
 have hp:=Nat.two_pow_pos x
 constructor
 ·intro h
  have h':a / 2 ^ x=0:=by omega
  exact(Nat.div_eq_zero_iff.1 h').resolve_left (by omega)
 ·intro h
  rw[Nat.div_eq_of_lt h];rfl
theorem fit_lo (n x:Nat)(hx:x<64)(h:hiOf n=0):(loOf n / 2 ^ x==0)=decide (n<2 ^ x):=by
 unfold loOf;unfold hiOf at h
 rw[nat_div_zero]
 have:n % 18446744073709551616=n:=by omega
 rw[this]
theorem fit_hi (n x:Nat)(hx:x≤64)(h:¬ hiOf n=0):decide (n<2 ^ x)=false:=by
 rw[decide_eq_false_iff_not]
 intro hn
 apply h
 unfold hiOf
 have:(2:Nat) ^ x≤2 ^ 64:=Nat.pow_le_pow_right (by omega) hx
 rw[two64] at this
 rw[Nat.div_eq_of_lt (by omega)];rfl
theorem fit_64 (n:Nat):(hiOf n==0)=decide (n<2 ^ 64):=by
 rw[two64,Bool.eq_iff_iff]
 simp only[beq_iff_eq,decide_eq_true_eq]
 unfold hiOf
 omega
theorem fit_more (n y:Nat):(hiOf n / 2 ^ y==0)=decide (n<2 ^ (y+64)):=by
 unfold hiOf
 rw[nat_div_zero,Bool.eq_iff_iff]
 simp only[decide_eq_true_eq]
 rw[Nat.pow_add,two64,Nat.div_lt_iff_lt_mul (by decide)]
theorem rfits_any (n:Nat)(hn:Is128 n)(x:Int)(w:World):Calls Tryz.prog 169 #[.agg #[.int .u64 (hiOf n),.int .u64 (loOf n)],.int .i64 x] w fun e w'=>e=.returned (.bool (fitsN n x))∧Below w.heap.size w w':=by
 have HB:Hid (Bl w (w.alloc (.cells #[.int .u64 (hiOf n),.int .u64 (loOf n)] 121))):=(Below.refl _ _).alloc (Nat.le_refl _) _
 by_cases g0:x<1
 ·have E:Hid (fitsN n x=false):=by show _=_;unfold fitsN isW;rw[decide_eq_false (by omega:¬ 1≤x)];rfl
  generalize fitsN n x=R at*
  go_enter Tryz.func169,Tryz.ntmps169
  go_wp2
  go_ret
  exact⟨by rw[E.out];rfl,HB.out⟩
 have d0:decide (x<1)=false:=by simpa using g0
 by_cases g1:128<x
 ·have E:Hid (fitsN n x=false):=by show _=_;unfold fitsN isW;rw[decide_eq_false (by omega:¬ x≤128)];simp
  generalize fitsN n x=R at*
  go_enter Tryz.func169,Tryz.ntmps169
  go_wp2
  go_ret
  exact⟨by rw[E.out];rfl,HB.out⟩
 have d1:decide (128<x)=false:=by simpa using g1
 obtain⟨k,rfl⟩:∃ k:Nat,x=(k:Int):=⟨x.toNat,by omega⟩
 have E:=fits_nat n k (by omega) (by omega)
 by_cases g2:k<64
 ·have d2:(k:Int)<64:=by omega
  by_cases h0:hiOf n=0
  ·have E2:Hid (fitsN n (k:Int)=(loOf n / 2 ^ k==0)):=by show _=_;rw[E,fit_lo n k g2 h0]
   generalize fitsN n (k:Int)=R at*
   rw[h0] at HB ⊢
   clear E h0 g0 g1 hn
   generalize loOf n=lo at*
   go_enter Tryz.func169,Tryz.ntmps169
   go_wp2
   go_ret
   exact⟨by rw[E2.out];rfl,HB.out⟩
  ·have E2:Hid (fitsN n (k:Int)=false):=by show _=_;rw[E,fit_hi n k (by omega) h0]
   have h0':(hiOf n==0)=false:=by simpa using h0
   generalize fitsN n (k:Int)=R at*
   clear E h0 g0 g1 hn
   generalize loOf n=lo at*
   generalize hiOf n=hi at*
   go_enter Tryz.func169,Tryz.ntmps169
   go_wp2
   go_ret
   exact⟨by rw[E2.out];rfl,HB.out⟩
 have d2:decide ((k:Int)<64)=false:=by simp;omega
 by_cases g3:k=64
 ·subst g3
  have E2:Hid (fitsN n ((64:Nat):Int)=(hiOf n==0)):=by show _=_;rw[E,fit_64]
  have e64:((64:Nat):Int)=64:=rfl
  rw[e64] at E2 ⊢
  generalize fitsN n 64=R at*
  clear E g0 g1 hn d0 d1 d2 e64
  generalize loOf n=lo at*
  generalize hiOf n=hi at*
  go_enter Tryz.func169,Tryz.ntmps169
  go_wp2
  go_ret
  exact⟨by rw[E2.out];rfl,HB.out⟩
 have d3:((k:Int)==64)=false:=by simp;omega
 by_cases g4:k<128
 ·obtain⟨y,rfl⟩:∃ y,k=y+64:=⟨k - 64,by omega⟩
  have d4:((y+64:Nat):Int)<128:=by omega
  have E2:Hid (fitsN n ((y+64:Nat):Int)=(hiOf n / 2 ^ y==0)):=by show _=_;rw[E,fit_more]
  have hy:y<64:=by omega
  clear E g0 g1 hn g2 g3 g4
  generalize fitsN n ((y+64:Nat):Int)=R at*
  generalize loOf n=lo at*
  generalize hiOf n=hi at*
  generalize hk:((y+64:Nat):Int)=kk at*
  have hks:kk - 64=(y:Int):=by omega
  clear hk
  go_enter Tryz.func169,Tryz.ntmps169
  go_wp2
  go_ret
  exact⟨by rw[E2.out];rfl,HB.out⟩
 ·have hk:k=128:=by omega
  subst hk
  have E2:Hid (fitsN n ((128:Nat):Int)=true):=by show _=_;rw[E,two128];exact decide_eq_true hn
  have e128:((128:Nat):Int)=128:=rfl
  rw[e128] at E2 ⊢
  generalize fitsN n 128=R at*
  clear E g0 g1 hn d0 d1 d2 d3 e128
  generalize loOf n=lo at*
  generalize hiOf n=hi at*
  go_enter Tryz.func169,Tryz.ntmps169
  go_wp2
  go_ret
  exact⟨by rw[E2.out];rfl,HB.out⟩
theorem fldAt_cases (l:List Fld)(nm:ByteArray):(fldAt l nm = -1∧l.find? (fun f=>decide (f.name=nm))=none)∨∃(i:Nat)(f:Fld),l[i]?=some f∧fldAt l nm=(i:Int)∧l.find? (fun f=>decide (f.name=nm))=some f:=by
 rcases idx_cases (fun h:Fld=>decide (h.name=nm)) l 0 with⟨hi,hn⟩|⟨i,x,hlt,hx,hp,hi,hn⟩
 ·exact .inl ⟨hi,find_none hn⟩
 ·exact .inr ⟨i,x,hx,by unfold fldAt;rw[hi,Nat.zero_add],find_at hx hp hn⟩
inductive Plc (s:Sch) (r:Rf):Int→Int→Bool→Option Int→Prop
 | plNo (h:(fldsOf s r.head).find? (fun f=>decide (f.name=r.name))=none):Plc s r 0 0 false none
 | plMeta (k:Nat) (f:Fld) (h:s.metas[k]?=some f) (hf:(fldsOf s r.head).find? (fun f=>decide (f.name=r.name))=some f):Plc s r (-1) k true (some f.width)
 | plHead (i:Nat) (x:Hdr) (k:Nat) (f:Fld) (hx:s.headers[i]?=some x) (h:x.fields[k]?=some f) (hf:(fldsOf s r.head).find? (fun f=>decide (f.name=r.name))=some f):Plc s r i k true (some f.width)
theorem place_any (v:Value)(s:Sch)(r:Rf)(w:World)(hs:SchIs w v s):Calls Tryz.prog 210 #[v,.agg #[.string r.head,.string r.name]] w fun e w'=>∃ a b ok o,e=.returned (.tuple #[.int .i64 a,.int .i64 b,.bool ok])∧Plc s r a b ok o∧Below w.heap.size w w':=by
 obtain⟨a0,c0,a1,c1,a2,c2,a3,c3,a4,c4,a5,c5,rfl,h0,h1,h2,h3,h4,h5⟩:=hs.parts
 have HS:Hid (SchIs w (.agg (bxA s a0 c0 a1 c1 a2 c2 a3 c3 a4 c4 a5 c5)) s):=hs
 have HM:Hid (FldRow w (.slice a1 s.metas.length c1) s.metas):=h1
 have HH:Hid (HdrRow w (.slice a0 s.headers.length c0) s.headers):=h0
 have HB0:Hid (Bl w ((w.alloc (.cells (bxA s a0 c0 a1 c1 a2 c2 a3 c3 a4 c4 a5 c5) 34)).alloc (.cells #[.string r.head,.string r.name] 42))):=((Below.refl _ _).alloc (Nat.le_refl _) _).alloc (by simp) _
 have HX0:Hid (Blk ((w.alloc (.cells (bxA s a0 c0 a1 c1 a2 c2 a3 c3 a4 c4 a5 c5) 34)).alloc (.cells #[.string r.head,.string r.name] 42)) w.heap.size (bxA s a0 c0 a1 c1 a2 c2 a3 c3 a4 c4 a5 c5) 34):=(Blk.new _ _ _).below ((Below.refl _ _).alloc (Nat.le_refl _) _)
 have HY0:Hid (Blk ((w.alloc (.cells (bxA s a0 c0 a1 c1 a2 c2 a3 c3 a4 c4 a5 c5) 34)).alloc (.cells #[.string r.head,.string r.name] 42)) (w.heap.size+1) #[.string r.head,.string r.name] 42):=by
  have:=Blk.new (w.alloc (.cells (bxA s a0 c0 a1 c1 a2 c2 a3 c3 a4 c4 a5 c5) 34)) #[.string r.head,.string r.name] 42
  show Blk _ _ _ _
  simpa using this
 have e0:r.head.toList.isEmpty=decide (r.head=⟨#[]⟩):=emp_eq _
 have e1:(r.head.toList==[109,101,116,97])=decide (r.head=tMeta):=lit_eq r.head [109,101,116,97]
 have HFO:Hid (fldsOf s r.head=if r.head=⟨#[]⟩ then [] else if r.head=⟨#[109,101,116,97]⟩ then s.metas else match s.headers[(hdrAt s r.head).toNat]? with|some h=>if hdrAt s r.head<0 then [] else h.fields|none=>[]):=rfl
 have HNO:Hid ((fldsOf s r.head).find? (fun f=>decide (f.name=r.name))=none→Plc s r 0 0 false none):=fun h=>.plNo h
 clear hs h0 h1 h2 h3 h4 h5
 go_enter Tryz.func210,Tryz.ntmps210
 go_upto_region 1 with fail
 generalize ((w.alloc _).alloc _)=W0 at HB0 HX0 HY0 ⊢
 obtain⟨xb,hxb⟩:∃ xb,xb=w.heap.size:=⟨_,rfl⟩
 obtain⟨yb,hyb⟩:∃ yb,yb=w.heap.size+1:=⟨_,rfl⟩
 rw[← hxb] at HX0
 rw[← hyb] at HY0 ⊢
 rw[← hxb]
 clear hxb hyb
 have y0:=HY0.out.cell 0 (v:=.string r.head) rfl
 have y1:=HY0.out.cell 1 (v:=.string r.name) rfl
 obtain⟨x0,x1,x2,x3,x4,x5⟩:=HX0.out.c6
 by_cases g0:r.head=⟨#[]⟩
 ·have HP:Hid (Plc s r 0 0 false none):=HNO.out (by rw[HFO.out,if_pos g0];rfl)
  have e0':r.head.toList.isEmpty=true:=by rw[e0];exact decide_eq_true g0
  clear e0 e1 HFO HNO
  go_wp2
  refine bodyPost_ret (v:=.tuple #[.int .i64 0,.int .i64 0,.bool false]) (by simp[results,Tryz.results210,go_sem]) rfl ⟨_,_,_,_,rfl,HP.out,HB0.out⟩
 have e0':r.head.toList.isEmpty=false:=by rw[e0];exact decide_eq_false g0
 by_cases g1:r.head=tMeta
 ·have e1':(r.head.toList==[109,101,116,97])=true:=by rw[e1];exact decide_eq_true g1
  have HF:Hid (fldsOf s r.head=s.metas):=by show _=_;rw[HFO.out,if_neg g0,if_pos g1]
  have CF:Hid (∀ W,Bl w W→Cs 208 #[.slice a1 s.metas.length c1,.string r.name] W fun e w'=>e=.returned (.int .i64 (fldAt s.metas r.name))∧w'=W):=fun W hb=>rfield_any _ s.metas r.name W (HM.out.pres (pres_below hb))
  have HMK:Hid (∀(k:Nat) (f:Fld),s.metas[k]?=some f→s.metas.find? (fun f=>decide (f.name=r.name))=some f→Plc s r (-1) k true (some f.width)):=fun k f h1 h2=>.plMeta k f h1 (by rw[HF.out];exact h2)
  rw[HF.out] at HNO
  clear e0 e1 HFO HM HH g1
  rcases fldAt_cases s.metas r.name with⟨hi,hn⟩|⟨k,f,hf,hi,hn⟩
  ·have HP:Hid (Plc s r 0 0 false none):=HNO.out hn
   rw[hi] at CF
   clear HNO HF hi hn HMK
   go_wp2_with (go_at_call 208;refine(CF.out _ HB0.out).mono ?_;rintro e w' ⟨rfl,hw'⟩;obtain rfl:=Eq.symm hw')
   refine bodyPost_ret (v:=.tuple #[.int .i64 0,.int .i64 0,.bool false]) (by simp[results,Tryz.results210,go_sem]) rfl ⟨_,_,_,_,rfl,HP.out,HB0.out⟩
  ·have HP:Hid (Plc s r (-1) k true (some f.width)):=HMK.out k f hf hn
   rw[hi] at CF
   have hkn:¬((k:Int)<0):=by omega
   clear HNO HF hi hn HMK hf
   go_wp2_with (go_at_call 208;refine(CF.out _ HB0.out).mono ?_;rintro e w' ⟨rfl,hw'⟩;obtain rfl:=Eq.symm hw')
   refine bodyPost_ret (v:=.tuple #[.int .i64 (-1),.int .i64 k,.bool true]) (by simp[results,Tryz.results210,go_sem]) rfl ⟨_,_,_,_,rfl,HP.out,HB0.out⟩
 have e1':(r.head.toList==[109,101,116,97])=false:=by rw[e1];exact decide_eq_false g1
 have CH:Hid (∀ W,Bl w W→Cs 129 #[.agg (bxA s a0 c0 a1 c1 a2 c2 a3 c3 a4 c4 a5 c5),.string r.head] W fun e w'=>e=.returned (.int .i64 (hdrAt s r.head))∧Bl W w'):=fun W hb=>rhdrAt_any _ s r.head W (HS.out.pres (pres_below hb))
 rcases hdrAt_cases s r.head with hh|⟨i,x,hx,_,hh⟩
 ·have HP : Hid (Plc s r 0 0 false none) := HNO.out (by
    rw [HFO.out, if_neg g0, if_neg g1, hh]
    cases s.headers[(-1 : Int).toNat]? <;> rfl)
  rw[hh] at CH
  clear e0 e1 HFO HNO hh
  go_wp2_with fail
  refine(CH.out _ HB0.out).mono ?_
  rintro e W1 ⟨rfl,hb⟩
  have HB1:Hid (Bl w W1):=bst HB0.out hb
  clear hb
  go_wp2
  refine bodyPost_ret (v:=.tuple #[.int .i64 0,.int .i64 0,.bool false]) (by simp[results,Tryz.results210,go_sem]) rfl ⟨_,_,_,_,rfl,HP.out,HB1.out⟩
 have HF:Hid (fldsOf s r.head=x.fields):=by
  show _=_
  rw[HFO.out,if_neg g0,if_neg g1,hh,Int.toNat_natCast,hx]
  simp only
  rw[if_neg (by omega)]
 rw[hh] at CH
 have HMK:Hid (∀(k:Nat) (f:Fld),x.fields[k]?=some f→x.fields.find? (fun f=>decide (f.name=r.name))=some f→Plc s r i k true (some f.width)):=fun k f h1 h2=>.plHead i x k f hx h1 (by rw[HF.out];exact h2)
 rw[HF.out] at HNO
 have hil:i<s.headers.length:=(List.getElem?_eq_some_iff.1 hx).1
 obtain⟨hb,ho,cs,rfl,_,hk,u,rfl,_,hfr⟩:=HH.out.1.at hx
 obtain⟨fa,fc,rfl,_⟩:=hfr.1.slice
 have HFR:Hid (FldRow w (.slice fa x.fields.length fc) x.fields):=hfr
 have hk1:=hk 1 (.slice fa x.fields.length fc) rfl
 clear e0 e1 HFO hh hfr hx hk HM HS HF
 go_wp2_with fail
 refine(CH.out _ HB0.out).mono ?_
 rintro e W1 ⟨rfl,hb1⟩
 have HB1:Hid (Bl w W1):=bst HB0.out hb1
 have HX1:=hblk HX0 hb1
 have HY1:=hblk HY0 hb1
 have k1:W1.cell? ⟨hb,ho+i*2+1,none⟩=some (.slice fa x.fields.length fc):=by have:=pres_below HB1.out _ _ hk1;simpa using this
 have CF:Hid (∀ W,Bl w W→Cs 208 #[.slice fa x.fields.length fc,.string r.name] W fun e w'=>e=.returned (.int .i64 (fldAt x.fields r.name))∧w'=W):=fun W hb=>rfield_any _ x.fields r.name W (HFR.out.pres (pres_below hb))
 clear hb1 HB0 HX0 HY0 CH hk1 HFR HH y0 y1 x0 x1 x2 x3 x4 x5
 have y1:=HY1.out.cell 1 (v:=.string r.name) rfl
 have x0:=HX1.out.cell 0 (v:=.slice (some ⟨hb,ho,none⟩) s.headers.length c0) rfl
 have hii:(0:Int)≤(i:Int)∧(i:Int)<(s.headers.length:Int):=by omega
 have hin:¬((i:Int)<0):=by omega
 have CQ:Hid (∀ d,Cs 208 #[.slice fa x.fields.length fc,.string r.name] (W1.drewN d) fun e w'=>e=.returned (.int .i64 (fldAt x.fields r.name))∧w'=W1.drewN d):=fun d=>CF.out _ (below_drewN HB1.out d)
 clear CF
 rcases fldAt_cases x.fields r.name with⟨hi,hn⟩|⟨k,f,hf,hi,hn⟩
 ·have HP:Hid (Plc s r 0 0 false none):=HNO.out hn
  rw[hi] at CQ
  clear HNO hi hn HMK
  go_upto_region 11 with fail
  go_quiet ((go_at_call 208;refine Calls.quiet_of_same (CQ.out _)))
  go_wp2
  refine bodyPost_ret (v:=.tuple #[.int .i64 0,.int .i64 0,.bool false]) (by simp[results,Tryz.results210,go_sem]) rfl ⟨_,_,_,_,rfl,HP.out,below_drewN HB1.out _⟩
 ·have HP:Hid (Plc s r i k true (some f.width)):=HMK.out k f hf hn
  rw[hi] at CQ
  have hkn:¬((k:Int)<0):=by omega
  clear HNO hi hn HMK hf
  go_upto_region 11 with fail
  go_quiet ((go_at_call 208;refine Calls.quiet_of_same (CQ.out _)))
  go_wp2
  refine bodyPost_ret (v:=.tuple #[.int .i64 i,.int .i64 k,.bool true]) (by simp[results,Tryz.results210,go_sem]) rfl ⟨_,_,_,_,rfl,HP.out,below_drewN HB1.out _⟩
def widO (s:Sch)(r:Rf):Option Int:=((fldsOf s r.head).find? (fun f=>decide (f.name=r.name))).map (·.width)
theorem plc_wid {s:Sch}{r:Rf}{a b:Int}{ok:Bool}{o:Option Int}(h:Plc s r a b ok o):widO s r=o:=by
 cases h<;>(rename_i hf;unfold widO;rw[hf];rfl)
theorem wid_pos (s:Sch)(r:Rf):widW s r=posW ((widO s r).getD 0):=by
 unfold widW widO
 cases (fldsOf s r.head).find? (fun f=>decide (f.name=r.name))<;>rfl
theorem rwidth_any (v:Value)(s:Sch)(r:Rf)(w:World)(hs:SchIs w v s):Calls Tryz.prog 165 #[v,.agg #[.string r.head,.string r.name]] w fun e w'=>e=.returned (.tuple #[.int .i64 ((widO s r).getD 0),.bool (widO s r).isSome])∧Below w.heap.size w w':=by
 obtain⟨a0,c0,a1,c1,a2,c2,a3,c3,a4,c4,a5,c5,rfl,h0,h1,h2,h3,h4,h5⟩:=hs.parts
 have HM:Hid (FldRow w (.slice a1 s.metas.length c1) s.metas):=h1
 have HH:Hid (HdrRow w (.slice a0 s.headers.length c0) s.headers):=h0
 have hml:s.metas.length*24≤140737488351232:=h1.2
 have hhl:s.headers.length*40≤140737488351232:=h0.2
 have HB0:Hid (Bl w ((w.alloc (.cells (bxA s a0 c0 a1 c1 a2 c2 a3 c3 a4 c4 a5 c5) 34)).alloc (.cells #[.string r.head,.string r.name] 42))):=((Below.refl _ _).alloc (Nat.le_refl _) _).alloc (by simp) _
 have HX0:Hid (Blk ((w.alloc (.cells (bxA s a0 c0 a1 c1 a2 c2 a3 c3 a4 c4 a5 c5) 34)).alloc (.cells #[.string r.head,.string r.name] 42)) w.heap.size (bxA s a0 c0 a1 c1 a2 c2 a3 c3 a4 c4 a5 c5) 34):=(Blk.new _ _ _).below ((Below.refl _ _).alloc (Nat.le_refl _) _)
 have HY0:Hid (Blk ((w.alloc (.cells (bxA s a0 c0 a1 c1 a2 c2 a3 c3 a4 c4 a5 c5) 34)).alloc (.cells #[.string r.head,.string r.name] 42)) (w.heap.size+1) #[.string r.head,.string r.name] 42):=by
  have:=Blk.new (w.alloc (.cells (bxA s a0 c0 a1 c1 a2 c2 a3 c3 a4 c4 a5 c5) 34)) #[.string r.head,.string r.name] 42
  show Blk _ _ _ _
  simpa using this
 have CP:Hid (∀ W,Bl w W→Cs 210 #[.agg (bxA s a0 c0 a1 c1 a2 c2 a3 c3 a4 c4 a5 c5),.agg #[.string r.head,.string r.name]] W fun e w'=>∃ a b ok o,e=.returned (.tuple #[.int .i64 a,.int .i64 b,.bool ok])∧Plc s r a b ok o∧Bl W w'):=fun W hb=>place_any _ s r W (hs.pres (pres_below hb))
 have HW:Hid (∀ a b ok o,Plc s r a b ok o→widO s r=o):=fun a b ok o h=>plc_wid h
 clear hs h0 h1 h2 h3 h4 h5
 generalize widO s r=WO at*
 go_enter Tryz.func165,Tryz.ntmps165
 go_upto_region 1 with fail
 generalize ((w.alloc _).alloc _)=W0 at HB0 HX0 HY0 ⊢
 obtain⟨xb,hxb⟩:∃ xb,xb=w.heap.size:=⟨_,rfl⟩
 obtain⟨yb,hyb⟩:∃ yb,yb=w.heap.size+1:=⟨_,rfl⟩
 rw[← hxb] at HX0
 rw[← hyb] at HY0 ⊢
 rw[← hxb]
 clear hxb hyb
 have y0:=HY0.out.cell 0 (v:=.string r.head) rfl
 have y1:=HY0.out.cell 1 (v:=.string r.name) rfl
 obtain⟨x0,x1,x2,x3,x4,x5⟩:=HX0.out.c6
 go_wp2_with fail
 refine(CP.out _ HB0.out).mono ?_
 rintro e W1 ⟨a,b,ok,o,rfl,hp,hb1⟩
 have hwo:=HW.out a b ok o hp
 subst hwo
 have HB1:Hid (Bl w W1):=bst HB0.out hb1
 have HX1:=hblk HX0 hb1
 clear hb1 HB0 HX0 HY0 CP HW y0 y1 x0 x1 x2 x3 x4 x5
 cases hp with
 | plNo _=>
  go_wp2
  refine bodyPost_ret (v:=.tuple #[.int .i64 0,.bool false]) (by simp[results,Tryz.results165,go_sem]) rfl ⟨rfl,HB1.out⟩
 | plMeta k f hf _=>
  obtain⟨b,o,cs,rfl,_,hk,rfl,_⟩:=HM.out.1.at hf
  have hkl:k<s.metas.length:=(List.getElem?_eq_some_iff.1 hf).1
  have k1:W1.cell? ⟨b,o+k*2+1,none⟩=some (.int .i64 f.width):=by have:=pres_below HB1.out _ _ (hk 1 (.int .i64 f.width) rfl);simpa using this
  have x1:=HX1.out.cell 1 (v:=.slice (some ⟨b,o,none⟩) s.metas.length c1) rfl
  clear hk hf HM HH
  go_wp2
  refine bodyPost_ret (v:=.tuple #[.int .i64 f.width,.bool true]) (by simp[results,Tryz.results165,go_sem]) rfl ⟨rfl,HB1.out⟩
 | plHead i x k f hx hf _=>
  obtain⟨b,o,cs,rfl,_,hk,u,rfl,_,hfr⟩:=HH.out.1.at hx
  obtain⟨fa,fc,rfl,_⟩:=hfr.1.slice
  obtain⟨b2,o2,cs2,rfl,_,hk2,rfl,_⟩:=hfr.1.at hf
  have hfl:x.fields.length*24≤140737488351232:=hfr.2
  have hil:i<s.headers.length:=(List.getElem?_eq_some_iff.1 hx).1
  have hkl:k<x.fields.length:=(List.getElem?_eq_some_iff.1 hf).1
  have k1:W1.cell? ⟨b,o+i*2+1,none⟩=some (.slice (some ⟨b2,o2,none⟩) x.fields.length fc):=by have:=pres_below HB1.out _ _ (hk 1 (.slice (some ⟨b2,o2,none⟩) x.fields.length fc) rfl);simpa using this
  have k2:W1.cell? ⟨b2,o2+k*2+1,none⟩=some (.int .i64 f.width):=by have:=pres_below HB1.out _ _ (hk2 1 (.int .i64 f.width) rfl);simpa using this
  have x0:=HX1.out.cell 0 (v:=.slice (some ⟨b,o,none⟩) s.headers.length c0) rfl
  have hin:¬((i:Int)<0):=by omega
  clear hk hf HM HH hk2 hfr hx
  go_wp2
  refine bodyPost_ret (v:=.tuple #[.int .i64 f.width,.bool true]) (by simp[results,Tryz.results165,go_sem]) rfl ⟨rfl,HB1.out⟩
end Go.Proofs.YtmbpclknhkbbkaaGreat
