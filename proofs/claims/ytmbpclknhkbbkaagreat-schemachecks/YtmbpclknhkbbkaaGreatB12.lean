/- Package schema: possible; names. -/
import Derived.Test.YtmbpclknhkbbkaaGreatB25
import Derived.Laws.CopyOwn
set_option linter.unusedSimpArgs false
set_option linter.unusedVariables false
set_option maxHeartbeats 4000000
set_option maxRecDepth 100000
namespace Go.Proofs.YtmbpclknhkbbkaaGreat
open Go.RowKit
def smI (r:Int):Bool:=decide (97≤r)&&decide (r≤122)
def dgI (r:Int):Bool:=decide (48≤r)&&decide (r≤57)
abbrev cI (c:UInt8):Int:=(c.toNat:Int)
def resL:List (List UInt8):=[[97,99,99,101,112,116],[97,99,116,105,111,110],[97,100,100],[97,103,97,105,110],[97,112,112,108,121],[99,97,110],[99,111,110,116,114,111,108],[100,101,102,97,117,108,116],[100,114,111,112],[101,108,115,101],[101,120,97,99,116],[101,120,105,116],[102,105,120,101,100],[104,101,97,100,101,114],[105,102],[107,101,121],[109,101,116,97],[111,110],[112,114,101,102,105,120],[114,97,110,103,101],[114,101,106,101,99,116],[114,101,109,111,118,101],[115,105,122,101],[115,116,97,116,101],[115,117,109],[116,97,98,108,101],[116,97,107,101],[116,101,114,110,97,114,121],[118,97,108,105,100]]
def isResB (l:List UInt8):Bool:=resL.contains l
def posW (n:Int):Int:=if n<1∨128<n then 0 else n
theorem possible_any (n:Int)(w:World):Calls Tryz.prog 143 #[.int .i64 n] w fun e w'=>e=.returned (.int .i64 (posW n))∧w'=w:=by
 by_cases h1:n<1
 ·have E:Hid (posW n=0):=by show _=_;unfold posW;rw[if_pos (.inl h1)]
  generalize posW n=r at*
  go_enter Tryz.func143,Tryz.ntmps143
  go_wp2
  go_ret
  exact⟨by rw[E.out];rfl,rfl⟩
 ·have d1:decide (n<1)=false:=by simpa using h1
  by_cases h2:128<n
  ·have E:Hid (posW n=0):=by show _=_;unfold posW;rw[if_pos (.inr h2)]
   generalize posW n=r at*
   go_enter Tryz.func143,Tryz.ntmps143
   go_wp2
   go_ret
   exact⟨by rw[E.out];rfl,rfl⟩
  ·have d2:decide (128<n)=false:=by simpa using h2
   have E:Hid (posW n=n):=by show _=_;unfold posW;rw[if_neg (by omega)]
   generalize posW n=r at*
   go_enter Tryz.func143,Tryz.ntmps143
   go_wp2
   go_ret
   exact⟨by rw[E.out];rfl,rfl⟩
theorem sm_any (r:Int)(w:World):Calls Tryz.prog 78 #[.int .i32 r] w fun e w'=>e=.returned (.bool (smI r))∧w'=w:=by
 have H:Hid (∀ b:Bool,smI r=b→Ending.returned (.bool b)=Ending.returned (.bool (smI r))):=fun b h=>by rw[h]
 by_cases h1:97≤r
 ·go_enter Tryz.func78,Tryz.ntmps78
  go_wp2
  go_ret
  exact⟨H.out _ (by unfold smI;simp[h1]),rfl⟩
 ·have d1:decide (97≤r)=false:=by simpa using h1
  go_enter Tryz.func78,Tryz.ntmps78
  go_wp2
  go_ret
  exact⟨H.out _ (by unfold smI;simp[d1]),rfl⟩
theorem dg_any (r:Int)(w:World):Calls Tryz.prog 79 #[.int .i32 r] w fun e w'=>e=.returned (.bool (dgI r))∧w'=w:=by
 have H:Hid (∀ b:Bool,dgI r=b→Ending.returned (.bool b)=Ending.returned (.bool (dgI r))):=fun b h=>by rw[h]
 by_cases h1:48≤r
 ·go_enter Tryz.func79,Tryz.ntmps79
  go_wp2
  go_ret
  exact⟨H.out _ (by unfold dgI;simp[h1]),rfl⟩
 ·have d1:decide (48≤r)=false:=by simpa using h1
  go_enter Tryz.func79,Tryz.ntmps79
  go_wp2
  go_ret
  exact⟨H.out _ (by unfold dgI;simp[d1]),rfl⟩
theorem byteAt (s:ByteArray){p:Nat}(h:p<s.size):s.data.toList.drop p=s[p] :: s.data.toList.drop (p+1):=by
 have h':p<s.data.toList.length:=by simpa using h
 rw[List.drop_eq_getElem_cons h'];rfl
theorem res_yes {l t:List UInt8}(ht:t ∈ resL)(h:(l==t)=true):isResB l=true:=by
 have e:l=t:=by simpa using h
 unfold isResB;rw[List.contains_iff_mem,e];exact ht
theorem resv_any (s:ByteArray)(w:World):Calls Tryz.prog 77 #[.string s] w fun e w'=>e=.returned (.bool (isResB s.data.toList))∧w'=w:=by
 have hl:s.toList=s.data.toList:=ByteArray.toList_eq s
 have HY:Hid (∀ t,(s.toList==t)=true→t ∈ resL→isResB s.data.toList=true):=fun t h ht=>by rw[hl] at h;exact res_yes ht h
 have HN:Hid ((∀ t,t ∈ resL→(s.toList==t)=false)→isResB s.data.toList=false):=fun h=>by
  unfold isResB
  rw[Bool.eq_false_iff]
  intro hc
  have:=h _ (List.contains_iff_mem.1 hc)
  rw[hl] at this
  simp at this
 clear hl
 generalize isResB s.data.toList=r at*
 go_enter Tryz.func77,Tryz.ntmps77
 go_wp2
 all_goals
  go_ret
  refine⟨?_,rfl⟩
  first
   |(rename_i hq hr;rw[hq] at hr;cases hr;done)
   |(have hy:r=true:=HY.out _ (by assumption) (by decide);rw[hy];rfl)
   | (have hf : r = false := HN.out (by
       intro t ht
       simp only [resL, List.mem_cons, List.not_mem_nil, or_false] at ht
       rcases ht with rfl | rfl | rfl | rfl | rfl | rfl | rfl | rfl | rfl | rfl | rfl | rfl | rfl | rfl | rfl | rfl | rfl | rfl | rfl | rfl | rfl | rfl | rfl | rfl | rfl | rfl | rfl | rfl | rfl <;> assumption)
      rw [hf]; rfl)
   |(exfalso;simp_all;done)
def okI (f:Bool)(r:Int):Bool:=smI r||(!f&&(dgI r||r==95))
def nmOk:Bool→List UInt8→Bool
 | _,[]=>true
 | f,c :: cs=>okI f (cI c)&&nmOk false cs
def nameB (l:List UInt8):Bool:=!l.isEmpty&&(decide (l.length≤32)&&(!isResB l&&nmOk true l))
theorem ok_high {f:Bool}{r:Int}(h:128≤r):okI f r=false:=by
 unfold okI smI dgI;simp;omega
def NameAt (s:ByteArray)(w:World)(wr:World):Prop:=
 ∃ p:Nat,p≤s.size∧Aside (nmOk (p==0) (s.data.toList.drop p)=nmOk true s.data.toList)∧wr.heap[w.heap.size]?=some (.stringIter s p)∧Below w.heap.size w wr
theorem isName_any (s:ByteArray)(hs:s.size≤maxLen)(w:World):
  Calls Tryz.prog 17 #[.string s] w fun e w'=>e=.returned (.bool (nameB s.data.toList))∧Below w.heap.size w w':=by
 unfold maxLen at hs
 have hlen:s.data.toList.length=s.size:=by simp
 have RB:Hid (Bl w w):=Below.refl _ _
 by_cases h0:s.data.toList=[]
 ·have q0:s.toList.isEmpty=true:=by rw[ByteArray.toList_eq,h0];rfl
  have E:Hid (nameB s.data.toList=false):=by show _=_;unfold nameB;rw[h0];rfl
  generalize nameB s.data.toList=b at*
  clear h0 hlen
  go_enter Tryz.func17,Tryz.ntmps17
  go_wp2
  go_ret
  exact⟨by rw[E.out];rfl,RB.out⟩
 have q0:s.toList.isEmpty=false:=by rw[ByteArray.toList_eq];simpa using h0
 by_cases h1:s.size≤32
 rotate_left
 ·have q1:(32:Int)<(s.size:Int):=by omega
  have E:Hid (nameB s.data.toList=false):=by show _=_;unfold nameB;rw[hlen,decide_eq_false h1];simp
  generalize nameB s.data.toList=b at*
  clear h0 hlen h1
  go_enter Tryz.func17,Tryz.ntmps17
  go_wp2
  go_ret
  exact⟨by rw[E.out];rfl,RB.out⟩
 have q1:decide ((32:Int)<(s.size:Int))=false:=by simp;omega
 have CR:Hid (Cs 77 #[.string s] w fun e w'=>e=.returned (.bool (isResB s.data.toList))∧w'=w):=resv_any s w
 cases h2:isResB s.data.toList
 rotate_left
 ·have E:Hid (nameB s.data.toList=false):=by show _=_;unfold nameB;rw[h2];simp
  rw[h2] at CR
  generalize nameB s.data.toList=b at*
  clear h0 hlen h1 h2
  go_enter Tryz.func17,Tryz.ntmps17
  go_wp2_with (go_at_call 77;refine CR.out.mono ?_;rintro e w' ⟨rfl,rfl⟩)
  go_ret
  exact⟨by rw[E.out];rfl,RB.out⟩
 have E:Hid (nameB s.data.toList=nmOk true s.data.toList):=by
  show _=_;unfold nameB;rw[h2,hlen,decide_eq_true h1,List.isEmpty_eq_false_iff.2 h0];simp
 rw[h2] at CR
 rw[E.out]
 clear h0 hlen h1 h2 E
 go_enter Tryz.func17,Tryz.ntmps17
 go_wp2_with (go_at_call 77;refine CR.out.mono ?_;rintro e w' ⟨rfl,hw'⟩;obtain rfl:=Eq.symm hw')
 go_loopw [] (fun wr=>NameAt s w wr) (fun wr=>s.size - wr.iterPos w.heap.size)
 case atStart=>
  refine⟨0,by omega,by show _=_;simp,World.iter_heap w s 0,?_⟩
  exact(Below.refl _ _).alloc (Nat.le_refl _) (.stringIter s 0)
 case round=>
  obtain⟨p,hp,A,hit,hK⟩:=hrel
  have HP:Hid _:=iterPos_of hit
  by_cases hlt:p<s.size
  ·have hnx:∀ ty,(Instr.next (.pointer (some ⟨w.heap.size,0,none⟩)) true ty).run Tryz.prog wr=_:=fun ty=>Lib.run_next_any_at wr w.heap.size s p ty hit hlt
   obtain⟨p',hp'⟩:∃ p',p'=p+(Utf8.decode s p).2:=⟨_,rfl⟩
   obtain⟨r,hr⟩:∃ r,r=(Utf8.decode s p).1:=⟨_,rfl⟩
   rw[← hr] at hnx
   rw[← hp'] at hnx
   have hit2:=Lib.iterAt_heap wr w.heap.size s p p' hit
   have HK2:Hid (Bl w (wr.iterAt w.heap.size s p')):=Lib.below_iterAt hK (k:=w.heap.size) (Nat.le_refl _) s p'
   obtain⟨W1,hW1⟩:∃ W1,W1=wr.iterAt w.heap.size s p':=⟨_,rfl⟩
   rw[← hW1] at hnx hit2 HK2
   have HI2:Hid _:=hit2
   have HS:Hid ((okI (p==0) (r:Int)=true→p<p'∧p'≤s.size∧nmOk (p'==0) (s.data.toList.drop p')=nmOk true s.data.toList)∧(okI (p==0) (r:Int)=false→nmOk true s.data.toList=false)):=by
    show _∧_
    have hA:=A.out
    rw[byteAt s hlt,nmOk] at hA
    by_cases ha:(s[p]).toNat<128
    ·have hd:=decode_ascii s p hlt ha
     have e1:r=(s[p]).toNat:=by rw[hr,hd]
     have e2:p'=p+1:=by rw[hp',hd]
     subst e1;subst e2
     refine⟨fun h=>⟨by omega,by omega,?_⟩,fun h=>?_⟩
     ·rw[h,Bool.true_and] at hA;rw[← hA];rfl
     ·rw[h,Bool.false_and] at hA;exact hA.symm
    ·have ha':128≤(s[p]).toNat:=by omega
     obtain⟨q1,q2⟩:=decode_high s p hlt ha'
     rw[← hr] at q1
     have hr128:(128:Int)≤(r:Int):=by omega
     have hc128:(128:Int)≤cI s[p]:=by unfold cI;omega
     rw[ok_high hr128]
     refine⟨fun h=>(by cases h),fun h=>?_⟩
     rw[ok_high hc128,Bool.false_and] at hA;exact hA.symm
   have HO:Hid (okI (p==0) (r:Int)=(smI r||(!(p==0)&&(dgI r||(r:Int)==95)))):=rfl
   have CS:Hid (∀ w,Cs 78 #[.int .i32 r] w fun e w'=>e=.returned (.bool (smI r))∧w'=w):=sm_any r
   have CD:Hid (∀ w,Cs 79 #[.int .i32 r] w fun e w'=>e=.returned (.bool (dgI r))∧w'=w):=dg_any r
   have hp0:((p:Int)==0)=(p==0):=by rw[Bool.eq_iff_iff];simp
   generalize okI (p==0) (r:Int)=ok at*
   generalize smI r=a at*
   generalize dgI r=d at*
   generalize hz:(p==0)=z at*
   generalize hu:((r:Int)==95)=u at*
   clear hit hit2 hW1 hK A hp' hr
   have HZ:Hid _:=hz
   clear hz
   cases a<;>cases z<;>cases d<;>cases u
   all_goals
    go_wp2_with (first|(go_at_call 78;refine(CS.out _).mono ?_;rintro e w' ⟨rfl,rfl⟩)|(go_at_call 79;refine(CD.out _).mono ?_;rintro e w' ⟨rfl,rfl⟩))
    first
     | (obtain ⟨x1, x2, x3⟩ := HS.out.1 (by rw [HO.out]; rfl)
        have HX3 : Hid _ := x3
        refine ⟨⟨p', x2, HX3.out, HI2.out, HK2.out⟩, ?_⟩
        rw [iterPos_of HI2.out, HP.out]; omega)
     | (go_ret
        exact ⟨by rw [HS.out.2 (by rw [HO.out]; rfl)]; rfl, HK2.out⟩)
  ·have e:p=s.size:=by omega
   subst e
   have hnx:∀ ty,(Instr.next (.pointer (some ⟨w.heap.size,0,none⟩)) true ty).run Tryz.prog wr=_:=fun ty=>Lib.run_next_end_at wr w.heap.size s s.size ty hit (by omega)
   have E:Hid (nmOk true s.data.toList=true):=by
    show _=_
    rw[← A.out,List.drop_eq_nil_of_le (by simp)];simp[nmOk]
   have HK:Hid _:=hK
   clear hit hK A
   go_wp2
   go_ret
   exact⟨by rw[E.out];rfl,HK.out⟩
theorem txt_eq (a b:ByteArray):(a.toList==b.toList)=decide (a=b):=by
 rw[ByteArray.toList_eq,ByteArray.toList_eq,Bool.eq_iff_iff]
 simp only[beq_iff_eq,decide_eq_true_eq]
 constructor
 ·intro h;obtain⟨⟨x⟩⟩:=a;obtain⟨⟨y⟩⟩:=b;simp only at h;rw[h]
 ·intro h;rw[h]
theorem eqIn42 (d:Nat)(a b c e:ByteArray)(w:World):(Op.equalIn (d+2) 42 (.agg #[.string a,.string b]) (.agg #[.string c,.string e])).run Tryz.prog w=.ok (decide (a=c)&&decide (b=e)) w:=by
 have hS:Tryz.prog.underlying 42=some (.struct (Tryz.prog.fieldsOf 42)):=by kernel_rfl
 have hp:Tryz.prog.stoodInHeld 42=false:=by kernel_rfl
 have u:=Tryz.underlying9
 rw[run_equalIn_struct w (d+1) 42 _ _ hS hp]
 simp only[Program.fieldsOf,Tryz.underlying42]
 go_simp
 rw[← txt_eq,← txt_eq]
 by_cases h1:a.toList=c.toList<;>by_cases h2:b.toList=e.toList<;>simp[h1,h2]
theorem eqIn121 (d:Nat)(a b c e:Int)(w:World):(Op.equalIn (d+2) 121 (.agg #[.int .u64 a,.int .u64 b]) (.agg #[.int .u64 c,.int .u64 e])).run Tryz.prog w=.ok (a==c&&b==e) w:=by
 have hS:Tryz.prog.underlying 121=some (.struct (Tryz.prog.fieldsOf 121)):=by kernel_rfl
 have hp:Tryz.prog.stoodInHeld 121=false:=by kernel_rfl
 have u:=Tryz.underlying119
 rw[run_equalIn_struct w (d+1) 121 _ _ hS hp]
 simp only[Program.fieldsOf,Tryz.underlying121]
 go_simp
 by_cases h1:a=c<;>by_cases h2:b=e<;>simp[h1,h2]
theorem eqIn121' (d:Nat)(n m:Nat)(w:World):(Op.equalIn (d+2) 121 (B n) (B m)).run Tryz.prog w=.ok (decide (n=m)) w:=by rw[eqIn121,agg_eq]
theorem toL_eq (a b:ByteArray):(a.toList=b.toList)=(a=b):=by
 have:=txt_eq a b
 rw[Bool.eq_iff_iff] at this
 simpa using this
theorem eqInR (d:Nat)(r q:Rf)(w:World):(Op.equalIn (d+2) 42 (.agg #[.string r.head,.string r.name]) (.agg #[.string q.head,.string q.name])).run Tryz.prog w=.ok (decide (r=q)) w:=by
 rw[eqIn42]
 obtain⟨a,b⟩:=r
 obtain⟨c,e⟩:=q
 by_cases h1:a=c<;>by_cases h2:b=e<;>simp[h1,h2]
theorem eqIn123 (d:Nat)(x y:Opd)(w:World):(Op.equalIn (d+3) 123 (.agg (OpdC x)) (.agg (OpdC y))).run Tryz.prog w=.ok (decide (x=y)) w:=by
 have hS:Tryz.prog.underlying 123=some (.struct (Tryz.prog.fieldsOf 123)):=by kernel_rfl
 have hp:Tryz.prog.stoodInHeld 123=false:=by kernel_rfl
 have u9:=Tryz.underlying9
 have u3:=Tryz.underlying3
 have e0:=eqInR d x.ref y.ref
 have e1:=eqIn121' d x.const y.const
 rw[run_equalIn_struct w (d+2) 123 _ _ hS hp]
 try unfold OpdC
 simp only[Program.fieldsOf,Tryz.underlying123]
 go_simp
 clear e0 e1 hS hp u9 u3
 obtain⟨⟨a,b⟩,c⟩:=x
 obtain⟨⟨a',b'⟩,c'⟩:=y
 simp only[toL_eq]
 by_cases h0:a=a'<;>by_cases h1:b=b'<;>by_cases h2:c=c'<;>simp[h0,h1,h2]
theorem eqIn82 (d:Nat)(x y:Fld)(w:World):(Op.equalIn (d+2) 82 (.agg (FldC x)) (.agg (FldC y))).run Tryz.prog w=.ok (decide (x=y)) w:=by
 have hS:Tryz.prog.underlying 82=some (.struct (Tryz.prog.fieldsOf 82)):=by kernel_rfl
 have hp:Tryz.prog.stoodInHeld 82=false:=by kernel_rfl
 have u9:=Tryz.underlying9
 have u3:=Tryz.underlying3
 rw[run_equalIn_struct w (d+1) 82 _ _ hS hp]
 try unfold FldC
 simp only[Program.fieldsOf,Tryz.underlying82]
 go_simp
 clear hS hp u9 u3
 obtain⟨a,b⟩:=x
 obtain⟨a',b'⟩:=y
 simp only[toL_eq]
 by_cases h0:a=a'<;>by_cases h1:b=b'<;>simp[h0,h1]
theorem eqIn116 (d:Nat)(x y:Ky)(w:World):(Op.equalIn (d+3) 116 (.agg (KyC x)) (.agg (KyC y))).run Tryz.prog w=.ok (decide (x=y)) w:=by
 have hS:Tryz.prog.underlying 116=some (.struct (Tryz.prog.fieldsOf 116)):=by kernel_rfl
 have hp:Tryz.prog.stoodInHeld 116=false:=by kernel_rfl
 have u9:=Tryz.underlying9
 have u3:=Tryz.underlying3
 have e0:=eqInR d x.ref y.ref
 rw[run_equalIn_struct w (d+2) 116 _ _ hS hp]
 try unfold KyC
 simp only[Program.fieldsOf,Tryz.underlying116]
 go_simp
 clear e0 hS hp u9 u3
 obtain⟨⟨a,b⟩,c⟩:=x
 obtain⟨⟨a',b'⟩,c'⟩:=y
 simp only[toL_eq]
 by_cases h0:a=a'<;>by_cases h1:b=b'<;>by_cases h2:c=c'<;>simp[h0,h1,h2]
theorem eqIn165 (d:Nat)(x y:Cas)(w:World):(Op.equalIn (d+3) 165 (.agg (CasC x)) (.agg (CasC y))).run Tryz.prog w=.ok (decide (x=y)) w:=by
 have hS:Tryz.prog.underlying 165=some (.struct (Tryz.prog.fieldsOf 165)):=by kernel_rfl
 have hp:Tryz.prog.stoodInHeld 165=false:=by kernel_rfl
 have u9:=Tryz.underlying9
 have u3:=Tryz.underlying3
 have e0:=eqIn121' d x.value y.value
 have e1:=eqIn121' d x.mask y.mask
 rw[run_equalIn_struct w (d+2) 165 _ _ hS hp]
 try unfold CasC
 simp only[Program.fieldsOf,Tryz.underlying165]
 go_simp
 clear e0 e1 hS hp u9 u3
 obtain⟨a,b,c⟩:=x
 obtain⟨a',b',c'⟩:=y
 simp only[toL_eq]
 by_cases h0:a=a'<;>by_cases h1:b=b'<;>by_cases h2:c=c'<;>simp[h0,h1,h2]
theorem eqIn167 (d:Nat)(x y:Stp)(w:World):(Op.equalIn (d+4) 167 (.agg (StpC x)) (.agg (StpC y))).run Tryz.prog w=.ok (decide (x=y)) w:=by
 have hS:Tryz.prog.underlying 167=some (.struct (Tryz.prog.fieldsOf 167)):=by kernel_rfl
 have hp:Tryz.prog.stoodInHeld 167=false:=by kernel_rfl
 have u9:=Tryz.underlying9
 have u3:=Tryz.underlying3
 have e0:=eqInR (d+1) x.to y.to
 have e1:=eqIn123 d x.a y.a
 unfold OpdC at e1
 have e2:=eqIn123 d x.b y.b
 unfold OpdC at e2
 rw[run_equalIn_struct w (d+3) 167 _ _ hS hp]
 try unfold StpC
 simp only[Program.fieldsOf,Tryz.underlying167]
 go_simp
 clear e0 e1 e2 hS hp u9 u3
 obtain⟨k,t,o,a,b⟩:=x
 obtain⟨k',t',o',a',b'⟩:=y
 simp only[toL_eq]
 by_cases h0:k=k'<;>by_cases h1:t=t'<;>by_cases h2:o=o'<;>by_cases h3:a=a'<;>by_cases h4:b=b'<;>simp[h0,h1,h2,h3,h4]
theorem eqIn125 (d:Nat)(x y:Tst)(w:World):(Op.equalIn (d+4) 125 (.agg (TstC x)) (.agg (TstC y))).run Tryz.prog w=.ok (decide (x=y)) w:=by
 have hS:Tryz.prog.underlying 125=some (.struct (Tryz.prog.fieldsOf 125)):=by kernel_rfl
 have hp:Tryz.prog.stoodInHeld 125=false:=by kernel_rfl
 have u9:=Tryz.underlying9
 have u3:=Tryz.underlying3
 have e0:=eqIn123 d x.a y.a
 unfold OpdC at e0
 have e1:=eqIn123 d x.b y.b
 unfold OpdC at e1
 rw[run_equalIn_struct w (d+3) 125 _ _ hS hp]
 try unfold TstC
 simp only[Program.fieldsOf,Tryz.underlying125]
 go_simp
 clear e0 e1 hS hp u9 u3
 obtain⟨k,a,b⟩:=x
 obtain⟨k',a',b'⟩:=y
 simp only[toL_eq]
 by_cases h0:k=k'<;>by_cases h1:a=a'<;>by_cases h2:b=b'<;>simp[h0,h1,h2]
theorem run_eq42 (x y:Rf)(w:World):(binOp .eql 42 (.agg #[.string x.head,.string x.name]) (.agg #[.string y.head,.string y.name])).run Tryz.prog w=.ok (.bool (decide (x=y))) w:=by
 simp only[binOp]
 simp[Op.equal,Op.maxDepth,eqInR 9998]
theorem run_eq123 (x y:Opd)(w:World):(binOp .eql 123 (.agg (OpdC x)) (.agg (OpdC y))).run Tryz.prog w=.ok (.bool (decide (x=y))) w:=by
 simp only[binOp]
 simp[Op.equal,Op.maxDepth,eqIn123 9997]
theorem run_eq82 (x y:Fld)(w:World):(binOp .eql 82 (.agg (FldC x)) (.agg (FldC y))).run Tryz.prog w=.ok (.bool (decide (x=y))) w:=by
 simp only[binOp]
 simp[Op.equal,Op.maxDepth,eqIn82 9998]
theorem run_eq116 (x y:Ky)(w:World):(binOp .eql 116 (.agg (KyC x)) (.agg (KyC y))).run Tryz.prog w=.ok (.bool (decide (x=y))) w:=by
 simp only[binOp]
 simp[Op.equal,Op.maxDepth,eqIn116 9997]
theorem run_eq165 (x y:Cas)(w:World):(binOp .eql 165 (.agg (CasC x)) (.agg (CasC y))).run Tryz.prog w=.ok (.bool (decide (x=y))) w:=by
 simp only[binOp]
 simp[Op.equal,Op.maxDepth,eqIn165 9997]
theorem run_eq167 (x y:Stp)(w:World):(binOp .eql 167 (.agg (StpC x)) (.agg (StpC y))).run Tryz.prog w=.ok (.bool (decide (x=y))) w:=by
 simp only[binOp]
 simp[Op.equal,Op.maxDepth,eqIn167 9996]
theorem run_eq125 (x y:Tst)(w:World):(binOp .eql 125 (.agg (TstC x)) (.agg (TstC y))).run Tryz.prog w=.ok (.bool (decide (x=y))) w:=by
 simp only[binOp]
 simp[Op.equal,Op.maxDepth,eqIn125 9996]
abbrev zeroR:Rf:=⟨⟨#[]⟩,⟨#[]⟩⟩
abbrev zeroO:Opd:=⟨zeroR,0⟩
def isCst (o:Opd):Bool:=decide (o.ref=zeroR)
def isOpd (o:Opd):Bool:=isCst o||decide (o.const=0)
def isOpN (n:Int):Bool:=decide (0≤n)&&decide (n≤5)
theorem b_zero:B 0=.agg #[.int .u64 0,.int .u64 0]:=by simp[B,hiOf,loOf]
theorem isConst_any (o:Opd)(w:World):Calls Tryz.prog 230 #[.agg (OpdC o)] w fun e w'=>e=.returned (.bool (isCst o))∧Below w.heap.size w w':=by
 have hE:∀ w,(binOp .eql 42 (.agg #[.string o.ref.head,.string o.ref.name]) (.agg #[.string ⟨#[]⟩,.string ⟨#[]⟩])).run Tryz.prog w=.ok (.bool (isCst o)) w:=fun w=>run_eq42 o.ref zeroR w
 generalize isCst o=b at*
 unfold OpdC
 go_enter Tryz.func230,Tryz.ntmps230
 go_wp2
 go_ret
 refine⟨rfl,?_⟩
 go_grown
theorem isOp_any (n:Int)(w:World):Calls Tryz.prog 227 #[.int .i64 n] w fun e w'=>e=.returned (.bool (isOpN n))∧w'=w:=by
 have H:Hid (∀ b:Bool,isOpN n=b→Ending.returned (.bool b)=Ending.returned (.bool (isOpN n))):=fun b h=>by rw[h]
 by_cases h1:0≤n
 ·go_enter Tryz.func227,Tryz.ntmps227
  go_wp2
  go_ret
  exact⟨H.out _ (by unfold isOpN;simp[h1]),rfl⟩
 ·have d1:decide (0≤n)=false:=by simpa using h1
  go_enter Tryz.func227,Tryz.ntmps227
  go_wp2
  go_ret
  exact⟨H.out _ (by unfold isOpN;simp[d1]),rfl⟩
theorem isOperand_any (o:Opd)(w:World):Calls Tryz.prog 228 #[.agg (OpdC o)] w fun e w'=>e=.returned (.bool (isOpd o))∧Below w.heap.size w w':=by
 have C:Hid (∀ w,Cs 230 #[.agg #[.string o.ref.head,.string o.ref.name,.int .u64 (hiOf o.const),.int .u64 (loOf o.const)]] w fun e w'=>e=.returned (.bool (isCst o))∧Bl w w'):=fun w=>isConst_any o w
 have hE:∀ w,(binOp .eql 121 (.agg #[.int .u64 (hiOf o.const),.int .u64 (loOf o.const)]) (.agg #[.int .u64 0,.int .u64 0])).run Tryz.prog w=.ok (.bool (decide (o.const=0))) w:=fun w=>by
  have:=run_eqB (n:=o.const) (m:=0) rfl w
  rw[b_zero] at this
  exact this
 have HE:Hid (isOpd o=(isCst o||decide (o.const=0))):=rfl
 generalize isOpd o=r at*
 generalize decide (o.const=0)=z at*
 generalize isCst o=c at*
 unfold OpdC
 go_enter Tryz.func228,Tryz.ntmps228
 go_wp2_with fail
 refine(C.out _).mono ?_
 rintro e w1 ⟨rfl,hb⟩
 obtain⟨hc,hf⟩:=bcell hb
 have hz:w.heap.size<w1.heap.size:=by have:=hb.size;simp at this;omega
 have HB:Hid (Bl w w1):=((Below.refl _ _).alloc (Nat.le_refl _) _).trans (hb.mono (by simp))
 cases c
 all_goals
  go_wp2
  go_ret
  refine⟨?_,HB.out⟩
  rw[HE.out]
  simp
end Go.Proofs.YtmbpclknhkbbkaaGreat
