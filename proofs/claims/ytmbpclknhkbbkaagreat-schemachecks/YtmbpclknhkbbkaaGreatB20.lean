/- A row that is filled, thing by thing, . -/
import Derived.Test.YtmbpclknhkbbkaaGreatB21
import Derived.Laws.AppendOwn
set_option linter.unusedSimpArgs false
set_option linter.unusedVariables false
set_option maxHeartbeats 2000000
set_option maxRecDepth 100000
namespace Go.Proofs.YtmbpclknhkbbkaaGreat
open Go.RowKit
theorem info_of {t:TypeId}{z:Value}{s b:Nat}(h:(Tryz.prog.info? t).map (fun i=>(i.zero,i.size,i.bytes))=some (some z,s,b)):∃ i,Tryz.prog.info? t=some i∧i.zero=some z∧i.size=s∧i.bytes=b:=by
 cases hi:Tryz.prog.info? t with
 | none=>rw[hi] at h;cases h
 | some i=>
  rw[hi] at h
  simp only[Option.map_some,Option.some.injEq,Prod.mk.injEq] at h
  exact⟨i,rfl,h.1,h.2.1,h.2.2⟩
theorem blk_there {w:World}{b:Nat}{cs:Array Value}{t:TypeId}(h:Blk w b cs t){o n:Nat}(hn:o+n≤cs.size):w.there b o n:=fun j hj=>by
 have hlt:o+j<cs.size:=by omega
 refine⟨?_,h.frozen _⟩
 rw[h.cell (o+j) (v:=cs[o+j]) (Array.getElem?_eq_getElem hlt)];rfl
theorem there_new (w:World)(cs:Array Value)(t:TypeId){n:Nat}(hn:n≤cs.size):(w.alloc (.cells cs t)).there w.heap.size 0 n:=blk_there (Blk.new w cs t) (by omega)
theorem setCells_kept (b:Nat):∀(vs:List Value)(o:Nat)(w:World),Kept (fun k=>k=b) w (w.setCells b o vs)
 |[],_,w=>Kept.refl _ _
 | v :: vs,o,w=>by
  rw[World.setCells]
  exact(Kept.set (S:=fun k=>k=b) (p:=⟨b,o,none⟩) (Kept.refl _ w) rfl v).trans (setCells_kept b vs (o+1) _)
theorem heap_setCells (b:Nat):∀(vs:List Value)(o:Nat)(w:World)(k:Nat),k≠b→(w.setCells b o vs).heap[k]?=w.heap[k]?
 |[],_,_,_,_=>rfl
 | v :: vs,o,w,k,h=>by
  rw[World.setCells,heap_setCells b vs (o+1) _ k h]
  exact Below.heap_setCell _ _ _ _ h
theorem below_setCells {B b:Nat}{a w:World}(h:Below B a w)(hb:B≤b)(o:Nat)(vs:List Value):Below B a (w.setCells b o vs):=
 have k:=setCells_kept b vs o w
 ⟨k.os.trans h.os,k.tape.trans h.tape,k.output.trans h.output,Nat.le_trans h.size k.size,fun i hi=>(heap_setCells b vs o w i (by omega)).trans (h.block i hi)⟩
theorem size_setCells (b:Nat):∀(vs:List Value)(o:Nat)(w:World),(w.setCells b o vs).heap.size=w.heap.size
 |[],_,w=>rfl
 | v :: vs,o,w=>by rw[World.setCells,size_setCells];simp[World.setCell]
theorem size_setCells_le (w:World)(o:Obj)(k:Nat)(vs:List Value):w.heap.size≤((w.alloc o).setCells w.heap.size k vs).heap.size:=by rw[size_setCells];simp
theorem setCells_blk {b:Nat}{t:TypeId}:∀(vs:List Value){w:World}{cs:Array Value}(o:Nat),Blk w b cs t→∃ cs',Blk (w.setCells b o vs) b cs' t∧cs'.size=cs.size
 |[],_,cs,_,h=>⟨cs,h,rfl⟩
 | v :: vs,w,cs,o,h=>by
  obtain⟨cs',h1,h2⟩:=setCells_blk vs (o+1) (h.set o v)
  exact⟨cs',h1,by rw[h2];simp⟩
structure EachAt {α:Type}(z E:Nat)(Is:World→Array Value→α→Prop)(w:World)(g n:Nat)(xs:List α)(wr:World)(k:Nat):Prop where
 blk:∃ cur,Blk wr g cur E∧cur.size=n*z
 done:∀ j x,j<k→xs[j]?=some x→∃ cs,wr.rangeAt g (j*z) cs.toList∧cs.size=z∧Is (upw (g+1) wr) cs x
 below:Below w.heap.size w wr
 low:w.heap.size≤g
section
variable {α:Type} {z E:Nat} {Is:World→Array Value→α→Prop} {w:World} {g n:Nat} {xs:List α} {wr:World} {k:Nat}
theorem EachAt.start {w1:World}{l:List Value}(hown:w1.ownsRow w.heap.size E z (.slice (some ⟨w.heap.size,0,none⟩) n n) n l)(hg:w.grownBy w1 none):EachAt z E Is w w.heap.size n xs w1 0:=by
 rcases hown.2 with⟨e,_⟩|⟨g,cap,cur,e,_,hb,_,_,hs,_⟩
 ·cases e
 ·simp only[Value.slice.injEq,Option.some.injEq,Addr.mk.injEq,and_true,true_and] at e
  obtain⟨rfl,rfl⟩:=e
  exact⟨⟨cur,hb,hs⟩,fun j x hj=>by omega,⟨hg.os,hg.tape,hg.output,hg.size,fun k hk=>hg.block k hk (by simp)⟩,Nat.le_refl _⟩
theorem EachAt.there (h:EachAt z E Is w g n xs wr k){w':World}(hb:Below wr.heap.size wr w')(hlt:k<n){m:Nat}(hm:m=z):w'.there g (k*z) m:=by
 obtain⟨cur,h1,h2⟩:=h.blk
 refine blk_there (h1.below hb) ?_
 have:(k+1)*z≤n*z:=Nat.mul_le_mul_right z hlt
 rw[Nat.add_mul,Nat.one_mul] at this
 omega
theorem EachAt.step (good:Good z Is)(h:EachAt z E Is w g n xs wr k){w3:World}(hb:Below wr.heap.size wr w3)(hlt:k<n){x:α}(hx:xs[k]?=some x){dl:List Value}(hd:dl.length=z)(hI:Is (upw wr.heap.size w3) dl.toArray x):
  EachAt z E Is w g n xs (w3.setCells g (k*z) dl) (k+1):=by
 obtain⟨cur,h1,h2⟩:=h.blk
 have hgl:=h1.lt
 have hkept:Kept (fun i=>i<g+1) w3 (w3.setCells g (k*z) dl):=(setCells_kept g dl (k*z) w3).mono (fun i _ e=>by omega)
 refine⟨?_,fun j y hj hy=>?_,?_,h.low⟩
 ·obtain⟨cur',h3,h4⟩:=setCells_blk dl (k*z) (h1.below hb)
  exact⟨cur',h3,by rw[h4,h2]⟩
 ·by_cases e:j=k
  ·subst e
   rw[hx] at hy
   cases hy
   exact⟨dl.toArray,World.rangeAt_setCells_same _ _ _ _ (h.there hb hlt (by rw[hd])),by simpa using hd,good.pres ((up_mono _ (by omega)).trans (up_kept hkept)) hI⟩
  ·obtain⟨cs,r1,r2,r3⟩:=h.done j y (by omega) hy
   have r1':w3.rangeAt g (j*z) cs.toList:=fun i u hu=>pres_below hb _ _ (r1 i u hu)
   refine⟨cs,World.rangeAt_setCells_apart r1' _ _ _ (.inr (.inl ?_)),r2,good.pres ((up_below hb).trans (up_kept hkept)) r3⟩
   have h5:(j+1)*z≤k*z:=Nat.mul_le_mul_right z (by omega)
   rw[Nat.add_mul,Nat.one_mul] at h5
   have h6:cs.toList.length=z:=by simpa using r2
   omega
 ·exact below_setCells (h.below.trans (hb.mono h.below.size)) h.low _ _
theorem EachAt.fin (h:EachAt z E Is w w.heap.size n xs wr n)(good:Good z Is)(hl:n=xs.length):Row z Is (upw w.heap.size wr) (.slice (some ⟨w.heap.size,0,none⟩) n n) xs:=by
 subst hl
 refine⟨_,_,rfl,Nat.le_refl _,.inr ⟨w.heap.size,0,rfl,fun i x hx=>?_⟩⟩
 obtain⟨cs,r1,r2,r3⟩:=h.done i x (List.getElem?_eq_some_iff.1 hx).1 hx
 refine⟨cs,r2,fun j u hu=>?_,good.pres (up_mono _ (by omega)) r3⟩
 rw[Nat.zero_add]
 exact cell_up (r1 j u (by simpa using hu)) (Nat.le_refl _)
end
theorem bit_good:Good 2 (Flat BitC Is128):=flat_good (fun _=>rfl) (fun _=>by simp[BitC,Value.oneCell'])
theorem add_at (b o j:Nat):(⟨b,o,none⟩:Addr).add j=⟨b,o+j,none⟩:=by unfold Addr.add;split<;>simp_all
def bitsL (xs:List Nat):List Value:=xs.flatMap fun n=>(BitC n).toList
theorem bitsL_len:∀ xs:List Nat,(bitsL xs).length=xs.length*2
 |[]=>rfl
 | x :: xs=>by
  have:=bitsL_len xs
  simp only[bitsL,List.flatMap_cons,List.length_append,List.length_cons] at this ⊢
  rw[this];simp;omega
theorem bitsL_get:∀(xs:List Nat)(i j:Nat),j<2→(bitsL xs)[i*2+j]?=(xs[i]?).bind fun n=>(BitC n)[j]?
 |[],i,j,_=>by simp[bitsL]
 | x :: xs,0,j,hj=>by
  have e:bitsL (x :: xs)=[.int .u64 (hiOf x),.int .u64 (loOf x)]++bitsL xs:=rfl
  rw[e]
  rcases(by omega:j=0∨j=1) with rfl|rfl<;>simp
 | x :: xs,i+1,j,hj=>by
  have e:bitsL (x :: xs)=[.int .u64 (hiOf x),.int .u64 (loOf x)]++bitsL xs:=rfl
  rw[e,List.getElem?_append_right (by simp;omega),show(i+1)*2+j - [Value.int .u64 (hiOf x),.int .u64 (loOf x)].length=i*2+j by simp;omega,bitsL_get xs i j hj]
  simp
theorem info121:(Tryz.prog.info? 121).map (fun i=>(i.zero,i.size,i.bytes))=some (some (.agg #[.int .u64 0,.int .u64 0]),2,16):=by kernel_rfl
theorem append_copy (w:World)(ty:TypeId)(v:Value)(xs:List Nat)(hr:Row 2 (Flat BitC Is128) w v xs)(hl:Len 16 xs):
  ∃ a' c' w',(Builtin.append_ #[43,43] ty #[.slice none 0 0,v]).run Tryz.prog w=.ok (.slice a' xs.length c') w'∧Row 2 (Flat BitC Is128) (upw w.heap.size w') (.slice a' xs.length c') xs∧Below w.heap.size w w':=by
 obtain⟨i0,hi,hz0,hz1,hz2⟩:=info_of info121
 have hlen:xs.length*16≤140737488351232:=hl
 obtain⟨ad,cap,rfl,hc,h⟩:=hr
 by_cases h0:xs=[]
 ·subst h0
  refine⟨none,0,w,?_,⟨none,0,rfl,Nat.le_refl _,.inl rfl⟩,Below.refl _ _⟩
  cases ad<;>simp[Builtin.append_,run_underlying Tryz.underlying43,sizeOf,typeInfo,hi,Builtin.lenOf,Builtin.firstCells,loadCells,loadCellsFrom]
 rcases h with h|⟨b,o,rfl,h⟩
 ·exact absurd h h0
 have hpos:0<xs.length:=List.length_pos_iff.2 h0
 obtain ⟨v', w', e, hown, hg, hnil⟩ := run_append_own (P := Tryz.prog) w w.heap.size 43 ty 121 i0 (.agg #[.int .u64 0, .int .u64 0]) 2 16 Tryz.underlying43 hi hz0 hz1 hz2 rfl (by omega) (.slice none 0 0) 0 [] (World.ownsRow_nil w _ 121 2) ⟨b, o, none⟩ xs.length cap (bitsL xs) (bitsL_len xs) (fun j u hu => by
     rw [show j = j / 2 * 2 + j % 2 by omega, bitsL_get xs _ _ (by omega)] at hu
     cases hx : xs[j / 2]? with
     | none => rw [hx] at hu; cases hu
     | some x =>
       rw [hx] at hu
       obtain ⟨cs, _, h1, rfl, _⟩ := h _ x hx
       have := h1 (j % 2) u hu
       rw [show o + j / 2 * 2 + j % 2 = o + j by omega] at this
       rw [add_at]; exact this) (fun u hu => by
     simp only [bitsL, List.mem_flatMap] at hu
     obtain ⟨n, _, hn⟩ := hu
     simp at hn
     rcases hn with rfl | rfl <;> rfl) (by unfold maxLen; omega) (by omega) (Nat.le_refl _)
 have hb:Below w.heap.size w w':=⟨hg.os,hg.tape,hg.output,hg.size,fun k hk=>hg.block k hk (by simp[Value.ownBlock])⟩
 rcases hown.2 with⟨e1,_⟩|⟨g,c,cur,e1,hbg,hb1,hnc,hcm,hcs,htk⟩
 ·have:=hnil.1 e1;omega
 ·simp only[Nat.zero_add,List.nil_append] at e1 hown hnc
  subst e1
  refine⟨_,_,w',e,⟨_,_,rfl,hnc,.inr ⟨g,0,rfl,fun i x hx=>⟨BitC x,rfl,fun j u hu=>?_,rfl,?_⟩⟩⟩,hb⟩
  ·have hj:j<2:=(Array.getElem?_eq_some_iff.1 hu).1
   have:=hown.cells (g:=g) rfl (i*2+j) u (by rw[bitsL_get xs i j hj,hx];exact hu)
   rw[add_at,← Nat.add_assoc] at this
   exact cell_up this hbg
  ·obtain⟨cs,_,_,_,ok⟩:=h i x hx
   exact ok
theorem wpList_append_is {ops:Array Oper}{rest:List Oper}{o:Oper}{a:Act}{w:World}{Q:Exit→Act→World→Prop}(hgd:o.guard=none)(s x:Operand)(t:TypeId)
  (ho:o.op=.call { callee:=.builtin .append,args:=#[s,x],argTypes:=#[t,t] }) (v u:Value) (hs:a.eval s=v) (hx:a.eval x=u) {v':Value} {w':World}
  (hr:(Builtin.append_ #[t,t] o.type #[v,u]).run Tryz.prog w=.ok v' w') (h:wpList Tryz.prog ops Q rest (a.put o.dst v') w'):wpList Tryz.prog ops Q (o :: rest) a w:=
 wpList_plain hgd fun _ hK=>by
  unfold Oper.wp execOp
  simp only[ho,resolve,invoke,builtin,Sem.run_bind,Sem.run_pure,Result.andThen_ok,List.map_toArray,List.map_cons,List.map_nil,hs,hx,hr]
  exact hK _ _ h
theorem info82:(Tryz.prog.info? 82).map (fun i=>(i.zero,i.size,i.bytes))=some (some (.agg #[.string ⟨#[]⟩,.int .i64 0]),2,24):=by kernel_rfl
theorem isz82:(Tryz.prog.info? 82).map (·.size)=some 2:=by kernel_rfl
theorem eachFld_any (v:Value)(xs:List Fld)(w:World)(hr:Row 2 (Flat FldC FldOk) w v xs)(hl:Len 24 xs)(hc:CopyOk 98 2 (Flat FldC FldOk) xs):
  Calls Tryz.prog 97 #[v,.func (.func 98) #[] #[]] w fun e w'=>∃ v',e=.returned v'∧Row 2 (Flat FldC FldOk) (upw w.heap.size w') v' xs∧Below w.heap.size w w':=by
 obtain⟨ad,cap,rfl,hcap⟩:=hr.slice
 by_cases h0:xs=[]
 ·subst h0
  go_enter Tryz.func97,Tryz.ntmps97
  go_wp2
  go_ret
  exact⟨_,rfl,⟨none,0,rfl,Nat.le_refl _,.inl rfl⟩,Below.refl _ _⟩
 have hlen:xs.length*24≤140737488351232:=hl
 have hpos:0<xs.length:=List.length_pos_iff.2 h0
 obtain⟨i0,hi,hz0,hz1,hz2⟩:=info_of info82
 have HR:Hid (Row 2 (Flat FldC FldOk) w (.slice ad xs.length cap) xs):=hr
 have HC:Hid (CopyOk 98 2 (Flat FldC FldOk) xs):=hc
 obtain⟨n,hn⟩:∃ n,n=xs.length:=⟨_,rfl⟩
 have HL:Hid (n=xs.length):=hn
 rw[← hn] at hlen hpos HR ⊢
 have hne:((n:Int)==0)=false:=by simp;omega
 have hb1:i0.bytes*n≤281474976710656:=by rw[hz2];omega
 have hb2:n≤maxLen:=by unfold maxLen;omega
 clear hr hc hl hn hcap h0
 go_enter Tryz.func97,Tryz.ntmps97
 go_wp2_with (at_make;refine wpList_make_full _ rfl _ _ 28 rfl w.heap.size 82 i0 (.agg #[.string ⟨#[]⟩,.int .i64 0]) 2 Tryz.underlying28 hi hz0 hz1 _ _ _ _ n rfl rfl rfl rfl hb1 hb2 (Nat.le_refl _) ?_)
 intro w1 hown hgr
 have HE0:Hid (EachAt 2 82 (Flat FldC FldOk) w w.heap.size n xs w1 0):=EachAt.start hown hgr
 clear hown hgr hb1 hb2 hi hz0 hz1 hz2
 go_wp2_with fail
 go_loopw [16] (fun i wr=>∃ k:Nat,k≤n∧i=.int .i64 k∧EachAt 2 82 (Flat FldC FldOk) w w.heap.size n xs wr k) (fun i _=>n - (intOf i).toNat)
 case atStart=>exact⟨0,by omega,rfl,HE0.out⟩
 case round=>
  obtain⟨k,hk,rfl,hE⟩:=hrel
  have HE:Hid (EachAt 2 82 (Flat FldC FldOk) w w.heap.size n xs wr k):=hE
  clear hE HE0
  by_cases hlt:k<n
  ·obtain⟨x,hx⟩:=gE HL.out hlt
   obtain⟨b,o,⟨cl⟩,rfl,hsz,hcl,hI⟩:=HR.out.at hx
   have hcs:cl.length=2:=hsz
   have hz:=isz82
   have hz':(Tryz.prog.info? 82).map (·.size)=some cl.length:=by rw[hcs];exact hz
   have R1:Hid (wr.rangeAt b (o+k*2) cl):=fun j u hu=>pres_below HE.out.below _ _ (hcl j u (by simpa using hu))
   have ST2:Hid ((wr.alloc (.cells #[.string ⟨#[]⟩,.int .i64 0] 82)).there wr.heap.size 0 cl.toArray.size):=there_new wr #[.string ⟨#[]⟩,.int .i64 0] 82 (by simp[hcs])
   have ON:Hid (cl.toArray.all (·.oneCell')=true):=fld_good.one hI
   have R3:Hid (((wr.alloc (.cells #[.string ⟨#[]⟩,.int .i64 0] 82)).setCells wr.heap.size 0 cl).rangeAt wr.heap.size 0 cl):=World.rangeAt_setCells_same _ _ _ _ (there_new wr #[.string ⟨#[]⟩,.int .i64 0] 82 (by simp[hcs]))
   have B2:Hid (Bl wr ((wr.alloc (.cells #[.string ⟨#[]⟩,.int .i64 0] 82)).setCells wr.heap.size 0 cl)):=below_setCells ((Below.refl _ _).alloc (Nat.le_refl _) _) (Nat.le_refl _) _ _
   have C:Hid (Cs 98 #[.agg cl.toArray] ((wr.alloc (.cells #[.string ⟨#[]⟩,.int .i64 0] 82)).setCells wr.heap.size 0 cl) fun e w'=>∃ dl:List Value,e=.returned (.agg dl.toArray)∧Hid (dl.length=2∧dl.toArray.all (·.oneCell')=true∧(Flat FldC FldOk) (upw wr.heap.size w') dl.toArray x∧Bl wr w'∧w'.there w.heap.size (k*2) dl.toArray.size)):=by
    refine(HC.out x (List.mem_of_getElem? hx) _ cl.toArray (fld_good.pres ((pres_below HE.out.below).trans (pres_below B2.out)) hI)).mono ?_
    rintro e w' ⟨⟨dl⟩,rfl,h1,h2⟩
    have hd:dl.length=2:=fld_good.size h1
    refine⟨dl,rfl,hd,fld_good.one h1,fld_good.pres (up_mono _ (size_setCells_le _ _ _ _)) h1,B2.out.trans (h2.mono B2.out.size),?_⟩
    exact HE.out.there (B2.out.trans (h2.mono B2.out.size)) hlt (by simp[hd])
   have HX:Hid (xs[k]?=some x):=hx
   clear hx hcl hI hsz
   go_wp2_with (first|(refine wpList_load_mid rfl 82 _ rfl b (o+k*2) rfl cl _ R1.out Tryz.underlying82 rfl hz' ?_)|(refine wpList_store_mid rfl 82 _ _ rfl wr.heap.size 0 cl.toArray rfl rfl ST2.out (by rw[List.size_toArray];exact hz') ON.out ?_)|(refine wpList_load_mid rfl 82 _ rfl wr.heap.size 0 rfl cl _ R3.out Tryz.underlying82 rfl hz' ?_))
   refine C.out.mono ?_
   rintro e w3 ⟨dl,rfl,H3⟩
   clear C R1 ST2 ON R3 B2
   have hd':(Tryz.prog.info? 82).map (·.size)=some dl.toArray.size:=by rw[List.size_toArray,H3.out.1];exact hz
   have HE4:Hid (EachAt 2 82 (Flat FldC FldOk) w w.heap.size n xs (w3.setCells w.heap.size (k*2) dl) (k+1)):=EachAt.step fld_good HE.out H3.out.2.2.2.1 hlt HX.out H3.out.1 H3.out.2.2.1
   go_wp2_with (refine wpList_store_mid rfl 82 _ _ rfl w.heap.size (k*2) dl.toArray rfl rfl H3.out.2.2.2.2 hd' H3.out.2.1 ?_)
   exact⟨⟨k+1,by omega,by go_num,HE4.out⟩,by simp only[intOf];omega⟩
  ·have e:k=n:=by omega
   subst e
   go_wp2
   go_ret
   exact⟨_,rfl,HE.out.fin fld_good HL.out,HE.out.below⟩
theorem info165:(Tryz.prog.info? 165).map (fun i=>(i.zero,i.size,i.bytes))=some (some (.agg #[.int .u64 0,.int .u64 0,.int .u64 0,.int .u64 0,.string ⟨#[]⟩]),5,48):=by kernel_rfl
theorem isz165:(Tryz.prog.info? 165).map (·.size)=some 5:=by kernel_rfl
theorem eachCas_any (v:Value)(xs:List Cas)(w:World)(hr:Row 5 (Flat CasC CasOk) w v xs)(hl:Len 48 xs)(hc:CopyOk 178 5 (Flat CasC CasOk) xs):
  Calls Tryz.prog 177 #[v,.func (.func 178) #[] #[]] w fun e w'=>∃ v',e=.returned v'∧Row 5 (Flat CasC CasOk) (upw w.heap.size w') v' xs∧Below w.heap.size w w':=by
 obtain⟨ad,cap,rfl,hcap⟩:=hr.slice
 by_cases h0:xs=[]
 ·subst h0
  go_enter Tryz.func177,Tryz.ntmps177
  go_wp2
  go_ret
  exact⟨_,rfl,⟨none,0,rfl,Nat.le_refl _,.inl rfl⟩,Below.refl _ _⟩
 have hlen:xs.length*48≤140737488351232:=hl
 have hpos:0<xs.length:=List.length_pos_iff.2 h0
 obtain⟨i0,hi,hz0,hz1,hz2⟩:=info_of info165
 have HR:Hid (Row 5 (Flat CasC CasOk) w (.slice ad xs.length cap) xs):=hr
 have HC:Hid (CopyOk 178 5 (Flat CasC CasOk) xs):=hc
 obtain⟨n,hn⟩:∃ n,n=xs.length:=⟨_,rfl⟩
 have HL:Hid (n=xs.length):=hn
 rw[← hn] at hlen hpos HR ⊢
 have hne:((n:Int)==0)=false:=by simp;omega
 have hb1:i0.bytes*n≤281474976710656:=by rw[hz2];omega
 have hb2:n≤maxLen:=by unfold maxLen;omega
 clear hr hc hl hn hcap h0
 go_enter Tryz.func177,Tryz.ntmps177
 go_wp2_with (at_make;refine wpList_make_full _ rfl _ _ 96 rfl w.heap.size 165 i0 (.agg #[.int .u64 0,.int .u64 0,.int .u64 0,.int .u64 0,.string ⟨#[]⟩]) 5 Tryz.underlying96 hi hz0 hz1 _ _ _ _ n rfl rfl rfl rfl hb1 hb2 (Nat.le_refl _) ?_)
 intro w1 hown hgr
 have HE0:Hid (EachAt 5 165 (Flat CasC CasOk) w w.heap.size n xs w1 0):=EachAt.start hown hgr
 clear hown hgr hb1 hb2 hi hz0 hz1 hz2
 go_wp2_with fail
 go_loopw [16] (fun i wr=>∃ k:Nat,k≤n∧i=.int .i64 k∧EachAt 5 165 (Flat CasC CasOk) w w.heap.size n xs wr k) (fun i _=>n - (intOf i).toNat)
 case atStart=>exact⟨0,by omega,rfl,HE0.out⟩
 case round=>
  obtain⟨k,hk,rfl,hE⟩:=hrel
  have HE:Hid (EachAt 5 165 (Flat CasC CasOk) w w.heap.size n xs wr k):=hE
  clear hE HE0
  by_cases hlt:k<n
  ·obtain⟨x,hx⟩:=gE HL.out hlt
   obtain⟨b,o,⟨cl⟩,rfl,hsz,hcl,hI⟩:=HR.out.at hx
   have hcs:cl.length=5:=hsz
   have hz:=isz165
   have hz':(Tryz.prog.info? 165).map (·.size)=some cl.length:=by rw[hcs];exact hz
   have R1:Hid (wr.rangeAt b (o+k*5) cl):=fun j u hu=>pres_below HE.out.below _ _ (hcl j u (by simpa using hu))
   have ST2:Hid ((wr.alloc (.cells #[.int .u64 0,.int .u64 0,.int .u64 0,.int .u64 0,.string ⟨#[]⟩] 165)).there wr.heap.size 0 cl.toArray.size):=there_new wr #[.int .u64 0,.int .u64 0,.int .u64 0,.int .u64 0,.string ⟨#[]⟩] 165 (by simp[hcs])
   have ON:Hid (cl.toArray.all (·.oneCell')=true):=cas_good.one hI
   have R3:Hid (((wr.alloc (.cells #[.int .u64 0,.int .u64 0,.int .u64 0,.int .u64 0,.string ⟨#[]⟩] 165)).setCells wr.heap.size 0 cl).rangeAt wr.heap.size 0 cl):=World.rangeAt_setCells_same _ _ _ _ (there_new wr #[.int .u64 0,.int .u64 0,.int .u64 0,.int .u64 0,.string ⟨#[]⟩] 165 (by simp[hcs]))
   have B2:Hid (Bl wr ((wr.alloc (.cells #[.int .u64 0,.int .u64 0,.int .u64 0,.int .u64 0,.string ⟨#[]⟩] 165)).setCells wr.heap.size 0 cl)):=below_setCells ((Below.refl _ _).alloc (Nat.le_refl _) _) (Nat.le_refl _) _ _
   have C:Hid (Cs 178 #[.agg cl.toArray] ((wr.alloc (.cells #[.int .u64 0,.int .u64 0,.int .u64 0,.int .u64 0,.string ⟨#[]⟩] 165)).setCells wr.heap.size 0 cl) fun e w'=>∃ dl:List Value,e=.returned (.agg dl.toArray)∧Hid (dl.length=5∧dl.toArray.all (·.oneCell')=true∧(Flat CasC CasOk) (upw wr.heap.size w') dl.toArray x∧Bl wr w'∧w'.there w.heap.size (k*5) dl.toArray.size)):=by
    refine(HC.out x (List.mem_of_getElem? hx) _ cl.toArray (cas_good.pres ((pres_below HE.out.below).trans (pres_below B2.out)) hI)).mono ?_
    rintro e w' ⟨⟨dl⟩,rfl,h1,h2⟩
    have hd:dl.length=5:=cas_good.size h1
    refine⟨dl,rfl,hd,cas_good.one h1,cas_good.pres (up_mono _ (size_setCells_le _ _ _ _)) h1,B2.out.trans (h2.mono B2.out.size),?_⟩
    exact HE.out.there (B2.out.trans (h2.mono B2.out.size)) hlt (by simp[hd])
   have HX:Hid (xs[k]?=some x):=hx
   clear hx hcl hI hsz
   go_wp2_with (first|(refine wpList_load_mid rfl 165 _ rfl b (o+k*5) rfl cl _ R1.out Tryz.underlying165 rfl hz' ?_)|(refine wpList_store_mid rfl 165 _ _ rfl wr.heap.size 0 cl.toArray rfl rfl ST2.out (by rw[List.size_toArray];exact hz') ON.out ?_)|(refine wpList_load_mid rfl 165 _ rfl wr.heap.size 0 rfl cl _ R3.out Tryz.underlying165 rfl hz' ?_))
   refine C.out.mono ?_
   rintro e w3 ⟨dl,rfl,H3⟩
   clear C R1 ST2 ON R3 B2
   have hd':(Tryz.prog.info? 165).map (·.size)=some dl.toArray.size:=by rw[List.size_toArray,H3.out.1];exact hz
   have HE4:Hid (EachAt 5 165 (Flat CasC CasOk) w w.heap.size n xs (w3.setCells w.heap.size (k*5) dl) (k+1)):=EachAt.step cas_good HE.out H3.out.2.2.2.1 hlt HX.out H3.out.1 H3.out.2.2.1
   go_wp2_with (refine wpList_store_mid rfl 165 _ _ rfl w.heap.size (k*5) dl.toArray rfl rfl H3.out.2.2.2.2 hd' H3.out.2.1 ?_)
   exact⟨⟨k+1,by omega,by go_num,HE4.out⟩,by simp only[intOf];omega⟩
  ·have e:k=n:=by omega
   subst e
   go_wp2
   go_ret
   exact⟨_,rfl,HE.out.fin cas_good HL.out,HE.out.below⟩
theorem info127:(Tryz.prog.info? 127).map (fun i=>(i.zero,i.size,i.bytes))=some (some (.agg #[.int .i64 0,.string ⟨#[]⟩,.int .i64 0,.string ⟨#[]⟩,.string ⟨#[]⟩,.int .u64 0,.int .u64 0,.string ⟨#[]⟩,.string ⟨#[]⟩,.int .u64 0,.int .u64 0,.slice none 0 0,.slice none 0 0]),13,176):=by kernel_rfl
theorem isz127:(Tryz.prog.info? 127).map (·.size)=some 13:=by kernel_rfl
theorem eachStg_any (v:Value)(xs:List Stg)(w:World)(hr:Row 13 (fun w cs x=>StgIs w x cs) w v xs)(hl:Len 176 xs)(hc:CopyOk 106 13 (fun w cs x=>StgIs w x cs) xs):
  Calls Tryz.prog 105 #[v,.func (.func 106) #[] #[]] w fun e w'=>∃ v',e=.returned v'∧Row 13 (fun w cs x=>StgIs w x cs) (upw w.heap.size w') v' xs∧Below w.heap.size w w':=by
 obtain⟨ad,cap,rfl,hcap⟩:=hr.slice
 by_cases h0:xs=[]
 ·subst h0
  go_enter Tryz.func105,Tryz.ntmps105
  go_wp2
  go_ret
  exact⟨_,rfl,⟨none,0,rfl,Nat.le_refl _,.inl rfl⟩,Below.refl _ _⟩
 have hlen:xs.length*176≤140737488351232:=hl
 have hpos:0<xs.length:=List.length_pos_iff.2 h0
 obtain⟨i0,hi,hz0,hz1,hz2⟩:=info_of info127
 have HR:Hid (Row 13 (fun w cs x=>StgIs w x cs) w (.slice ad xs.length cap) xs):=hr
 have HC:Hid (CopyOk 106 13 (fun w cs x=>StgIs w x cs) xs):=hc
 obtain⟨n,hn⟩:∃ n,n=xs.length:=⟨_,rfl⟩
 have HL:Hid (n=xs.length):=hn
 rw[← hn] at hlen hpos HR ⊢
 have hne:((n:Int)==0)=false:=by simp;omega
 have hb1:i0.bytes*n≤281474976710656:=by rw[hz2];omega
 have hb2:n≤maxLen:=by unfold maxLen;omega
 clear hr hc hl hn hcap h0
 go_enter Tryz.func105,Tryz.ntmps105
 go_wp2_with (at_make;refine wpList_make_full _ rfl _ _ 32 rfl w.heap.size 127 i0 (.agg #[.int .i64 0,.string ⟨#[]⟩,.int .i64 0,.string ⟨#[]⟩,.string ⟨#[]⟩,.int .u64 0,.int .u64 0,.string ⟨#[]⟩,.string ⟨#[]⟩,.int .u64 0,.int .u64 0,.slice none 0 0,.slice none 0 0]) 13 Tryz.underlying32 hi hz0 hz1 _ _ _ _ n rfl rfl rfl rfl hb1 hb2 (Nat.le_refl _) ?_)
 intro w1 hown hgr
 have HE0:Hid (EachAt 13 127 (fun w cs x=>StgIs w x cs) w w.heap.size n xs w1 0):=EachAt.start hown hgr
 clear hown hgr hb1 hb2 hi hz0 hz1 hz2
 go_wp2_with fail
 go_loopw [16] (fun i wr=>∃ k:Nat,k≤n∧i=.int .i64 k∧EachAt 13 127 (fun w cs x=>StgIs w x cs) w w.heap.size n xs wr k) (fun i _=>n - (intOf i).toNat)
 case atStart=>exact⟨0,by omega,rfl,HE0.out⟩
 case round=>
  obtain⟨k,hk,rfl,hE⟩:=hrel
  have HE:Hid (EachAt 13 127 (fun w cs x=>StgIs w x cs) w w.heap.size n xs wr k):=hE
  clear hE HE0
  by_cases hlt:k<n
  ·obtain⟨x,hx⟩:=gE HL.out hlt
   obtain⟨b,o,⟨cl⟩,rfl,hsz,hcl,hI⟩:=HR.out.at hx
   have hcs:cl.length=13:=hsz
   have hz:=isz127
   have hz':(Tryz.prog.info? 127).map (·.size)=some cl.length:=by rw[hcs];exact hz
   have R1:Hid (wr.rangeAt b (o+k*13) cl):=fun j u hu=>pres_below HE.out.below _ _ (hcl j u (by simpa using hu))
   have ST2:Hid ((wr.alloc (.cells #[.int .i64 0,.string ⟨#[]⟩,.int .i64 0,.string ⟨#[]⟩,.string ⟨#[]⟩,.int .u64 0,.int .u64 0,.string ⟨#[]⟩,.string ⟨#[]⟩,.int .u64 0,.int .u64 0,.slice none 0 0,.slice none 0 0] 127)).there wr.heap.size 0 cl.toArray.size):=there_new wr #[.int .i64 0,.string ⟨#[]⟩,.int .i64 0,.string ⟨#[]⟩,.string ⟨#[]⟩,.int .u64 0,.int .u64 0,.string ⟨#[]⟩,.string ⟨#[]⟩,.int .u64 0,.int .u64 0,.slice none 0 0,.slice none 0 0] 127 (by simp[hcs])
   have ON:Hid (cl.toArray.all (·.oneCell')=true):=stg_good.one hI
   have R3:Hid (((wr.alloc (.cells #[.int .i64 0,.string ⟨#[]⟩,.int .i64 0,.string ⟨#[]⟩,.string ⟨#[]⟩,.int .u64 0,.int .u64 0,.string ⟨#[]⟩,.string ⟨#[]⟩,.int .u64 0,.int .u64 0,.slice none 0 0,.slice none 0 0] 127)).setCells wr.heap.size 0 cl).rangeAt wr.heap.size 0 cl):=World.rangeAt_setCells_same _ _ _ _ (there_new wr #[.int .i64 0,.string ⟨#[]⟩,.int .i64 0,.string ⟨#[]⟩,.string ⟨#[]⟩,.int .u64 0,.int .u64 0,.string ⟨#[]⟩,.string ⟨#[]⟩,.int .u64 0,.int .u64 0,.slice none 0 0,.slice none 0 0] 127 (by simp[hcs]))
   have B2:Hid (Bl wr ((wr.alloc (.cells #[.int .i64 0,.string ⟨#[]⟩,.int .i64 0,.string ⟨#[]⟩,.string ⟨#[]⟩,.int .u64 0,.int .u64 0,.string ⟨#[]⟩,.string ⟨#[]⟩,.int .u64 0,.int .u64 0,.slice none 0 0,.slice none 0 0] 127)).setCells wr.heap.size 0 cl)):=below_setCells ((Below.refl _ _).alloc (Nat.le_refl _) _) (Nat.le_refl _) _ _
   have C:Hid (Cs 106 #[.agg cl.toArray] ((wr.alloc (.cells #[.int .i64 0,.string ⟨#[]⟩,.int .i64 0,.string ⟨#[]⟩,.string ⟨#[]⟩,.int .u64 0,.int .u64 0,.string ⟨#[]⟩,.string ⟨#[]⟩,.int .u64 0,.int .u64 0,.slice none 0 0,.slice none 0 0] 127)).setCells wr.heap.size 0 cl) fun e w'=>∃ dl:List Value,e=.returned (.agg dl.toArray)∧Hid (dl.length=13∧dl.toArray.all (·.oneCell')=true∧(fun w cs x=>StgIs w x cs) (upw wr.heap.size w') dl.toArray x∧Bl wr w'∧w'.there w.heap.size (k*13) dl.toArray.size)):=by
    refine(HC.out x (List.mem_of_getElem? hx) _ cl.toArray (stg_good.pres ((pres_below HE.out.below).trans (pres_below B2.out)) hI)).mono ?_
    rintro e w' ⟨⟨dl⟩,rfl,h1,h2⟩
    have hd:dl.length=13:=stg_good.size h1
    refine⟨dl,rfl,hd,stg_good.one h1,stg_good.pres (up_mono _ (size_setCells_le _ _ _ _)) h1,B2.out.trans (h2.mono B2.out.size),?_⟩
    exact HE.out.there (B2.out.trans (h2.mono B2.out.size)) hlt (by simp[hd])
   have HX:Hid (xs[k]?=some x):=hx
   clear hx hcl hI hsz
   go_wp2_with (first|(refine wpList_load_mid rfl 127 _ rfl b (o+k*13) rfl cl _ R1.out Tryz.underlying127 rfl hz' ?_)|(refine wpList_store_mid rfl 127 _ _ rfl wr.heap.size 0 cl.toArray rfl rfl ST2.out (by rw[List.size_toArray];exact hz') ON.out ?_)|(refine wpList_load_mid rfl 127 _ rfl wr.heap.size 0 rfl cl _ R3.out Tryz.underlying127 rfl hz' ?_))
   refine C.out.mono ?_
   rintro e w3 ⟨dl,rfl,H3⟩
   clear C R1 ST2 ON R3 B2
   have hd':(Tryz.prog.info? 127).map (·.size)=some dl.toArray.size:=by rw[List.size_toArray,H3.out.1];exact hz
   have HE4:Hid (EachAt 13 127 (fun w cs x=>StgIs w x cs) w w.heap.size n xs (w3.setCells w.heap.size (k*13) dl) (k+1)):=EachAt.step stg_good HE.out H3.out.2.2.2.1 hlt HX.out H3.out.1 H3.out.2.2.1
   go_wp2_with (refine wpList_store_mid rfl 127 _ _ rfl w.heap.size (k*13) dl.toArray rfl rfl H3.out.2.2.2.2 hd' H3.out.2.1 ?_)
   exact⟨⟨k+1,by omega,by go_num,HE4.out⟩,by simp only[intOf];omega⟩
  ·have e:k=n:=by omega
   subst e
   go_wp2
   go_ret
   exact⟨_,rfl,HE.out.fin stg_good HL.out,HE.out.below⟩
theorem info60:(Tryz.prog.info? 60).map (fun i=>(i.zero,i.size,i.bytes))=some (some (.agg #[.string ⟨#[]⟩,.slice none 0 0]),2,40):=by kernel_rfl
theorem isz60:(Tryz.prog.info? 60).map (·.size)=some 2:=by kernel_rfl
theorem eachHdr_any (v:Value)(xs:List Hdr)(w:World)(hr:Row 2 HdrIs w v xs)(hl:Len 40 xs)(hc:CopyOk 96 2 HdrIs xs):
  Calls Tryz.prog 95 #[v,.func (.func 96) #[] #[]] w fun e w'=>∃ v',e=.returned v'∧Row 2 HdrIs (upw w.heap.size w') v' xs∧Below w.heap.size w w':=by
 obtain⟨ad,cap,rfl,hcap⟩:=hr.slice
 by_cases h0:xs=[]
 ·subst h0
  go_enter Tryz.func95,Tryz.ntmps95
  go_wp2
  go_ret
  exact⟨_,rfl,⟨none,0,rfl,Nat.le_refl _,.inl rfl⟩,Below.refl _ _⟩
 have hlen:xs.length*40≤140737488351232:=hl
 have hpos:0<xs.length:=List.length_pos_iff.2 h0
 obtain⟨i0,hi,hz0,hz1,hz2⟩:=info_of info60
 have HR:Hid (Row 2 HdrIs w (.slice ad xs.length cap) xs):=hr
 have HC:Hid (CopyOk 96 2 HdrIs xs):=hc
 obtain⟨n,hn⟩:∃ n,n=xs.length:=⟨_,rfl⟩
 have HL:Hid (n=xs.length):=hn
 rw[← hn] at hlen hpos HR ⊢
 have hne:((n:Int)==0)=false:=by simp;omega
 have hb1:i0.bytes*n≤281474976710656:=by rw[hz2];omega
 have hb2:n≤maxLen:=by unfold maxLen;omega
 clear hr hc hl hn hcap h0
 go_enter Tryz.func95,Tryz.ntmps95
 go_wp2_with (at_make;refine wpList_make_full _ rfl _ _ 27 rfl w.heap.size 60 i0 (.agg #[.string ⟨#[]⟩,.slice none 0 0]) 2 Tryz.underlying27 hi hz0 hz1 _ _ _ _ n rfl rfl rfl rfl hb1 hb2 (Nat.le_refl _) ?_)
 intro w1 hown hgr
 have HE0:Hid (EachAt 2 60 HdrIs w w.heap.size n xs w1 0):=EachAt.start hown hgr
 clear hown hgr hb1 hb2 hi hz0 hz1 hz2
 go_wp2_with fail
 go_loopw [16] (fun i wr=>∃ k:Nat,k≤n∧i=.int .i64 k∧EachAt 2 60 HdrIs w w.heap.size n xs wr k) (fun i _=>n - (intOf i).toNat)
 case atStart=>exact⟨0,by omega,rfl,HE0.out⟩
 case round=>
  obtain⟨k,hk,rfl,hE⟩:=hrel
  have HE:Hid (EachAt 2 60 HdrIs w w.heap.size n xs wr k):=hE
  clear hE HE0
  by_cases hlt:k<n
  ·obtain⟨x,hx⟩:=gE HL.out hlt
   obtain⟨b,o,⟨cl⟩,rfl,hsz,hcl,hI⟩:=HR.out.at hx
   have hcs:cl.length=2:=hsz
   have hz:=isz60
   have hz':(Tryz.prog.info? 60).map (·.size)=some cl.length:=by rw[hcs];exact hz
   have R1:Hid (wr.rangeAt b (o+k*2) cl):=fun j u hu=>pres_below HE.out.below _ _ (hcl j u (by simpa using hu))
   have ST2:Hid ((wr.alloc (.cells #[.string ⟨#[]⟩,.slice none 0 0] 60)).there wr.heap.size 0 cl.toArray.size):=there_new wr #[.string ⟨#[]⟩,.slice none 0 0] 60 (by simp[hcs])
   have ON:Hid (cl.toArray.all (·.oneCell')=true):=hdr_good.one hI
   have R3:Hid (((wr.alloc (.cells #[.string ⟨#[]⟩,.slice none 0 0] 60)).setCells wr.heap.size 0 cl).rangeAt wr.heap.size 0 cl):=World.rangeAt_setCells_same _ _ _ _ (there_new wr #[.string ⟨#[]⟩,.slice none 0 0] 60 (by simp[hcs]))
   have B2:Hid (Bl wr ((wr.alloc (.cells #[.string ⟨#[]⟩,.slice none 0 0] 60)).setCells wr.heap.size 0 cl)):=below_setCells ((Below.refl _ _).alloc (Nat.le_refl _) _) (Nat.le_refl _) _ _
   have C:Hid (Cs 96 #[.agg cl.toArray] ((wr.alloc (.cells #[.string ⟨#[]⟩,.slice none 0 0] 60)).setCells wr.heap.size 0 cl) fun e w'=>∃ dl:List Value,e=.returned (.agg dl.toArray)∧Hid (dl.length=2∧dl.toArray.all (·.oneCell')=true∧HdrIs (upw wr.heap.size w') dl.toArray x∧Bl wr w'∧w'.there w.heap.size (k*2) dl.toArray.size)):=by
    refine(HC.out x (List.mem_of_getElem? hx) _ cl.toArray (hdr_good.pres ((pres_below HE.out.below).trans (pres_below B2.out)) hI)).mono ?_
    rintro e w' ⟨⟨dl⟩,rfl,h1,h2⟩
    have hd:dl.length=2:=hdr_good.size h1
    refine⟨dl,rfl,hd,hdr_good.one h1,hdr_good.pres (up_mono _ (size_setCells_le _ _ _ _)) h1,B2.out.trans (h2.mono B2.out.size),?_⟩
    exact HE.out.there (B2.out.trans (h2.mono B2.out.size)) hlt (by simp[hd])
   have HX:Hid (xs[k]?=some x):=hx
   clear hx hcl hI hsz
   go_wp2_with (first|(refine wpList_load_mid rfl 60 _ rfl b (o+k*2) rfl cl _ R1.out Tryz.underlying60 rfl hz' ?_)|(refine wpList_store_mid rfl 60 _ _ rfl wr.heap.size 0 cl.toArray rfl rfl ST2.out (by rw[List.size_toArray];exact hz') ON.out ?_)|(refine wpList_load_mid rfl 60 _ rfl wr.heap.size 0 rfl cl _ R3.out Tryz.underlying60 rfl hz' ?_))
   refine C.out.mono ?_
   rintro e w3 ⟨dl,rfl,H3⟩
   clear C R1 ST2 ON R3 B2
   have hd':(Tryz.prog.info? 60).map (·.size)=some dl.toArray.size:=by rw[List.size_toArray,H3.out.1];exact hz
   have HE4:Hid (EachAt 2 60 HdrIs w w.heap.size n xs (w3.setCells w.heap.size (k*2) dl) (k+1)):=EachAt.step hdr_good HE.out H3.out.2.2.2.1 hlt HX.out H3.out.1 H3.out.2.2.1
   go_wp2_with (refine wpList_store_mid rfl 60 _ _ rfl w.heap.size (k*2) dl.toArray rfl rfl H3.out.2.2.2.2 hd' H3.out.2.1 ?_)
   exact⟨⟨k+1,by omega,by go_num,HE4.out⟩,by simp only[intOf];omega⟩
  ·have e:k=n:=by omega
   subst e
   go_wp2
   go_ret
   exact⟨_,rfl,HE.out.fin hdr_good HL.out,HE.out.below⟩
end Go.Proofs.YtmbpclknhkbbkaaGreat
