/- The statements' arguments, opened: pla. -/
import Derived.Test.YtmbpclknhkbbkaaGreatB21
import Derived.ProofKit
import Derived.SizedLaws
import Derived.OpenShut
import Derived.Lib.SmallJoins
import Derived.Test.YtmbpclknhkbbkaaGreatRows
set_option linter.unusedSimpArgs false
set_option linter.unusedVariables false
namespace Go.Proofs.YtmbpclknhkbbkaaGreat
open Go.ChangeShapes Go.WideShapes Go.ChangeAt Go.RowKit Go.Joins
theorem word64_of_wf {x:Int}(h:(Lit.int .u64 x).wf=true):0≤x∧x<18446744073709551616:=by
 simp[Lit.wf,IntKind.min,IntKind.max,IntKind.signed,IntKind.bits] at h
 exact⟨by omega,by omega⟩
theorem okn_of_wf {x:Int}(h:(Lit.int .i64 x).wf=true):Okn x:=by
 simp[Lit.wf,IntKind.min,IntKind.max,IntKind.signed,IntKind.bits] at h
 exact⟨by omega,by omega⟩
theorem list_of {α:Type}(P:Nat→α→Prop):∀ n:Nat,(∀ i,i<n→∃ y,P i y)→∃ l:List α,l.length=n∧∀ i x,l[i]?=some x→P i x
 | 0,_=>⟨[],rfl,fun i x h=>by simp at h⟩
 | n+1,h=>by
  obtain⟨l,hl,hP⟩:=list_of P n (fun i hi=>h i (by omega))
  obtain⟨y,hy⟩:=h n (by omega)
  refine⟨l++[y],by simp[hl],fun i x hi=>?_⟩
  rw[List.getElem?_append] at hi
  split at hi
  ·exact hP i x hi
  ·rename_i hn
   have hin:i - l.length=0:=by
    rcases Nat.eq_zero_or_pos (i - l.length) with e|e
    ·exact e
    ·rw[List.getElem?_eq_none (by simp;omega)] at hi;cases hi
   rw[hin] at hi
   have:x=y:=by simpa using hi.symm
   rw[this,show i=n by omega];exact hy
theorem weights_all {H:Type}{P:Program}{e:TypeId}:∀ {ds:List (DataW H)}{d:DataW H},d ∈ ds→∀ n ∈ d.weights P e,n ∈ DataW.weightsAll P e ds
 | d' :: r,d,hd,n,hn=>by
  rw[DataW.weightsAll]
  rcases List.mem_cons.1 hd with rfl|hd
  ·exact List.mem_append_left _ hn
  ·exact List.mem_append_right _ (weights_all hd n hn)
section
variable {H:Type} {enc:TypeId × Value→H} {W:World} {held:Bool}
def Reads (enc:TypeId × Value→H)(W:World)(held:Bool)(fuel:Nat)(t:TypeId)(cs:List Value):Prop:=∃ y:DataW H × List MemPlace,DataW.trod enc Tryz.prog W 0 (fun _=>true) held fuel t cs=some y∧∀ n ∈ y.1.weights Tryz.prog t,n≤reachBytes
theorem open_row {α:Type}{t e:TypeId}{z bt fuel:Nat}{Is:World→Array Value→α→Prop}{cs:List Value}(hu:Tryz.prog.underlying t=some (.slice e))(hc:Tryz.prog.cellsOf e=z)(hz:0<z)(hb:Tryz.prog.bytesOf e=bt)
  (h:Reads enc W held fuel t cs) (each:∀ m cs',m<fuel→Reads enc W held m e cs'→∃ x:α,cs'.length=z∧Is W cs'.toArray x):∃ v xs,cs=[v]∧Row z Is W v xs∧Len bt xs:=by
 obtain⟨y,h,hw⟩:=h
 rcases DataW.trod_slice hu h with⟨rfl,rfl⟩|⟨a,len,cap,elems,rest,n,rfl,rfl,rfl,_,hl,_,hlen,hel,_,_⟩
 ·exact⟨_,[],rfl,⟨none,0,rfl,Nat.le_refl _,.inl rfl⟩,by unfold Len;simp⟩
 ·have hw0:=hw _ (by rw[DataW.weights,hu];exact List.mem_cons_self ..)
  rw[hb] at hw0
  simp only[List.length_map,hlen,reachBytes] at hw0
  have hlb:len*bt≤140737488351232:=Nat.le_trans (Nat.mul_le_mul_right bt (Nat.le_add_right len rest.length)) hw0
  rw[hc] at hel
  have hx:∀ i,i<len→∃ x:α,∃ cs',W.cells? 0 (a.add (i*z)) z=some cs'∧cs'.length=z∧Is W cs'.toArray x:=by
   intro i hi
   have h1:=hel i hi
   rw[List.getElem?_eq_getElem (by omega)] at h1
   obtain⟨cs',h2,h3⟩:=Option.bind_eq_some_iff.1 h1
   obtain ⟨x, h4, h5⟩ := each n cs' (by omega) ⟨_, h3, fun k hk => hw k (by
     rw [DataW.weights, hu]
     exact List.mem_cons_of_mem _ (List.mem_append_left _ (weights_all (d := elems[i].1) (List.mem_map.2 ⟨elems[i], List.getElem_mem _, rfl⟩) _ hk)))⟩
   exact⟨x,cs',h2,h4,h5⟩
  obtain⟨xs,hxl,hP⟩:=list_of _ len hx
  refine⟨_,xs,rfl,⟨some a,cap,by rw[hxl],by omega,?_⟩,by unfold Len;rw[hxl];exact hlb⟩
  by_cases h0:xs=[]
  ·exact .inl h0
  ·right
   have hs:a.spot=none:=by
    obtain⟨x,hx0⟩:∃ x,xs[0]?=some x:=⟨_,List.getElem?_eq_getElem (List.length_pos_iff.2 h0)⟩
    obtain⟨cs',h1,h2,_⟩:=hP 0 x hx0
    obtain⟨_,_,h3⟩:=World.cells?_some h1
    have h4:=h3 0 hz
    obtain⟨v,hv⟩:∃ v,cs'[0]?=some v:=⟨_,List.getElem?_eq_getElem (by omega)⟩
    rw[hv] at h4
    have:=World.cell?_spot h4
    simpa[Addr.add] using this
   obtain⟨b,o,sp⟩:=a
   simp only at hs
   subst hs
   refine⟨b,o,rfl,fun i x hi=>?_⟩
   obtain⟨cs',h1,h2,h3⟩:=hP i x hi
   refine⟨cs'.toArray,by simpa using h2,fun j u hj=>?_,h3⟩
   have hj':cs'[j]?=some u:=by simpa using hj
   obtain⟨_,_,h4⟩:=World.cells?_some h1
   have hjz:j<z:=by rw[← h2];exact(List.getElem?_eq_some_iff.1 hj').1
   have h5:=h4 j hjz
   rw[hj',add_plain,add_plain] at h5
   exact h5
theorem open_txt {fuel:Nat}{cs:List Value}(h:Reads enc W held fuel 9 cs):∃ s:ByteArray,cs=[.string s]∧Okt s:=by
 obtain⟨y,h,hw⟩:=h
 obtain⟨s,rfl,rfl,_⟩:=DataW.trod_string Tryz.underlying9 h
 refine⟨s,rfl,?_⟩
 have:=hw s.data.toList.length (by simp[DataW.weights])
 simpa[reachBytes,Okt] using this
theorem open_int {fuel:Nat}{cs:List Value}(h:Reads enc W held fuel 3 cs):∃ n:Int,cs=[.int .i64 n]∧Okn n:=by
 obtain⟨y,h,hw⟩:=h
 obtain⟨n,rfl,rfl,w⟩:=DataW.trod_int Tryz.underlying3 h
 exact⟨n,rfl,okn_of_wf w⟩
theorem open_bool {fuel:Nat}{cs:List Value}(h:Reads enc W held fuel 4 cs):∃ b:Bool,cs=[.bool b]:=by
 obtain⟨y,h,hw⟩:=h
 obtain⟨n,rfl,rfl⟩:=DataW.trod_bool Tryz.underlying4 h
 exact⟨n,rfl⟩
theorem open_u64 {fuel:Nat}{cs:List Value}(h:Reads enc W held fuel 119 cs):∃ n:Int,cs=[.int .u64 n]∧0≤n∧n<18446744073709551616:=by
 obtain⟨y,h,hw⟩:=h
 obtain⟨n,rfl,rfl,w⟩:=DataW.trod_int Tryz.underlying119 h
 exact⟨n,rfl,word64_of_wf w⟩
theorem cells3:Tryz.prog.cellsOf 3=1:=by kernel_rfl
theorem cells4:Tryz.prog.cellsOf 4=1:=by kernel_rfl
theorem cells9:Tryz.prog.cellsOf 9=1:=by kernel_rfl
theorem cells119:Tryz.prog.cellsOf 119=1:=by kernel_rfl
theorem cells121:Tryz.prog.cellsOf 121=2:=by kernel_rfl
theorem cells42:Tryz.prog.cellsOf 42=2:=by kernel_rfl
theorem cells123:Tryz.prog.cellsOf 123=4:=by kernel_rfl
theorem cells125:Tryz.prog.cellsOf 125=9:=by kernel_rfl
theorem cells82:Tryz.prog.cellsOf 82=2:=by kernel_rfl
theorem cells165:Tryz.prog.cellsOf 165=5:=by kernel_rfl
theorem cells167:Tryz.prog.cellsOf 167=12:=by kernel_rfl
theorem cells116:Tryz.prog.cellsOf 116=3:=by kernel_rfl
theorem cells45:Tryz.prog.cellsOf 45=2:=by kernel_rfl
theorem cells60:Tryz.prog.cellsOf 60=2:=by kernel_rfl
theorem cells98:Tryz.prog.cellsOf 98=6:=by kernel_rfl
theorem cells65:Tryz.prog.cellsOf 65=3:=by kernel_rfl
theorem cells51:Tryz.prog.cellsOf 51=7:=by kernel_rfl
theorem cells127:Tryz.prog.cellsOf 127=13:=by kernel_rfl
theorem cells34:Tryz.prog.cellsOf 34=6:=by kernel_rfl
theorem cells28:Tryz.prog.cellsOf 28=1:=by kernel_rfl
theorem cells96:Tryz.prog.cellsOf 96=1:=by kernel_rfl
theorem cells63:Tryz.prog.cellsOf 63=1:=by kernel_rfl
theorem cells49:Tryz.prog.cellsOf 49=1:=by kernel_rfl
theorem cells43:Tryz.prog.cellsOf 43=1:=by kernel_rfl
theorem cells36:Tryz.prog.cellsOf 36=1:=by kernel_rfl
theorem cells27:Tryz.prog.cellsOf 27=1:=by kernel_rfl
theorem cells29:Tryz.prog.cellsOf 29=1:=by kernel_rfl
theorem cells30:Tryz.prog.cellsOf 30=1:=by kernel_rfl
theorem cells31:Tryz.prog.cellsOf 31=1:=by kernel_rfl
theorem cells32:Tryz.prog.cellsOf 32=1:=by kernel_rfl
theorem cells70:Tryz.prog.cellsOf 70=1:=by kernel_rfl
theorem cells47:Tryz.prog.cellsOf 47=6:=by kernel_rfl
theorem bytes121:Tryz.prog.bytesOf 121=16:=by kernel_rfl
theorem bytes9:Tryz.prog.bytesOf 9=16:=by kernel_rfl
theorem bytes82:Tryz.prog.bytesOf 82=24:=by kernel_rfl
theorem bytes165:Tryz.prog.bytesOf 165=48:=by kernel_rfl
theorem bytes167:Tryz.prog.bytesOf 167=144:=by kernel_rfl
theorem bytes116:Tryz.prog.bytesOf 116=40:=by kernel_rfl
theorem bytes60:Tryz.prog.bytesOf 60=40:=by kernel_rfl
theorem bytes98:Tryz.prog.bytesOf 98=104:=by kernel_rfl
theorem bytes65:Tryz.prog.bytesOf 65=64:=by kernel_rfl
theorem bytes51:Tryz.prog.bytesOf 51=120:=by kernel_rfl
theorem bytes127:Tryz.prog.bytesOf 127=176:=by kernel_rfl
theorem list2 {α:Type}{l:List α}(h:l.length=2):∃ x0 x1,l=[x0,x1]:=by
 match l,h with
 |[x0,x1],_=>exact⟨x0,x1,rfl⟩
theorem list3 {α:Type}{l:List α}(h:l.length=3):∃ x0 x1 x2,l=[x0,x1,x2]:=by
 match l,h with
 |[x0,x1,x2],_=>exact⟨x0,x1,x2,rfl⟩
theorem list4 {α:Type}{l:List α}(h:l.length=4):∃ x0 x1 x2 x3,l=[x0,x1,x2,x3]:=by
 match l,h with
 |[x0,x1,x2,x3],_=>exact⟨x0,x1,x2,x3,rfl⟩
theorem list5 {α:Type}{l:List α}(h:l.length=5):∃ x0 x1 x2 x3 x4,l=[x0,x1,x2,x3,x4]:=by
 match l,h with
 |[x0,x1,x2,x3,x4],_=>exact⟨x0,x1,x2,x3,x4,rfl⟩
theorem list6 {α:Type}{l:List α}(h:l.length=6):∃ x0 x1 x2 x3 x4 x5,l=[x0,x1,x2,x3,x4,x5]:=by
 match l,h with
 |[x0,x1,x2,x3,x4,x5],_=>exact⟨x0,x1,x2,x3,x4,x5,rfl⟩
theorem list7 {α:Type}{l:List α}(h:l.length=7):∃ x0 x1 x2 x3 x4 x5 x6,l=[x0,x1,x2,x3,x4,x5,x6]:=by
 match l,h with
 |[x0,x1,x2,x3,x4,x5,x6],_=>exact⟨x0,x1,x2,x3,x4,x5,x6,rfl⟩
theorem list9 {α:Type}{l:List α}(h:l.length=9):∃ x0 x1 x2 x3 x4 x5 x6 x7 x8,l=[x0,x1,x2,x3,x4,x5,x6,x7,x8]:=by
 match l,h with
 |[x0,x1,x2,x3,x4,x5,x6,x7,x8],_=>exact⟨x0,x1,x2,x3,x4,x5,x6,x7,x8,rfl⟩
theorem list12 {α:Type}{l:List α}(h:l.length=12):∃ x0 x1 x2 x3 x4 x5 x6 x7 x8 x9 x10 x11,l=[x0,x1,x2,x3,x4,x5,x6,x7,x8,x9,x10,x11]:=by
 match l,h with
 |[x0,x1,x2,x3,x4,x5,x6,x7,x8,x9,x10,x11],_=>exact⟨x0,x1,x2,x3,x4,x5,x6,x7,x8,x9,x10,x11,rfl⟩
theorem list13 {α:Type}{l:List α}(h:l.length=13):∃ x0 x1 x2 x3 x4 x5 x6 x7 x8 x9 x10 x11 x12,l=[x0,x1,x2,x3,x4,x5,x6,x7,x8,x9,x10,x11,x12]:=by
 match l,h with
 |[x0,x1,x2,x3,x4,x5,x6,x7,x8,x9,x10,x11,x12],_=>exact⟨x0,x1,x2,x3,x4,x5,x6,x7,x8,x9,x10,x11,x12,rfl⟩
theorem parts121 {fuel:Nat}{cs:List Value}(h:Reads enc W held fuel 121 cs):∃ c0 c1 m,m<fuel∧cs=[c0,c1]∧Reads enc W held m 119 [c0]∧Reads enc W held m 119 [c1]:=by
 obtain⟨y,h,hw⟩:=h
 obtain⟨xs,m,rfl,rfl,hl,hlen,hf⟩:=DataW.trod_struct Tryz.underlying121 h
 obtain⟨c0,c1,rfl⟩:=list2 (hl.trans cells121)
 obtain⟨x0,x1,rfl⟩:=list2 hlen
 refine⟨_,_,m,by omega,rfl,?_,?_⟩
 ·exact⟨x0,by have:=hf 0 _ rfl;simpa[cells119] using this,fun n hn=>hw n (by simp[DataW.weights,DataW.weightsEach,Tryz.underlying121,hn])⟩
 ·exact⟨x1,by have:=hf 1 _ rfl;simpa[cells119] using this,fun n hn=>hw n (by simp[DataW.weights,DataW.weightsEach,Tryz.underlying121,hn])⟩
theorem parts42 {fuel:Nat}{cs:List Value}(h:Reads enc W held fuel 42 cs):∃ c0 c1 m,m<fuel∧cs=[c0,c1]∧Reads enc W held m 9 [c0]∧Reads enc W held m 9 [c1]:=by
 obtain⟨y,h,hw⟩:=h
 obtain⟨xs,m,rfl,rfl,hl,hlen,hf⟩:=DataW.trod_struct Tryz.underlying42 h
 obtain⟨c0,c1,rfl⟩:=list2 (hl.trans cells42)
 obtain⟨x0,x1,rfl⟩:=list2 hlen
 refine⟨_,_,m,by omega,rfl,?_,?_⟩
 ·exact⟨x0,by have:=hf 0 _ rfl;simpa[cells9] using this,fun n hn=>hw n (by simp[DataW.weights,DataW.weightsEach,Tryz.underlying42,hn])⟩
 ·exact⟨x1,by have:=hf 1 _ rfl;simpa[cells9] using this,fun n hn=>hw n (by simp[DataW.weights,DataW.weightsEach,Tryz.underlying42,hn])⟩
theorem parts123 {fuel:Nat}{cs:List Value}(h:Reads enc W held fuel 123 cs):∃ c0 c1 c2 c3 m,m<fuel∧cs=[c0,c1,c2,c3]∧Reads enc W held m 42 [c0,c1]∧Reads enc W held m 121 [c2,c3]:=by
 obtain⟨y,h,hw⟩:=h
 obtain⟨xs,m,rfl,rfl,hl,hlen,hf⟩:=DataW.trod_struct Tryz.underlying123 h
 obtain⟨c0,c1,c2,c3,rfl⟩:=list4 (hl.trans cells123)
 obtain⟨x0,x1,rfl⟩:=list2 hlen
 refine⟨_,_,_,_,m,by omega,rfl,?_,?_⟩
 ·exact⟨x0,by have:=hf 0 _ rfl;simpa[cells42] using this,fun n hn=>hw n (by simp[DataW.weights,DataW.weightsEach,Tryz.underlying123,hn])⟩
 ·exact⟨x1,by have:=hf 1 _ rfl;simpa[cells121] using this,fun n hn=>hw n (by simp[DataW.weights,DataW.weightsEach,Tryz.underlying123,hn])⟩
theorem parts125 {fuel:Nat}{cs:List Value}(h:Reads enc W held fuel 125 cs):∃ c0 c1 c2 c3 c4 c5 c6 c7 c8 m,m<fuel∧cs=[c0,c1,c2,c3,c4,c5,c6,c7,c8]∧Reads enc W held m 3 [c0]∧Reads enc W held m 123 [c1,c2,c3,c4]∧Reads enc W held m 123 [c5,c6,c7,c8]:=by
 obtain⟨y,h,hw⟩:=h
 obtain⟨xs,m,rfl,rfl,hl,hlen,hf⟩:=DataW.trod_struct Tryz.underlying125 h
 obtain⟨c0,c1,c2,c3,c4,c5,c6,c7,c8,rfl⟩:=list9 (hl.trans cells125)
 obtain⟨x0,x1,x2,rfl⟩:=list3 hlen
 refine⟨_,_,_,_,_,_,_,_,_,m,by omega,rfl,?_,?_,?_⟩
 ·exact⟨x0,by have:=hf 0 _ rfl;simpa[cells3] using this,fun n hn=>hw n (by simp[DataW.weights,DataW.weightsEach,Tryz.underlying125,hn])⟩
 ·exact⟨x1,by have:=hf 1 _ rfl;simpa[cells123] using this,fun n hn=>hw n (by simp[DataW.weights,DataW.weightsEach,Tryz.underlying125,hn])⟩
 ·exact⟨x2,by have:=hf 2 _ rfl;simpa[cells123] using this,fun n hn=>hw n (by simp[DataW.weights,DataW.weightsEach,Tryz.underlying125,hn])⟩
theorem parts82 {fuel:Nat}{cs:List Value}(h:Reads enc W held fuel 82 cs):∃ c0 c1 m,m<fuel∧cs=[c0,c1]∧Reads enc W held m 9 [c0]∧Reads enc W held m 3 [c1]:=by
 obtain⟨y,h,hw⟩:=h
 obtain⟨xs,m,rfl,rfl,hl,hlen,hf⟩:=DataW.trod_struct Tryz.underlying82 h
 obtain⟨c0,c1,rfl⟩:=list2 (hl.trans cells82)
 obtain⟨x0,x1,rfl⟩:=list2 hlen
 refine⟨_,_,m,by omega,rfl,?_,?_⟩
 ·exact⟨x0,by have:=hf 0 _ rfl;simpa[cells9] using this,fun n hn=>hw n (by simp[DataW.weights,DataW.weightsEach,Tryz.underlying82,hn])⟩
 ·exact⟨x1,by have:=hf 1 _ rfl;simpa[cells3] using this,fun n hn=>hw n (by simp[DataW.weights,DataW.weightsEach,Tryz.underlying82,hn])⟩
theorem parts165 {fuel:Nat}{cs:List Value}(h:Reads enc W held fuel 165 cs):∃ c0 c1 c2 c3 c4 m,m<fuel∧cs=[c0,c1,c2,c3,c4]∧Reads enc W held m 121 [c0,c1]∧Reads enc W held m 121 [c2,c3]∧Reads enc W held m 9 [c4]:=by
 obtain⟨y,h,hw⟩:=h
 obtain⟨xs,m,rfl,rfl,hl,hlen,hf⟩:=DataW.trod_struct Tryz.underlying165 h
 obtain⟨c0,c1,c2,c3,c4,rfl⟩:=list5 (hl.trans cells165)
 obtain⟨x0,x1,x2,rfl⟩:=list3 hlen
 refine⟨_,_,_,_,_,m,by omega,rfl,?_,?_,?_⟩
 ·exact⟨x0,by have:=hf 0 _ rfl;simpa[cells121] using this,fun n hn=>hw n (by simp[DataW.weights,DataW.weightsEach,Tryz.underlying165,hn])⟩
 ·exact⟨x1,by have:=hf 1 _ rfl;simpa[cells121] using this,fun n hn=>hw n (by simp[DataW.weights,DataW.weightsEach,Tryz.underlying165,hn])⟩
 ·exact⟨x2,by have:=hf 2 _ rfl;simpa[cells9] using this,fun n hn=>hw n (by simp[DataW.weights,DataW.weightsEach,Tryz.underlying165,hn])⟩
theorem parts167 {fuel:Nat}{cs:List Value}(h:Reads enc W held fuel 167 cs):∃ c0 c1 c2 c3 c4 c5 c6 c7 c8 c9 c10 c11 m,m<fuel∧cs=[c0,c1,c2,c3,c4,c5,c6,c7,c8,c9,c10,c11]∧Reads enc W held m 3 [c0]∧Reads enc W held m 42 [c1,c2]∧Reads enc W held m 3 [c3]∧Reads enc W held m 123 [c4,c5,c6,c7]∧Reads enc W held m 123 [c8,c9,c10,c11]:=by
 obtain⟨y,h,hw⟩:=h
 obtain⟨xs,m,rfl,rfl,hl,hlen,hf⟩:=DataW.trod_struct Tryz.underlying167 h
 obtain⟨c0,c1,c2,c3,c4,c5,c6,c7,c8,c9,c10,c11,rfl⟩:=list12 (hl.trans cells167)
 obtain⟨x0,x1,x2,x3,x4,rfl⟩:=list5 hlen
 refine⟨_,_,_,_,_,_,_,_,_,_,_,_,m,by omega,rfl,?_,?_,?_,?_,?_⟩
 ·exact⟨x0,by have:=hf 0 _ rfl;simpa[cells3] using this,fun n hn=>hw n (by simp[DataW.weights,DataW.weightsEach,Tryz.underlying167,hn])⟩
 ·exact⟨x1,by have:=hf 1 _ rfl;simpa[cells42] using this,fun n hn=>hw n (by simp[DataW.weights,DataW.weightsEach,Tryz.underlying167,hn])⟩
 ·exact⟨x2,by have:=hf 2 _ rfl;simpa[cells3] using this,fun n hn=>hw n (by simp[DataW.weights,DataW.weightsEach,Tryz.underlying167,hn])⟩
 ·exact⟨x3,by have:=hf 3 _ rfl;simpa[cells123] using this,fun n hn=>hw n (by simp[DataW.weights,DataW.weightsEach,Tryz.underlying167,hn])⟩
 ·exact⟨x4,by have:=hf 4 _ rfl;simpa[cells123] using this,fun n hn=>hw n (by simp[DataW.weights,DataW.weightsEach,Tryz.underlying167,hn])⟩
theorem parts116 {fuel:Nat}{cs:List Value}(h:Reads enc W held fuel 116 cs):∃ c0 c1 c2 m,m<fuel∧cs=[c0,c1,c2]∧Reads enc W held m 42 [c0,c1]∧Reads enc W held m 3 [c2]:=by
 obtain⟨y,h,hw⟩:=h
 obtain⟨xs,m,rfl,rfl,hl,hlen,hf⟩:=DataW.trod_struct Tryz.underlying116 h
 obtain⟨c0,c1,c2,rfl⟩:=list3 (hl.trans cells116)
 obtain⟨x0,x1,rfl⟩:=list2 hlen
 refine⟨_,_,_,m,by omega,rfl,?_,?_⟩
 ·exact⟨x0,by have:=hf 0 _ rfl;simpa[cells42] using this,fun n hn=>hw n (by simp[DataW.weights,DataW.weightsEach,Tryz.underlying116,hn])⟩
 ·exact⟨x1,by have:=hf 1 _ rfl;simpa[cells3] using this,fun n hn=>hw n (by simp[DataW.weights,DataW.weightsEach,Tryz.underlying116,hn])⟩
theorem parts45 {fuel:Nat}{cs:List Value}(h:Reads enc W held fuel 45 cs):∃ c0 c1 m,m<fuel∧cs=[c0,c1]∧Reads enc W held m 9 [c0]∧Reads enc W held m 43 [c1]:=by
 obtain⟨y,h,hw⟩:=h
 obtain⟨xs,m,rfl,rfl,hl,hlen,hf⟩:=DataW.trod_struct Tryz.underlying45 h
 obtain⟨c0,c1,rfl⟩:=list2 (hl.trans cells45)
 obtain⟨x0,x1,rfl⟩:=list2 hlen
 refine⟨_,_,m,by omega,rfl,?_,?_⟩
 ·exact⟨x0,by have:=hf 0 _ rfl;simpa[cells9] using this,fun n hn=>hw n (by simp[DataW.weights,DataW.weightsEach,Tryz.underlying45,hn])⟩
 ·exact⟨x1,by have:=hf 1 _ rfl;simpa[cells43] using this,fun n hn=>hw n (by simp[DataW.weights,DataW.weightsEach,Tryz.underlying45,hn])⟩
theorem parts60 {fuel:Nat}{cs:List Value}(h:Reads enc W held fuel 60 cs):∃ c0 c1 m,m<fuel∧cs=[c0,c1]∧Reads enc W held m 9 [c0]∧Reads enc W held m 28 [c1]:=by
 obtain⟨y,h,hw⟩:=h
 obtain⟨xs,m,rfl,rfl,hl,hlen,hf⟩:=DataW.trod_struct Tryz.underlying60 h
 obtain⟨c0,c1,rfl⟩:=list2 (hl.trans cells60)
 obtain⟨x0,x1,rfl⟩:=list2 hlen
 refine⟨_,_,m,by omega,rfl,?_,?_⟩
 ·exact⟨x0,by have:=hf 0 _ rfl;simpa[cells9] using this,fun n hn=>hw n (by simp[DataW.weights,DataW.weightsEach,Tryz.underlying60,hn])⟩
 ·exact⟨x1,by have:=hf 1 _ rfl;simpa[cells28] using this,fun n hn=>hw n (by simp[DataW.weights,DataW.weightsEach,Tryz.underlying60,hn])⟩
theorem parts98 {fuel:Nat}{cs:List Value}(h:Reads enc W held fuel 98 cs):∃ c0 c1 c2 c3 c4 c5 m,m<fuel∧cs=[c0,c1,c2,c3,c4,c5]∧Reads enc W held m 9 [c0]∧Reads enc W held m 9 [c1]∧Reads enc W held m 42 [c2,c3]∧Reads enc W held m 96 [c4]∧Reads enc W held m 9 [c5]:=by
 obtain⟨y,h,hw⟩:=h
 obtain⟨xs,m,rfl,rfl,hl,hlen,hf⟩:=DataW.trod_struct Tryz.underlying98 h
 obtain⟨c0,c1,c2,c3,c4,c5,rfl⟩:=list6 (hl.trans cells98)
 obtain⟨x0,x1,x2,x3,x4,rfl⟩:=list5 hlen
 refine⟨_,_,_,_,_,_,m,by omega,rfl,?_,?_,?_,?_,?_⟩
 ·exact⟨x0,by have:=hf 0 _ rfl;simpa[cells9] using this,fun n hn=>hw n (by simp[DataW.weights,DataW.weightsEach,Tryz.underlying98,hn])⟩
 ·exact⟨x1,by have:=hf 1 _ rfl;simpa[cells9] using this,fun n hn=>hw n (by simp[DataW.weights,DataW.weightsEach,Tryz.underlying98,hn])⟩
 ·exact⟨x2,by have:=hf 2 _ rfl;simpa[cells42] using this,fun n hn=>hw n (by simp[DataW.weights,DataW.weightsEach,Tryz.underlying98,hn])⟩
 ·exact⟨x3,by have:=hf 3 _ rfl;simpa[cells96] using this,fun n hn=>hw n (by simp[DataW.weights,DataW.weightsEach,Tryz.underlying98,hn])⟩
 ·exact⟨x4,by have:=hf 4 _ rfl;simpa[cells9] using this,fun n hn=>hw n (by simp[DataW.weights,DataW.weightsEach,Tryz.underlying98,hn])⟩
theorem parts65 {fuel:Nat}{cs:List Value}(h:Reads enc W held fuel 65 cs):∃ c0 c1 c2 m,m<fuel∧cs=[c0,c1,c2]∧Reads enc W held m 9 [c0]∧Reads enc W held m 28 [c1]∧Reads enc W held m 63 [c2]:=by
 obtain⟨y,h,hw⟩:=h
 obtain⟨xs,m,rfl,rfl,hl,hlen,hf⟩:=DataW.trod_struct Tryz.underlying65 h
 obtain⟨c0,c1,c2,rfl⟩:=list3 (hl.trans cells65)
 obtain⟨x0,x1,x2,rfl⟩:=list3 hlen
 refine⟨_,_,_,m,by omega,rfl,?_,?_,?_⟩
 ·exact⟨x0,by have:=hf 0 _ rfl;simpa[cells9] using this,fun n hn=>hw n (by simp[DataW.weights,DataW.weightsEach,Tryz.underlying65,hn])⟩
 ·exact⟨x1,by have:=hf 1 _ rfl;simpa[cells28] using this,fun n hn=>hw n (by simp[DataW.weights,DataW.weightsEach,Tryz.underlying65,hn])⟩
 ·exact⟨x2,by have:=hf 2 _ rfl;simpa[cells63] using this,fun n hn=>hw n (by simp[DataW.weights,DataW.weightsEach,Tryz.underlying65,hn])⟩
theorem parts51 {fuel:Nat}{cs:List Value}(h:Reads enc W held fuel 51 cs):∃ c0 c1 c2 c3 c4 c5 c6 m,m<fuel∧cs=[c0,c1,c2,c3,c4,c5,c6]∧Reads enc W held m 9 [c0]∧Reads enc W held m 49 [c1]∧Reads enc W held m 36 [c2]∧Reads enc W held m 3 [c3]∧Reads enc W held m 45 [c4,c5]∧Reads enc W held m 4 [c6]:=by
 obtain⟨y,h,hw⟩:=h
 obtain⟨xs,m,rfl,rfl,hl,hlen,hf⟩:=DataW.trod_struct Tryz.underlying51 h
 obtain⟨c0,c1,c2,c3,c4,c5,c6,rfl⟩:=list7 (hl.trans cells51)
 obtain⟨x0,x1,x2,x3,x4,x5,rfl⟩:=list6 hlen
 refine⟨_,_,_,_,_,_,_,m,by omega,rfl,?_,?_,?_,?_,?_,?_⟩
 ·exact⟨x0,by have:=hf 0 _ rfl;simpa[cells9] using this,fun n hn=>hw n (by simp[DataW.weights,DataW.weightsEach,Tryz.underlying51,hn])⟩
 ·exact⟨x1,by have:=hf 1 _ rfl;simpa[cells49] using this,fun n hn=>hw n (by simp[DataW.weights,DataW.weightsEach,Tryz.underlying51,hn])⟩
 ·exact⟨x2,by have:=hf 2 _ rfl;simpa[cells36] using this,fun n hn=>hw n (by simp[DataW.weights,DataW.weightsEach,Tryz.underlying51,hn])⟩
 ·exact⟨x3,by have:=hf 3 _ rfl;simpa[cells3] using this,fun n hn=>hw n (by simp[DataW.weights,DataW.weightsEach,Tryz.underlying51,hn])⟩
 ·exact⟨x4,by have:=hf 4 _ rfl;simpa[cells45] using this,fun n hn=>hw n (by simp[DataW.weights,DataW.weightsEach,Tryz.underlying51,hn])⟩
 ·exact⟨x5,by have:=hf 5 _ rfl;simpa[cells4] using this,fun n hn=>hw n (by simp[DataW.weights,DataW.weightsEach,Tryz.underlying51,hn])⟩
theorem parts127 {fuel:Nat}{cs:List Value}(h:Reads enc W held fuel 127 cs):∃ c0 c1 c2 c3 c4 c5 c6 c7 c8 c9 c10 c11 c12 m,m<fuel∧cs=[c0,c1,c2,c3,c4,c5,c6,c7,c8,c9,c10,c11,c12]∧Reads enc W held m 3 [c0]∧Reads enc W held m 9 [c1]∧Reads enc W held m 125 [c2,c3,c4,c5,c6,c7,c8,c9,c10]∧Reads enc W held m 32 [c11]∧Reads enc W held m 32 [c12]:=by
 obtain⟨y,h,hw⟩:=h
 obtain⟨xs,m,rfl,rfl,hl,hlen,hf⟩:=DataW.trod_struct Tryz.underlying127 h
 obtain⟨c0,c1,c2,c3,c4,c5,c6,c7,c8,c9,c10,c11,c12,rfl⟩:=list13 (hl.trans cells127)
 obtain⟨x0,x1,x2,x3,x4,rfl⟩:=list5 hlen
 refine⟨_,_,_,_,_,_,_,_,_,_,_,_,_,m,by omega,rfl,?_,?_,?_,?_,?_⟩
 ·exact⟨x0,by have:=hf 0 _ rfl;simpa[cells3] using this,fun n hn=>hw n (by simp[DataW.weights,DataW.weightsEach,Tryz.underlying127,hn])⟩
 ·exact⟨x1,by have:=hf 1 _ rfl;simpa[cells9] using this,fun n hn=>hw n (by simp[DataW.weights,DataW.weightsEach,Tryz.underlying127,hn])⟩
 ·exact⟨x2,by have:=hf 2 _ rfl;simpa[cells125] using this,fun n hn=>hw n (by simp[DataW.weights,DataW.weightsEach,Tryz.underlying127,hn])⟩
 ·exact⟨x3,by have:=hf 3 _ rfl;simpa[cells32] using this,fun n hn=>hw n (by simp[DataW.weights,DataW.weightsEach,Tryz.underlying127,hn])⟩
 ·exact⟨x4,by have:=hf 4 _ rfl;simpa[cells32] using this,fun n hn=>hw n (by simp[DataW.weights,DataW.weightsEach,Tryz.underlying127,hn])⟩
theorem parts34 {fuel:Nat}{cs:List Value}(h:Reads enc W held fuel 34 cs):∃ c0 c1 c2 c3 c4 c5 m,m<fuel∧cs=[c0,c1,c2,c3,c4,c5]∧Reads enc W held m 27 [c0]∧Reads enc W held m 28 [c1]∧Reads enc W held m 29 [c2]∧Reads enc W held m 30 [c3]∧Reads enc W held m 31 [c4]∧Reads enc W held m 32 [c5]:=by
 obtain⟨y,h,hw⟩:=h
 obtain⟨xs,m,rfl,rfl,hl,hlen,hf⟩:=DataW.trod_struct Tryz.underlying34 h
 obtain⟨c0,c1,c2,c3,c4,c5,rfl⟩:=list6 (hl.trans cells34)
 obtain⟨x0,x1,x2,x3,x4,x5,rfl⟩:=list6 hlen
 refine⟨_,_,_,_,_,_,m,by omega,rfl,?_,?_,?_,?_,?_,?_⟩
 ·exact⟨x0,by have:=hf 0 _ rfl;simpa[cells27] using this,fun n hn=>hw n (by simp[DataW.weights,DataW.weightsEach,Tryz.underlying34,hn])⟩
 ·exact⟨x1,by have:=hf 1 _ rfl;simpa[cells28] using this,fun n hn=>hw n (by simp[DataW.weights,DataW.weightsEach,Tryz.underlying34,hn])⟩
 ·exact⟨x2,by have:=hf 2 _ rfl;simpa[cells29] using this,fun n hn=>hw n (by simp[DataW.weights,DataW.weightsEach,Tryz.underlying34,hn])⟩
 ·exact⟨x3,by have:=hf 3 _ rfl;simpa[cells30] using this,fun n hn=>hw n (by simp[DataW.weights,DataW.weightsEach,Tryz.underlying34,hn])⟩
 ·exact⟨x4,by have:=hf 4 _ rfl;simpa[cells31] using this,fun n hn=>hw n (by simp[DataW.weights,DataW.weightsEach,Tryz.underlying34,hn])⟩
 ·exact⟨x5,by have:=hf 5 _ rfl;simpa[cells32] using this,fun n hn=>hw n (by simp[DataW.weights,DataW.weightsEach,Tryz.underlying34,hn])⟩
theorem open_bits {fuel:Nat}{cs:List Value}(h:Reads enc W held fuel 121 cs):∃ b:Nat,cs=[.int .u64 (hiOf b),.int .u64 (loOf b)]∧Is128 b:=by
 obtain⟨c0,c1,m,_,rfl,g0,g1⟩:=parts121 h
 obtain⟨a,ea,a1,a2⟩:=open_u64 g0
 obtain⟨b,eb,b1,b2⟩:=open_u64 g1
 cases ea;cases eb
 obtain⟨n,hn,rfl,rfl⟩:=words_are a1 a2 b1 b2
 exact⟨n,rfl,hn⟩
theorem open_ref {fuel:Nat}{cs:List Value}(h:Reads enc W held fuel 42 cs):∃ r:Rf,cs=[.string r.head,.string r.name]∧Okt r.head∧Okt r.name:=by
 obtain⟨c0,c1,m,_,rfl,g0,g1⟩:=parts42 h
 obtain⟨a,ea,ha⟩:=open_txt g0
 obtain⟨b,eb,hb⟩:=open_txt g1
 cases ea;cases eb
 exact⟨⟨a,b⟩,rfl,ha,hb⟩
theorem open_opd {fuel:Nat}{cs:List Value}(h:Reads enc W held fuel 123 cs):∃ o:Opd,cs=[.string o.ref.head,.string o.ref.name,.int .u64 (hiOf o.const),.int .u64 (loOf o.const)]∧OpdOk o:=by
 obtain⟨c0,c1,c2,c3,m,_,rfl,g0,g1⟩:=parts123 h
 obtain⟨a,ea,ha,hb⟩:=open_ref g0
 obtain⟨b,eb,hc⟩:=open_bits g1
 cases ea;cases eb
 exact⟨⟨a,b⟩,rfl,ha,hb,hc⟩
theorem open_tst {fuel:Nat}{cs:List Value}(h:Reads enc W held fuel 125 cs):∃ t:Tst,cs=(TstC t).toList∧TstOk t:=by
 obtain⟨c0,c1,c2,c3,c4,c5,c6,c7,c8,m,_,rfl,g0,g1,g2⟩:=parts125 h
 obtain⟨k,ek,hk⟩:=open_int g0
 obtain⟨a,ea,ha⟩:=open_opd g1
 obtain⟨b,eb,hb⟩:=open_opd g2
 cases ek;cases ea;cases eb
 exact⟨⟨k,a,b⟩,rfl,hk,ha,hb⟩
theorem open_fld {fuel:Nat}{cs:List Value}(h:Reads enc W held fuel 82 cs):∃ f:Fld,cs.length=2∧Flat FldC FldOk W cs.toArray f:=by
 obtain⟨c0,c1,m,_,rfl,g0,g1⟩:=parts82 h
 obtain⟨a,ea,ha⟩:=open_txt g0
 obtain⟨b,eb,hb⟩:=open_int g1
 cases ea;cases eb
 exact⟨⟨a,b⟩,rfl,rfl,ha,hb⟩
theorem open_cas {fuel:Nat}{cs:List Value}(h:Reads enc W held fuel 165 cs):∃ f:Cas,cs.length=5∧Flat CasC CasOk W cs.toArray f:=by
 obtain⟨c0,c1,c2,c3,c4,m,_,rfl,g0,g1,g2⟩:=parts165 h
 obtain⟨a,ea,ha⟩:=open_bits g0
 obtain⟨b,eb,hb⟩:=open_bits g1
 obtain⟨c,ec,hc⟩:=open_txt g2
 cases ea;cases eb;cases ec
 exact⟨⟨a,b,c⟩,rfl,rfl,ha,hb,hc⟩
theorem open_stp {fuel:Nat}{cs:List Value}(h:Reads enc W held fuel 167 cs):∃ f:Stp,cs.length=12∧Flat StpC StpOk W cs.toArray f:=by
 obtain⟨c0,c1,c2,c3,c4,c5,c6,c7,c8,c9,c10,c11,m,_,rfl,g0,g1,g2,g3,g4⟩:=parts167 h
 obtain⟨k,ek,hk⟩:=open_int g0
 obtain⟨t,et,ht,ht'⟩:=open_ref g1
 obtain⟨o,eo,ho⟩:=open_int g2
 obtain⟨a,ea,ha⟩:=open_opd g3
 obtain⟨b,eb,hb⟩:=open_opd g4
 cases ek;cases et;cases eo;cases ea;cases eb
 exact⟨⟨k,t,o,a,b⟩,rfl,rfl,hk,ht,ht',ho,ha,hb⟩
theorem open_ky {fuel:Nat}{cs:List Value}(h:Reads enc W held fuel 116 cs):∃ f:Ky,cs.length=3∧Flat KyC KyOk W cs.toArray f:=by
 obtain⟨c0,c1,c2,m,_,rfl,g0,g1⟩:=parts116 h
 obtain⟨a,ea,ha,ha'⟩:=open_ref g0
 obtain⟨b,eb,hb⟩:=open_int g1
 cases ea;cases eb
 exact⟨⟨a,b⟩,rfl,rfl,ha,ha',hb⟩
theorem open_flds {fuel:Nat}{cs:List Value}(h:Reads enc W held fuel 28 cs):∃ v xs,cs=[v]∧FldRow W v xs:=open_row Tryz.underlying28 cells82 (by decide) bytes82 h (fun _ _ _ g=>open_fld g)
theorem open_cass {fuel:Nat}{cs:List Value}(h:Reads enc W held fuel 96 cs):∃ v xs,cs=[v]∧CasRow W v xs:=open_row Tryz.underlying96 cells165 (by decide) bytes165 h (fun _ _ _ g=>open_cas g)
theorem open_stps {fuel:Nat}{cs:List Value}(h:Reads enc W held fuel 63 cs):∃ v xs,cs=[v]∧StpRow W v xs:=open_row Tryz.underlying63 cells167 (by decide) bytes167 h (fun _ _ _ g=>open_stp g)
theorem open_kys {fuel:Nat}{cs:List Value}(h:Reads enc W held fuel 49 cs):∃ v xs,cs=[v]∧KyRow W v xs:=open_row Tryz.underlying49 cells116 (by decide) bytes116 h (fun _ _ _ g=>open_ky g)
theorem open_bitss {fuel : Nat} {cs : List Value} (h : Reads enc W held fuel 43 cs) : ∃ v xs, cs = [v] ∧ BitRow W v xs := open_row Tryz.underlying43 cells121 (by decide) bytes121 h (fun _ _ _ g => by
  obtain ⟨b, rfl, hb⟩ := open_bits g
  exact ⟨b, rfl, rfl, hb⟩)
theorem open_txts {fuel : Nat} {cs : List Value} (h : Reads enc W held fuel 36 cs) : ∃ v xs, cs = [v] ∧ TxtRow W v xs := open_row Tryz.underlying36 cells9 (by decide) bytes9 h (fun _ _ _ g => by
  obtain ⟨b, rfl, hb⟩ := open_txt g
  exact ⟨b, rfl, rfl, hb⟩)
theorem open_call {fuel:Nat}{cs:List Value}(h:Reads enc W held fuel 45 cs):∃(c:Cl)(d:Value),cs=[.string c.action,d]∧Okt c.action∧BitRow W d c.args:=by
 obtain⟨c0,c1,m,_,rfl,g0,g1⟩:=parts45 h
 obtain⟨a,ea,ha⟩:=open_txt g0
 obtain⟨v,xs,eb,hb⟩:=open_bitss g1
 cases ea;cases eb
 exact⟨⟨a,xs⟩,_,rfl,ha,hb⟩
theorem open_hdr {fuel:Nat}{cs:List Value}(h:Reads enc W held fuel 60 cs):∃ x:Hdr,cs.length=2∧HdrIs W cs.toArray x:=by
 obtain⟨c0,c1,m,_,rfl,g0,g1⟩:=parts60 h
 obtain⟨a,ea,ha⟩:=open_txt g0
 obtain⟨v,xs,eb,hb⟩:=open_flds g1
 cases ea;cases eb
 exact⟨⟨a,xs⟩,rfl,_,rfl,ha,hb⟩
theorem open_sta {fuel:Nat}{cs:List Value}(h:Reads enc W held fuel 98 cs):∃ x:Sta,cs.length=6∧StaIs W cs.toArray x:=by
 obtain⟨c0,c1,c2,c3,c4,c5,m,_,rfl,g0,g1,g2,g3,g4⟩:=parts98 h
 obtain⟨a,ea,ha⟩:=open_txt g0
 obtain⟨b,eb,hb⟩:=open_txt g1
 obtain⟨r,er,hr,hr'⟩:=open_ref g2
 obtain⟨v,xs,ec,hc⟩:=open_cass g3
 obtain⟨d,ed,hd⟩:=open_txt g4
 cases ea;cases eb;cases er;cases ec;cases ed
 exact⟨⟨a,b,r,xs,d⟩,rfl,_,rfl,⟨ha,hb,hr,hr',hd⟩,hc⟩
theorem open_act {fuel:Nat}{cs:List Value}(h:Reads enc W held fuel 65 cs):∃ x:Actn,cs.length=3∧ActIs W cs.toArray x:=by
 obtain⟨c0,c1,c2,m,_,rfl,g0,g1,g2⟩:=parts65 h
 obtain⟨a,ea,ha⟩:=open_txt g0
 obtain⟨v,xs,eb,hb⟩:=open_flds g1
 obtain⟨u,ys,ec,hc⟩:=open_stps g2
 cases ea;cases eb;cases ec
 exact⟨⟨a,xs,ys⟩,rfl,_,_,rfl,ha,hb,hc⟩
theorem open_tbl {fuel:Nat}{cs:List Value}(h:Reads enc W held fuel 51 cs):∃ x:Tbl,cs.length=7∧TblIs W cs.toArray x:=by
 obtain⟨c0,c1,c2,c3,c4,c5,c6,m,_,rfl,g0,g1,g2,g3,g4,g5⟩:=parts51 h
 obtain⟨a,ea,ha⟩:=open_txt g0
 obtain⟨v,xs,eb,hb⟩:=open_kys g1
 obtain⟨u,ys,ec,hc⟩:=open_txts g2
 obtain⟨n,en,hn⟩:=open_int g3
 obtain⟨c,d,ed,hd,hd'⟩:=open_call g4
 obtain⟨f,ef⟩:=open_bool g5
 cases ea;cases eb;cases ec;cases en;cases ed;cases ef
 exact⟨⟨a,xs,ys,n,c,f⟩,rfl,_,_,_,rfl,⟨ha,hn,hd⟩,hb,hc,hd'⟩
theorem open_stg:∀(k fuel:Nat)(cs:List Value),fuel≤k→Reads enc W held fuel 127 cs→∃ x:Stg,cs.length=13∧StgIs W x cs.toArray
 | 0,fuel,cs,hk,h=>by
  obtain⟨_,_,_,_,_,_,_,_,_,_,_,_,_,m,hm,_⟩:=parts127 h
  omega
 | k+1,fuel,cs,hk,h=>by
  obtain⟨c0,c1,c2,c3,c4,c5,c6,c7,c8,c9,c10,c11,c12,m,hm,rfl,g0,g1,g2,g3,g4⟩:=parts127 h
  have rows:∀ cs',Reads enc W held m 32 cs'→∃ v xs,cs'=[v]∧StgRow W v xs:=fun cs' g=>by
   obtain⟨v,xs,e,hr,hl⟩:=open_row (Is:=fun w cs x=>StgIs w x cs) Tryz.underlying32 cells127 (by decide) bytes127 g (fun i cs'' hi g'=>open_stg k i cs'' (by omega) g')
   exact⟨v,xs,e,row_stgRow hr hl⟩
  obtain⟨n,en,hn⟩:=open_int g0
  obtain⟨a,ea,ha⟩:=open_txt g1
  obtain⟨t,et,ht⟩:=open_tst g2
  obtain⟨v1,xs1,e1,h1⟩:=rows _ g3
  obtain⟨v2,xs2,e2,h2⟩:=rows _ g4
  cases en;cases ea;cases et;cases e1;cases e2
  exact⟨.mk n a t xs1 xs2,rfl,(stgIs_iff _ _ _).2 ⟨_,_,rfl,⟨hn,ha,ht⟩,h1,h2⟩⟩
theorem open_sch {fuel:Nat}{cs:List Value}(h:Reads enc W held fuel 34 cs):∃ s:Sch,cs.length=6∧SchIs W (.agg cs.toArray) s:=by
 obtain⟨c0,c1,c2,c3,c4,c5,m,_,rfl,g0,g1,g2,g3,g4,g5⟩:=parts34 h
 obtain⟨v0,x0,e0,h0,l0⟩:=open_row Tryz.underlying27 cells60 (by decide) bytes60 g0 (fun _ _ _ g=>open_hdr g)
 obtain⟨v1,x1,e1,h1⟩:=open_flds g1
 obtain⟨v2,x2,e2,h2,l2⟩:=open_row Tryz.underlying29 cells98 (by decide) bytes98 g2 (fun _ _ _ g=>open_sta g)
 obtain⟨v3,x3,e3,h3,l3⟩:=open_row Tryz.underlying30 cells65 (by decide) bytes65 g3 (fun _ _ _ g=>open_act g)
 obtain⟨v4,x4,e4,h4,l4⟩:=open_row Tryz.underlying31 cells51 (by decide) bytes51 g4 (fun _ _ _ g=>open_tbl g)
 obtain⟨v5,x5,e5,h5,l5⟩:=open_row (Is:=fun w cs x=>StgIs w x cs) Tryz.underlying32 cells127 (by decide) bytes127 g5 (fun i cs' _ g=>open_stg i i cs' (Nat.le_refl _) g)
 cases e0;cases e1;cases e2;cases e3;cases e4;cases e5
 exact⟨⟨x0,x1,x2,x3,x4,x5⟩,rfl,_,_,_,_,_,_,rfl,⟨h0,l0⟩,h1,⟨h2,l2⟩,⟨h3,l3⟩,⟨h4,l4⟩,row_stgRow h5 l5⟩
end
end Go.Proofs.YtmbpclknhkbbkaaGreat
namespace Go.Proofs.YtmbpclknhkbbkaaGreat
open Go.ChangeShapes Go.WideShapes Go.ChangeAt Go.RowKit Go.Joins
theorem knob:ownKnob Tryz.prog.godebug=none:=by kernel_rfl
theorem laidOut:laidOutB Tryz.prog=true:=by kernel_rfl
end Go.Proofs.YtmbpclknhkbbkaaGreat
