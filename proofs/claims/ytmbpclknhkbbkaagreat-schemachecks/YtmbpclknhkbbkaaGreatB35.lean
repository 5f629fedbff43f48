/- Maps of the calls' own, as functions o. -/
import Derived.Maps.Own
import Derived.Maps.OwnOps
import Derived.Maps.OwnSet
import Derived.Maps.Keyed
import Derived.StringKeys
import Derived.DeepKeys4
import Derived.Test.YtmbpclknhkbbkaaGreatB24
import Derived.Defers
import Derived.Recover
import Derived.Test.YtmbpclknhkbbkaaGreatB29
set_option linter.unusedSimpArgs false
set_option linter.unusedVariables false
set_option maxHeartbeats 2000000
set_option maxRecDepth 100000
namespace Go.Proofs.YtmbpclknhkbbkaaGreat
open Go.RowKit Go.Maps
theorem law9:Keyed Tryz.prog 9:=string_keyed Tryz.underlying9
theorem laid:laidOutB Tryz.prog=true:=by kernel_rfl
theorem law42:Keyed Tryz.prog 42:=Keyed.of_law (deep_law_laid laid (m:=5) (by decide) (of_decide_eq_true (by kernel_rfl)) (by kernel_rfl) (by kernel_rfl))
theorem law165:Keyed Tryz.prog 165:=Keyed.of_law (deep_law_laid laid (m:=5) (by decide) (of_decide_eq_true (by kernel_rfl)) (by kernel_rfl) (by kernel_rfl))
theorem zero3 (w:World):(zeroValue 3).run Tryz.prog w=.ok (.int .i64 0) w:=by kernel_rfl
theorem key9 {s:ByteArray}(hs:Okt s):∃ l,keyOf Tryz.prog 9 (.string s)=some l:=⟨_,Go.WideMaps.keyOf_string_mk Tryz.underlying9 (by unfold Okt at hs;unfold maxLen;omega)⟩
theorem types_some:∃ m,Tryz.prog.types.size=m+2:=⟨Tryz.prog.types.size - 2,by have:2≤Tryz.prog.types.size:=of_decide_eq_true (by kernel_rfl);omega⟩
theorem lits9 (m:Nat){s:ByteArray}(hs:Okt s):Tryz.prog.keyLits (m+1) 9 [.string s]=some [.string s.data.toList]:=by
 unfold Program.keyLits
 rw[Tryz.underlying9]
 simp only
 rw[if_pos (by unfold Okt at hs;unfold maxLen;omega)]
theorem lits119 (m:Nat){n:Int}(hn:(Lit.int .u64 n).wf=true):Tryz.prog.keyLits (m+1) 119 [.int .u64 n]=some [.int .u64 n]:=by
 unfold Program.keyLits
 rw[Tryz.underlying119]
 simp only
 rw[if_pos ⟨trivial,hn⟩]
theorem c9:Tryz.prog.cellsOf 9=1:=by kernel_rfl
theorem c42:Tryz.prog.cellsOf 42=2:=by kernel_rfl
theorem c119:Tryz.prog.cellsOf 119=1:=by kernel_rfl
theorem c121:Tryz.prog.cellsOf 121=2:=by kernel_rfl
theorem c165:Tryz.prog.cellsOf 165=5:=by kernel_rfl
theorem lits121 (m:Nat){a b:Int}(ha:(Lit.int .u64 a).wf=true)(hb:(Lit.int .u64 b).wf=true):Tryz.prog.keyLits (m+2) 121 [.int .u64 a,.int .u64 b]=some [.int .u64 a,.int .u64 b]:=by
 unfold Program.keyLits
 rw[Tryz.underlying121]
 simp[c121,c119,lits119 m ha,lits119 m hb]
theorem key42 {a b:ByteArray}(ha:Okt a)(hb:Okt b):∃ l,keyOf Tryz.prog 42 (.agg #[.string a,.string b])=some l:=by
 have h1:Tryz.prog.keyType 42=true:=by kernel_rfl
 have h2:(Value.agg #[.string a,.string b]).formed Tryz.prog 42=true:=by kernel_rfl
 obtain⟨m,hm⟩:=types_some
 unfold keyOf
 rw[Tryz.underlying42]
 simp only[h1,h2,Bool.and_self,if_true,hm,Value.cells]
 unfold Program.keyLits
 rw[Tryz.underlying42]
 simp[c42,c9,lits9 (m+1) ha,lits9 (m+1) hb]
theorem key165 {a b c d:Int}{s:ByteArray}(ha:(Lit.int .u64 a).wf=true)(hb:(Lit.int .u64 b).wf=true)(hc:(Lit.int .u64 c).wf=true)(hd:(Lit.int .u64 d).wf=true)(hs:Okt s):∃ l,keyOf Tryz.prog 165 (.agg #[.int .u64 a,.int .u64 b,.int .u64 c,.int .u64 d,.string s])=some l:=by
 have h1:Tryz.prog.keyType 165=true:=by kernel_rfl
 have h2:(Value.agg #[.int .u64 a,.int .u64 b,.int .u64 c,.int .u64 d,.string s]).formed Tryz.prog 165=true:=by kernel_rfl
 obtain⟨m,hm⟩:=types_some
 unfold keyOf
 rw[Tryz.underlying165]
 simp only[h1,h2,Bool.and_self,if_true,hm,Value.cells]
 unfold Program.keyLits
 rw[Tryz.underlying165]
 simp[c165,c121,c9,lits9 (m+1) hs,lits121 m ha hb,lits121 m hc hd]
def MapOf (K:TypeId)(w:World)(b n:Nat)(f:Value→Option Int):Prop:=
 ∃ es clock,w.heap[b]?=some (.map es clock)∧es.size=n∧es.toList.Pairwise (fun x y=>x.key≠y.key)∧(∀ e ∈ es.toList,∃ l,keyOf Tryz.prog K e.key=some l)∧(∀ e ∈ es.toList,∃ c,e.val=.int .i64 c∧f e.key=some c)∧∀ v,(∃ l,keyOf Tryz.prog K v=some l)→(∀ e ∈ es.toList,e.key≠v)→f v=none
theorem MapOf.new (K:TypeId)(w:World):MapOf K (w.alloc (.map #[] 0)) w.heap.size 0 (fun _=>none):=
 ⟨#[],0,(MapKept.heap_alloc w _).1,rfl,by simp,by simp,by simp,fun _ _ _=>rfl⟩
theorem MapOf.lt {K:TypeId}{w:World}{b n:Nat}{f:Value→Option Int}(h:MapOf K w b n f):b<w.heap.size:=by obtain⟨es,clock,h,_⟩:=h;exact(Array.getElem?_eq_some_iff.1 h).1
theorem MapOf.kept {K:TypeId}{S:Nat→Prop}{w w':World}{b n:Nat}{f:Value→Option Int}(h:MapOf K w b n f)(hk:Kept S w w')(hb:¬ S b):MapOf K w' b n f:=by
 have hl:=h.lt
 obtain⟨es,clock,hh,r⟩:=h
 exact⟨es,clock,(hk.block b hl hb).trans hh,r⟩
theorem MapOf.below {K:TypeId}{w w':World}{b n:Nat}{f:Value→Option Int}(h:MapOf K w b n f)(hk:Below w.heap.size w w'):MapOf K w' b n f:=h.kept (Kept.of_below (S:=fun _=>False) hk) (fun h=>h)
theorem MapOf.look_any {K t:TypeId}{w:World}{b n:Nat}{f:Value→Option Int}(h:MapOf K w b n f)(law:Keyed Tryz.prog K)(ht:Tryz.prog.underlying t=some (.map K 3)){k:Value}(hk:∃ l,keyOf Tryz.prog K k=some l)(c:Bool):
  (Instr.lookup t (.map (some b)) k c).run Tryz.prog w=.ok (if c then .tuple #[.int .i64 ((f k).getD 0),.bool (f k).isSome] else .int .i64 ((f k).getD 0)) w:=by
 obtain⟨es,clock,hb,_,_,hks,hvs,hno⟩:=h
 obtain⟨l,hkey⟩:=hk
 rcases law.find w hkey es.toList hks with⟨h1,h2⟩|⟨j,e0,h1,h2,h3⟩
 ·rw[hno k ⟨l,hkey⟩ h2]
  simp[Instr.lookup,run_underlying ht,MapKept.run_getObj_map hb,law.check w _ hkey,h1,zero3 w,Result.andThen]
 ·obtain⟨d,hd,hf⟩:=hvs e0 (List.mem_of_getElem? h2)
  rw[h3] at hf
  rw[hf]
  simp[Instr.lookup,run_underlying ht,MapKept.run_getObj_map hb,law.check w _ hkey,h1,Result.andThen,hd]
theorem MapOf.look {K t:TypeId}{w:World}{b n:Nat}{f:Value→Option Int}(h:MapOf K w b n f)(law:Keyed Tryz.prog K)(ht:Tryz.prog.underlying t=some (.map K 3)){k:Value}(hk:∃ l,keyOf Tryz.prog K k=some l):
  (Instr.lookup t (.map (some b)) k true).run Tryz.prog w=.ok (.tuple #[.int .i64 ((f k).getD 0),.bool (f k).isSome]) w:=h.look_any law ht hk true
theorem MapOf.look1 {K t:TypeId}{w:World}{b n:Nat}{f:Value→Option Int}(h:MapOf K w b n f)(law:Keyed Tryz.prog K)(ht:Tryz.prog.underlying t=some (.map K 3)){k:Value}(hk:∃ l,keyOf Tryz.prog K k=some l):
  (Instr.lookup t (.map (some b)) k false).run Tryz.prog w=.ok (.int .i64 ((f k).getD 0)) w:=h.look_any law ht hk false
theorem putF_ex (f:Value→Option Int)(k:Value)(c:Int):∃ g:Value→Option Int,g k=some c∧∀ x,x≠k→g x=f x:=by
 classical
 exact⟨fun x=>if x=k then some c else f x,if_pos rfl,fun x hx=>if_neg hx⟩
theorem grown_set {w:World}{b:Nat}{o:Obj}:w.grownBy { w with heap:=w.heap.setIfInBounds b o } (some b):=
 ⟨rfl, rfl, rfl, by simp, fun i _ hi => by
   show (w.heap.setIfInBounds b o)[i]? = _
   rw [Array.getElem?_setIfInBounds_ne (fun e => hi (by rw [e]))]⟩
theorem MapOf.put {K t:TypeId}{w:World}{b n:Nat}{f:Value→Option Int}(h:MapOf K w b n f)(law:Keyed Tryz.prog K)(ht:Tryz.prog.underlying t=some (.map K 3)){k:Value}{c:Int}(hk:∃ l,keyOf Tryz.prog K k=some l):
  ∃ w',(Instr.mapUpdate t (.map (some b)) k (.int .i64 c)).run Tryz.prog w=.ok () w'∧(∃ g,MapOf K w' b (if(f k).isSome=true then n else n+1) g∧g k=some c∧∀ x,x≠k→g x=f x)∧w.grownBy w' (some b):=by
 have hlt:=h.lt
 obtain⟨es,clock,hb,hn,hp,hks,hvs,hno⟩:=h
 obtain⟨g,hg1,hg2⟩:=putF_ex f k c
 have hk':=hk
 obtain⟨l,hkey⟩:=hk
 rcases law.find w hkey es.toList hks with⟨h1,h2⟩|⟨j,e0,h1,h2,h3⟩
 ·have hf:=hno k ⟨l,hkey⟩ h2
  refine⟨{ w with heap:=w.heap.setIfInBounds b (.map (es.push ⟨k,.int .i64 c,clock⟩) (clock+1)) },by simp[Instr.mapUpdate,run_underlying ht,MapKept.run_getObj_map hb,law.check w false hkey,h1,MapKept.run_setObj_map _ hb,Result.andThen],⟨g,⟨es.push ⟨k,.int .i64 c,clock⟩,clock+1,?_,?_,?_,?_,?_,?_⟩,hg1,hg2⟩,grown_set⟩
  ·show(w.heap.setIfInBounds b _)[b]?=_
   rw[Array.getElem?_setIfInBounds_self_of_lt hlt]
  ·rw[hf];simp[hn]
  ·rw[Array.toList_push,List.pairwise_append]
   refine⟨hp,by simp,fun x hx y hy=>?_⟩
   simp at hy
   rw[hy];exact h2 x hx
  ·intro e he
   simp only[Array.toList_push,List.mem_append,List.mem_singleton] at he
   rcases he with he|rfl
   ·exact hks e he
   ·exact⟨l,hkey⟩
  ·intro e he
   simp only[Array.toList_push,List.mem_append,List.mem_singleton] at he
   rcases he with he|rfl
   ·obtain⟨d,h4,h5⟩:=hvs e he
    exact⟨d,h4,by rw[hg2 _ (h2 e he)];exact h5⟩
   ·exact⟨c,rfl,hg1⟩
  ·intro v hv hne
   simp only[Array.toList_push,List.mem_append,List.mem_singleton] at hne
   rw[hg2 v (fun e=>hne _ (.inr rfl) e.symm)]
   exact hno v hv (fun e he=>hne e (.inl he))
 ·have hj:es[j]?=some e0:=by simpa using h2
  obtain⟨d0,h4,h5⟩:=hvs e0 (List.mem_of_getElem? h2)
  rw[h3] at h5
  have hlist:(es.modify j (fun e'=>{ e' with key:=k,val:=.int .i64 c })).toList=es.toList.set j { e0 with key:=k,val:=.int .i64 c }:=by rw[Array.toList_modify,ChangeMaps.modify_eq_set _ _ _ _ h2]
  have hjl:j<es.toList.length:=(List.getElem?_eq_some_iff.1 h2).1
  have who:∀ x ∈ es.toList.set j { e0 with key:=k,val:=.int .i64 c },x={ e0 with key:=k,val:=.int .i64 c }∨(x ∈ es.toList∧x.key≠k):=by
   intro x hx
   obtain⟨i,hi,ex⟩:=List.getElem_of_mem hx
   rw[List.getElem_set] at ex
   split at ex
   ·exact .inl ex.symm
   ·rename_i hne
    have hi':i<es.toList.length:=by simpa using hi
    refine .inr ⟨ex ▸ List.getElem_mem hi',fun e=>?_⟩
    have hej:es.toList[j]=e0:=by have:=h2;rw[List.getElem?_eq_getElem hjl] at this;exact Option.some.inj this
    rcases Nat.lt_or_gt_of_ne hne with hl|hl
    ·exact(List.pairwise_iff_getElem.1 hp j i hjl hi' hl) (by rw[hej,h3,ex,e])
    ·exact(List.pairwise_iff_getElem.1 hp i j hi' hjl hl) (by rw[hej,h3,ex,e])
  refine⟨{ w with heap:=w.heap.setIfInBounds b (.map (es.modify j (fun e'=>{ e' with key:=k,val:=.int .i64 c })) clock) },by simp[Instr.mapUpdate,run_underlying ht,MapKept.run_getObj_map hb,law.check w false hkey,h1,hj,h3,law.stays w hkey,MapKept.run_setObj_map _ hb,Result.andThen],⟨g,⟨es.modify j (fun e'=>{ e' with key:=k,val:=.int .i64 c }),clock,?_,?_,?_,?_,?_,?_⟩,hg1,hg2⟩,grown_set⟩
  ·show(w.heap.setIfInBounds b _)[b]?=_
   rw[Array.getElem?_setIfInBounds_self_of_lt hlt]
  ·rw[h5];simp[hn]
  ·rw[hlist,List.pairwise_iff_getElem]
   intro i i' hi hi' hl
   have hi1:i<es.toList.length:=by simpa using hi
   have hi2:i'<es.toList.length:=by simpa using hi'
   have hej:es.toList[j]=e0:=by have:=h2;rw[List.getElem?_eq_getElem hjl] at this;exact Option.some.inj this
   have key:∀ i (hi:i<(es.toList.set j { e0 with key:=k,val:=.int .i64 c }).length) (hi1:i<es.toList.length),((es.toList.set j { e0 with key:=k,val:=.int .i64 c })[i]).key=(es.toList[i]).key:=by
    intro i hi hi1
    rw[List.getElem_set]
    split
    ·rename_i e;subst e;rw[hej,h3]
    ·rfl
   rw[key i hi hi1,key i' hi' hi2]
   exact List.pairwise_iff_getElem.1 hp i i' hi1 hi2 hl
  ·intro x hx
   rw[hlist] at hx
   rcases who x hx with rfl|⟨hx,_⟩
   ·exact⟨l,hkey⟩
   ·exact hks x hx
  ·intro x hx
   rw[hlist] at hx
   rcases who x hx with rfl|⟨hx,hne⟩
   ·exact⟨c,rfl,hg1⟩
   ·obtain⟨d,h6,h7⟩:=hvs x hx
    exact⟨d,h6,by rw[hg2 _ hne];exact h7⟩
  ·intro v hv hne
   rw[hlist] at hne
   have hvk:v≠k:=fun e=>hne { e0 with key:=k,val:=.int .i64 c } (List.mem_iff_getElem.2 ⟨j,by simpa using hjl,by simp⟩) e.symm
   rw[hg2 v hvk]
   refine hno v hv (fun e he ek=>?_)
   obtain⟨i,hi,rfl⟩:=List.getElem_of_mem he
   by_cases hij:i=j
   ·subst hij
    have hej:es.toList[i]=e0:=by have:=h2;rw[List.getElem?_eq_getElem hjl] at this;exact Option.some.inj this
    rw[hej,h3] at ek
    exact hvk ek.symm
   ·refine hne (es.toList[i]) (List.mem_iff_getElem.2 ⟨i,by simpa using hi,?_⟩) ek
    rw[List.getElem_set,if_neg (fun e=>hij e.symm)]
theorem MapOf.len {K t:TypeId}{w:World}{b n:Nat}{f:Value→Option Int}(h:MapOf K w b n f)(ht:Tryz.prog.underlying t=some (.map K 3))(ty:TypeId):(Builtin.len_ #[t] ty #[.map (some b)]).run Tryz.prog w=.ok (.int .i64 (n:Int)) w:=by
 obtain⟨es,clock,hb,hn,_⟩:=h
 rw[← hn]
 simp[Builtin.len_,run_underlying ht,MapKept.run_getObj_map hb,goInt,Result.andThen]
def MapT (w:World)(b n:Nat)(g:ByteArray→Option Int):Prop:=∃ f,MapOf 9 w b n f∧∀ s,f (.string s)=g s
def MapR (w:World)(b n:Nat)(g:Rf→Option Int):Prop:=∃ f,MapOf 42 w b n f∧∀ r:Rf,f (.agg #[.string r.head,.string r.name])=g r
abbrev CasK (x:Nat × Nat):Value:=.agg #[.int .u64 (hiOf x.1),.int .u64 (loOf x.1),.int .u64 (hiOf x.2),.int .u64 (loOf x.2),.string ByteArray.empty]
def MapC (w:World)(b n:Nat)(g:Nat × Nat→Option Int):Prop:=∃ f,MapOf 165 w b n f∧∀ x,Is128 x.1→Is128 x.2→f (CasK x)=g x
theorem MapT.new (w:World):MapT (w.alloc (.map #[] 0)) w.heap.size 0 (fun _=>none):=⟨_,MapOf.new 9 w,fun _=>rfl⟩
theorem MapR.new (w:World):MapR (w.alloc (.map #[] 0)) w.heap.size 0 (fun _=>none):=⟨_,MapOf.new 42 w,fun _=>rfl⟩
theorem MapC.new (w:World):MapC (w.alloc (.map #[] 0)) w.heap.size 0 (fun _=>none):=⟨_,MapOf.new 165 w,fun _ _ _=>rfl⟩
theorem MapT.lt {w:World}{b n:Nat}{g:ByteArray→Option Int}(h:MapT w b n g):b<w.heap.size:=by obtain⟨f,h,_⟩:=h;exact h.lt
theorem MapR.lt {w:World}{b n:Nat}{g:Rf→Option Int}(h:MapR w b n g):b<w.heap.size:=by obtain⟨f,h,_⟩:=h;exact h.lt
theorem MapC.lt {w:World}{b n:Nat}{g:Nat × Nat→Option Int}(h:MapC w b n g):b<w.heap.size:=by obtain⟨f,h,_⟩:=h;exact h.lt
theorem MapT.kept {S:Nat→Prop}{w w':World}{b n:Nat}{g:ByteArray→Option Int}(h:MapT w b n g)(hk:Kept S w w')(hb:¬ S b):MapT w' b n g:=by obtain⟨f,h,e⟩:=h;exact⟨f,h.kept hk hb,e⟩
theorem MapR.kept {S:Nat→Prop}{w w':World}{b n:Nat}{g:Rf→Option Int}(h:MapR w b n g)(hk:Kept S w w')(hb:¬ S b):MapR w' b n g:=by obtain⟨f,h,e⟩:=h;exact⟨f,h.kept hk hb,e⟩
theorem MapC.kept {S:Nat→Prop}{w w':World}{b n:Nat}{g:Nat × Nat→Option Int}(h:MapC w b n g)(hk:Kept S w w')(hb:¬ S b):MapC w' b n g:=by obtain⟨f,h,e⟩:=h;exact⟨f,h.kept hk hb,e⟩
theorem MapT.below {w w':World}{b n:Nat}{g:ByteArray→Option Int}(h:MapT w b n g)(hk:Below w.heap.size w w'):MapT w' b n g:=by obtain⟨f,h,e⟩:=h;exact⟨f,h.below hk,e⟩
theorem MapR.below {w w':World}{b n:Nat}{g:Rf→Option Int}(h:MapR w b n g)(hk:Below w.heap.size w w'):MapR w' b n g:=by obtain⟨f,h,e⟩:=h;exact⟨f,h.below hk,e⟩
theorem MapC.below {w w':World}{b n:Nat}{g:Nat × Nat→Option Int}(h:MapC w b n g)(hk:Below w.heap.size w w'):MapC w' b n g:=by obtain⟨f,h,e⟩:=h;exact⟨f,h.below hk,e⟩
theorem MapT.look {w:World}{b n:Nat}{g:ByteArray→Option Int}(h:MapT w b n g){s:ByteArray}(hs:Okt s):(Instr.lookup 108 (.map (some b)) (.string s) true).run Tryz.prog w=.ok (.tuple #[.int .i64 ((g s).getD 0),.bool (g s).isSome]) w:=by
 obtain⟨f,h,e⟩:=h;rw[h.look law9 Tryz.underlying108 (key9 hs),e]
theorem MapR.look {w:World}{b n:Nat}{g:Rf→Option Int}(h:MapR w b n g)(r:Rf)(h1:Okt r.head)(h2:Okt r.name):(Instr.lookup 107 (.map (some b)) (.agg #[.string r.head,.string r.name]) true).run Tryz.prog w=.ok (.tuple #[.int .i64 ((g r).getD 0),.bool (g r).isSome]) w:=by
 obtain⟨f,h,e⟩:=h;rw[h.look law42 Tryz.underlying107 (key42 h1 h2),e]
theorem MapR.look1 {w:World}{b n:Nat}{g:Rf→Option Int}(h:MapR w b n g)(r:Rf)(h1:Okt r.head)(h2:Okt r.name):(Instr.lookup 107 (.map (some b)) (.agg #[.string r.head,.string r.name]) false).run Tryz.prog w=.ok (.int .i64 ((g r).getD 0)) w:=by
 obtain⟨f,h,e⟩:=h;rw[h.look1 law42 Tryz.underlying107 (key42 h1 h2),e]
theorem wf_u64 {n:Int}(h0:0≤n)(h1:n<18446744073709551616):(Lit.int .u64 n).wf=true:=WalkArith.wf_u64 ⟨h0,by omega⟩
theorem wf_hi {n:Nat}(h:Is128 n):(Lit.int .u64 (hiOf n)).wf=true:=wf_u64 (hiOf_nonneg n) (hiOf_lt h)
theorem wf_lo (n:Nat):(Lit.int .u64 (loOf n)).wf=true:=wf_u64 (loOf_nonneg n) (loOf_lt n)
theorem okt_empty:Okt ByteArray.empty:=by unfold Okt;decide
theorem keyC {x:Nat × Nat}(h1:Is128 x.1)(h2:Is128 x.2):∃ l,keyOf Tryz.prog 165 (CasK x)=some l:=key165 (wf_hi h1) (wf_lo _) (wf_hi h2) (wf_lo _) okt_empty
theorem casK_inj {x y:Nat × Nat}(h:CasK x=CasK y):x=y:=by
 simp only[CasK,Value.agg.injEq,Array.mk.injEq,List.cons.injEq,Value.int.injEq,true_and,and_true] at h
 obtain⟨h1,h2,h3,h4⟩:=h
 unfold hiOf at h1 h3
 unfold loOf at h2 h4
 have a1:x.1=y.1:=by omega
 have a2:x.2=y.2:=by omega
 exact Prod.ext a1 a2
theorem MapC.look {w:World}{b n:Nat}{g:Nat × Nat→Option Int}(h:MapC w b n g){x:Nat × Nat}(h1:Is128 x.1)(h2:Is128 x.2):(Instr.lookup 227 (.map (some b)) (CasK x) true).run Tryz.prog w=.ok (.tuple #[.int .i64 ((g x).getD 0),.bool (g x).isSome]) w:=by
 obtain⟨f,h,e⟩:=h;rw[h.look law165 Tryz.underlying227 (keyC h1 h2),e x h1 h2]
theorem MapT.put {w:World}{b n:Nat}{g:ByteArray→Option Int}(h:MapT w b n g){s:ByteArray}{c:Int}(hs:Okt s):
  ∃ w',(Instr.mapUpdate 108 (.map (some b)) (.string s) (.int .i64 c)).run Tryz.prog w=.ok () w'∧MapT w' b (if(g s).isSome=true then n else n+1) (fun x=>if x=s then some c else g x)∧w.grownBy w' (some b):=by
 obtain⟨f,h,e⟩:=h
 obtain⟨w',h1,⟨f',h2,h3,h4⟩,h5⟩:=h.put (c:=c) law9 Tryz.underlying108 (key9 hs)
 rw[e s] at h2
 refine⟨w',h1,⟨f',h2,fun x=>?_⟩,h5⟩
 dsimp only
 by_cases hx:x=s
 ·subst hx;rw[if_pos rfl,h3]
 ·rw[if_neg hx,h4 _ (by simpa using hx),e]
theorem MapR.put {w:World}{b n:Nat}{g:Rf→Option Int}(h:MapR w b n g){r:Rf}{c:Int}(h1:Okt r.head)(h2:Okt r.name):
  ∃ w',(Instr.mapUpdate 107 (.map (some b)) (.agg #[.string r.head,.string r.name]) (.int .i64 c)).run Tryz.prog w=.ok () w'∧MapR w' b (if(g r).isSome=true then n else n+1) (fun x=>if x=r then some c else g x)∧w.grownBy w' (some b):=by
 obtain⟨f,h,e⟩:=h
 obtain⟨w',h1,⟨f',h2,h3,h4⟩,h5⟩:=h.put (c:=c) law42 Tryz.underlying107 (key42 h1 h2)
 rw[e r] at h2
 refine⟨w',h1,⟨f',h2,fun x=>?_⟩,h5⟩
 dsimp only
 by_cases hx:x=r
 ·subst hx;rw[if_pos rfl,h3]
 ·rw[if_neg hx,h4 _ (fun he=>hx (by simp at he;cases x;cases r;simp_all)),e]
theorem MapC.put {w:World}{b n:Nat}{g:Nat × Nat→Option Int}(h:MapC w b n g){y:Nat × Nat}{c:Int}(h1:Is128 y.1)(h2:Is128 y.2):
  ∃ w',(Instr.mapUpdate 227 (.map (some b)) (CasK y) (.int .i64 c)).run Tryz.prog w=.ok () w'∧MapC w' b (if(g y).isSome=true then n else n+1) (fun x=>if x=y then some c else g x)∧w.grownBy w' (some b):=by
 obtain⟨f,h,e⟩:=h
 obtain⟨w',h3,⟨f',h4,h5,h6⟩,h7⟩:=h.put (c:=c) law165 Tryz.underlying227 (keyC h1 h2)
 rw[e y h1 h2] at h4
 refine⟨w',h3,⟨f',h4,fun x hx1 hx2=>?_⟩,h7⟩
 dsimp only
 by_cases hx:x=y
 ·subst hx;rw[if_pos rfl,h5]
 ·rw[if_neg hx,h6 _ (fun he=>hx (casK_inj he)),e x hx1 hx2]
theorem MapT.len {w:World}{b n:Nat}{g:ByteArray→Option Int}(h:MapT w b n g)(ty:TypeId):(Builtin.len_ #[108] ty #[.map (some b)]).run Tryz.prog w=.ok (.int .i64 (n:Int)) w:=by
 obtain⟨f,h,e⟩:=h;exact h.len Tryz.underlying108 ty
theorem indexTxt_any (v:Value)(xs:List ByteArray)(w:World)(hr:Row 1 (Flat TxtC Okt) w v xs)(hlen:xs.length≤140737488351232)(s:ByteArray):
  Calls Tryz.prog 221 #[v,.string s] w fun e w'=>e=.returned (.int .i64 (idxF (fun x:ByteArray=>decide (s=x)) xs 0))∧Below w.heap.size w w':=by
 obtain⟨ad,cap,rfl,_⟩:=hr.slice
 have HR:Hid (Row 1 (Flat TxtC Okt) w (.slice ad xs.length cap) xs):=hr
 obtain⟨R,hR⟩:∃ R,R=idxF (fun x:ByteArray=>decide (s=x)) xs 0:=⟨_,rfl⟩
 have H0:Hid (idxF (fun x:ByteArray=>decide (s=x)) (xs.drop 0) 0=R):=by rw[hR];rfl
 rw[← hR]
 clear hr hR
 obtain⟨n,hn⟩:∃ n,n=xs.length:=⟨_,rfl⟩
 have HL:Hid (n=xs.length):=hn
 rw[← hn] at hlen HR ⊢
 clear hn
 go_enter Tryz.func221,Tryz.ntmps221
 go_wp2_with fail
 go_loopw [8] (fun i wr=>∃ k:Nat,k≤n∧i=.int .i64 k∧Below w.heap.size w wr∧idxF (fun x:ByteArray=>decide (s=x)) (xs.drop k) k=R) (fun i _=>n - (intOf i).toNat)
 case atStart=>exact⟨0,by omega,rfl,Below.refl _ _,H0.out⟩
 case round=>
  obtain⟨k,hk,rfl,hb,hd⟩:=hrel
  by_cases hlt:k<n
  ·obtain⟨x,hx⟩:=gE HL.out hlt
   obtain⟨b,o,cs,rfl,_,hc,rfl,_⟩:=HR.out.at hx
   have q0:wr.cell? ⟨b,o+k,none⟩=some (.string x):=by have:=pres_below hb _ _ (hc 0 (.string x) rfl);simpa using this
   have HB:Hid (Bl w wr):=hb
   by_cases hs:s=x
   ·subst hs
    have HD:Hid (R=(k:Int)):=by
     rw[idx_yes hx (by simp)] at hd
     exact hd.symm
    clear hd hc hx hb
    go_wp2
    go_ret
    exact⟨by rw[HD.out];rfl,HB.out⟩
   ·have ht:(s.toList==x.toList)=false:=by rw[txt_eq];exact decide_eq_false hs
    have HD:Hid (idxF (fun x:ByteArray=>decide (s=x)) (xs.drop (k+1)) (k+1)=R):=by
     rw[idx_no hx (by simpa using hs)] at hd
     exact hd
    clear hd hc hx hb
    go_wp2
    exact⟨⟨k+1,by omega,by go_num,HB.out,HD.out⟩,by simp only[intOf];omega⟩
  ·have e:k=n:=by omega
   have HD:Hid (R = -1):=by
    rw[e,HL.out,idx_end] at hd
    exact hd.symm
   clear hd
   subst e
   go_wp2
   go_ret
   exact⟨by rw[HD.out];rfl,hb⟩
def hasT (xs:List ByteArray)(s:ByteArray):Bool:=xs.any fun x=>decide (s=x)
theorem containsTxt_any (v:Value)(xs:List ByteArray)(w:World)(hr:Row 1 (Flat TxtC Okt) w v xs)(hlen:xs.length≤140737488351232)(s:ByteArray):
  Calls Tryz.prog 166 #[v,.string s] w fun e w'=>e=.returned (.bool (hasT xs s))∧Below w.heap.size w w':=by
 rcases idx_cases (fun x:ByteArray=>decide (s=x)) xs 0 with⟨h,hno⟩|⟨i,x,h1,h2,h3,h4,_⟩
 ·have C:=indexTxt_any v xs w hr hlen s
  rw[h] at C
  have HE:Hid (hasT xs s=false):=by
   show hasT xs s=false
   rw[hasT,List.any_eq_false]
   intro x hx
   have:=hno x hx
   simpa using this
  have C:Hid (Cs 221 #[v,.string s] w fun e w'=>e=.returned (.int .i64 (-1))∧Bl w w'):=C
  clear hr h hno
  go_enter Tryz.func166,Tryz.ntmps166
  go_wp2_with fail
  refine C.out.mono ?_
  rintro e w1 ⟨rfl,hb⟩
  go_wp2
  go_ret
  exact⟨by rw[HE.out];rfl,hb⟩
 ·have C:=indexTxt_any v xs w hr hlen s
  rw[h4,Nat.zero_add] at C
  have HE:Hid (hasT xs s=true):=by
   show hasT xs s=true
   rw[hasT,List.any_eq_true]
   exact⟨x,List.mem_of_getElem? h2,h3⟩
  have C:Hid (Cs 221 #[v,.string s] w fun e w'=>e=.returned (.int .i64 (i:Int))∧Bl w w'):=C
  have hge:(0:Int)≤(i:Int):=by omega
  clear hr h1 h2 h3 h4
  go_enter Tryz.func166,Tryz.ntmps166
  go_wp2_with fail
  refine C.out.mono ?_
  rintro e w1 ⟨rfl,hb⟩
  go_wp2
  go_ret
  exact⟨by rw[HE.out];rfl,hb⟩
theorem fits168_any (n:Nat)(hn:Is128 n)(f:Fld)(w:World):Calls Tryz.prog 168 #[.agg (BitC n),.agg (FldC f)] w fun e w'=>e=.returned (.bool (fitsN n f.width))∧Below w.heap.size w w':=by
 have CF:Hid (∀ w,Cs 199 #[.agg #[.int .u64 (hiOf n),.int .u64 (loOf n)],.int .i64 f.width] w fun e w'=>e=.returned (.bool (fitsN n f.width))∧Bl w w'):=fun w=>fits_any n hn f.width w
 have HB0:Hid (Bl w ((w.alloc (.cells #[.int .u64 (hiOf n),.int .u64 (loOf n)] 121)).alloc (.cells #[.string f.name,.int .i64 f.width] 82))):=((Below.refl _ _).alloc (Nat.le_refl _) _).alloc (by simp) _
 unfold BitC FldC
 go_enter Tryz.func168,Tryz.ntmps168
 go_wp2_with fail
 refine(CF.out _).mono ?_
 rintro e w1 ⟨rfl,hb⟩
 have HB1:Hid (Bl w w1):=bst HB0.out hb (Nat.le_refl _)
 clear hb
 go_wp2
 go_ret
 exact⟨rfl,HB1.out⟩
def pf (r:Int)(th:ByteArray):PanicEntry:={ v:=.iface 104 (.agg #[.int .i64 r,.string th]),recovered:=false }
def Res (r:Int)(th:ByteArray)(e:Ending):Prop:=(r=0∧e=.returned (.tuple #[]))∨(r≠0∧e=.panicked [pf r th])
theorem need_any (cb:Nat)(b:Bool)(r:Int)(th:ByteArray)(w:World)(hc:w.cell? ⟨cb,6,none⟩=some (.string th)):Calls Tryz.prog 145 #[.pointer (some ⟨cb,0,none⟩),.bool b,.int .i64 r] w fun e w'=>w'=w∧((b=true∧e=.returned (.tuple #[]))∨(b=false∧e=.panicked [pf r th])):=by
 cases b
 ·go_enter Tryz.func145,Tryz.ntmps145
  go_wp2
  exact⟨rfl,rfl,.inr ⟨by trivial,rfl⟩⟩
 ·go_enter Tryz.func145,Tryz.ntmps145
  go_wp2
  first|go_end0|refine bodyPost_ret (results_none rfl _ _ _) rfl ?_
  all_goals exact⟨rfl,.inl ⟨by trivial,rfl⟩⟩
def SetT (w:World)(b:Nat)(xs:List ByteArray):Prop:=∃ n g,MapT w b n g∧∀ s,(g s).isSome=hasT xs s
theorem SetT.new (w:World):SetT (w.alloc (.map #[] 0)) w.heap.size []:=⟨0,_,MapT.new w,fun _=>rfl⟩
theorem SetT.lt {w:World}{b:Nat}{xs:List ByteArray}(h:SetT w b xs):b<w.heap.size:=by obtain⟨n,g,h,_⟩:=h;exact h.lt
theorem SetT.kept {S:Nat→Prop}{w w':World}{b:Nat}{xs:List ByteArray}(h:SetT w b xs)(hk:Kept S w w')(hb:¬ S b):SetT w' b xs:=by obtain⟨n,g,h,e⟩:=h;exact⟨n,g,h.kept hk hb,e⟩
theorem SetT.below {w w':World}{b:Nat}{xs:List ByteArray}(h:SetT w b xs)(hk:Below w.heap.size w w'):SetT w' b xs:=by obtain⟨n,g,h,e⟩:=h;exact⟨n,g,h.below hk,e⟩
theorem hasMap_any {w:World}{b n:Nat}{g:ByteArray→Option Int}(h:MapT w b n g)(s:ByteArray)(hs:Okt s):Calls Tryz.prog 198 #[.map (some b),.string s] w fun e w'=>e=.returned (.bool (g s).isSome)∧w'=w:=by
 have L:=h.look hs
 clear h
 generalize (g s).getD 0=c at*
 generalize (g s).isSome=k at*
 go_enter Tryz.func198,Tryz.ntmps198
 go_wp2
 go_ret
 exact⟨rfl,rfl⟩
theorem has_any {w:World}{b:Nat}{xs:List ByteArray}(h:SetT w b xs)(s:ByteArray)(hs:Okt s):Calls Tryz.prog 198 #[.map (some b),.string s] w fun e w'=>e=.returned (.bool (hasT xs s))∧w'=w:=by
 obtain⟨n,g,h,e⟩:=h
 rw[← e s]
 exact hasMap_any h s hs
def newE (name:ByteArray)(seen:List ByteArray):Int:=if nameB name.data.toList=false then 70 else if hasT seen name=true then 71 else 0
theorem hasT_cons (x:ByteArray)(xs:List ByteArray)(s:ByteArray):hasT (x :: xs) s=(decide (s=x)||hasT xs s):=rfl
theorem needNew_any {w:World}{ab cb:Nat}{seen:List ByteArray}(h:SetT w ab seen)(name:ByteArray)(hn:Okt name)(th:ByteArray)(hc:w.cell? ⟨cb,6,none⟩=some (.string th)):
  Calls Tryz.prog 146 #[.pointer (some ⟨cb,0,none⟩),.string name,.map (some ab)] w fun e w'=>Kept (fun k=>k=ab) w w'∧Res (newE name seen) th e∧(newE name seen=0→SetT w' ab (name :: seen)):=by
 have hn':name.size≤maxLen:=by unfold Okt at hn;unfold maxLen;omega
 have CI:Hid (Cs 17 #[.string name] w fun e w'=>e=.returned (.bool (nameB name.data.toList))∧Bl w w'):=isName_any name hn' w
 have CH:Hid (∀ w1,Bl w w1→Cs 198 #[.map (some ab),.string name] w1 fun e w'=>e=.returned (.bool (hasT seen name))∧w'=w1):=fun w1 hb=>has_any (h.below hb) name hn
 have CN:Hid (∀ w1,Bl w w1→∀ b r,Cs 145 #[.pointer (some ⟨cb,0,none⟩),.bool b,.int .i64 r] w1 fun e w'=>w'=w1∧((b=true∧e=.returned (.tuple #[]))∨(b=false∧e=.panicked [pf r th]))):=fun w1 hb b r=>need_any cb b r th w1 (pres_below hb _ _ hc)
 have HS:Hid (∀ w1,Bl w w1→SetT w1 ab seen):=fun w1 hb=>h.below hb
 have HE:Hid (newE name seen=if nameB name.data.toList=false then 70 else if hasT seen name=true then 71 else 0):=by show _=_;rfl
 generalize newE name seen=R at*
 generalize nameB name.data.toList=q1 at*
 have HQ:Hid (hasT seen name=hasT seen name):=rfl
 clear h hc hn'
 go_enter Tryz.func146,Tryz.ntmps146
 go_wp2_with fail
 refine CI.out.mono ?_
 rintro e w1 ⟨rfl,hw1⟩
 have HW:Hid (Bl w w1):=hw1
 clear hw1
 go_wp2_with fail
 refine(CN.out w1 HW.out _ _).mono ?_
 rintro e w2 ⟨hw2,hh⟩
 obtain rfl:=Eq.symm hw2
 rcases hh with⟨hb,rfl⟩|⟨hb,rfl⟩
 case inr=>
  have HR:Hid (R=70):=by show _=_;rw[HE.out,if_pos hb]
  go_wp2
  refine⟨rfl,Kept.of_below HW.out,?_,?_⟩
  ·rw[HR.out];exact .inr ⟨by decide,rfl⟩
  ·rw[HR.out];intro h;cases h
 case inl=>
  subst hb
  go_wp2_with fail
  refine(CH.out w1 HW.out).mono ?_
  rintro e w2 ⟨rfl,hw2⟩
  obtain rfl:=Eq.symm hw2
  go_wp2_with fail
  refine(CN.out w1 HW.out _ _).mono ?_
  rintro e w2 ⟨hw2,hh⟩
  obtain rfl:=Eq.symm hw2
  rcases hh with⟨hb,rfl⟩|⟨hb,rfl⟩
  case inr=>
   have hb':hasT seen name=true:=by simpa using hb
   have HR:Hid (R=71):=by show _=_;rw[HE.out,if_neg (by decide),if_pos hb']
   clear hb'
   go_wp2
   refine⟨rfl,Kept.of_below HW.out,?_,?_⟩
   ·rw[HR.out];exact .inr ⟨by decide,rfl⟩
   ·rw[HR.out];intro h;cases h
  case inl=>
   have hb':hasT seen name=false:=by simpa using hb
   have HR:Hid (R=0):=by show _=_;rw[HE.out,if_neg (by decide),if_neg (by simp[hb'])]
   obtain⟨n,g,hm,hg⟩:=HS.out w1 HW.out
   have L:=hm.len 3
   obtain⟨w3,hput,hm3,hgr⟩:=hm.put (s:=name) (c:=(n:Int)) hn
   have HF:Hid (SetT w3 ab (name :: seen)∧Kept (fun k=>k=ab) w w3):=by
    refine⟨⟨_,_,hm3,fun s=>?_⟩,(Kept.of_below HW.out).trans ⟨hgr.os,hgr.tape,hgr.output,hgr.size,fun k hk hs=>hgr.block k hk (fun e=>hs (Option.some.inj e))⟩⟩
    rw[hasT_cons]
    by_cases e:s=name
    ·simp[e]
    ·simp[e,hg s]
   clear hm3 hgr hb' hb hm hg
   go_wp2
   first|go_end0|refine bodyPost_ret (results_none rfl _ _ _) rfl ?_
   refine⟨HF.out.2,?_,fun _=>HF.out.1⟩
   rw[HR.out];exact .inl ⟨rfl,rfl⟩
def fldsE:List Fld→List ByteArray→Int
 |[],_=>0
 | f :: fs,seen=>if newE f.name seen≠0 then newE f.name seen else if 0<posW f.width then fldsE fs (f.name :: seen) else 73
theorem flds_step {fs:List Fld}{i:Nat}{f:Fld}(hk:fs[i]?=some f)(seen:List ByteArray):fldsE (fs.drop i) seen=if newE f.name seen≠0 then newE f.name seen else if 0<posW f.width then fldsE (fs.drop (i+1)) (f.name :: seen) else 73:=by
 obtain⟨h,e⟩:=List.getElem?_eq_some_iff.1 hk
 rw[List.drop_eq_getElem_cons h,e,fldsE]
theorem keptBelow {w wr w1:World}{ab:Nat}(h:Below w.heap.size w wr)(hk:Kept (fun k=>k=ab) wr w1)(ha:w.heap.size≤ab):Below w.heap.size w w1:=h.trans (hk.below h.size (fun k e=>by omega))
theorem checkFields_any (cb:Nat)(v:Value)(fs:List Fld)(w:World)(hr:FldRow w v fs)(th:ByteArray)(hc:w.cell? ⟨cb,6,none⟩=some (.string th)):
  Calls Tryz.prog 147 #[.pointer (some ⟨cb,0,none⟩),v] w fun e w'=>Below w.heap.size w w'∧Res (fldsE fs []) th e:=by
 obtain⟨ad,cap,rfl,_⟩:=hr.1.slice
 have hlen:fs.length*24≤140737488351232:=hr.2
 have HR:Hid (FldRow w (.slice ad fs.length cap) fs):=hr
 have HC:Hid (w.cell? ⟨cb,6,none⟩=some (.string th)):=hc
 obtain⟨R,hR⟩:∃ R,R=fldsE fs []:=⟨_,rfl⟩
 have H0:Hid (fldsE (fs.drop 0) []=R):=by rw[hR];rfl
 rw[← hR]
 clear hr hR hc
 obtain⟨n,hn⟩:∃ n,n=fs.length:=⟨_,rfl⟩
 have HL:Hid (n=fs.length):=hn
 rw[← hn] at hlen HR ⊢
 clear hn
 have HN:Hid (SetT (w.alloc (.map #[] 0)) w.heap.size []∧Bl w (w.alloc (.map #[] 0))):=⟨SetT.new w,(Below.refl _ _).alloc (Nat.le_refl _) _⟩
 have hmm:=@run_makeMap Tryz.prog
 go_enter Tryz.func147,Tryz.ntmps147
 go_wp2_with fail
 go_loopw [10] (fun i wr=>∃(k:Nat) (seen:List ByteArray),k≤n∧seen.length=k∧i=.int .i64 k∧Below w.heap.size w wr∧SetT wr w.heap.size seen∧fldsE (fs.drop k) seen=R) (fun i _=>n - (intOf i).toNat)
 case atStart=>exact⟨0,[],by omega,rfl,rfl,HN.out.2,HN.out.1,H0.out⟩
 case round=>
  obtain⟨k,seen,hk,hsl,rfl,hb,hset,hd⟩:=hrel
  by_cases hlt:k<n
  ·obtain⟨y,hy⟩:=gE HL.out hlt
   obtain⟨b,o,cs,rfl,_,hcc,rfl,hok⟩:=HR.out.1.at hy
   have q0:wr.cell? ⟨b,o+k*2,none⟩=some (.string y.name):=by have:=pres_below hb _ _ (hcc 0 (.string y.name) rfl);simpa using this
   have q1:wr.cell? ⟨b,o+k*2+1,none⟩=some (.int .i64 y.width):=by have:=pres_below hb _ _ (hcc 1 (.int .i64 y.width) rfl);simpa using this
   have HD:Hid (fldsE (fs.drop k) seen=R):=hd
   have HB:Hid (Bl w wr):=hb
   have HS:Hid (SetT wr w.heap.size seen):=hset
   have hsz:=hb.size
   have hslt:=hset.lt
   clear hb hcc hset hd
   go_upto_region 4 with fail
   have p0:=(Blk.new wr (FldC y) 82).cell 0 (v:=.string y.name) rfl
   have p1:=(Blk.new wr (FldC y) 82).cell 1 (v:=.int .i64 y.width) rfl
   have HA:Hid (Bl wr (wr.alloc (.cells (FldC y) 82))):=(Below.refl _ _).alloc (Nat.le_refl _) _
   have hsz1:wr.heap.size<(wr.alloc (.cells (FldC y) 82)).heap.size:=by simp
   unfold FldC at p0 p1 HA hsz1
   generalize (wr.alloc _)=W at p0 p1 HA hsz1 ⊢
   have HBW:Hid (Bl w W):=bst HB.out HA.out (Nat.le_refl _)
   have CN:Hid (Cs 146 #[.pointer (some ⟨cb,0,none⟩),.string y.name,.map (some w.heap.size)] W fun e w'=>Kept (fun k=>k=w.heap.size) W w'∧Res (newE y.name seen) th e∧(newE y.name seen=0→SetT w' w.heap.size (y.name :: seen))):=needNew_any (HS.out.below HA.out) y.name hok.1 th (pres_below HBW.out _ _ HC.out)
   go_wp2_with fail
   refine CN.out.mono ?_
   rintro e w1 ⟨hk1,hres,hset1⟩
   rcases hres with⟨hE,rfl⟩|⟨hE,rfl⟩
   case inr=>
    have HB1:Hid (Bl w w1):=keptBelow HBW.out hk1 (Nat.le_refl _)
    have HRR:Hid (R=newE y.name seen):=by show _=_;rw[← HD.out,flds_step hy,if_pos hE]
    have HEE:Hid (newE y.name seen≠0):=hE
    clear hk1 hset1 hE
    go_wp2
    refine⟨rfl,HB1.out,?_⟩
    rw[HRR.out];exact .inr ⟨HEE.out,rfl⟩
   case inl=>
    have HS1:Hid (SetT w1 w.heap.size (y.name :: seen)):=hset1 hE
    have HB1:Hid (Bl w w1):=keptBelow HBW.out hk1 (Nat.le_refl _)
    have r1:=hk1.cell p1 (by show ¬ wr.heap.size=w.heap.size;omega)
    have hd2:fldsE (fs.drop k) seen=if 0<posW y.width then fldsE (fs.drop (k+1)) (y.name :: seen) else 73:=by rw[flds_step hy,if_neg (by simpa using hE)]
    have HD2:Hid (R=if 0<posW y.width then fldsE (fs.drop (k+1)) (y.name :: seen) else 73):=by show _=_;rw[← HD.out,hd2]
    have CP:Hid (Cs 143 #[.int .i64 y.width] w1 fun e w'=>e=.returned (.int .i64 (posW y.width))∧w'=w1):=possible_any y.width w1
    have CN2:Hid (∀ b r,Cs 145 #[.pointer (some ⟨cb,0,none⟩),.bool b,.int .i64 r] w1 fun e w'=>w'=w1∧((b=true∧e=.returned (.tuple #[]))∨(b=false∧e=.panicked [pf r th]))):=fun b r=>need_any cb b r th w1 (pres_below HB1.out _ _ HC.out)
    clear hk1 hset1 hE hd2 p0 p1
    generalize posW y.width=pw at*
    go_wp2_with fail
    refine CP.out.mono ?_
    rintro e w2 ⟨rfl,hw2⟩
    obtain rfl:=Eq.symm hw2
    go_wp2_with fail
    refine(CN2.out _ _).mono ?_
    rintro e w2 ⟨hw2,hh⟩
    obtain rfl:=Eq.symm hw2
    rcases hh with⟨hq,rfl⟩|⟨hq,rfl⟩
    case inr=>
     have HRR:Hid (R=73):=by show _=_;rw[HD2.out,if_neg (by simpa using hq)]
     go_wp2
     refine⟨rfl,HB1.out,?_⟩
     rw[HRR.out];exact .inr ⟨by decide,rfl⟩
    case inl=>
     have HRR:Hid (R=fldsE (fs.drop (k+1)) (y.name :: seen)):=by show _=_;rw[HD2.out,if_pos (by simpa using hq)]
     clear hq
     go_wp2
     exact⟨⟨k+1,y.name :: seen,by omega,by simp[hsl],by go_num,HB1.out,HS1.out,HRR.out.symm⟩,by simp only[intOf];omega⟩
  ·have e:k=n:=by omega
   subst e
   have HD:Hid (R=0):=by
    have h1:=HL.out
    rw[List.drop_of_length_le (by omega),fldsE] at hd
    exact hd.symm
   have HB:Hid (Bl w wr):=hb
   clear hd hb hset
   go_wp2
   first|go_end0|refine bodyPost_ret (results_none rfl _ _ _) rfl ?_
   refine⟨HB.out,?_⟩
   rw[HD.out];exact .inl ⟨rfl,rfl⟩
def bitsW:List Fld→Int→Int
 |[],a=>a
 | f :: fs,a=>bitsW fs (wrap64 (a+f.width))
theorem bits_step {fs:List Fld}{i:Nat}{f:Fld}(hk:fs[i]?=some f)(a:Int):bitsW (fs.drop i) a=bitsW (fs.drop (i+1)) (wrap64 (a+f.width)):=by
 obtain⟨h,e⟩:=List.getElem?_eq_some_iff.1 hk
 rw[List.drop_eq_getElem_cons h,e,bitsW]
theorem bitsOf_any (x:Hdr)(cs:Array Value)(w:World)(hI:HdrIs w cs x):Calls Tryz.prog 148 #[.agg cs] w fun e w'=>e=.returned (.int .i64 (bitsW x.fields 0))∧Below w.heap.size w w':=by
 obtain⟨v,rfl,hok,hr⟩:=hI
 obtain⟨ad,cap,rfl,_⟩:=hr.1.slice
 obtain⟨nm,fs⟩:=x
 simp only at hr hok ⊢
 have hlen:fs.length*24≤140737488351232:=hr.2
 have HR:Hid (FldRow w (.slice ad fs.length cap) fs):=hr
 obtain⟨R,hR⟩:∃ R,R=bitsW fs 0:=⟨_,rfl⟩
 have H0:Hid (bitsW (fs.drop 0) 0=R):=by rw[hR];rfl
 rw[← hR]
 clear hr hR
 obtain⟨n,hn⟩:∃ n,n=fs.length:=⟨_,rfl⟩
 have HL:Hid (n=fs.length):=hn
 rw[← hn] at hlen HR ⊢
 clear hn
 go_enter Tryz.func148,Tryz.ntmps148
 go_upto_region 2 with fail
 have p1:=(Blk.new w #[.string nm,.slice ad n cap] 60).cell 1 (v:=.slice ad n cap) rfl
 have HB0:Hid (Bl w (w.alloc (.cells #[.string nm,.slice ad n cap] 60))):=(Below.refl _ _).alloc (Nat.le_refl _) _
 generalize (w.alloc _)=W0 at HB0 p1 ⊢
 go_wp2_with fail
 go_loopw [3,9] (fun t i wr=>∃(k:Nat) (tt:Int),k≤n∧t=.int .i64 tt∧i=.int .i64 k∧Below w.heap.size w wr∧bitsW (fs.drop k) tt=R) (fun _ i _=>n - (intOf i).toNat)
 case atStart=>exact⟨0,0,by omega,rfl,rfl,HB0.out,H0.out⟩
 case round=>
  obtain⟨k,tt,hk,rfl,rfl,hb,hd⟩:=hrel
  by_cases hlt:k<n
  ·obtain⟨y,hy⟩:=gE HL.out hlt
   obtain⟨b,o,cs,rfl,_,hcc,rfl,hok⟩:=HR.out.1.at hy
   have q0:wr.cell? ⟨b,o+k*2,none⟩=some (.string y.name):=by have:=pres_below hb _ _ (hcc 0 (.string y.name) rfl);simpa using this
   have q1:wr.cell? ⟨b,o+k*2+1,none⟩=some (.int .i64 y.width):=by have:=pres_below hb _ _ (hcc 1 (.int .i64 y.width) rfl);simpa using this
   rw[bits_step hy] at hd
   have HD:Hid (bitsW (fs.drop (k+1)) (wrap64 (tt+y.width))=R):=hd
   have HB:Hid (Bl w (wr.alloc (.cells #[.string y.name,.int .i64 y.width] 82))):=hb.alloc hb.size _
   have hsz:=hb.size
   clear hb hcc hd p1 HB0 H0
   go_wp2
   exact⟨⟨k+1,_,by omega,rfl,by go_num,HB.out,HD.out⟩,by simp only[intOf];omega⟩
  ·have e:k=n:=by omega
   subst e
   have HD:Hid (R=tt):=by
    have h1:=HL.out
    rw[List.drop_of_length_le (by omega),bitsW] at hd
    exact hd.symm
   clear hd
   go_wp2
   go_ret
   exact⟨by rw[HD.out];rfl,hb⟩
def fitAll:List Nat→List Fld→Bool
 |[],[]=>true
 | x :: xs,y :: ys=>fitsN x y.width&&fitAll xs ys
 | _,_=>false
theorem fitAll_len:∀(xs:List Nat)(ys:List Fld),¬ xs.length=ys.length→fitAll xs ys=false
 |[],[],h=>absurd rfl h
 |[],y :: ys,_=>rfl
 | x :: xs,[],_=>rfl
 | x :: xs,y :: ys,h=>by rw[fitAll,fitAll_len xs ys (by simpa using h),Bool.and_false]
theorem fitAll_step {xs:List Nat}{ys:List Fld}{k:Nat}{x:Nat}{y:Fld}(hx:xs[k]?=some x)(hy:ys[k]?=some y):fitAll (xs.drop k) (ys.drop k)=(fitsN x y.width&&fitAll (xs.drop (k+1)) (ys.drop (k+1))):=by
 obtain⟨h1,e1⟩:=List.getElem?_eq_some_iff.1 hx
 obtain⟨h2,e2⟩:=List.getElem?_eq_some_iff.1 hy
 rw[List.drop_eq_getElem_cons h1,List.drop_eq_getElem_cons h2,e1,e2,fitAll]
theorem fsz121b:(Tryz.prog.info? 121).map (·.size)=some 2:=by kernel_rfl
theorem fsz82b:(Tryz.prog.info? 82).map (·.size)=some 2:=by kernel_rfl
theorem fitAll_any (v v':Value)(xs:List Nat)(ys:List Fld)(w:World)(hr:Row 2 (Flat BitC Is128) w v xs)(hr':Row 2 (Flat FldC FldOk) w v' ys)(hlen:xs.length≤140737488351232):
  Calls Tryz.prog 167 #[v,v',.func (.func 168) #[] #[]] w fun e w'=>e=.returned (.bool (fitAll xs ys))∧Below w.heap.size w w':=by
 obtain⟨a1,c1,rfl,h1⟩:=hr.slice
 obtain⟨a2,c2,rfl,h2⟩:=hr'.slice
 by_cases hne:¬ xs.length=ys.length
 ·have e:fitAll xs ys=false:=fitAll_len xs ys hne
  rw[e]
  have hne':¬((xs.length:Int)=(ys.length:Int)):=by omega
  clear hr hr' h1 h2 e
  go_enter Tryz.func167,Tryz.ntmps167
  go_wp2
  go_ret
  exact⟨rfl,Below.refl _ _⟩
 have hne:=Classical.not_not.1 hne
 have HR:Hid (Row 2 (Flat BitC Is128) w (.slice a1 xs.length c1) xs):=hr
 have HS:Hid (Row 2 (Flat FldC FldOk) w (.slice a2 ys.length c2) ys):=hr'
 obtain⟨n,hn⟩:∃ n,n=xs.length:=⟨_,rfl⟩
 have HL:Hid (n=xs.length∧n=ys.length):=⟨hn,by omega⟩
 rw[← hne] at HS ⊢
 rw[← hn] at HR HS hlen ⊢
 clear hr hr' h1 h2 hn hne
 go_enter Tryz.func167,Tryz.ntmps167
 go_wp2_with fail
 go_loopw [17] (fun i wr=>∃ k:Nat,k≤n∧i=.int .i64 k∧fitAll xs ys=fitAll (xs.drop k) (ys.drop k)∧Below w.heap.size w wr) (fun i _=>n - (intOf i).toNat)
 case atStart=>exact⟨0,by omega,rfl,by simp,Below.refl _ _⟩
 case round=>
  obtain⟨k,hk,rfl,hd,hb⟩:=hrel
  by_cases hlt:k<n
  ·obtain⟨x,hx⟩:=gE HL.out.1 hlt
   obtain⟨y,hy⟩:=gE HL.out.2 hlt
   obtain⟨b,o,⟨cl⟩,rfl,hsx,hx1,hIx⟩:=HR.out.at hx
   obtain⟨b2,o2,⟨dl⟩,rfl,hsy,hy1,hIy⟩:=HS.out.at hy
   have hcs:cl.length=2:=hsx
   have hds:dl.length=2:=hsy
   have hz1:(Tryz.prog.info? 121).map (·.size)=some cl.length:=by rw[hcs];exact fsz121b
   have hz2:(Tryz.prog.info? 82).map (·.size)=some dl.length:=by rw[hds];exact fsz82b
   have HP:Hid (Flat BitC Is128 w cl.toArray x∧Flat FldC FldOk w dl.toArray y):=⟨hIx,hIy⟩
   have HD:Hid (fitAll xs ys=(fitsN x y.width&&fitAll (xs.drop (k+1)) (ys.drop (k+1)))):=by
    have e:=fitAll_step hx hy
    show fitAll xs ys=_
    rw[hd,e]
   have HB:Hid (Bl w wr):=hb
   have R1:Hid (wr.rangeAt b (o+k*2) cl):=fun j u hu=>pres_below hb _ _ (hx1 j u (by simpa using hu))
   have R2:Hid (w.rangeAt b2 (o2+k*2) dl):=fun j u hu=>(hy1 j u (by simpa using hu))
   have ST:Hid ((wr.alloc (.cells #[.int .u64 0,.int .u64 0] 121)).there wr.heap.size 0 cl.toArray.size):=there_new wr #[.int .u64 0,.int .u64 0] 121 (by simp[hcs])
   have ON1:Hid (cl.toArray.all (·.oneCell')=true):=bit_good.one hIx
   have ON2:Hid (dl.toArray.all (·.oneCell')=true):=fld_good.one hIy
   have H1:Hid (Below w.heap.size w ((wr.alloc (.cells #[.int .u64 0,.int .u64 0] 121)).setCells wr.heap.size 0 cl)∧((wr.alloc (.cells #[.int .u64 0,.int .u64 0] 121)).setCells wr.heap.size 0 cl).rangeAt wr.heap.size 0 cl):=
    ⟨below_setCells (hb.alloc hb.size _) hb.size _ _,World.rangeAt_setCells_same _ _ _ _ (there_new wr #[.int .u64 0,.int .u64 0] 121 (by simp[hcs]))⟩
   clear hd hb hx1 hy1 hx hy hIx hIy hsx hsy
   go_upto_region 6 with(first|(refine wpList_load_mid rfl 121 _ rfl b (o+k*2) rfl cl _ R1.out Tryz.underlying121 rfl hz1 ?_)|(refine wpList_store_mid rfl 121 _ _ rfl wr.heap.size 0 cl.toArray rfl rfl ST.out (by rw[List.size_toArray];exact hz1) ON1.out ?_))
   generalize ((wr.alloc (.cells #[.int .u64 0,.int .u64 0] 121)).setCells wr.heap.size 0 cl)=W1 at H1 ⊢
   have ST2:Hid ((W1.alloc (.cells #[.string ⟨#[]⟩,.int .i64 0] 82)).there W1.heap.size 0 dl.toArray.size):=there_new W1 #[.string ⟨#[]⟩,.int .i64 0] 82 (by simp[hds])
   have R3:Hid (W1.rangeAt b2 (o2+k*2) dl):=fun j u hu=>pres_below H1.out.1 _ _ (R2.out j u hu)
   have H2:Hid (Below w.heap.size w ((W1.alloc (.cells #[.string ⟨#[]⟩,.int .i64 0] 82)).setCells W1.heap.size 0 dl)∧((W1.alloc (.cells #[.string ⟨#[]⟩,.int .i64 0] 82)).setCells W1.heap.size 0 dl).rangeAt wr.heap.size 0 cl∧((W1.alloc (.cells #[.string ⟨#[]⟩,.int .i64 0] 82)).setCells W1.heap.size 0 dl).rangeAt W1.heap.size 0 dl):=
    ⟨below_setCells (H1.out.1.alloc H1.out.1.size _) H1.out.1.size _ _,fun j u hu=>pres_below (below_setCells ((Below.refl _ _).alloc (Nat.le_refl _) _) (Nat.le_refl _) _ _) _ _ (H1.out.2 j u hu),World.rangeAt_setCells_same _ _ _ _ (there_new W1 #[.string ⟨#[]⟩,.int .i64 0] 82 (by simp[hds]))⟩
   clear R1 ST R2 H1
   go_upto_region 7 with(first|(refine wpList_load_mid rfl 82 _ rfl b2 (o2+k*2) rfl dl _ R3.out Tryz.underlying82 rfl hz2 ?_)|(refine wpList_store_mid rfl 82 _ _ rfl W1.heap.size 0 dl.toArray rfl rfl ST2.out (by rw[List.size_toArray];exact hz2) ON2.out ?_))
   generalize ((W1.alloc (.cells #[.string ⟨#[]⟩,.int .i64 0] 82)).setCells W1.heap.size 0 dl)=W2 at H2 ⊢
   have C:Hid (Cs 168 #[.agg cl.toArray,.agg dl.toArray] W2 fun e w'=>e=.returned (.bool (fitsN x y.width))∧Hid (Bl w w')):=by
    obtain⟨⟨e1,o1⟩,⟨e2,_⟩⟩:=HP.out
    rw[e1,e2]
    refine(fits168_any x o1 y W2).mono ?_
    rintro e w' ⟨rfl,hb⟩
    exact⟨rfl,bst H2.out.1 hb (Nat.le_refl _)⟩
   generalize fitsN x y.width=r at*
   clear R3 ST2 ON1 ON2
   have R4:Hid (W2.rangeAt wr.heap.size 0 cl):=H2.out.2.1
   have R5:Hid (W2.rangeAt W1.heap.size 0 dl):=H2.out.2.2
   clear H2
   go_wp2_with (first|(refine wpList_load_mid rfl 121 _ rfl wr.heap.size 0 rfl cl _ R4.out Tryz.underlying121 rfl hz1 ?_)|(refine wpList_load_mid rfl 82 _ rfl W1.heap.size 0 rfl dl _ R5.out Tryz.underlying82 rfl hz2 ?_))
   refine C.out.mono ?_
   rintro e W3 ⟨rfl,H3⟩
   clear C R4 R5 HB
   cases r
   ·go_wp2
    go_ret
    exact⟨by rw[HD.out];rfl,H3.out⟩
   ·go_wp2
    exact⟨⟨k+1,by omega,by go_num,by rw[HD.out,Bool.true_and],H3.out⟩,by simp only[intOf];omega⟩
  ·have e:k=n:=by omega
   subst e
   have HE:fitAll xs ys=true:=by
    have h1:=HL.out.1;have h2:=HL.out.2
    rw[hd,List.drop_of_length_le (by omega),List.drop_of_length_le (by omega)]
    rfl
   clear hd
   have HE:Hid (fitAll xs ys=true):=HE
   go_wp2
   go_ret
   exact⟨by rw[HE.out];rfl,hb⟩
end Go.Proofs.YtmbpclknhkbbkaaGreat
