/- What is kept beside what a call writes. -/
import Derived.Test.YtmbpclknhkbbkaaGreatProg
import Derived.WalkKit
import Derived.WalkSpells
import Derived.WalkLawsBesides
import Derived.Handy
import Derived.Laws.Pointers
import Derived.Laws.Externs
import Derived.Laws.StructEq
import Derived.Deep.RegionHeld3
import Derived.Deep.QuietTactic
import Derived.Deep.AppendLies
import Derived.BigQuiet
import Derived.RowKit3
import Derived.OwnWalk
import Derived.Below
import Derived.Lib.OthersKept
import Derived.Laws.RangeAny
import Derived.WalkSmall
import Derived.Deep.LoopGhost
import Derived.Laws.BitsAllLaws
import Derived.LaidEql
import Derived.Outline
set_option linter.unusedSimpArgs false
set_option linter.unusedVariables false
set_option maxHeartbeats 400000
namespace Go.Proofs.YtmbpclknhkbbkaaGreat
open Go.RowKit
structure Kept (S:Nat→Prop)(w w':World):Prop where
 os:w'.os=w.os
 tape:w'.tape=w.tape
 output:w'.output=w.output
 size:w.heap.size≤w'.heap.size
 block:∀ k,k<w.heap.size→¬ S k→w'.heap[k]?=w.heap[k]?
abbrev Bl (w w':World):Prop:=Below w.heap.size w w'
abbrev Cs (f:FuncId)(a:Array Value)(w:World)(Q:Ending→World→Prop):Prop:=Calls Tryz.prog f a w Q
theorem gE{α:Type}{xs:List α}{n k:Nat}(h:n=xs.length)(hk:k<n):∃ x,xs[k]?=some x:=⟨xs[k]'(by rw[← h];exact hk),List.getElem?_eq_getElem _⟩
theorem Kept.refl (S:Nat→Prop)(w:World):Kept S w w:=⟨rfl,rfl,rfl,Nat.le_refl _,fun _ _ _=>rfl⟩
theorem Kept.trans {S:Nat→Prop}{a b c:World}(h:Kept S a b)(k:Kept S b c):Kept S a c:=
 ⟨k.os.trans h.os,k.tape.trans h.tape,k.output.trans h.output,Nat.le_trans h.size k.size,fun i hi hs=>(k.block i (Nat.lt_of_lt_of_le hi h.size) hs).trans (h.block i hi hs)⟩
theorem Kept.mono {S T:Nat→Prop}{a b:World}(h:Kept S a b)(hs:∀ k,k<a.heap.size→S k→T k):Kept T a b:=
 ⟨h.os,h.tape,h.output,h.size,fun i hi ht=>h.block i hi (fun e=>ht (hs i hi e))⟩
theorem Kept.of_below {S:Nat→Prop}{a b:World}(h:Below a.heap.size a b):Kept S a b:=⟨h.os,h.tape,h.output,h.size,fun i hi _=>h.block i hi⟩
theorem Kept.below {S:Nat→Prop}{B:Nat}{a b:World}(h:Kept S a b)(hB:B≤a.heap.size)(hs:∀ k,S k→B≤k):Below B a b:=
 ⟨h.os,h.tape,h.output,h.size,fun i hi=>h.block i (Nat.lt_of_lt_of_le hi hB) (fun e=>by have:=hs i e;omega)⟩
theorem Kept.cell {S:Nat→Prop}{a b:World}(h:Kept S a b){p:Addr}{v:Value}(hc:a.cell? p=some v)(hs:¬ S p.block):b.cell? p=some v:=
 (World.cell?_of_block (h.block p.block (World.block_lt_of_cell? a p hc) hs)).trans hc
theorem Kept.frozen {S:Nat→Prop}{a b:World}(h:Kept S a b){p:Addr}(hl:p.block<a.heap.size)(hs:¬ S p.block):b.frozen? p=a.frozen? p:=
 World.frozen?_of_block (h.block p.block hl hs)
theorem Kept.set {S:Nat→Prop}{a w:World}(h:Kept S a w){p:Addr}(hp:S p.block)(u:Value):Kept S a (w.setCell p u):=
 h.trans ⟨rfl,rfl,rfl,by simp[World.setCell],fun k _ hk=>Below.heap_setCell _ _ _ _ (fun e=>hk (e ▸ hp))⟩
theorem Kept.grown {S:Nat→Prop}{a w w':World}{row:Option Nat}(h:Kept S a w)(hg:w.grownBy w' row)(hr:∀ k,row=some k→S k):Kept S a w':=
 h.trans ⟨hg.os,hg.tape,hg.output,hg.size,fun k hk hs=>hg.block k hk (fun e=>hs (hr k e.symm))⟩
theorem Kept.drewN {S:Nat→Prop}{a w:World}(h:Kept S a w)(n:Nat):Kept S a (w.drewN n):=⟨h.os,h.tape,h.output,h.size,h.block⟩
theorem Kept.drew {S:Nat→Prop}{a w:World}(h:Kept S a w):Kept S a w.drew:=⟨h.os,h.tape,h.output,h.size,h.block⟩
theorem Kept.alloc {S:Nat→Prop}{a w:World}(h:Kept S a w)(o:Obj):Kept S a (w.alloc o):=h.trans (Kept.of_below ((Below.refl _ _).alloc (Nat.le_refl _) _))
theorem bst {B:Nat}{a b c:World}(h:Below B a b)(k:Below b.heap.size b c)(hB:B≤a.heap.size:=by omega):Below B a c:=h.trans (k.mono (Nat.le_trans hB h.size))
def Blk (w:World)(b:Nat)(cs:Array Value)(t:TypeId):Prop:=w.heap[b]?=some (.cells cs t (0,0))
theorem Blk.lt {w:World}{b:Nat}{cs:Array Value}{t:TypeId}(h:Blk w b cs t):b<w.heap.size:=(Array.getElem?_eq_some_iff.1 h).1
theorem Blk.cell {w:World}{b:Nat}{cs:Array Value}{t:TypeId}(h:Blk w b cs t)(i:Nat){v:Value}(hv:cs[i]?=some v):w.cell? ⟨b,i,none⟩=some v:=(cell_of_row w b i cs t (0,0) h).trans hv
theorem Blk.frozen {w:World}{b:Nat}{cs:Array Value}{t:TypeId}(h:Blk w b cs t)(i:Nat):w.frozen? ⟨b,i,none⟩=false:=frozen_of_row w b i cs t h
theorem Blk.kept {S:Nat→Prop}{w w':World}{b:Nat}{cs:Array Value}{t:TypeId}(h:Blk w b cs t)(hk:Kept S w w')(hb:¬ S b):Blk w' b cs t:=(hk.block b h.lt hb).trans h
theorem Blk.below {w w':World}{b:Nat}{cs:Array Value}{t:TypeId}(h:Blk w b cs t)(hb:Below w.heap.size w w'):Blk w' b cs t:=(hb.block b h.lt).trans h
theorem Blk.set {w:World}{b:Nat}{cs:Array Value}{t:TypeId}(h:Blk w b cs t)(i:Nat)(v:Value):Blk (w.setCell ⟨b,i,none⟩ v) b (cs.setIfInBounds i v) t:=heap_setCell_same w b i cs t v h
theorem Blk.new (w:World)(cs:Array Value)(t:TypeId):Blk (w.alloc (.cells cs t)) w.heap.size cs t:=heap_alloc_new w _
theorem ownsRow_kept {S:Nat→Prop}{w w':World}{B e z:Nat}{v:Value}{n:Nat}{xs:List Value}(h:w.ownsRow B e z v n xs)(hk:Kept S w w')(hs:∀ k,v.ownBlock=some k→¬ S k):w'.ownsRow B e z v n xs:=by
 refine⟨h.1,?_⟩
 rcases h.2 with hn|⟨g,cap,cur,rfl,hb,hgg,rest⟩
 ·exact .inl hn
 ·refine .inr ⟨g,cap,cur,rfl,hb,?_,rest⟩
  rw[hk.block g (Array.getElem?_eq_some_iff.1 hgg).1 (hs g rfl)]
  exact hgg
theorem ownsRow_slice {w:World}{B e z:Nat}{v:Value}{n:Nat}{xs:List Value}(h:w.ownsRow B e z v n xs):∃ ba bc,v=.slice ba n bc:=by
 rcases h.2 with⟨rfl,rfl⟩|⟨g,cap,cur,rfl,_⟩
 ·exact⟨_,_,rfl⟩
 ·exact⟨_,_,rfl⟩
theorem Blk.c2 {w:World}{b t:Nat}{x0 x1:Value}(h:Blk w b #[x0,x1] t):w.cell? ⟨b,0,none⟩=some x0∧w.cell? ⟨b,1,none⟩=some x1:=⟨h.cell 0 rfl,h.cell 1 rfl⟩
theorem Blk.c3 {w:World}{b t:Nat}{x0 x1 x2:Value}(h:Blk w b #[x0,x1,x2] t):w.cell? ⟨b,0,none⟩=some x0∧w.cell? ⟨b,1,none⟩=some x1∧w.cell? ⟨b,2,none⟩=some x2:=⟨h.cell 0 rfl,h.cell 1 rfl,h.cell 2 rfl⟩
theorem Blk.c4 {w:World}{b t:Nat}{x0 x1 x2 x3:Value}(h:Blk w b #[x0,x1,x2,x3] t):w.cell? ⟨b,0,none⟩=some x0∧w.cell? ⟨b,1,none⟩=some x1∧w.cell? ⟨b,2,none⟩=some x2∧w.cell? ⟨b,3,none⟩=some x3:=⟨h.cell 0 rfl,h.cell 1 rfl,h.cell 2 rfl,h.cell 3 rfl⟩
theorem Blk.c5 {w:World}{b t:Nat}{x0 x1 x2 x3 x4:Value}(h:Blk w b #[x0,x1,x2,x3,x4] t):w.cell? ⟨b,0,none⟩=some x0∧w.cell? ⟨b,1,none⟩=some x1∧w.cell? ⟨b,2,none⟩=some x2∧w.cell? ⟨b,3,none⟩=some x3∧w.cell? ⟨b,4,none⟩=some x4:=⟨h.cell 0 rfl,h.cell 1 rfl,h.cell 2 rfl,h.cell 3 rfl,h.cell 4 rfl⟩
theorem Blk.c6 {w:World}{b t:Nat}{x0 x1 x2 x3 x4 x5:Value}(h:Blk w b #[x0,x1,x2,x3,x4,x5] t):w.cell? ⟨b,0,none⟩=some x0∧w.cell? ⟨b,1,none⟩=some x1∧w.cell? ⟨b,2,none⟩=some x2∧w.cell? ⟨b,3,none⟩=some x3∧w.cell? ⟨b,4,none⟩=some x4∧w.cell? ⟨b,5,none⟩=some x5:=⟨h.cell 0 rfl,h.cell 1 rfl,h.cell 2 rfl,h.cell 3 rfl,h.cell 4 rfl,h.cell 5 rfl⟩
theorem Blk.c7 {w:World}{b t:Nat}{x0 x1 x2 x3 x4 x5 x6:Value}(h:Blk w b #[x0,x1,x2,x3,x4,x5,x6] t):w.cell? ⟨b,0,none⟩=some x0∧w.cell? ⟨b,1,none⟩=some x1∧w.cell? ⟨b,2,none⟩=some x2∧w.cell? ⟨b,3,none⟩=some x3∧w.cell? ⟨b,4,none⟩=some x4∧w.cell? ⟨b,5,none⟩=some x5∧w.cell? ⟨b,6,none⟩=some x6:=⟨h.cell 0 rfl,h.cell 1 rfl,h.cell 2 rfl,h.cell 3 rfl,h.cell 4 rfl,h.cell 5 rfl,h.cell 6 rfl⟩
theorem Blk.c9 {w:World}{b t:Nat}{x0 x1 x2 x3 x4 x5 x6 x7 x8:Value}(h:Blk w b #[x0,x1,x2,x3,x4,x5,x6,x7,x8] t):w.cell? ⟨b,0,none⟩=some x0∧w.cell? ⟨b,1,none⟩=some x1∧w.cell? ⟨b,2,none⟩=some x2∧w.cell? ⟨b,3,none⟩=some x3∧w.cell? ⟨b,4,none⟩=some x4∧w.cell? ⟨b,5,none⟩=some x5∧w.cell? ⟨b,6,none⟩=some x6∧w.cell? ⟨b,7,none⟩=some x7∧w.cell? ⟨b,8,none⟩=some x8:=⟨h.cell 0 rfl,h.cell 1 rfl,h.cell 2 rfl,h.cell 3 rfl,h.cell 4 rfl,h.cell 5 rfl,h.cell 6 rfl,h.cell 7 rfl,h.cell 8 rfl⟩
theorem Blk.c11 {w:World}{b t:Nat}{x0 x1 x2 x3 x4 x5 x6 x7 x8 x9 x10:Value}(h:Blk w b #[x0,x1,x2,x3,x4,x5,x6,x7,x8,x9,x10] t):w.cell? ⟨b,0,none⟩=some x0∧w.cell? ⟨b,1,none⟩=some x1∧w.cell? ⟨b,2,none⟩=some x2∧w.cell? ⟨b,3,none⟩=some x3∧w.cell? ⟨b,4,none⟩=some x4∧w.cell? ⟨b,5,none⟩=some x5∧w.cell? ⟨b,6,none⟩=some x6∧w.cell? ⟨b,7,none⟩=some x7∧w.cell? ⟨b,8,none⟩=some x8∧w.cell? ⟨b,9,none⟩=some x9∧w.cell? ⟨b,10,none⟩=some x10:=⟨h.cell 0 rfl,h.cell 1 rfl,h.cell 2 rfl,h.cell 3 rfl,h.cell 4 rfl,h.cell 5 rfl,h.cell 6 rfl,h.cell 7 rfl,h.cell 8 rfl,h.cell 9 rfl,h.cell 10 rfl⟩
theorem Blk.c12 {w:World}{b t:Nat}{x0 x1 x2 x3 x4 x5 x6 x7 x8 x9 x10 x11:Value}(h:Blk w b #[x0,x1,x2,x3,x4,x5,x6,x7,x8,x9,x10,x11] t):w.cell? ⟨b,0,none⟩=some x0∧w.cell? ⟨b,1,none⟩=some x1∧w.cell? ⟨b,2,none⟩=some x2∧w.cell? ⟨b,3,none⟩=some x3∧w.cell? ⟨b,4,none⟩=some x4∧w.cell? ⟨b,5,none⟩=some x5∧w.cell? ⟨b,6,none⟩=some x6∧w.cell? ⟨b,7,none⟩=some x7∧w.cell? ⟨b,8,none⟩=some x8∧w.cell? ⟨b,9,none⟩=some x9∧w.cell? ⟨b,10,none⟩=some x10∧w.cell? ⟨b,11,none⟩=some x11:=⟨h.cell 0 rfl,h.cell 1 rfl,h.cell 2 rfl,h.cell 3 rfl,h.cell 4 rfl,h.cell 5 rfl,h.cell 6 rfl,h.cell 7 rfl,h.cell 8 rfl,h.cell 9 rfl,h.cell 10 rfl,h.cell 11 rfl⟩
theorem Blk.c13 {w:World}{b t:Nat}{x0 x1 x2 x3 x4 x5 x6 x7 x8 x9 x10 x11 x12:Value}(h:Blk w b #[x0,x1,x2,x3,x4,x5,x6,x7,x8,x9,x10,x11,x12] t):w.cell? ⟨b,0,none⟩=some x0∧w.cell? ⟨b,1,none⟩=some x1∧w.cell? ⟨b,2,none⟩=some x2∧w.cell? ⟨b,3,none⟩=some x3∧w.cell? ⟨b,4,none⟩=some x4∧w.cell? ⟨b,5,none⟩=some x5∧w.cell? ⟨b,6,none⟩=some x6∧w.cell? ⟨b,7,none⟩=some x7∧w.cell? ⟨b,8,none⟩=some x8∧w.cell? ⟨b,9,none⟩=some x9∧w.cell? ⟨b,10,none⟩=some x10∧w.cell? ⟨b,11,none⟩=some x11∧w.cell? ⟨b,12,none⟩=some x12:=⟨h.cell 0 rfl,h.cell 1 rfl,h.cell 2 rfl,h.cell 3 rfl,h.cell 4 rfl,h.cell 5 rfl,h.cell 6 rfl,h.cell 7 rfl,h.cell 8 rfl,h.cell 9 rfl,h.cell 10 rfl,h.cell 11 rfl,h.cell 12 rfl⟩
theorem hblk {w w':World}{b:Nat}{cs:Array Value}{t:TypeId}(h:Hid (Blk w b cs t))(hb:Below w.heap.size w w'):Hid (Blk w' b cs t):=h.out.below hb
end Go.Proofs.YtmbpclknhkbbkaaGreat
namespace Go.Proofs.YtmbpclknhkbbkaaGreat
open Go.RowKit
def hiOf (n:Nat):Int:=((n / 18446744073709551616:Nat):Int)
def loOf (n:Nat):Int:=((n % 18446744073709551616:Nat):Int)
abbrev B (n:Nat):Value:=.agg #[.int .u64 (hiOf n),.int .u64 (loOf n)]
def Is128 (n:Nat):Prop:=n<340282366920938463463374607431768211456
def isW (w:Int):Bool:=decide (1≤w)&&decide (w≤128)
theorem two64:(2:Nat) ^ 64=18446744073709551616:=by decide
theorem two128:(2:Nat) ^ 128=340282366920938463463374607431768211456:=by decide
theorem hiOf_nonneg (n:Nat):0≤hiOf n:=by unfold hiOf;omega
theorem loOf_nonneg (n:Nat):0≤loOf n:=by unfold loOf;omega
theorem loOf_lt (n:Nat):loOf n<18446744073709551616:=by unfold loOf;omega
theorem hiOf_lt {n:Nat}(h:Is128 n):hiOf n<18446744073709551616:=by unfold hiOf;unfold Is128 at h;omega
theorem words_are {a b:Int}(ha:0≤a)(ha':a<18446744073709551616)(hb:0≤b)(hb':b<18446744073709551616):
  ∃ n,Is128 n∧a=hiOf n∧b=loOf n:=by
 refine⟨a.toNat*18446744073709551616+b.toNat,?_,?_,?_⟩
 ·unfold Is128;omega
 ·unfold hiOf;omega
 ·unfold loOf;omega
theorem words_eq (n m:Nat):(hiOf n=hiOf m∧loOf n=loOf m)↔n=m:=by
 unfold hiOf loOf;omega
theorem and_hi {n m:Nat}(hn:Is128 n)(hm:Is128 m):bits .and .u64 (hiOf n) (hiOf m)=hiOf (n &&& m):=by
 unfold Is128 at hn hm;unfold hiOf
 rw[u64_and_nat _ _ (by omega) (by omega)]
 congr 1
 rw[← two64]
 apply Nat.eq_of_testBit_eq;intro i
 simp only[Nat.testBit_and,Nat.testBit_div_two_pow]
theorem and_lo (n m:Nat):bits .and .u64 (loOf n) (loOf m)=loOf (n &&& m):=by
 unfold loOf
 rw[u64_and_nat _ _ (by omega) (by omega)]
 congr 1
 rw[← two64]
 apply Nat.eq_of_testBit_eq;intro i
 simp only[Nat.testBit_and,Nat.testBit_mod_two_pow]
 cases decide (i<64)<;>simp
theorem or_hi {n m:Nat}(hn:Is128 n)(hm:Is128 m):bits .or .u64 (hiOf n) (hiOf m)=hiOf (n ||| m):=by
 unfold Is128 at hn hm;unfold hiOf
 rw[u64_or_nat _ _ (by omega) (by omega)]
 congr 1
 rw[← two64]
 apply Nat.eq_of_testBit_eq;intro i
 simp only[Nat.testBit_or,Nat.testBit_div_two_pow]
theorem or_lo (n m:Nat):bits .or .u64 (loOf n) (loOf m)=loOf (n ||| m):=by
 unfold loOf
 rw[u64_or_nat _ _ (by omega) (by omega)]
 congr 1
 rw[← two64]
 apply Nat.eq_of_testBit_eq;intro i
 simp only[Nat.testBit_or,Nat.testBit_mod_two_pow]
 cases decide (i<64)<;>simp
theorem xor_hi {n m:Nat}(hn:Is128 n)(hm:Is128 m):bits .xor .u64 (hiOf n) (hiOf m)=hiOf (n ^^^ m):=by
 unfold Is128 at hn hm;unfold hiOf
 rw[u64_xor_nat _ _ (by omega) (by omega)]
 congr 1
 rw[← two64]
 apply Nat.eq_of_testBit_eq;intro i
 simp only[Nat.testBit_xor,Nat.testBit_div_two_pow]
theorem xor_lo (n m:Nat):bits .xor .u64 (loOf n) (loOf m)=loOf (n ^^^ m):=by
 unfold loOf
 rw[u64_xor_nat _ _ (by omega) (by omega)]
 congr 1
 rw[← two64]
 apply Nat.eq_of_testBit_eq;intro i
 simp only[Nat.testBit_xor,Nat.testBit_mod_two_pow]
 cases decide (i<64)<;>simp
theorem and_is {n:Nat}(hn:Is128 n)(m:Nat):Is128 (n &&& m):=by
 unfold Is128 at *;exact Nat.lt_of_le_of_lt Nat.and_le_left hn
theorem or_is {n m:Nat}(hn:Is128 n)(hm:Is128 m):Is128 (n ||| m):=by
 unfold Is128 at *;rw[← two128] at *;exact Nat.or_lt_two_pow hn hm
theorem xor_is {n m:Nat}(hn:Is128 n)(hm:Is128 m):Is128 (n ^^^ m):=by
 unfold Is128 at *;rw[← two128] at *;exact Nat.xor_lt_two_pow hn hm
def onesN (k:Nat):Nat:=2 ^ k - 1
theorem ones_is {k:Nat}(h:k≤128):Is128 (onesN k):=by
 unfold Is128 onesN;rw[← two128]
 have:=Nat.pow_le_pow_right (n:=2) (by decide) h
 have:=Nat.two_pow_pos k
 omega
theorem pow_split {k:Nat}(h:k≤64):2 ^ k*2 ^ (64 - k)=18446744073709551616:=by
 rw[← Nat.pow_add,← two64];congr 1;omega
theorem ones_div {k:Nat}(h:k≤64):18446744073709551615 / 2 ^ (64 - k)=2 ^ k - 1:=by
 have e:=pow_split h
 have p1:=Nat.two_pow_pos k
 have p2:=Nat.two_pow_pos (64 - k)
 apply Nat.div_eq_of_lt_le
 ·have:(2 ^ k - 1)*2 ^ (64 - k)=18446744073709551616 - 2 ^ (64 - k):=by rw[Nat.sub_mul,e,Nat.one_mul]
  omega
 ·have:(2 ^ k - 1+1)*2 ^ (64 - k)=18446744073709551616:=by rw[Nat.sub_add_cancel p1,e]
  omega
theorem ones_lo_word {n:Int}(h0:0≤n)(h1:n≤64):(18446744073709551615:Int) / 2 ^ (64 - n).toNat=loOf (onesN n.toNat)∧(0:Int)=hiOf (onesN n.toNat):=by
 obtain⟨k,rfl⟩:=Int.eq_ofNat_of_zero_le h0
 have hk:k≤64:=by omega
 have e:(64 - (k:Int)).toNat=64 - k:=by omega
 have d:=ones_div hk
 have hp:=Nat.pow_le_pow_right (n:=2) (by decide) hk
 rw[two64] at hp
 have p1:=Nat.two_pow_pos k
 rw[e]
 unfold loOf hiOf onesN
 rw[Int.toNat_natCast]
 constructor
 ·rw[Nat.mod_eq_of_lt (by omega),← d];simp
 ·rw[Nat.div_eq_of_lt (by omega)];rfl
theorem ones_hi_word {n:Int}(h0:64<n)(h1:n≤128):(18446744073709551615:Int) / 2 ^ (128 - n).toNat=hiOf (onesN n.toNat)∧(18446744073709551615:Int)=loOf (onesN n.toNat):=by
 obtain⟨k,rfl⟩:=Int.eq_ofNat_of_zero_le (by omega:0≤n)
 obtain⟨j,rfl⟩:∃ j,k=64+j:=⟨k - 64,by omega⟩
 have hk:j≤64:=by omega
 have e:(128 - ((64+j:Nat):Int)).toNat=64 - j:=by omega
 have d:=ones_div hk
 have p1:=Nat.two_pow_pos j
 rw[e]
 unfold loOf hiOf onesN
 rw[Int.toNat_natCast,Nat.pow_add,two64]
 constructor
 ·rw[show(18446744073709551616*2 ^ j - 1) / 18446744073709551616=2 ^ j - 1 by omega,← d];simp
 ·omega
theorem and_ones (n k:Nat):n &&& onesN k=n % 2 ^ k:=Nat.and_two_pow_sub_one_eq_mod n k
def cutN (n:Nat)(w:Int):Nat:=if isW w=true then n % 2 ^ w.toNat else 0
theorem cut_is {n:Nat}(h:Is128 n)(w:Int):Is128 (cutN n w):=by
 unfold cutN;split
 ·unfold Is128 at *;exact Nat.lt_of_le_of_lt (Nat.mod_le _ _) h
 ·unfold Is128;decide
theorem cut_yes {n:Nat}{w:Int}(h:isW w=true):cutN n w=n % 2 ^ w.toNat:=by unfold cutN;rw[if_pos h]
theorem cut_no {n:Nat}{w:Int}(h:isW w=false):cutN n w=0:=by unfold cutN;rw[h];rfl
theorem zero_words:B 0=.agg #[.int .u64 0,.int .u64 0]:=by simp[B,hiOf,loOf]
theorem add_words {n m:Nat}(hn:Is128 n)(hm:Is128 m):
  ((hiOf n+hiOf m+(loOf n+loOf m) / 18446744073709551616) % 18446744073709551616=hiOf ((n+m) % 340282366920938463463374607431768211456))∧((loOf n+loOf m) % 18446744073709551616=loOf ((n+m) % 340282366920938463463374607431768211456)):=by
 unfold Is128 at hn hm;unfold hiOf loOf;omega
def bor (x y:Int):Int:=if x<y then 1 else 0
theorem sub_words {n m:Nat}(hn:Is128 n)(hm:Is128 m):
  ((hiOf n - hiOf m - bor (loOf n) (loOf m)) % 18446744073709551616=hiOf ((n+(340282366920938463463374607431768211456 - m)) % 340282366920938463463374607431768211456))∧((loOf n - loOf m) % 18446744073709551616=loOf ((n+(340282366920938463463374607431768211456 - m)) % 340282366920938463463374607431768211456)):=by
 unfold Is128 at hn hm;unfold hiOf loOf bor;split<;>omega
theorem mod_is (n:Nat):Is128 (n % 340282366920938463463374607431768211456):=by unfold Is128;omega
theorem bool_one (m:Nat):(((m % 2:Nat):Int)==1)=decide (m % 2=1):=by
 rcases Nat.mod_two_eq_zero_or_one m with h|h<;>rw[h]<;>rfl
theorem bit_hi {n:Nat}(hn:Is128 n){k:Nat}:(bits BinOp.and IntKind.u64 (hiOf n / 2 ^ k) 1==1)=n.testBit (64+k):=by
 unfold Is128 at hn;unfold hiOf
 have e:(((n / 18446744073709551616:Nat):Int) / 2 ^ k)=((n / 18446744073709551616 / 2 ^ k:Nat):Int):=by simp
 have hl:n / 18446744073709551616 / 2 ^ k≤n / 18446744073709551616:=Nat.div_le_self _ _
 have hb:n / 18446744073709551616 / 2 ^ k<18446744073709551616:=Nat.lt_of_le_of_lt hl (by omega)
 rw[e,show(1:Int)=((1:Nat):Int) from rfl,u64_and_nat _ _ hb (by decide),nat_mask1]
 rw[show((1:Nat):Int)=1 from rfl,bool_one,Nat.testBit_eq_decide_div_mod_eq,Nat.pow_add,← Nat.div_div_eq_div_mul,two64]
theorem bit_lo (n:Nat){k:Nat}(hk:k<64):(bits BinOp.and IntKind.u64 (loOf n / 2 ^ k) 1==1)=n.testBit k:=by
 unfold loOf
 have e:(((n % 18446744073709551616:Nat):Int) / 2 ^ k)=((n % 18446744073709551616 / 2 ^ k:Nat):Int):=by simp
 have hl:n % 18446744073709551616 / 2 ^ k≤n % 18446744073709551616:=Nat.div_le_self _ _
 have hb:n % 18446744073709551616 / 2 ^ k<18446744073709551616:=Nat.lt_of_le_of_lt hl (by omega)
 rw[e,show(1:Int)=((1:Nat):Int) from rfl,u64_and_nat _ _ hb (by decide),nat_mask1]
 rw[show((1:Nat):Int)=1 from rfl,bool_one]
 have h1:=Nat.testBit_eq_decide_div_mod_eq (x:=n % 2 ^ 64) (i:=k)
 rw[Nat.testBit_mod_two_pow] at h1
 simp only[hk,decide_true,Bool.true_and] at h1
 rw[h1,two64]
instance:BEq ByteArray:=⟨fun a b=>a.data==b.data⟩
structure Rf where (head name:ByteArray)
 deriving DecidableEq
structure Fld where (name:ByteArray)(width:Int)
 deriving DecidableEq
structure Hdr where (name:ByteArray)(fields:List Fld)
 deriving DecidableEq
structure Cas where (value mask:Nat)(next:ByteArray)
 deriving DecidableEq
structure Sta where (name header:ByteArray)(on:Rf)(cases:List Cas)(next:ByteArray)
 deriving DecidableEq
structure Opd where (ref:Rf)(const:Nat)
 deriving DecidableEq
structure Stp where (kind:Int)(to:Rf)(op:Int)(a b:Opd)
 deriving DecidableEq
structure Actn where (name:ByteArray)(params:List Fld)(steps:List Stp)
 deriving DecidableEq
structure Ky where (ref:Rf)(kind:Int)
 deriving DecidableEq
structure Cl where (action:ByteArray)(args:List Nat)
 deriving DecidableEq
structure Tbl where (name:ByteArray)(keys:List Ky)(actions:List ByteArray)(size:Int)(dflt:Cl)(fixed:Bool)
 deriving DecidableEq
structure Tst where (kind:Int)(a b:Opd)
 deriving DecidableEq
inductive Stg where
 | mk (kind:Int) (table:ByteArray) (test:Tst) (thn els:List Stg)
structure Sch where (headers:List Hdr)(metas:List Fld)(states:List Sta)(actions:List Actn)(tables:List Tbl)(control:List Stg)
def Stg.kind:Stg→Int|.mk k _ _ _ _=>k
def Stg.table:Stg→ByteArray|.mk _ t _ _ _=>t
def Stg.test:Stg→Tst|.mk _ _ x _ _=>x
def Stg.thn:Stg→List Stg|.mk _ _ _ x _=>x
def Stg.els:Stg→List Stg|.mk _ _ _ _ x=>x
def Row {α:Type}(z:Nat)(Is:World→Array Value→α→Prop)(w:World)(v:Value)(xs:List α):Prop:=
 ∃ ad cap, v = .slice ad xs.length cap ∧ xs.length ≤ cap ∧ (xs = [] ∨ ∃ b o, ad = some ⟨b, o, none⟩ ∧
   ∀ i x, xs[i]? = some x → ∃ cs, cs.size = z ∧ (∀ j u, cs[j]? = some u → w.cell? ⟨b, o + i * z + j, none⟩ = some u) ∧ Is w cs x)
def Pres (w w':World):Prop:=∀ a v,w.cell? a=some v→w'.cell? a=some v
theorem Pres.refl (w:World):Pres w w:=fun _ _ h=>h
theorem Pres.trans {a b c:World}(h:Pres a b)(k:Pres b c):Pres a c:=fun p v e=>k p v (h p v e)
theorem pres_below {w w':World}(h:Below w.heap.size w w'):Pres w w':=fun a v e=>(World.cell?_of_block (h.block a.block (World.block_lt_of_cell? w a e))).trans e
theorem Row.pres {α:Type}{z:Nat}{Is:World→Array Value→α→Prop}{w w':World}{v:Value}{xs:List α}(h:Row z Is w v xs)(hp:Pres w w')(hi:∀ cs x,x ∈ xs→Is w cs x→Is w' cs x):Row z Is w' v xs:=by
 obtain⟨ad,cap,rfl,hc,h⟩:=h
 refine⟨ad,cap,rfl,hc,?_⟩
 rcases h with rfl|⟨b,o,rfl,h⟩
 ·exact .inl rfl
 ·refine .inr ⟨b,o,rfl,fun i x hx=>?_⟩
  obtain⟨cs,hs,h1,h2⟩:=h i x hx
  exact⟨cs,hs,fun j u hu=>hp _ _ (h1 j u hu),hi cs x (List.mem_of_getElem? hx) h2⟩
abbrev RfC (r:Rf):List Value:=[.string r.head,.string r.name]
abbrev FldC (f:Fld):Array Value:=#[.string f.name,.int .i64 f.width]
abbrev CasC (c:Cas):Array Value:=#[.int .u64 (hiOf c.value),.int .u64 (loOf c.value),.int .u64 (hiOf c.mask),.int .u64 (loOf c.mask),.string c.next]
abbrev OpdC (o:Opd):Array Value:=#[.string o.ref.head,.string o.ref.name,.int .u64 (hiOf o.const),.int .u64 (loOf o.const)]
abbrev StpC (s:Stp):Array Value:=#[.int .i64 s.kind,.string s.to.head,.string s.to.name,.int .i64 s.op,.string s.a.ref.head,.string s.a.ref.name,.int .u64 (hiOf s.a.const),.int .u64 (loOf s.a.const),.string s.b.ref.head,.string s.b.ref.name,.int .u64 (hiOf s.b.const),.int .u64 (loOf s.b.const)]
abbrev KyC (k:Ky):Array Value:=#[.string k.ref.head,.string k.ref.name,.int .i64 k.kind]
abbrev BitC (n:Nat):Array Value:=#[.int .u64 (hiOf n),.int .u64 (loOf n)]
abbrev TxtC (s:ByteArray):Array Value:=#[.string s]
abbrev TstC (t:Tst):Array Value:=#[.int .i64 t.kind,.string t.a.ref.head,.string t.a.ref.name,.int .u64 (hiOf t.a.const),.int .u64 (loOf t.a.const),.string t.b.ref.head,.string t.b.ref.name,.int .u64 (hiOf t.b.const),.int .u64 (loOf t.b.const)]
def Okn (n:Int):Prop := -9223372036854775808≤n∧n≤9223372036854775807
def Okt (s:ByteArray):Prop:=s.size≤140737488351232
def Flat {α:Type}(c:α→Array Value)(ok:α→Prop)(_:World)(cs:Array Value)(x:α):Prop:=cs=c x∧ok x
def FldOk (f:Fld):Prop:=Okt f.name∧Okn f.width
def CasOk (c:Cas):Prop:=Is128 c.value∧Is128 c.mask∧Okt c.next
def OpdOk (o:Opd):Prop:=Okt o.ref.head∧Okt o.ref.name∧Is128 o.const
def StpOk (s:Stp):Prop:=Okn s.kind∧Okt s.to.head∧Okt s.to.name∧Okn s.op∧OpdOk s.a∧OpdOk s.b
def KyOk (k:Ky):Prop:=Okt k.ref.head∧Okt k.ref.name∧Okn k.kind
def TstOk (t:Tst):Prop:=Okn t.kind∧OpdOk t.a∧OpdOk t.b
def Len {α:Type}(z:Nat)(xs:List α):Prop:=xs.length*z≤140737488351232
def FldRow (w:World)(v:Value)(xs:List Fld):Prop:=Row 2 (Flat FldC FldOk) w v xs∧Len 24 xs
def CasRow (w:World)(v:Value)(xs:List Cas):Prop:=Row 5 (Flat CasC CasOk) w v xs∧Len 48 xs
def StpRow (w:World)(v:Value)(xs:List Stp):Prop:=Row 12 (Flat StpC StpOk) w v xs∧Len 144 xs
def KyRow (w:World)(v:Value)(xs:List Ky):Prop:=Row 3 (Flat KyC KyOk) w v xs∧Len 40 xs
def BitRow (w:World)(v:Value)(xs:List Nat):Prop:=Row 2 (Flat BitC Is128) w v xs∧Len 16 xs
def TxtRow (w:World)(v:Value)(xs:List ByteArray):Prop:=Row 1 (Flat TxtC Okt) w v xs∧Len 16 xs
def HdrIs (w:World)(cs:Array Value)(h:Hdr):Prop:=∃ v,cs=#[.string h.name,v]∧Okt h.name∧FldRow w v h.fields
def StaIs (w:World)(cs:Array Value)(s:Sta):Prop:=∃ v,cs=#[.string s.name,.string s.header,.string s.on.head,.string s.on.name,v,.string s.next]∧(Okt s.name∧Okt s.header∧Okt s.on.head∧Okt s.on.name∧Okt s.next)∧CasRow w v s.cases
def ActIs (w:World)(cs:Array Value)(a:Actn):Prop:=∃ v u,cs=#[.string a.name,v,u]∧Okt a.name∧FldRow w v a.params∧StpRow w u a.steps
def TblIs (w:World)(cs:Array Value)(t:Tbl):Prop:=∃ k a d,cs=#[.string t.name,k,a,.int .i64 t.size,.string t.dflt.action,d,.bool t.fixed]∧(Okt t.name∧Okn t.size∧Okt t.dflt.action)∧KyRow w k t.keys∧TxtRow w a t.actions∧BitRow w d t.dflt.args
mutual
def StgIs (w:World):Stg→Array Value→Prop
 | .mk k t x th el,cs=>∃ v1 v2,cs=#[.int .i64 k,.string t,.int .i64 x.kind,.string x.a.ref.head,.string x.a.ref.name,.int .u64 (hiOf x.a.const),.int .u64 (loOf x.a.const),.string x.b.ref.head,.string x.b.ref.name,.int .u64 (hiOf x.b.const),.int .u64 (loOf x.b.const),v1,v2]∧(Okn k∧Okt t∧TstOk x)∧
   (∃ ad cap,v1=.slice ad th.length cap∧th.length≤cap∧StgAt w th ad 0∧Len 176 th)∧(∃ ad cap,v2=.slice ad el.length cap∧el.length≤cap∧StgAt w el ad 0∧Len 176 el)
def StgAt (w:World):List Stg→Option Addr→Nat→Prop
 |[],_,_=>True
 | x :: xs,ad,i=>(∃ b o cs,ad=some ⟨b,o,none⟩∧cs.size=13∧(∀ j u,cs[j]?=some u→w.cell? ⟨b,o+i*13+j,none⟩=some u)∧StgIs w x cs)∧StgAt w xs ad (i+1)
end
def StgRow (w:World)(v:Value)(xs:List Stg):Prop:=∃ ad cap,v=.slice ad xs.length cap∧xs.length≤cap∧StgAt w xs ad 0∧Len 176 xs
theorem stgIs_iff (w:World)(x:Stg)(cs:Array Value):StgIs w x cs↔∃ v1 v2,cs=#[.int .i64 x.kind,.string x.table,.int .i64 x.test.kind,.string x.test.a.ref.head,.string x.test.a.ref.name,.int .u64 (hiOf x.test.a.const),.int .u64 (loOf x.test.a.const),.string x.test.b.ref.head,.string x.test.b.ref.name,.int .u64 (hiOf x.test.b.const),.int .u64 (loOf x.test.b.const),v1,v2]∧(Okn x.kind∧Okt x.table∧TstOk x.test)∧StgRow w v1 x.thn∧StgRow w v2 x.els:=by
 cases x;exact Iff.rfl
theorem stgAt_get {w:World}:∀ {xs:List Stg}{ad:Option Addr}{k:Nat},StgAt w xs ad k→∀ {i:Nat}{x:Stg},xs[i]?=some x→∃ b o cs,ad=some ⟨b,o,none⟩∧cs.size=13∧(∀ j u,cs[j]?=some u→w.cell? ⟨b,o+(k+i)*13+j,none⟩=some u)∧StgIs w x cs
 |[],_,_,_,_,_,hx=>by simp at hx
 | y :: ys,ad,k,h,0,x,hx=>by
  simp only[List.getElem?_cons_zero,Option.some.injEq] at hx
  subst hx
  exact h.1
 | y :: ys,ad,k,h,i+1,x,hx=>by
  simp only[List.getElem?_cons_succ] at hx
  have:=stgAt_get h.2 hx
  rwa [show k+(i+1)=k+1+i by omega]
mutual
theorem StgIs.pres {w w':World}(hp:Pres w w'):∀ {x:Stg}{cs:Array Value},StgIs w x cs→StgIs w' x cs
 | .mk k t x th el,cs,⟨v1,v2,e,ok,⟨a1,c1,e1,l1,h1,n1⟩,⟨a2,c2,e2,l2,h2,n2⟩⟩=>⟨v1,v2,e,ok,⟨a1,c1,e1,l1,StgAt.pres hp h1,n1⟩,⟨a2,c2,e2,l2,StgAt.pres hp h2,n2⟩⟩
theorem StgAt.pres {w w':World}(hp:Pres w w'):∀ {xs:List Stg}{ad:Option Addr}{i:Nat},StgAt w xs ad i→StgAt w' xs ad i
 |[],_,_,_=>trivial
 | x :: xs,ad,i,⟨⟨b,o,cs,e,hs,hc,hi⟩,h⟩=>⟨⟨b,o,cs,e,hs,fun j u hu=>hp _ _ (hc j u hu),StgIs.pres hp hi⟩,StgAt.pres hp h⟩
end
theorem flat_pres {α:Type}{c:α→Array Value}{ok:α→Prop}{w w':World}:∀ cs x,Flat c ok w cs x→Flat c ok w' cs x:=fun _ _ h=>h
theorem FldRow.pres {w w':World}{v:Value}{xs:List Fld}(h:FldRow w v xs)(hp:Pres w w'):FldRow w' v xs:=⟨h.1.pres hp (fun _ _ _ h=>h),h.2⟩
theorem CasRow.pres {w w':World}{v:Value}{xs:List Cas}(h:CasRow w v xs)(hp:Pres w w'):CasRow w' v xs:=⟨h.1.pres hp (fun _ _ _ h=>h),h.2⟩
theorem StpRow.pres {w w':World}{v:Value}{xs:List Stp}(h:StpRow w v xs)(hp:Pres w w'):StpRow w' v xs:=⟨h.1.pres hp (fun _ _ _ h=>h),h.2⟩
theorem KyRow.pres {w w':World}{v:Value}{xs:List Ky}(h:KyRow w v xs)(hp:Pres w w'):KyRow w' v xs:=⟨h.1.pres hp (fun _ _ _ h=>h),h.2⟩
theorem BitRow.pres {w w':World}{v:Value}{xs:List Nat}(h:BitRow w v xs)(hp:Pres w w'):BitRow w' v xs:=⟨h.1.pres hp (fun _ _ _ h=>h),h.2⟩
theorem TxtRow.pres {w w':World}{v:Value}{xs:List ByteArray}(h:TxtRow w v xs)(hp:Pres w w'):TxtRow w' v xs:=⟨h.1.pres hp (fun _ _ _ h=>h),h.2⟩
theorem HdrIs.pres {w w':World}{cs:Array Value}{x:Hdr}(h:HdrIs w cs x)(hp:Pres w w'):HdrIs w' cs x:=by obtain⟨v,e,ok,h⟩:=h;exact⟨v,e,ok,h.pres hp⟩
theorem StaIs.pres {w w':World}{cs:Array Value}{x:Sta}(h:StaIs w cs x)(hp:Pres w w'):StaIs w' cs x:=by obtain⟨v,e,ok,h⟩:=h;exact⟨v,e,ok,h.pres hp⟩
theorem ActIs.pres {w w':World}{cs:Array Value}{x:Actn}(h:ActIs w cs x)(hp:Pres w w'):ActIs w' cs x:=by obtain⟨v,u,e,ok,h,k⟩:=h;exact⟨v,u,e,ok,h.pres hp,k.pres hp⟩
theorem TblIs.pres {w w':World}{cs:Array Value}{x:Tbl}(h:TblIs w cs x)(hp:Pres w w'):TblIs w' cs x:=by obtain⟨a,b,c,e,ok,h,k,l⟩:=h;exact⟨a,b,c,e,ok,h.pres hp,k.pres hp,l.pres hp⟩
theorem StgRow.pres {w w':World}{v:Value}{xs:List Stg}(h:StgRow w v xs)(hp:Pres w w'):StgRow w' v xs:=by obtain⟨ad,cap,e,l,h,n⟩:=h;exact⟨ad,cap,e,l,h.pres hp,n⟩
def HdrRow (w:World)(v:Value)(xs:List Hdr):Prop:=Row 2 HdrIs w v xs∧Len 40 xs
def StaRow (w:World)(v:Value)(xs:List Sta):Prop:=Row 6 StaIs w v xs∧Len 104 xs
def ActRow (w:World)(v:Value)(xs:List Actn):Prop:=Row 3 ActIs w v xs∧Len 64 xs
def TblRow (w:World)(v:Value)(xs:List Tbl):Prop:=Row 7 TblIs w v xs∧Len 120 xs
theorem HdrRow.pres {w w':World}{v:Value}{xs:List Hdr}(h:HdrRow w v xs)(hp:Pres w w'):HdrRow w' v xs:=⟨h.1.pres hp (fun _ _ _ h=>h.pres hp),h.2⟩
theorem StaRow.pres {w w':World}{v:Value}{xs:List Sta}(h:StaRow w v xs)(hp:Pres w w'):StaRow w' v xs:=⟨h.1.pres hp (fun _ _ _ h=>h.pres hp),h.2⟩
theorem ActRow.pres {w w':World}{v:Value}{xs:List Actn}(h:ActRow w v xs)(hp:Pres w w'):ActRow w' v xs:=⟨h.1.pres hp (fun _ _ _ h=>h.pres hp),h.2⟩
theorem TblRow.pres {w w':World}{v:Value}{xs:List Tbl}(h:TblRow w v xs)(hp:Pres w w'):TblRow w' v xs:=⟨h.1.pres hp (fun _ _ _ h=>h.pres hp),h.2⟩
def SchIs (w:World)(v:Value)(s:Sch):Prop:=∃ h m st a t c,v=.agg #[h,m,st,a,t,c]∧HdrRow w h s.headers∧FldRow w m s.metas∧StaRow w st s.states∧ActRow w a s.actions∧TblRow w t s.tables∧StgRow w c s.control
theorem SchIs.pres {w w':World}{v:Value}{s:Sch}(h:SchIs w v s)(hp:Pres w w'):SchIs w' v s:=by
 obtain⟨a,b,c,d,e,f,rfl,h1,h2,h3,h4,h5,h6⟩:=h
 exact⟨a,b,c,d,e,f,rfl,h1.pres hp,h2.pres hp,h3.pres hp,h4.pres hp,h5.pres hp,h6.pres hp⟩
theorem isW_bounds {n:Int}(h:isW n=true):1≤n∧n≤128:=by simpa[isW] using h
theorem isW_mk {n:Int}(h:1≤n)(h':n≤128):isW n=true:=by simp[isW,h,h']
theorem isW_not {n:Int}(h:isW n=false):n<1∨128<n:=by
 simp[isW] at h;omega
theorem isWidth_any (n:Int)(w:World):Calls Tryz.prog 225 #[.int .i64 n] w fun e w'=>e=.returned (.bool (isW n))∧w'=w:=by
 by_cases h1:1≤n
 ·go_enter Tryz.func225,Tryz.ntmps225
  go_wp2
  go_ret
  exact⟨by simp[isW,h1],rfl⟩
 ·have h1':decide (1≤n)=false:=by simpa using h1
  go_enter Tryz.func225,Tryz.ntmps225
  go_wp2
  go_ret
  exact⟨by rw[show isW n=false by unfold isW;rw[h1',Bool.false_and]];rfl,rfl⟩
theorem isWidth_val {n:Int}{b:Bool}(h:isW n=b)(w:World):Calls Tryz.prog 225 #[.int .i64 n] w fun e w'=>e=.returned (.bool b)∧w'=w:=by
 subst h;exact isWidth_any n w
theorem ones_any (n:Int)(w:World)(h0:0≤n)(h1:n≤128):Calls Tryz.prog 236 #[.int .i64 n] w fun e w'=>e=.returned (B (onesN n.toNat))∧Below w.heap.size w w':=by
 by_cases h:n≤64
 ·obtain⟨e1,e2⟩:=ones_lo_word h0 h
  have E1:Hid _:=e1;have E2:Hid _:=e2;clear e1 e2
  go_enter Tryz.func236,Tryz.ntmps236
  go_wp2
  refine bodyPost_ret (v:=B (onesN n.toNat)) ?_ rfl ⟨rfl,?_⟩
  ·rw[E1.out];simp[results,Tryz.results236,go_sem];exact E2.out
  ·exact(Below.refl _ _).alloc (Nat.le_refl _) _
 ·obtain⟨e1,e2⟩:=ones_hi_word (by omega) h1
  have E1:Hid _:=e1;have E2:Hid _:=e2;clear e1 e2
  have h':64<n:=by omega
  go_enter Tryz.func236,Tryz.ntmps236
  go_wp2
  refine bodyPost_ret (v:=B (onesN n.toNat)) ?_ rfl ⟨rfl,?_⟩
  ·rw[E1.out];simp[results,Tryz.results236,go_sem];exact E2.out
  ·exact(Below.refl _ _).alloc (Nat.le_refl _) _
theorem and_any (n m:Nat)(hn:Is128 n)(hm:Is128 m)(w:World):Calls Tryz.prog 200 #[B n,B m] w fun e w'=>e=.returned (B (n &&& m))∧Below w.heap.size w w':=by
 have E1:Hid _:=and_hi hn hm;have E2:Hid _:=and_lo n m
 go_enter Tryz.func200,Tryz.ntmps200
 go_wp2
 refine bodyPost_ret (v:=B (n &&& m)) ?_ rfl ⟨rfl,?_⟩
 ·rw[E1.out,E2.out];simp[results,Tryz.results200,go_sem]
 ·go_grown
theorem bcell {W w1:World}(hb:Below W.heap.size W w1):(∀ b o,b<W.heap.size→w1.cell? ⟨b,o,none⟩=W.cell? ⟨b,o,none⟩)∧(∀ b o,b<W.heap.size→w1.frozen? ⟨b,o,none⟩=W.frozen? ⟨b,o,none⟩):=
 ⟨fun b o h=>hb.cell (p:=⟨b,o,none⟩) h,fun b o h=>hb.frozen (p:=⟨b,o,none⟩) h⟩
theorem bstep {W w1 w2:World}(h:Below W.heap.size W w1)(hb:Below w1.heap.size w1 w2):Below W.heap.size W w2:=h.trans (hb.mono h.size)
theorem cut_any (n:Nat)(hn:Is128 n)(wd:Int)(w:World):Calls Tryz.prog 226 #[B n,.int .i64 wd] w fun e w'=>e=.returned (B (cutN n wd))∧Below w.heap.size w w':=by
 cases hW:isW wd
 ·have E:Hid _:=cut_no (n:=n) hW
  go_enter Tryz.func226,Tryz.ntmps226
  go_wp2_with (go_at_call 225;refine(isWidth_any _ _).mono ?_;rintro e w' ⟨rfl,rfl⟩)
  refine bodyPost_ret (v:=B (cutN n wd)) ?_ rfl ⟨rfl,?_⟩
  ·rw[E.out];simp[results,Tryz.results226,go_sem,hiOf,loOf]
  ·go_grown
 ·have E:Hid _:=cut_yes (n:=n) hW
  have hb:=isW_bounds hW
  go_enter Tryz.func226,Tryz.ntmps226
  go_wp2_with (go_at_call 225;refine(isWidth_any _ _).mono ?_;rintro e w' ⟨rfl,rfl⟩)
  go_region_with (first
    | (go_at_call 236; refine (ones_any _ _ (by omega) (by omega)).mono ?_; rintro e w' ⟨rfl, hb1⟩; obtain ⟨hc1, hf1⟩ := bcell hb1; (try simp at hc1); (try simp at hf1); have za : w.heap.size < w'.heap.size := (by have := hb1.size; simp at this; omega); have zb : w.heap.size + 1 < w'.heap.size := (by have := hb1.size; simp at this; omega))
    | (go_at_call 200; refine (and_any _ _ hn (ones_is (by omega)) _).mono ?_; rintro e w' ⟨rfl, hb2⟩; obtain ⟨hc2, hf2⟩ := bcell hb2))
  all_goals
   go_wp2
   refine bodyPost_ret (v:=B (cutN n wd)) ?_ rfl ⟨rfl,?_⟩
   ·rw[E.out,← and_ones];simp[results,Tryz.results226,go_sem,hc2,hf2,hc1,hf1,za,zb]
   ·refine Below.setCell (Below.setCell (bstep (bstep ?_ hb1) hb2) ?_ _) ?_ _
    ·go_grown
    ·simp
    ·simp
theorem run_eqW (a b c d:Int)(w:World):(binOp .eql 121 (.agg #[.int .u64 a,.int .u64 b]) (.agg #[.int .u64 c,.int .u64 d])).run Tryz.prog w=.ok (.bool ((a==c)&&(b==d))) w:=by
 have hS:Tryz.prog.underlying 121=some (.struct (Tryz.prog.fieldsOf 121)):=by kernel_rfl
 have hp:Tryz.prog.stoodInHeld 121=false:=by kernel_rfl
 have u:=Tryz.underlying119
 have h:(Op.equalIn 10000 121 (.agg #[.int .u64 a,.int .u64 b]) (.agg #[.int .u64 c,.int .u64 d])).run Tryz.prog w=.ok (a==c&&b==d) w:=by
  rw[show(10000:Nat)=9999+1 from rfl,run_equalIn_struct w 9999 121 _ _ hS hp]
  simp only[Program.fieldsOf,Tryz.underlying121]
  go_simp
  by_cases h1:a=c<;>by_cases h2:b=d<;>simp[h1,h2]
 simp only[binOp]
 simp[Op.equal,Op.maxDepth,h]
theorem agg_eq (n m:Nat):(hiOf n==hiOf m&&loOf n==loOf m)=decide (n=m):=by
 rw[Bool.eq_iff_iff];simp[words_eq]
theorem run_eqB {n m:Nat}{b:Bool}(h:decide (n=m)=b)(w:World):(binOp .eql 121 (B n) (B m)).run Tryz.prog w=.ok (.bool b) w:=by
 rw[run_eqW,agg_eq,h]
def fitsN (n:Nat)(w:Int):Bool:=isW w&&decide (n<2 ^ w.toNat)
theorem fits_cut {n:Nat}{w:Int}(h:isW w=true):decide (cutN n w=n)=fitsN n w:=by
 unfold fitsN;rw[cut_yes h,h,Bool.true_and]
 have:=Nat.two_pow_pos w.toNat
 rw[Bool.eq_iff_iff];simp only[decide_eq_true_eq]
 constructor
 ·intro e;rw[← e];exact Nat.mod_lt _ this
 ·exact Nat.mod_eq_of_lt
theorem fits_no {n:Nat}{w:Int}(h:isW w=false):fitsN n w=false:=by unfold fitsN;rw[h];rfl
theorem fits_any (n:Nat)(hn:Is128 n)(wd:Int)(w:World):Calls Tryz.prog 199 #[B n,.int .i64 wd] w fun e w'=>e=.returned (.bool (fitsN n wd))∧Below w.heap.size w w':=by
 cases hW:isW wd
 ·have E:Hid _:=fits_no (n:=n) hW
  go_enter Tryz.func199,Tryz.ntmps199
  go_wp2
  go_quiet ((go_at_call 225;exact Calls.quiet_of_same (isWidth_val hW _)))
  go_wp2
  go_ret
  exact⟨by rw[E.out];rfl,below_drewN (by go_grown) _⟩
 ·have hq:=fun w=>run_eqB (fits_cut (n:=n) hW) w
  go_enter Tryz.func199,Tryz.ntmps199
  go_wp2
  go_region_with (first
    | (go_at_call 225; refine (isWidth_val hW _).mono ?_; rintro e w' ⟨rfl, rfl⟩)
    | (go_at_call 226; refine (cut_any n hn _ _).mono ?_; rintro e w' ⟨rfl, hb1⟩; obtain ⟨hc1, hf1⟩ := bcell hb1; (try simp at hc1)))
  all_goals
   go_wp2
   go_ret
   exact⟨rfl,bstep (by go_grown) hb1⟩
end Go.Proofs.YtmbpclknhkbbkaaGreat
