/- A row's thing at a place, cell by cell. -/
import Derived.Test.YtmbpclknhkbbkaaGreatB12
import Derived.Deep.MidRow
set_option linter.unusedSimpArgs false
set_option linter.unusedVariables false
set_option maxHeartbeats 1000000
namespace Go.Proofs.YtmbpclknhkbbkaaGreat
open Go.RowKit
theorem Row.at {α:Type}{z:Nat}{Is:World→Array Value→α→Prop}{w:World}{ad:Option Addr}{n cap:Nat}{xs:List α}(h:Row z Is w (.slice ad n cap) xs){k:Nat}{x:α}(hx:xs[k]?=some x):
  ∃ b o cs,ad=some ⟨b,o,none⟩∧cs.size=z∧(∀ j u,cs[j]?=some u→w.cell? ⟨b,o+k*z+j,none⟩=some u)∧Is w cs x:=by
 obtain⟨ad',cap',e,_,h⟩:=h
 cases e
 rcases h with rfl|⟨b,o,rfl,h⟩
 ·simp at hx
 ·obtain⟨cs,h1,h2,h3⟩:=h k x hx
  exact⟨b,o,cs,rfl,h1,h2,h3⟩
theorem Row.slice {α:Type}{z:Nat}{Is:World→Array Value→α→Prop}{w:World}{v:Value}{xs:List α}(h:Row z Is w v xs):∃ ad cap,v=.slice ad xs.length cap∧xs.length≤cap:=by
 obtain⟨ad,cap,e,hc,_⟩:=h;exact⟨ad,cap,e,hc⟩
theorem StgRow.slice {w:World}{v:Value}{xs:List Stg}(h:StgRow w v xs):∃ ad cap,v=.slice ad xs.length cap∧xs.length≤cap:=by
 obtain⟨ad,cap,e,hc,_⟩:=h;exact⟨ad,cap,e,hc⟩
theorem row_lt {w:World}{a:Addr}{v:Value}(h:w.cell? a=some v):a.block<w.heap.size:=World.block_lt_of_cell? w a h
theorem FldRow.get {w wr:World}{ad:Option Addr}{n cap:Nat}{xs:List Fld}(h:FldRow w (.slice ad n cap) xs)(hp:Pres w wr){k:Nat}{x:Fld}(hx:xs[k]?=some x):
  ∃ b o,ad=some ⟨b,o,none⟩∧wr.cell? ⟨b,o+k*2,none⟩=some (.string x.name)∧wr.cell? ⟨b,o+k*2+1,none⟩=some (.int .i64 x.width)∧FldOk x:=by
 obtain⟨b,o,cs,rfl,hz,hc,rfl,ok⟩:=h.1.at hx
 exact⟨b,o,rfl,hp _ _ (hc 0 _ rfl),hp _ _ (hc 1 _ rfl),ok⟩
theorem CasRow.get {w wr:World}{ad:Option Addr}{n cap:Nat}{xs:List Cas}(h:CasRow w (.slice ad n cap) xs)(hp:Pres w wr){k:Nat}{x:Cas}(hx:xs[k]?=some x):
  ∃ b o,ad=some ⟨b,o,none⟩∧wr.cell? ⟨b,o+k*5,none⟩=some (.int .u64 (hiOf x.value))∧wr.cell? ⟨b,o+k*5+1,none⟩=some (.int .u64 (loOf x.value))∧wr.cell? ⟨b,o+k*5+2,none⟩=some (.int .u64 (hiOf x.mask))∧wr.cell? ⟨b,o+k*5+3,none⟩=some (.int .u64 (loOf x.mask))∧wr.cell? ⟨b,o+k*5+4,none⟩=some (.string x.next)∧CasOk x:=by
 obtain⟨b,o,cs,rfl,hz,hc,rfl,ok⟩:=h.1.at hx
 exact⟨b,o,rfl,hp _ _ (hc 0 _ rfl),hp _ _ (hc 1 _ rfl),hp _ _ (hc 2 _ rfl),hp _ _ (hc 3 _ rfl),hp _ _ (hc 4 _ rfl),ok⟩
theorem StpRow.get {w wr:World}{ad:Option Addr}{n cap:Nat}{xs:List Stp}(h:StpRow w (.slice ad n cap) xs)(hp:Pres w wr){k:Nat}{x:Stp}(hx:xs[k]?=some x):
  ∃ b o,ad=some ⟨b,o,none⟩∧wr.cell? ⟨b,o+k*12,none⟩=some (.int .i64 x.kind)∧wr.cell? ⟨b,o+k*12+1,none⟩=some (.string x.to.head)∧wr.cell? ⟨b,o+k*12+2,none⟩=some (.string x.to.name)∧wr.cell? ⟨b,o+k*12+3,none⟩=some (.int .i64 x.op)∧wr.cell? ⟨b,o+k*12+4,none⟩=some (.string x.a.ref.head)∧wr.cell? ⟨b,o+k*12+5,none⟩=some (.string x.a.ref.name)∧wr.cell? ⟨b,o+k*12+6,none⟩=some (.int .u64 (hiOf x.a.const))∧wr.cell? ⟨b,o+k*12+7,none⟩=some (.int .u64 (loOf x.a.const))∧wr.cell? ⟨b,o+k*12+8,none⟩=some (.string x.b.ref.head)∧wr.cell? ⟨b,o+k*12+9,none⟩=some (.string x.b.ref.name)∧wr.cell? ⟨b,o+k*12+10,none⟩=some (.int .u64 (hiOf x.b.const))∧wr.cell? ⟨b,o+k*12+11,none⟩=some (.int .u64 (loOf x.b.const))∧StpOk x:=by
 obtain⟨b,o,cs,rfl,hz,hc,rfl,ok⟩:=h.1.at hx
 exact⟨b,o,rfl,hp _ _ (hc 0 _ rfl),hp _ _ (hc 1 _ rfl),hp _ _ (hc 2 _ rfl),hp _ _ (hc 3 _ rfl),hp _ _ (hc 4 _ rfl),hp _ _ (hc 5 _ rfl),hp _ _ (hc 6 _ rfl),hp _ _ (hc 7 _ rfl),hp _ _ (hc 8 _ rfl),hp _ _ (hc 9 _ rfl),hp _ _ (hc 10 _ rfl),hp _ _ (hc 11 _ rfl),ok⟩
theorem KyRow.get {w wr:World}{ad:Option Addr}{n cap:Nat}{xs:List Ky}(h:KyRow w (.slice ad n cap) xs)(hp:Pres w wr){k:Nat}{x:Ky}(hx:xs[k]?=some x):
  ∃ b o,ad=some ⟨b,o,none⟩∧wr.cell? ⟨b,o+k*3,none⟩=some (.string x.ref.head)∧wr.cell? ⟨b,o+k*3+1,none⟩=some (.string x.ref.name)∧wr.cell? ⟨b,o+k*3+2,none⟩=some (.int .i64 x.kind)∧KyOk x:=by
 obtain⟨b,o,cs,rfl,hz,hc,rfl,ok⟩:=h.1.at hx
 exact⟨b,o,rfl,hp _ _ (hc 0 _ rfl),hp _ _ (hc 1 _ rfl),hp _ _ (hc 2 _ rfl),ok⟩
theorem BitRow.get {w wr:World}{ad:Option Addr}{n cap:Nat}{xs:List Nat}(h:BitRow w (.slice ad n cap) xs)(hp:Pres w wr){k:Nat}{x:Nat}(hx:xs[k]?=some x):
  ∃ b o,ad=some ⟨b,o,none⟩∧wr.cell? ⟨b,o+k*2,none⟩=some (.int .u64 (hiOf x))∧wr.cell? ⟨b,o+k*2+1,none⟩=some (.int .u64 (loOf x))∧Is128 x:=by
 obtain⟨b,o,cs,rfl,hz,hc,rfl,ok⟩:=h.1.at hx
 exact⟨b,o,rfl,hp _ _ (hc 0 _ rfl),hp _ _ (hc 1 _ rfl),ok⟩
theorem TxtRow.get {w wr:World}{ad:Option Addr}{n cap:Nat}{xs:List ByteArray}(h:TxtRow w (.slice ad n cap) xs)(hp:Pres w wr){k:Nat}{x:ByteArray}(hx:xs[k]?=some x):
  ∃ b o,ad=some ⟨b,o,none⟩∧wr.cell? ⟨b,o+k,none⟩=some (.string x)∧Okt x:=by
 obtain⟨b,o,cs,rfl,hz,hc,rfl,ok⟩:=h.1.at hx
 simp only[Nat.mul_one] at hc
 exact⟨b,o,rfl,hp _ _ (hc 0 _ rfl),ok⟩
theorem HdrRow.get {w wr:World}{ad:Option Addr}{n cap:Nat}{xs:List Hdr}(h:HdrRow w (.slice ad n cap) xs)(hp:Pres w wr){k:Nat}{x:Hdr}(hx:xs[k]?=some x):
  ∃ b o a1 c1,ad=some ⟨b,o,none⟩∧wr.cell? ⟨b,o+k*2,none⟩=some (.string x.name)∧wr.cell? ⟨b,o+k*2+1,none⟩=some (.slice a1 x.fields.length c1)∧Okt x.name∧(x.fields.length≤c1)∧FldRow wr (.slice a1 x.fields.length c1) x.fields:=by
 obtain⟨b,o,cs,rfl,hz,hc,u1,rfl,ok,h1⟩:=h.1.at hx
 obtain⟨a1,c1,rfl,l1⟩:=h1.1.slice
 exact⟨b,o,a1,c1,rfl,hp _ _ (hc 0 _ rfl),hp _ _ (hc 1 _ rfl),ok,l1,h1.pres hp⟩
theorem StaRow.get {w wr:World}{ad:Option Addr}{n cap:Nat}{xs:List Sta}(h:StaRow w (.slice ad n cap) xs)(hp:Pres w wr){k:Nat}{x:Sta}(hx:xs[k]?=some x):
  ∃ b o a1 c1,ad=some ⟨b,o,none⟩∧wr.cell? ⟨b,o+k*6,none⟩=some (.string x.name)∧wr.cell? ⟨b,o+k*6+1,none⟩=some (.string x.header)∧wr.cell? ⟨b,o+k*6+2,none⟩=some (.string x.on.head)∧wr.cell? ⟨b,o+k*6+3,none⟩=some (.string x.on.name)∧wr.cell? ⟨b,o+k*6+4,none⟩=some (.slice a1 x.cases.length c1)∧wr.cell? ⟨b,o+k*6+5,none⟩=some (.string x.next)∧(Okt x.name∧Okt x.header∧Okt x.on.head∧Okt x.on.name∧Okt x.next)∧(x.cases.length≤c1)∧CasRow wr (.slice a1 x.cases.length c1) x.cases:=by
 obtain⟨b,o,cs,rfl,hz,hc,u1,rfl,ok,h1⟩:=h.1.at hx
 obtain⟨a1,c1,rfl,l1⟩:=h1.1.slice
 exact⟨b,o,a1,c1,rfl,hp _ _ (hc 0 _ rfl),hp _ _ (hc 1 _ rfl),hp _ _ (hc 2 _ rfl),hp _ _ (hc 3 _ rfl),hp _ _ (hc 4 _ rfl),hp _ _ (hc 5 _ rfl),ok,l1,h1.pres hp⟩
theorem ActRow.get {w wr:World}{ad:Option Addr}{n cap:Nat}{xs:List Actn}(h:ActRow w (.slice ad n cap) xs)(hp:Pres w wr){k:Nat}{x:Actn}(hx:xs[k]?=some x):
  ∃ b o a1 c1 a2 c2,ad=some ⟨b,o,none⟩∧wr.cell? ⟨b,o+k*3,none⟩=some (.string x.name)∧wr.cell? ⟨b,o+k*3+1,none⟩=some (.slice a1 x.params.length c1)∧wr.cell? ⟨b,o+k*3+2,none⟩=some (.slice a2 x.steps.length c2)∧Okt x.name∧(x.params.length≤c1∧x.steps.length≤c2)∧FldRow wr (.slice a1 x.params.length c1) x.params∧StpRow wr (.slice a2 x.steps.length c2) x.steps:=by
 obtain⟨b,o,cs,rfl,hz,hc,u1,u2,rfl,ok,h1,h2⟩:=h.1.at hx
 obtain⟨a1,c1,rfl,l1⟩:=h1.1.slice
 obtain⟨a2,c2,rfl,l2⟩:=h2.1.slice
 exact⟨b,o,a1,c1,a2,c2,rfl,hp _ _ (hc 0 _ rfl),hp _ _ (hc 1 _ rfl),hp _ _ (hc 2 _ rfl),ok,⟨l1,l2⟩,h1.pres hp,h2.pres hp⟩
theorem TblRow.get {w wr:World}{ad:Option Addr}{n cap:Nat}{xs:List Tbl}(h:TblRow w (.slice ad n cap) xs)(hp:Pres w wr){k:Nat}{x:Tbl}(hx:xs[k]?=some x):
  ∃ b o a1 c1 a2 c2 a3 c3,ad=some ⟨b,o,none⟩∧wr.cell? ⟨b,o+k*7,none⟩=some (.string x.name)∧wr.cell? ⟨b,o+k*7+1,none⟩=some (.slice a1 x.keys.length c1)∧wr.cell? ⟨b,o+k*7+2,none⟩=some (.slice a2 x.actions.length c2)∧wr.cell? ⟨b,o+k*7+3,none⟩=some (.int .i64 x.size)∧wr.cell? ⟨b,o+k*7+4,none⟩=some (.string x.dflt.action)∧wr.cell? ⟨b,o+k*7+5,none⟩=some (.slice a3 x.dflt.args.length c3)∧wr.cell? ⟨b,o+k*7+6,none⟩=some (.bool x.fixed)∧(Okt x.name∧Okn x.size∧Okt x.dflt.action)∧(x.keys.length≤c1∧x.actions.length≤c2∧x.dflt.args.length≤c3)∧KyRow wr (.slice a1 x.keys.length c1) x.keys∧TxtRow wr (.slice a2 x.actions.length c2) x.actions∧BitRow wr (.slice a3 x.dflt.args.length c3) x.dflt.args:=by
 obtain⟨b,o,cs,rfl,hz,hc,u1,u2,u3,rfl,ok,h1,h2,h3⟩:=h.1.at hx
 obtain⟨a1,c1,rfl,l1⟩:=h1.1.slice
 obtain⟨a2,c2,rfl,l2⟩:=h2.1.slice
 obtain⟨a3,c3,rfl,l3⟩:=h3.1.slice
 exact⟨b,o,a1,c1,a2,c2,a3,c3,rfl,hp _ _ (hc 0 _ rfl),hp _ _ (hc 1 _ rfl),hp _ _ (hc 2 _ rfl),hp _ _ (hc 3 _ rfl),hp _ _ (hc 4 _ rfl),hp _ _ (hc 5 _ rfl),hp _ _ (hc 6 _ rfl),ok,⟨l1,l2,l3⟩,h1.pres hp,h2.pres hp,h3.pres hp⟩
theorem StgRow.get {w wr:World}{ad:Option Addr}{n cap:Nat}{xs:List Stg}(h:StgRow w (.slice ad n cap) xs)(hp:Pres w wr){k:Nat}{x:Stg}(hx:xs[k]?=some x):
  ∃ b o a1 c1 a2 c2,ad=some ⟨b,o,none⟩∧wr.cell? ⟨b,o+k*13,none⟩=some (.int .i64 x.kind)∧wr.cell? ⟨b,o+k*13+1,none⟩=some (.string x.table)∧wr.cell? ⟨b,o+k*13+2,none⟩=some (.int .i64 x.test.kind)∧wr.cell? ⟨b,o+k*13+3,none⟩=some (.string x.test.a.ref.head)∧wr.cell? ⟨b,o+k*13+4,none⟩=some (.string x.test.a.ref.name)∧wr.cell? ⟨b,o+k*13+5,none⟩=some (.int .u64 (hiOf x.test.a.const))∧wr.cell? ⟨b,o+k*13+6,none⟩=some (.int .u64 (loOf x.test.a.const))∧wr.cell? ⟨b,o+k*13+7,none⟩=some (.string x.test.b.ref.head)∧wr.cell? ⟨b,o+k*13+8,none⟩=some (.string x.test.b.ref.name)∧wr.cell? ⟨b,o+k*13+9,none⟩=some (.int .u64 (hiOf x.test.b.const))∧wr.cell? ⟨b,o+k*13+10,none⟩=some (.int .u64 (loOf x.test.b.const))∧wr.cell? ⟨b,o+k*13+11,none⟩=some (.slice a1 x.thn.length c1)∧wr.cell? ⟨b,o+k*13+12,none⟩=some (.slice a2 x.els.length c2)∧(Okn x.kind∧Okt x.table∧TstOk x.test)∧(x.thn.length≤c1∧x.els.length≤c2)∧StgRow wr (.slice a1 x.thn.length c1) x.thn∧StgRow wr (.slice a2 x.els.length c2) x.els:=by
 obtain⟨ad',cap',e,_,h,_⟩:=h
 cases e
 obtain⟨b,o,cs,rfl,hz,hc,hi⟩:=stgAt_get h hx
 obtain⟨v1,v2,rfl,ok,h1,h2⟩:=(stgIs_iff w x cs).1 hi
 obtain⟨a1,c1,rfl,l1⟩:=h1.slice
 obtain⟨a2,c2,rfl,l2⟩:=h2.slice
 simp only[Nat.zero_add] at hc
 exact⟨b,o,a1,c1,a2,c2,rfl,hp _ _ (hc 0 _ rfl),hp _ _ (hc 1 _ rfl),hp _ _ (hc 2 _ rfl),hp _ _ (hc 3 _ rfl),hp _ _ (hc 4 _ rfl),hp _ _ (hc 5 _ rfl),hp _ _ (hc 6 _ rfl),hp _ _ (hc 7 _ rfl),hp _ _ (hc 8 _ rfl),hp _ _ (hc 9 _ rfl),hp _ _ (hc 10 _ rfl),hp _ _ (hc 11 _ rfl),hp _ _ (hc 12 _ rfl),ok,⟨l1,l2⟩,h1.pres hp,h2.pres hp⟩
abbrev bxA (s:Sch)(a0:Option Addr)(c0:Nat)(a1:Option Addr)(c1:Nat)(a2:Option Addr)(c2:Nat)(a3:Option Addr)(c3:Nat)(a4:Option Addr)(c4:Nat)(a5:Option Addr)(c5:Nat):Array Value:=#[.slice a0 s.headers.length c0,.slice a1 s.metas.length c1,.slice a2 s.states.length c2,.slice a3 s.actions.length c3,.slice a4 s.tables.length c4,.slice a5 s.control.length c5]
abbrev sgA (Y:Stg)(a:Option Addr)(c:Nat)(b:Option Addr)(d:Nat):Array Value:=#[.int .i64 Y.kind,.string Y.table,.int .i64 Y.test.kind,.string Y.test.a.ref.head,.string Y.test.a.ref.name,.int .u64 (hiOf Y.test.a.const),.int .u64 (loOf Y.test.a.const),.string Y.test.b.ref.head,.string Y.test.b.ref.name,.int .u64 (hiOf Y.test.b.const),.int .u64 (loOf Y.test.b.const),.slice a Y.thn.length c,.slice b Y.els.length d]
def idxF {α:Type}(p:α→Bool):List α→Nat→Int
 |[],_ => -1
 | x :: xs,k=>if p x then(k:Int) else idxF p xs (k+1)
theorem idx_yes {α:Type}{p:α→Bool}{xs:List α}{k:Nat}{x:α}(hx:xs[k]?=some x)(h:p x=true)(j:Nat):idxF p (xs.drop k) j=(j:Int):=by
 obtain⟨hlt,e⟩:=List.getElem?_eq_some_iff.1 hx
 rw[List.drop_eq_getElem_cons hlt,e,idxF,if_pos h]
theorem idx_no {α:Type}{p:α→Bool}{xs:List α}{k:Nat}{x:α}(hx:xs[k]?=some x)(h:p x=false)(j:Nat):idxF p (xs.drop k) j=idxF p (xs.drop (k+1)) (j+1):=by
 obtain⟨hlt,e⟩:=List.getElem?_eq_some_iff.1 hx
 rw[List.drop_eq_getElem_cons hlt,e,idxF,if_neg (by simp[h])]
theorem idx_end {α:Type}{p:α→Bool}{xs:List α}(j:Nat):idxF p (xs.drop xs.length) j = -1:=by simp[idxF]
theorem idx_cases {α:Type}(p:α→Bool):∀(xs:List α)(k:Nat),(idxF p xs k = -1∧∀ x ∈ xs,p x=false)∨∃ i x,i<xs.length∧xs[i]?=some x∧p x=true∧idxF p xs k=((k+i:Nat):Int)∧(∀ j y,j<i→xs[j]?=some y→p y=false)
 |[],k=>.inl ⟨rfl,by simp⟩
 | x :: xs,k=>by
  by_cases h:p x=true
  ·exact .inr ⟨0,x,by simp,rfl,h,by simp[idxF,h],fun j y hj=>by omega⟩
  ·rcases idx_cases p xs (k+1) with⟨h1,h2⟩|⟨i,y,h1,h2,h3,h4,h5⟩
   ·exact .inl ⟨by simp[idxF,h,h1],fun z hz=>by rcases List.mem_cons.1 hz with rfl|hz;simpa using h;exact h2 z hz⟩
   ·refine .inr ⟨i+1,y,by simp;omega,by simpa using h2,h3,by simp only[idxF,h,h4,if_false,Bool.false_eq_true];congr 1;omega,fun j z hj hz=>?_⟩
    cases j with
    | zero=>simp at hz;subst hz;simpa using h
    | succ j=>exact h5 j z (by omega) (by simpa using hz)
theorem nmHdr_any (x:Hdr)(a1:Option Addr)(c1:Nat)(name:ByteArray)(nb:Nat)(w:World)(hn:Blk w nb #[.string name] 9):
  Calls Tryz.prog 191 #[.agg #[.string x.name,.slice a1 x.fields.length c1],.pointer (some ⟨nb,0,none⟩)] w fun e w'=>e=.returned (.bool (decide (x.name=name)))∧Below w.heap.size w w':=by
 have q0:=hn.cell 0 (v:=.string name) rfl
 have hlt:=hn.lt
 have HT:Hid ((x.name.toList==name.toList)=decide (x.name=name)):=txt_eq x.name name
 generalize decide (x.name=name)=r at*
 clear hn
 go_enter Tryz.func191,Tryz.ntmps191
 go_wp2
 go_ret
 refine⟨by rw[← HT.out];rfl,?_⟩
 go_grown
theorem indexHdr_any (v:Value)(xs:List Hdr)(w:World)(hr:HdrRow w v xs)(name:ByteArray)(nb:Nat)(hn:Blk w nb #[.string name] 9):
  Calls Tryz.prog 190 #[v,.func (.func 191) #[] #[.pointer (some ⟨nb,0,none⟩)]] w fun e w'=>e=.returned (.int .i64 (idxF (fun h:Hdr=>decide (h.name=name)) xs 0))∧Below w.heap.size w w':=by
 obtain⟨ad,cap,rfl,hcap⟩:=hr.1.slice
 have hlen:xs.length*40≤140737488351232:=hr.2
 have HR:Hid (HdrRow w (.slice ad xs.length cap) xs):=hr
 have HN:Hid (Blk w nb #[.string name] 9):=hn
 obtain⟨R,hR⟩:∃ R,R=idxF (fun h:Hdr=>decide (h.name=name)) xs 0:=⟨_,rfl⟩
 have H0:Hid (idxF (fun h:Hdr=>decide (h.name=name)) (xs.drop 0) 0=R):=by rw[hR];rfl
 rw[← hR]
 clear hr hn hR
 obtain⟨n,hn⟩:∃ n,n=xs.length:=⟨_,rfl⟩
 have HL:Hid (n=xs.length):=hn
 rw[← hn] at hlen HR ⊢
 clear hn hcap
 go_enter Tryz.func190,Tryz.ntmps190
 go_wp2
 go_loopw [8] (fun i wr=>∃ k:Nat,k≤n∧i=.int .i64 k∧Below w.heap.size w wr∧idxF (fun h:Hdr=>decide (h.name=name)) (xs.drop k) k=R) (fun i _=>n - (intOf i).toNat)
 case atStart=>exact⟨0,by omega,rfl,Below.refl _ _,H0.out⟩
 case round=>
  obtain⟨k,hk,rfl,hB,hI⟩:=hrel
  have HB:Hid (Bl w wr):=hB
  have HI:Hid (idxF (fun h:Hdr=>decide (h.name=name)) (xs.drop k) k=R):=hI
  clear hB hI
  by_cases hlt:k<n
  ·obtain⟨x,hx⟩:=gE HL.out hlt
   obtain⟨b,o,a1,c1,rfl,e0,e1,ok,le,hf⟩:=HR.out.get (pres_below HB.out) hx
   have C:Hid (Cs 191 #[.agg #[.string x.name,.slice a1 x.fields.length c1],.pointer (some ⟨nb,0,none⟩)] wr fun e w'=>e=.returned (.bool (decide (x.name=name)))∧Bl wr w'):=nmHdr_any _ _ _ name nb _ (HN.out.below HB.out)
   have HY:Hid (decide (x.name=name)=true→R=(k:Int)):=fun h=>HI.out.symm.trans (idx_yes hx h k)
   have HO:Hid (decide (x.name=name)=false→idxF (fun h:Hdr=>decide (h.name=name)) (xs.drop (k+1)) (k+1)=R):=fun h=>(idx_no (p:=fun h:Hdr=>decide (h.name=name)) hx h k).symm.trans HI.out
   generalize decide (x.name=name)=r at*
   clear hx ok le hf
   go_wp2_with fail
   refine C.out.mono ?_
   rintro e w1 ⟨rfl,hb1⟩
   have HB1:Hid (Bl w w1):=bst HB.out hb1 (Nat.le_refl _)
   clear hb1 C
   cases r
   ·go_wp2_with fail
    exact⟨⟨k+1,by omega,by go_num,HB1.out,HO.out (by simp)⟩,by simp only[intOf];omega⟩
   ·go_wp2_with fail
    go_ret
    exact⟨by rw[HY.out (by simp)];rfl,HB1.out⟩
  ·have e:k=n:=by omega
   have E:Hid (R = -1):=by show _=_;rw[← HI.out,e,HL.out];exact idx_end _
   subst e
   go_wp2
   go_ret
   exact⟨by rw[E.out];rfl,HB.out⟩
theorem nmAct_any (x:Actn)(a1 a2:Option Addr)(c1 c2:Nat)(name:ByteArray)(nb:Nat)(w:World)(hn:Blk w nb #[.string name] 9):
  Calls Tryz.prog 193 #[.agg #[.string x.name,.slice a1 x.params.length c1,.slice a2 x.steps.length c2],.pointer (some ⟨nb,0,none⟩)] w fun e w'=>e=.returned (.bool (decide (x.name=name)))∧Below w.heap.size w w':=by
 have q0:=hn.cell 0 (v:=.string name) rfl
 have hlt:=hn.lt
 have HT:Hid ((x.name.toList==name.toList)=decide (x.name=name)):=txt_eq x.name name
 generalize decide (x.name=name)=r at*
 clear hn
 go_enter Tryz.func193,Tryz.ntmps193
 go_wp2
 go_ret
 refine⟨by rw[← HT.out];rfl,?_⟩
 go_grown
theorem indexAct_any (v:Value)(xs:List Actn)(w:World)(hr:ActRow w v xs)(name:ByteArray)(nb:Nat)(hn:Blk w nb #[.string name] 9):
  Calls Tryz.prog 192 #[v,.func (.func 193) #[] #[.pointer (some ⟨nb,0,none⟩)]] w fun e w'=>e=.returned (.int .i64 (idxF (fun h:Actn=>decide (h.name=name)) xs 0))∧Below w.heap.size w w':=by
 obtain⟨ad,cap,rfl,hcap⟩:=hr.1.slice
 have hlen:xs.length*64≤140737488351232:=hr.2
 have HR:Hid (ActRow w (.slice ad xs.length cap) xs):=hr
 have HN:Hid (Blk w nb #[.string name] 9):=hn
 obtain⟨R,hR⟩:∃ R,R=idxF (fun h:Actn=>decide (h.name=name)) xs 0:=⟨_,rfl⟩
 have H0:Hid (idxF (fun h:Actn=>decide (h.name=name)) (xs.drop 0) 0=R):=by rw[hR];rfl
 rw[← hR]
 clear hr hn hR
 obtain⟨n,hn⟩:∃ n,n=xs.length:=⟨_,rfl⟩
 have HL:Hid (n=xs.length):=hn
 rw[← hn] at hlen HR ⊢
 clear hn hcap
 go_enter Tryz.func192,Tryz.ntmps192
 go_wp2
 go_loopw [8] (fun i wr=>∃ k:Nat,k≤n∧i=.int .i64 k∧Below w.heap.size w wr∧idxF (fun h:Actn=>decide (h.name=name)) (xs.drop k) k=R) (fun i _=>n - (intOf i).toNat)
 case atStart=>exact⟨0,by omega,rfl,Below.refl _ _,H0.out⟩
 case round=>
  obtain⟨k,hk,rfl,hB,hI⟩:=hrel
  have HB:Hid (Bl w wr):=hB
  have HI:Hid (idxF (fun h:Actn=>decide (h.name=name)) (xs.drop k) k=R):=hI
  clear hB hI
  by_cases hlt:k<n
  ·obtain⟨x,hx⟩:=gE HL.out hlt
   obtain⟨b,o,a1,c1,a2,c2,rfl,e0,e1,e2,ok,le,hf⟩:=HR.out.get (pres_below HB.out) hx
   have C:Hid (Cs 193 #[.agg #[.string x.name,.slice a1 x.params.length c1,.slice a2 x.steps.length c2],.pointer (some ⟨nb,0,none⟩)] wr fun e w'=>e=.returned (.bool (decide (x.name=name)))∧Bl wr w'):=nmAct_any _ _ _ _ _ name nb _ (HN.out.below HB.out)
   have HY:Hid (decide (x.name=name)=true→R=(k:Int)):=fun h=>HI.out.symm.trans (idx_yes hx h k)
   have HO:Hid (decide (x.name=name)=false→idxF (fun h:Actn=>decide (h.name=name)) (xs.drop (k+1)) (k+1)=R):=fun h=>(idx_no (p:=fun h:Actn=>decide (h.name=name)) hx h k).symm.trans HI.out
   generalize decide (x.name=name)=r at*
   clear hx ok le hf
   go_wp2_with fail
   refine C.out.mono ?_
   rintro e w1 ⟨rfl,hb1⟩
   have HB1:Hid (Bl w w1):=bst HB.out hb1 (Nat.le_refl _)
   clear hb1 C
   cases r
   ·go_wp2_with fail
    exact⟨⟨k+1,by omega,by go_num,HB1.out,HO.out (by simp)⟩,by simp only[intOf];omega⟩
   ·go_wp2_with fail
    go_ret
    exact⟨by rw[HY.out (by simp)];rfl,HB1.out⟩
  ·have e:k=n:=by omega
   have E:Hid (R = -1):=by show _=_;rw[← HI.out,e,HL.out];exact idx_end _
   subst e
   go_wp2
   go_ret
   exact⟨by rw[E.out];rfl,HB.out⟩
theorem nmTbl_any (x:Tbl)(a1 a2 a3:Option Addr)(c1 c2 c3:Nat)(name:ByteArray)(nb:Nat)(w:World)(hn:Blk w nb #[.string name] 9):
  Calls Tryz.prog 195 #[.agg #[.string x.name,.slice a1 x.keys.length c1,.slice a2 x.actions.length c2,.int .i64 x.size,.string x.dflt.action,.slice a3 x.dflt.args.length c3,.bool x.fixed],.pointer (some ⟨nb,0,none⟩)] w fun e w'=>e=.returned (.bool (decide (x.name=name)))∧Below w.heap.size w w':=by
 have q0:=hn.cell 0 (v:=.string name) rfl
 have hlt:=hn.lt
 have HT:Hid ((x.name.toList==name.toList)=decide (x.name=name)):=txt_eq x.name name
 generalize decide (x.name=name)=r at*
 clear hn
 go_enter Tryz.func195,Tryz.ntmps195
 go_wp2
 go_ret
 refine⟨by rw[← HT.out];rfl,?_⟩
 go_grown
theorem indexTbl_any (v:Value)(xs:List Tbl)(w:World)(hr:TblRow w v xs)(name:ByteArray)(nb:Nat)(hn:Blk w nb #[.string name] 9):
  Calls Tryz.prog 194 #[v,.func (.func 195) #[] #[.pointer (some ⟨nb,0,none⟩)]] w fun e w'=>e=.returned (.int .i64 (idxF (fun h:Tbl=>decide (h.name=name)) xs 0))∧Below w.heap.size w w':=by
 obtain⟨ad,cap,rfl,hcap⟩:=hr.1.slice
 have hlen:xs.length*120≤140737488351232:=hr.2
 have HR:Hid (TblRow w (.slice ad xs.length cap) xs):=hr
 have HN:Hid (Blk w nb #[.string name] 9):=hn
 obtain⟨R,hR⟩:∃ R,R=idxF (fun h:Tbl=>decide (h.name=name)) xs 0:=⟨_,rfl⟩
 have H0:Hid (idxF (fun h:Tbl=>decide (h.name=name)) (xs.drop 0) 0=R):=by rw[hR];rfl
 rw[← hR]
 clear hr hn hR
 obtain⟨n,hn⟩:∃ n,n=xs.length:=⟨_,rfl⟩
 have HL:Hid (n=xs.length):=hn
 rw[← hn] at hlen HR ⊢
 clear hn hcap
 go_enter Tryz.func194,Tryz.ntmps194
 go_wp2
 go_loopw [8] (fun i wr=>∃ k:Nat,k≤n∧i=.int .i64 k∧Below w.heap.size w wr∧idxF (fun h:Tbl=>decide (h.name=name)) (xs.drop k) k=R) (fun i _=>n - (intOf i).toNat)
 case atStart=>exact⟨0,by omega,rfl,Below.refl _ _,H0.out⟩
 case round=>
  obtain⟨k,hk,rfl,hB,hI⟩:=hrel
  have HB:Hid (Bl w wr):=hB
  have HI:Hid (idxF (fun h:Tbl=>decide (h.name=name)) (xs.drop k) k=R):=hI
  clear hB hI
  by_cases hlt:k<n
  ·obtain⟨x,hx⟩:=gE HL.out hlt
   obtain⟨b,o,a1,c1,a2,c2,a3,c3,rfl,e0,e1,e2,e3,e4,e5,e6,ok,le,hf⟩:=HR.out.get (pres_below HB.out) hx
   have C:Hid (Cs 195 #[.agg #[.string x.name,.slice a1 x.keys.length c1,.slice a2 x.actions.length c2,.int .i64 x.size,.string x.dflt.action,.slice a3 x.dflt.args.length c3,.bool x.fixed],.pointer (some ⟨nb,0,none⟩)] wr fun e w'=>e=.returned (.bool (decide (x.name=name)))∧Bl wr w'):=nmTbl_any _ _ _ _ _ _ _ name nb _ (HN.out.below HB.out)
   have HY:Hid (decide (x.name=name)=true→R=(k:Int)):=fun h=>HI.out.symm.trans (idx_yes hx h k)
   have HO:Hid (decide (x.name=name)=false→idxF (fun h:Tbl=>decide (h.name=name)) (xs.drop (k+1)) (k+1)=R):=fun h=>(idx_no (p:=fun h:Tbl=>decide (h.name=name)) hx h k).symm.trans HI.out
   generalize decide (x.name=name)=r at*
   clear hx ok le hf
   go_wp2_with fail
   refine C.out.mono ?_
   rintro e w1 ⟨rfl,hb1⟩
   have HB1:Hid (Bl w w1):=bst HB.out hb1 (Nat.le_refl _)
   clear hb1 C
   cases r
   ·go_wp2_with fail
    exact⟨⟨k+1,by omega,by go_num,HB1.out,HO.out (by simp)⟩,by simp only[intOf];omega⟩
   ·go_wp2_with fail
    go_ret
    exact⟨by rw[HY.out (by simp)];rfl,HB1.out⟩
  ·have e:k=n:=by omega
   have E:Hid (R = -1):=by show _=_;rw[← HI.out,e,HL.out];exact idx_end _
   subst e
   go_wp2
   go_ret
   exact⟨by rw[E.out];rfl,HB.out⟩
theorem nmFld_any (x:Fld)  (hd:ByteArray)(name:ByteArray)(nb:Nat)(w:World)(hn:Blk w nb #[.string hd,.string name] 42):
  Calls Tryz.prog 142 #[.agg #[.string x.name,.int .i64 x.width],.pointer (some ⟨nb,0,none⟩)] w fun e w'=>e=.returned (.bool (decide (x.name=name)))∧Below w.heap.size w w':=by
 have q0:=hn.cell 1 (v:=.string name) rfl
 have hlt:=hn.lt
 have HT:Hid ((x.name.toList==name.toList)=decide (x.name=name)):=txt_eq x.name name
 generalize decide (x.name=name)=r at*
 clear hn
 go_enter Tryz.func142,Tryz.ntmps142
 go_wp2
 go_ret
 refine⟨by rw[← HT.out];rfl,?_⟩
 go_grown
theorem indexFld_any (v:Value)(xs:List Fld)(w:World)(hr:FldRow w v xs)(hd:ByteArray)(name:ByteArray)(nb:Nat)(hn:Blk w nb #[.string hd,.string name] 42):
  Calls Tryz.prog 141 #[v,.func (.func 142) #[] #[.pointer (some ⟨nb,0,none⟩)]] w fun e w'=>e=.returned (.int .i64 (idxF (fun h:Fld=>decide (h.name=name)) xs 0))∧Below w.heap.size w w':=by
 obtain⟨ad,cap,rfl,hcap⟩:=hr.1.slice
 have hlen:xs.length*24≤140737488351232:=hr.2
 have HR:Hid (FldRow w (.slice ad xs.length cap) xs):=hr
 have HN:Hid (Blk w nb #[.string hd,.string name] 42):=hn
 obtain⟨R,hR⟩:∃ R,R=idxF (fun h:Fld=>decide (h.name=name)) xs 0:=⟨_,rfl⟩
 have H0:Hid (idxF (fun h:Fld=>decide (h.name=name)) (xs.drop 0) 0=R):=by rw[hR];rfl
 rw[← hR]
 clear hr hn hR
 obtain⟨n,hn⟩:∃ n,n=xs.length:=⟨_,rfl⟩
 have HL:Hid (n=xs.length):=hn
 rw[← hn] at hlen HR ⊢
 clear hn hcap
 go_enter Tryz.func141,Tryz.ntmps141
 go_wp2
 go_loopw [8] (fun i wr=>∃ k:Nat,k≤n∧i=.int .i64 k∧Below w.heap.size w wr∧idxF (fun h:Fld=>decide (h.name=name)) (xs.drop k) k=R) (fun i _=>n - (intOf i).toNat)
 case atStart=>exact⟨0,by omega,rfl,Below.refl _ _,H0.out⟩
 case round=>
  obtain⟨k,hk,rfl,hB,hI⟩:=hrel
  have HB:Hid (Bl w wr):=hB
  have HI:Hid (idxF (fun h:Fld=>decide (h.name=name)) (xs.drop k) k=R):=hI
  clear hB hI
  by_cases hlt:k<n
  ·obtain⟨x,hx⟩:=gE HL.out hlt
   obtain⟨b,o,rfl,e0,e1,ok⟩:=HR.out.get (pres_below HB.out) hx
   have C:Hid (Cs 142 #[.agg #[.string x.name,.int .i64 x.width],.pointer (some ⟨nb,0,none⟩)] wr fun e w'=>e=.returned (.bool (decide (x.name=name)))∧Bl wr w'):=nmFld_any _  hd name nb _ (HN.out.below HB.out)
   have HY:Hid (decide (x.name=name)=true→R=(k:Int)):=fun h=>HI.out.symm.trans (idx_yes hx h k)
   have HO:Hid (decide (x.name=name)=false→idxF (fun h:Fld=>decide (h.name=name)) (xs.drop (k+1)) (k+1)=R):=fun h=>(idx_no (p:=fun h:Fld=>decide (h.name=name)) hx h k).symm.trans HI.out
   generalize decide (x.name=name)=r at*
   clear hx ok
   go_wp2_with fail
   refine C.out.mono ?_
   rintro e w1 ⟨rfl,hb1⟩
   have HB1:Hid (Bl w w1):=bst HB.out hb1 (Nat.le_refl _)
   clear hb1 C
   cases r
   ·go_wp2_with fail
    exact⟨⟨k+1,by omega,by go_num,HB1.out,HO.out (by simp)⟩,by simp only[intOf];omega⟩
   ·go_wp2_with fail
    go_ret
    exact⟨by rw[HY.out (by simp)];rfl,HB1.out⟩
  ·have e:k=n:=by omega
   have E:Hid (R = -1):=by show _=_;rw[← HI.out,e,HL.out];exact idx_end _
   subst e
   go_wp2
   go_ret
   exact⟨by rw[E.out];rfl,HB.out⟩
def upw (B:Nat)(w:World):World:={ w with heap:=w.heap.mapIdx fun i o=>if i<B then .cells #[] 0 (0,0) else o }
theorem upw_cell (B:Nat)(w:World)(a:Addr):(upw B w).cell? a=if a.block<B then none else w.cell? a:=by
 unfold World.cell? upw
 simp only[Array.getElem?_mapIdx]
 cases h:w.heap[a.block]? with
 | none=>simp
 | some o=>
  simp only[Option.map_some]
  by_cases hb:a.block<B
  ·simp[hb]
  ·simp only[hb,if_false]
theorem pres_up (B:Nat)(w:World):Pres (upw B w) w:=fun a v h=>by
 rw[upw_cell] at h
 split at h
 ·cases h
 ·exact h
theorem up_kept {B:Nat}{w w':World}(h:Kept (fun k=>k<B) w w'):Pres (upw B w) (upw B w'):=fun a v e=>by
 rw[upw_cell] at e ⊢
 by_cases hb:a.block<B
 ·rw[if_pos hb] at e;cases e
 ·rw[if_neg hb] at e ⊢
  exact h.cell e hb
theorem up_below {B:Nat}{w w':World}(h:Below w.heap.size w w'):Pres (upw B w) (upw B w'):=up_kept (Kept.of_below h)
theorem up_mono {B C:Nat}(w:World)(h:B≤C):Pres (upw C w) (upw B w):=fun a v e=>by
 rw[upw_cell] at e ⊢
 by_cases hb:a.block<C
 ·rw[if_pos hb] at e;cases e
 ·rw[if_neg hb] at e
  rw[if_neg (by omega)]
  exact e
theorem cell_up {B:Nat}{w:World}{a:Addr}{v:Value}(h:w.cell? a=some v)(hb:B≤a.block):(upw B w).cell? a=some v:=by rw[upw_cell,if_neg (by omega)];exact h
def CopyOk {α:Type}(G z:Nat)(Is:World→Array Value→α→Prop)(xs:List α):Prop:=∀ x ∈ xs,∀ w cs,Is w cs x→Calls Tryz.prog G #[.agg cs] w fun e w'=>∃ cs',e=.returned (.agg cs')∧Is (upw w.heap.size w') cs' x∧Below w.heap.size w w'
structure Good {α:Type}(z:Nat)(Is:World→Array Value→α→Prop):Prop where
 pres:∀ {w w':World} {cs:Array Value} {x:α},Pres w w'→Is w cs x→Is w' cs x
 size:∀ {w:World} {cs:Array Value} {x:α},Is w cs x→cs.size=z
 one:∀ {w:World} {cs:Array Value} {x:α},Is w cs x→cs.all (·.oneCell')=true
theorem flat_good {α:Type}{z:Nat}{c:α→Array Value}{ok:α→Prop}(hz:∀ x,(c x).size=z)(h1:∀ x,(c x).all (·.oneCell')=true):Good z (Flat c ok):=by
 refine⟨fun _ h=>h,?_,?_⟩
 ·rintro w cs x ⟨rfl,_⟩;exact hz x
 ·rintro w cs x ⟨rfl,_⟩;exact h1 x
theorem fld_good:Good 2 (Flat FldC FldOk):=flat_good (fun _=>rfl) (fun _=>by simp[FldC,Value.oneCell'])
theorem cas_good:Good 5 (Flat CasC CasOk):=flat_good (fun _=>rfl) (fun _=>by simp[CasC,Value.oneCell'])
theorem stp_good:Good 12 (Flat StpC StpOk):=flat_good (fun _=>rfl) (fun _=>by simp[StpC,Value.oneCell'])
theorem ky_good:Good 3 (Flat KyC KyOk):=flat_good (fun _=>rfl) (fun _=>by simp[KyC,Value.oneCell'])
theorem hdr_good:Good 2 HdrIs:=by
 refine⟨fun hp h=>h.pres hp,?_,?_⟩
 ·rintro w cs x ⟨v,rfl,_⟩;rfl
 ·rintro w cs x ⟨v,rfl,_,hf⟩;obtain⟨a,c,rfl,_⟩:=hf.1.slice;simp[Value.oneCell']
theorem sta_good:Good 6 StaIs:=by
 refine⟨fun hp h=>h.pres hp,?_,?_⟩
 ·rintro w cs x ⟨v,rfl,_⟩;rfl
 ·rintro w cs x ⟨v,rfl,_,hf⟩;obtain⟨a,c,rfl,_⟩:=hf.1.slice;simp[Value.oneCell']
theorem act_good:Good 3 ActIs:=by
 refine⟨fun hp h=>h.pres hp,?_,?_⟩
 ·rintro w cs x ⟨v,u,rfl,_⟩;rfl
 ·rintro w cs x ⟨v,u,rfl,_,hf,hg⟩;obtain⟨a,c,rfl,_⟩:=hf.1.slice;obtain⟨a,c,rfl,_⟩:=hg.1.slice;simp[Value.oneCell']
theorem tbl_good:Good 7 TblIs:=by
 refine⟨fun hp h=>h.pres hp,?_,?_⟩
 ·rintro w cs x ⟨v,u,t,rfl,_⟩;rfl
 ·rintro w cs x ⟨v,u,t,rfl,_,hf,hg,hh⟩;obtain⟨a,c,rfl,_⟩:=hf.1.slice;obtain⟨a,c,rfl,_⟩:=hg.1.slice;obtain⟨a,c,rfl,_⟩:=hh.1.slice;simp[Value.oneCell']
theorem stg_good:Good 13 (fun w cs x=>StgIs w x cs):=by
 refine⟨fun hp h=>h.pres hp,?_,?_⟩
 ·intro w cs x h;obtain⟨v,u,rfl,_⟩:=(stgIs_iff w x cs).1 h;rfl
 ·intro w cs x h;obtain⟨v,u,rfl,_,hf,hg⟩:=(stgIs_iff w x cs).1 h;obtain⟨a,c,rfl,_⟩:=hf.slice;obtain⟨a,c,rfl,_⟩:=hg.slice;simp[Value.oneCell']
theorem stgRow_row {w:World}{v:Value}{xs:List Stg}:StgRow w v xs→Row 13 (fun w cs x=>StgIs w x cs) w v xs∧Len 176 xs:=by
 rintro⟨ad,cap,rfl,hc,h,hl⟩
 refine⟨⟨ad,cap,rfl,hc,?_⟩,hl⟩
 by_cases h0:xs=[]
 ·exact .inl h0
 ·right
  obtain⟨y,ys,rfl⟩:=List.exists_cons_of_ne_nil h0
  obtain⟨b,o,cs,rfl,_⟩:=stgAt_get h (i:=0) (x:=y) rfl
  refine⟨b,o,rfl,fun i x hx=>?_⟩
  obtain⟨b',o',cs,e,hz,hc,hi⟩:=stgAt_get h hx
  cases e
  simp only[Nat.zero_add] at hc
  exact⟨cs,hz,hc,hi⟩
theorem stgAt_mk {w:World}{b o:Nat}:∀ {xs:List Stg}{k:Nat},(∀ i x,xs[i]?=some x→∃ cs,cs.size=13∧(∀ j u,cs[j]?=some u→w.cell? ⟨b,o+(k+i)*13+j,none⟩=some u)∧StgIs w x cs)→StgAt w xs (some ⟨b,o,none⟩) k
 |[],_,_=>trivial
 | x :: xs,k,h=>by
  refine⟨?_,stgAt_mk (k:=k+1) fun i y hy=>?_⟩
  ·obtain⟨cs,h1,h2,h3⟩:=h 0 x rfl
   exact⟨b,o,cs,rfl,h1,h2,h3⟩
  ·have:=h (i+1) y (by simpa using hy)
   rwa [show k+(i+1)=k+1+i by omega] at this
theorem row_stgRow {w:World}{v:Value}{xs:List Stg}(h:Row 13 (fun w cs x=>StgIs w x cs) w v xs)(hl:Len 176 xs):StgRow w v xs:=by
 obtain⟨ad,cap,rfl,hc,h⟩:=h
 refine⟨ad,cap,rfl,hc,?_,hl⟩
 rcases h with rfl|⟨b,o,rfl,h⟩
 ·trivial
 ·exact stgAt_mk (k:=0) (fun i x hx=>by simpa using h i x hx)
noncomputable instance:DecidableEq Stg:=fun _ _=>Classical.propDecidable _
def SameOk {α:Type} [DecidableEq α](G:Nat)(Is:World→Array Value→α→Prop)(xs ys:List α):Prop:=∀ x ∈ xs,∀ y ∈ ys,∀ w cs ds,Is w cs x→Is w ds y→Calls Tryz.prog G #[.agg cs,.agg ds] w fun e w'=>e=.returned (.bool (decide (x=y)))∧Below w.heap.size w w'
end Go.Proofs.YtmbpclknhkbbkaaGreat
