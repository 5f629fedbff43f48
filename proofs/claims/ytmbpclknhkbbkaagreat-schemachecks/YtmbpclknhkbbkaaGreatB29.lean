/- Package schema: slices. -/
import Derived.Test.YtmbpclknhkbbkaaGreatB20
import Derived.Deep.CutRange
set_option linter.unusedSimpArgs false
set_option linter.unusedVariables false
set_option maxHeartbeats 2000000
set_option maxRecDepth 100000
namespace Go.Proofs.YtmbpclknhkbbkaaGreat
open Go.RowKit
theorem drop_step {α:Type} [DecidableEq α]{xs ys:List α}{k:Nat}{x y:α}(hx:xs[k]?=some x)(hy:ys[k]?=some y):decide (xs.drop k=ys.drop k)=(decide (x=y)&&decide (xs.drop (k+1)=ys.drop (k+1))):=by
 obtain⟨h1,e1⟩:=List.getElem?_eq_some_iff.1 hx
 obtain⟨h2,e2⟩:=List.getElem?_eq_some_iff.1 hy
 rw[List.drop_eq_getElem_cons h1,List.drop_eq_getElem_cons h2,e1,e2,Bool.eq_iff_iff]
 simp
theorem run_ne82 (x y:Fld)(w:World):(binOp .neq 82 (.agg (FldC x)) (.agg (FldC y))).run Tryz.prog w=.ok (.bool (!decide (x=y))) w:=by
 simp only[binOp]
 simp[Op.equal,Op.maxDepth,eqIn82 9998]
theorem equalFld_any (v v':Value)(xs ys:List Fld)(w:World)(hr:Row 2 (Flat FldC FldOk) w v xs)(hr':Row 2 (Flat FldC FldOk) w v' ys)(hlen:xs.length≤140737488351232):
  Calls Tryz.prog 112 #[v,v'] w fun e w'=>e=.returned (.bool (decide (xs=ys)))∧Below w.heap.size w w':=by
 obtain⟨a1,c1,rfl,h1⟩:=hr.slice
 obtain⟨a2,c2,rfl,h2⟩:=hr'.slice
 by_cases hne:¬ xs.length=ys.length
 ·have e:decide (xs=ys)=false:=by rw[decide_eq_false_iff_not];intro h;exact hne (by rw[h])
  rw[e]
  have hne':¬((xs.length:Int)=(ys.length:Int)):=by omega
  clear hr hr' h1 h2 e
  go_enter Tryz.func112,Tryz.ntmps112
  go_wp2
  go_ret
  exact⟨rfl,Below.refl _ _⟩
 have hne:=Classical.not_not.1 hne
 have HR:Hid (Row 2 (Flat FldC FldOk) w (.slice a1 xs.length c1) xs):=hr
 have HS:Hid (Row 2 (Flat FldC FldOk) w (.slice a2 ys.length c2) ys):=hr'
 obtain⟨n,hn⟩:∃ n,n=xs.length:=⟨_,rfl⟩
 have HL:Hid (n=xs.length∧n=ys.length):=⟨hn,by omega⟩
 rw[← hne] at HS ⊢
 rw[← hn] at HR HS hlen ⊢
 clear hr hr' h1 h2 hn hne
 go_enter Tryz.func112,Tryz.ntmps112
 go_wp2_with fail
 go_loopw [13] (fun i wr=>∃ k:Nat,k≤n∧i=.int .i64 k∧decide (xs=ys)=decide (xs.drop k=ys.drop k)∧Below w.heap.size w wr) (fun i _=>n - (intOf i).toNat)
 case atStart=>exact⟨0,by omega,rfl,by simp,Below.refl _ _⟩
 case round=>
  obtain⟨k,hk,rfl,hd,hb⟩:=hrel
  by_cases hlt:k<n
  ·obtain⟨x,hx⟩:=gE HL.out.1 hlt
   obtain⟨y,hy⟩:=gE HL.out.2 hlt
   obtain⟨b,o,cs,rfl,_,hx1,rfl,_⟩:=HR.out.at hx
   obtain⟨b2,o2,cs2,rfl,_,hy1,rfl,_⟩:=HS.out.at hy
   have p0:wr.cell? ⟨b,o+k*2,none⟩=some (.string x.name):=by have:=pres_below hb _ _ (hx1 0 (.string x.name) rfl);simpa using this
   have p1:wr.cell? ⟨b,o+k*2+1,none⟩=some (.int .i64 x.width):=by have:=pres_below hb _ _ (hx1 1 (.int .i64 x.width) rfl);simpa using this
   have q0:wr.cell? ⟨b2,o2+k*2,none⟩=some (.string y.name):=by have:=pres_below hb _ _ (hy1 0 (.string y.name) rfl);simpa using this
   have q1:wr.cell? ⟨b2,o2+k*2+1,none⟩=some (.int .i64 y.width):=by have:=pres_below hb _ _ (hy1 1 (.int .i64 y.width) rfl);simpa using this
   have HQ:∀ u:World,(binOp .neq 82 (.agg (FldC x)) (.agg (FldC y))).run Tryz.prog u=.ok (.bool (!decide (x=y))) u:=fun u=>run_ne82 x y u
   simp only[FldC] at HQ
   have HD:Hid (decide (xs=ys)=(decide (x=y)&&decide (xs.drop (k+1)=ys.drop (k+1)))):=by
    have e:=drop_step hx hy
    show decide (xs=ys)=_
    rw[hd,e]
   have HB:Hid (Bl w wr):=hb
   have hi:(0:Int)≤(k:Int)∧(k:Int)<(n:Int):=by omega
   clear hd hb hx1 hy1 hx hy
   generalize decide (x=y)=r at*
   go_wp2_with fail
   go_quiet (fail)
   cases r
   ·go_wp2
    go_ret
    exact⟨by rw[HD.out];rfl,below_drewN HB.out _⟩
   ·go_wp2
    exact⟨⟨k+1,by omega,by go_num,by rw[HD.out,Bool.true_and],below_drewN HB.out _⟩,by simp only[intOf];omega⟩
  ·have e:k=n:=by omega
   subst e
   have HE:decide (xs=ys)=true:=by
    rw[hd,decide_eq_true_eq]
    have h1:=HL.out.1;have h2:=HL.out.2
    rw[List.drop_of_length_le (by omega),List.drop_of_length_le (by omega)]
   clear hd
   have HE:Hid (decide (xs=ys)=true):=HE
   go_wp2
   go_ret
   exact⟨by rw[HE.out];rfl,hb⟩
theorem run_ne165 (x y:Cas)(w:World):(binOp .neq 165 (.agg (CasC x)) (.agg (CasC y))).run Tryz.prog w=.ok (.bool (!decide (x=y))) w:=by
 simp only[binOp]
 simp[Op.equal,Op.maxDepth,eqIn165 9997]
theorem equalCas_any (v v':Value)(xs ys:List Cas)(w:World)(hr:Row 5 (Flat CasC CasOk) w v xs)(hr':Row 5 (Flat CasC CasOk) w v' ys)(hlen:xs.length≤140737488351232):
  Calls Tryz.prog 185 #[v,v'] w fun e w'=>e=.returned (.bool (decide (xs=ys)))∧Below w.heap.size w w':=by
 obtain⟨a1,c1,rfl,h1⟩:=hr.slice
 obtain⟨a2,c2,rfl,h2⟩:=hr'.slice
 by_cases hne:¬ xs.length=ys.length
 ·have e:decide (xs=ys)=false:=by rw[decide_eq_false_iff_not];intro h;exact hne (by rw[h])
  rw[e]
  have hne':¬((xs.length:Int)=(ys.length:Int)):=by omega
  clear hr hr' h1 h2 e
  go_enter Tryz.func185,Tryz.ntmps185
  go_wp2
  go_ret
  exact⟨rfl,Below.refl _ _⟩
 have hne:=Classical.not_not.1 hne
 have HR:Hid (Row 5 (Flat CasC CasOk) w (.slice a1 xs.length c1) xs):=hr
 have HS:Hid (Row 5 (Flat CasC CasOk) w (.slice a2 ys.length c2) ys):=hr'
 obtain⟨n,hn⟩:∃ n,n=xs.length:=⟨_,rfl⟩
 have HL:Hid (n=xs.length∧n=ys.length):=⟨hn,by omega⟩
 rw[← hne] at HS ⊢
 rw[← hn] at HR HS hlen ⊢
 clear hr hr' h1 h2 hn hne
 go_enter Tryz.func185,Tryz.ntmps185
 go_wp2_with fail
 go_loopw [13] (fun i wr=>∃ k:Nat,k≤n∧i=.int .i64 k∧decide (xs=ys)=decide (xs.drop k=ys.drop k)∧Below w.heap.size w wr) (fun i _=>n - (intOf i).toNat)
 case atStart=>exact⟨0,by omega,rfl,by simp,Below.refl _ _⟩
 case round=>
  obtain⟨k,hk,rfl,hd,hb⟩:=hrel
  by_cases hlt:k<n
  ·obtain⟨x,hx⟩:=gE HL.out.1 hlt
   obtain⟨y,hy⟩:=gE HL.out.2 hlt
   obtain⟨b,o,cs,rfl,_,hx1,rfl,_⟩:=HR.out.at hx
   obtain⟨b2,o2,cs2,rfl,_,hy1,rfl,_⟩:=HS.out.at hy
   have p0:wr.cell? ⟨b,o+k*5,none⟩=some (.int .u64 (hiOf x.value)):=by have:=pres_below hb _ _ (hx1 0 (.int .u64 (hiOf x.value)) rfl);simpa using this
   have p1:wr.cell? ⟨b,o+k*5+1,none⟩=some (.int .u64 (loOf x.value)):=by have:=pres_below hb _ _ (hx1 1 (.int .u64 (loOf x.value)) rfl);simpa using this
   have p2:wr.cell? ⟨b,o+k*5+2,none⟩=some (.int .u64 (hiOf x.mask)):=by have:=pres_below hb _ _ (hx1 2 (.int .u64 (hiOf x.mask)) rfl);simpa using this
   have p3:wr.cell? ⟨b,o+k*5+3,none⟩=some (.int .u64 (loOf x.mask)):=by have:=pres_below hb _ _ (hx1 3 (.int .u64 (loOf x.mask)) rfl);simpa using this
   have p4:wr.cell? ⟨b,o+k*5+4,none⟩=some (.string x.next):=by have:=pres_below hb _ _ (hx1 4 (.string x.next) rfl);simpa using this
   have q0:wr.cell? ⟨b2,o2+k*5,none⟩=some (.int .u64 (hiOf y.value)):=by have:=pres_below hb _ _ (hy1 0 (.int .u64 (hiOf y.value)) rfl);simpa using this
   have q1:wr.cell? ⟨b2,o2+k*5+1,none⟩=some (.int .u64 (loOf y.value)):=by have:=pres_below hb _ _ (hy1 1 (.int .u64 (loOf y.value)) rfl);simpa using this
   have q2:wr.cell? ⟨b2,o2+k*5+2,none⟩=some (.int .u64 (hiOf y.mask)):=by have:=pres_below hb _ _ (hy1 2 (.int .u64 (hiOf y.mask)) rfl);simpa using this
   have q3:wr.cell? ⟨b2,o2+k*5+3,none⟩=some (.int .u64 (loOf y.mask)):=by have:=pres_below hb _ _ (hy1 3 (.int .u64 (loOf y.mask)) rfl);simpa using this
   have q4:wr.cell? ⟨b2,o2+k*5+4,none⟩=some (.string y.next):=by have:=pres_below hb _ _ (hy1 4 (.string y.next) rfl);simpa using this
   have HQ:∀ u:World,(binOp .neq 165 (.agg (CasC x)) (.agg (CasC y))).run Tryz.prog u=.ok (.bool (!decide (x=y))) u:=fun u=>run_ne165 x y u
   simp only[CasC] at HQ
   have HD:Hid (decide (xs=ys)=(decide (x=y)&&decide (xs.drop (k+1)=ys.drop (k+1)))):=by
    have e:=drop_step hx hy
    show decide (xs=ys)=_
    rw[hd,e]
   have HB:Hid (Bl w wr):=hb
   have hi:(0:Int)≤(k:Int)∧(k:Int)<(n:Int):=by omega
   clear hd hb hx1 hy1 hx hy
   generalize decide (x=y)=r at*
   go_wp2_with fail
   go_quiet (fail)
   cases r
   ·go_wp2
    go_ret
    exact⟨by rw[HD.out];rfl,below_drewN HB.out _⟩
   ·go_wp2
    exact⟨⟨k+1,by omega,by go_num,by rw[HD.out,Bool.true_and],below_drewN HB.out _⟩,by simp only[intOf];omega⟩
  ·have e:k=n:=by omega
   subst e
   have HE:decide (xs=ys)=true:=by
    rw[hd,decide_eq_true_eq]
    have h1:=HL.out.1;have h2:=HL.out.2
    rw[List.drop_of_length_le (by omega),List.drop_of_length_le (by omega)]
   clear hd
   have HE:Hid (decide (xs=ys)=true):=HE
   go_wp2
   go_ret
   exact⟨by rw[HE.out];rfl,hb⟩
theorem run_ne116 (x y:Ky)(w:World):(binOp .neq 116 (.agg (KyC x)) (.agg (KyC y))).run Tryz.prog w=.ok (.bool (!decide (x=y))) w:=by
 simp only[binOp]
 simp[Op.equal,Op.maxDepth,eqIn116 9997]
theorem equalKy_any (v v':Value)(xs ys:List Ky)(w:World)(hr:Row 3 (Flat KyC KyOk) w v xs)(hr':Row 3 (Flat KyC KyOk) w v' ys)(hlen:xs.length≤140737488351232):
  Calls Tryz.prog 187 #[v,v'] w fun e w'=>e=.returned (.bool (decide (xs=ys)))∧Below w.heap.size w w':=by
 obtain⟨a1,c1,rfl,h1⟩:=hr.slice
 obtain⟨a2,c2,rfl,h2⟩:=hr'.slice
 by_cases hne:¬ xs.length=ys.length
 ·have e:decide (xs=ys)=false:=by rw[decide_eq_false_iff_not];intro h;exact hne (by rw[h])
  rw[e]
  have hne':¬((xs.length:Int)=(ys.length:Int)):=by omega
  clear hr hr' h1 h2 e
  go_enter Tryz.func187,Tryz.ntmps187
  go_wp2
  go_ret
  exact⟨rfl,Below.refl _ _⟩
 have hne:=Classical.not_not.1 hne
 have HR:Hid (Row 3 (Flat KyC KyOk) w (.slice a1 xs.length c1) xs):=hr
 have HS:Hid (Row 3 (Flat KyC KyOk) w (.slice a2 ys.length c2) ys):=hr'
 obtain⟨n,hn⟩:∃ n,n=xs.length:=⟨_,rfl⟩
 have HL:Hid (n=xs.length∧n=ys.length):=⟨hn,by omega⟩
 rw[← hne] at HS ⊢
 rw[← hn] at HR HS hlen ⊢
 clear hr hr' h1 h2 hn hne
 go_enter Tryz.func187,Tryz.ntmps187
 go_wp2_with fail
 go_loopw [13] (fun i wr=>∃ k:Nat,k≤n∧i=.int .i64 k∧decide (xs=ys)=decide (xs.drop k=ys.drop k)∧Below w.heap.size w wr) (fun i _=>n - (intOf i).toNat)
 case atStart=>exact⟨0,by omega,rfl,by simp,Below.refl _ _⟩
 case round=>
  obtain⟨k,hk,rfl,hd,hb⟩:=hrel
  by_cases hlt:k<n
  ·obtain⟨x,hx⟩:=gE HL.out.1 hlt
   obtain⟨y,hy⟩:=gE HL.out.2 hlt
   obtain⟨b,o,cs,rfl,_,hx1,rfl,_⟩:=HR.out.at hx
   obtain⟨b2,o2,cs2,rfl,_,hy1,rfl,_⟩:=HS.out.at hy
   have p0:wr.cell? ⟨b,o+k*3,none⟩=some (.string x.ref.head):=by have:=pres_below hb _ _ (hx1 0 (.string x.ref.head) rfl);simpa using this
   have p1:wr.cell? ⟨b,o+k*3+1,none⟩=some (.string x.ref.name):=by have:=pres_below hb _ _ (hx1 1 (.string x.ref.name) rfl);simpa using this
   have p2:wr.cell? ⟨b,o+k*3+2,none⟩=some (.int .i64 x.kind):=by have:=pres_below hb _ _ (hx1 2 (.int .i64 x.kind) rfl);simpa using this
   have q0:wr.cell? ⟨b2,o2+k*3,none⟩=some (.string y.ref.head):=by have:=pres_below hb _ _ (hy1 0 (.string y.ref.head) rfl);simpa using this
   have q1:wr.cell? ⟨b2,o2+k*3+1,none⟩=some (.string y.ref.name):=by have:=pres_below hb _ _ (hy1 1 (.string y.ref.name) rfl);simpa using this
   have q2:wr.cell? ⟨b2,o2+k*3+2,none⟩=some (.int .i64 y.kind):=by have:=pres_below hb _ _ (hy1 2 (.int .i64 y.kind) rfl);simpa using this
   have HQ:∀ u:World,(binOp .neq 116 (.agg (KyC x)) (.agg (KyC y))).run Tryz.prog u=.ok (.bool (!decide (x=y))) u:=fun u=>run_ne116 x y u
   simp only[KyC] at HQ
   have HD:Hid (decide (xs=ys)=(decide (x=y)&&decide (xs.drop (k+1)=ys.drop (k+1)))):=by
    have e:=drop_step hx hy
    show decide (xs=ys)=_
    rw[hd,e]
   have HB:Hid (Bl w wr):=hb
   have hi:(0:Int)≤(k:Int)∧(k:Int)<(n:Int):=by omega
   clear hd hb hx1 hy1 hx hy
   generalize decide (x=y)=r at*
   go_wp2_with fail
   go_quiet (fail)
   cases r
   ·go_wp2
    go_ret
    exact⟨by rw[HD.out];rfl,below_drewN HB.out _⟩
   ·go_wp2
    exact⟨⟨k+1,by omega,by go_num,by rw[HD.out,Bool.true_and],below_drewN HB.out _⟩,by simp only[intOf];omega⟩
  ·have e:k=n:=by omega
   subst e
   have HE:decide (xs=ys)=true:=by
    rw[hd,decide_eq_true_eq]
    have h1:=HL.out.1;have h2:=HL.out.2
    rw[List.drop_of_length_le (by omega),List.drop_of_length_le (by omega)]
   clear hd
   have HE:Hid (decide (xs=ys)=true):=HE
   go_wp2
   go_ret
   exact⟨by rw[HE.out];rfl,hb⟩
theorem run_ne121 (x y:Nat)(w:World):(binOp .neq 121 (.agg (BitC x)) (.agg (BitC y))).run Tryz.prog w=.ok (.bool (!decide (x=y))) w:=by
 simp only[binOp]
 simp[Op.equal,Op.maxDepth,eqIn121' 9998]
theorem equalBit_any (v v':Value)(xs ys:List Nat)(w:World)(hr:Row 2 (Flat BitC Is128) w v xs)(hr':Row 2 (Flat BitC Is128) w v' ys)(hlen:xs.length≤140737488351232):
  Calls Tryz.prog 223 #[v,v'] w fun e w'=>e=.returned (.bool (decide (xs=ys)))∧Below w.heap.size w w':=by
 obtain⟨a1,c1,rfl,h1⟩:=hr.slice
 obtain⟨a2,c2,rfl,h2⟩:=hr'.slice
 by_cases hne:¬ xs.length=ys.length
 ·have e:decide (xs=ys)=false:=by rw[decide_eq_false_iff_not];intro h;exact hne (by rw[h])
  rw[e]
  have hne':¬((xs.length:Int)=(ys.length:Int)):=by omega
  clear hr hr' h1 h2 e
  go_enter Tryz.func223,Tryz.ntmps223
  go_wp2
  go_ret
  exact⟨rfl,Below.refl _ _⟩
 have hne:=Classical.not_not.1 hne
 have HR:Hid (Row 2 (Flat BitC Is128) w (.slice a1 xs.length c1) xs):=hr
 have HS:Hid (Row 2 (Flat BitC Is128) w (.slice a2 ys.length c2) ys):=hr'
 obtain⟨n,hn⟩:∃ n,n=xs.length:=⟨_,rfl⟩
 have HL:Hid (n=xs.length∧n=ys.length):=⟨hn,by omega⟩
 rw[← hne] at HS ⊢
 rw[← hn] at HR HS hlen ⊢
 clear hr hr' h1 h2 hn hne
 go_enter Tryz.func223,Tryz.ntmps223
 go_wp2_with fail
 go_loopw [13] (fun i wr=>∃ k:Nat,k≤n∧i=.int .i64 k∧decide (xs=ys)=decide (xs.drop k=ys.drop k)∧Below w.heap.size w wr) (fun i _=>n - (intOf i).toNat)
 case atStart=>exact⟨0,by omega,rfl,by simp,Below.refl _ _⟩
 case round=>
  obtain⟨k,hk,rfl,hd,hb⟩:=hrel
  by_cases hlt:k<n
  ·obtain⟨x,hx⟩:=gE HL.out.1 hlt
   obtain⟨y,hy⟩:=gE HL.out.2 hlt
   obtain⟨b,o,cs,rfl,_,hx1,rfl,_⟩:=HR.out.at hx
   obtain⟨b2,o2,cs2,rfl,_,hy1,rfl,_⟩:=HS.out.at hy
   have p0:wr.cell? ⟨b,o+k*2,none⟩=some (.int .u64 (hiOf x)):=by have:=pres_below hb _ _ (hx1 0 (.int .u64 (hiOf x)) rfl);simpa using this
   have p1:wr.cell? ⟨b,o+k*2+1,none⟩=some (.int .u64 (loOf x)):=by have:=pres_below hb _ _ (hx1 1 (.int .u64 (loOf x)) rfl);simpa using this
   have q0:wr.cell? ⟨b2,o2+k*2,none⟩=some (.int .u64 (hiOf y)):=by have:=pres_below hb _ _ (hy1 0 (.int .u64 (hiOf y)) rfl);simpa using this
   have q1:wr.cell? ⟨b2,o2+k*2+1,none⟩=some (.int .u64 (loOf y)):=by have:=pres_below hb _ _ (hy1 1 (.int .u64 (loOf y)) rfl);simpa using this
   have HQ:∀ u:World,(binOp .neq 121 (.agg (BitC x)) (.agg (BitC y))).run Tryz.prog u=.ok (.bool (!decide (x=y))) u:=fun u=>run_ne121 x y u
   simp only[BitC] at HQ
   have HD:Hid (decide (xs=ys)=(decide (x=y)&&decide (xs.drop (k+1)=ys.drop (k+1)))):=by
    have e:=drop_step hx hy
    show decide (xs=ys)=_
    rw[hd,e]
   have HB:Hid (Bl w wr):=hb
   have hi:(0:Int)≤(k:Int)∧(k:Int)<(n:Int):=by omega
   clear hd hb hx1 hy1 hx hy
   generalize decide (x=y)=r at*
   go_wp2_with fail
   go_quiet (fail)
   cases r
   ·go_wp2
    go_ret
    exact⟨by rw[HD.out];rfl,below_drewN HB.out _⟩
   ·go_wp2
    exact⟨⟨k+1,by omega,by go_num,by rw[HD.out,Bool.true_and],below_drewN HB.out _⟩,by simp only[intOf];omega⟩
  ·have e:k=n:=by omega
   subst e
   have HE:decide (xs=ys)=true:=by
    rw[hd,decide_eq_true_eq]
    have h1:=HL.out.1;have h2:=HL.out.2
    rw[List.drop_of_length_le (by omega),List.drop_of_length_le (by omega)]
   clear hd
   have HE:Hid (decide (xs=ys)=true):=HE
   go_wp2
   go_ret
   exact⟨by rw[HE.out];rfl,hb⟩
theorem equalTxt_any (v v':Value)(xs ys:List ByteArray)(w:World)(hr:Row 1 (Flat TxtC Okt) w v xs)(hr':Row 1 (Flat TxtC Okt) w v' ys)(hlen:xs.length≤140737488351232):
  Calls Tryz.prog 188 #[v,v'] w fun e w'=>e=.returned (.bool (decide (xs=ys)))∧Below w.heap.size w w':=by
 obtain⟨a1,c1,rfl,h1⟩:=hr.slice
 obtain⟨a2,c2,rfl,h2⟩:=hr'.slice
 by_cases hne:¬ xs.length=ys.length
 ·have e:decide (xs=ys)=false:=by rw[decide_eq_false_iff_not];intro h;exact hne (by rw[h])
  rw[e]
  have hne':¬((xs.length:Int)=(ys.length:Int)):=by omega
  clear hr hr' h1 h2 e
  go_enter Tryz.func188,Tryz.ntmps188
  go_wp2
  go_ret
  exact⟨rfl,Below.refl _ _⟩
 have hne:=Classical.not_not.1 hne
 have HR:Hid (Row 1 (Flat TxtC Okt) w (.slice a1 xs.length c1) xs):=hr
 have HS:Hid (Row 1 (Flat TxtC Okt) w (.slice a2 ys.length c2) ys):=hr'
 obtain⟨n,hn⟩:∃ n,n=xs.length:=⟨_,rfl⟩
 have HL:Hid (n=xs.length∧n=ys.length):=⟨hn,by omega⟩
 rw[← hne] at HS ⊢
 rw[← hn] at HR HS hlen ⊢
 clear hr hr' h1 h2 hn hne
 go_enter Tryz.func188,Tryz.ntmps188
 go_wp2_with fail
 go_loopw [13] (fun i wr=>∃ k:Nat,k≤n∧i=.int .i64 k∧decide (xs=ys)=decide (xs.drop k=ys.drop k)∧Below w.heap.size w wr) (fun i _=>n - (intOf i).toNat)
 case atStart=>exact⟨0,by omega,rfl,by simp,Below.refl _ _⟩
 case round=>
  obtain⟨k,hk,rfl,hd,hb⟩:=hrel
  by_cases hlt:k<n
  ·obtain⟨x,hx⟩:=gE HL.out.1 hlt
   obtain⟨y,hy⟩:=gE HL.out.2 hlt
   obtain⟨b,o,cs,rfl,_,hx1,rfl,_⟩:=HR.out.at hx
   obtain⟨b2,o2,cs2,rfl,_,hy1,rfl,_⟩:=HS.out.at hy
   have p0:wr.cell? ⟨b,o+k,none⟩=some (.string x):=by have:=pres_below hb _ _ (hx1 0 (.string x) rfl);simpa using this
   have q0:wr.cell? ⟨b2,o2+k,none⟩=some (.string y):=by have:=pres_below hb _ _ (hy1 0 (.string y) rfl);simpa using this
   have HT:(x.toList==y.toList)=decide (x=y):=txt_eq x y
   have HD:Hid (decide (xs=ys)=(decide (x=y)&&decide (xs.drop (k+1)=ys.drop (k+1)))):=by
    have e:=drop_step hx hy
    show decide (xs=ys)=_
    rw[hd,e]
   have HB:Hid (Bl w wr):=hb
   have hi:(0:Int)≤(k:Int)∧(k:Int)<(n:Int):=by omega
   clear hd hb hx1 hy1 hx hy
   generalize decide (x=y)=r at*
   go_wp2_with fail
   go_quiet (fail)
   cases r
   ·go_wp2
    go_ret
    exact⟨by rw[HD.out];rfl,below_drewN HB.out _⟩
   ·go_wp2
    exact⟨⟨k+1,by omega,by go_num,by rw[HD.out,Bool.true_and],below_drewN HB.out _⟩,by simp only[intOf];omega⟩
  ·have e:k=n:=by omega
   subst e
   have HE:decide (xs=ys)=true:=by
    rw[hd,decide_eq_true_eq]
    have h1:=HL.out.1;have h2:=HL.out.2
    rw[List.drop_of_length_le (by omega),List.drop_of_length_le (by omega)]
   clear hd
   have HE:Hid (decide (xs=ys)=true):=HE
   go_wp2
   go_ret
   exact⟨by rw[HE.out];rfl,hb⟩
theorem fsz60:(Tryz.prog.info? 60).map (·.size)=some 2:=by kernel_rfl
theorem equalfHdr_any (v v':Value)(xs ys:List Hdr)(w:World)(hr:Row 2 HdrIs w v xs)(hr':Row 2 HdrIs w v' ys)(hlen:xs.length≤140737488351232)(hc:SameOk 111 HdrIs xs ys):
  Calls Tryz.prog 110 #[v,v',.func (.func 111) #[] #[]] w fun e w'=>e=.returned (.bool (decide (xs=ys)))∧Below w.heap.size w w':=by
 obtain⟨a1,c1,rfl,h1⟩:=hr.slice
 obtain⟨a2,c2,rfl,h2⟩:=hr'.slice
 by_cases hne:¬ xs.length=ys.length
 ·have e:decide (xs=ys)=false:=by rw[decide_eq_false_iff_not];intro h;exact hne (by rw[h])
  rw[e]
  have hne':¬((xs.length:Int)=(ys.length:Int)):=by omega
  clear hr hr' h1 h2 e hc
  go_enter Tryz.func110,Tryz.ntmps110
  go_wp2
  go_ret
  exact⟨rfl,Below.refl _ _⟩
 have hne:=Classical.not_not.1 hne
 have HR:Hid (Row 2 HdrIs w (.slice a1 xs.length c1) xs):=hr
 have HS:Hid (Row 2 HdrIs w (.slice a2 ys.length c2) ys):=hr'
 have HC:Hid (SameOk 111 HdrIs xs ys):=hc
 obtain⟨n,hn⟩:∃ n,n=xs.length:=⟨_,rfl⟩
 have HL:Hid (n=xs.length∧n=ys.length):=⟨hn,by omega⟩
 rw[← hne] at HS ⊢
 rw[← hn] at HR HS hlen ⊢
 clear hr hr' h1 h2 hn hne hc
 go_enter Tryz.func110,Tryz.ntmps110
 go_wp2_with fail
 go_loopw [17] (fun i wr=>∃ k:Nat,k≤n∧i=.int .i64 k∧decide (xs=ys)=decide (xs.drop k=ys.drop k)∧Below w.heap.size w wr) (fun i _=>n - (intOf i).toNat)
 case atStart=>exact⟨0,by omega,rfl,by simp,Below.refl _ _⟩
 case round=>
  obtain⟨k,hk,rfl,hd,hb⟩:=hrel
  by_cases hlt:k<n
  ·obtain⟨x,hx⟩:=gE HL.out.1 hlt
   obtain⟨y,hy⟩:=gE HL.out.2 hlt
   obtain⟨b,o,⟨cl⟩,rfl,hsx,hx1,hIx⟩:=HR.out.at hx
   obtain⟨b2,o2,⟨dl⟩,rfl,hsy,hy1,hIy⟩:=HS.out.at hy
   have hcs:cl.length=2:=hsx
   have hds:dl.length=2:=hsy
   have hz1:(Tryz.prog.info? 60).map (·.size)=some cl.length:=by rw[hcs];exact fsz60
   have hz2:(Tryz.prog.info? 60).map (·.size)=some dl.length:=by rw[hds];exact fsz60
   have HP:Hid (HdrIs w cl.toArray x∧HdrIs w dl.toArray y∧x ∈ xs∧y ∈ ys):=⟨hIx,hIy,List.mem_of_getElem? hx,List.mem_of_getElem? hy⟩
   have HD:Hid (decide (xs=ys)=(decide (x=y)&&decide (xs.drop (k+1)=ys.drop (k+1)))):=by
    have e:=drop_step hx hy
    show decide (xs=ys)=_
    rw[hd,e]
   have HB:Hid (Bl w wr):=hb
   have R1:Hid (wr.rangeAt b (o+k*2) cl):=fun j u hu=>pres_below hb _ _ (hx1 j u (by simpa using hu))
   have R2:Hid (w.rangeAt b2 (o2+k*2) dl):=fun j u hu=>(hy1 j u (by simpa using hu))
   have ST:Hid ((wr.alloc (.cells #[.string ⟨#[]⟩,.slice none 0 0] 60)).there wr.heap.size 0 cl.toArray.size):=there_new wr #[.string ⟨#[]⟩,.slice none 0 0] 60 (by simp[hcs])
   have ON1:Hid (cl.toArray.all (·.oneCell')=true):=hdr_good.one hIx
   have ON2:Hid (dl.toArray.all (·.oneCell')=true):=hdr_good.one hIy
   have H1:Hid (Below w.heap.size w ((wr.alloc (.cells #[.string ⟨#[]⟩,.slice none 0 0] 60)).setCells wr.heap.size 0 cl)∧((wr.alloc (.cells #[.string ⟨#[]⟩,.slice none 0 0] 60)).setCells wr.heap.size 0 cl).rangeAt wr.heap.size 0 cl):=
    ⟨below_setCells (hb.alloc hb.size _) hb.size _ _,World.rangeAt_setCells_same _ _ _ _ (there_new wr #[.string ⟨#[]⟩,.slice none 0 0] 60 (by simp[hcs]))⟩
   clear hd hb hx1 hy1 hx hy hIx hIy hsx hsy
   go_upto_region 6 with(first|(refine wpList_load_mid rfl 60 _ rfl b (o+k*2) rfl cl _ R1.out Tryz.underlying60 rfl hz1 ?_)|(refine wpList_store_mid rfl 60 _ _ rfl wr.heap.size 0 cl.toArray rfl rfl ST.out (by rw[List.size_toArray];exact hz1) ON1.out ?_))
   generalize ((wr.alloc (.cells #[.string ⟨#[]⟩,.slice none 0 0] 60)).setCells wr.heap.size 0 cl)=W1 at H1 ⊢
   have ST2:Hid ((W1.alloc (.cells #[.string ⟨#[]⟩,.slice none 0 0] 60)).there W1.heap.size 0 dl.toArray.size):=there_new W1 #[.string ⟨#[]⟩,.slice none 0 0] 60 (by simp[hds])
   have R3:Hid (W1.rangeAt b2 (o2+k*2) dl):=fun j u hu=>pres_below H1.out.1 _ _ (R2.out j u hu)
   have H2:Hid (Below w.heap.size w ((W1.alloc (.cells #[.string ⟨#[]⟩,.slice none 0 0] 60)).setCells W1.heap.size 0 dl)∧((W1.alloc (.cells #[.string ⟨#[]⟩,.slice none 0 0] 60)).setCells W1.heap.size 0 dl).rangeAt wr.heap.size 0 cl∧((W1.alloc (.cells #[.string ⟨#[]⟩,.slice none 0 0] 60)).setCells W1.heap.size 0 dl).rangeAt W1.heap.size 0 dl):=
    ⟨below_setCells (H1.out.1.alloc H1.out.1.size _) H1.out.1.size _ _,fun j u hu=>pres_below (below_setCells ((Below.refl _ _).alloc (Nat.le_refl _) _) (Nat.le_refl _) _ _) _ _ (H1.out.2 j u hu),World.rangeAt_setCells_same _ _ _ _ (there_new W1 #[.string ⟨#[]⟩,.slice none 0 0] 60 (by simp[hds]))⟩
   clear R1 ST R2 H1
   go_upto_region 7 with(first|(refine wpList_load_mid rfl 60 _ rfl b2 (o2+k*2) rfl dl _ R3.out Tryz.underlying60 rfl hz2 ?_)|(refine wpList_store_mid rfl 60 _ _ rfl W1.heap.size 0 dl.toArray rfl rfl ST2.out (by rw[List.size_toArray];exact hz2) ON2.out ?_))
   generalize ((W1.alloc (.cells #[.string ⟨#[]⟩,.slice none 0 0] 60)).setCells W1.heap.size 0 dl)=W2 at H2 ⊢
   have C:Hid (Cs 111 #[.agg cl.toArray,.agg dl.toArray] W2 fun e w'=>e=.returned (.bool (decide (x=y)))∧Hid (Bl w w')):=by
    refine(HC.out x HP.out.2.2.1 y HP.out.2.2.2 W2 cl.toArray dl.toArray (hdr_good.pres (pres_below H2.out.1) HP.out.1) (hdr_good.pres (pres_below H2.out.1) HP.out.2.1)).mono ?_
    rintro e w' ⟨rfl,hb⟩
    exact⟨rfl,bst H2.out.1 hb (Nat.le_refl _)⟩
   generalize decide (x=y)=r at*
   clear R3 ST2 ON1 ON2
   have R4:Hid (W2.rangeAt wr.heap.size 0 cl):=H2.out.2.1
   have R5:Hid (W2.rangeAt W1.heap.size 0 dl):=H2.out.2.2
   clear H2
   go_wp2_with (first|(refine wpList_load_mid rfl 60 _ rfl wr.heap.size 0 rfl cl _ R4.out Tryz.underlying60 rfl hz1 ?_)|(refine wpList_load_mid rfl 60 _ rfl W1.heap.size 0 rfl dl _ R5.out Tryz.underlying60 rfl hz2 ?_))
   refine C.out.mono ?_
   rintro e W3 ⟨rfl,H3⟩
   clear C R4 R5 HB
   cases r
   ·go_wp2
    go_ret
    exact⟨by rw[HD.out];rfl,H3.out⟩
   ·go_wp2
    exact⟨⟨k+1,by omega,by go_num,by rw[HD.out,Bool.true_and],H3.out⟩,by simp only[intOf];omega⟩
  ·have e:k=n:=by omega
   subst e
   have HE:decide (xs=ys)=true:=by
    rw[hd,decide_eq_true_eq]
    have h1:=HL.out.1;have h2:=HL.out.2
    rw[List.drop_of_length_le (by omega),List.drop_of_length_le (by omega)]
   clear hd
   have HE:Hid (decide (xs=ys)=true):=HE
   go_wp2
   go_ret
   exact⟨by rw[HE.out];rfl,hb⟩
theorem fsz65:(Tryz.prog.info? 65).map (·.size)=some 3:=by kernel_rfl
theorem equalfAct_any (v v':Value)(xs ys:List Actn)(w:World)(hr:Row 3 ActIs w v xs)(hr':Row 3 ActIs w v' ys)(hlen:xs.length≤140737488351232)(hc:SameOk 116 ActIs xs ys):
  Calls Tryz.prog 115 #[v,v',.func (.func 116) #[] #[]] w fun e w'=>e=.returned (.bool (decide (xs=ys)))∧Below w.heap.size w w':=by
 obtain⟨a1,c1,rfl,h1⟩:=hr.slice
 obtain⟨a2,c2,rfl,h2⟩:=hr'.slice
 by_cases hne:¬ xs.length=ys.length
 ·have e:decide (xs=ys)=false:=by rw[decide_eq_false_iff_not];intro h;exact hne (by rw[h])
  rw[e]
  have hne':¬((xs.length:Int)=(ys.length:Int)):=by omega
  clear hr hr' h1 h2 e hc
  go_enter Tryz.func115,Tryz.ntmps115
  go_wp2
  go_ret
  exact⟨rfl,Below.refl _ _⟩
 have hne:=Classical.not_not.1 hne
 have HR:Hid (Row 3 ActIs w (.slice a1 xs.length c1) xs):=hr
 have HS:Hid (Row 3 ActIs w (.slice a2 ys.length c2) ys):=hr'
 have HC:Hid (SameOk 116 ActIs xs ys):=hc
 obtain⟨n,hn⟩:∃ n,n=xs.length:=⟨_,rfl⟩
 have HL:Hid (n=xs.length∧n=ys.length):=⟨hn,by omega⟩
 rw[← hne] at HS ⊢
 rw[← hn] at HR HS hlen ⊢
 clear hr hr' h1 h2 hn hne hc
 go_enter Tryz.func115,Tryz.ntmps115
 go_wp2_with fail
 go_loopw [17] (fun i wr=>∃ k:Nat,k≤n∧i=.int .i64 k∧decide (xs=ys)=decide (xs.drop k=ys.drop k)∧Below w.heap.size w wr) (fun i _=>n - (intOf i).toNat)
 case atStart=>exact⟨0,by omega,rfl,by simp,Below.refl _ _⟩
 case round=>
  obtain⟨k,hk,rfl,hd,hb⟩:=hrel
  by_cases hlt:k<n
  ·obtain⟨x,hx⟩:=gE HL.out.1 hlt
   obtain⟨y,hy⟩:=gE HL.out.2 hlt
   obtain⟨b,o,⟨cl⟩,rfl,hsx,hx1,hIx⟩:=HR.out.at hx
   obtain⟨b2,o2,⟨dl⟩,rfl,hsy,hy1,hIy⟩:=HS.out.at hy
   have hcs:cl.length=3:=hsx
   have hds:dl.length=3:=hsy
   have hz1:(Tryz.prog.info? 65).map (·.size)=some cl.length:=by rw[hcs];exact fsz65
   have hz2:(Tryz.prog.info? 65).map (·.size)=some dl.length:=by rw[hds];exact fsz65
   have HP:Hid (ActIs w cl.toArray x∧ActIs w dl.toArray y∧x ∈ xs∧y ∈ ys):=⟨hIx,hIy,List.mem_of_getElem? hx,List.mem_of_getElem? hy⟩
   have HD:Hid (decide (xs=ys)=(decide (x=y)&&decide (xs.drop (k+1)=ys.drop (k+1)))):=by
    have e:=drop_step hx hy
    show decide (xs=ys)=_
    rw[hd,e]
   have HB:Hid (Bl w wr):=hb
   have R1:Hid (wr.rangeAt b (o+k*3) cl):=fun j u hu=>pres_below hb _ _ (hx1 j u (by simpa using hu))
   have R2:Hid (w.rangeAt b2 (o2+k*3) dl):=fun j u hu=>(hy1 j u (by simpa using hu))
   have ST:Hid ((wr.alloc (.cells #[.string ⟨#[]⟩,.slice none 0 0,.slice none 0 0] 65)).there wr.heap.size 0 cl.toArray.size):=there_new wr #[.string ⟨#[]⟩,.slice none 0 0,.slice none 0 0] 65 (by simp[hcs])
   have ON1:Hid (cl.toArray.all (·.oneCell')=true):=act_good.one hIx
   have ON2:Hid (dl.toArray.all (·.oneCell')=true):=act_good.one hIy
   have H1:Hid (Below w.heap.size w ((wr.alloc (.cells #[.string ⟨#[]⟩,.slice none 0 0,.slice none 0 0] 65)).setCells wr.heap.size 0 cl)∧((wr.alloc (.cells #[.string ⟨#[]⟩,.slice none 0 0,.slice none 0 0] 65)).setCells wr.heap.size 0 cl).rangeAt wr.heap.size 0 cl):=
    ⟨below_setCells (hb.alloc hb.size _) hb.size _ _,World.rangeAt_setCells_same _ _ _ _ (there_new wr #[.string ⟨#[]⟩,.slice none 0 0,.slice none 0 0] 65 (by simp[hcs]))⟩
   clear hd hb hx1 hy1 hx hy hIx hIy hsx hsy
   go_upto_region 6 with(first|(refine wpList_load_mid rfl 65 _ rfl b (o+k*3) rfl cl _ R1.out Tryz.underlying65 rfl hz1 ?_)|(refine wpList_store_mid rfl 65 _ _ rfl wr.heap.size 0 cl.toArray rfl rfl ST.out (by rw[List.size_toArray];exact hz1) ON1.out ?_))
   generalize ((wr.alloc (.cells #[.string ⟨#[]⟩,.slice none 0 0,.slice none 0 0] 65)).setCells wr.heap.size 0 cl)=W1 at H1 ⊢
   have ST2:Hid ((W1.alloc (.cells #[.string ⟨#[]⟩,.slice none 0 0,.slice none 0 0] 65)).there W1.heap.size 0 dl.toArray.size):=there_new W1 #[.string ⟨#[]⟩,.slice none 0 0,.slice none 0 0] 65 (by simp[hds])
   have R3:Hid (W1.rangeAt b2 (o2+k*3) dl):=fun j u hu=>pres_below H1.out.1 _ _ (R2.out j u hu)
   have H2:Hid (Below w.heap.size w ((W1.alloc (.cells #[.string ⟨#[]⟩,.slice none 0 0,.slice none 0 0] 65)).setCells W1.heap.size 0 dl)∧((W1.alloc (.cells #[.string ⟨#[]⟩,.slice none 0 0,.slice none 0 0] 65)).setCells W1.heap.size 0 dl).rangeAt wr.heap.size 0 cl∧((W1.alloc (.cells #[.string ⟨#[]⟩,.slice none 0 0,.slice none 0 0] 65)).setCells W1.heap.size 0 dl).rangeAt W1.heap.size 0 dl):=
    ⟨below_setCells (H1.out.1.alloc H1.out.1.size _) H1.out.1.size _ _,fun j u hu=>pres_below (below_setCells ((Below.refl _ _).alloc (Nat.le_refl _) _) (Nat.le_refl _) _ _) _ _ (H1.out.2 j u hu),World.rangeAt_setCells_same _ _ _ _ (there_new W1 #[.string ⟨#[]⟩,.slice none 0 0,.slice none 0 0] 65 (by simp[hds]))⟩
   clear R1 ST R2 H1
   go_upto_region 7 with(first|(refine wpList_load_mid rfl 65 _ rfl b2 (o2+k*3) rfl dl _ R3.out Tryz.underlying65 rfl hz2 ?_)|(refine wpList_store_mid rfl 65 _ _ rfl W1.heap.size 0 dl.toArray rfl rfl ST2.out (by rw[List.size_toArray];exact hz2) ON2.out ?_))
   generalize ((W1.alloc (.cells #[.string ⟨#[]⟩,.slice none 0 0,.slice none 0 0] 65)).setCells W1.heap.size 0 dl)=W2 at H2 ⊢
   have C:Hid (Cs 116 #[.agg cl.toArray,.agg dl.toArray] W2 fun e w'=>e=.returned (.bool (decide (x=y)))∧Hid (Bl w w')):=by
    refine(HC.out x HP.out.2.2.1 y HP.out.2.2.2 W2 cl.toArray dl.toArray (act_good.pres (pres_below H2.out.1) HP.out.1) (act_good.pres (pres_below H2.out.1) HP.out.2.1)).mono ?_
    rintro e w' ⟨rfl,hb⟩
    exact⟨rfl,bst H2.out.1 hb (Nat.le_refl _)⟩
   generalize decide (x=y)=r at*
   clear R3 ST2 ON1 ON2
   have R4:Hid (W2.rangeAt wr.heap.size 0 cl):=H2.out.2.1
   have R5:Hid (W2.rangeAt W1.heap.size 0 dl):=H2.out.2.2
   clear H2
   go_wp2_with (first|(refine wpList_load_mid rfl 65 _ rfl wr.heap.size 0 rfl cl _ R4.out Tryz.underlying65 rfl hz1 ?_)|(refine wpList_load_mid rfl 65 _ rfl W1.heap.size 0 rfl dl _ R5.out Tryz.underlying65 rfl hz2 ?_))
   refine C.out.mono ?_
   rintro e W3 ⟨rfl,H3⟩
   clear C R4 R5 HB
   cases r
   ·go_wp2
    go_ret
    exact⟨by rw[HD.out];rfl,H3.out⟩
   ·go_wp2
    exact⟨⟨k+1,by omega,by go_num,by rw[HD.out,Bool.true_and],H3.out⟩,by simp only[intOf];omega⟩
  ·have e:k=n:=by omega
   subst e
   have HE:decide (xs=ys)=true:=by
    rw[hd,decide_eq_true_eq]
    have h1:=HL.out.1;have h2:=HL.out.2
    rw[List.drop_of_length_le (by omega),List.drop_of_length_le (by omega)]
   clear hd
   have HE:Hid (decide (xs=ys)=true):=HE
   go_wp2
   go_ret
   exact⟨by rw[HE.out];rfl,hb⟩
theorem fsz51:(Tryz.prog.info? 51).map (·.size)=some 7:=by kernel_rfl
theorem equalfTbl_any (v v':Value)(xs ys:List Tbl)(w:World)(hr:Row 7 TblIs w v xs)(hr':Row 7 TblIs w v' ys)(hlen:xs.length≤140737488351232)(hc:SameOk 118 TblIs xs ys):
  Calls Tryz.prog 117 #[v,v',.func (.func 118) #[] #[]] w fun e w'=>e=.returned (.bool (decide (xs=ys)))∧Below w.heap.size w w':=by
 obtain⟨a1,c1,rfl,h1⟩:=hr.slice
 obtain⟨a2,c2,rfl,h2⟩:=hr'.slice
 by_cases hne:¬ xs.length=ys.length
 ·have e:decide (xs=ys)=false:=by rw[decide_eq_false_iff_not];intro h;exact hne (by rw[h])
  rw[e]
  have hne':¬((xs.length:Int)=(ys.length:Int)):=by omega
  clear hr hr' h1 h2 e hc
  go_enter Tryz.func117,Tryz.ntmps117
  go_wp2
  go_ret
  exact⟨rfl,Below.refl _ _⟩
 have hne:=Classical.not_not.1 hne
 have HR:Hid (Row 7 TblIs w (.slice a1 xs.length c1) xs):=hr
 have HS:Hid (Row 7 TblIs w (.slice a2 ys.length c2) ys):=hr'
 have HC:Hid (SameOk 118 TblIs xs ys):=hc
 obtain⟨n,hn⟩:∃ n,n=xs.length:=⟨_,rfl⟩
 have HL:Hid (n=xs.length∧n=ys.length):=⟨hn,by omega⟩
 rw[← hne] at HS ⊢
 rw[← hn] at HR HS hlen ⊢
 clear hr hr' h1 h2 hn hne hc
 go_enter Tryz.func117,Tryz.ntmps117
 go_wp2_with fail
 go_loopw [17] (fun i wr=>∃ k:Nat,k≤n∧i=.int .i64 k∧decide (xs=ys)=decide (xs.drop k=ys.drop k)∧Below w.heap.size w wr) (fun i _=>n - (intOf i).toNat)
 case atStart=>exact⟨0,by omega,rfl,by simp,Below.refl _ _⟩
 case round=>
  obtain⟨k,hk,rfl,hd,hb⟩:=hrel
  by_cases hlt:k<n
  ·obtain⟨x,hx⟩:=gE HL.out.1 hlt
   obtain⟨y,hy⟩:=gE HL.out.2 hlt
   obtain⟨b,o,⟨cl⟩,rfl,hsx,hx1,hIx⟩:=HR.out.at hx
   obtain⟨b2,o2,⟨dl⟩,rfl,hsy,hy1,hIy⟩:=HS.out.at hy
   have hcs:cl.length=7:=hsx
   have hds:dl.length=7:=hsy
   have hz1:(Tryz.prog.info? 51).map (·.size)=some cl.length:=by rw[hcs];exact fsz51
   have hz2:(Tryz.prog.info? 51).map (·.size)=some dl.length:=by rw[hds];exact fsz51
   have HP:Hid (TblIs w cl.toArray x∧TblIs w dl.toArray y∧x ∈ xs∧y ∈ ys):=⟨hIx,hIy,List.mem_of_getElem? hx,List.mem_of_getElem? hy⟩
   have HD:Hid (decide (xs=ys)=(decide (x=y)&&decide (xs.drop (k+1)=ys.drop (k+1)))):=by
    have e:=drop_step hx hy
    show decide (xs=ys)=_
    rw[hd,e]
   have HB:Hid (Bl w wr):=hb
   have R1:Hid (wr.rangeAt b (o+k*7) cl):=fun j u hu=>pres_below hb _ _ (hx1 j u (by simpa using hu))
   have R2:Hid (w.rangeAt b2 (o2+k*7) dl):=fun j u hu=>(hy1 j u (by simpa using hu))
   have ST:Hid ((wr.alloc (.cells #[.string ⟨#[]⟩,.slice none 0 0,.slice none 0 0,.int .i64 0,.string ⟨#[]⟩,.slice none 0 0,.bool false] 51)).there wr.heap.size 0 cl.toArray.size):=there_new wr #[.string ⟨#[]⟩,.slice none 0 0,.slice none 0 0,.int .i64 0,.string ⟨#[]⟩,.slice none 0 0,.bool false] 51 (by simp[hcs])
   have ON1:Hid (cl.toArray.all (·.oneCell')=true):=tbl_good.one hIx
   have ON2:Hid (dl.toArray.all (·.oneCell')=true):=tbl_good.one hIy
   have H1:Hid (Below w.heap.size w ((wr.alloc (.cells #[.string ⟨#[]⟩,.slice none 0 0,.slice none 0 0,.int .i64 0,.string ⟨#[]⟩,.slice none 0 0,.bool false] 51)).setCells wr.heap.size 0 cl)∧((wr.alloc (.cells #[.string ⟨#[]⟩,.slice none 0 0,.slice none 0 0,.int .i64 0,.string ⟨#[]⟩,.slice none 0 0,.bool false] 51)).setCells wr.heap.size 0 cl).rangeAt wr.heap.size 0 cl):=
    ⟨below_setCells (hb.alloc hb.size _) hb.size _ _,World.rangeAt_setCells_same _ _ _ _ (there_new wr #[.string ⟨#[]⟩,.slice none 0 0,.slice none 0 0,.int .i64 0,.string ⟨#[]⟩,.slice none 0 0,.bool false] 51 (by simp[hcs]))⟩
   clear hd hb hx1 hy1 hx hy hIx hIy hsx hsy
   go_upto_region 6 with(first|(refine wpList_load_mid rfl 51 _ rfl b (o+k*7) rfl cl _ R1.out Tryz.underlying51 rfl hz1 ?_)|(refine wpList_store_mid rfl 51 _ _ rfl wr.heap.size 0 cl.toArray rfl rfl ST.out (by rw[List.size_toArray];exact hz1) ON1.out ?_))
   generalize ((wr.alloc (.cells #[.string ⟨#[]⟩,.slice none 0 0,.slice none 0 0,.int .i64 0,.string ⟨#[]⟩,.slice none 0 0,.bool false] 51)).setCells wr.heap.size 0 cl)=W1 at H1 ⊢
   have ST2:Hid ((W1.alloc (.cells #[.string ⟨#[]⟩,.slice none 0 0,.slice none 0 0,.int .i64 0,.string ⟨#[]⟩,.slice none 0 0,.bool false] 51)).there W1.heap.size 0 dl.toArray.size):=there_new W1 #[.string ⟨#[]⟩,.slice none 0 0,.slice none 0 0,.int .i64 0,.string ⟨#[]⟩,.slice none 0 0,.bool false] 51 (by simp[hds])
   have R3:Hid (W1.rangeAt b2 (o2+k*7) dl):=fun j u hu=>pres_below H1.out.1 _ _ (R2.out j u hu)
   have H2:Hid (Below w.heap.size w ((W1.alloc (.cells #[.string ⟨#[]⟩,.slice none 0 0,.slice none 0 0,.int .i64 0,.string ⟨#[]⟩,.slice none 0 0,.bool false] 51)).setCells W1.heap.size 0 dl)∧((W1.alloc (.cells #[.string ⟨#[]⟩,.slice none 0 0,.slice none 0 0,.int .i64 0,.string ⟨#[]⟩,.slice none 0 0,.bool false] 51)).setCells W1.heap.size 0 dl).rangeAt wr.heap.size 0 cl∧((W1.alloc (.cells #[.string ⟨#[]⟩,.slice none 0 0,.slice none 0 0,.int .i64 0,.string ⟨#[]⟩,.slice none 0 0,.bool false] 51)).setCells W1.heap.size 0 dl).rangeAt W1.heap.size 0 dl):=
    ⟨below_setCells (H1.out.1.alloc H1.out.1.size _) H1.out.1.size _ _,fun j u hu=>pres_below (below_setCells ((Below.refl _ _).alloc (Nat.le_refl _) _) (Nat.le_refl _) _ _) _ _ (H1.out.2 j u hu),World.rangeAt_setCells_same _ _ _ _ (there_new W1 #[.string ⟨#[]⟩,.slice none 0 0,.slice none 0 0,.int .i64 0,.string ⟨#[]⟩,.slice none 0 0,.bool false] 51 (by simp[hds]))⟩
   clear R1 ST R2 H1
   go_upto_region 7 with(first|(refine wpList_load_mid rfl 51 _ rfl b2 (o2+k*7) rfl dl _ R3.out Tryz.underlying51 rfl hz2 ?_)|(refine wpList_store_mid rfl 51 _ _ rfl W1.heap.size 0 dl.toArray rfl rfl ST2.out (by rw[List.size_toArray];exact hz2) ON2.out ?_))
   generalize ((W1.alloc (.cells #[.string ⟨#[]⟩,.slice none 0 0,.slice none 0 0,.int .i64 0,.string ⟨#[]⟩,.slice none 0 0,.bool false] 51)).setCells W1.heap.size 0 dl)=W2 at H2 ⊢
   have C:Hid (Cs 118 #[.agg cl.toArray,.agg dl.toArray] W2 fun e w'=>e=.returned (.bool (decide (x=y)))∧Hid (Bl w w')):=by
    refine(HC.out x HP.out.2.2.1 y HP.out.2.2.2 W2 cl.toArray dl.toArray (tbl_good.pres (pres_below H2.out.1) HP.out.1) (tbl_good.pres (pres_below H2.out.1) HP.out.2.1)).mono ?_
    rintro e w' ⟨rfl,hb⟩
    exact⟨rfl,bst H2.out.1 hb (Nat.le_refl _)⟩
   generalize decide (x=y)=r at*
   clear R3 ST2 ON1 ON2
   have R4:Hid (W2.rangeAt wr.heap.size 0 cl):=H2.out.2.1
   have R5:Hid (W2.rangeAt W1.heap.size 0 dl):=H2.out.2.2
   clear H2
   go_wp2_with (first|(refine wpList_load_mid rfl 51 _ rfl wr.heap.size 0 rfl cl _ R4.out Tryz.underlying51 rfl hz1 ?_)|(refine wpList_load_mid rfl 51 _ rfl W1.heap.size 0 rfl dl _ R5.out Tryz.underlying51 rfl hz2 ?_))
   refine C.out.mono ?_
   rintro e W3 ⟨rfl,H3⟩
   clear C R4 R5 HB
   cases r
   ·go_wp2
    go_ret
    exact⟨by rw[HD.out];rfl,H3.out⟩
   ·go_wp2
    exact⟨⟨k+1,by omega,by go_num,by rw[HD.out,Bool.true_and],H3.out⟩,by simp only[intOf];omega⟩
  ·have e:k=n:=by omega
   subst e
   have HE:decide (xs=ys)=true:=by
    rw[hd,decide_eq_true_eq]
    have h1:=HL.out.1;have h2:=HL.out.2
    rw[List.drop_of_length_le (by omega),List.drop_of_length_le (by omega)]
   clear hd
   have HE:Hid (decide (xs=ys)=true):=HE
   go_wp2
   go_ret
   exact⟨by rw[HE.out];rfl,hb⟩
end Go.Proofs.YtmbpclknhkbbkaaGreat
