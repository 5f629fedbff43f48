/- Package schema: what is found by a nam. -/
import Derived.Test.YtmbpclknhkbbkaaGreatB35
set_option linter.unusedSimpArgs false
set_option linter.unusedVariables false
set_option maxHeartbeats 1000000
namespace Go.Proofs.YtmbpclknhkbbkaaGreat
open Go.RowKit
theorem SchIs.parts {w:World}{v:Value}{s:Sch}(h:SchIs w v s):∃ a0 c0 a1 c1 a2 c2 a3 c3 a4 c4 a5 c5,v=.agg #[.slice a0 s.headers.length c0,.slice a1 s.metas.length c1,.slice a2 s.states.length c2,.slice a3 s.actions.length c3,.slice a4 s.tables.length c4,.slice a5 s.control.length c5]∧
  HdrRow w (.slice a0 s.headers.length c0) s.headers∧FldRow w (.slice a1 s.metas.length c1) s.metas∧StaRow w (.slice a2 s.states.length c2) s.states∧ActRow w (.slice a3 s.actions.length c3) s.actions∧TblRow w (.slice a4 s.tables.length c4) s.tables∧StgRow w (.slice a5 s.control.length c5) s.control:=by
 obtain⟨v0,v1,v2,v3,v4,v5,rfl,h0,h1,h2,h3,h4,h5⟩:=h
 obtain⟨a0,c0,rfl,_⟩:=h0.1.slice
 obtain⟨a1,c1,rfl,_⟩:=h1.1.slice
 obtain⟨a2,c2,rfl,_⟩:=h2.1.slice
 obtain⟨a3,c3,rfl,_⟩:=h3.1.slice
 obtain⟨a4,c4,rfl,_⟩:=h4.1.slice
 obtain⟨a5,c5,rfl,_⟩:=h5.slice
 exact⟨a0,c0,a1,c1,a2,c2,a3,c3,a4,c4,a5,c5,rfl,h0,h1,h2,h3,h4,h5⟩
def hdrAt (s:Sch)(name:ByteArray):Int:=idxF (fun h:Hdr=>decide (h.name=name)) s.headers 0
def actAt (s:Sch)(name:ByteArray):Int:=idxF (fun h:Actn=>decide (h.name=name)) s.actions 0
def tblAt (s:Sch)(name:ByteArray):Int:=idxF (fun h:Tbl=>decide (h.name=name)) s.tables 0
theorem mf (fn:Fn)(first cap:Array Value)(w:World):(Instr.makeFunc fn first cap).run Tryz.prog w=.ok (.func fn first cap) w:=rfl
theorem headerAt_any (v:Value)(s:Sch)(name:ByteArray)(w:World)(hs:SchIs w v s):Calls Tryz.prog 124 #[v,.string name] w fun e w'=>e=.returned (.int .i64 (hdrAt s name))∧Below w.heap.size w w':=by
 obtain⟨a0,c0,a1,c1,a2,c2,a3,c3,a4,c4,a5,c5,rfl,h0,h1,h2,h3,h4,h5⟩:=hs.parts
 have hmf:=mf
 have hb0:Below w.heap.size w ((w.alloc (.cells #[.slice a0 s.headers.length c0,.slice a1 s.metas.length c1,.slice a2 s.states.length c2,.slice a3 s.actions.length c3,.slice a4 s.tables.length c4,.slice a5 s.control.length c5] 34)).alloc (.cells #[.string name] 9)):=((Below.refl _ _).alloc (Nat.le_refl _) _).alloc (by simp) _
 have C:Hid (Cs 190 #[.slice a0 s.headers.length c0,.func (.func 191) #[] #[.pointer (some ⟨w.heap.size+1,0,none⟩)]] ((w.alloc (.cells #[.slice a0 s.headers.length c0,.slice a1 s.metas.length c1,.slice a2 s.states.length c2,.slice a3 s.actions.length c3,.slice a4 s.tables.length c4,.slice a5 s.control.length c5] 34)).alloc (.cells #[.string name] 9)) fun e w'=>e=.returned (.int .i64 (hdrAt s name))∧Bl w w'):=by
  refine(indexHdr_any _ s.headers _ (h0.pres (pres_below hb0)) name (w.heap.size+1) (by simpa using Blk.new (w.alloc (.cells #[.slice a0 s.headers.length c0,.slice a1 s.metas.length c1,.slice a2 s.states.length c2,.slice a3 s.actions.length c3,.slice a4 s.tables.length c4,.slice a5 s.control.length c5] 34)) #[.string name] 9)).mono ?_
  rintro e w' ⟨rfl,hb⟩
  exact⟨rfl,hb0.trans (hb.mono hb0.size)⟩
 generalize hdrAt s name=R at*
 clear hs h0 h1 h2 h3 h4 h5 hb0
 go_enter Tryz.func124,Tryz.ntmps124
 go_wp2_with fail
 refine C.out.mono ?_
 rintro e w1 ⟨rfl,hb⟩
 have HB:Hid (Bl w w1):=hb
 clear hb C
 go_wp2
 go_ret
 exact⟨rfl,HB.out⟩
theorem actionAt_any (v:Value)(s:Sch)(name:ByteArray)(w:World)(hs:SchIs w v s):Calls Tryz.prog 125 #[v,.string name] w fun e w'=>e=.returned (.int .i64 (actAt s name))∧Below w.heap.size w w':=by
 obtain⟨a0,c0,a1,c1,a2,c2,a3,c3,a4,c4,a5,c5,rfl,h0,h1,h2,h3,h4,h5⟩:=hs.parts
 have hmf:=mf
 have hb0:Below w.heap.size w ((w.alloc (.cells #[.slice a0 s.headers.length c0,.slice a1 s.metas.length c1,.slice a2 s.states.length c2,.slice a3 s.actions.length c3,.slice a4 s.tables.length c4,.slice a5 s.control.length c5] 34)).alloc (.cells #[.string name] 9)):=((Below.refl _ _).alloc (Nat.le_refl _) _).alloc (by simp) _
 have C:Hid (Cs 192 #[.slice a3 s.actions.length c3,.func (.func 193) #[] #[.pointer (some ⟨w.heap.size+1,0,none⟩)]] ((w.alloc (.cells #[.slice a0 s.headers.length c0,.slice a1 s.metas.length c1,.slice a2 s.states.length c2,.slice a3 s.actions.length c3,.slice a4 s.tables.length c4,.slice a5 s.control.length c5] 34)).alloc (.cells #[.string name] 9)) fun e w'=>e=.returned (.int .i64 (actAt s name))∧Bl w w'):=by
  refine(indexAct_any _ s.actions _ (h3.pres (pres_below hb0)) name (w.heap.size+1) (by simpa using Blk.new (w.alloc (.cells #[.slice a0 s.headers.length c0,.slice a1 s.metas.length c1,.slice a2 s.states.length c2,.slice a3 s.actions.length c3,.slice a4 s.tables.length c4,.slice a5 s.control.length c5] 34)) #[.string name] 9)).mono ?_
  rintro e w' ⟨rfl,hb⟩
  exact⟨rfl,hb0.trans (hb.mono hb0.size)⟩
 generalize actAt s name=R at*
 clear hs h0 h1 h2 h3 h4 h5 hb0
 go_enter Tryz.func125,Tryz.ntmps125
 go_wp2_with fail
 refine C.out.mono ?_
 rintro e w1 ⟨rfl,hb⟩
 have HB:Hid (Bl w w1):=hb
 clear hb C
 go_wp2
 go_ret
 exact⟨rfl,HB.out⟩
theorem tableAt_any (v:Value)(s:Sch)(name:ByteArray)(w:World)(hs:SchIs w v s):Calls Tryz.prog 126 #[v,.string name] w fun e w'=>e=.returned (.int .i64 (tblAt s name))∧Below w.heap.size w w':=by
 obtain⟨a0,c0,a1,c1,a2,c2,a3,c3,a4,c4,a5,c5,rfl,h0,h1,h2,h3,h4,h5⟩:=hs.parts
 have hmf:=mf
 have hb0:Below w.heap.size w ((w.alloc (.cells #[.slice a0 s.headers.length c0,.slice a1 s.metas.length c1,.slice a2 s.states.length c2,.slice a3 s.actions.length c3,.slice a4 s.tables.length c4,.slice a5 s.control.length c5] 34)).alloc (.cells #[.string name] 9)):=((Below.refl _ _).alloc (Nat.le_refl _) _).alloc (by simp) _
 have C:Hid (Cs 194 #[.slice a4 s.tables.length c4,.func (.func 195) #[] #[.pointer (some ⟨w.heap.size+1,0,none⟩)]] ((w.alloc (.cells #[.slice a0 s.headers.length c0,.slice a1 s.metas.length c1,.slice a2 s.states.length c2,.slice a3 s.actions.length c3,.slice a4 s.tables.length c4,.slice a5 s.control.length c5] 34)).alloc (.cells #[.string name] 9)) fun e w'=>e=.returned (.int .i64 (tblAt s name))∧Bl w w'):=by
  refine(indexTbl_any _ s.tables _ (h4.pres (pres_below hb0)) name (w.heap.size+1) (by simpa using Blk.new (w.alloc (.cells #[.slice a0 s.headers.length c0,.slice a1 s.metas.length c1,.slice a2 s.states.length c2,.slice a3 s.actions.length c3,.slice a4 s.tables.length c4,.slice a5 s.control.length c5] 34)) #[.string name] 9)).mono ?_
  rintro e w' ⟨rfl,hb⟩
  exact⟨rfl,hb0.trans (hb.mono hb0.size)⟩
 generalize tblAt s name=R at*
 clear hs h0 h1 h2 h3 h4 h5 hb0
 go_enter Tryz.func126,Tryz.ntmps126
 go_wp2_with fail
 refine C.out.mono ?_
 rintro e w1 ⟨rfl,hb⟩
 have HB:Hid (Bl w w1):=hb
 clear hb C
 go_wp2
 go_ret
 exact⟨rfl,HB.out⟩
def fldsOf (s:Sch)(head:ByteArray):List Fld:=
 if head=⟨#[]⟩ then [] else if head=⟨#[109,101,116,97]⟩ then s.metas else
 match s.headers[(hdrAt s head).toNat]? with
 | some h=>if hdrAt s head<0 then [] else h.fields
 | none=>[]
theorem nil_fld (w:World):FldRow w (.slice none 0 0) []:=⟨⟨none,0,rfl,Nat.le_refl _,.inl rfl⟩,Nat.zero_le _⟩
theorem emp_eq (s:ByteArray):s.toList.isEmpty=decide (s=⟨#[]⟩):=by
 rw[ByteArray.toList_eq]
 obtain⟨⟨l⟩⟩:=s
 cases l<;>simp
theorem lit_eq (s:ByteArray)(l:List UInt8):(s.toList==l)=decide (s=⟨l.toArray⟩):=by
 rw[← txt_eq]
 rw[ByteArray.toList_eq ⟨l.toArray⟩]
theorem hdrAt_cases (s:Sch)(name:ByteArray):(hdrAt s name = -1)∨∃(i:Nat)(h:Hdr),s.headers[i]?=some h∧h.name=name∧hdrAt s name=(i:Int):=by
 rcases idx_cases (fun h:Hdr=>decide (h.name=name)) s.headers 0 with⟨h,_⟩|⟨i,x,_,h2,h3,h4,_⟩
 ·exact .inl h
 ·exact .inr ⟨i,x,h2,by simpa using h3,by unfold hdrAt;rw[h4];simp⟩
theorem fieldsOf_any (v:Value)(s:Sch)(head:ByteArray)(w:World)(hs:SchIs w v s):Calls Tryz.prog 140 #[v,.string head] w fun e w'=>∃ u,e=.returned u∧FldRow w' u (fldsOf s head)∧Below w.heap.size w w':=by
 obtain⟨a0,c0,a1,c1,a2,c2,a3,c3,a4,c4,a5,c5,e,h0,h1,h2,h3,h4,h5⟩:=hs.parts
 have hb0:Below w.heap.size w (w.alloc (.cells #[.slice a0 s.headers.length c0,.slice a1 s.metas.length c1,.slice a2 s.states.length c2,.slice a3 s.actions.length c3,.slice a4 s.tables.length c4,.slice a5 s.control.length c5] 34)):=(Below.refl _ _).alloc (Nat.le_refl _) _
 have HB0:Hid (Bl w (w.alloc (.cells #[.slice a0 s.headers.length c0,.slice a1 s.metas.length c1,.slice a2 s.states.length c2,.slice a3 s.actions.length c3,.slice a4 s.tables.length c4,.slice a5 s.control.length c5] 34))):=hb0
 have t0:=emp_eq head
 have t1:=lit_eq head [109,101,116,97]
 by_cases q0:head=⟨#[]⟩
 ·have E:Hid (fldsOf s head=[]):=by show _=_;unfold fldsOf;rw[if_pos q0]
  rw[decide_eq_true q0] at t0
  generalize fldsOf s head=R at*
  subst e
  clear hs h0 h1 h2 h3 h4 h5 hb0 q0 t1
  go_enter Tryz.func140,Tryz.ntmps140
  go_wp2
  go_ret
  exact⟨_,rfl,by rw[E.out];exact nil_fld _,HB0.out⟩
 ·rw[decide_eq_false q0] at t0
  by_cases q1:head=⟨#[109,101,116,97]⟩
  ·have E:Hid (fldsOf s head=s.metas):=by show _=_;unfold fldsOf;rw[if_neg q0,if_pos q1]
   rw[show(⟨[109,101,116,97].toArray⟩:ByteArray)=⟨#[109,101,116,97]⟩ from rfl,decide_eq_true q1] at t1
   have HM:Hid (FldRow (w.alloc (.cells #[.slice a0 s.headers.length c0,.slice a1 s.metas.length c1,.slice a2 s.states.length c2,.slice a3 s.actions.length c3,.slice a4 s.tables.length c4,.slice a5 s.control.length c5] 34)) (.slice a1 s.metas.length c1) s.metas):=h1.pres (pres_below hb0)
   generalize fldsOf s head=R at*
   subst e
   clear hs h0 h1 h2 h3 h4 h5 hb0 q0 q1
   go_enter Tryz.func140,Tryz.ntmps140
   go_wp2
   go_ret
   exact⟨_,rfl,by rw[E.out];exact HM.out,HB0.out⟩
  ·rw[show(⟨[109,101,116,97].toArray⟩:ByteArray)=⟨#[109,101,116,97]⟩ from rfl,decide_eq_false q1] at t1
   have E0:fldsOf s head=match s.headers[(hdrAt s head).toNat]? with|some h=>if hdrAt s head<0 then [] else h.fields|none=>[]:=by unfold fldsOf;rw[if_neg q0,if_neg q1]
   have C:Hid (Cs 124 #[.agg #[.slice a0 s.headers.length c0,.slice a1 s.metas.length c1,.slice a2 s.states.length c2,.slice a3 s.actions.length c3,.slice a4 s.tables.length c4,.slice a5 s.control.length c5],.string head] (w.alloc (.cells #[.slice a0 s.headers.length c0,.slice a1 s.metas.length c1,.slice a2 s.states.length c2,.slice a3 s.actions.length c3,.slice a4 s.tables.length c4,.slice a5 s.control.length c5] 34)) fun e w'=>e=.returned (.int .i64 (hdrAt s head))∧w'.cell? ⟨w.heap.size,0,none⟩=some (.slice a0 s.headers.length c0)∧Bl w w'):=by
    refine(headerAt_any _ s head _ ((e ▸ hs).pres (pres_below hb0))).mono ?_
    rintro e w' ⟨rfl,hb⟩
    exact⟨rfl,((Blk.new w _ _).below hb).cell 0 rfl,hb0.trans (hb.mono hb0.size)⟩
   have HH:Hid (HdrRow w (.slice a0 s.headers.length c0) s.headers):=h0
   have HL:Hid (s.headers.length*40≤140737488351232):=h0.2
   rcases hdrAt_cases s head with hn|⟨i,x,hx,hxn,hi⟩
   ·have E:Hid (fldsOf s head=[]):=by show _=_;rw[E0,hn];cases s.headers[(-1:Int).toNat]?<;>simp
    rw[hn] at C
    generalize fldsOf s head=R at*
    subst e
    clear hs h0 h1 h2 h3 h4 h5 hb0 q0 q1 E0 hn
    go_enter Tryz.func140,Tryz.ntmps140
    go_wp2_with fail
    refine C.out.mono ?_
    rintro e w1 ⟨rfl,bx,hb⟩
    have HB:Hid (Bl w w1):=hb
    clear hb C
    go_wp2
    go_ret
    exact⟨_,rfl,by rw[E.out];exact nil_fld _,HB.out⟩
   ·have E:Hid (fldsOf s head=x.fields):=by show _=_;rw[E0,hi];simp[hx];intro h;omega
    rw[hi] at C
    generalize fldsOf s head=R at*
    subst e
    clear hs h0 h1 h2 h3 h4 h5 hb0 q0 q1 E0 hi hxn
    have hil:i<s.headers.length:=(List.getElem?_eq_some_iff.1 hx).1
    have hle:s.headers.length*40≤140737488351232:=HL.out
    go_enter Tryz.func140,Tryz.ntmps140
    go_wp2_with fail
    refine C.out.mono ?_
    rintro e w1 ⟨rfl,bx,hb⟩
    have HB:Hid (Bl w w1):=hb
    obtain⟨b,o,d1,k1,rfl,e0,e1,ok,le,hf⟩:=HH.out.get (pres_below hb) hx
    have HF:Hid (FldRow w1 (.slice d1 x.fields.length k1) x.fields):=hf
    clear hb C hx ok le hf
    go_wp2
    go_ret
    exact⟨_,rfl,by rw[E.out];exact HF.out,HB.out⟩
def widW (s:Sch)(r:Rf):Int:=
 match (fldsOf s r.head).find? (fun f=>decide (f.name=r.name)) with
 | some f=>posW f.width
 | none=>0
theorem find_none {α:Type}{p:α→Bool}{xs:List α}(h:∀ x ∈ xs,p x=false):xs.find? p=none:=List.find?_eq_none.2 (fun x hx=>by simp[h x hx])
theorem find_at {α:Type}{p:α→Bool}:∀ {xs:List α}{i:Nat}{x:α},xs[i]?=some x→p x=true→(∀ j y,j<i→xs[j]?=some y→p y=false)→xs.find? p=some x
 | y :: ys,0,x,hx,h,_=>by simp at hx;subst hx;simp[h]
 | y :: ys,i+1,x,hx,h,hn=>by
  have h0:=hn 0 y (by omega) rfl
  rw[List.find?_cons_of_neg (by simp[h0])]
  exact find_at (by simpa using hx) h (fun j z hj hz=>hn (j+1) z (by omega) (by simpa using hz))
theorem width_any (v:Value)(s:Sch)(r:Rf)(w:World)(hs:SchIs w v s):Calls Tryz.prog 61 #[v,.agg #[.string r.head,.string r.name]] w fun e w'=>e=.returned (.int .i64 (widW s r))∧Below w.heap.size w w':=by
 obtain⟨a0,c0,a1,c1,a2,c2,a3,c3,a4,c4,a5,c5,e,h0,h1,h2,h3,h4,h5⟩:=hs.parts
 have hmf:=mf
 have hb0:Below w.heap.size w ((w.alloc (.cells #[.slice a0 s.headers.length c0,.slice a1 s.metas.length c1,.slice a2 s.states.length c2,.slice a3 s.actions.length c3,.slice a4 s.tables.length c4,.slice a5 s.control.length c5] 34)).alloc (.cells #[.string r.head,.string r.name] 42)):=((Below.refl _ _).alloc (Nat.le_refl _) _).alloc (by simp) _
 have C:Hid (Cs 140 #[.agg #[.slice a0 s.headers.length c0,.slice a1 s.metas.length c1,.slice a2 s.states.length c2,.slice a3 s.actions.length c3,.slice a4 s.tables.length c4,.slice a5 s.control.length c5],.string r.head] ((w.alloc (.cells #[.slice a0 s.headers.length c0,.slice a1 s.metas.length c1,.slice a2 s.states.length c2,.slice a3 s.actions.length c3,.slice a4 s.tables.length c4,.slice a5 s.control.length c5] 34)).alloc (.cells #[.string r.head,.string r.name] 42)) fun e w'=>∃ ad cap,e=.returned (.slice ad (fldsOf s r.head).length cap)∧Hid (FldRow w' (.slice ad (fldsOf s r.head).length cap) (fldsOf s r.head)∧Blk w' (w.heap.size+1) #[.string r.head,.string r.name] 42∧Bl w w')):=by
  refine(fieldsOf_any _ s r.head _ ((e ▸ hs).pres (pres_below hb0))).mono ?_
  rintro e w' ⟨u,rfl,hf,hb⟩
  obtain⟨ad,cap,rfl,_⟩:=hf.1.slice
  exact⟨ad,cap,rfl,hf,(by simpa using Blk.new (w.alloc (.cells #[.slice a0 s.headers.length c0,.slice a1 s.metas.length c1,.slice a2 s.states.length c2,.slice a3 s.actions.length c3,.slice a4 s.tables.length c4,.slice a5 s.control.length c5] 34)) #[.string r.head,.string r.name] 42:Blk _ (w.heap.size+1) _ 42).below hb,hb0.trans (hb.mono hb0.size)⟩
 have HW:Hid (widW s r=match (fldsOf s r.head).find? (fun f=>decide (f.name=r.name)) with|some f=>posW f.width|none=>0):=rfl
 generalize widW s r=R at*
 generalize fldsOf s r.head=fs at*
 subst e
 clear hs h0 h1 h2 h3 h4 h5 hb0
 go_enter Tryz.func61,Tryz.ntmps61
 go_wp2_with fail
 refine C.out.mono ?_
 rintro e w1 ⟨ad,cap,rfl,H1⟩
 clear C
 have C2:Hid (Cs 141 #[.slice ad fs.length cap,.func (.func 142) #[] #[.pointer (some ⟨w.heap.size+1,0,none⟩)]] w1 fun e w'=>e=.returned (.int .i64 (idxF (fun h:Fld=>decide (h.name=r.name)) fs 0))∧Hid (Bl w1 w')):=indexFld_any _ fs w1 H1.out.1 r.head r.name (w.heap.size+1) H1.out.2.1
 have hlen:fs.length*24≤140737488351232:=H1.out.1.2
 rcases idx_cases (fun h:Fld=>decide (h.name=r.name)) fs 0 with⟨hi,hn⟩|⟨i,x,hlt,hx,hp,hi,hn⟩
 ·rw[hi] at C2
  have E:Hid (R=0):=by show _=_;rw[HW.out,find_none hn]
  clear hi hn
  go_wp2_with fail
  refine C2.out.mono ?_
  rintro e w2 ⟨rfl,HB2⟩
  go_wp2
  go_ret
  exact⟨by rw[E.out];rfl,bst H1.out.2.2 HB2.out (Nat.le_refl _)⟩
 ·rw[hi,Nat.zero_add] at C2
  have E:Hid (R=posW x.width):=by show _=_;rw[HW.out,find_at hx hp hn]
  obtain⟨b,o,rfl,_⟩:=H1.out.1.get (Pres.refl _) hx
  have HX:Hid (fs[i]?=some x):=hx
  clear hi hn hp hx
  go_wp2_with fail
  refine C2.out.mono ?_
  rintro e w2 ⟨rfl,HB2⟩
  obtain⟨b',o',eo,e0,e1,ok⟩:=H1.out.1.get (pres_below HB2.out) HX.out
  cases eo
  have CP:Hid (∀ w,Cs 143 #[.int .i64 x.width] w fun e w'=>e=.returned (.int .i64 (posW x.width))∧w'=w):=possible_any x.width
  generalize posW x.width=pw at*
  clear ok C2
  go_wp2_with (go_at_call 143;refine(CP.out _).mono ?_;rintro e w' ⟨rfl,rfl⟩)
  go_ret
  exact⟨by rw[E.out];rfl,bst H1.out.2.2 HB2.out (Nat.le_refl _)⟩
def lookF (fs:List Fld)(nm:ByteArray):Option Int:=(fs.find? (fun f=>decide (f.name=nm))).map fun f=>posW f.width
def noteG (head:ByteArray)(fs:List Fld)(g:Rf→Option Int):Rf→Option Int:=fun r=>if r.head=head then(match g r with|some c=>some c|none=>lookF fs r.name) else g r
theorem note_nil (head:ByteArray)(g:Rf→Option Int):noteG head [] g=g:=by
 funext r
 unfold noteG lookF
 split
 ·cases g r<;>rfl
 ·rfl
theorem note_step {head:ByteArray}{fs:List Fld}{k:Nat}{f:Fld}(hf:fs[k]?=some f)(g:Rf→Option Int):
  noteG head (fs.take (k+1)) g=if(noteG head (fs.take k) g ⟨head,f.name⟩).isSome=true then noteG head (fs.take k) g else fun x=>if x=⟨head,f.name⟩ then some (posW f.width) else noteG head (fs.take k) g x:=by
 have hl:∀ nm,lookF (fs.take (k+1)) nm=match lookF (fs.take k) nm with|some c=>some c|none=>if f.name=nm then some (posW f.width) else none:=by
  intro nm
  unfold lookF
  rw[List.take_add_one,hf,List.find?_append]
  cases (fs.take k).find? (fun f=>decide (f.name=nm)) with
  | some y=>simp
  | none=>by_cases e:f.name=nm<;>simp[e]
 funext r
 by_cases h:(noteG head (fs.take k) g ⟨head,f.name⟩).isSome=true
 ·rw[if_pos h]
  unfold noteG at h ⊢
  by_cases hr:r.head=head
  ·rw[if_pos hr,if_pos hr]
   cases hg:g r with
   | some c=>rfl
   | none=>
    simp only[hl]
    cases hk:lookF (fs.take k) r.name with
    | some c=>rfl
    | none=>
     by_cases e:f.name=r.name
     ·have:(⟨head,f.name⟩:Rf)=r:=by rw[← hr,e]
      rw[this] at h
      simp[hr,hg,hk] at h
     ·simp[e]
  ·rw[if_neg hr,if_neg hr]
 ·rw[if_neg h]
  unfold noteG at h ⊢
  by_cases hr:r.head=head
  ·rw[if_pos hr,if_pos hr]
   by_cases e:f.name=r.name
   ·have hrr:(⟨head,f.name⟩:Rf)=r:=by rw[← hr,e]
    rw[hrr] at h ⊢
    simp only[hr,if_true] at h ⊢
    cases hg:g r with
    | some c=>simp[hg] at h
    | none=>
     cases hk:lookF (fs.take k) r.name with
     | some c=>simp[hg,hk] at h
     | none=>simp[hl,hk,e]
   ·have hrr:¬ r=(⟨head,f.name⟩:Rf):=fun x=>e (by rw[x])
    rw[if_neg hrr]
    cases hg:g r with
    | some c=>rfl
    | none=>
     simp only[hl]
     cases hk:lookF (fs.take k) r.name with
     | some c=>rfl
     | none=>simp[e]
  ·have hrr:¬ r=(⟨head,f.name⟩:Rf):=fun x=>hr (by rw[x])
   rw[if_neg hr,if_neg hr,if_neg hrr]
theorem note_any (head:ByteArray)(hh:Okt head)(v:Value)(fs:List Fld)(w:World)(hr:FldRow w v fs)(pb mb m:Nat)(g:Rf→Option Int)(hp:Blk w pb #[.map (some mb)] 107)(hm:MapR w mb m g):
  Calls Tryz.prog 149 #[.string head,v,.pointer (some ⟨pb,0,none⟩)] w fun e w'=>e=.returned (.tuple #[])∧Kept (fun k=>k=mb) w w'∧∃ m',MapR w' mb m' (noteG head fs g):=by
 obtain⟨ad,cap,rfl,_⟩:=hr.1.slice
 have hlen:fs.length*24≤140737488351232:=hr.2
 have HR:Hid (FldRow w (.slice ad fs.length cap) fs):=hr
 have HP:Hid (Blk w pb #[.map (some mb)] 107):=hp
 have HM:Hid (MapR w mb m (noteG head (fs.take 0) g)):=by show MapR _ _ _ _;rw[List.take_zero,note_nil];exact hm
 have hpm:pb≠mb:=by
  intro e
  subst e
  obtain⟨f,⟨es,clock,h1,_⟩,_⟩:=hm
  unfold Blk at hp
  rw[h1] at hp
  cases hp
 have hmlt:=hm.lt
 clear hr hp hm
 obtain⟨n,hn⟩:∃ n,n=fs.length:=⟨_,rfl⟩
 have HL:Hid (n=fs.length):=hn
 rw[← hn] at hlen HR ⊢
 clear hn
 go_enter Tryz.func149,Tryz.ntmps149
 go_wp2_with fail
 go_loopw [12] (fun i wr=>∃(k:Nat) (m:Nat),k≤n∧i=.int .i64 k∧Kept (fun k=>k=mb) w wr∧MapR wr mb m (noteG head (fs.take k) g)) (fun i _=>n - (intOf i).toNat)
 case atStart=>exact⟨0,m,by omega,rfl,Kept.refl _ _,HM.out⟩
 case round=>
  obtain⟨k,m1,hk,rfl,hkr,hm⟩:=hrel
  by_cases hlt:k<n
  ·obtain⟨y,hy⟩:=gE HL.out hlt
   obtain⟨b,o,cs,rfl,_,hcc,rfl,hok⟩:=HR.out.1.at hy
   have hbm:b≠mb:=fun e=>by
    subst e
    have:=hkr
    obtain⟨f,⟨es,clock,h1,_⟩,_⟩:=HM.out
    have h2:=hcc 0 (.string y.name) rfl
    simp[World.cell?,h1] at h2
   have q0:wr.cell? ⟨b,o+k*2,none⟩=some (.string y.name):=by have:=hkr.cell (hcc 0 (.string y.name) rfl) hbm;simpa using this
   have q1:wr.cell? ⟨b,o+k*2+1,none⟩=some (.int .i64 y.width):=by have:=hkr.cell (hcc 1 (.int .i64 y.width) rfl) hbm;simpa using this
   have HM1:Hid (MapR wr mb m1 (noteG head (fs.take k) g)):=hm
   have HK:Hid (Kept (fun k=>k=mb) w wr):=hkr
   have HPr:Hid (Blk wr pb #[.map (some mb)] 107):=HP.out.kept hkr hpm
   have hsz:=hkr.size
   have hpl:=HPr.out.lt
   have hml:=hm.lt
   clear hkr hcc hm
   go_upto_region 4 with fail
   have HA:Hid (Bl wr ((wr.alloc (.cells #[.string y.name,.int .i64 y.width] 82)).alloc (.cells #[.string head,.string y.name] 42))):=((Below.refl _ _).alloc (Nat.le_refl _) _).alloc (by simp) _
   have HX:Hid (Blk ((wr.alloc (.cells #[.string y.name,.int .i64 y.width] 82)).alloc (.cells #[.string head,.string y.name] 42)) wr.heap.size #[.string y.name,.int .i64 y.width] 82):=(Blk.new wr _ 82).below ((Below.refl _ _).alloc (Nat.le_refl _) _)
   have HY:Hid (Blk ((wr.alloc (.cells #[.string y.name,.int .i64 y.width] 82)).alloc (.cells #[.string head,.string y.name] 42)) (wr.heap.size+1) #[.string head,.string y.name] 42):=by
    have:=Blk.new (wr.alloc (.cells #[.string y.name,.int .i64 y.width] 82)) #[.string head,.string y.name] 42
    show Blk _ _ _ _
    simpa using this
   generalize ((wr.alloc _).alloc _)=W at HA HX HY ⊢
   obtain⟨xb,hxb⟩:∃ xb,xb=wr.heap.size:=⟨_,rfl⟩
   rw[← hxb] at HX HY hsz hpl hml ⊢
   have HKW:Hid (Kept (fun k=>k=mb) w W):=HK.out.trans (Kept.of_below HA.out)
   have p0:=(HPr.out.below HA.out).cell 0 (v:=.map (some mb)) rfl
   have x1:=HX.out.cell 1 (v:=.int .i64 y.width) rfl
   have y0:=HY.out.cell 0 (v:=.string head) rfl
   have y1:=HY.out.cell 1 (v:=.string y.name) rfl
   have HMW:Hid (MapR W mb m1 (noteG head (fs.take k) g)):=HM1.out.below HA.out
   have L:=HMW.out.look ⟨head,y.name⟩ hh hok.1
   obtain⟨W2,hput,hM2,hgr⟩:=MapR.put (w:=W.drew) (HMW.out:MapR W.drew mb m1 _) (r:=⟨head,y.name⟩) (c:=posW y.width) hh hok.1
   have HN:Hid (noteG head (fs.take (k+1)) g=if(noteG head (fs.take k) g ⟨head,y.name⟩).isSome=true then noteG head (fs.take k) g else fun x=>if x=⟨head,y.name⟩ then some (posW y.width) else noteG head (fs.take k) g x):=note_step hy g
   have HM2:Hid (MapR W2 mb (if(noteG head (fs.take k) g ⟨head,y.name⟩).isSome=true then m1 else m1+1) (fun x=>if x=⟨head,y.name⟩ then some (posW y.width) else noteG head (fs.take k) g x)):=hM2
   have HK2:Hid (Kept (fun k=>k=mb) w W2):=HKW.out.drew.trans ⟨hgr.os,hgr.tape,hgr.output,hgr.size,fun k hk hs=>hgr.block k hk (fun e=>hs (Option.some.inj e))⟩
   have CP:Hid (∀ w,Cs 143 #[.int .i64 y.width] w fun e w'=>e=.returned (.int .i64 (posW y.width))∧w'=w):=possible_any y.width
   generalize posW y.width=pw at*
   generalize hgk:noteG head (fs.take k) g=gk at*
   simp only at L hput
   generalize hgl:gk ⟨head,y.name⟩=gl at*
   clear hM2 hgr hgk hgl HM1 HK HPr HA HX HY q0 q1 hxb HM HP hpm
   cases gl with
   | some c=>
    simp only[Option.getD_some,Option.isSome_some] at L
    have HE:Hid (noteG head (fs.take (k+1)) g=gk):=by show _=_;rw[HN.out];rfl
    clear HN HM2 HK2 hput
    go_wp2
    exact⟨⟨k+1,m1,by omega,by go_num,HKW.out,by rw[HE.out];exact HMW.out⟩,by simp only[intOf];omega⟩
   | none=>
    simp only[Option.getD_none,Option.isSome_none] at L
    have HE:Hid (noteG head (fs.take (k+1)) g=fun x=>if x=⟨head,y.name⟩ then some pw else gk x):=by show _=_;rw[HN.out];rfl
    clear HN
    go_wp2_with fail
    go_region_with (go_at_call 143;refine(CP.out _).mono ?_;rintro e w2 ⟨rfl,hw2⟩;obtain rfl:=Eq.symm hw2)
    all_goals
     go_wp2
     exact⟨⟨k+1,_,by omega,by go_num,HK2.out,by rw[HE.out];exact HM2.out⟩,by simp only[intOf];omega⟩
  ·have e:k=n:=by omega
   subst e
   have HE:Hid (Kept (fun k=>k=mb) w wr∧MapR wr mb m1 (noteG head fs g)):=by
    have:=hm
    rw[List.take_of_length_le (by rw[← HL.out];exact Nat.le_refl _)] at this
    exact⟨hkr,this⟩
   clear hkr hm
   go_wp2
   first|go_end0|refine bodyPost_ret (results_none rfl _ _ _) rfl ?_
   exact⟨rfl,HE.out.1,_,HE.out.2⟩
end Go.Proofs.YtmbpclknhkbbkaaGreat
