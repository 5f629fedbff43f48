/- Package schema's checker: checkTables. -/
import Derived.Test.YtmbpclknhkbbkaaGreatB07
import Derived.Test.YtmbpclknhkbbkaaGreatB15
set_option linter.unusedSimpArgs false
set_option linter.unusedVariables false
set_option maxHeartbeats 4000000
set_option maxRecDepth 100000
namespace Go.Proofs.YtmbpclknhkbbkaaGreat
open Go.RowKit
def tWord:ByteArray:=⟨#[116,97,98,108,101,32]⟩
def tblsE (W:Rf→Int)(hA:ByteArray→Bool)(cE:ByteArray→Cl→Int):List Tbl→List ByteArray→Option (Int × ByteArray)
 |[],_=>none
 | t :: l,seen=>if newE t.name seen≠0 then some (newE t.name seen,tWord++t.name)
  else if keysE W t.keys≠0 then some (keysE W t.keys,tWord++t.name)
  else if canE hA t.actions≠0 then some (canE hA t.actions,tWord++t.name)
  else if ¬(1≤t.size∧t.size≤4096) then some (74,tWord++t.name)
  else if cE t.name t.dflt≠0 then some (cE t.name t.dflt,tWord++t.name)
  else tblsE W hA cE l (t.name :: seen)
theorem tbls_step {W:Rf→Int}{hA:ByteArray→Bool}{cE:ByteArray→Cl→Int}{l:List Tbl}{i:Nat}{t:Tbl}(hk:l[i]?=some t)(seen:List ByteArray):tblsE W hA cE (l.drop i) seen=if newE t.name seen≠0 then some (newE t.name seen,tWord++t.name)
  else if keysE W t.keys≠0 then some (keysE W t.keys,tWord++t.name)
  else if canE hA t.actions≠0 then some (canE hA t.actions,tWord++t.name)
  else if ¬(1≤t.size∧t.size≤4096) then some (74,tWord++t.name)
  else if cE t.name t.dflt≠0 then some (cE t.name t.dflt,tWord++t.name)
  else tblsE W hA cE (l.drop (i+1)) (t.name :: seen):=by
 obtain⟨h',e⟩:=List.getElem?_eq_some_iff.1 hk
 rw[List.drop_eq_getElem_cons h',e,tblsE]
def tablesE (W:Rf→Int)(hA:ByteArray→Bool)(s:Sch):Option (Int × ByteArray):=if 32<s.tables.length then some (74,⟨#[116,97,98,108,101]⟩) else tblsE W hA (callE s) s.tables []
theorem checkTables_any (w0 w:World)(cb ab wb m:Nat)(g:Rf→Option Int)(ans:List ByteArray)(v0 v1 v2 v3 v v5 hd tb:Value)(th:ByteArray)(s:Sch)(hs:SchIs w0 (.agg #[v0,v1,v2,v3,v,v5]) s)(hw:Below w0.heap.size w0 w)(hcb:w0.heap.size≤cb)
  (hB:Blk w cb (ChkC v0 v1 v2 v3 v v5 th (.map (some wb)) hd (.map (some ab)) tb) 110) (hH:SetT w ab ans) (hW:MapR w wb m g):
  Calls Tryz.prog 69 #[.pointer (some ⟨cb,0,none⟩)] w fun e w'=>Kept (fun k=>k=cb) w w'∧Fnd (tablesE (fun r=>(g r).getD 0) (hasT ans) s) e∧
   (e=.returned (.tuple #[])→∃ b th',w.heap.size≤b∧Blk w' cb (ChkC v0 v1 v2 v3 v v5 th' (.map (some wb)) hd (.map (some ab)) (.map (some b))) 110∧SetT w' b (s.tables.map (·.name)).reverse):=by
 have HS:Hid (SchIs w0 (.agg #[v0,v1,v2,v3,v,v5]) s):=hs
 obtain⟨z0,z1,z2,z3,z4,z5,ez,h0,h1,h2,h3,hr,h5⟩:=hs
 simp only[Value.agg.injEq,Array.mk.injEq,List.cons.injEq,and_true] at ez
 obtain⟨rfl,rfl,rfl,rfl,rfl,rfl⟩:=ez
 obtain⟨i0,j0,rfl,_⟩:=h0.1.slice
 obtain⟨i1,j1,rfl,_⟩:=h1.1.slice
 obtain⟨i2,j2,rfl,_⟩:=h2.1.slice
 obtain⟨i3,j3,rfl,_⟩:=h3.1.slice
 obtain⟨i5,j5,rfl,_⟩:=h5.slice
 obtain⟨ad,cap,rfl,_⟩:=hr.1.slice
 clear h0 h1 h2 h3 h5
 generalize (Value.slice i0 s.headers.length j0)=v0 at*
 generalize (Value.slice i1 s.metas.length j1)=v1 at*
 generalize (Value.slice i2 s.states.length j2)=v2 at*
 generalize (Value.slice i3 s.actions.length j3)=v3 at*
 generalize (Value.slice i5 s.control.length j5)=v5 at*
 have hlen:s.tables.length*120≤140737488351232:=hr.2
 have HR:Hid (TblRow w0 (.slice ad s.tables.length cap) s.tables):=hr
 have HW0:Hid (Bl w0 w):=hw
 have c6:=hB.cell 6 (v:=.string th) rfl
 have f6:=hB.frozen 6
 have hab:ab≠cb:=mapBlk hH hB
 have hwb:wb≠cb:=mapBlkR hW hB
 have HRR:Hid (tablesE (fun r=>(g r).getD 0) (hasT ans) s=if 32<s.tables.length then some (74,⟨#[116,97,98,108,101]⟩) else tblsE (fun r=>(g r).getD 0) (hasT ans) (callE s) s.tables []):=rfl
 generalize tablesE (fun r=>(g r).getD 0) (hasT ans) s=R at*
 generalize hxs:s.tables=xs at*
 clear hxs
 obtain⟨n,hn⟩:∃ n,n=xs.length:=⟨_,rfl⟩
 have HN:Hid (n=xs.length):=hn
 rw[← hn] at HR hlen HRR hB HS ⊢
 clear hn hr hw
 have HQ1:Hid (Blk (w.setCell ⟨cb,6,none⟩ (.string ⟨#[116,97,98,108,101]⟩)) cb (ChkC v0 v1 v2 v3 (.slice ad n cap) v5 ⟨#[116,97,98,108,101]⟩ (.map (some wb)) hd (.map (some ab)) tb) 110):=hB.set 6 (.string ⟨#[116,97,98,108,101]⟩)
 have HK1:Hid (Kept (fun k=>k=cb) w (w.setCell ⟨cb,6,none⟩ (.string ⟨#[116,97,98,108,101]⟩))):=Kept.set (S:=fun k=>k=cb) (Kept.refl _ _) rfl _
 have HH1:Hid (SetT (w.setCell ⟨cb,6,none⟩ (.string ⟨#[116,97,98,108,101]⟩)) ab ans):=hH.kept HK1.out hab
 have HM1:Hid (MapR (w.setCell ⟨cb,6,none⟩ (.string ⟨#[116,97,98,108,101]⟩)) wb m g):=hW.kept HK1.out hwb
 have hcl:=hB.lt
 clear hB hH hW
 have hmm:=@run_makeMap Tryz.prog
 go_enter Tryz.func69,Tryz.ntmps69
 go_upto_region 1 with fail
 generalize (w.setCell ⟨cb,6,none⟩ (.string ⟨#[116,97,98,108,101]⟩))=W1 at HQ1 HK1 HH1 HM1 ⊢
 have d4:=HQ1.out.cell 4 (v:=.slice ad n cap) rfl
 have CN:Hid (∀ b r,Cs 145 #[.pointer (some ⟨cb,0,none⟩),.bool b,.int .i64 r] W1 fun e w'=>w'=W1∧((b=true∧e=.returned (.tuple #[]))∨(b=false∧e=.panicked [pf r ⟨#[116,97,98,108,101]⟩]))):=need_two (HQ1.out.cell 6 rfl)
 go_wp2_with fail
 refine(CN.out _ _).mono ?_
 rintro e w2 ⟨hw2,hh⟩
 obtain rfl:=Eq.symm hw2
 rcases hh with⟨hq,rfl⟩|⟨hq,rfl⟩
 case inr=>
  have HE:Hid (R=some (74,⟨#[116,97,98,108,101]⟩)):=by show _=_;rw[HRR.out,if_pos (by simp at hq;omega)]
  clear hq
  go_wp2
  exact⟨rfl,HK1.out,.inr ⟨_,_,HE.out,rfl⟩,fun h=>by cases h⟩
 case inl=>
  have hn32:n≤32:=by simp at hq;omega
  have H0:Hid (tblsE (fun r=>(g r).getD 0) (hasT ans) (callE s) (xs.drop 0) []=R):=by show _=_;rw[HRR.out,if_neg (by omega)];rfl
  clear hq HRR CN c6 f6
  have d10:=(HQ1.out.below ((Below.refl _ _).alloc (Nat.le_refl _) (.map #[] 0))).cell 10 (v:=tb) rfl
  have f10:=(HQ1.out.below ((Below.refl _ _).alloc (Nat.le_refl _) (.map #[] 0))).frozen 10
  have hlt:=HQ1.out.lt
  go_upto_region 3 with fail
  have HQ2:Hid (Blk ((W1.setCell ⟨cb,10,none⟩ (.map (some W1.heap.size))).alloc (.map #[] 0)) cb (ChkC v0 v1 v2 v3 (.slice ad n cap) v5 ⟨#[116,97,98,108,101]⟩ (.map (some wb)) hd (.map (some ab)) (.map (some W1.heap.size))) 110):=Blk.below (HQ1.out.set 10 (.map (some W1.heap.size))) ((Below.refl _ _).alloc (Nat.le_refl _) _)
  have HS2:Hid (SetT ((W1.setCell ⟨cb,10,none⟩ (.map (some W1.heap.size))).alloc (.map #[] 0)) W1.heap.size []):=by
   have:=SetT.new (W1.setCell ⟨cb,10,none⟩ (.map (some W1.heap.size)))
   rw[size_set] at this
   exact this
  have HKz:Hid (Kept (fun k=>k=cb) W1 ((W1.setCell ⟨cb,10,none⟩ (.map (some W1.heap.size))).alloc (.map #[] 0))):=Kept.alloc (Kept.set (S:=fun k=>k=cb) (Kept.refl _ _) rfl _) _
  have hw1:=HK1.out.size
  have hhl:=HH1.out.lt
  have hml:=HM1.out.lt
  obtain⟨mb,hmb⟩:∃ mb,mb=W1.heap.size:=⟨_,rfl⟩
  rw[← hmb] at HQ2 HS2 HKz hlt hw1 hhl hml ⊢
  generalize ((W1.setCell ⟨cb,10,none⟩ (.map (some mb))).alloc (.map #[] 0))=W2 at HQ2 HS2 HKz ⊢
  have HK2:Hid (Kept (fun k=>k=cb) w W2):=HK1.out.trans HKz.out
  have HH2:Hid (SetT W2 ab ans):=HH1.out.kept HKz.out hab
  have HM2:Hid (MapR W2 wb m g):=HM1.out.kept HKz.out hwb
  clear HQ1 HK1 HH1 HM1 HKz d4 d10 f10 hmb hmm
  have d4:=HQ2.out.cell 4 (v:=.slice ad n cap) rfl
  go_wp2_with fail
  go_loopw [27] (fun i wr=>∃(k:Nat) (seen:List ByteArray) (th':ByteArray),k≤n∧seen=((xs.take k).map (·.name)).reverse∧i=.int .i64 k∧Kept (fun k=>k=cb) w wr∧SetT wr mb seen∧Blk wr cb (ChkC v0 v1 v2 v3 (.slice ad n cap) v5 th' (.map (some wb)) hd (.map (some ab)) (.map (some mb))) 110∧SetT wr ab ans∧MapR wr wb m g∧tblsE (fun r=>(g r).getD 0) (hasT ans) (callE s) (xs.drop k) seen=R) (fun i _=>n - (intOf i).toNat)
  case atStart=>exact⟨0,[],_,by omega,rfl,rfl,HK2.out,HS2.out,HQ2.out,HH2.out,HM2.out,H0.out⟩
  case round=>
   obtain⟨k,seen,th',hk,hsl,rfl,hkr,hset,hblk,hhd,hmr,hdd⟩:=hrel
   have HK:Hid (Kept (fun k=>k=cb) w wr):=hkr
   have HSt:Hid (SetT wr mb seen):=hset
   have HH:Hid (SetT wr ab ans):=hhd
   have HM:Hid (MapR wr wb m g):=hmr
   have HD:Hid (tblsE (fun r=>(g r).getD 0) (hasT ans) (callE s) (xs.drop k) seen=R):=hdd
   have HBw0:Hid (Bl w0 wr):=HW0.out.trans (hkr.below HW0.out.size (fun k e=>by omega))
   have hmw:mb<wr.heap.size:=hset.lt
   have hsw:=hkr.size
   clear hkr hset hhd hmr hdd
   by_cases hlt2:k<n
   ·obtain⟨t,hy⟩:=gE HN.out hlt2
    obtain⟨b,o,cs,rfl,_,hcc,vk,va,vd,rfl,hok,hkr,har,hdr⟩:=HR.out.1.at hy
    obtain⟨ka,kc,rfl,_⟩:=hkr.1.slice
    obtain⟨ta,tc,rfl,_⟩:=har.1.slice
    obtain⟨da,dc,rfl,_⟩:=hdr.1.slice
    have q0:wr.cell? ⟨b,o+k*7,none⟩=some (.string t.name):=by have:=pres_below HBw0.out _ _ (hcc 0 _ rfl);simpa using this
    have q1:wr.cell? ⟨b,o+k*7+1,none⟩=some (.slice ka t.keys.length kc):=by have:=pres_below HBw0.out _ _ (hcc 1 _ rfl);simpa using this
    have q2:wr.cell? ⟨b,o+k*7+2,none⟩=some (.slice ta t.actions.length tc):=by have:=pres_below HBw0.out _ _ (hcc 2 _ rfl);simpa using this
    have q3:wr.cell? ⟨b,o+k*7+3,none⟩=some (.int .i64 t.size):=by have:=pres_below HBw0.out _ _ (hcc 3 _ rfl);simpa using this
    have q4:wr.cell? ⟨b,o+k*7+4,none⟩=some (.string t.dflt.action):=by have:=pres_below HBw0.out _ _ (hcc 4 _ rfl);simpa using this
    have q5:wr.cell? ⟨b,o+k*7+5,none⟩=some (.slice da t.dflt.args.length dc):=by have:=pres_below HBw0.out _ _ (hcc 5 _ rfl);simpa using this
    have q6:wr.cell? ⟨b,o+k*7+6,none⟩=some (.bool t.fixed):=by have:=pres_below HBw0.out _ _ (hcc 6 _ rfl);simpa using this
    have HQ:Hid (Blk wr cb (ChkC v0 v1 v2 v3 (.slice (some ⟨b,o,none⟩) n cap) v5 th' (.map (some wb)) hd (.map (some ab)) (.map (some mb))) 110):=hblk
    have e6:=HQ.out.cell 6 (v:=.string th') rfl
    have g6:=HQ.out.frozen 6
    have hcl2:=HQ.out.lt
    have hnm:t.name.size≤140737488351232:=hok.1
    have HTI:Hid (TblIs w0 #[.string t.name,.slice ka t.keys.length kc,.slice ta t.actions.length tc,.int .i64 t.size,.string t.dflt.action,.slice da t.dflt.args.length dc,.bool t.fixed] t):=⟨_,_,_,rfl,hok,hkr,har,hdr⟩
    have HAR:Hid (TxtRow w0 (.slice ta t.actions.length tc) t.actions):=har
    have HCI:Hid (ClIs w0 (.agg #[.string t.dflt.action,.slice da t.dflt.args.length dc]) t.dflt):=⟨_,rfl,hok.2.2,hdr⟩
    have HD1:Hid ((if newE t.name seen≠0 then some (newE t.name seen,tWord++t.name) else if keysE (fun r=>(g r).getD 0) t.keys≠0 then some (keysE (fun r=>(g r).getD 0) t.keys,tWord++t.name) else if canE (hasT ans) t.actions≠0 then some (canE (hasT ans) t.actions,tWord++t.name) else if ¬(1≤t.size∧t.size≤4096) then some (74,tWord++t.name) else if callE s t.name t.dflt≠0 then some (callE s t.name t.dflt,tWord++t.name) else tblsE (fun r=>(g r).getD 0) (hasT ans) (callE s) (xs.drop (k+1)) (t.name :: seen))=R):=by show _=_;rw[← HD.out,tbls_step hy]
    clear hcc hblk hkr har hdr HD d4 HQ2 HK2 HS2 HH2 HM2
    go_upto_region 7 with fail
    have HKz:Hid (Kept (fun k=>k=cb) wr ((wr.setCell ⟨cb,6,none⟩ (.string (⟨#[116,97,98,108,101,32]⟩++t.name))).alloc (.cells #[.string t.name,.slice ka t.keys.length kc,.slice ta t.actions.length tc,.int .i64 t.size,.string t.dflt.action,.slice da t.dflt.args.length dc,.bool t.fixed] 51))):=Kept.alloc (Kept.set (S:=fun k=>k=cb) (Kept.refl _ _) rfl _) _
    have HQ1:Hid (Blk ((wr.setCell ⟨cb,6,none⟩ (.string (⟨#[116,97,98,108,101,32]⟩++t.name))).alloc (.cells #[.string t.name,.slice ka t.keys.length kc,.slice ta t.actions.length tc,.int .i64 t.size,.string t.dflt.action,.slice da t.dflt.args.length dc,.bool t.fixed] 51)) cb (ChkC v0 v1 v2 v3 (.slice (some ⟨b,o,none⟩) n cap) v5 (tWord++t.name) (.map (some wb)) hd (.map (some ab)) (.map (some mb))) 110):=Blk.below (HQ.out.set 6 (.string (tWord++t.name))) ((Below.refl _ _).alloc (Nat.le_refl _) _)
    have HX1:Hid (Blk ((wr.setCell ⟨cb,6,none⟩ (.string (⟨#[116,97,98,108,101,32]⟩++t.name))).alloc (.cells #[.string t.name,.slice ka t.keys.length kc,.slice ta t.actions.length tc,.int .i64 t.size,.string t.dflt.action,.slice da t.dflt.args.length dc,.bool t.fixed] 51)) wr.heap.size #[.string t.name,.slice ka t.keys.length kc,.slice ta t.actions.length tc,.int .i64 t.size,.string t.dflt.action,.slice da t.dflt.args.length dc,.bool t.fixed] 51):=by
     have:=Blk.new (wr.setCell ⟨cb,6,none⟩ (.string (⟨#[116,97,98,108,101,32]⟩++t.name))) #[.string t.name,.slice ka t.keys.length kc,.slice ta t.actions.length tc,.int .i64 t.size,.string t.dflt.action,.slice da t.dflt.args.length dc,.bool t.fixed] 51
     rw[size_set] at this
     exact this
    generalize ((wr.setCell ⟨cb,6,none⟩ (.string (⟨#[116,97,98,108,101,32]⟩++t.name))).alloc (.cells #[.string t.name,.slice ka t.keys.length kc,.slice ta t.actions.length tc,.int .i64 t.size,.string t.dflt.action,.slice da t.dflt.args.length dc,.bool t.fixed] 51))=W at HKz HQ1 HX1 ⊢
    have HK1:Hid (Kept (fun k=>k=cb) w W):=HK.out.trans HKz.out
    have HS1:Hid (SetT W mb seen):=HSt.out.kept HKz.out (by show ¬ _=_;omega)
    have HH1:Hid (SetT W ab ans):=HH.out.kept HKz.out hab
    have HM1:Hid (MapR W wb m g):=HM.out.kept HKz.out hwb
    obtain⟨xb,hxb⟩:∃ xb,xb=wr.heap.size:=⟨_,rfl⟩
    rw[← hxb] at HX1 hmw hsw ⊢
    clear hxb q0 q1 q2 q3 q4 q5 q6 e6 g6 HKz HK HSt HH HM HQ HBw0
    have r0:=HX1.out.cell 0 (v:=.string t.name) rfl
    have r10:=HQ1.out.cell 10 (v:=.map (some mb)) rfl
    have CNN:Hid (∀ k,Cs 146 #[.pointer (some ⟨cb,0,none⟩),.string t.name,.map (some mb)] (W.drewN k) fun e w'=>Kept (fun k=>k=mb) (W.drewN k) w'∧Res (newE t.name seen) (tWord++t.name) e∧(newE t.name seen=0→SetT w' mb (t.name :: seen))):=fun k=>needNew_any (w:=W.drewN k) HS1.out t.name hok.1 _ (HQ1.out.cell 6 rfl)
    refine region_last_lit (by kernel_rfl) (by kernel_rfl) (by kernel_rfl) rfl ?_
    simp only[swapLast,stand]
    repeat (go_big_quiet_step (fail))
    refine wpQuiet_nil ?_
    intro wq hwq
    obtain⟨kq,hwq⟩:=hwq
    subst hwq
    unfold Oper.wp
    go_simp
    refine(CNN.out kq).mono ?_
    rintro e W3 ⟨hk3,hres,hset⟩
    have HK3:Hid (Kept (fun k=>k=cb) w W3):=Kept.new (HK1.out.drewN kq) hk3 (by omega)
    have HQ3:Hid (Blk W3 cb (ChkC v0 v1 v2 v3 (.slice (some ⟨b,o,none⟩) n cap) v5 (tWord++t.name) (.map (some wb)) hd (.map (some ab)) (.map (some mb))) 110):=Blk.kept (w:=W.drewN kq) HQ1.out hk3 (by show ¬ _=_;omega)
    have HX3:Hid (Blk W3 xb #[.string t.name,.slice ka t.keys.length kc,.slice ta t.actions.length tc,.int .i64 t.size,.string t.dflt.action,.slice da t.dflt.args.length dc,.bool t.fixed] 51):=Blk.kept (w:=W.drewN kq) HX1.out hk3 (by show ¬ _=_;omega)
    have HH3:Hid (SetT W3 ab ans):=SetT.kept (w:=W.drewN kq) HH1.out hk3 (by show ¬ _=_;omega)
    have HM3:Hid (MapR W3 wb m g):=MapR.kept (w:=W.drewN kq) HM1.out hk3 (by show ¬ _=_;omega)
    have HBw3:Hid (Bl w0 W3):=HW0.out.trans (HK3.out.below HW0.out.size (fun k e=>by omega))
    have HST:Hid (newE t.name seen=0→SetT W3 mb (t.name :: seen)):=hset
    clear hk3 hset CNN HK1 HQ1 HX1 HH1 HM1 HS1 r0 r10
    rcases hres with⟨hE,rfl⟩|⟨hE,rfl⟩
    case inr=>
     have HE:Hid (R=some (newE t.name seen,tWord++t.name)):=by
      show _=_
      have h:=HD1.out
      rw[if_pos hE] at h
      exact h.symm
     clear hE
     exact⟨rfl,HK3.out,.inr ⟨_,_,HE.out,rfl⟩,fun h=>by cases h⟩
    case inl=>
     have HS3:Hid (SetT W3 mb (t.name :: seen)):=HST.out hE
     have HD2:Hid ((if keysE (fun r=>(g r).getD 0) t.keys≠0 then some (keysE (fun r=>(g r).getD 0) t.keys,tWord++t.name) else if canE (hasT ans) t.actions≠0 then some (canE (hasT ans) t.actions,tWord++t.name) else if ¬(1≤t.size∧t.size≤4096) then some (74,tWord++t.name) else if callE s t.name t.dflt≠0 then some (callE s t.name t.dflt,tWord++t.name) else tblsE (fun r=>(g r).getD 0) (hasT ans) (callE s) (xs.drop (k+1)) (t.name :: seen))=R):=by
      show _=_
      have h:=HD1.out
      rw[if_neg (by simpa using hE)] at h
      exact h
     clear hE HST HD1
     obtain⟨x0,x1,x2,x3,x4,x5,x6⟩:=HX3.out.c7
     have CK:Hid (Cs 153 #[.pointer (some ⟨cb,0,none⟩),.agg #[.string t.name,.slice ka t.keys.length kc,.slice ta t.actions.length tc,.int .i64 t.size,.string t.dflt.action,.slice da t.dflt.args.length dc,.bool t.fixed]] W3 fun e w'=>Bl W3 w'∧Res (keysE (fun r=>(g r).getD 0) t.keys) (tWord++t.name) e):=checkKeys_any W3 cb wb m g _ _ _ _ _ _ _ _ _ _ t _ (HTI.out.pres (pres_below HBw3.out)) HQ3.out HM3.out
     generalize keysE (fun r=>(g r).getD 0) t.keys=kE at*
     go_wp2_with fail
     refine CK.out.mono ?_
     rintro e W4 ⟨hb4,hres⟩
     have HK4:Hid (Kept (fun k=>k=cb) w W4):=HK3.out.trans (Kept.of_below hb4)
     have HQ4:=hblk HQ3 hb4
     have HX4:=hblk HX3 hb4
     have HH4:Hid (SetT W4 ab ans):=HH3.out.below hb4
     have HM4:Hid (MapR W4 wb m g):=HM3.out.below hb4
     have HS4:Hid (SetT W4 mb (t.name :: seen)):=HS3.out.below hb4
     have HBw4:Hid (Bl w0 W4):=HBw3.out.trans (hb4.mono HBw3.out.size)
     clear hb4 CK x0 x1 x2 x3 x4 x5 x6 HK3 HQ3 HX3 HH3 HM3 HS3 HBw3
     rcases hres with⟨hE,rfl⟩|⟨hE,rfl⟩
     case inr=>
      have HE:Hid (R=some (kE,tWord++t.name)):=by
       show _=_
       have h:=HD2.out
       rw[if_pos hE] at h
       exact h.symm
      clear hE
      go_wp2
      exact⟨rfl,HK4.out,.inr ⟨_,_,HE.out,rfl⟩,fun h=>by cases h⟩
     case inl=>
      have HD3:Hid ((if canE (hasT ans) t.actions≠0 then some (canE (hasT ans) t.actions,tWord++t.name) else if ¬(1≤t.size∧t.size≤4096) then some (74,tWord++t.name) else if callE s t.name t.dflt≠0 then some (callE s t.name t.dflt,tWord++t.name) else tblsE (fun r=>(g r).getD 0) (hasT ans) (callE s) (xs.drop (k+1)) (t.name :: seen))=R):=by
       show _=_
       have h:=HD2.out
       rw[if_neg (by simpa using hE)] at h
       exact h
      clear hE HD2
      have x2:=HX4.out.cell 2 (v:=.slice ta t.actions.length tc) rfl
      have CC:Hid (Cs 154 #[.pointer (some ⟨cb,0,none⟩),.slice ta t.actions.length tc] W4 fun e w'=>Bl W4 w'∧Res (canE (hasT ans) t.actions) (tWord++t.name) e):=checkCan_any W4 cb ab ans _ _ _ _ _ _ _ _ _ _ _ t.actions (HAR.out.pres (pres_below HBw4.out)) HQ4.out HH4.out
      generalize canE (hasT ans) t.actions=aE at*
      go_wp2_with fail
      refine CC.out.mono ?_
      rintro e W5 ⟨hb5,hres⟩
      have HK5:Hid (Kept (fun k=>k=cb) w W5):=HK4.out.trans (Kept.of_below hb5)
      have HQ5:=hblk HQ4 hb5
      have HX5:=hblk HX4 hb5
      have HH5:Hid (SetT W5 ab ans):=HH4.out.below hb5
      have HM5:Hid (MapR W5 wb m g):=HM4.out.below hb5
      have HS5:Hid (SetT W5 mb (t.name :: seen)):=HS4.out.below hb5
      have HBw5:Hid (Bl w0 W5):=HBw4.out.trans (hb5.mono HBw4.out.size)
      clear hb5 CC x2 HK4 HQ4 HX4 HH4 HM4 HS4 HBw4
      rcases hres with⟨hE,rfl⟩|⟨hE,rfl⟩
      case inr=>
       have HE:Hid (R=some (aE,tWord++t.name)):=by
        show _=_
        have h:=HD3.out
        rw[if_pos hE] at h
        exact h.symm
       clear hE
       go_wp2
       exact⟨rfl,HK5.out,.inr ⟨_,_,HE.out,rfl⟩,fun h=>by cases h⟩
      case inl=>
       have HD4:Hid ((if ¬(1≤t.size∧t.size≤4096) then some (74,tWord++t.name) else if callE s t.name t.dflt≠0 then some (callE s t.name t.dflt,tWord++t.name) else tblsE (fun r=>(g r).getD 0) (hasT ans) (callE s) (xs.drop (k+1)) (t.name :: seen))=R):=by
        show _=_
        have h:=HD3.out
        rw[if_neg (by simpa using hE)] at h
        exact h
       clear hE HD3
       have x3:=HX5.out.cell 3 (v:=.int .i64 t.size) rfl
       have CN:Hid (∀ b r,Cs 145 #[.pointer (some ⟨cb,0,none⟩),.bool b,.int .i64 r] W5 fun e w'=>w'=W5∧((b=true∧e=.returned (.tuple #[]))∨(b=false∧e=.panicked [pf r (tWord++t.name)]))):=need_two (HQ5.out.cell 6 rfl)
       by_cases hs1:1≤t.size
       case neg=>
        have hs1':decide (1≤t.size)=false:=decide_eq_false hs1
        have HE:Hid (R=some (74,tWord++t.name)):=by
         show _=_
         have h:=HD4.out
         rw[if_pos (by omega)] at h
         exact h.symm
        clear hs1 HD4
        go_wp2_with fail
        refine(CN.out _ _).mono ?_
        rintro e w2 ⟨hw2,hh⟩
        obtain rfl:=Eq.symm hw2
        rcases hh with⟨hq,rfl⟩|⟨hq,rfl⟩
        ·cases hq
        ·go_wp2
         exact⟨rfl,HK5.out,.inr ⟨_,_,HE.out,rfl⟩,fun h=>by cases h⟩
       case pos=>
        have hs1':decide (1≤t.size)=true:=decide_eq_true hs1
        go_wp2_with fail
        refine(CN.out _ _).mono ?_
        rintro e w2 ⟨hw2,hh⟩
        obtain rfl:=Eq.symm hw2
        rcases hh with⟨hq,rfl⟩|⟨hq,rfl⟩
        case inr=>
         have HE:Hid (R=some (74,tWord++t.name)):=by
          show _=_
          have h:=HD4.out
          rw[if_pos (by simp at hq;omega)] at h
          exact h.symm
         clear hq
         go_wp2
         exact⟨rfl,HK5.out,.inr ⟨_,_,HE.out,rfl⟩,fun h=>by cases h⟩
        case inl=>
         have HD5:Hid ((if callE s t.name t.dflt≠0 then some (callE s t.name t.dflt,tWord++t.name) else tblsE (fun r=>(g r).getD 0) (hasT ans) (callE s) (xs.drop (k+1)) (t.name :: seen))=R):=by
          show _=_
          have h:=HD4.out
          rw[if_neg (by simp at hq;omega)] at h
          exact h
         clear hq HD4 CN hs1 hs1'
         have CD:Hid (∀ z:Grown W5,Cs 82 #[.agg #[v0,v1,v2,v3,.slice (some ⟨b,o,none⟩) n cap,v5],.string t.name,.agg #[.string t.dflt.action,.slice da t.dflt.args.length dc]] (gw z) fun e w'=>e=.returned (.int .i64 (callE s t.name t.dflt))∧Below (gw z).heap.size (gw z) w'):=fun z=>call_any _ s t.name _ t.dflt _ (HS.out.pres ((pres_below HBw5.out).trans (pres_below (gw_below z)))) (by obtain⟨u,hu,hu1,hu2⟩:=HCI.out;exact⟨u,hu,hu1,hu2.pres ((pres_below HBw5.out).trans (pres_below (gw_below z)))⟩)
         have c0:∀ z:Grown W5,(gw z).cell? ⟨cb,0,none⟩=some v0:=gw_cell (HQ5.out.cell 0 rfl)
         have c1:∀ z:Grown W5,(gw z).cell? ⟨cb,1,none⟩=some v1:=gw_cell (HQ5.out.cell 1 rfl)
         have c2:∀ z:Grown W5,(gw z).cell? ⟨cb,2,none⟩=some v2:=gw_cell (HQ5.out.cell 2 rfl)
         have c3:∀ z:Grown W5,(gw z).cell? ⟨cb,3,none⟩=some v3:=gw_cell (HQ5.out.cell 3 rfl)
         have c4:∀ z:Grown W5,(gw z).cell? ⟨cb,4,none⟩=some (.slice (some ⟨b,o,none⟩) n cap):=gw_cell (HQ5.out.cell 4 rfl)
         have c5:∀ z:Grown W5,(gw z).cell? ⟨cb,5,none⟩=some v5:=gw_cell (HQ5.out.cell 5 rfl)
         have t0:∀ z:Grown W5,(gw z).cell? ⟨xb,0,none⟩=some (.string t.name):=gw_cell (HX5.out.cell 0 rfl)
         have t4:∀ z:Grown W5,(gw z).cell? ⟨xb,4,none⟩=some (.string t.dflt.action):=gw_cell (HX5.out.cell 4 rfl)
         have t5:∀ z:Grown W5,(gw z).cell? ⟨xb,5,none⟩=some (.slice da t.dflt.args.length dc):=gw_cell (HX5.out.cell 5 rfl)
         generalize callE s t.name t.dflt=dE at*
         go_upto_region 11 with fail
         refine region_grows (by kernel_rfl) (by kernel_rfl) ?_
         repeat (go_big_quiet_step ((go_at_call 82;exact calls_gw (CD.out _))))
         refine wpQuiet_nil ?_
         intro wq hwq
         obtain⟨zq,hwq⟩:=hwq
         subst hwq
         have hbz:=gw_below zq
         have HK6:Hid (Kept (fun k=>k=cb) w (gw zq)):=HK5.out.trans (Kept.of_below hbz)
         have HQ6:=hblk HQ5 hbz
         have HH6:Hid (SetT (gw zq) ab ans):=HH5.out.below hbz
         have HM6:Hid (MapR (gw zq) wb m g):=HM5.out.below hbz
         have HS6:Hid (SetT (gw zq) mb (t.name :: seen)):=HS5.out.below hbz
         generalize gw zq=W6 at HK6 HQ6 HH6 HM6 HS6 ⊢
         clear hbz CD c0 c1 c2 c3 c4 c5 t0 t4 t5 x3 HK5 HQ5 HX5 HH5 HM5 HS5 HBw5
         have CN:Hid (∀ b r,Cs 145 #[.pointer (some ⟨cb,0,none⟩),.bool b,.int .i64 r] W6 fun e w'=>w'=W6∧((b=true∧e=.returned (.tuple #[]))∨(b=false∧e=.panicked [pf r (tWord++t.name)]))):=need_two (HQ6.out.cell 6 rfl)
         go_wp2_with fail
         refine(CN.out _ _).mono ?_
         rintro e w2 ⟨hw2,hh⟩
         obtain rfl:=Eq.symm hw2
         rcases hh with⟨hq,rfl⟩|⟨hq,rfl⟩
         case inr=>
          have hE:dE≠0:=by simpa using hq
          have HE:Hid (R=some (dE,tWord++t.name)):=by
           show _=_
           have h:=HD5.out
           rw[if_pos hE] at h
           exact h.symm
          clear hq hE
          go_wp2
          exact⟨rfl,HK6.out,.inr ⟨_,_,HE.out,rfl⟩,fun h=>by cases h⟩
         case inl=>
          have hE:dE=0:=by simpa using hq
          have HE:Hid (R=tblsE (fun r=>(g r).getD 0) (hasT ans) (callE s) (xs.drop (k+1)) (t.name :: seen)):=by
           show _=_
           have h:=HD5.out
           rw[if_neg (by rw[hE];simp)] at h
           exact h.symm
          have HT:Hid (t.name :: seen=((xs.take (k+1)).map (·.name)).reverse):=by
           show _=_
           rw[List.take_add_one,hy,hsl];simp
          clear hq hE HD5
          go_wp2
          exact⟨⟨k+1,t.name :: seen,_,by omega,HT.out,by go_num,HK6.out,HS6.out,HQ6.out,HH6.out,HM6.out,HE.out.symm⟩,by simp only[intOf];omega⟩
   ·have e:k=n:=by omega
    subst e
    have HE:Hid (R=none):=by
     have h1:=HN.out
     have h2:=HD.out
     rw[List.drop_of_length_le (by omega),tblsE] at h2
     exact h2.symm
    have HS3:Hid (SetT wr mb (xs.map (·.name)).reverse):=by
     have:=HSt.out
     rw[hsl,List.take_of_length_le (by rw[← HN.out];exact Nat.le_refl _)] at this
     exact this
    have HQ:Hid (Blk wr cb (ChkC v0 v1 v2 v3 (.slice ad k cap) v5 th' (.map (some wb)) hd (.map (some ab)) (.map (some mb))) 110):=hblk
    clear hblk HD
    go_wp2
    first|go_end0|refine bodyPost_ret (results_none rfl _ _ _) rfl ?_
    exact⟨HK.out,.inl ⟨HE.out,rfl⟩,fun _=>⟨mb,th',hw1,HQ.out,HS3.out⟩⟩
end Go.Proofs.YtmbpclknhkbbkaaGreat
