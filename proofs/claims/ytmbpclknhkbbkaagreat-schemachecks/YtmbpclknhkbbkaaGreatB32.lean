/- Package schema's checker: checkHeaders. -/
import Derived.Test.YtmbpclknhkbbkaaGreatB16
set_option linter.unusedSimpArgs false
set_option linter.unusedVariables false
set_option maxHeartbeats 2000000
set_option maxRecDepth 100000
namespace Go.Proofs.YtmbpclknhkbbkaaGreat
open Go.RowKit
theorem left_by {T:Prop}(h:T)(a:Act)(w:World)(f:wpAny Tryz.prog Region.Mode.any #[] (fun _ _ _=>True) 0 #[] a w):T:=h
abbrev ChkC (h m st a t c:Value)(th:ByteArray)(wd hd ac tb:Value):Array Value:=#[h,m,st,a,t,c,.string th,wd,hd,ac,tb]
def Fnd (r:Option (Int × ByteArray))(e:Ending):Prop:=(r=none∧e=.returned (.tuple #[]))∨∃ c th,r=some (c,th)∧e=.panicked [pf c th]
def hWord:ByteArray:=⟨#[104,101,97,100,101,114,32]⟩
def hdrsE:List Hdr→List ByteArray→Option (Int × ByteArray)
 |[],_=>none
 | h :: hs,seen=>
  if newE h.name seen≠0 then some (newE h.name seen,hWord++h.name)
  else if ¬(1≤h.fields.length∧h.fields.length≤32) then some (74,hWord++h.name)
  else if fldsE h.fields []≠0 then some (fldsE h.fields [],hWord++h.name)
  else if(bitsW h.fields 0).tmod 8≠0 then some (73,hWord++h.name)
  else hdrsE hs (h.name :: seen)
theorem hdrs_step {hs:List Hdr}{i:Nat}{h:Hdr}(hk:hs[i]?=some h)(seen:List ByteArray):hdrsE (hs.drop i) seen = 
  if newE h.name seen≠0 then some (newE h.name seen,hWord++h.name)
  else if ¬(1≤h.fields.length∧h.fields.length≤32) then some (74,hWord++h.name)
  else if fldsE h.fields []≠0 then some (fldsE h.fields [],hWord++h.name)
  else if(bitsW h.fields 0).tmod 8≠0 then some (73,hWord++h.name)
  else hdrsE (hs.drop (i+1)) (h.name :: seen):=by
 obtain⟨h',e⟩:=List.getElem?_eq_some_iff.1 hk
 rw[List.drop_eq_getElem_cons h',e,hdrsE]
theorem size_set (w:World)(a:Addr)(v:Value):(w.setCell a v).heap.size=w.heap.size:=by simp[World.setCell]
theorem need_two {cb:Nat}{th:ByteArray}{w:World}(hc:w.cell? ⟨cb,6,none⟩=some (.string th)):∀ b r,Calls Tryz.prog 145 #[.pointer (some ⟨cb,0,none⟩),.bool b,.int .i64 r] w fun e w'=>w'=w∧((b=true∧e=.returned (.tuple #[]))∨(b=false∧e=.panicked [pf r th])):=fun b r=>need_any cb b r th w hc
theorem needNew_yes {w:World}{ab cb:Nat}{seen:List ByteArray}(h:SetT w ab seen)(name:ByteArray)(hn:Okt name)(th:ByteArray)(hc:w.cell? ⟨cb,6,none⟩=some (.string th))(hE:newE name seen=0):
  Calls Tryz.prog 146 #[.pointer (some ⟨cb,0,none⟩),.string name,.map (some ab)] w fun e w'=>e=.returned (.tuple #[])∧Kept (fun k=>k=ab) w w'∧SetT w' ab (name :: seen):=by
 refine(needNew_any h name hn th hc).mono ?_
 rintro e w' ⟨hk,hr,hs⟩
 rcases hr with⟨_,rfl⟩|⟨h,_⟩
 ·exact⟨rfl,hk,hs hE⟩
 ·exact absurd hE h
theorem needNew_no {w:World}{ab cb:Nat}{seen:List ByteArray}(h:SetT w ab seen)(name:ByteArray)(hn:Okt name)(th:ByteArray)(hc:w.cell? ⟨cb,6,none⟩=some (.string th))(hE:newE name seen≠0):
  Calls Tryz.prog 146 #[.pointer (some ⟨cb,0,none⟩),.string name,.map (some ab)] w fun e w'=>e=.panicked [pf (newE name seen) th]∧Kept (fun k=>k=ab) w w':=by
 refine(needNew_any h name hn th hc).mono ?_
 rintro e w' ⟨hk,hr,hs⟩
 rcases hr with⟨h,_⟩|⟨_,rfl⟩
 ·exact absurd h hE
 ·exact⟨rfl,hk⟩
theorem Below.fresh (w:World)(n:Nat):Below w.heap.size w (w.drewN n):=⟨rfl,rfl,rfl,Nat.le_refl _,fun _ _=>rfl⟩
theorem Kept.new {S:Nat→Prop}{w a b:World}{mb:Nat}(h:Kept S w a)(k:Kept (fun k=>k=mb) a b)(hm:w.heap.size≤mb):Kept S w b:=
 ⟨k.os.trans h.os,k.tape.trans h.tape,k.output.trans h.output,Nat.le_trans h.size k.size,fun i hi hs=>(k.block i (Nat.lt_of_lt_of_le hi h.size) (by show ¬ i=mb;omega)).trans (h.block i hi hs)⟩
theorem checkHeaders_any (w0:World)(hs:List Hdr)(v vm vst va vt vc:Value)(hr:HdrRow w0 v hs)(cb:Nat)(w:World)(hw:Below w0.heap.size w0 w)(hcb:w0.heap.size≤cb)(th:ByteArray)(wd hd ac tb:Value)(hB:Blk w cb (ChkC v vm vst va vt vc th wd hd ac tb) 110):
  Calls Tryz.prog 64 #[.pointer (some ⟨cb,0,none⟩)] w fun e w'=>Kept (fun k=>k=cb) w w'∧Fnd (if 32<hs.length then some (74,⟨#[104,101,97,100,101,114]⟩) else hdrsE hs []) e∧
   (e=.returned (.tuple #[])→∃ b th',w.heap.size≤b∧Blk w' cb (ChkC v vm vst va vt vc th' wd (.map (some b)) ac tb) 110∧SetT w' b (hs.map (·.name)).reverse):=by
 obtain⟨ad,cap,rfl,_⟩:=hr.1.slice
 have hlen:hs.length*40≤140737488351232:=hr.2
 have HR:Hid (HdrRow w0 (.slice ad hs.length cap) hs):=hr
 have c6:=hB.cell 6 (v:=.string th) rfl
 have f6:=hB.frozen 6
 have HB1:Hid (Blk (w.setCell ⟨cb,6,none⟩ (.string ⟨#[104,101,97,100,101,114]⟩)) cb (ChkC (.slice ad hs.length cap) vm vst va vt vc ⟨#[104,101,97,100,101,114]⟩ wd hd ac tb) 110):=hB.set 6 (.string ⟨#[104,101,97,100,101,114]⟩)
 have HK1:Hid (Kept (fun k=>k=cb) w (w.setCell ⟨cb,6,none⟩ (.string ⟨#[104,101,97,100,101,114]⟩))):=Kept.set (S:=fun k=>k=cb) (Kept.refl _ _) rfl _
 obtain⟨R,hR⟩:∃ R,R=if 32<hs.length then some (74,⟨#[104,101,97,100,101,114]⟩) else hdrsE hs []:=⟨_,rfl⟩
 have HRR:Hid (R=if 32<hs.length then some (74,⟨#[104,101,97,100,101,114]⟩) else hdrsE hs []):=hR
 rw[← hR]
 clear hr hR hB
 obtain⟨n,hn⟩:∃ n,n=hs.length:=⟨_,rfl⟩
 have HL:Hid (n=hs.length):=hn
 rw[← hn] at hlen HR HB1 HRR ⊢
 clear hn
 have hmm:=@run_makeMap Tryz.prog
 go_enter Tryz.func64,Tryz.ntmps64
 go_upto_region 1 with fail
 generalize (w.setCell ⟨cb,6,none⟩ (.string ⟨#[104,101,97,100,101,114]⟩))=W1 at HB1 HK1 ⊢
 have d0:=HB1.out.cell 0 (v:=.slice ad n cap) rfl
 have CN:Hid (∀ b r,Cs 145 #[.pointer (some ⟨cb,0,none⟩),.bool b,.int .i64 r] W1 fun e w'=>w'=W1∧((b=true∧e=.returned (.tuple #[]))∨(b=false∧e=.panicked [pf r ⟨#[104,101,97,100,101,114]⟩]))):=need_two (HB1.out.cell 6 rfl)
 go_wp2_with fail
 refine(CN.out _ _).mono ?_
 rintro e w2 ⟨hw2,hh⟩
 obtain rfl:=Eq.symm hw2
 rcases hh with⟨hq,rfl⟩|⟨hq,rfl⟩
 case inr=>
  have HE:Hid (R=some (74,⟨#[104,101,97,100,101,114]⟩)):=by
   show _=_
   rw[HRR.out,if_pos (by simp at hq;omega)]
  go_wp2
  refine⟨rfl,HK1.out,.inr ⟨_,_,HE.out,rfl⟩,fun h=>by cases h⟩
 case inl=>
  have hle:n≤32:=by simp at hq;omega
  have H0:Hid (hdrsE (hs.drop 0) []=R):=by show _=_;rw[HRR.out,if_neg (by omega)];rfl
  clear HRR CN hq hlen
  have d8:=(HB1.out.below ((Below.refl _ _).alloc (Nat.le_refl _) (.map #[] 0))).cell 8 (v:=hd) rfl
  have f8:=(HB1.out.below ((Below.refl _ _).alloc (Nat.le_refl _) (.map #[] 0))).frozen 8
  have hlt:=HB1.out.lt
  go_upto_region 3 with fail
  have HB2:Hid (Blk ((W1.setCell ⟨cb,8,none⟩ (.map (some W1.heap.size))).alloc (.map #[] 0)) cb (ChkC (.slice ad n cap) vm vst va vt vc ⟨#[104,101,97,100,101,114]⟩ wd (.map (some W1.heap.size)) ac tb) 110):=Blk.below (HB1.out.set 8 (.map (some W1.heap.size))) ((Below.refl _ _).alloc (Nat.le_refl _) _)
  have HS2:Hid (SetT ((W1.setCell ⟨cb,8,none⟩ (.map (some W1.heap.size))).alloc (.map #[] 0)) W1.heap.size []):=by
   have:=SetT.new (W1.setCell ⟨cb,8,none⟩ (.map (some W1.heap.size)))
   rw[size_set] at this
   exact this
  have HK2:Hid (Kept (fun k=>k=cb) w ((W1.setCell ⟨cb,8,none⟩ (.map (some W1.heap.size))).alloc (.map #[] 0))):=Kept.alloc (Kept.set (S:=fun k=>k=cb) HK1.out rfl _) _
  have hw1:=HK1.out.size
  obtain⟨mb,hmb⟩:∃ mb,mb=W1.heap.size:=⟨_,rfl⟩
  rw[← hmb] at HB2 HS2 HK2 hlt hw1 ⊢
  generalize ((W1.setCell ⟨cb,8,none⟩ (.map (some mb))).alloc (.map #[] 0))=W2 at HB2 HS2 HK2 ⊢
  clear HB1 HK1 d0 d8 f8 hmb hmm
  have d0:=HB2.out.cell 0 (v:=.slice ad n cap) rfl
  go_wp2_with fail
  go_loopw [26] (fun i wr=>∃(k:Nat) (seen:List ByteArray) (th':ByteArray),k≤n∧seen=((hs.take k).map (·.name)).reverse∧i=.int .i64 k∧Kept (fun k=>k=cb) w wr∧SetT wr mb seen∧Blk wr cb (ChkC (.slice ad n cap) vm vst va vt vc th' wd (.map (some mb)) ac tb) 110∧hdrsE (hs.drop k) seen=R) (fun i _=>n - (intOf i).toNat)
  case atStart=>exact⟨0,[],_,by omega,rfl,rfl,HK2.out,HS2.out,HB2.out,H0.out⟩
  case round=>
   obtain⟨k,seen,th',hk,hsl,rfl,hkr,hset,hblk,hd⟩:=hrel
   have hb:Below w0.heap.size w0 wr:=hw.trans (hkr.below hw.size (fun k e=>by omega))
   by_cases hlt:k<n
   ·obtain⟨y,hy⟩:=gE HL.out hlt
    obtain⟨b,o,cs,rfl,_,hcc,vf,rfl,hok,hfr⟩:=HR.out.1.at hy
    obtain⟨fa,fc,rfl,_⟩:=hfr.1.slice
    have q0:wr.cell? ⟨b,o+k*2,none⟩=some (.string y.name):=by have:=pres_below hb _ _ (hcc 0 (.string y.name) rfl);simpa using this
    have q1:wr.cell? ⟨b,o+k*2+1,none⟩=some (.slice fa y.fields.length fc):=by have:=pres_below hb _ _ (hcc 1 (.slice fa y.fields.length fc) rfl);simpa using this
    have e6:=hblk.cell 6 (v:=.string th') rfl
    have g6:=hblk.frozen 6
    have hcl:=hblk.lt
    have hnm:y.name.size≤140737488351232:=hok
    have HD:Hid (hdrsE (hs.drop k) seen=R):=hd
    have HB:Hid (Bl w0 wr):=hb
    have HS:Hid (SetT wr mb seen):=hset
    have HK:Hid (Kept (fun k=>k=cb) w wr):=hkr
    have HQ:Hid (Blk wr cb (ChkC (.slice (some ⟨b,o,none⟩) n cap) vm vst va vt vc th' wd (.map (some mb)) ac tb) 110):=hblk
    clear hb hcc hset hd hkr hblk
    go_upto_region 7 with fail
    have hcm:mb≠cb:=by omega
    have HQ1:Hid (Blk ((wr.setCell ⟨cb,6,none⟩ (.string (⟨#[104,101,97,100,101,114,32]⟩++y.name))).alloc (.cells #[.string y.name,.slice fa y.fields.length fc] 60)) cb (ChkC (.slice (some ⟨b,o,none⟩) n cap) vm vst va vt vc (hWord++y.name) wd (.map (some mb)) ac tb) 110):=Blk.below (HQ.out.set 6 (.string (hWord++y.name))) ((Below.refl _ _).alloc (Nat.le_refl _) _)
    have HS1:Hid (SetT ((wr.setCell ⟨cb,6,none⟩ (.string (⟨#[104,101,97,100,101,114,32]⟩++y.name))).alloc (.cells #[.string y.name,.slice fa y.fields.length fc] 60)) mb seen):=HS.out.kept (S:=fun k=>k=cb) (Kept.alloc (Kept.set (S:=fun k=>k=cb) (Kept.refl _ _) rfl _) _) hcm
    have HK1:Hid (Kept (fun k=>k=cb) w ((wr.setCell ⟨cb,6,none⟩ (.string (⟨#[104,101,97,100,101,114,32]⟩++y.name))).alloc (.cells #[.string y.name,.slice fa y.fields.length fc] 60))):=Kept.alloc (Kept.set (S:=fun k=>k=cb) HK.out rfl _) _
    have HX1:Hid (Blk ((wr.setCell ⟨cb,6,none⟩ (.string (⟨#[104,101,97,100,101,114,32]⟩++y.name))).alloc (.cells #[.string y.name,.slice fa y.fields.length fc] 60)) wr.heap.size #[.string y.name,.slice fa y.fields.length fc] 60):=by
     have:=Blk.new (wr.setCell ⟨cb,6,none⟩ (.string (⟨#[104,101,97,100,101,114,32]⟩++y.name))) #[.string y.name,.slice fa y.fields.length fc] 60
     rw[size_set] at this
     exact this
    have hsw:w.heap.size≤wr.heap.size:=HK.out.size
    have hmw:mb<wr.heap.size:=HS.out.lt
    have hfl:y.fields.length*24≤140737488351232:=hfr.2
    generalize ((wr.setCell ⟨cb,6,none⟩ (.string (⟨#[104,101,97,100,101,114,32]⟩++y.name))).alloc (.cells #[.string y.name,.slice fa y.fields.length fc] 60))=W at HQ1 HS1 HK1 HX1 ⊢
    obtain⟨xb,hxb⟩:∃ xb,xb=wr.heap.size:=⟨_,rfl⟩
    rw[← hxb] at HX1 hsw hmw ⊢
    clear hxb HQ HS HK HB q0 q1 e6 g6
    have r0:=HX1.out.cell 0 (v:=.string y.name) rfl
    have r1:=HX1.out.cell 1 (v:=.slice fa y.fields.length fc) rfl
    have r8:=HQ1.out.cell 8 (v:=.map (some mb)) rfl
    by_cases hE:newE y.name seen=0
    ·have CN:Hid (Cs 146 #[.pointer (some ⟨cb,0,none⟩),.string y.name,.map (some mb)] W.drew fun e w'=>e=.returned (.tuple #[])∧Kept (fun k=>k=mb) W.drew w'∧SetT w' mb (y.name :: seen)):=needNew_yes (w:=W.drew) HS1.out y.name hok (hWord++y.name) (HQ1.out.cell 6 rfl) hE
     have HE:Hid (newE y.name seen=0):=hE
     clear hE
     go_region_held3 (fun w'=>w'.cell? ⟨xb,0,none⟩=some (.string y.name)∧w'.cell? ⟨cb,8,none⟩=some (.map (some mb))) (first|exact⟨by assumption,by assumption⟩|exact⟨hk1.cell r0 (by show ¬ xb=mb;omega),hk1.cell r8 (by show ¬ cb=mb;omega)⟩) ((go_at_call 146;refine CN.out.mono ?_;rintro e w1 ⟨rfl,hk1,hs1⟩))
     have HK2:Hid (Kept (fun k=>k=cb) w w1):=(Kept.drew HK1.out).new hk1 hw1
     have HQ2:Hid (Blk w1 cb (ChkC (.slice (some ⟨b,o,none⟩) n cap) vm vst va vt vc (hWord++y.name) wd (.map (some mb)) ac tb) 110):=Blk.kept (w:=W.drew) HQ1.out hk1 (by show ¬ cb=mb;omega)
     have HX2:Hid (Blk w1 xb #[.string y.name,.slice fa y.fields.length fc] 60):=Blk.kept (w:=W.drew) HX1.out hk1 (by show ¬ xb=mb;omega)
     have HS2:Hid (SetT w1 mb (y.name :: seen)):=hs1
     have HD2:Hid (R=if ¬(1≤y.fields.length∧y.fields.length≤32) then some (74,hWord++y.name) else if fldsE y.fields []≠0 then some (fldsE y.fields [],hWord++y.name) else if(bitsW y.fields 0).tmod 8≠0 then some (73,hWord++y.name) else hdrsE (hs.drop (k+1)) (y.name :: seen)):=by
      show _=_
      rw[← HD.out,hdrs_step hy,if_neg (by simpa using HE.out)]
     clear hk1 hs1 CN HQ1 HX1 HK1 HS1 r0 r1 r8 HE HD
     have s0:=HX2.out.cell 0 (v:=.string y.name) rfl
     have s1:=HX2.out.cell 1 (v:=.slice fa y.fields.length fc) rfl
     have HBz:Hid (Bl w0 w1):=hw.trans (HK2.out.below hw.size (fun k e=>by omega))
     have CN2:Hid (∀ b r,Cs 145 #[.pointer (some ⟨cb,0,none⟩),.bool b,.int .i64 r] w1 fun e w'=>w'=w1∧((b=true∧e=.returned (.tuple #[]))∨(b=false∧e=.panicked [pf r (hWord++y.name)]))):=need_two (HQ2.out.cell 6 rfl)
     by_cases hf1:1≤y.fields.length
     case neg=>
      have hf1':decide ((1:Int)≤(y.fields.length:Int))=false:=by simp;omega
      have HE:Hid (R=some (74,hWord++y.name)):=by show _=_;rw[HD2.out,if_pos (by omega)]
      clear hf1 HD2
      generalize y.fields.length=fl at*
      go_wp2_with fail
      refine(CN2.out _ _).mono ?_
      rintro e w2 ⟨hw2,hh⟩
      obtain rfl:=Eq.symm hw2
      rcases hh with⟨hq,rfl⟩|⟨hq,rfl⟩
      ·cases hq
      ·go_wp2
       exact⟨rfl,HK2.out,.inr ⟨_,_,HE.out,rfl⟩,fun h=>by cases h⟩
     case pos=>
      have hf1':(1:Int)≤(y.fields.length:Int):=by omega
      have CF:Hid (∀ w2,w2=w1→Cs 147 #[.pointer (some ⟨cb,0,none⟩),.slice fa y.fields.length fc] w2 fun e w'=>Bl w2 w'∧Res (fldsE y.fields []) (hWord++y.name) e):=fun w2 e=>by subst e;exact checkFields_any cb _ y.fields _ (hfr.pres (pres_below HBz.out)) _ (HQ2.out.cell 6 rfl)
      have CBt:Hid (∀ w2,Bl w1 w2→Cs 148 #[.agg #[.string y.name,.slice fa y.fields.length fc]] w2 fun e w'=>e=.returned (.int .i64 (bitsW y.fields 0))∧Bl w2 w'):=fun w2 hb2=>bitsOf_any y _ w2 ⟨_,rfl,hok,hfr.pres ((pres_below HBz.out).trans (pres_below hb2))⟩
      have HD3:Hid (y.fields.length≤32→R=if fldsE y.fields []≠0 then some (fldsE y.fields [],hWord++y.name) else if(bitsW y.fields 0).tmod 8≠0 then some (73,hWord++y.name) else hdrsE (hs.drop (k+1)) (y.name :: seen)):=by
       show _→_
       intro h
       rw[HD2.out,if_neg (by omega)]
      have HE:Hid (32<y.fields.length→R=some (74,hWord++y.name)):=by show _→_;intro h;rw[HD2.out,if_pos (by omega)]
      clear HD2 hfr
      generalize bitsW y.fields 0=bw at*
      generalize fldsE y.fields []=fe at*
      generalize y.fields.length=fl at*
      go_wp2_with fail
      refine(CN2.out _ _).mono ?_
      rintro e w2 ⟨hw2,hh⟩
      obtain rfl:=Eq.symm hw2
      rcases hh with⟨hq,rfl⟩|⟨hq,rfl⟩
      case inr=>
       have HE':=HE.out (by simp at hq;omega)
       go_wp2
       exact⟨rfl,HK2.out,.inr ⟨_,_,HE',rfl⟩,fun h=>by cases h⟩
      case inl=>
       have HD4:Hid (R=if fe≠0 then some (fe,hWord++y.name) else if bw.tmod 8≠0 then some (73,hWord++y.name) else hdrsE (hs.drop (k+1)) (y.name :: seen)):=HD3.out (by simp at hq;omega)
       clear HD3 HE hq
       go_wp2_with fail
       refine(CF.out _ rfl).mono ?_
       rintro e w2 ⟨hb2,hres⟩
       have HB2:Hid (Bl w1 w2):=hb2
       have HK3:Hid (Kept (fun k=>k=cb) w w2):=HK2.out.trans (Kept.of_below hb2)
       rcases hres with⟨hE,rfl⟩|⟨hE,rfl⟩
       case inr=>
        have HE:Hid (R=some (fe,hWord++y.name)):=by show _=_;rw[HD4.out,if_pos hE]
        clear hb2
        go_wp2
        exact⟨rfl,HK3.out,.inr ⟨_,_,HE.out,rfl⟩,fun h=>by cases h⟩
       case inl=>
        have HD5:Hid (R=if bw.tmod 8≠0 then some (73,hWord++y.name) else hdrsE (hs.drop (k+1)) (y.name :: seen)):=by show _=_;rw[HD4.out,if_neg (by simpa using hE)]
        have HX3:=hblk HX2 hb2
        have t0:=HX3.out.cell 0 (v:=.string y.name) rfl
        have t1:=HX3.out.cell 1 (v:=.slice fa fl fc) rfl
        clear hb2 hE HD4 s0 s1 HX2
        go_wp2_with fail
        refine(CBt.out _ HB2.out).mono ?_
        rintro e w3 ⟨rfl,hb3⟩
        have HB3:Hid (Bl w1 w3):=bst HB2.out hb3 (Nat.le_refl _)
        have HK4:Hid (Kept (fun k=>k=cb) w w3):=HK2.out.trans (Kept.of_below HB3.out)
        have HQ4:Hid (Blk w3 cb (ChkC (.slice (some ⟨b,o,none⟩) n cap) vm vst va vt vc (hWord++y.name) wd (.map (some mb)) ac tb) 110):=HQ2.out.below HB3.out
        have HS4:Hid (SetT w3 mb (y.name :: seen)):=HS2.out.below HB3.out
        have CN3:Hid (∀ b r,Cs 145 #[.pointer (some ⟨cb,0,none⟩),.bool b,.int .i64 r] w3 fun e w'=>w'=w3∧((b=true∧e=.returned (.tuple #[]))∨(b=false∧e=.panicked [pf r (hWord++y.name)]))):=need_two (HQ4.out.cell 6 rfl)
        clear hb3
        go_wp2_with fail
        refine(CN3.out _ _).mono ?_
        rintro e w4 ⟨hw4,hh⟩
        obtain rfl:=Eq.symm hw4
        rcases hh with⟨hq,rfl⟩|⟨hq,rfl⟩
        case inr=>
         have HE:Hid (R=some (73,hWord++y.name)):=by show _=_;rw[HD5.out,if_pos (by simpa using hq)]
         go_wp2
         exact⟨rfl,HK4.out,.inr ⟨_,_,HE.out,rfl⟩,fun h=>by cases h⟩
        case inl=>
         have HE:Hid (R=hdrsE (hs.drop (k+1)) (y.name :: seen)):=by show _=_;rw[HD5.out,if_neg (by simpa using hq)]
         have HT:Hid (y.name :: seen=((hs.take (k+1)).map (·.name)).reverse):=by
          show _=_
          rw[List.take_add_one,hy,hsl];simp
         clear hq
         go_wp2
         exact⟨⟨k+1,y.name :: seen,_,by omega,HT.out,by go_num,HK4.out,HS4.out,HQ4.out,HE.out.symm⟩,by simp only[intOf];omega⟩
    ·have CN:Hid (Cs 146 #[.pointer (some ⟨cb,0,none⟩),.string y.name,.map (some mb)] W.drew fun e w'=>e=.panicked [pf (newE y.name seen) (hWord++y.name)]∧Kept (fun k=>k=mb) W.drew w'):=needNew_no (w:=W.drew) HS1.out y.name hok (hWord++y.name) (HQ1.out.cell 6 rfl) hE
     have HE:Hid (R=some (newE y.name seen,hWord++y.name)):=by show _=_;rw[← HD.out,hdrs_step hy,if_pos hE]
     have hmw':w.heap.size≤mb:=hw1
     go_region_with (go_at_call 146;refine CN.out.mono ?_;rintro e w1 ⟨rfl,hk1⟩;have HF:Hid (Kept (fun k=>k=cb) w w1):=(Kept.drew HK1.out).new hk1 hmw';refine left_by (show _ from⟨rfl,HF.out,.inr ⟨_,_,HE.out,rfl⟩,fun h=>by cases h⟩) ⟨#[],[]⟩ w ?_)
     all_goals trivial
   ·have e:k=n:=by omega
    subst e
    have HD:Hid (R=none):=by
     have h1:=HL.out
     rw[List.drop_of_length_le (by omega),hdrsE] at hd
     exact hd.symm
    have HS:Hid (SetT wr mb (hs.map (·.name)).reverse):=by
     have:=hset
     rw[hsl,List.take_of_length_le (by rw[← HL.out];exact Nat.le_refl _)] at this
     exact this
    have HK:Hid (Kept (fun k=>k=cb) w wr):=hkr
    have HQ:Hid (Blk wr cb (ChkC (.slice ad k cap) vm vst va vt vc th' wd (.map (some mb)) ac tb) 110):=hblk
    clear hd hb hset hblk hkr
    go_wp2
    first|go_end0|refine bodyPost_ret (results_none rfl _ _ _) rfl ?_
    exact⟨HK.out,.inl ⟨HD.out,rfl⟩,fun _=>⟨mb,th',hw1,HQ.out,HS.out⟩⟩
def metaE (fs:List Fld):Option (Int × ByteArray):=if 32<fs.length then some (74,⟨#[109,101,116,97]⟩) else if fldsE fs []≠0 then some (fldsE fs [],⟨#[109,101,116,97]⟩) else none
theorem checkMeta_any (w0:World)(fs:List Fld)(vh v vst va vt vc:Value)(hr:FldRow w0 v fs)(cb:Nat)(w:World)(hw:Below w0.heap.size w0 w)(hcb:w0.heap.size≤cb)(th:ByteArray)(wd hd ac tb:Value)(hB:Blk w cb (ChkC vh v vst va vt vc th wd hd ac tb) 110):
  Calls Tryz.prog 65 #[.pointer (some ⟨cb,0,none⟩)] w fun e w'=>Kept (fun k=>k=cb) w w'∧Fnd (metaE fs) e∧(e=.returned (.tuple #[])→∃ th',Blk w' cb (ChkC vh v vst va vt vc th' wd hd ac tb) 110):=by
 obtain⟨ad,cap,rfl,_⟩:=hr.1.slice
 have hlen:fs.length*24≤140737488351232:=hr.2
 have HR:Hid (FldRow w0 (.slice ad fs.length cap) fs):=hr
 have c6:=hB.cell 6 (v:=.string th) rfl
 have f6:=hB.frozen 6
 have HB1:Hid (Blk (w.setCell ⟨cb,6,none⟩ (.string ⟨#[109,101,116,97]⟩)) cb (ChkC vh (.slice ad fs.length cap) vst va vt vc ⟨#[109,101,116,97]⟩ wd hd ac tb) 110):=hB.set 6 (.string ⟨#[109,101,116,97]⟩)
 have HK1:Hid (Kept (fun k=>k=cb) w (w.setCell ⟨cb,6,none⟩ (.string ⟨#[109,101,116,97]⟩))):=Kept.set (S:=fun k=>k=cb) (Kept.refl _ _) rfl _
 have HRR:Hid (metaE fs=if 32<fs.length then some (74,⟨#[109,101,116,97]⟩) else if fldsE fs []≠0 then some (fldsE fs [],⟨#[109,101,116,97]⟩) else none):=by show _=_;rfl
 clear hr hB
 obtain⟨n,hn⟩:∃ n,n=fs.length:=⟨_,rfl⟩
 rw[← hn] at hlen HR HB1 HRR ⊢
 clear hn
 generalize metaE fs=R at*
 go_enter Tryz.func65,Tryz.ntmps65
 go_upto_region 1 with fail
 generalize (w.setCell ⟨cb,6,none⟩ (.string ⟨#[109,101,116,97]⟩))=W1 at HB1 HK1 ⊢
 have d0:=HB1.out.cell 1 (v:=.slice ad n cap) rfl
 have CN:Hid (∀ b r,Cs 145 #[.pointer (some ⟨cb,0,none⟩),.bool b,.int .i64 r] W1 fun e w'=>w'=W1∧((b=true∧e=.returned (.tuple #[]))∨(b=false∧e=.panicked [pf r ⟨#[109,101,116,97]⟩]))):=need_two (HB1.out.cell 6 rfl)
 have HBz:Hid (Bl w0 W1):=hw.trans (HK1.out.below hw.size (fun k e=>by omega))
 have CF:Hid (Cs 147 #[.pointer (some ⟨cb,0,none⟩),.slice ad n cap] W1 fun e w'=>Bl W1 w'∧Res (fldsE fs []) ⟨#[109,101,116,97]⟩ e):=checkFields_any cb _ fs _ (HR.out.pres (pres_below HBz.out)) _ (HB1.out.cell 6 rfl)
 generalize fldsE fs []=fe at*
 clear HR
 go_wp2_with fail
 refine(CN.out _ _).mono ?_
 rintro e w2 ⟨hw2,hh⟩
 obtain rfl:=Eq.symm hw2
 rcases hh with⟨hq,rfl⟩|⟨hq,rfl⟩
 case inr=>
  have HE:Hid (R=some (74,⟨#[109,101,116,97]⟩)):=by
   show _=_
   rw[HRR.out,if_pos (by simp at hq;omega)]
  go_wp2
  exact⟨rfl,HK1.out,.inr ⟨_,_,HE.out,rfl⟩,fun h=>by cases h⟩
 case inl=>
  have HD:Hid (R=if fe≠0 then some (fe,⟨#[109,101,116,97]⟩) else none):=by show _=_;rw[HRR.out,if_neg (by simp at hq;omega)]
  clear hq HRR
  go_wp2_with fail
  refine CF.out.mono ?_
  rintro e w2 ⟨hb2,hres⟩
  have HK3:Hid (Kept (fun k=>k=cb) w w2):=HK1.out.trans (Kept.of_below hb2)
  have HQ3:=hblk HB1 hb2
  clear hb2
  rcases hres with⟨hE,rfl⟩|⟨hE,rfl⟩
  case inr=>
   have HE:Hid (R=some (fe,⟨#[109,101,116,97]⟩)):=by show _=_;rw[HD.out,if_pos hE]
   go_wp2
   exact⟨rfl,HK3.out,.inr ⟨_,_,HE.out,rfl⟩,fun h=>by cases h⟩
  case inl=>
   have HE:Hid (R=none):=by show _=_;rw[HD.out,if_neg (by simpa using hE)]
   go_wp2
   first|go_end0|refine bodyPost_ret (results_none rfl _ _ _) rfl ?_
   exact⟨HK3.out,.inl ⟨HE.out,rfl⟩,fun _=>⟨_,HQ3.out⟩⟩
abbrev tMeta:ByteArray:=⟨#[109,101,116,97]⟩
def gOf (ms:List Fld)(hs:List Hdr):Rf→Option Int:=fun r=>if r.head=tMeta then lookF ms r.name else if r.head=⟨#[]⟩ then none else match hs.find? (fun h=>decide (h.name=r.head)) with|some h=>lookF h.fields r.name|none=>none
def headB (hs:List Hdr)(nm:ByteArray):Bool:=decide (nm=⟨#[]⟩)||(decide (nm=tMeta)||hs.any fun h=>decide (nm=h.name))
theorem gOf_start (ms:List Fld):noteG tMeta ms (fun _=>none)=gOf ms []:=by
 funext r
 unfold noteG gOf
 by_cases h:r.head=tMeta
 ·rw[if_pos h,if_pos h]
 ·rw[if_neg h,if_neg h]
  split<;>rfl
theorem gOf_step {ms:List Fld}{hs:List Hdr}{k:Nat}{h:Hdr}(hf:hs[k]?=some h):gOf ms (hs.take (k+1))=if headB (hs.take k) h.name=true then gOf ms (hs.take k) else noteG h.name h.fields (gOf ms (hs.take k)):=by
 have hfind:∀ nm,(hs.take (k+1)).find? (fun h=>decide (h.name=nm))=match (hs.take k).find? (fun h=>decide (h.name=nm)) with|some y=>some y|none=>if h.name=nm then some h else none:=by
  intro nm
  rw[List.take_add_one,hf,List.find?_append]
  cases (hs.take k).find? (fun h=>decide (h.name=nm)) with
  | some y=>simp
  | none=>by_cases e:h.name=nm<;>simp[e]
 funext r
 by_cases hb:headB (hs.take k) h.name=true
 ·rw[if_pos hb]
  unfold gOf
  by_cases h1:r.head=tMeta
  ·rw[if_pos h1,if_pos h1]
  ·rw[if_neg h1,if_neg h1]
   by_cases h2:r.head=⟨#[]⟩
   ·rw[if_pos h2,if_pos h2]
   ·rw[if_neg h2,if_neg h2,hfind]
    cases hk:(hs.take k).find? (fun h=>decide (h.name=r.head)) with
    | some y=>rfl
    | none=>
     by_cases e:h.name=r.head
     ·exfalso
      simp only[headB,Bool.or_eq_true,decide_eq_true_eq,List.any_eq_true] at hb
      rcases hb with hb|hb|⟨x,hx,hxe⟩
      ·exact h2 (by rw[← e,hb])
      ·exact h1 (by rw[← e,hb])
      ·have:=List.find?_eq_none.1 hk x hx
       simp only[decide_eq_true_eq] at this
       exact this (by rw[← hxe,e])
     ·simp[e]
 ·rw[if_neg hb]
  simp only[headB,Bool.or_eq_true,decide_eq_true_eq,List.any_eq_true,not_or,not_exists,not_and] at hb
  obtain⟨b1,b2,b3⟩:=hb
  unfold noteG
  by_cases hr:r.head=h.name
  ·rw[if_pos hr]
   have h1:¬ r.head=tMeta:=fun e=>b2 (by rw[← hr,e])
   have h2:¬ r.head=⟨#[]⟩:=fun e=>b1 (by rw[← hr,e])
   have hk:(hs.take k).find? (fun h=>decide (h.name=r.head))=none:=List.find?_eq_none.2 (fun x hx=>by simpa using fun e=>b3 x hx (by rw[← hr,e]))
   unfold gOf
   rw[if_neg h1,if_neg h1,if_neg h2,if_neg h2,hfind,hk]
   simp[hr]
  ·rw[if_neg hr]
   unfold gOf
   by_cases h1:r.head=tMeta
   ·rw[if_pos h1,if_pos h1]
   ·rw[if_neg h1,if_neg h1]
    by_cases h2:r.head=⟨#[]⟩
    ·rw[if_pos h2,if_pos h2]
    ·rw[if_neg h2,if_neg h2,hfind]
     cases hk:(hs.take k).find? (fun h=>decide (h.name=r.head)) with
     | some y=>rfl
     | none=>rw[if_neg (fun e:h.name=r.head=>hr e.symm)]
theorem gOf_widW (s:Sch)(r:Rf):(gOf s.metas s.headers r).getD 0=widW s r:=by
 have hl:∀ fs:List Fld,(lookF fs r.name).getD 0=match fs.find? (fun f=>decide (f.name=r.name)) with|some f=>posW f.width|none=>0:=by
  intro fs
  unfold lookF
  cases fs.find? (fun f=>decide (f.name=r.name))<;>rfl
 unfold gOf widW fldsOf
 by_cases h1:r.head=⟨#[]⟩
 ·rw[if_pos h1,if_neg (by rw[h1];decide),if_pos h1];rfl
 ·rw[if_neg h1]
  by_cases h2:r.head=tMeta
  ·rw[if_pos h2,if_neg h1,if_pos h2];exact hl _
  ·simp only[if_neg h2,if_neg h1]
   unfold hdrAt
   rcases idx_cases (fun h:Hdr=>decide (h.name=r.head)) s.headers 0 with⟨hi,hn⟩|⟨i,x,hlt,hx,hp,hi,hn⟩
   ·rw[hi,find_none hn]
    cases s.headers[(-1:Int).toNat]?<;>rfl
   ·rw[hi,find_at hx hp hn]
    simp only[Nat.zero_add,Int.toNat_natCast,hx]
    rw[if_neg (by omega)]
    exact hl _
theorem SetT.to {w:World}{b:Nat}{xs ys:List ByteArray}(h:SetT w b xs)(e:∀ s,hasT xs s=hasT ys s):SetT w b ys:=by obtain⟨n,g,h,h1⟩:=h;exact⟨n,g,h,fun s=>(h1 s).trans (e s)⟩
def headL (hs:List Hdr):List ByteArray:=(hs.map (·.name)).reverse++[tMeta,⟨#[]⟩]
theorem headL_has (hs:List Hdr)(nm:ByteArray):hasT (headL hs) nm=headB hs nm:=by
 unfold hasT headL headB
 rw[List.any_append,List.any_reverse,List.any_map]
 simp only[List.any_cons,List.any_nil,Bool.or_false,Function.comp_def]
 cases decide (nm=⟨#[]⟩)<;>cases decide (nm=tMeta)<;>simp
theorem SetT.put {w:World}{b:Nat}{xs:List ByteArray}(h:SetT w b xs){s:ByteArray}(hs:Okt s)(c:Int):∃ w',(Instr.mapUpdate 108 (.map (some b)) (.string s) (.int .i64 c)).run Tryz.prog w=.ok () w'∧SetT w' b (s :: xs)∧Kept (fun k=>k=b) w w':=by
 obtain⟨n,g,hm,hg⟩:=h
 obtain⟨w',hput,hm',hgr⟩:=hm.put (s:=s) (c:=c) hs
 refine⟨w',hput,⟨_,_,hm',fun x=>?_⟩,⟨hgr.os,hgr.tape,hgr.output,hgr.size,fun k hk hs=>hgr.block k hk (fun e=>hs (Option.some.inj e))⟩⟩
 rw[hasT_cons]
 by_cases e:x=s
 ·simp[e]
 ·simp[e,hg x]
theorem SetT.look {w:World}{b:Nat}{xs:List ByteArray}(h:SetT w b xs){s:ByteArray}(hs:Okt s):∃ c,(Instr.lookup 108 (.map (some b)) (.string s) true).run Tryz.prog w=.ok (.tuple #[.int .i64 c,.bool (hasT xs s)]) w:=by
 obtain⟨n,g,hm,hg⟩:=h
 exact⟨_,by rw[hm.look hs,hg s]⟩
theorem widthsOf_any (v:Value)(s:Sch)(w:World)(hs:SchIs w v s):Calls Tryz.prog 66 #[v] w fun e w'=>∃ b m,e=.returned (.map (some b))∧w.heap.size≤b∧MapR w' b m (gOf s.metas s.headers)∧Below w.heap.size w w':=by
 obtain⟨a0,c0,a1,c1,a2,c2,a3,c3,a4,c4,a5,c5,rfl,h0,h1,h2,h3,h4,h5⟩:=hs.parts
 have hlen:s.headers.length*40≤140737488351232:=h0.2
 have HR:Hid (HdrRow w (.slice a0 s.headers.length c0) s.headers):=h0
 have HF:Hid (FldRow w (.slice a1 s.metas.length c1) s.metas):=h1
 clear h0 h1 h2 h3 h4 h5 hs
 generalize s.headers=hs at*
 generalize s.metas=ms at*
 obtain⟨n,hn⟩:∃ n,n=hs.length:=⟨_,rfl⟩
 have HL:Hid (n=hs.length):=hn
 rw[← hn] at hlen HR ⊢
 clear hn
 have hmm:=@run_makeMap Tryz.prog
 have hmf:=mf
 go_enter Tryz.func66,Tryz.ntmps66
 go_upto_region 3 with fail
 have HA:Hid (Bl w (((w.alloc (.cells #[.slice a0 n c0,.slice a1 ms.length c1,.slice a2 s.states.length c2,.slice a3 s.actions.length c3,.slice a4 s.tables.length c4,.slice a5 s.control.length c5] 34)).alloc (.map #[] 0)).alloc (.cells #[.map (some (w.heap.size+1))] 107))):=(((Below.refl _ _).alloc (Nat.le_refl _) _).alloc (by simp) _).alloc (by simp;omega) _
 have HX:Hid (Blk (((w.alloc (.cells #[.slice a0 n c0,.slice a1 ms.length c1,.slice a2 s.states.length c2,.slice a3 s.actions.length c3,.slice a4 s.tables.length c4,.slice a5 s.control.length c5] 34)).alloc (.map #[] 0)).alloc (.cells #[.map (some (w.heap.size+1))] 107)) w.heap.size #[.slice a0 n c0,.slice a1 ms.length c1,.slice a2 s.states.length c2,.slice a3 s.actions.length c3,.slice a4 s.tables.length c4,.slice a5 s.control.length c5] 34):=((Blk.new w _ 34).below ((Below.refl _ _).alloc (Nat.le_refl _) _)).below ((Below.refl _ _).alloc (Nat.le_refl _) _)
 have HY:Hid (Blk (((w.alloc (.cells #[.slice a0 n c0,.slice a1 ms.length c1,.slice a2 s.states.length c2,.slice a3 s.actions.length c3,.slice a4 s.tables.length c4,.slice a5 s.control.length c5] 34)).alloc (.map #[] 0)).alloc (.cells #[.map (some (w.heap.size+1))] 107)) (w.heap.size+1+1) #[.map (some (w.heap.size+1))] 107):=by
  have:=Blk.new ((w.alloc (.cells #[.slice a0 n c0,.slice a1 ms.length c1,.slice a2 s.states.length c2,.slice a3 s.actions.length c3,.slice a4 s.tables.length c4,.slice a5 s.control.length c5] 34)).alloc (.map #[] 0)) #[.map (some (w.heap.size+1))] 107
  show Blk _ _ _ _
  simpa using this
 have HM:Hid (MapR (((w.alloc (.cells #[.slice a0 n c0,.slice a1 ms.length c1,.slice a2 s.states.length c2,.slice a3 s.actions.length c3,.slice a4 s.tables.length c4,.slice a5 s.control.length c5] 34)).alloc (.map #[] 0)).alloc (.cells #[.map (some (w.heap.size+1))] 107)) (w.heap.size+1) 0 (fun _=>none)):=by
  have:=(MapR.new (w.alloc (.cells #[.slice a0 n c0,.slice a1 ms.length c1,.slice a2 s.states.length c2,.slice a3 s.actions.length c3,.slice a4 s.tables.length c4,.slice a5 s.control.length c5] 34))).below ((Below.refl _ _).alloc (Nat.le_refl _) (.cells #[.map (some (w.heap.size+1))] 107))
  show MapR _ _ _ _
  simpa using this
 obtain⟨mb,hmb⟩:∃ mb,mb=w.heap.size+1:=⟨_,rfl⟩
 have hmb1:w.heap.size<mb:=by omega
 obtain⟨pb,hpb⟩:∃ pb,pb=mb+1:=⟨_,rfl⟩
 have hpb1:mb<pb:=by omega
 rw[← hmb] at HA HX HY HM ⊢
 rw[← hpb] at HY ⊢
 generalize (((w.alloc _).alloc (.map #[] 0)).alloc _)=W at HA HX HY HM ⊢
 clear hmb hpb
 have x1:=HX.out.cell 1 (v:=.slice a1 ms.length c1) rfl
 have CN:Hid (Cs 149 #[.string ⟨#[109,101,116,97]⟩,.slice a1 ms.length c1,.pointer (some ⟨pb,0,none⟩)] W fun e w'=>e=.returned (.tuple #[])∧Kept (fun k=>k=mb) W w'∧∃ m',MapR w' mb m' (noteG tMeta ms (fun _=>none))):=note_any tMeta (by unfold Okt;decide) _ ms W (HF.out.pres (pres_below HA.out)) pb mb 0 _ HY.out HM.out
 go_wp2_with fail
 refine CN.out.mono ?_
 rintro e w1 ⟨rfl,hk1,m1,hm1⟩
 rw[gOf_start] at hm1
 have HM1:Hid (MapR w1 mb m1 (gOf ms [])):=hm1
 have HX1:Hid (Blk w1 w.heap.size #[.slice a0 n c0,.slice a1 ms.length c1,.slice a2 s.states.length c2,.slice a3 s.actions.length c3,.slice a4 s.tables.length c4,.slice a5 s.control.length c5] 34):=HX.out.kept hk1 (by show ¬ _=_;omega)
 have HY1:Hid (Blk w1 pb #[.map (some mb)] 107):=HY.out.kept hk1 (by show ¬ _=_;omega)
 have HA1:Hid (Bl w w1):=keptBelow HA.out hk1 (by omega)
 have hw1:=HA1.out.size
 have hbl:=hm1.lt
 have hpl:=HY1.out.lt
 obtain⟨w2,hput2,hs2,hk2⟩:=(SetT.new w1).put (s:=⟨#[]⟩) (by unfold Okt;decide) 0
 obtain⟨w3,hput3,hs3,hk3⟩:=hs2.put (s:=⟨#[109,101,116,97]⟩) (by unfold Okt;decide) 0
 have HK3:Hid (Kept (fun k=>k=w1.heap.size) (w1.alloc (.map #[] 0)) w3):=hk2.trans hk3
 have HS3:Hid (SetT w3 w1.heap.size (headL [])):=hs3
 have HB3:Hid (Bl w1 w3):=((Below.refl _ _).alloc (Nat.le_refl _) _).trans (HK3.out.below (by simp) (fun k e=>by omega))
 clear hk1 hm1 CN HX HY HM x1 hs2 hk2 hs3 hk3 HF
 go_upto_region 5 with fail
 have x0:=(HX1.out.below HB3.out).cell 0 (v:=.slice a0 n c0) rfl
 have HX3:Hid (Blk w3 w.heap.size #[.slice a0 n c0,.slice a1 ms.length c1,.slice a2 s.states.length c2,.slice a3 s.actions.length c3,.slice a4 s.tables.length c4,.slice a5 s.control.length c5] 34):=HX1.out.below HB3.out
 have HY3:Hid (Blk w3 pb #[.map (some mb)] 107):=HY1.out.below HB3.out
 have HM3:Hid (MapR w3 mb m1 (gOf ms (hs.take 0))):=HM1.out.below HB3.out
 have HA3:Hid (Bl w w3):=bst HA1.out HB3.out (Nat.le_refl _)
 obtain⟨sb,hsb⟩:∃ sb,sb=w1.heap.size:=⟨_,rfl⟩
 rw[← hsb] at HS3 hw1 hbl hpl ⊢
 clear hput2 hput3 HK3 HB3 HX1 HY1 HM1 HA1 hsb HA hmm
 go_wp2_with fail
 go_loopw [21] (fun i wr=>∃(k m:Nat),k≤n∧i=.int .i64 k∧Below w.heap.size w wr∧Blk wr pb #[.map (some mb)] 107∧MapR wr mb m (gOf ms (hs.take k))∧SetT wr sb (headL (hs.take k))) (fun i _=>n - (intOf i).toNat)
 case atStart=>exact⟨0,m1,by omega,rfl,HA3.out,HY3.out,HM3.out,HS3.out⟩
 case round=>
  obtain⟨k,m,hk,rfl,hb,hpbk,hm,hset⟩:=hrel
  by_cases hlt:k<n
  ·obtain⟨y,hy⟩:=gE HL.out hlt
   obtain⟨b,o,cs,rfl,_,hcc,vf,rfl,hok,hfr⟩:=HR.out.1.at hy
   obtain⟨fa,fc,rfl,_⟩:=hfr.1.slice
   have q0:wr.cell? ⟨b,o+k*2,none⟩=some (.string y.name):=by have:=pres_below hb _ _ (hcc 0 (.string y.name) rfl);simpa using this
   have q1:wr.cell? ⟨b,o+k*2+1,none⟩=some (.slice fa y.fields.length fc):=by have:=pres_below hb _ _ (hcc 1 (.slice fa y.fields.length fc) rfl);simpa using this
   have HB:Hid (Bl w wr):=hb
   have HS:Hid (SetT wr sb (headL (hs.take k))):=hset
   have HMr:Hid (MapR wr mb m (gOf ms (hs.take k))):=hm
   have HPr:Hid (Blk wr pb #[.map (some mb)] 107):=hpbk
   have hsl:=hset.lt
   have hml:=hm.lt
   have hpl:=hpbk.lt
   clear hb hcc hset hm hpbk x0
   go_upto_region 8 with fail
   have HA:Hid (Bl wr (wr.alloc (.cells #[.string y.name,.slice fa y.fields.length fc] 60))):=(Below.refl _ _).alloc (Nat.le_refl _) _
   have HX:Hid (Blk (wr.alloc (.cells #[.string y.name,.slice fa y.fields.length fc] 60)) wr.heap.size #[.string y.name,.slice fa y.fields.length fc] 60):=Blk.new wr _ 60
   generalize (wr.alloc _)=W at HA HX ⊢
   obtain⟨xb,hxb⟩:∃ xb,xb=wr.heap.size:=⟨_,rfl⟩
   rw[← hxb] at HX hsl hml hpl ⊢
   clear hxb
   have x0:=HX.out.cell 0 (v:=.string y.name) rfl
   have HSW:Hid (SetT W sb (headL (hs.take k))):=HS.out.below HA.out
   obtain⟨lc,hlook⟩:=HSW.out.look hok
   rw[headL_has] at hlook
   have HG:Hid (gOf ms (hs.take (k+1))=if headB (hs.take k) y.name=true then gOf ms (hs.take k) else noteG y.name y.fields (gOf ms (hs.take k))):=gOf_step hy
   have HT:Hid (hs.take (k+1)=hs.take k++[y]):=by show _=_;rw[List.take_add_one,hy];rfl
   have HBW:Hid (Bl w W):=bst HB.out HA.out (Nat.le_refl _)
   have HMW:Hid (MapR W mb m (gOf ms (hs.take k))):=HMr.out.below HA.out
   have HPW:Hid (Blk W pb #[.map (some mb)] 107):=HPr.out.below HA.out
   have HHB:Hid (headB (hs.take k) y.name=headB (hs.take k) y.name):=rfl
   cases hhb:headB (hs.take k) y.name with
   | true=>
    rw[hhb] at hlook
    have HE:Hid (gOf ms (hs.take (k+1))=gOf ms (hs.take k)):=by show _=_;rw[HG.out,if_pos hhb]
    have HS':Hid (SetT W sb (headL (hs.take (k+1)))):=by
     refine HSW.out.to (fun nm=>?_)
     rw[HT.out]
     unfold headL
     rw[List.map_append,List.reverse_append]
     simp only[List.map_cons,List.map_nil,List.reverse_cons,List.reverse_nil,List.nil_append,List.cons_append,hasT_cons]
     by_cases e:nm=y.name
     ·have:=headL_has (hs.take k) nm
      unfold headL at this
      rw[this,e,hhb];simp
     ·simp[e]
    clear HG HHB hhb
    go_wp2
    exact⟨⟨k+1,m,by omega,by go_num,HBW.out,HPW.out,by rw[HE.out];exact HMW.out,HS'.out⟩,by simp only[intOf];omega⟩
   | false=>
    rw[hhb] at hlook
    have HE:Hid (gOf ms (hs.take (k+1))=noteG y.name y.fields (gOf ms (hs.take k))):=by show _=_;rw[HG.out,if_neg (by rw[hhb];decide)]
    obtain⟨w4,hput4,hs4,hk4⟩:=HSW.out.put hok (k:Int)
    have HS4:Hid (SetT w4 sb (headL (hs.take (k+1)))):=by
     refine hs4.to (fun nm=>?_)
     rw[HT.out]
     unfold headL
     rw[List.map_append,List.reverse_append]
     rfl
    have hne1:¬ xb=sb:=by omega
    have hne2:¬ mb=sb:=by omega
    have hne3:¬ pb=sb:=by omega
    have HX4:Hid (Blk w4 xb #[.string y.name,.slice fa y.fields.length fc] 60):=HX.out.kept hk4 hne1
    have HM4:Hid (MapR w4 mb m (gOf ms (hs.take k))):=HMW.out.kept hk4 hne2
    have HP4:Hid (Blk w4 pb #[.map (some mb)] 107):=HPW.out.kept hk4 hne3
    have HB4:Hid (Bl w w4):=keptBelow HBW.out hk4 (by omega)
    have CN:Hid (Cs 149 #[.string y.name,.slice fa y.fields.length fc,.pointer (some ⟨pb,0,none⟩)] w4 fun e w'=>e=.returned (.tuple #[])∧Kept (fun k=>k=mb) w4 w'∧∃ m',MapR w' mb m' (noteG y.name y.fields (gOf ms (hs.take k)))):=note_any y.name hok _ y.fields w4 (hfr.pres (pres_below HB4.out)) pb mb m _ HP4.out HM4.out
    clear HG HHB hhb hs4 hk4
    go_upto_region 11 with fail
    have z0:=HX4.out.cell 0 (v:=.string y.name) rfl
    have z1:=HX4.out.cell 1 (v:=.slice fa y.fields.length fc) rfl
    clear hput4 hlook x0 q0 q1
    go_wp2_with fail
    refine CN.out.mono ?_
    rintro e w5 ⟨rfl,hk5,m5,hm5⟩
    have HS5:Hid (SetT w5 sb (headL (hs.take (k+1)))):=HS4.out.kept hk5 (by show ¬ _=_;omega)
    have HP5:Hid (Blk w5 pb #[.map (some mb)] 107):=HP4.out.kept hk5 (by show ¬ _=_;omega)
    have HB5:Hid (Bl w w5):=keptBelow HB4.out hk5 (by omega)
    have HM5:Hid (MapR w5 mb m5 (gOf ms (hs.take (k+1)))):=by show MapR _ _ _ _;rw[HE.out];exact hm5
    clear hk5 hm5
    go_wp2
    exact⟨⟨k+1,m5,by omega,by go_num,HB5.out,HP5.out,HM5.out,HS5.out⟩,by simp only[intOf];omega⟩
  ·have e:k=n:=by omega
   subst e
   have HE:Hid (Bl w wr∧MapR wr mb m (gOf ms hs)):=by
    have:=hm
    rw[List.take_of_length_le (by rw[← HL.out];exact Nat.le_refl _)] at this
    exact⟨hb,this⟩
   have p0:=hpbk.cell 0 (v:=.map (some mb)) rfl
   clear hm hb hset hpbk
   go_wp2
   go_ret
   exact⟨mb,m,rfl,by omega,HE.out.2,HE.out.1⟩
theorem need_yes (cb:Nat)(r:Int)(w:World):Calls Tryz.prog 145 #[.pointer (some ⟨cb,0,none⟩),.bool true,.int .i64 r] w fun e w'=>e=.returned (.tuple #[])∧w'=w:=by
 go_enter Tryz.func145,Tryz.ntmps145
 go_wp2
 first|go_end0|refine bodyPost_ret (results_none rfl _ _ _) rfl ?_
 all_goals exact⟨rfl,rfl⟩
theorem need_no (cb:Nat)(r:Int)(th:ByteArray)(w:World)(hc:w.cell? ⟨cb,6,none⟩=some (.string th)):Calls Tryz.prog 145 #[.pointer (some ⟨cb,0,none⟩),.bool false,.int .i64 r] w fun e w'=>e=.panicked [pf r th]∧w'=w:=by
 go_enter Tryz.func145,Tryz.ntmps145
 go_wp2
 exact⟨rfl,rfl,rfl⟩
def SetC (w:World)(b:Nat)(xs:List (Nat × Nat)):Prop:=∃ n g,MapC w b n g∧∀ s,(g s).isSome=xs.contains s
theorem SetC.new (w:World):SetC (w.alloc (.map #[] 0)) w.heap.size []:=⟨0,_,MapC.new w,fun _=>rfl⟩
theorem SetC.lt {w:World}{b:Nat}{xs:List (Nat × Nat)}(h:SetC w b xs):b<w.heap.size:=by obtain⟨n,g,h,_⟩:=h;exact h.lt
theorem SetC.kept {S:Nat→Prop}{w w':World}{b:Nat}{xs:List (Nat × Nat)}(h:SetC w b xs)(hk:Kept S w w')(hb:¬ S b):SetC w' b xs:=by obtain⟨n,g,h,e⟩:=h;exact⟨n,g,h.kept hk hb,e⟩
theorem SetC.below {w w':World}{b:Nat}{xs:List (Nat × Nat)}(h:SetC w b xs)(hk:Below w.heap.size w w'):SetC w' b xs:=by obtain⟨n,g,h,e⟩:=h;exact⟨n,g,h.below hk,e⟩
theorem SetC.put {w:World}{b:Nat}{xs:List (Nat × Nat)}(h:SetC w b xs){y:Nat × Nat}(h1:Is128 y.1)(h2:Is128 y.2)(c:Int):∃ w',(Instr.mapUpdate 227 (.map (some b)) (CasK y) (.int .i64 c)).run Tryz.prog w=.ok () w'∧SetC w' b (y :: xs)∧Kept (fun k=>k=b) w w':=by
 obtain⟨n,g,hm,hg⟩:=h
 obtain⟨w',hput,hm',hgr⟩:=hm.put (y:=y) (c:=c) h1 h2
 refine⟨w',hput,⟨_,_,hm',fun x=>?_⟩,⟨hgr.os,hgr.tape,hgr.output,hgr.size,fun k hk hs=>hgr.block k hk (fun e=>hs (Option.some.inj e))⟩⟩
 rw[List.contains_cons]
 by_cases e:x=y
 ·simp[e]
 ·rw[if_neg e,hg x]
  simp[e]
theorem hasCas_any {w:World}{b:Nat}{xs:List (Nat × Nat)}(h:SetC w b xs)(x:Nat × Nat)(h1:Is128 x.1)(h2:Is128 x.2):Calls Tryz.prog 201 #[.map (some b),.agg #[.int .u64 (hiOf x.1),.int .u64 (loOf x.1),.int .u64 (hiOf x.2),.int .u64 (loOf x.2),.string ⟨#[]⟩]] w fun e w'=>e=.returned (.bool (xs.contains x))∧Below w.heap.size w w':=by
 obtain⟨n,g,hm,hg⟩:=h
 have HA:Hid (Bl w (w.alloc (.cells #[.int .u64 (hiOf x.1),.int .u64 (loOf x.1),.int .u64 (hiOf x.2),.int .u64 (loOf x.2),.string ⟨#[]⟩] 165))):=(Below.refl _ _).alloc (Nat.le_refl _) _
 have HX:Hid (Blk (w.alloc (.cells #[.int .u64 (hiOf x.1),.int .u64 (loOf x.1),.int .u64 (hiOf x.2),.int .u64 (loOf x.2),.string ⟨#[]⟩] 165)) w.heap.size #[.int .u64 (hiOf x.1),.int .u64 (loOf x.1),.int .u64 (hiOf x.2),.int .u64 (loOf x.2),.string ⟨#[]⟩] 165):=Blk.new _ _ _
 have HL:Hid ((Instr.lookup 227 (.map (some b)) (.agg #[.int .u64 (hiOf x.1),.int .u64 (loOf x.1),.int .u64 (hiOf x.2),.int .u64 (loOf x.2),.string ⟨#[]⟩]) true).run Tryz.prog (w.alloc (.cells #[.int .u64 (hiOf x.1),.int .u64 (loOf x.1),.int .u64 (hiOf x.2),.int .u64 (loOf x.2),.string ⟨#[]⟩] 165))=.ok (.tuple #[.int .i64 ((g x).getD 0),.bool (xs.contains x)]) (w.alloc (.cells #[.int .u64 (hiOf x.1),.int .u64 (loOf x.1),.int .u64 (hiOf x.2),.int .u64 (loOf x.2),.string ⟨#[]⟩] 165))):=by
  have:=(hm.below HA.out).look h1 h2
  rw[hg x] at this
  exact this
 clear hm hg
 generalize (g x).getD 0=c at*
 generalize xs.contains x=k at*
 go_enter Tryz.func201,Tryz.ntmps201
 go_upto_region 1 with fail
 generalize (w.alloc _)=W at HA HX HL ⊢
 obtain⟨x0,x1,x2,x3,x4⟩:=HX.out.c5
 have L:=HL.out
 go_wp2
 go_ret
 exact⟨rfl,HA.out⟩
abbrev tAcc:ByteArray:=⟨#[97,99,99,101,112,116]⟩
abbrev tRej:ByteArray:=⟨#[114,101,106,101,99,116]⟩
def nextB (g:ByteArray→Option Int)(nx:ByteArray):Bool:=decide (nx=tAcc)||(decide (nx=tRej)||(g nx).isSome)
theorem isNext_any {w:World}{b n:Nat}{g:ByteArray→Option Int}(h:MapT w b n g)(nx:ByteArray)(hs:Okt nx):Calls Tryz.prog 202 #[.string nx,.map (some b)] w fun e w'=>e=.returned (.bool (nextB g nx))∧w'=w:=by
 have C:Hid (Cs 198 #[.map (some b),.string nx] w fun e w'=>e=.returned (.bool (g nx).isSome)∧w'=w):=hasMap_any h nx hs
 have e1:=lit_eq nx [97,99,99,101,112,116]
 have e2:=lit_eq nx [114,101,106,101,99,116]
 have HN:Hid (nextB g nx=(decide (nx=tAcc)||(decide (nx=tRej)||(g nx).isSome))):=rfl
 generalize nextB g nx=R at*
 generalize (g nx).isSome=k at*
 by_cases h1:nx=tAcc
 ·have HR:Hid (R=true):=by show _=_;rw[HN.out,decide_eq_true h1];rfl
  rw[decide_eq_true h1] at e1
  clear HN h1
  go_enter Tryz.func202,Tryz.ntmps202
  go_wp2
  go_ret
  exact⟨by rw[HR.out];rfl,rfl⟩
 ·rw[decide_eq_false h1] at e1
  by_cases h2:nx=tRej
  ·have HR:Hid (R=true):=by show _=_;rw[HN.out,decide_eq_true h2];simp
   rw[decide_eq_true h2] at e2
   clear HN h1 h2
   go_enter Tryz.func202,Tryz.ntmps202
   go_wp2
   go_ret
   exact⟨by rw[HR.out];rfl,rfl⟩
  ·have HR:Hid (R=k):=by show _=_;rw[HN.out,decide_eq_false h1,decide_eq_false h2];rfl
   rw[decide_eq_false h2] at e2
   clear HN h1 h2
   go_enter Tryz.func202,Tryz.ntmps202
   go_wp2_with fail
   refine C.out.mono ?_
   rintro e w1 ⟨rfl,hw1⟩
   obtain rfl:=Eq.symm hw1
   go_wp2
   go_ret
   exact⟨by rw[HR.out];rfl,rfl⟩
end Go.Proofs.YtmbpclknhkbbkaaGreat
