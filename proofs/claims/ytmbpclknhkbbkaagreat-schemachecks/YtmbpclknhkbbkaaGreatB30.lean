/- A range over a function whose iterator. -/
import Derived.RangeFuncNested
import Derived.RangeFuncLeaves
import Derived.Sort.BigQuietIn
import Derived.Test.YtmbpclknhkbbkaaGreatB09
import Derived.Shelf.RegionOpen
import Derived.Sort.CutIn
import Derived.OwnWalkIn
import Derived.TacticsInMore
import Derived.LoopNIn
import Derived.LoopIn
import Derived.RangeFuncCalls
set_option linter.unusedSimpArgs false
set_option linter.unusedVariables false
set_option maxHeartbeats 4000000
set_option maxRecDepth 100000
namespace Go.Proofs.YtmbpclknhkbbkaaGreat
open Go.RowKit
def Low {β:Type}(m:Nat)(J:β→World→Prop):Prop:=∀ s A C,Kept (fun k=>m≤k) A C→J s A→J s C
theorem Low.mono {β:Type}{m m':Nat}{J:β→World→Prop}(h:Low m J)(hm:m≤m'):Low m' J:=fun s A C hk hj=>h s A C (hk.mono (fun k _ e=>Nat.le_trans hm e)) hj
theorem Low.and {β:Type}{m:Nat}{I J:β→World→Prop}(h:Low m I)(h':Low m J):Low m (fun s W=>I s W∧J s W):=fun s A C hk hj=>⟨h s A C hk hj.1,h' s A C hk hj.2⟩
theorem low_blk {β:Type}(m b:Nat)(cs:β→Array Value)(t:TypeId)(hb:b<m):Low m (fun s W=>Blk W b (cs s) t):=fun s A C hk hj=>hj.kept hk (by omega)
theorem low_pure {β:Type}(m:Nat)(p:β→Prop):Low m (fun s (_:World)=>p s):=fun _ _ _ _ h=>h
theorem low_kept {β:Type}(m:Nat)(S:Nat→Prop)(w:World)(hm:w.heap.size≤m):Low m (fun(_:β) W=>Kept S w W):=fun _ A C hk hj=>
 ⟨hk.os.trans hj.os,hk.tape.trans hj.tape,hk.output.trans hj.output,Nat.le_trans hj.size hk.size,fun k hk' hs=>(hk.block k (Nat.lt_of_lt_of_le hk' hj.size) (by omega)).trans (hj.block k hk' hs)⟩
theorem low_heap {β:Type}(m l:Nat)(o:Obj)(hl:l<m):Low m (fun(_:β)(W:World)=>W.heap[l]?=some o):=fun _ A C hk hj=>
 (hk.block l (Array.getElem?_eq_some_iff.1 hj).1 (by omega)).trans hj
def Tells {α:Type}(P:Program)(g:Nat)(lb:Array Value)(encs:α→Array Value)(xs:List α)(S:Nat→Prop)(w:World):Prop:=
 ∀(n l:Nat) (J Jx:List α→World→Prop) (W:World),Below w.heap.size w W→l<W.heap.size→Low W.heap.size J→Low W.heap.size Jx→
  (∀ pre x W1, pre ++ [x] <+: xs → J pre W1 → YieldAt Fence.wide (n - 1) P l (encs x) W1 fun e W' =>
    (e = .returned (.bool true) ∧ J (pre ++ [x]) W' ∧ Kept S W1 W') ∨ (e = .returned (.bool false) ∧ Jx (pre ++ [x]) W' ∧ Kept (fun k => S k ∨ k = l) W1 W')) →
  J [] W→
  CallsIn Fence.wide n P g (#[.func (.yield l) #[] #[]]++lb) W fun e W'=>(∃ v,e=.returned v)∧(J xs W'∨∃ pre,pre <+: xs∧Jx pre W')
def roundOf {α:Type}(S:Nat→Prop)(I:List α→World→Prop)(Ix:Code→List α→World→Prop)(xs:List α)(W:World):Exit→Act→World→Prop
 | .normal,_,W'=>Kept S W W'∧I xs W'
 | .ret,_,W'=>Kept S W W'∧Ix .ret xs W'
 | .exit id,_,W'=>Kept S W W'∧Ix (.exit id) xs W'
 | .goto t,_,W'=>Kept S W W'∧Ix (.goto t) xs W'
 | .panic _,_,_=>False
 | .outgrown,_,_=>False
theorem kept_putObj (S:Nat→Prop)(W:World)(l:Nat)(o:Obj)(hl:S l):Kept S W (W.putObj l o):=
 have h:=grownBy_putObj' W l o
 ⟨h.os,h.tape,h.output,h.size,fun k hk hs=>h.block k hk (fun e=>hs (by cases e;exact hl))⟩
theorem range_core {α:Type}{ro:Option Nat}{n:Nat}{P:Program}{g:Operand}{ps:Array Tmp}{assign body:Code}{Q:Exit→Act→World→Prop}{a:Act}{w:World}
  {gf:Nat} {lb:Array Value} (hg:a.eval g=.func (.func gf) #[] lb) (eg:∀ args w,(callFunc gf args).run P w=.ok (.enter gf args) w)
  {l dB:Nat} {mark:List Deferred} {W1:FuncId→World}
  (he:∀ fn,(Instr.enterLoop fn a.tmps ps assign body ro).run P w=.ok (l,mark) (W1 fn))
  (hb1:∀ fn,Below w.heap.size w (W1 fn)) (hl1:∀ fn,(W1 fn).heap[l]?=some (.loop { state:=.ready,pending:=none,fn,tmps:=a.tmps,params:=ps,assign,body,defers:=dB }))
  (hlw:w.heap.size≤l)
  {encs:α→Array Value} {xs:List α} {S:Nat→Prop} (hS:∀ k,S k→k<w.heap.size) {w0:World} (hseq:Tells P gf lb encs xs S w0) (hw0:Below w0.heap.size w0 w) (hps:∀ x,(encs x).size=ps.size)
  (I:List α→World→Prop) (Ix:Code→List α→World→Prop) (hI:Low w.heap.size I) (hIx:∀ c,Low w.heap.size (Ix c)) (h0:I [] w)
  (hround : ∀ (l : Nat) (pre : List α) (x : α) (W : World) (K : Act → World → Prop), w.heap.size ≤ l → l < W.heap.size → w.heap.size ≤ W.heap.size → pre ++ [x] <+: xs → I pre W →
    (∀ a' Wa, Kept (fun _ => False) W Wa → (∀ Wb, Kept (fun k => k = l) Wa Wb → (∃ r, Wb.heap[l]? = some (.loop r)) → body.wpIn ({ Fence.wide with round := some l }) (n - 1 - 1) P (roundOf S I Ix (pre ++ [x]) Wb) a' Wb) → K a' Wa) →
    assign.wpIn ({ Fence.wide with round := some l }) (n - 1 - 1) P (Exit.then K (fun _ _ _ => False)) { tmps := (ps.zip (encs x)).foldl (fun t (p, v) => t.setIfInBounds p v) a.tmps, defers := [] } W)
  (hdone:∀(fn:FuncId) (W:World),I xs W→Kept (fun k=>S k∨k=l) (W1 fn) W→Q .normal { a with defers:=mark++a.defers } W)
  (hstop:∀(fn:FuncId) (c:Code) (pre:List α) (W:World),pre <+: xs→Ix c pre W→Kept (fun k=>S k∨k=l) (W1 fn) W→c.wpIn { Fence.wide with round:=ro } n P Q { a with defers:=mark++a.defers } W):
  (Code.rangeFunc g ps assign body).wpIn { Fence.wide with round:=ro } n P Q a w:=by
 refine wpIn_rangeFunc ?_
 intro fn hfn
 have hls:l<(W1 fn).heap.size:=(Array.getElem?_eq_some_iff.1 (hl1 fn)).1
 obtain⟨rec,hrec⟩:∃ rec:LoopState→Option Code→Loop,rec=fun st pe=>{ state:=st,pending:=pe,fn,tmps:=a.tmps,params:=ps,assign,body,defers:=dB }:=⟨_,rfl⟩
 have hl1':(W1 fn).heap[l]?=some (.loop (rec .ready none)):=by rw[hrec];exact hl1 fn
 have hbw:=hb1 fn
 have hnS:¬ S l:=fun e=>by have:=hS l e;omega
 refine⟨l,mark,W1 fn,{ target:=.fn (.func gf) lb,args:=#[.func (.yield l) #[] #[]] },W1 fn,gf,#[.func (.yield l) #[] #[]]++lb,W1 fn,he fn,?_,fun _ _=>trivial,?_,fun h=>by simp[Fence.wide] at h,?_⟩
 ·simp only[resolve,hg]
  simp[go_sem]
 ·simp[invoke,go_sem,eg]
 have hIW:I [] (W1 fn):=hI _ _ _ (⟨hbw.os,hbw.tape,hbw.output,hbw.size,fun k hk hs=>hbw.block k (by omega)⟩) h0
 have hlow:∀ s,Low (W1 fn).heap.size (fun(pre:List α) W=>I pre W∧W.heap[l]?=some (.loop s)∧Kept (fun k=>S k∨k=l) (W1 fn) W):=fun s=>
  (hI.mono hbw.size).and ((low_heap _ l _ hls).and (low_kept _ _ _ (Nat.le_refl _)))
 refine CallsIn.mono (R:=fun e W'=>(∃ v,e=.returned v)∧((I xs W'∧W'.heap[l]?=some (.loop (rec .ready none))∧Kept (fun k=>S k∨k=l) (W1 fn) W')∨∃ pre,pre <+: xs∧∃ c,Ix c pre W'∧W'.heap[l]?=some (.loop (rec .done (some c)))∧Kept (fun k=>S k∨k=l) (W1 fn) W')) ?_ ?_
 ·refine hseq (n - 1) l (fun pre W=>I pre W∧W.heap[l]?=some (.loop (rec .ready none))∧Kept (fun k=>S k∨k=l) (W1 fn) W)
   (fun pre W=>∃ c,Ix c pre W∧W.heap[l]?=some (.loop (rec .done (some c)))∧Kept (fun k=>S k∨k=l) (W1 fn) W)
   (W1 fn) (hw0.trans (hbw.mono hw0.size)) hls (hlow _)
   (fun s A C hk hj => by
     obtain ⟨c, h1, h2, h3⟩ := hj
     exact ⟨c, ((hIx c).mono hbw.size) s A C hk h1, low_heap (β := Unit) _ l _ hls () A C hk h2, low_kept (β := Unit) _ _ _ (Nat.le_refl _) () A C hk h3⟩)
   ?_ ⟨hIW,hl1',Kept.refl _ _⟩
  rintro pre x W hpre ⟨hi,hl,hkW⟩
  have hlt:l<W.heap.size:=(Array.getElem?_eq_some_iff.1 hl).1
  have hy:=run_yield (P:=P) (args:=encs x) hl (by rw[hrec];exact hps x)
  rw[hrec] at hy
  refine⟨fn,_,assign,body,hy,roundIn_of_wpIn hfn (hround l pre x W _ hlw hlt (Nat.le_trans hbw.size hkW.size) hpre hi ?_)⟩
  clear hy
  intro a' Wa hka hbody
  have hla:Wa.heap[l]?=some (.loop (rec .ready none)):=(hka.block l hlt id).trans hl
  have hlta:l<Wa.heap.size:=(Array.getElem?_eq_some_iff.1 hla).1
  refine⟨_,run_beginRound hla (by rw[hrec]),?_⟩
  obtain⟨Wb,hWb⟩:∃ Wb,Wa.putObj l (.loop { rec .ready none with state:=.busy })=Wb:=⟨_,rfl⟩
  have hgb:=grownBy_putObj' Wa l (.loop { rec .ready none with state:=.busy })
  rw[hWb] at hgb
  have hlb:Wb.heap[l]?=some (.loop { rec .ready none with state:=.busy }):=by rw[← hWb];exact World.putObj_heap_same hlta
  rw[hWb]
  refine wpIn_mono (hbody Wb ⟨hgb.os,hgb.tape,hgb.output,hgb.size,fun k hk hs=>hgb.block k hk (fun e=>hs (by cases e;rfl))⟩ ⟨_,hlb⟩) ?_
  have fin:∀(jump:Option Code) (W3:World),Kept S Wb W3→
    (Instr.endRound l jump).run P W3=.ok (.bool jump.isNone) (W3.putObj l (.loop (rec (if jump.isNone then .ready else .done) jump)))∧
    (W3.putObj l (.loop (rec (if jump.isNone then .ready else .done) jump))).heap[l]?=some (.loop (rec (if jump.isNone then .ready else .done) jump))∧
    Kept (fun k=>S k∨k=l) W (W3.putObj l (.loop (rec (if jump.isNone then .ready else .done) jump)))∧
    Kept (fun k=>w.heap.size≤k) W3 (W3.putObj l (.loop (rec (if jump.isNone then .ready else .done) jump))):=fun jump W3 hk3=>by
   have hl3:W3.heap[l]?=some (.loop { rec .ready none with state:=.busy }):=(hk3.block l (Array.getElem?_eq_some_iff.1 hlb).1 hnS).trans hlb
   have hr:=run_endRound (P:=P) jump hl3
   have hk4:=kept_putObj (fun k=>S k∨k=l) W3 l (.loop (rec (if jump.isNone then .ready else .done) jump)) (.inr rfl)
   refine⟨by rw[hrec] at hr ⊢;exact hr,World.putObj_heap_same (Array.getElem?_eq_some_iff.1 hl3).1,?_,kept_putObj _ W3 l _ hlw⟩
   have s1:Kept (fun k=>S k∨k=l) W Wa:=hka.mono (fun k _ e=>e.elim)
   have s2:Kept (fun k=>S k∨k=l) Wa Wb:=⟨hgb.os,hgb.tape,hgb.output,hgb.size,fun k hk hs=>hgb.block k hk (fun e=>hs (.inr (by cases e;rfl)))⟩
   have s3:Kept (fun k=>S k∨k=l) Wb W3:=hk3.mono (fun k _ e=>.inl e)
   exact((s1.trans s2).trans s3).trans hk4
  rintro e a3 W3 hp
  cases e with
  | normal=>
   obtain⟨hk3,hi3⟩:=hp
   obtain⟨hr,hl4,hk4,hk5⟩:=fin none W3 hk3
   refine⟨_,_,hr,.inl ⟨rfl,⟨hI _ _ _ hk5 hi3,hl4,hkW.trans hk4⟩,?_⟩⟩
   refine⟨hk4.os,hk4.tape,hk4.output,hk4.size,fun k hk hs=>?_⟩
   by_cases e:k=l
   ·subst e;exact hl4.trans hl.symm
   ·exact hk4.block k hk (fun e'=>e'.elim hs e)
  | ret=>
   obtain⟨hk3,hi3⟩:=hp
   obtain⟨hr,hl4,hk4,hk5⟩:=fin (some .ret) W3 hk3
   exact⟨_,_,hr,.inr ⟨rfl,⟨.ret,(hIx _) _ _ _ hk5 hi3,hl4,hkW.trans hk4⟩,hk4⟩⟩
  | exit id=>
   obtain⟨hk3,hi3⟩:=hp
   obtain⟨hr,hl4,hk4,hk5⟩:=fin (some (.exit id)) W3 hk3
   exact⟨_,_,hr,.inr ⟨rfl,⟨.exit id,(hIx _) _ _ _ hk5 hi3,hl4,hkW.trans hk4⟩,hk4⟩⟩
  | goto t=>
   obtain⟨hk3,hi3⟩:=hp
   obtain⟨hr,hl4,hk4,hk5⟩:=fin (some (.goto t)) W3 hk3
   exact⟨_,_,hr,.inr ⟨rfl,⟨.goto t,(hIx _) _ _ _ hk5 hi3,hl4,hkW.trans hk4⟩,hk4⟩⟩
  | panic ch=>exact hp.elim
  | outgrown=>exact hp.elim
 ·rintro e W2 ⟨⟨v,rfl⟩,(⟨hi,hl,hk⟩|⟨pre,hpre,c,hi,hl,hk⟩)⟩
  ·refine⟨none,_,by have:=run_endLoop (P:=P) hl (by rw[hrec];simp);rw[hrec] at this;exact this,hdone fn _ (hI _ _ _ (kept_putObj _ W2 l _ hlw) hi) (hk.trans (kept_putObj _ W2 l _ (.inr rfl)))⟩
  ·refine⟨some c,_,by have:=run_endLoop (P:=P) hl (by rw[hrec];simp);rw[hrec] at this;exact this,hstop fn c pre _ hpre ((hIx c) _ _ _ (kept_putObj _ W2 l _ hlw) hi) (hk.trans (kept_putObj _ W2 l _ (.inr rfl)))⟩
theorem range_outer {α:Type}{n:Nat}{P:Program}{g:Operand}{ps:Array Tmp}{assign body:Code}{Q:Exit→Act→World→Prop}{a:Act}{w:World}
  {gf:Nat} {lb:Array Value} (hg:a.eval g=.func (.func gf) #[] lb) (eg:∀ args w,(callFunc gf args).run P w=.ok (.enter gf args) w)
  {encs:α→Array Value} {xs:List α} {S:Nat→Prop} (hS:∀ k,S k→k<w.heap.size) {w0:World} (hseq:Tells P gf lb encs xs S w0) (hw0:Below w0.heap.size w0 w) (hps:∀ x,(encs x).size=ps.size)
  (I:List α→World→Prop) (Ix:Code→List α→World→Prop) (hI:Low w.heap.size I) (hIx:∀ c,Low w.heap.size (Ix c)) (h0:I [] w)
  (hround : ∀ (l : Nat) (pre : List α) (x : α) (W : World) (K : Act → World → Prop), w.heap.size ≤ l → l < W.heap.size → w.heap.size ≤ W.heap.size → pre ++ [x] <+: xs → I pre W →
    (∀ a' Wa, Kept (fun _ => False) W Wa → (∀ Wb, Kept (fun k => k = l) Wa Wb → (∃ r, Wb.heap[l]? = some (.loop r)) → body.wpIn (Fence.wide.inRound l) (n - 1 - 1) P (roundOf S I Ix (pre ++ [x]) Wb) a' Wb) → K a' Wa) →
    assign.wpIn (Fence.wide.inRound l) (n - 1 - 1) P (Exit.then K (fun _ _ _ => False)) { tmps := (ps.zip (encs x)).foldl (fun t (p, v) => t.setIfInBounds p v) a.tmps, defers := [] } W)
  (hdone:∀(W:World),I xs W→Kept S w W→W.heap[w.heap.size]?=some (.deferred (some []))→Q .normal { a with defers:={ target:=.collected w.heap.size,args:=#[] } :: a.defers } W)
  (hstop:∀(c:Code) (pre:List α) (W:World),pre <+: xs→Ix c pre W→Kept S w W→W.heap[w.heap.size]?=some (.deferred (some []))→c.wpIn Fence.wide n P Q { a with defers:={ target:=.collected w.heap.size,args:=#[] } :: a.defers } W):
  (Code.rangeFunc g ps assign body).wpIn Fence.wide n P Q a w:=by
 have hb1:∀ o1 o2,Below w.heap.size w ((w.alloc o1).alloc o2):=fun o1 o2=>((Below.refl _ w).alloc (Nat.le_refl _) _).alloc (by simp) _
 have back:∀(o:Obj) (W:World),Kept (fun k=>S k∨k=w.heap.size+1) ((w.alloc (.deferred (some []))).alloc o) W→Kept S w W∧W.heap[w.heap.size]?=some (.deferred (some [])):=fun o W hk=>by
  have hb:=hb1 (.deferred (some [])) o
  have hd:((w.alloc (.deferred (some []))).alloc o).heap[w.heap.size]?=some (.deferred (some [])):=(Below.heap_alloc _ _ _ (by simp)).trans (World.alloc_heap_new w _)
  refine⟨⟨hk.os.trans hb.os,hk.tape.trans hb.tape,hk.output.trans hb.output,Nat.le_trans hb.size hk.size,fun k hk' hs=>(hk.block k (Nat.lt_of_lt_of_le hk' hb.size) (fun e=>e.elim hs (fun e=>by omega))).trans (hb.block k hk')⟩,?_⟩
  exact(hk.block _ (by simp;omega) (fun e=>e.elim (fun e=>by have:=hS _ e;omega) (fun e=>by omega))).trans hd
 exact range_core (ro:=none) (W1:=fun fn=>(w.alloc (.deferred (some []))).alloc (.loop { state:=.ready,pending:=none,fn,tmps:=a.tmps,params:=ps,assign,body,defers:=w.heap.size })) (l:=w.heap.size+1) (dB:=w.heap.size) hg eg (fun fn=>run_enterLoop_outer _ _ _ _ _) (fun fn=>hb1 _ _)
  (fun fn=>by have:=World.alloc_heap_new (w.alloc (.deferred (some []))) (.loop { state:=.ready,pending:=none,fn,tmps:=a.tmps,params:=ps,assign,body,defers:=w.heap.size });rwa [World.size_alloc] at this)
  (by omega) hS hseq hw0 hps I Ix hI hIx h0 hround
  (fun fn W hi hk=>hdone W hi (back _ W hk).1 (back _ W hk).2) (fun fn c pre W hp hi hk=>hstop c pre W hp hi (back _ W hk).1 (back _ W hk).2)
theorem range_inner {α:Type}{n:Nat}{P:Program}{g:Operand}{ps:Array Tmp}{assign body:Code}{Q:Exit→Act→World→Prop}{a:Act}{w:World}
  {l₀:Nat} (hl₀:∃ r₀,w.heap[l₀]?=some (.loop r₀))
  {gf:Nat} {lb:Array Value} (hg:a.eval g=.func (.func gf) #[] lb) (eg:∀ args w,(callFunc gf args).run P w=.ok (.enter gf args) w)
  {encs:α→Array Value} {xs:List α} {S:Nat→Prop} (hS:∀ k,S k→k<w.heap.size) {w0:World} (hseq:Tells P gf lb encs xs S w0) (hw0:Below w0.heap.size w0 w) (hps:∀ x,(encs x).size=ps.size)
  (I:List α→World→Prop) (Ix:Code→List α→World→Prop) (hI:Low w.heap.size I) (hIx:∀ c,Low w.heap.size (Ix c)) (h0:I [] w)
  (hround : ∀ (l : Nat) (pre : List α) (x : α) (W : World) (K : Act → World → Prop), w.heap.size ≤ l → l < W.heap.size → w.heap.size ≤ W.heap.size → pre ++ [x] <+: xs → I pre W →
    (∀ a' Wa, Kept (fun _ => False) W Wa → (∀ Wb, Kept (fun k => k = l) Wa Wb → (∃ r, Wb.heap[l]? = some (.loop r)) → body.wpIn (Fence.wide.inRound l) (n - 1 - 1) P (roundOf S I Ix (pre ++ [x]) Wb) a' Wb) → K a' Wa) →
    assign.wpIn (Fence.wide.inRound l) (n - 1 - 1) P (Exit.then K (fun _ _ _ => False)) { tmps := (ps.zip (encs x)).foldl (fun t (p, v) => t.setIfInBounds p v) a.tmps, defers := [] } W)
  (hdone:∀(W:World),I xs W→Kept S w W→Q .normal a W)
  (hstop:∀(c:Code) (pre:List α) (W:World),pre <+: xs→Ix c pre W→Kept S w W→c.wpIn (Fence.wide.inRound l₀) n P Q a W):
  (Code.rangeFunc g ps assign body).wpIn (Fence.wide.inRound l₀) n P Q a w:=by
 obtain⟨r₀,hl₀⟩:=hl₀
 have hb1:∀ o,Below w.heap.size w (w.alloc o):=fun o=>(Below.refl _ w).alloc (Nat.le_refl _) _
 have back:∀(o:Obj) (W:World),Kept (fun k=>S k∨k=w.heap.size) (w.alloc o) W→Kept S w W:=fun o W hk=>by
  have hb:=hb1 o
  exact⟨hk.os.trans hb.os,hk.tape.trans hb.tape,hk.output.trans hb.output,Nat.le_trans hb.size hk.size,fun k hk' hs=>(hk.block k (Nat.lt_of_lt_of_le hk' hb.size) (fun e=>e.elim hs (fun e=>by omega))).trans (hb.block k hk')⟩
 exact range_core (ro:=some l₀) (mark:=[]) (W1:=fun fn=>w.alloc (.loop { state:=.ready,pending:=none,fn,tmps:=a.tmps,params:=ps,assign,body,defers:=r₀.defers })) (l:=w.heap.size) (dB:=r₀.defers) hg eg (fun fn=>run_enterLoop_inner hl₀ _ _ _ _ _) (fun fn=>hb1 _)
  (fun fn=>World.alloc_heap_new w _) (Nat.le_refl _) hS hseq hw0 hps I Ix hI hIx h0 hround
  (fun fn W hi hk=>hdone W hi (back _ W hk)) (fun fn c pre W hp hi hk=>hstop c pre W hp hi (back _ W hk))
end Go.Proofs.YtmbpclknhkbbkaaGreat
namespace Go.Proofs.YtmbpclknhkbbkaaGreat
open Go.RowKit
def noDefer (l:List Oper):Bool:=l.all fun o=>match o.op with|.defer _=>false|_=>true
theorem upon_round {l n:Nat}{P:Program}{o:Oper}{a:Act}{next:Act→World→Prop}{Q:Exit→Act→World→Prop}{r:Result Next}(h:o.uponIn Fence.wide n P a next Q r):o.uponIn (Fence.wide.inRound l) n P a next Q r:=h
theorem oper_round {l n:Nat}{P:Program}{o:Oper}{a:Act}{w:World}{K:Act→World→Prop}{Q:Exit→Act→World→Prop}(hd:∀ c,o.op≠.defer c)(h:o.wpIn Fence.wide n P a w K Q):o.wpIn (Fence.wide.inRound l) n P a w K Q:=by
 obtain⟨h1,h2⟩:=h
 refine⟨h1,?_⟩
 rw[show(Fence.wide.inRound l).round=some l from rfl,Oper.semAt_some l a.eval o hd]
 rw[show Fence.wide.round=none from rfl,Oper.semAt_none] at h2
 exact upon_round h2
theorem any_round {l n:Nat}{P:Program}{md:Region.Mode}{ops:List Oper}{Q:Exit→Act→World→Prop}(hd:noDefer ops=true):∀(fuel:Nat)(listed:Array Bool)(a:Act)(w:World),
  wpAnyIn Fence.wide n P md ops.toArray Q fuel listed a w→wpAnyIn (Fence.wide.inRound l) n P md ops.toArray Q fuel listed a w
 | 0,_,_,_,h=>h
 | fuel+1,listed,a,w,h=>by
  refine⟨h.1,fun i hi=>?_⟩
  have h2:=h.2 i hi
  unfold wpOpIn at h2 ⊢
  split
  ·rename_i ho;rw[ho] at h2;exact any_round hd fuel _ _ _ h2
  ·rename_i o ho
   rw[ho] at h2
   have hno:∀ c,o.op≠.defer c:=fun c e=>by
    have hm:o ∈ ops:=by
     have:=Array.mem_of_getElem? ho
     simpa using this
    have:=List.all_eq_true.1 hd o hm
    rw[e] at this
    cases this
   simp only at h2 ⊢
   split
   ·rename_i hw
    rw[if_pos hw] at h2
    exact Oper.wpIn_mono (fun a w h=>any_round hd fuel _ a w h) (oper_round hno h2)
   ·rename_i hw
    rw[if_neg hw] at h2
    exact⟨h2.1,any_round hd fuel _ _ _ h2.2⟩
theorem quiet_round {l n:Nat}{P:Program}{id:Nat}{Q:Exit→Act→World→Prop}{a:Act}{w:World}{ops:List Oper}(hm:P.follows .mixedOrders=true)(hB:Region.lexB .any ops.toArray=true)(hd:noDefer ops=true)
  (h:wpQuietIn Fence.wide n P ops.toArray (fun w'=>∃ n,w'=w.drewN n) (fun a'=>∀ w',(∃ n,w'=w.drewN n)→Q .normal a' w') ops a):(Code.region id ops.toArray true).wpIn (Fence.wide.inRound l) n P Q a w:=by
 simp only[Region.lexB,Bool.and_eq_true] at hB
 refine wpIn_region_any hm (any_round hd _ _ _ _ (wpAnyIn_of_quiet (C:=fun w'=>∃ n,w'=w.drewN n) (Q:=fun a'=>∀ w',(∃ n,w'=w.drewN n)→Q .normal a' w') rfl (fun _ w' hw' h=>h w' hw') _ _ _ _ ⟨1,rfl⟩ ?_))
 have:=wpAnyQIn_lex (F:=Fence.wide) (n:=n) (C:=fun w'=>∃ n,w'=w.drewN n) (md:=.any) hB.1 ops 0 (Array.replicate ops.toArray.size false) a (by simp) (by simpa using hB.2) (by simpa using h)
 simpa using this
theorem no_depth (n:Nat):Fence.wide.depth.isSome=true→1≤n:=fun h=>absurd h (by simp[Fence.wide])
def downTo (n k:Nat):List Nat:=((List.range n).drop k).reverse
theorem downTo_all (n:Nat):downTo n n=[]:=by simp[downTo]
theorem downTo_step {n k:Nat}(h:k<n):downTo n k=downTo n (k+1)++[k]:=by
 unfold downTo
 rw[List.drop_eq_getElem_cons (by simpa using h),List.reverse_cons,List.getElem_range]
theorem downTo_pre (n k:Nat):downTo n k <+: downTo n 0:=by
 unfold downTo
 rw[List.drop_zero,List.reverse_prefix]
 exact List.drop_suffix _ _
theorem stg_cells {w0:World}{ad:Option Addr}{n cap:Nat}{xs:List Stg}(hr:StgRow w0 (.slice ad n cap) xs):∃ cf:Nat→Array Value,∀ i y,xs[i]?=some y→∃ b o,ad=some ⟨b,o,none⟩∧(∀ j u,(cf i)[j]?=some u→w0.cell? ⟨b,o+i*13+j,none⟩=some u)∧StgIs w0 y (cf i):=by
 have h:∀ i,∃ cs:Array Value,∀ y,xs[i]?=some y→∃ b o,ad=some ⟨b,o,none⟩∧(∀ j u,cs[j]?=some u→w0.cell? ⟨b,o+i*13+j,none⟩=some u)∧StgIs w0 y cs:=by
  intro i
  cases hi:xs[i]? with
  | none=>exact⟨#[],fun y h=>by cases h⟩
  | some y=>
   obtain⟨b,o,cs,e,_,h1,h2⟩:=(stgRow_row hr).1.at hi
   exact⟨cs,fun y' h=>by cases h;exact⟨b,o,e,h1,h2⟩⟩
 exact⟨fun i=>(h i).choose,fun i=>(h i).choose_spec⟩
theorem back_tells (xs:List Stg)(w0:World)(ad:Option Addr)(cap:Nat)(hr:StgRow w0 (.slice ad xs.length cap) xs)(cf:Nat→Array Value)
  (hcf:∀ i y,xs[i]?=some y→∃ b o,ad=some ⟨b,o,none⟩∧(∀ j u,(cf i)[j]?=some u→w0.cell? ⟨b,o+i*13+j,none⟩=some u)∧StgIs w0 y (cf i))
  (w:World) (hw0:Below w0.heap.size w0 w) (bx:Nat) (hbx:Blk w bx #[.slice ad xs.length cap] 32) (S:Nat→Prop) (hS:∀ k,S k→w0.heap.size≤k) (hSb:¬ S bx):
  Tells Tryz.prog 222 #[.pointer (some ⟨bx,0,none⟩)] (fun i:Nat=>#[Value.int .i64 (i:Int),Value.agg (cf i)]) (downTo xs.length 0) S w:=by
 intro n l J Jx W hW hl hJ hJx hY h0
 have hlen:xs.length*176≤140737488351232:=(stgRow_row hr).2
 have HCF:Hid (∀ i y,xs[i]?=some y→∃ b o,ad=some ⟨b,o,none⟩∧(∀ j u,(cf i)[j]?=some u→w0.cell? ⟨b,o+i*13+j,none⟩=some u)∧StgIs w0 y (cf i)):=hcf
 have HBW:Hid (Blk W bx #[.slice ad xs.length cap] 32):=hbx.below hW
 have HW0:Hid (Bl w0 W):=hw0.trans (hW.mono hw0.size)
 have HS:Hid (∀ k,S k→w0.heap.size≤k):=hS
 have HY:Hid (∀(pre:List Nat) (x:Nat) W1,pre++[x] <+: downTo xs.length 0→J pre W1→YieldAt Fence.wide (n - 1) Tryz.prog l #[Value.int .i64 (x:Int),Value.agg (cf x)] W1 fun e W'=>(e=.returned (.bool true)∧J (pre++[x]) W'∧Kept S W1 W')∨(e=.returned (.bool false)∧Jx (pre++[x]) W'∧Kept (fun k=>S k∨k=l) W1 W')):=hY
 have H0:Hid (J (downTo xs.length xs.length) W):=by show J _ _;rw[downTo_all];exact h0
 have c0:=HBW.out.cell 0 (v:=.slice ad xs.length cap) rfl
 obtain⟨N,hN⟩:∃ N,N=xs.length:=⟨_,rfl⟩
 have HN:Hid (N=xs.length):=hN
 rw[← hN] at hlen HBW HY H0 c0 ⊢
 clear hN hr hcf hbx hW hw0 hS hY h0
 refine callsIn_of_wp Tryz.func222 rfl trivial ?_ rfl
 simp only[Tryz.ntmps222,List.size_toArray,List.length_cons,List.length_nil,Nat.reduceAdd,Nat.reduceSub,Array.replicate_succ,Array.replicate_zero,List.push_toArray,List.append_toArray,List.nil_append,List.cons_append]
 gi_wp2
 gi_loopw [3] (fun t wr=>∃ k:Nat,k≤N∧t=.int .i64 ((k:Int) - 1)∧J (downTo N k) wr∧Kept S W wr) (fun t _=>(intOf t+1).toNat)
 case atStart=>exact⟨N,Nat.le_refl _,by go_num,H0.out,Kept.refl _ _⟩
 case round=>
  obtain⟨k',hk,rfl,hj,hkS⟩:=hrel
  rcases k' with _|k
  ·have HJ:Hid (J (downTo N 0) wr):=hj
   have hki:((0:Nat):Int) - 1 = -1:=by omega
   rw[hki]
   clear hj hkS
   gi_wp2_with fail
   go_end0
   exact⟨⟨_,rfl⟩,.inl HJ.out⟩
  ·obtain⟨y,hy⟩:∃ y,xs[k]?=some y:=⟨xs[k]'(by rw[← HN.out];omega),List.getElem?_eq_getElem _⟩
   obtain⟨b,o,rfl,hcc,hIs⟩:=HCF.out k y hy
   obtain⟨v1,v2,hce,hok,hth,hel⟩:=(stgIs_iff w0 y (cf k)).1 hIs
   obtain⟨ta,tc,rfl,_⟩:=hth.slice
   obtain⟨ea,ec,rfl,_⟩:=hel.slice
   rw[hce] at hcc
   have hpw:Pres w0 wr:=pres_below (HW0.out.trans (hkS.below HW0.out.size HS.out))
   have q0:wr.cell? ⟨b,o+k*13,none⟩=some (.int .i64 y.kind):=by have:=hpw _ _ (hcc 0 _ rfl);simpa using this
   have q1:wr.cell? ⟨b,o+k*13+1,none⟩=some (.string y.table):=by have:=hpw _ _ (hcc 1 _ rfl);simpa using this
   have q2:wr.cell? ⟨b,o+k*13+2,none⟩=some (.int .i64 y.test.kind):=by have:=hpw _ _ (hcc 2 _ rfl);simpa using this
   have q3:wr.cell? ⟨b,o+k*13+3,none⟩=some (.string y.test.a.ref.head):=by have:=hpw _ _ (hcc 3 _ rfl);simpa using this
   have q4:wr.cell? ⟨b,o+k*13+4,none⟩=some (.string y.test.a.ref.name):=by have:=hpw _ _ (hcc 4 _ rfl);simpa using this
   have q5:wr.cell? ⟨b,o+k*13+5,none⟩=some (.int .u64 (hiOf y.test.a.const)):=by have:=hpw _ _ (hcc 5 _ rfl);simpa using this
   have q6:wr.cell? ⟨b,o+k*13+6,none⟩=some (.int .u64 (loOf y.test.a.const)):=by have:=hpw _ _ (hcc 6 _ rfl);simpa using this
   have q7:wr.cell? ⟨b,o+k*13+7,none⟩=some (.string y.test.b.ref.head):=by have:=hpw _ _ (hcc 7 _ rfl);simpa using this
   have q8:wr.cell? ⟨b,o+k*13+8,none⟩=some (.string y.test.b.ref.name):=by have:=hpw _ _ (hcc 8 _ rfl);simpa using this
   have q9:wr.cell? ⟨b,o+k*13+9,none⟩=some (.int .u64 (hiOf y.test.b.const)):=by have:=hpw _ _ (hcc 9 _ rfl);simpa using this
   have q10:wr.cell? ⟨b,o+k*13+10,none⟩=some (.int .u64 (loOf y.test.b.const)):=by have:=hpw _ _ (hcc 10 _ rfl);simpa using this
   have q11:wr.cell? ⟨b,o+k*13+11,none⟩=some (.slice ta y.thn.length tc):=by have:=hpw _ _ (hcc 11 _ rfl);simpa using this
   have q12:wr.cell? ⟨b,o+k*13+12,none⟩=some (.slice ea y.els.length ec):=by have:=hpw _ _ (hcc 12 _ rfl);simpa using this
   have d0:=(HBW.out.kept hkS hSb).cell 0 (v:=.slice (some ⟨b,o,none⟩) N cap) rfl
   have hki:((k+1:Nat):Int) - 1=(k:Int):=by omega
   rw[hki]
   have hkN:(k:Int)<(N:Int):=by omega
   have CT:Hid (∃ fn tmps assign body,(Instr.yield l #[.int .i64 (k:Int),.agg #[.int .i64 y.kind,.string y.table,.int .i64 y.test.kind,.string y.test.a.ref.head,.string y.test.a.ref.name,.int .u64 (hiOf y.test.a.const),.int .u64 (loOf y.test.a.const),.string y.test.b.ref.head,.string y.test.b.ref.name,.int .u64 (hiOf y.test.b.const),.int .u64 (loOf y.test.b.const),.slice ta y.thn.length tc,.slice ea y.els.length ec]]).run Tryz.prog wr=.ok (.round l fn tmps assign body) wr∧Hid (RoundIn Fence.wide (n - 1) Tryz.prog l fn tmps assign body wr fun e w'=>(e=.returned (.bool true)∧Hid (J (downTo N k) w'∧Kept S W w'))∨(e=.returned (.bool false)∧Hid (Jx (downTo N k) w')))):=by
    have hy:=HY.out (downTo N (k+1)) k wr (by rw[← downTo_step (by omega)];exact downTo_pre _ _) hj
    rw[hce] at hy
    obtain⟨fn,tmps,assign,body,h1,h2⟩:=hy
    refine⟨fn,tmps,assign,body,h1,h2.mono ?_⟩
    rw[← downTo_step (show k<N by omega)]
    rintro e w' (⟨rfl,hj,hk⟩|⟨rfl,hj,hk⟩)
    ·exact .inl ⟨rfl,hj,hkS.trans hk⟩
    ·exact .inr ⟨rfl,hj⟩
   obtain⟨fn,tmps,assign,body,hyi,HR⟩:=CT.out
   clear CT hcc hIs hth hel hok hce hpw hj hkS H0 hy
   gi_wp2_with fail
   refine⟨no_depth _,?_⟩
   refine HR.out.mono ?_
   rintro e w7 (⟨rfl,HM7⟩|⟨rfl,HJ7⟩)
   ·clear hyi HR q0 q1 q2 q3 q4 q5 q6 q7 q8 q9 q10 q11 q12 d0
    gi_wp2_with fail
    go_roundw
    case rel=>exact⟨k,by omega,by go_num,HM7.out.1,HM7.out.2⟩
    case measure=>simp only[intOf];omega
   ·clear hyi HR q0 q1 q2 q3 q4 q5 q6 q7 q8 q9 q10 q11 q12 d0
    gi_wp2_with fail
    first|go_end0|refine bodyPost_ret (results_none rfl _ _ _) rfl ?_
    exact⟨⟨_,rfl⟩,.inr ⟨_,downTo_pre _ _,HJ7.out⟩⟩
theorem grows_round {l n:Nat}{P:Program}{id:Nat}{Q:Exit→Act→World→Prop}{a:Act}{w:World}{ops:List Oper}(hm:P.follows .mixedOrders=true)(hB:Region.lexB .any ops.toArray=true)(hd:noDefer ops=true)
  (h:wpQuietIn Fence.wide n P ops.toArray (fun w'=>∃ z:Grown w,w'=gw z) (fun a'=>∀ w',(∃ z:Grown w,w'=gw z)→Q .normal a' w') ops a):(Code.region id ops.toArray true).wpIn (Fence.wide.inRound l) n P Q a w:=by
 simp only[Region.lexB,Bool.and_eq_true] at hB
 refine wpIn_region_any hm (any_round hd _ _ _ _ (wpAnyIn_of_quiet (C:=fun w'=>∃ z:Grown w,w'=gw z) (Q:=fun a'=>∀ w',(∃ z:Grown w,w'=gw z)→Q .normal a' w') rfl (fun _ w' hw' h=>h w' hw') _ _ _ _ (gw_drawn w) ?_))
 have:=wpAnyQIn_lex (F:=Fence.wide) (n:=n) (C:=fun w'=>∃ z:Grown w,w'=gw z) (md:=.any) hB.1 ops 0 (Array.replicate ops.toArray.size false) a (by simp) (by simpa using hB.2) (by simpa using h)
 simpa using this
theorem calls_gwIn {n:Nat}{P:Program}{W:World}{f:FuncId}{args:Array Value}{z:Grown W}{v:Value}(h:CallsIn Fence.wide n P f args (gw z) fun e w'=>e=.returned v∧Below (gw z).heap.size (gw z) w'):CallsIn Fence.wide n P f args (gw z) fun e w''=>e=.returned v∧∃ z':Grown W,w''=gw z':=
 h.mono fun _ _ ⟨he,hb⟩=>⟨he,gw_next z hb⟩
theorem back_any (ad:Option Addr)(n cap:Nat)(w:World):Calls Tryz.prog 173 #[.slice ad n cap] w fun e w'=>e=.returned (.func (.func 222) #[] #[.pointer (some ⟨w.heap.size,0,none⟩)])∧Blk w' w.heap.size #[.slice ad n cap] 32∧Below w.heap.size w w':=by
 have hmf:=mf
 have HB:Hid (Bl w (w.alloc (.cells #[.slice ad n cap] 32))):=(Below.refl _ _).alloc (Nat.le_refl _) _
 have HX:Hid (Blk (w.alloc (.cells #[.slice ad n cap] 32)) w.heap.size #[.slice ad n cap] 32):=Blk.new w _ 32
 go_enter Tryz.func173,Tryz.ntmps173
 go_wp2
 go_ret
 exact⟨rfl,HX.out,HB.out⟩
theorem downTo_at {n:Nat}{pre:List Nat}{x:Nat}(h:pre++[x] <+: downTo n 0):pre.length<n∧x=n - 1 - pre.length:=by
 obtain⟨r,hr⟩:=h
 have h1:(downTo n 0)[pre.length]?=some x:=by
  rw[← hr,List.getElem?_append_left (by simp),List.getElem?_append_right (Nat.le_refl _)];simp
 unfold downTo at h1
 rw[List.drop_zero] at h1
 have hl:pre.length<n:=by
  have:=(List.getElem?_eq_some_iff.1 h1).1
  simpa using this
 rw[List.getElem?_reverse (by simpa using hl),List.length_range,List.getElem?_range (by omega)] at h1
 injection h1 with h1
 exact⟨hl,h1.symm⟩
mutual
def mostS:Stg→Int→Int
 | .mk k _ _ th el,n=>if k=1 then wrap64 (1+max (mostL th n) (mostL el n)) else if k=2 then max (mostL th n) (mostL el n) else if k=3 then 0 else n
def mostL:List Stg→Int→Int
 |[],n=>n
 | x :: xs,n=>mostS x (mostL xs n)
end
theorem mostS_eq (y:Stg)(n:Int):mostS y n=if y.kind=1 then wrap64 (1+max (mostL y.thn n) (mostL y.els n)) else if y.kind=2 then max (mostL y.thn n) (mostL y.els n) else if y.kind=3 then 0 else n:=by cases y;rw[mostS];rfl
theorem most_step {xs:List Stg}{k:Nat}{y:Stg}(hk:xs[k]?=some y)(n:Int):mostL (xs.drop k) n=mostS y (mostL (xs.drop (k+1)) n):=by
 obtain⟨h,e⟩:=List.getElem?_eq_some_iff.1 hk
 rw[List.drop_eq_getElem_cons h,e,mostL]
attribute [local go_sem] Oper.semAt_some
theorem most_any:∀(N:Nat)(xs:List Stg)(v:Value)(n:Int)(w:World),szL xs≤N→StgRow w v xs→Calls Tryz.prog 90 #[v,.int .i64 n] w fun e w'=>e=.returned (.int .i64 (mostL xs n))∧Below w.heap.size w w':=by
 intro N
 induction N using Nat.strongRecOn with
 | _ N ih=>
  intro xs v n w hN hr
  suffices h:∀ m,CallsIn Fence.wide m Tryz.prog 90 #[v,.int .i64 n] w fun e w'=>e=.returned (.int .i64 (mostL xs n))∧Below w.heap.size w w' from callsIn_wide.1 (h 0)
  intro m
  obtain⟨ad,cap,rfl,_⟩:=hr.slice
  obtain⟨cf,hcf⟩:=stg_cells hr
  have HR:Hid (StgRow w (.slice ad xs.length cap) xs):=hr
  have HSZ:Hid (szL xs≤N):=hN
  have HIH:Hid (∀ M,M<N→∀(xs:List Stg) (v:Value) (n:Int) (w:World),szL xs≤M→StgRow w v xs→Cs 90 #[v,.int .i64 n] w fun e w'=>e=.returned (.int .i64 (mostL xs n))∧Bl w w'):=ih
  have CB:Hid (∀ w,CallsIn Fence.wide (m - 1) Tryz.prog 173 #[.slice ad xs.length cap] w fun e w'=>e=.returned (.func (.func 222) #[] #[.pointer (some ⟨w.heap.size,0,none⟩)])∧Blk w' w.heap.size #[.slice ad xs.length cap] 32∧Bl w w'):=fun w=>callsIn_wide.2 (back_any ad xs.length cap w)
  have HA:Hid (Bl w (w.alloc (.cells #[.int .i64 n] 3))):=(Below.refl _ _).alloc (Nat.le_refl _) _
  have HX:Hid (Blk (w.alloc (.cells #[.int .i64 n] 3)) w.heap.size #[.int .i64 n] 3):=Blk.new w _ 3
  clear hr hN ih
  refine callsIn_of_wp_marks Tryz.func90 rfl trivial ?_ rfl
  simp only[Tryz.ntmps90,List.size_toArray,List.length_cons,List.length_nil,Nat.reduceAdd,Nat.reduceSub,Array.replicate_succ,Array.replicate_zero,List.push_toArray,List.append_toArray,List.nil_append,List.cons_append]
  gi_wp2_with fail
  refine⟨trivial,no_depth _,?_⟩
  refine(CB.out _).mono ?_
  rintro e w1 ⟨rfl,hbx,hb1⟩
  have HB1:Hid (Bl w w1):=HA.out.trans (hb1.mono HA.out.size)
  have HX1:=hblk HX hb1
  rw[World.size_alloc] at hbx ⊢
  have HY1:Hid (Blk w1 (w.heap.size+1) #[.slice ad xs.length cap] 32):=hbx
  clear hbx hb1 CB HA HX
  gi_wp2_with fail
  have hlt1:=HX1.out.lt
  refine range_outer (gf:=222) (lb:=#[.pointer (some ⟨w.heap.size+1,0,none⟩)]) (encs:=fun i:Nat=>#[Value.int .i64 (i:Int),Value.agg (cf i)]) (xs:=downTo xs.length 0) (S:=fun k=>k=w.heap.size) rfl (enters_of Tryz.func222 (by kernel_rfl) rfl)
   (fun k e=>by have e':k=w.heap.size:=e;omega) (back_tells xs w ad cap HR.out cf hcf w1 HB1.out _ HY1.out (fun k=>k=w.heap.size) (fun k e=>by have e':k=w.heap.size:=e;omega) (fun e=>by have e':w.heap.size+1=w.heap.size:=e;omega)) (Below.refl _ _) (fun _=>rfl)
   (fun pre W=>Blk W w.heap.size #[.int .i64 (mostL (xs.drop (xs.length - pre.length)) n)] 3∧Kept (fun k=>k=w.heap.size) w1 W)
   (fun _ _ _=>False)
   ((low_blk _ _ (fun pre:List Nat=>#[.int .i64 (mostL (xs.drop (xs.length - pre.length)) n)]) _ hlt1).and (low_kept _ _ _ (Nat.le_refl _)))
   (fun c=>low_pure _ _)
   ⟨by simpa[List.drop_length,mostL] using HX1.out,Kept.refl _ _⟩ ?round ?done ?stop
  case round=>
   rintro l pre x W K hl hlt hz hpre ⟨bN,hK⟩ hKK
   obtain⟨hpl,hxe⟩:=downTo_at hpre
   obtain⟨y,hy⟩:∃ y,xs[x]?=some y:=⟨xs[x]'(by omega),List.getElem?_eq_getElem _⟩
   obtain⟨b,o,_,_,hIs⟩:=hcf x y hy
   obtain⟨v1,v2,hce,hok,hth,hel⟩:=(stgIs_iff w y (cf x)).1 hIs
   obtain⟨ta,tc,rfl,_⟩:=hth.slice
   obtain⟨ea,ec,rfl,_⟩:=hel.slice
   have hmx:mostL (xs.drop (xs.length - (pre++[x]).length)) n=mostS y (mostL (xs.drop (xs.length - pre.length)) n):=by
    have e1:xs.length - (pre++[x]).length=x:=by rw[List.length_append];simp;omega
    have e2:x+1=xs.length - pre.length:=by omega
    rw[e1,most_step hy,e2]
   have HMS:Hid (mostS y (mostL (xs.drop (xs.length - pre.length)) n)=if y.kind=1 then wrap64 (1+max (mostL y.thn (mostL (xs.drop (xs.length - pre.length)) n)) (mostL y.els (mostL (xs.drop (xs.length - pre.length)) n))) else if y.kind=2 then max (mostL y.thn (mostL (xs.drop (xs.length - pre.length)) n)) (mostL y.els (mostL (xs.drop (xs.length - pre.length)) n)) else if y.kind=3 then 0 else mostL (xs.drop (xs.length - pre.length)) n):=mostS_eq _ _
   have HSY:Hid (szL y.thn<N∧szL y.els<N):=by
    have h1:=szL_mem hy
    have h2:=HSZ.out
    rw[szS_eq] at h1
    exact⟨by omega,by omega⟩
   simp only[hce]
   gi_wp2_with fail
   refine hKK _ _ ((Kept.refl _ _).alloc _) ?_
   intro Wb hkb hrec
   have hzw:=HB1.out.size
   have bX:Blk Wb W.heap.size (sgA y ta tc ea ec) 127:=(Blk.new W (sgA y ta tc ea ec) 127).kept hkb (by show ¬ _=_;omega)
   have hk1:Kept (fun k=>k=l) W Wb:=((Kept.refl (fun k=>k=l) W).alloc _).trans hkb
   have bN1:=bN.kept hk1 (by show ¬ _=_;omega)
   have hbW:Below w.heap.size w W:=HB1.out.trans (hK.below HB1.out.size (fun k e=>by have e':k=w.heap.size:=e;omega))
   have HBb:Hid (Bl w Wb):=hbW.trans (hk1.below hbW.size (fun k e=>by have e':k=l:=e;omega))
   have HF:Hid (∀ V':World,Kept (fun k=>k=w.heap.size) Wb V'→Blk V' w.heap.size #[.int .i64 (mostS y (mostL (xs.drop (xs.length - pre.length)) n))] 3→Kept (fun k=>k=w.heap.size) Wb V'∧Blk V' w.heap.size #[.int .i64 (mostL (xs.drop (xs.length - (pre++[x]).length)) n)] 3∧Kept (fun k=>k=w.heap.size) w1 V'):=fun V' k1 k2=>by
    rw[hmx]
    exact⟨k1,k2,⟨k1.os.trans (hk1.os.trans hK.os),k1.tape.trans (hk1.tape.trans hK.tape),k1.output.trans (hk1.output.trans hK.output),Nat.le_trans hK.size (Nat.le_trans hk1.size k1.size),fun k hk hs=>(k1.block k (Nat.lt_of_lt_of_le hk (Nat.le_trans hK.size hk1.size)) hs).trans ((hk1.block k (Nat.lt_of_lt_of_le hk hK.size) (fun e=>by have e':k=l:=e;omega)).trans (hK.block k hk hs))⟩⟩
   have CA:Hid (∀ z:Grown Wb,CallsIn Fence.wide (m - 1 - 1 - 1) Tryz.prog 90 #[.slice ta y.thn.length tc,.int .i64 (mostL (xs.drop (xs.length - pre.length)) n)] (gw z) fun e w'=>e=.returned (.int .i64 (mostL y.thn (mostL (xs.drop (xs.length - pre.length)) n)))∧Below (gw z).heap.size (gw z) w'):=fun z=>
    callsIn_wide.2 (HIH.out _ HSY.out.1 y.thn _ _ _ (Nat.le_refl _) (hth.pres (pres_below (bst HBb.out (gw_below z) (Nat.le_refl _)))))
   have CE:Hid (∀ z:Grown Wb,CallsIn Fence.wide (m - 1 - 1 - 1) Tryz.prog 90 #[.slice ea y.els.length ec,.int .i64 (mostL (xs.drop (xs.length - pre.length)) n)] (gw z) fun e w'=>e=.returned (.int .i64 (mostL y.els (mostL (xs.drop (xs.length - pre.length)) n)))∧Below (gw z).heap.size (gw z) w'):=fun z=>
    callsIn_wide.2 (HIH.out _ HSY.out.2 y.els _ _ _ (Nat.le_refl _) (hel.pres (pres_below (bst HBb.out (gw_below z) (Nat.le_refl _)))))
   have HX2:Hid (Blk Wb W.heap.size (sgA y ta tc ea ec) 127∧Blk Wb w.heap.size #[.int .i64 (mostL (xs.drop (xs.length - pre.length)) n)] 3):=⟨bX,bN1⟩
   generalize mostL (xs.drop (xs.length - pre.length)) n=nv at*
   generalize mostL y.thn nv=m1 at*
   generalize mostL y.els nv=m2 at*
   generalize mostS y nv=ms at*
   have c11:∀ z:Grown Wb,(gw z).cell? ⟨W.heap.size,11,none⟩=some (.slice ta y.thn.length tc):=gw_cell (bX.cell 11 rfl)
   have c12:∀ z:Grown Wb,(gw z).cell? ⟨W.heap.size,12,none⟩=some (.slice ea y.els.length ec):=gw_cell (bX.cell 12 rfl)
   have c0:∀ z:Grown Wb,(gw z).cell? ⟨w.heap.size,0,none⟩=some (.int .i64 nv):=gw_cell (bN1.cell 0 rfl)
   have hmix:Tryz.prog.follows .mixedOrders=true:=by kernel_rfl
   clear hKK hpre bN hK hkb hrec hk1 bX bN1 hbW hmx hth hel hok hce hIs hcf HIH HSY HSZ HR hy hxe hpl
   generalize W.heap.size=xb at*
   gi_wp2_with fail
   refine grows_round hmix (by kernel_rfl) (by kernel_rfl) ?_
   repeat (gi_big_quiet_step (fail))
   refine Go.BigFrame.wpQuietIn_want (fun _ _ _ _=>trivial) (by rfl) ?_
   intro K2 hK2
   gi_big_quiet_op
   apply Exists.intro
   refine⟨fun _=>?_,?_⟩
   ·exact⟨no_depth _,calls_gwIn (CA.out _)⟩
   go_big_quiet_on
   repeat (gi_big_quiet_step (fail))
   refine Go.BigFrame.wpQuietIn_want (fun _ _ _ _=>trivial) (by rfl) ?_
   intro K3 hK3
   gi_big_quiet_op
   apply Exists.intro
   refine⟨fun _=>?_,?_⟩
   ·exact⟨no_depth _,calls_gwIn (CE.out _)⟩
   go_big_quiet_on
   repeat (gi_big_quiet_step (fail))
   refine wpQuietIn_nil ?_
   intro wq hwq
   obtain⟨zq,hwq⟩:=hwq
   subst hwq
   have HX3:Hid (Blk (gw zq) xb (sgA y ta tc ea ec) 127):=HX2.out.1.below (gw_below zq)
   have HN3:Hid (Blk (gw zq) w.heap.size #[.int .i64 nv] 3):=HX2.out.2.below (gw_below zq)
   have HK3:Hid (Kept (fun k=>k=w.heap.size) Wb (gw zq)):=Kept.of_below (gw_below zq)
   generalize gw zq=W3 at HX3 HN3 HK3 ⊢
   clear CA CE c11 c12 c0 HX2
   have x0:=HX3.out.cell 0 (v:=.int .i64 y.kind) rfl
   have n0:=HN3.out.cell 0 (v:=.int .i64 nv) rfl
   have f0:=HN3.out.frozen 0
   have HFS:Hid (∀ u:Int,ms=u→Kept (fun k=>k=w.heap.size) Wb (W3.setCell ⟨w.heap.size,0,none⟩ (.int .i64 u))∧Blk (W3.setCell ⟨w.heap.size,0,none⟩ (.int .i64 u)) w.heap.size #[.int .i64 (mostL (xs.drop (xs.length - (pre++[x]).length)) n)] 3∧Kept (fun k=>k=w.heap.size) w1 (W3.setCell ⟨w.heap.size,0,none⟩ (.int .i64 u))):=fun u e=>by
    refine HF.out _ (HK3.out.set rfl _) ?_
    rw[e]
    exact HN3.out.set 0 _
   by_cases k1:y.kind=1
   ·have HE:Hid (ms=wrap64 (1+max m1 m2)):=by show _=_;rw[HMS.out,if_pos k1]
    rw[k1] at x0
    clear HMS
    gi_wp2_with fail
    exact HFS.out _ HE.out
   ·have k1':(y.kind==1)=false:=by simpa using k1
    by_cases k2:y.kind=2
    ·have HE:Hid (ms=max m1 m2):=by show _=_;rw[HMS.out,if_neg k1,if_pos k2]
     rw[k2] at x0
     clear HMS k1' k1
     gi_wp2_with fail
     exact HFS.out _ HE.out
    ·have k2':(y.kind==2)=false:=by simpa using k2
     by_cases k3:y.kind=3
     ·have HE:Hid (ms=0):=by show _=_;rw[HMS.out,if_neg k1,if_neg k2,if_pos k3]
      rw[k3] at x0
      clear HMS k1' k1 k2' k2
      gi_wp2_with fail
      exact HFS.out _ HE.out
     ·have k3':(y.kind==3)=false:=by simpa using k3
      have HE:Hid (ms=nv):=by show _=_;rw[HMS.out,if_neg k1,if_neg k2,if_neg k3]
      clear HMS
      gi_wp2_with fail
      exact HF.out _ HK3.out (by rw[HE.out];exact HN3.out)
  case done=>
   rintro W ⟨bN,_⟩ hks hD
   have hpl:(downTo xs.length 0).length=xs.length:=by unfold downTo;simp
   rw[hpl,Nat.sub_self,List.drop_zero] at bN
   have c0:=bN.cell 0 (v:=.int .i64 (mostL xs n)) rfl
   have HBW:Hid (Bl w W):=HB1.out.trans (hks.below HB1.out.size (fun k e=>by have e':k=w.heap.size:=e;omega))
   have HZ:=HB1.out.size
   clear hks bN
   gi_wp2_with fail
   refine⟨by simp,.inl ⟨_,_,rfl,run_takeDeferred hD,?_⟩⟩
   have hkk:=kept_putObj (fun k=>k=w1.heap.size) W w1.heap.size (.deferred none) rfl
   refine⟨.int .i64 (mostL xs n),?_,rfl,HBW.out.trans (hkk.below HBW.out.size (fun k e=>by have e':k=w1.heap.size:=e;omega))⟩
   simp[results,Tryz.results90,go_sem]
  case stop=>
   rintro c pre2 W' _ hf
   exact hf.elim
end Go.Proofs.YtmbpclknhkbbkaaGreat
