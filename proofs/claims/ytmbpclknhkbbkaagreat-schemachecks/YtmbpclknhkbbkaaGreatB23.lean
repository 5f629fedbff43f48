/- The law's example. -/
import Derived.Test.YtmbpclknhkbbkaaGreatB26
import Derived.Test.YtmbpclknhkbbkaaGreatB30
import Derived.Laws.OwnMore
set_option linter.unusedSimpArgs false
set_option linter.unusedVariables false
set_option maxHeartbeats 8000000
namespace Go.Proofs.YtmbpclknhkbbkaaGreat
open Go.RowKit
theorem row_one {α:Type}{z:Nat}{Is:World→Array Value→α→Prop}{w:World}{b:Nat}{cs:Array Value}{t:TypeId}{x:α}(hb:Blk w b cs t)(hs:cs.size=z)(hi:Is w cs x):Row z Is w (.slice (some ⟨b,0,none⟩) 1 1) [x]:=by
 refine⟨_,_,rfl,Nat.le_refl _,.inr ⟨b,0,rfl,fun i y hy=>?_⟩⟩
 rcases i with _|i
 ·simp at hy
  subst hy
  exact⟨cs,hs,fun j u hu=>by simpa using hb.cell j hu,hi⟩
 ·simp at hy
def allocs (w:World)(os:List Obj):World:=os.foldl World.alloc w
theorem allocs_size:∀(os:List Obj)(w:World),(allocs w os).heap.size=w.heap.size+os.length
 |[],w=>rfl
 | o :: os,w=>by
  show(allocs (w.alloc o) os).heap.size=_
  rw[allocs_size os,World.size_alloc,List.length_cons]
  omega
theorem allocs_below:∀(os:List Obj)(w:World)(B:Nat),B≤w.heap.size→Below B w (allocs w os)
 |[],w,B,h=>Below.refl _ _
 | o :: os,w,B,h=>((Below.refl B w).alloc h o).trans (allocs_below os (w.alloc o) B (by rw[World.size_alloc];omega))
theorem allocs_at:∀(os:List Obj)(w:World)(i:Nat)(o:Obj),os[i]?=some o→(allocs w os).heap[w.heap.size+i]?=some o
 |[],w,i,o,h=>by simp at h
 | p :: os,w,0,o,h=>by
  simp at h
  subst h
  have h1:=allocs_below os (w.alloc p) (w.alloc p).heap.size (Nat.le_refl _)
  exact(h1.block w.heap.size (by rw[World.size_alloc];omega)).trans (World.alloc_heap_new w p)
 | p :: os,w,i+1,o,h=>by
  have:=allocs_at os (w.alloc p) i o (by simpa using h)
  rw[World.size_alloc] at this
  rw[show w.heap.size+(i+1)=w.heap.size+1+i by omega]
  exact this
theorem allocs_blk (w:World)(os:List Obj){cs:Array Value}{t:TypeId}(i:Nat)(h:os[i]?=some (.cells cs t)):Blk (allocs w os) (w.heap.size+i) cs t:=allocs_at os w i _ h
def exObjs (s : Nat) : List Obj := [.cells #[.slice (some ⟨s + 1 + 1 + 1, 0, none⟩) 1 1, .slice (some ⟨s + 1 + 1 + 1 + 1, 0, none⟩) 1 1, .slice (some ⟨s + 1 + 1 + 1 + 1 + 1 + 1, 0, none⟩) 1 1, .slice (some ⟨s + 1 + 1 + 1 + 1 + 1 + 1 + 1 + 1 + 1, 0, none⟩) 1 1, .slice (some ⟨s + 1 + 1 + 1 + 1 + 1 + 1 + 1 + 1 + 1 + 1 + 1 + 1 + 1, 0, none⟩) 1 1, .slice (some ⟨s + 1 + 1 + 1 + 1 + 1 + 1 + 1 + 1 + 1 + 1 + 1 + 1 + 1 + 1, 0, none⟩) 1 1] 34,
  .cells #[.slice (some ⟨s + 1 + 1 + 1, 0, none⟩) 1 1, .slice (some ⟨s + 1 + 1 + 1 + 1, 0, none⟩) 1 1, .slice (some ⟨s + 1 + 1 + 1 + 1 + 1 + 1, 0, none⟩) 1 1, .slice (some ⟨s + 1 + 1 + 1 + 1 + 1 + 1 + 1 + 1 + 1, 0, none⟩) 1 1, .slice (some ⟨s + 1 + 1 + 1 + 1 + 1 + 1 + 1 + 1 + 1 + 1 + 1 + 1 + 1, 0, none⟩) 1 1, .slice (some ⟨s + 1 + 1 + 1 + 1 + 1 + 1 + 1 + 1 + 1 + 1 + 1 + 1 + 1 + 1, 0, none⟩) 1 1] 34,
  .cells #[.string ⟨#[116, 116, 108]⟩, .int .i64 8, .string ⟨#[115, 114, 99]⟩, .int .i64 32] 82,
  .cells #[.string ⟨#[105, 112]⟩, .slice (some ⟨s + 1 + 1, 0, none⟩) 2 2] 60,
  .cells #[.string ⟨#[112, 111, 114, 116]⟩, .int .i64 9] 82,
  .cells #[.int .u64 0, .int .u64 0, .int .u64 0, .int .u64 255, .string ⟨#[114, 101, 106, 101, 99, 116]⟩] 165,
  .cells #[.string ⟨#[98, 101, 103, 105, 110]⟩, .string ⟨#[105, 112]⟩, .string ⟨#[105, 112]⟩, .string ⟨#[116, 116, 108]⟩, .slice (some ⟨s + 1 + 1 + 1 + 1 + 1, 0, none⟩) 1 1, .string ⟨#[97, 99, 99, 101, 112, 116]⟩] 98,
  .cells #[.string ⟨#[112]⟩, .int .i64 9] 82,
  .cells #[.int .i64 1, .string ⟨#[109, 101, 116, 97]⟩, .string ⟨#[112, 111, 114, 116]⟩, .int .i64 0, .string ⟨#[]⟩, .string ⟨#[112]⟩, .int .u64 0, .int .u64 0, .string ⟨#[]⟩, .string ⟨#[]⟩, .int .u64 0, .int .u64 0] 167,
  .cells #[.string ⟨#[111, 117, 116]⟩, .slice (some ⟨s + 1 + 1 + 1 + 1 + 1 + 1 + 1, 0, none⟩) 1 1, .slice (some ⟨s + 1 + 1 + 1 + 1 + 1 + 1 + 1 + 1, 0, none⟩) 1 1] 65,
  .cells #[.string ⟨#[105, 112]⟩, .string ⟨#[115, 114, 99]⟩, .int .i64 2] 116,
  .cells #[.string ⟨#[111, 117, 116]⟩] 9,
  .cells #[.int .u64 0, .int .u64 511] 121,
  .cells #[.string ⟨#[114, 111, 117, 116, 101]⟩, .slice (some ⟨s + 1 + 1 + 1 + 1 + 1 + 1 + 1 + 1 + 1 + 1, 0, none⟩) 1 1, .slice (some ⟨s + 1 + 1 + 1 + 1 + 1 + 1 + 1 + 1 + 1 + 1 + 1, 0, none⟩) 1 1, .int .i64 4, .string ⟨#[111, 117, 116]⟩, .slice (some ⟨s + 1 + 1 + 1 + 1 + 1 + 1 + 1 + 1 + 1 + 1 + 1 + 1, 0, none⟩) 1 1, .bool false] 51,
  .cells #[.int .i64 1, .string ⟨#[114, 111, 117, 116, 101]⟩, .int .i64 0, .string ⟨#[]⟩, .string ⟨#[]⟩, .int .u64 0, .int .u64 0, .string ⟨#[]⟩, .string ⟨#[]⟩, .int .u64 0, .int .u64 0, .slice none 0 0, .slice none 0 0] 127]
def exH:List Hdr:=[⟨⟨#[105,112]⟩,[⟨⟨#[116,116,108]⟩,8⟩,⟨⟨#[115,114,99]⟩,32⟩]⟩]
def exM:List Fld:=[⟨⟨#[112,111,114,116]⟩,9⟩]
def exSt:List Sta:=[⟨⟨#[98,101,103,105,110]⟩,⟨#[105,112]⟩,⟨⟨#[105,112]⟩,⟨#[116,116,108]⟩⟩,[⟨0,255,⟨#[114,101,106,101,99,116]⟩⟩],⟨#[97,99,99,101,112,116]⟩⟩]
def exA:List Actn:=[⟨⟨#[111,117,116]⟩,[⟨⟨#[112]⟩,9⟩],[⟨1,⟨⟨#[109,101,116,97]⟩,⟨#[112,111,114,116]⟩⟩,0,⟨⟨⟨#[]⟩,⟨#[112]⟩⟩,0⟩,⟨⟨⟨#[]⟩,⟨#[]⟩⟩,0⟩⟩]⟩]
def exT (l:List Nat):List Tbl:=[⟨⟨#[114,111,117,116,101]⟩,[⟨⟨⟨#[105,112]⟩,⟨#[115,114,99]⟩⟩,2⟩],[⟨#[111,117,116]⟩],4,⟨⟨#[111,117,116]⟩,l⟩,false⟩]
def exC:List Stg:=[.mk 1 ⟨#[114,111,117,116,101]⟩ ⟨0,⟨⟨⟨#[]⟩,⟨#[]⟩⟩,0⟩,⟨⟨⟨#[]⟩,⟨#[]⟩⟩,0⟩⟩ [] []]
def exS (l:List Nat):Sch:=⟨exH,exM,exSt,exA,exT l,exC⟩
theorem okn_of (n:Int)(h:(decide (-9223372036854775808≤n)&&decide (n≤9223372036854775807))=true):Okn n:=by simpa[Okn] using h
theorem is128_of (n:Nat)(h:Nat.blt n 340282366920938463463374607431768211456=true):Is128 n:=Nat.le_of_ble_eq_true h
theorem ex_rows (V:World)(s:Nat)(l:List Nat)(d:Value)(sb:Nat)(b2:Blk V (s+1+1) #[.string ⟨#[116,116,108]⟩,.int .i64 8,.string ⟨#[115,114,99]⟩,.int .i64 32] 82)(b3:Blk V (s+1+1+1) #[.string ⟨#[105,112]⟩,.slice (some ⟨s+1+1,0,none⟩) 2 2] 60)(b4:Blk V (s+1+1+1+1) #[.string ⟨#[112,111,114,116]⟩,.int .i64 9] 82)(b5:Blk V (s+1+1+1+1+1) #[.int .u64 0,.int .u64 0,.int .u64 0,.int .u64 255,.string ⟨#[114,101,106,101,99,116]⟩] 165)(b6:Blk V (s+1+1+1+1+1+1) #[.string ⟨#[98,101,103,105,110]⟩,.string ⟨#[105,112]⟩,.string ⟨#[105,112]⟩,.string ⟨#[116,116,108]⟩,.slice (some ⟨s+1+1+1+1+1,0,none⟩) 1 1,.string ⟨#[97,99,99,101,112,116]⟩] 98)(b7:Blk V (s+1+1+1+1+1+1+1) #[.string ⟨#[112]⟩,.int .i64 9] 82)(b8:Blk V (s+1+1+1+1+1+1+1+1) #[.int .i64 1,.string ⟨#[109,101,116,97]⟩,.string ⟨#[112,111,114,116]⟩,.int .i64 0,.string ⟨#[]⟩,.string ⟨#[112]⟩,.int .u64 0,.int .u64 0,.string ⟨#[]⟩,.string ⟨#[]⟩,.int .u64 0,.int .u64 0] 167)(b9:Blk V (s+1+1+1+1+1+1+1+1+1) #[.string ⟨#[111,117,116]⟩,.slice (some ⟨s+1+1+1+1+1+1+1,0,none⟩) 1 1,.slice (some ⟨s+1+1+1+1+1+1+1+1,0,none⟩) 1 1] 65)(b10:Blk V (s+1+1+1+1+1+1+1+1+1+1) #[.string ⟨#[105,112]⟩,.string ⟨#[115,114,99]⟩,.int .i64 2] 116)(b11:Blk V (s+1+1+1+1+1+1+1+1+1+1+1) #[.string ⟨#[111,117,116]⟩] 9)
  (b13:Blk V (s+1+1+1+1+1+1+1+1+1+1+1+1+1) #[.string ⟨#[114,111,117,116,101]⟩,.slice (some ⟨s+1+1+1+1+1+1+1+1+1+1,0,none⟩) 1 1,.slice (some ⟨s+1+1+1+1+1+1+1+1+1+1+1,0,none⟩) 1 1,.int .i64 4,.string ⟨#[111,117,116]⟩,d,.bool false] 51) (hd:BitRow V d l) (b14:Blk V sb #[.int .i64 1,.string ⟨#[114,111,117,116,101]⟩,.int .i64 0,.string ⟨#[]⟩,.string ⟨#[]⟩,.int .u64 0,.int .u64 0,.string ⟨#[]⟩,.string ⟨#[]⟩,.int .u64 0,.int .u64 0,.slice none 0 0,.slice none 0 0] 127):
  SchIs V (.agg #[.slice (some ⟨s+1+1+1,0,none⟩) 1 1,.slice (some ⟨s+1+1+1+1,0,none⟩) 1 1,.slice (some ⟨s+1+1+1+1+1+1,0,none⟩) 1 1,.slice (some ⟨s+1+1+1+1+1+1+1+1+1,0,none⟩) 1 1,.slice (some ⟨s+1+1+1+1+1+1+1+1+1+1+1+1+1,0,none⟩) 1 1,.slice (some ⟨sb,0,none⟩) 1 1]) (exS l):=by
 have o1:∀ s:ByteArray,s.size≤10→Okt s:=fun s h=>by unfold Okt;omega
 refine ⟨_, _, _, _, _, _, rfl, ⟨row_one b3 rfl ⟨_, rfl, o1 _ (Nat.le_of_ble_eq_true rfl), ?f2, Nat.le_of_ble_eq_true rfl⟩, Nat.le_of_ble_eq_true rfl⟩, ⟨row_one b4 rfl ⟨rfl, o1 _ (Nat.le_of_ble_eq_true rfl), okn_of _ rfl⟩, Nat.le_of_ble_eq_true rfl⟩,
   ⟨row_one b6 rfl ⟨_, rfl, ⟨o1 _ (Nat.le_of_ble_eq_true rfl), o1 _ (Nat.le_of_ble_eq_true rfl), o1 _ (Nat.le_of_ble_eq_true rfl), o1 _ (Nat.le_of_ble_eq_true rfl), o1 _ (Nat.le_of_ble_eq_true rfl)⟩, row_one b5 rfl ⟨?c5, ?k5⟩, Nat.le_of_ble_eq_true rfl⟩, Nat.le_of_ble_eq_true rfl⟩,
   ⟨row_one b9 rfl ⟨_, _, rfl, o1 _ (Nat.le_of_ble_eq_true rfl), ⟨row_one b7 rfl ⟨rfl, o1 _ (Nat.le_of_ble_eq_true rfl), okn_of _ rfl⟩, Nat.le_of_ble_eq_true rfl⟩, row_one b8 rfl ⟨?c8, ?k8⟩, Nat.le_of_ble_eq_true rfl⟩, Nat.le_of_ble_eq_true rfl⟩,
   ⟨row_one b13 rfl ⟨_, _, _, rfl, ⟨o1 _ (Nat.le_of_ble_eq_true rfl), okn_of _ rfl, o1 _ (Nat.le_of_ble_eq_true rfl)⟩, ⟨row_one b10 rfl ⟨rfl, ?k10⟩, Nat.le_of_ble_eq_true rfl⟩, ⟨row_one b11 rfl ⟨rfl, o1 _ (Nat.le_of_ble_eq_true rfl)⟩, Nat.le_of_ble_eq_true rfl⟩, hd⟩, Nat.le_of_ble_eq_true rfl⟩, ?st⟩
 case f2=>
  refine⟨_,_,rfl,Nat.le_refl _,.inr ⟨_,0,rfl,fun i y hy=>?_⟩⟩
  rcases i with _|_|i
  ·simp at hy
   subst hy
   refine⟨_,rfl,fun j u hu=>?_,rfl,o1 _ (Nat.le_of_ble_eq_true rfl),okn_of _ rfl⟩
   rcases j with _|_|j
   ·simp at hu;subst hu;exact b2.cell 0 rfl
   ·simp at hu;subst hu;exact b2.cell 1 rfl
   ·simp at hu
  ·simp at hy
   subst hy
   refine⟨_,rfl,fun j u hu=>?_,rfl,o1 _ (Nat.le_of_ble_eq_true rfl),okn_of _ rfl⟩
   rcases j with _|_|j
   ·simp at hu;subst hu;exact b2.cell 2 rfl
   ·simp at hu;subst hu;exact b2.cell 3 rfl
   ·simp at hu
  ·simp at hy
 case c5=>simp[CasC,hiOf,loOf]
 case k5=>exact⟨is128_of _ rfl,is128_of _ rfl,o1 _ (Nat.le_of_ble_eq_true rfl)⟩
 case c8=>simp[StpC,hiOf,loOf]
 case k8=>exact⟨okn_of _ rfl,o1 _ (Nat.le_of_ble_eq_true rfl),o1 _ (Nat.le_of_ble_eq_true rfl),okn_of _ rfl,⟨o1 _ (Nat.le_of_ble_eq_true rfl),o1 _ (Nat.le_of_ble_eq_true rfl),is128_of _ rfl⟩,⟨o1 _ (Nat.le_of_ble_eq_true rfl),o1 _ (Nat.le_of_ble_eq_true rfl),is128_of _ rfl⟩⟩
 case k10=>exact⟨o1 _ (Nat.le_of_ble_eq_true rfl),o1 _ (Nat.le_of_ble_eq_true rfl),okn_of _ rfl⟩
 case st=>
  have hn:StgRow (V) (.slice none 0 0) []:=⟨none,0,rfl,Nat.le_refl _,by rw[StgAt];trivial,Nat.le_of_ble_eq_true rfl⟩
  refine row_stgRow (row_one b14 rfl ((stgIs_iff _ _ _).2 ⟨_,_,?_,⟨okn_of _ rfl,o1 _ (Nat.le_of_ble_eq_true rfl),⟨okn_of _ rfl,⟨o1 _ (Nat.le_of_ble_eq_true rfl),o1 _ (Nat.le_of_ble_eq_true rfl),is128_of _ rfl⟩,⟨o1 _ (Nat.le_of_ble_eq_true rfl),o1 _ (Nat.le_of_ble_eq_true rfl),is128_of _ rfl⟩⟩⟩,hn,hn⟩)) (Nat.le_of_ble_eq_true rfl)
  simp[Stg.kind,Stg.table,Stg.test,hiOf,loOf]
theorem ex_is (w:World):SchIs (allocs w (exObjs w.heap.size)) (.agg (let s:=w.heap.size;#[.slice (some ⟨s+1+1+1,0,none⟩) 1 1,.slice (some ⟨s+1+1+1+1,0,none⟩) 1 1,.slice (some ⟨s+1+1+1+1+1+1,0,none⟩) 1 1,.slice (some ⟨s+1+1+1+1+1+1+1+1+1,0,none⟩) 1 1,.slice (some ⟨s+1+1+1+1+1+1+1+1+1+1+1+1+1,0,none⟩) 1 1,.slice (some ⟨s+1+1+1+1+1+1+1+1+1+1+1+1+1+1,0,none⟩) 1 1])) (exS [511]):=by
 have b12:Blk (allocs w (exObjs w.heap.size)) (w.heap.size+1+1+1+1+1+1+1+1+1+1+1+1) _ 121:=allocs_blk w _ 12 rfl
 exact ex_rows _ w.heap.size [511] _ _ (allocs_blk w _ 2 rfl) (allocs_blk w _ 3 rfl) (allocs_blk w _ 4 rfl) (allocs_blk w _ 5 rfl) (allocs_blk w _ 6 rfl) (allocs_blk w _ 7 rfl) (allocs_blk w _ 8 rfl) (allocs_blk w _ 9 rfl) (allocs_blk w _ 10 rfl) (allocs_blk w _ 11 rfl) (allocs_blk w _ 13 rfl) ⟨row_one b12 rfl ⟨by simp[BitC,hiOf,loOf],by unfold Is128;decide⟩,by unfold Len;decide⟩ (allocs_blk w _ 14 rfl)
theorem example_no (w:World):Calls Tryz.prog 60 #[.bool false] w fun e w'=>∃ v,e=.returned v∧SchIs w' v (exS [511])∧Below w.heap.size w w':=by
 have HE:=ex_is w
 have HB:=allocs_below (exObjs w.heap.size) w w.heap.size (Nat.le_refl _)
 have HH:Hid (SchIs (allocs w (exObjs w.heap.size)) (.agg (let s:=w.heap.size;#[.slice (some ⟨s+1+1+1,0,none⟩) 1 1,.slice (some ⟨s+1+1+1+1,0,none⟩) 1 1,.slice (some ⟨s+1+1+1+1+1+1,0,none⟩) 1 1,.slice (some ⟨s+1+1+1+1+1+1+1+1+1,0,none⟩) 1 1,.slice (some ⟨s+1+1+1+1+1+1+1+1+1+1+1+1+1,0,none⟩) 1 1,.slice (some ⟨s+1+1+1+1+1+1+1+1+1+1+1+1+1+1,0,none⟩) 1 1])) (exS [511])∧Bl w (allocs w (exObjs w.heap.size))):=⟨HE,HB⟩
 clear HE HB
 go_enter Tryz.func60,Tryz.ntmps60
 go_wp2_with fail
 refine bodyPost_ret (v:=.agg (let s:=w.heap.size;#[.slice (some ⟨s+1+1+1,0,none⟩) 1 1,.slice (some ⟨s+1+1+1+1,0,none⟩) 1 1,.slice (some ⟨s+1+1+1+1+1+1,0,none⟩) 1 1,.slice (some ⟨s+1+1+1+1+1+1+1+1+1,0,none⟩) 1 1,.slice (some ⟨s+1+1+1+1+1+1+1+1+1+1+1+1+1,0,none⟩) 1 1,.slice (some ⟨s+1+1+1+1+1+1+1+1+1+1+1+1+1+1,0,none⟩) 1 1])) ?_ rfl ⟨_,rfl,HH.out.1,HH.out.2⟩
 simp[results,Tryz.results60,go_sem]
def exObjs7 (s : Nat) : List Obj := [.cells #[.slice none 0 0, .slice none 0 0, .slice none 0 0, .slice none 0 0, .slice none 0 0, .slice none 0 0] 34,
  .cells #[.slice (some ⟨s + 1 + 1 + 1, 0, none⟩) 1 1, .slice (some ⟨s + 1 + 1 + 1 + 1, 0, none⟩) 1 1, .slice (some ⟨s + 1 + 1 + 1 + 1 + 1 + 1, 0, none⟩) 1 1, .slice (some ⟨s + 1 + 1 + 1 + 1 + 1 + 1 + 1 + 1 + 1, 0, none⟩) 1 1, .slice (some ⟨s + 1 + 1 + 1 + 1 + 1 + 1 + 1 + 1 + 1 + 1 + 1 + 1 + 1, 0, none⟩) 1 1, .slice none 0 0] 34,
  .cells #[.string ⟨#[116, 116, 108]⟩, .int .i64 8, .string ⟨#[115, 114, 99]⟩, .int .i64 32] 82,
  .cells #[.string ⟨#[105, 112]⟩, .slice (some ⟨s + 1 + 1, 0, none⟩) 2 2] 60,
  .cells #[.string ⟨#[112, 111, 114, 116]⟩, .int .i64 9] 82,
  .cells #[.int .u64 0, .int .u64 0, .int .u64 0, .int .u64 255, .string ⟨#[114, 101, 106, 101, 99, 116]⟩] 165,
  .cells #[.string ⟨#[98, 101, 103, 105, 110]⟩, .string ⟨#[105, 112]⟩, .string ⟨#[105, 112]⟩, .string ⟨#[116, 116, 108]⟩, .slice (some ⟨s + 1 + 1 + 1 + 1 + 1, 0, none⟩) 1 1, .string ⟨#[97, 99, 99, 101, 112, 116]⟩] 98,
  .cells #[.string ⟨#[112]⟩, .int .i64 9] 82,
  .cells #[.int .i64 1, .string ⟨#[109, 101, 116, 97]⟩, .string ⟨#[112, 111, 114, 116]⟩, .int .i64 0, .string ⟨#[]⟩, .string ⟨#[112]⟩, .int .u64 0, .int .u64 0, .string ⟨#[]⟩, .string ⟨#[]⟩, .int .u64 0, .int .u64 0] 167,
  .cells #[.string ⟨#[111, 117, 116]⟩, .slice (some ⟨s + 1 + 1 + 1 + 1 + 1 + 1 + 1, 0, none⟩) 1 1, .slice (some ⟨s + 1 + 1 + 1 + 1 + 1 + 1 + 1 + 1, 0, none⟩) 1 1] 65,
  .cells #[.string ⟨#[105, 112]⟩, .string ⟨#[115, 114, 99]⟩, .int .i64 2] 116,
  .cells #[.string ⟨#[111, 117, 116]⟩] 9,
  .cells #[.int .u64 0, .int .u64 511] 121,
  .cells #[.string ⟨#[114, 111, 117, 116, 101]⟩, .slice (some ⟨s + 1 + 1 + 1 + 1 + 1 + 1 + 1 + 1 + 1 + 1, 0, none⟩) 1 1, .slice (some ⟨s + 1 + 1 + 1 + 1 + 1 + 1 + 1 + 1 + 1 + 1 + 1, 0, none⟩) 1 1, .int .i64 4, .string ⟨#[111, 117, 116]⟩, .slice (some ⟨s + 1 + 1 + 1 + 1 + 1 + 1 + 1 + 1 + 1 + 1 + 1 + 1, 0, none⟩) 1 1, .bool false] 51]
structure Ex7 (w V:World):Prop where
 z:Blk V w.heap.size #[.slice none 0 0,.slice none 0 0,.slice none 0 0,.slice none 0 0,.slice none 0 0,.slice none 0 0] 34
 l:Blk V (w.heap.size+1) #[.slice (some ⟨w.heap.size+1+1+1,0,none⟩) 1 1,.slice (some ⟨w.heap.size+1+1+1+1,0,none⟩) 1 1,.slice (some ⟨w.heap.size+1+1+1+1+1+1,0,none⟩) 1 1,.slice (some ⟨w.heap.size+1+1+1+1+1+1+1+1+1,0,none⟩) 1 1,.slice (some ⟨w.heap.size+1+1+1+1+1+1+1+1+1+1+1+1+1,0,none⟩) 1 1,.slice none 0 0] 34
 below:Below w.heap.size w V
 b2:Blk V (w.heap.size+1+1) #[.string ⟨#[116,116,108]⟩,.int .i64 8,.string ⟨#[115,114,99]⟩,.int .i64 32] 82
 b3:Blk V (w.heap.size+1+1+1) #[.string ⟨#[105,112]⟩,.slice (some ⟨w.heap.size+1+1,0,none⟩) 2 2] 60
 b4:Blk V (w.heap.size+1+1+1+1) #[.string ⟨#[112,111,114,116]⟩,.int .i64 9] 82
 b5:Blk V (w.heap.size+1+1+1+1+1) #[.int .u64 0,.int .u64 0,.int .u64 0,.int .u64 255,.string ⟨#[114,101,106,101,99,116]⟩] 165
 b6:Blk V (w.heap.size+1+1+1+1+1+1) #[.string ⟨#[98,101,103,105,110]⟩,.string ⟨#[105,112]⟩,.string ⟨#[105,112]⟩,.string ⟨#[116,116,108]⟩,.slice (some ⟨w.heap.size+1+1+1+1+1,0,none⟩) 1 1,.string ⟨#[97,99,99,101,112,116]⟩] 98
 b7:Blk V (w.heap.size+1+1+1+1+1+1+1) #[.string ⟨#[112]⟩,.int .i64 9] 82
 b8:Blk V (w.heap.size+1+1+1+1+1+1+1+1) #[.int .i64 1,.string ⟨#[109,101,116,97]⟩,.string ⟨#[112,111,114,116]⟩,.int .i64 0,.string ⟨#[]⟩,.string ⟨#[112]⟩,.int .u64 0,.int .u64 0,.string ⟨#[]⟩,.string ⟨#[]⟩,.int .u64 0,.int .u64 0] 167
 b9:Blk V (w.heap.size+1+1+1+1+1+1+1+1+1) #[.string ⟨#[111,117,116]⟩,.slice (some ⟨w.heap.size+1+1+1+1+1+1+1,0,none⟩) 1 1,.slice (some ⟨w.heap.size+1+1+1+1+1+1+1+1,0,none⟩) 1 1] 65
 b10:Blk V (w.heap.size+1+1+1+1+1+1+1+1+1+1) #[.string ⟨#[105,112]⟩,.string ⟨#[115,114,99]⟩,.int .i64 2] 116
 b11:Blk V (w.heap.size+1+1+1+1+1+1+1+1+1+1+1) #[.string ⟨#[111,117,116]⟩] 9
theorem ex7_of (w:World):Ex7 w (allocs w (exObjs7 w.heap.size)):=
 ⟨allocs_blk w _ 0 rfl,allocs_blk w _ 1 rfl,allocs_below _ w _ (Nat.le_refl _),allocs_blk w _ 2 rfl,allocs_blk w _ 3 rfl,allocs_blk w _ 4 rfl,allocs_blk w _ 5 rfl,allocs_blk w _ 6 rfl,allocs_blk w _ 7 rfl,allocs_blk w _ 8 rfl,allocs_blk w _ 9 rfl,allocs_blk w _ 10 rfl,allocs_blk w _ 11 rfl⟩
theorem Ex7.kept {w V V':World}(h:Ex7 w V)(hk:Kept (fun k=>k=w.heap.size+1+1+1+1+1+1+1+1+1+1+1+1∨k=w.heap.size+1+1+1+1+1+1+1+1+1+1+1+1+1) V V'):Ex7 w V':=
 ⟨h.z.kept hk (by omega),h.l.kept hk (by omega),h.below.trans (hk.below h.below.size (fun k e=>by omega)),h.b2.kept hk (by omega),h.b3.kept hk (by omega),h.b4.kept hk (by omega),h.b5.kept hk (by omega),h.b6.kept hk (by omega),h.b7.kept hk (by omega),h.b8.kept hk (by omega),h.b9.kept hk (by omega),h.b10.kept hk (by omega),h.b11.kept hk (by omega)⟩
theorem bits_two {V:World}{B g cap:Nat}(h:V.ownsRow B 121 2 (.slice (some ⟨g,0,none⟩) 2 cap) 2 [.int .u64 0,.int .u64 511,.int .u64 0,.int .u64 0]):BitRow V (.slice (some ⟨g,0,none⟩) 2 cap) [511,0]:=by
 have hc:2≤cap:=by
  rcases h.2 with⟨e,_⟩|⟨g',cap',cur,e,_,_,hn,_⟩
  ·cases e
  ·cases e;exact hn
 refine⟨⟨_,_,rfl,hc,.inr ⟨g,0,rfl,fun i y hy=>?_⟩⟩,Nat.le_of_ble_eq_true rfl⟩
 rcases i with _|_|i
 ·simp at hy
  subst hy
  refine⟨_,rfl,fun j u hu=>?_,rfl,is128_of _ rfl⟩
  rcases j with _|_|j
  ·simp[BitC,hiOf,loOf] at hu;subst hu;exact(h.cellAt 0 (by omega)).trans rfl
  ·simp[BitC,hiOf,loOf] at hu;subst hu;exact(h.cellAt 1 (by omega)).trans rfl
  ·simp[BitC] at hu
 ·simp at hy
  subst hy
  refine⟨_,rfl,fun j u hu=>?_,rfl,is128_of _ rfl⟩
  rcases j with _|_|j
  ·simp[BitC,hiOf,loOf] at hu;subst hu;exact(h.cellAt 2 (by omega)).trans rfl
  ·simp[BitC,hiOf,loOf] at hu;subst hu;exact(h.cellAt 3 (by omega)).trans rfl
  ·simp[BitC] at hu
 ·simp at hy
theorem example_yes (w:World):Calls Tryz.prog 60 #[.bool true] w fun e w'=>∃ v,e=.returned v∧SchIs w' v (exS [511,0])∧Below w.heap.size w w':=by
 obtain⟨i0,hi,hz0,hz1,hz3⟩:=info_of info121
 go_enter Tryz.func60,Tryz.ntmps60
 go_upto_region 8 with fail
 change Code.wp _ _ _ _ (allocs w (exObjs7 w.heap.size))
 have HE7:Hid (Ex7 w (allocs w (exObjs7 w.heap.size))):=ex7_of w
 have b12:Blk (allocs w (exObjs7 w.heap.size)) (w.heap.size+1+1+1+1+1+1+1+1+1+1+1+1) #[.int .u64 0,.int .u64 511] 121:=allocs_blk w _ 12 rfl
 have b13:Blk (allocs w (exObjs7 w.heap.size)) (w.heap.size+1+1+1+1+1+1+1+1+1+1+1+1+1) #[.string ⟨#[114,111,117,116,101]⟩,.slice (some ⟨w.heap.size+1+1+1+1+1+1+1+1+1+1,0,none⟩) 1 1,.slice (some ⟨w.heap.size+1+1+1+1+1+1+1+1+1+1+1,0,none⟩) 1 1,.int .i64 4,.string ⟨#[111,117,116]⟩,.slice (some ⟨w.heap.size+1+1+1+1+1+1+1+1+1+1+1+1,0,none⟩) 1 1,.bool false] 51:=allocs_blk w _ 13 rfl
 generalize allocs w (exObjs7 w.heap.size)=W at*
 have c4:=HE7.out.l.cell 4 (v:=.slice (some ⟨w.heap.size+1+1+1+1+1+1+1+1+1+1+1+1+1,0,none⟩) 1 1) rfl
 have t5:=b13.cell 5 (v:=.slice (some ⟨w.heap.size+1+1+1+1+1+1+1+1+1+1+1+1,0,none⟩) 1 1) rfl
 have f5:=b13.frozen 5
 have hs1:=HE7.out.l.lt
 have hs13:=b13.lt
 have hs:w.heap.size≤W.heap.size:=by omega
 have HRX:Hid ((W.alloc (.cells #[.int .u64 0,.int .u64 0] 121)).drew.ownsRow w.heap.size 121 2 (.slice (some ⟨w.heap.size+1+1+1+1+1+1+1+1+1+1+1+1,0,none⟩) 1 1) 1 [.int .u64 0,.int .u64 511]):=by
  have hb:Below W.heap.size W (W.alloc (.cells #[.int .u64 0,.int .u64 0] 121)).drew:=((Below.refl _ _).alloc (Nat.le_refl _) _).drew
  have h1:W.ownsRow w.heap.size 121 2 (.slice (some ⟨w.heap.size+1+1+1+1+1+1+1+1+1+1+1+1,0,none⟩) 1 1) 1 [.int .u64 0,.int .u64 511]:=⟨rfl,.inr ⟨_,1,_,rfl,by omega,b12,Nat.le_refl _,by decide,rfl,rfl⟩⟩
  exact ownsRow_kept (S:=fun _=>False) h1 (Kept.of_below hb) (fun _ _ e=>e)
 have HNX:Hid (∀(j:Nat) (u:Value),[Value.int .u64 0,Value.int .u64 0][j]?=some u→(W.alloc (.cells #[.int .u64 0,.int .u64 0] 121)).drew.cell? ((⟨W.heap.size,0,none⟩:Addr).add j)=some u):=World.news_of_block (w:=(W.alloc (.cells #[.int .u64 0,.int .u64 0] 121)).drew) (Blk.new W #[.int .u64 0,.int .u64 0] 121)
 have HN:Hid (∀ u ∈ [Value.int .u64 0,Value.int .u64 0],u.oneCell'=true):=fun u hu=>by simp at hu;rw[hu];rfl
 have KK:Hid (∀ w6:World,(W.alloc (.cells #[.int .u64 0,.int .u64 0] 121)).drew.grownBy w6 (some (w.heap.size+1+1+1+1+1+1+1+1+1+1+1+1))→Kept (fun k=>k=w.heap.size+1+1+1+1+1+1+1+1+1+1+1+1) W w6):=fun w6 hg=>(Kept.of_below (((Below.refl W.heap.size W).alloc (Nat.le_refl _) (.cells #[.int .u64 0,.int .u64 0] 121)).drew)).grown hg (fun k e=>(Option.some.inj e).symm)
 have KE:Hid (∀ w6:World,(W.alloc (.cells #[.int .u64 0,.int .u64 0] 121)).drew.grownBy w6 (some (w.heap.size+1+1+1+1+1+1+1+1+1+1+1+1))→w6.cell? ⟨w.heap.size+1,4,none⟩=some (.slice (some ⟨w.heap.size+1+1+1+1+1+1+1+1+1+1+1+1+1,0,none⟩) 1 1)∧w6.cell? ⟨w.heap.size+1+1+1+1+1+1+1+1+1+1+1+1+1,5,none⟩=some (.slice (some ⟨w.heap.size+1+1+1+1+1+1+1+1+1+1+1+1,0,none⟩) 1 1)∧w6.frozen? ⟨w.heap.size+1+1+1+1+1+1+1+1+1+1+1+1+1,5,none⟩=false∧w.heap.size+1<w6.heap.size∧w.heap.size+1+1+1+1+1+1+1+1+1+1+1+1+1<w6.heap.size):=fun w6 hg=>by
  have k:=KK.out w6 hg
  have l:=HE7.out.l.kept k (by omega)
  have m:=b13.kept k (by omega)
  exact⟨l.cell 4 rfl,m.cell 5 rfl,m.frozen 5,l.lt,m.lt⟩
 have HP:Hid (∀(w6:World) (g cap:Nat),(W.alloc (.cells #[.int .u64 0,.int .u64 0] 121)).drew.grownBy w6 (some (w.heap.size+1+1+1+1+1+1+1+1+1+1+1+1))→w6.ownsRow w.heap.size 121 2 (.slice (some ⟨g,0,none⟩) (1+1) cap) (1+1) ([.int .u64 0,.int .u64 511]++[.int .u64 0,.int .u64 0])→(some (w.heap.size+1+1+1+1+1+1+1+1+1+1+1+1)=some g∨g=(W.alloc (.cells #[.int .u64 0,.int .u64 0] 121)).drew.heap.size)→(fun wx=>Hid (Ex7 w wx∧∃ g cap,Blk wx (w.heap.size+1+1+1+1+1+1+1+1+1+1+1+1+1) #[.string ⟨#[114,111,117,116,101]⟩,.slice (some ⟨w.heap.size+1+1+1+1+1+1+1+1+1+1,0,none⟩) 1 1,.slice (some ⟨w.heap.size+1+1+1+1+1+1+1+1+1+1+1,0,none⟩) 1 1,.int .i64 4,.string ⟨#[111,117,116]⟩,.slice (some ⟨g,0,none⟩) 2 cap,.bool false] 51∧wx.ownsRow w.heap.size 121 2 (.slice (some ⟨g,0,none⟩) 2 cap) 2 [.int .u64 0,.int .u64 511,.int .u64 0,.int .u64 0]∧g≠w.heap.size∧g≠w.heap.size+1)) (w6.setCell ⟨w.heap.size+1+1+1+1+1+1+1+1+1+1+1+1+1,5,none⟩ (.slice (some ⟨g,0,none⟩) 2 cap))):=fun w6 g cap hg ho hw=>by
  have k:=KK.out w6 hg
  have m:=b13.kept k (by omega)
  have ks:Kept (fun k=>k=w.heap.size+1+1+1+1+1+1+1+1+1+1+1+1+1) w6 (w6.setCell ⟨w.heap.size+1+1+1+1+1+1+1+1+1+1+1+1+1,5,none⟩ (.slice (some ⟨g,0,none⟩) 2 cap)):=Kept.set (S:=fun k=>k=w.heap.size+1+1+1+1+1+1+1+1+1+1+1+1+1) (Kept.refl _ _) rfl _
  have hz:((W.alloc (.cells #[.int .u64 0,.int .u64 0] 121)).drew).heap.size=W.heap.size+1:=by show(W.alloc _).heap.size=_;rw[World.size_alloc]
  have hg2:g≠w.heap.size+1+1+1+1+1+1+1+1+1+1+1+1+1∧g≠w.heap.size∧g≠w.heap.size+1:=by
   rcases hw with e|e
   ·have:=Option.some.inj e;omega
   ·omega
  refine⟨HE7.out.kept ((k.mono (fun _ _ e=>.inl e)).trans (ks.mono (fun _ _ e=>.inr e))),g,cap,m.set 5 _,?_,hg2.2⟩
  exact ownsRow_kept (S := fun k => k = w.heap.size + 1 + 1 + 1 + 1 + 1 + 1 + 1 + 1 + 1 + 1 + 1 + 1 + 1) ho ks (fun k e => by
    have : k = g := by simpa [Value.ownBlock] using e.symm
    rw [this]; exact hg2.1)
 go_cut [] from 41 to 54 (fun wx=>Hid (Ex7 w wx∧∃ g cap,Blk wx (w.heap.size+1+1+1+1+1+1+1+1+1+1+1+1+1) #[.string ⟨#[114,111,117,116,101]⟩,.slice (some ⟨w.heap.size+1+1+1+1+1+1+1+1+1+1,0,none⟩) 1 1,.slice (some ⟨w.heap.size+1+1+1+1+1+1+1+1+1+1+1,0,none⟩) 1 1,.int .i64 4,.string ⟨#[111,117,116]⟩,.slice (some ⟨g,0,none⟩) 2 cap,.bool false] 51∧wx.ownsRow w.heap.size 121 2 (.slice (some ⟨g,0,none⟩) 2 cap) 2 [.int .u64 0,.int .u64 511,.int .u64 0,.int .u64 0]∧g≠w.heap.size∧g≠w.heap.size+1))
 case first=>
  clear b12 b13
  go_region_law (refine step_append_lies _ (by rfl) (.tmp 48) (.tmp 50) 43 (by rfl) w.heap.size 121 i0 (.agg #[.int .u64 0,.int .u64 0]) 2 16 Tryz.underlying43 hi hz0 hz1 hz3 rfl (by decide) _ 1 [.int .u64 0,.int .u64 511] (by rfl) (by exact HRX.out) ⟨W.heap.size,0,none⟩ 1 1 [.int .u64 0,.int .u64 0] (by rfl) rfl (by exact HNX.out) HN.out (by decide) (by decide) (by decide) (by show _≤(W.alloc _).heap.size;rw[World.size_alloc];omega) _ (by rfl) ?_;intro g1 cap1 w6 hown hgr hwh hlt6;obtain⟨ke1,ke2,ke3,ke4,ke5⟩:=KE.out w6 hgr;have hend:=HP.out w6 g1 cap1 hgr hown hwh;clear hown hgr hwh)
  all_goals (go_wp2_with fail;go_meet;exact hend)
 case rest=>
  obtain⟨he,g,cap,m13,hown,hg0,hg1⟩:=hcut.out
  have HC:Hid (Ex7 w wc∧Blk wc (w.heap.size+1+1+1+1+1+1+1+1+1+1+1+1+1) #[.string ⟨#[114,111,117,116,101]⟩,.slice (some ⟨w.heap.size+1+1+1+1+1+1+1+1+1+1,0,none⟩) 1 1,.slice (some ⟨w.heap.size+1+1+1+1+1+1+1+1+1+1+1,0,none⟩) 1 1,.int .i64 4,.string ⟨#[111,117,116]⟩,.slice (some ⟨g,0,none⟩) 2 cap,.bool false] 51∧wc.ownsRow w.heap.size 121 2 (.slice (some ⟨g,0,none⟩) 2 cap) 2 [.int .u64 0,.int .u64 511,.int .u64 0,.int .u64 0]∧g≠w.heap.size∧g≠w.heap.size+1):=⟨he,m13,hown,hg0,hg1⟩
  clear b12 b13 c4 t5 f5 hs1 hs13 hs HRX HNX HN KK KE HP HE7 m13 hown hg0 hg1 hcut
  have hl0:w.heap.size<wc.heap.size:=he.z.lt
  have hl1:w.heap.size+1<wc.heap.size:=he.l.lt
  obtain⟨z0,z1,z2,z3,z4,z5⟩:=he.z.c6
  have y0:=he.z.frozen 0
  have y1:=he.z.frozen 1
  have y2:=he.z.frozen 2
  have y3:=he.z.frozen 3
  have y4:=he.z.frozen 4
  have y5:=he.z.frozen 5
  obtain⟨A0,e0⟩:∃ u:Option Addr,u=some ⟨w.heap.size+1+1+1,0,none⟩:=⟨_,rfl⟩
  obtain⟨A1,e1⟩:∃ u:Option Addr,u=some ⟨w.heap.size+1+1+1+1,0,none⟩:=⟨_,rfl⟩
  obtain⟨A2,e2⟩:∃ u:Option Addr,u=some ⟨w.heap.size+1+1+1+1+1+1,0,none⟩:=⟨_,rfl⟩
  obtain⟨A3,e3⟩:∃ u:Option Addr,u=some ⟨w.heap.size+1+1+1+1+1+1+1+1+1,0,none⟩:=⟨_,rfl⟩
  obtain⟨A4,e4⟩:∃ u:Option Addr,u=some ⟨w.heap.size+1+1+1+1+1+1+1+1+1+1+1+1+1,0,none⟩:=⟨_,rfl⟩
  have hbl:Blk wc (w.heap.size+1) #[(.slice A0 1 1),(.slice A1 1 1),(.slice A2 1 1),(.slice A3 1 1),(.slice A4 1 1),.slice none 0 0] 34:=by rw[e0,e1,e2,e3,e4];exact he.l
  have HU:Hid (A0=some ⟨w.heap.size+1+1+1,0,none⟩∧A1=some ⟨w.heap.size+1+1+1+1,0,none⟩∧A2=some ⟨w.heap.size+1+1+1+1+1+1,0,none⟩∧A3=some ⟨w.heap.size+1+1+1+1+1+1+1+1+1,0,none⟩∧A4=some ⟨w.heap.size+1+1+1+1+1+1+1+1+1+1+1+1+1,0,none⟩):=⟨e0,e1,e2,e3,e4⟩
  have l5:=hbl.cell 5 (v:=.slice none 0 0) rfl
  have f5:=hbl.frozen 5
  have HBL:Hid (Blk wc (w.heap.size+1) #[(.slice A0 1 1),(.slice A1 1 1),(.slice A2 1 1),(.slice A3 1 1),(.slice A4 1 1),.slice none 0 0] 34):=hbl
  clear he hbl e0 e1 e2 e3 e4 z0 z1 z2 z3 z4 z5 y0 y1 y2 y3 y4 y5
  go_upto_region 10 with fail
  have HV1:Hid (Kept (fun k=>k=w.heap.size+1) wc ((wc.setCell ⟨w.heap.size+1,5,none⟩ (.slice (some ⟨wc.heap.size,0,none⟩) 1 1)).alloc (.cells #[.int .i64 1,.string ⟨#[114,111,117,116,101]⟩,.int .i64 0,.string ⟨#[]⟩,.string ⟨#[]⟩,.int .u64 0,.int .u64 0,.string ⟨#[]⟩,.string ⟨#[]⟩,.int .u64 0,.int .u64 0,.slice none 0 0,.slice none 0 0] 127))∧Blk ((wc.setCell ⟨w.heap.size+1,5,none⟩ (.slice (some ⟨wc.heap.size,0,none⟩) 1 1)).alloc (.cells #[.int .i64 1,.string ⟨#[114,111,117,116,101]⟩,.int .i64 0,.string ⟨#[]⟩,.string ⟨#[]⟩,.int .u64 0,.int .u64 0,.string ⟨#[]⟩,.string ⟨#[]⟩,.int .u64 0,.int .u64 0,.slice none 0 0,.slice none 0 0] 127)) wc.heap.size #[.int .i64 1,.string ⟨#[114,111,117,116,101]⟩,.int .i64 0,.string ⟨#[]⟩,.string ⟨#[]⟩,.int .u64 0,.int .u64 0,.string ⟨#[]⟩,.string ⟨#[]⟩,.int .u64 0,.int .u64 0,.slice none 0 0,.slice none 0 0] 127∧Blk ((wc.setCell ⟨w.heap.size+1,5,none⟩ (.slice (some ⟨wc.heap.size,0,none⟩) 1 1)).alloc (.cells #[.int .i64 1,.string ⟨#[114,111,117,116,101]⟩,.int .i64 0,.string ⟨#[]⟩,.string ⟨#[]⟩,.int .u64 0,.int .u64 0,.string ⟨#[]⟩,.string ⟨#[]⟩,.int .u64 0,.int .u64 0,.slice none 0 0,.slice none 0 0] 127)) (w.heap.size+1) #[(.slice A0 1 1),(.slice A1 1 1),(.slice A2 1 1),(.slice A3 1 1),(.slice A4 1 1),(.slice (some ⟨wc.heap.size,0,none⟩) 1 1)] 34∧Blk ((wc.setCell ⟨w.heap.size+1,5,none⟩ (.slice (some ⟨wc.heap.size,0,none⟩) 1 1)).alloc (.cells #[.int .i64 1,.string ⟨#[114,111,117,116,101]⟩,.int .i64 0,.string ⟨#[]⟩,.string ⟨#[]⟩,.int .u64 0,.int .u64 0,.string ⟨#[]⟩,.string ⟨#[]⟩,.int .u64 0,.int .u64 0,.slice none 0 0,.slice none 0 0] 127)) w.heap.size #[.slice none 0 0,.slice none 0 0,.slice none 0 0,.slice none 0 0,.slice none 0 0,.slice none 0 0] 34):=by
   have ks:Kept (fun k=>k=w.heap.size+1) wc (wc.setCell ⟨w.heap.size+1,5,none⟩ (.slice (some ⟨wc.heap.size,0,none⟩) 1 1)):=Kept.set (S:=fun k=>k=w.heap.size+1) (Kept.refl _ _) rfl _
   have ka:=ks.alloc (.cells #[.int .i64 1,.string ⟨#[114,111,117,116,101]⟩,.int .i64 0,.string ⟨#[]⟩,.string ⟨#[]⟩,.int .u64 0,.int .u64 0,.string ⟨#[]⟩,.string ⟨#[]⟩,.int .u64 0,.int .u64 0,.slice none 0 0,.slice none 0 0] 127)
   refine⟨ka,?_,?_,HC.out.1.z.kept ka (by omega)⟩
   ·have:=Blk.new (wc.setCell ⟨w.heap.size+1,5,none⟩ (.slice (some ⟨wc.heap.size,0,none⟩) 1 1)) #[.int .i64 1,.string ⟨#[114,111,117,116,101]⟩,.int .i64 0,.string ⟨#[]⟩,.string ⟨#[]⟩,.int .u64 0,.int .u64 0,.string ⟨#[]⟩,.string ⟨#[]⟩,.int .u64 0,.int .u64 0,.slice none 0 0,.slice none 0 0] 127
    rwa [World.size_setCell] at this
   ·exact(HBL.out.set 5 _).below ((Below.refl _ _).alloc (Nat.le_refl _) _)
  generalize hV1:((wc.setCell ⟨w.heap.size+1,5,none⟩ (.slice (some ⟨wc.heap.size,0,none⟩) 1 1)).alloc (.cells #[.int .i64 1,.string ⟨#[114,111,117,116,101]⟩,.int .i64 0,.string ⟨#[]⟩,.string ⟨#[]⟩,.int .u64 0,.int .u64 0,.string ⟨#[]⟩,.string ⟨#[]⟩,.int .u64 0,.int .u64 0,.slice none 0 0,.slice none 0 0] 127))=V1 at HV1 ⊢
  clear hV1 l5 f5
  have hs0:w.heap.size<V1.heap.size:=HV1.out.2.2.2.lt
  have hs1:w.heap.size+1<V1.heap.size:=HV1.out.2.2.1.lt
  have z0:=HV1.out.2.2.2.cell 0 (v:=.slice none 0 0) rfl
  have y0:=HV1.out.2.2.2.frozen 0
  have z1:=HV1.out.2.2.2.cell 1 (v:=.slice none 0 0) rfl
  have y1:=HV1.out.2.2.2.frozen 1
  have z2:=HV1.out.2.2.2.cell 2 (v:=.slice none 0 0) rfl
  have y2:=HV1.out.2.2.2.frozen 2
  have z3:=HV1.out.2.2.2.cell 3 (v:=.slice none 0 0) rfl
  have y3:=HV1.out.2.2.2.frozen 3
  have z4:=HV1.out.2.2.2.cell 4 (v:=.slice none 0 0) rfl
  have y4:=HV1.out.2.2.2.frozen 4
  have z5:=HV1.out.2.2.2.cell 5 (v:=.slice none 0 0) rfl
  have y5:=HV1.out.2.2.2.frozen 5
  obtain⟨l0,l1,l2,l3,l4,l5⟩:=HV1.out.2.2.1.c6
  go_wp2_with fail
  have HVF:Hid (Kept (fun k=>k=w.heap.size) V1 ((((((V1.setCell ⟨w.heap.size,0,none⟩ (.slice A0 1 1)).setCell ⟨w.heap.size,1,none⟩ (.slice A1 1 1)).setCell ⟨w.heap.size,2,none⟩ (.slice A2 1 1)).setCell ⟨w.heap.size,3,none⟩ (.slice A3 1 1)).setCell ⟨w.heap.size,4,none⟩ (.slice A4 1 1)).setCell ⟨w.heap.size,5,none⟩ (.slice (some ⟨wc.heap.size,0,none⟩) 1 1))∧Blk ((((((V1.setCell ⟨w.heap.size,0,none⟩ (.slice A0 1 1)).setCell ⟨w.heap.size,1,none⟩ (.slice A1 1 1)).setCell ⟨w.heap.size,2,none⟩ (.slice A2 1 1)).setCell ⟨w.heap.size,3,none⟩ (.slice A3 1 1)).setCell ⟨w.heap.size,4,none⟩ (.slice A4 1 1)).setCell ⟨w.heap.size,5,none⟩ (.slice (some ⟨wc.heap.size,0,none⟩) 1 1)) w.heap.size #[(.slice A0 1 1),(.slice A1 1 1),(.slice A2 1 1),(.slice A3 1 1),(.slice A4 1 1),(.slice (some ⟨wc.heap.size,0,none⟩) 1 1)] 34):=by
   have st:∀(a b:World) (i:Nat) (v:Value),Kept (fun k=>k=w.heap.size) a b→Kept (fun k=>k=w.heap.size) a (b.setCell ⟨w.heap.size,i,none⟩ v):=fun a b i v h=>Kept.set (S:=fun k=>k=w.heap.size) (p:=⟨w.heap.size,i,none⟩) h rfl v
   exact⟨st _ _ _ _ (st _ _ _ _ (st _ _ _ _ (st _ _ _ _ (st _ _ _ _ (st _ _ _ _ (Kept.refl _ _)))))),(((((HV1.out.2.2.2.set 0 (.slice A0 1 1)).set 1 (.slice A1 1 1)).set 2 (.slice A2 1 1)).set 3 (.slice A3 1 1)).set 4 (.slice A4 1 1)).set 5 (.slice (some ⟨wc.heap.size,0,none⟩) 1 1)⟩
  generalize hVF:((((((V1.setCell ⟨w.heap.size,0,none⟩ (.slice A0 1 1)).setCell ⟨w.heap.size,1,none⟩ (.slice A1 1 1)).setCell ⟨w.heap.size,2,none⟩ (.slice A2 1 1)).setCell ⟨w.heap.size,3,none⟩ (.slice A3 1 1)).setCell ⟨w.heap.size,4,none⟩ (.slice A4 1 1)).setCell ⟨w.heap.size,5,none⟩ (.slice (some ⟨wc.heap.size,0,none⟩) 1 1))=VF at HVF ⊢
  clear hVF z0 z1 z2 z3 z4 z5 y0 y1 y2 y3 y4 y5 l0 l1 l2 l3 l4 l5
  obtain⟨k0,k1,k2,k3,k4,k5⟩:=HVF.out.2.c6
  have KA:Kept (fun k=>k=w.heap.size∨k=w.heap.size+1) wc VF:=(HV1.out.1.mono (fun _ _ e=>.inr e)).trans (HVF.out.1.mono (fun _ _ e=>.inl e))
  have HSC:Hid (SchIs VF (.agg #[(.slice A0 1 1),(.slice A1 1 1),(.slice A2 1 1),(.slice A3 1 1),(.slice A4 1 1),(.slice (some ⟨wc.heap.size,0,none⟩) 1 1)]) (exS [511,0])∧Bl w VF):=by
   obtain⟨he,m13,hown,hg0,hg1⟩:=HC.out
   obtain⟨e0,e1,e2,e3,e4⟩:=HU.out
   have hwc:w.heap.size+1<wc.heap.size:=hl1
   have ow : VF.ownsRow w.heap.size 121 2 (.slice (some ⟨g, 0, none⟩) 2 cap) 2 [.int .u64 0, .int .u64 511, .int .u64 0, .int .u64 0] := ownsRow_kept hown KA (fun k e => by
     have : k = g := by simpa [Value.ownBlock] using e.symm
     rw [this]; exact fun h => h.elim hg0 hg1)
   refine⟨?_,he.below.trans (KA.below he.below.size (fun k e=>by omega))⟩
   rw[e0,e1,e2,e3,e4]
   exact ex_rows VF w.heap.size [511,0] _ wc.heap.size (he.b2.kept KA (by omega)) (he.b3.kept KA (by omega)) (he.b4.kept KA (by omega)) (he.b5.kept KA (by omega)) (he.b6.kept KA (by omega)) (he.b7.kept KA (by omega)) (he.b8.kept KA (by omega)) (he.b9.kept KA (by omega)) (he.b10.kept KA (by omega)) (he.b11.kept KA (by omega)) (m13.kept KA (by omega)) (bits_two ow) (HV1.out.2.1.kept HVF.out.1 (by omega))
  clear KA HC
  go_wp2
  refine bodyPost_ret (v:=.agg #[(.slice A0 1 1),(.slice A1 1 1),(.slice A2 1 1),(.slice A3 1 1),(.slice A4 1 1),(.slice (some ⟨wc.heap.size,0,none⟩) 1 1)]) (by simp[results,Tryz.results60,go_sem,k0,k1,k2,k3,k4,k5]) rfl ⟨_,rfl,HSC.out.1,HSC.out.2⟩
end Go.Proofs.YtmbpclknhkbbkaaGreat
