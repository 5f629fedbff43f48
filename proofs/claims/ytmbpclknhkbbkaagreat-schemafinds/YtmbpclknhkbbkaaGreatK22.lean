/- Package schema: Widths. The document's Widths. -/
import Derived.Test.YtmbpclknhkbbkaaGreatK17
import Derived.Deep.MidRow
import Derived.Deep.OwnRows
import Derived.Test.YtmbpclknhkbbkaaGreatK38
import Derived.Test.YtmbpclknhkbbkaaGreatK30
import Derived.Deep.AppendLies
import Derived.OwnWalk
set_option linter.unusedSimpArgs false
set_option linter.unusedVariables false
namespace Go.Proofs.YtmbpclknhkbbkaaGreat
open Go.RowKit
set_option linter.unusedVariables false
set_option linter.unusedSimpArgs false

theorem tblAt_cases (s : Sch) (name : ByteArray) : (tblAt s name = -1) ∨ ∃ (i : Nat) (h : Tbl),s.tables[i]? = some h ∧ h.name = name ∧ tblAt s name = (i : Int) := by
 rcases idx_cases (fun h : Tbl => decide (h.name = name)) s.tables 0 with ⟨hi,hn⟩ | ⟨i,x,hlt,hx,hp,hi,hn⟩
 ·exact .inl hi
 ·exact .inr ⟨i,x,hx,by simpa using hp,by unfold tblAt; rw [hi,Nat.zero_add]⟩
/-- A row of ints in memory. -/
def IntRow (w : World) (v : Value) (xs : List Int) : Prop := Row 1 (Flat (fun x : Int => #[Value.int .i64 x]) (fun _ => True)) w v xs
theorem widths_none (v : Value) (s : Sch) (name : ByteArray) (w : World) (hs : SchIs w v s) (hi : tblAt s name = -1) : Calls Tryz.prog 35 #[v,.string name] w fun e w' => e = .returned (.tuple #[.slice none 0 0,.int .i64 110]) ∧ Below w.heap.size w w' := by
 obtain ⟨a0,c0,a1,c1,a2,c2,a3,c3,a4,c4,a5,c5,rfl,h0,h1,h2,h3,h4,h5⟩ := hs.parts
 have HB0 : Hid (Below w.heap.size w (w.alloc (.cells #[.slice a0 s.headers.length c0,.slice a1 s.metas.length c1,.slice a2 s.states.length c2,.slice a3 s.actions.length c3,.slice a4 s.tables.length c4,.slice a5 s.control.length c5] 34))) := (Below.refl _ _).alloc (Nat.le_refl _) _
 have CT : Hid (Calls Tryz.prog 126 #[.agg #[.slice a0 s.headers.length c0,.slice a1 s.metas.length c1,.slice a2 s.states.length c2,.slice a3 s.actions.length c3,.slice a4 s.tables.length c4,.slice a5 s.control.length c5],.string name] (w.alloc (.cells #[.slice a0 s.headers.length c0,.slice a1 s.metas.length c1,.slice a2 s.states.length c2,.slice a3 s.actions.length c3,.slice a4 s.tables.length c4,.slice a5 s.control.length c5] 34)) fun e w' => e = .returned (.int .i64 (-1)) ∧ Hid (Below (w.alloc (.cells #[.slice a0 s.headers.length c0,.slice a1 s.metas.length c1,.slice a2 s.states.length c2,.slice a3 s.actions.length c3,.slice a4 s.tables.length c4,.slice a5 s.control.length c5] 34)).heap.size (w.alloc (.cells #[.slice a0 s.headers.length c0,.slice a1 s.metas.length c1,.slice a2 s.states.length c2,.slice a3 s.actions.length c3,.slice a4 s.tables.length c4,.slice a5 s.control.length c5] 34)) w')) := by
  have := tableAt_any _ s name _ (hs.pres (pres_below HB0.out))
  rw [hi] at this
  exact this
 clear hs h0 h1 h2 h3 h4 h5 hi
 go_enter Tryz.func35,Tryz.ntmps35
 go_wp2_with fail
 refine CT.out.mono ?_
 rintro e w1 ⟨rfl,hb1⟩
 have HB1 : Hid (Below w.heap.size w w1) := bst HB0.out hb1.out (Nat.le_refl _)
 clear hb1 CT HB0
 go_wp2
 first | go_ret2 | go_ret
 exact ⟨rfl,HB1.out⟩
theorem info3 : (Tryz.prog.info? 3).map (fun i => (i.zero,i.size,i.bytes)) = some (some (.int .i64 0),1,8) := by kernel_rfl
theorem made_size (z : Value) (n : Nat) : (madeCells #[z] n).size = n := by simp [madeCells]
set_option maxHeartbeats 2000000 in
theorem widths_at (v : Value) (s : Sch) (name : ByteArray) (w : World) (hs : SchIs w v s) (i : Nat) (t : Tbl) (ht : s.tables[i]? = some t) (hi : tblAt s name = (i : Int)) : Calls Tryz.prog 35 #[v,.string name] w fun e w' => ∃ u,e = .returned (.tuple #[u,.int .i64 0]) ∧ IntRow (upw w.heap.size w') u (t.keys.map fun k => widW s k.ref) ∧ Below w.heap.size w w' := by
 obtain ⟨a0,c0,a1,c1,a2,c2,a3,c3,a4,c4,a5,c5,rfl,h0,h1,h2,h3,h4,h5⟩ := hs.parts
 obtain ⟨tb,tof,tcs,rfl,_,htc,vk,va,vd,rfl,hto,hkr,_,_⟩ := h4.1.at ht
 obtain ⟨ad,cap,rfl,_⟩ := hkr.1.slice
 have hlen : t.keys.length * 40 ≤ 140737488351232 := hkr.2
 have htl : s.tables.length * 120 ≤ 140737488351232 := h4.2
 have hit : (i : Int) < (s.tables.length : Int) := by have := (List.getElem?_eq_some_iff.1 ht).1; omega
 have hit' : i < s.tables.length := by omega
 have HS : Hid (SchIs w (.agg #[.slice a0 s.headers.length c0,.slice a1 s.metas.length c1,.slice a2 s.states.length c2,.slice a3 s.actions.length c3,.slice (some ⟨tb,tof,none⟩) s.tables.length c4,.slice a5 s.control.length c5]) s) := hs
 have HB0 : Hid (Below w.heap.size w (w.alloc (.cells #[.slice a0 s.headers.length c0,.slice a1 s.metas.length c1,.slice a2 s.states.length c2,.slice a3 s.actions.length c3,.slice (some ⟨tb,tof,none⟩) s.tables.length c4,.slice a5 s.control.length c5] 34))) := (Below.refl _ _).alloc (Nat.le_refl _) _
 have HX0 : Hid (Blk (w.alloc (.cells #[.slice a0 s.headers.length c0,.slice a1 s.metas.length c1,.slice a2 s.states.length c2,.slice a3 s.actions.length c3,.slice (some ⟨tb,tof,none⟩) s.tables.length c4,.slice a5 s.control.length c5] 34)) w.heap.size #[.slice a0 s.headers.length c0,.slice a1 s.metas.length c1,.slice a2 s.states.length c2,.slice a3 s.actions.length c3,.slice (some ⟨tb,tof,none⟩) s.tables.length c4,.slice a5 s.control.length c5] 34) := Blk.new _ _ _
 have HT : Hid (w.cell? ⟨tb,tof + i * 7 + 1,none⟩ = some (.slice ad t.keys.length cap)) := htc 1 _ rfl
 have HK : Hid (KyRow w (.slice ad t.keys.length cap) t.keys) := hkr
 have CT : Hid (∀ w1,Below w.heap.size w w1 → Calls Tryz.prog 126 #[.agg #[.slice a0 s.headers.length c0,.slice a1 s.metas.length c1,.slice a2 s.states.length c2,.slice a3 s.actions.length c3,.slice (some ⟨tb,tof,none⟩) s.tables.length c4,.slice a5 s.control.length c5],.string name] w1 fun e w' => e = .returned (.int .i64 (i : Int)) ∧ Hid (Below w1.heap.size w1 w')) := fun w1 hb => by
  have := tableAt_any _ s name _ (HS.out.pres (pres_below hb))
  rw [hi] at this
  exact this
 have CW : Hid (∀ w1,Below w.heap.size w w1 → Calls Tryz.prog 66 #[.agg #[.slice a0 s.headers.length c0,.slice a1 s.metas.length c1,.slice a2 s.states.length c2,.slice a3 s.actions.length c3,.slice (some ⟨tb,tof,none⟩) s.tables.length c4,.slice a5 s.control.length c5]] w1 fun e w' => ∃ b m,e = .returned (.map (some b)) ∧ w1.heap.size ≤ b ∧ Hid (MapR w' b m (gOf s.metas s.headers)) ∧ Hid (Below w1.heap.size w1 w')) := fun w1 hb => widthsOf_any _ s w1 (HS.out.pres (pres_below hb))
 have HW : Hid (∀ r,(gOf s.metas s.headers r).getD 0 = widW s r) := gOf_widW s
 obtain ⟨n,hn⟩ : ∃ n,n = t.keys.length := ⟨_,rfl⟩
 have HL : Hid (n = t.keys.length) := hn
 rw [← hn] at hlen HT HK
 have hmk := run_make_row' (P := Tryz.prog) 70 3 (.int .i64 0) 8 Tryz.underlying70 info3 rfl .i64 .i64 n (by omega) (by omega)
 clear hs h0 h1 h2 h3 h4 h5 hi hn htc hkr hto ht
 generalize t.keys = ks at *
 generalize hGF : gOf s.metas s.headers = G at *
 clear hGF
 go_enter Tryz.func35,Tryz.ntmps35
 go_upto_region 1 with fail
 generalize (w.alloc _) = W0 at HB0 HX0 ⊢
 obtain ⟨x0,x1,x2,x3,x4,x5⟩ := HX0.out.c6
 go_wp2_with fail
 refine (CT.out _ HB0.out).mono ?_
 rintro e w1 ⟨rfl,hb1⟩
 have HB1 : Hid (Below w.heap.size w w1) := bst HB0.out hb1.out (Nat.le_refl _)
 have HX1 : Hid (Blk w1 w.heap.size #[.slice a0 s.headers.length c0,.slice a1 s.metas.length c1,.slice a2 s.states.length c2,.slice a3 s.actions.length c3,.slice (some ⟨tb,tof,none⟩) s.tables.length c4,.slice a5 s.control.length c5] 34) := HX0.out.below hb1.out
 clear hb1 HB0 HX0 CT x0 x1 x2 x3 x4 x5
 obtain ⟨x0,x1,x2,x3,x4,x5⟩ := HX1.out.c6
 have hge : ¬ (i : Int) < 0 := by omega
 go_wp2_with fail
 refine (CW.out _ HB1.out).mono ?_
 rintro e w2 ⟨mb,m,rfl,hmb,HM2,hb2⟩
 have HB2 : Hid (Below w.heap.size w w2) := bst HB1.out hb2.out (Nat.le_refl _)
 have HX2 : Hid (Blk w2 w.heap.size #[.slice a0 s.headers.length c0,.slice a1 s.metas.length c1,.slice a2 s.states.length c2,.slice a3 s.actions.length c3,.slice (some ⟨tb,tof,none⟩) s.tables.length c4,.slice a5 s.control.length c5] 34) := HX1.out.below hb2.out
 have hw1 := HB1.out.size
 clear hb2 HB1 HX1 CW x0 x1 x2 x3 x4 x5
 have x4 := HX2.out.cell 4 (v := .slice (some ⟨tb,tof,none⟩) s.tables.length c4) rfl
 have q1 := pres_below HB2.out _ _ HT.out
 have hsz2 := HB2.out.size
 have hml := HM2.out.lt
 go_upto_region 7 with fail
 have HL0 : Hid (Blk (w2.alloc (.cells (madeCells #[.int .i64 0] n) 3)) w2.heap.size (madeCells #[.int .i64 0] n) 3) := Blk.new _ _ _
 have HA : Hid (Below w2.heap.size w2 (w2.alloc (.cells (madeCells #[.int .i64 0] n) 3))) := (Below.refl _ _).alloc (Nat.le_refl _) _
 generalize (w2.alloc _) = W at HL0 HA ⊢
 obtain ⟨lb,hlb⟩ : ∃ lb,lb = w2.heap.size := ⟨_,rfl⟩
 rw [← hlb] at HL0 hsz2 hml ⊢
 have HMW : Hid (MapR W mb m G) := HM2.out.below HA.out
 have HBW : Hid (Below w.heap.size w W) := bst HB2.out HA.out (Nat.le_refl _)
 clear hlb HM2 HB2 HX2 HA x4 q1 HT hmk
 have HSZ : Hid ((madeCells #[.int .i64 0] n).size = n) := made_size _ _
 generalize madeCells #[.int .i64 0] n = cur0 at *
 go_wp2_with fail
 go_loopw [30] (fun i wr => ∃ (k : Nat) (cur : Array Value),k ≤ n ∧ i = .int .i64 k ∧ Below w.heap.size w wr ∧ MapR wr mb m G ∧ Blk wr lb cur 3 ∧ cur.size = n ∧ ∀ j y,j < k → ks[j]? = some y → cur[j]? = some (.int .i64 (widW s y.ref))) (fun i _ => n - (intOf i).toNat)
 case atStart => exact ⟨0,cur0,by omega,rfl,HBW.out,HMW.out,HL0.out,HSZ.out,fun j y h => by omega⟩
 case round =>
  obtain ⟨k,cur,hk,rfl,hb,hm,hl,hcs,hdone⟩ := hrel
  by_cases hlt : k < n
  ·obtain ⟨y,hy⟩ : ∃ y,ks[k]? = some y := ⟨ks[k]'(by rw [← HL.out]; exact hlt),List.getElem?_eq_getElem _⟩
   obtain ⟨b,o,cs,rfl,_,hcc,rfl,hok⟩ := HK.out.1.at hy
   have q0 : wr.cell? ⟨b,o + k * 3,none⟩ = some (.string y.ref.head) := by have := pres_below hb _ _ (hcc 0 (.string y.ref.head) rfl); simpa using this
   have q1 : wr.cell? ⟨b,o + k * 3 + 1,none⟩ = some (.string y.ref.name) := by have := pres_below hb _ _ (hcc 1 (.string y.ref.name) rfl); simpa using this
   have q2 : wr.cell? ⟨b,o + k * 3 + 2,none⟩ = some (.int .i64 y.kind) := by have := pres_below hb _ _ (hcc 2 (.int .i64 y.kind) rfl); simpa using this
   have HB : Hid (Below w.heap.size w wr) := hb
   have HM : Hid (MapR wr mb m G) := hm
   have HLb : Hid (Blk wr lb cur 3) := hl
   have hlbl := hl.lt
   have HDn : Hid (cur.size = n ∧ ∀ j y,j < k → ks[j]? = some y → cur[j]? = some (.int .i64 (widW s y.ref))) := ⟨hcs,hdone⟩
   have hsz := hb.size
   clear hb hcc hm hl hdone hcs
   go_upto_region 10 with fail
   have HA : Hid (Below wr.heap.size wr (wr.alloc (.cells #[.string y.ref.head,.string y.ref.name,.int .i64 y.kind] 116))) := (Below.refl _ _).alloc (Nat.le_refl _) _
   have HX : Hid (Blk (wr.alloc (.cells #[.string y.ref.head,.string y.ref.name,.int .i64 y.kind] 116)) wr.heap.size #[.string y.ref.head,.string y.ref.name,.int .i64 y.kind] 116) := Blk.new _ _ _
   generalize (wr.alloc _) = W at HA HX ⊢
   obtain ⟨xb,hxb⟩ : ∃ xb,xb = wr.heap.size := ⟨_,rfl⟩
   rw [← hxb] at HX hsz hlbl ⊢
   clear hxb
   have x0 := HX.out.cell 0 (v := .string y.ref.head) rfl
   have x1 := HX.out.cell 1 (v := .string y.ref.name) rfl
   have HMW : Hid (MapR W mb m G) := HM.out.below HA.out
   have HBW : Hid (Below w.heap.size w W) := bst HB.out HA.out (Nat.le_refl _)
   have HLW : Hid (Blk W lb cur 3) := HLb.out.below HA.out
   have L := HMW.out.look1 y.ref hok.1 hok.2.1
   rw [HW.out] at L
   obtain ⟨old,hold⟩ : ∃ old,cur[k]? = some old := ⟨cur[k]'(by rw [HDn.out.1]; exact hlt),Array.getElem?_eq_getElem _⟩
   have l0 := HLW.out.cell k hold
   have l1 := HLW.out.frozen k
   have HF : Hid (Blk (W.setCell ⟨lb,k,none⟩ (.int .i64 (widW s y.ref))) lb (cur.setIfInBounds k (.int .i64 (widW s y.ref))) 3 ∧ (cur.setIfInBounds k (.int .i64 (widW s y.ref))).size = n ∧ (∀ j z,j < k + 1 → ks[j]? = some z → (cur.setIfInBounds k (.int .i64 (widW s y.ref)))[j]? = some (.int .i64 (widW s z.ref))) ∧ Below w.heap.size w (W.setCell ⟨lb,k,none⟩ (.int .i64 (widW s y.ref))) ∧ MapR (W.setCell ⟨lb,k,none⟩ (.int .i64 (widW s y.ref))) mb m G) := by
    refine ⟨HLW.out.set k _,by simp [HDn.out.1],fun j z hj hz => ?_,?_,?_⟩
    ·by_cases e : j = k
     ·subst e
      obtain rfl := Option.some.inj (hy.symm.trans hz)
      rw [Array.getElem?_setIfInBounds_self_of_lt (by rw [HDn.out.1]; exact hlt)]
     ·rw [Array.getElem?_setIfInBounds_ne (fun e' => e e'.symm)]
      exact HDn.out.2 j z (by omega) hz
    ·exact keptBelow HBW.out (Kept.set (S := fun k => k = lb) (Kept.refl _ _) rfl _) (by omega)
    ·exact HMW.out.kept (S := fun k => k = lb) (Kept.set (S := fun k => k = lb) (Kept.refl _ _) rfl _) (by show ¬ _ = _; omega)
   generalize widW s y.ref = wy at *
   clear q0 q1 q2 hold HDn HB HM HLb HA HX
   go_wp2
   exact ⟨⟨k + 1,_,by omega,by go_num,HF.out.2.2.2.1,HF.out.2.2.2.2,HF.out.1,HF.out.2.1,HF.out.2.2.1⟩,by simp only [intOf]; omega⟩
  ·have e : k = n := by omega
   subst e
   have HE : Hid (Below w.heap.size w wr ∧ IntRow (upw w.heap.size wr) (.slice (some ⟨lb,0,none⟩) k k) (ks.map fun k => widW s k.ref)) := by
    refine ⟨hb,some ⟨lb,0,none⟩,k,by simp [HL.out],by simp [HL.out],.inr ⟨lb,0,rfl,fun j x hx => ?_⟩⟩
    rw [List.getElem?_map] at hx
    obtain ⟨y,hy,rfl⟩ := Option.map_eq_some_iff.1 hx
    have hj := (List.getElem?_eq_some_iff.1 hy).1
    refine ⟨#[.int .i64 (widW s y.ref)],rfl,fun j' u hu => ?_,rfl,trivial⟩
    match j',hu with
    | 0,hu =>
     simp at hu
     subst hu
     refine cell_up ?_ (by show w.heap.size ≤ lb; omega)
     have := hl.cell j (hdone j y (by rw [HL.out]; exact hj) hy)
     simpa using this
   clear hm hb hl hcs hdone
   go_wp2
   first | go_ret2 | go_ret
   exact ⟨_,rfl,HE.out.2,HE.out.1⟩

theorem one_cell (w : World) (x : Value) (t : TypeId) : ∀ j u,[x][j]? = some u → (w.alloc (.cells #[x] t)).cell? ((⟨w.heap.size,0,none⟩ : Addr).add j) = some u := by
 intro j u hj
 match j,hj with
 | 0,hj => simp at hj; subst hj; simp [Addr.add]
 | j + 1,hj => simp at hj
def intsV (l : List Int) : List Value := l.map fun x => .int .i64 x
theorem own_ints {w : World} {B : Nat} {sv : Value} {out : List Int} (h : w.ownsRow B 3 1 sv out.length (intsV out)) : IntRow w sv out := by
 rcases h.2 with ⟨rfl,h0⟩ | ⟨g,cap,cur,rfl,hb,hg,hn,_,hs,htk⟩
 ·have : out = [] := List.length_eq_zero_iff.1 h0
  subst this
  exact ⟨none,0,rfl,Nat.le_refl _,.inl rfl⟩
 ·refine ⟨some ⟨g,0,none⟩,cap,rfl,hn,.inr ⟨g,0,rfl,fun i x hx => ⟨#[.int .i64 x],rfl,fun j u hu => ?_,rfl,trivial⟩⟩⟩
  have hj : j = 0 := by
   rcases j with _ | j
   ·rfl
   ·simp at hu
  subst hj
  simp at hu
  subst hu
  have hi := (List.getElem?_eq_some_iff.1 hx).1
  have := h.cellAt i (by omega)
  simp only [Nat.zero_add,Nat.add_zero,Nat.mul_one] at this ⊢
  rw [this,intsV,List.getElem?_map,hx]; rfl
theorem rwidths_none (v : Value) (s : Sch) (name : ByteArray) (w : World) (hs : SchIs w v s) (hi : tblAt s name = -1) : Calls Tryz.prog 44 #[v,.string name] w fun e w' => e = .returned (.tuple #[.slice none 0 0,.int .i64 110]) ∧ Below w.heap.size w w' := by
 obtain ⟨a0,c0,a1,c1,a2,c2,a3,c3,a4,c4,a5,c5,rfl,h0,h1,h2,h3,h4,h5⟩ := hs.parts
 have HB0 : Hid (Below w.heap.size w (w.alloc (.cells (bxA s a0 c0 a1 c1 a2 c2 a3 c3 a4 c4 a5 c5) 34))) := (Below.refl _ _).alloc (Nat.le_refl _) _
 have HX0 : Hid (Blk (w.alloc (.cells (bxA s a0 c0 a1 c1 a2 c2 a3 c3 a4 c4 a5 c5) 34)) w.heap.size (bxA s a0 c0 a1 c1 a2 c2 a3 c3 a4 c4 a5 c5) 34) := Blk.new _ _ _
 have C : Hid (∀ W,Below w.heap.size w W → Calls Tryz.prog 131 #[.agg (bxA s a0 c0 a1 c1 a2 c2 a3 c3 a4 c4 a5 c5),.string name] W fun e w' => e = .returned (.int .i64 (-1)) ∧ Below W.heap.size W w') := fun W hb => by
  have := rtblAt_any _ s name W (hs.pres (pres_below hb))
  rw [hi] at this
  exact this
 clear hs h0 h1 h2 h3 h4 h5 hi
 go_enter Tryz.func44,Tryz.ntmps44
 go_upto_region 1 with fail
 generalize (w.alloc _) = W0 at HB0 HX0 ⊢
 obtain ⟨x0,x1,x2,x3,x4,x5⟩ := HX0.out.c6
 go_wp2_with fail
 refine (C.out _ HB0.out).mono ?_
 rintro e W1 ⟨rfl,hb⟩
 have HB1 : Hid (Below w.heap.size w W1) := bst HB0.out hb
 clear hb
 go_wp2
 refine bodyPost_ret (v := .tuple #[.slice none 0 0,.int .i64 110]) (by simp [results,Tryz.results44,go_sem]) rfl ⟨rfl,HB1.out⟩
set_option maxHeartbeats 4000000 in
set_option maxRecDepth 100000 in
theorem rwidths_at (v : Value) (s : Sch) (name : ByteArray) (w : World) (hs : SchIs w v s) (i : Nat) (t : Tbl) (ht : s.tables[i]? = some t) (hi : tblAt s name = (i : Int)) : Calls Tryz.prog 44 #[v,.string name] w fun e w' => ∃ u,e = .returned (.tuple #[u,.int .i64 0]) ∧ IntRow w' u (t.keys.map fun k => widW s k.ref) ∧ Below w.heap.size w w' := by
 obtain ⟨a0,c0,a1,c1,a2,c2,a3,c3,a4,c4,a5,c5,rfl,h0,h1,h2,h3,h4,h5⟩ := hs.parts
 obtain ⟨i0,hif,hz0,hz1,hz3⟩ := info_of info3
 obtain ⟨tb,tof,tcs,rfl,_,htc,vk,va,vd,rfl,hto,hkr,_,_⟩ := h4.1.at ht
 obtain ⟨ka,kc,rfl,_⟩ := hkr.1.slice
 have hil : i < s.tables.length := (List.getElem?_eq_some_iff.1 ht).1
 have hkl : t.keys.length * 40 ≤ 140737488351232 := hkr.2
 have HK : Hid (Row 3 (Flat KyC KyOk) w (.slice ka t.keys.length kc) t.keys) := hkr.1
 have htk := htc 1 (.slice ka t.keys.length kc) rfl
 have C81 : Hid (∀ (r : Rf) (W : World),Below w.heap.size w W → Calls Tryz.prog 81 #[.agg #[.slice a0 s.headers.length c0,.slice a1 s.metas.length c1,.slice a2 s.states.length c2,.slice a3 s.actions.length c3,.slice (some ⟨tb,tof,none⟩) s.tables.length c4,.slice a5 s.control.length c5],.agg #[.string r.head,.string r.name]] W fun e w' => e = .returned (.int .i64 (widW s r)) ∧ Below W.heap.size W w') := fun r W hb => rWidth_any _ s r W (hs.pres (pres_below hb))
 have C : Hid (∀ W,Below w.heap.size w W → Calls Tryz.prog 131 #[.agg #[.slice a0 s.headers.length c0,.slice a1 s.metas.length c1,.slice a2 s.states.length c2,.slice a3 s.actions.length c3,.slice (some ⟨tb,tof,none⟩) s.tables.length c4,.slice a5 s.control.length c5],.string name] W fun e w' => e = .returned (.int .i64 (i : Int)) ∧ Below W.heap.size W w') := fun W hb => by
  have := rtblAt_any _ s name W (hs.pres (pres_below hb))
  rw [hi] at this
  exact this
 have HB0 : Hid (Below w.heap.size w (w.alloc (.cells #[.slice a0 s.headers.length c0,.slice a1 s.metas.length c1,.slice a2 s.states.length c2,.slice a3 s.actions.length c3,.slice (some ⟨tb,tof,none⟩) s.tables.length c4,.slice a5 s.control.length c5] 34))) := (Below.refl _ _).alloc (Nat.le_refl _) _
 have HX0 : Hid (Blk (w.alloc (.cells #[.slice a0 s.headers.length c0,.slice a1 s.metas.length c1,.slice a2 s.states.length c2,.slice a3 s.actions.length c3,.slice (some ⟨tb,tof,none⟩) s.tables.length c4,.slice a5 s.control.length c5] 34)) w.heap.size #[.slice a0 s.headers.length c0,.slice a1 s.metas.length c1,.slice a2 s.states.length c2,.slice a3 s.actions.length c3,.slice (some ⟨tb,tof,none⟩) s.tables.length c4,.slice a5 s.control.length c5] 34) := Blk.new _ _ _
 obtain ⟨n,hn⟩ : ∃ n,n = t.keys.length := ⟨_,rfl⟩
 have HL : Hid (n = t.keys.length) := hn
 rw [← hn] at HK hkl htk
 have HTK : Hid (w.cell? ⟨tb,tof + i * 7 + 1,none⟩ = some (.slice ka n kc)) := htk
 clear hn hs h0 h1 h2 h3 h4 h5 hi ht htc hkr hto htk
 generalize t.keys = ks at *
 go_enter Tryz.func44,Tryz.ntmps44
 go_upto_region 1 with fail
 generalize (w.alloc _) = W0 at HB0 HX0 ⊢
 obtain ⟨xb,hxb⟩ : ∃ xb,xb = w.heap.size := ⟨_,rfl⟩
 have HXB : Hid (xb = w.heap.size) := hxb
 rw [← hxb] at HX0 ⊢
 clear hxb
 obtain ⟨x0,x1,x2,x3,x4,x5⟩ := HX0.out.c6
 go_wp2_with fail
 refine (C.out _ HB0.out).mono ?_
 rintro e W1 ⟨rfl,hb⟩
 have HB1 : Hid (Below w.heap.size w W1) := bst HB0.out hb
 have HX1 := hblk HX0 hb
 have hii : (0 : Int) ≤ (i : Int) ∧ (i : Int) < (s.tables.length : Int) := by omega
 have hin : ¬ ((i : Int) < 0) := by omega
 clear hb HB0 HX0 C x0 x1 x2 x3 x4 x5
 go_wp2_with fail
 go_loopw [7,8] (fun o k wr => ∃ (oa : Option Addr) (oc kk : Nat),kk ≤ n ∧ o = .slice oa kk oc ∧ k = .int .i64 kk ∧ Below w.heap.size w wr ∧ Blk wr xb #[.slice a0 s.headers.length c0,.slice a1 s.metas.length c1,.slice a2 s.states.length c2,.slice a3 s.actions.length c3,.slice (some ⟨tb,tof,none⟩) s.tables.length c4,.slice a5 s.control.length c5] 34 ∧ Aside (wr.ownsRow (w.heap.size + 1) 3 1 (.slice oa kk oc) kk (intsV ((ks.take kk).map fun y => widW s y.ref)))) (fun _ k _ => n - (intOf k).toNat)
 case atStart => exact ⟨none,0,0,by omega,rfl,rfl,HB1.out,HX1.out,World.ownsRow_nil W1 _ 3 1⟩
 case round =>
  obtain ⟨oa,oc,kk,hkk,rfl,rfl,hb,hx,hA⟩ := hrel
  have HA : Hid (wr.ownsRow (w.heap.size + 1) 3 1 (.slice oa kk oc) kk (intsV ((ks.take kk).map fun y => widW s y.ref))) := hA.out
  have HB : Hid (Below w.heap.size w wr) := hb
  have HX : Hid (Blk wr xb #[.slice a0 s.headers.length c0,.slice a1 s.metas.length c1,.slice a2 s.states.length c2,.slice a3 s.actions.length c3,.slice (some ⟨tb,tof,none⟩) s.tables.length c4,.slice a5 s.control.length c5] 34) := hx
  have t1 : wr.cell? ⟨tb,tof + i * 7 + 1,none⟩ = some (.slice ka n kc) := pres_below hb _ _ HTK.out
  have x4 := HX.out.cell 4 (v := .slice (some ⟨tb,tof,none⟩) s.tables.length c4) rfl
  clear hA hb hx
  by_cases hlt : kk < n
  ·obtain ⟨y,hy⟩ : ∃ y,ks[kk]? = some y := ⟨ks[kk]'(by rw [← HL.out]; exact hlt),List.getElem?_eq_getElem _⟩
   obtain ⟨b,o,cs,rfl,_,hc,rfl,_⟩ := HK.out.at hy
   have CW : Hid (∀ z : Grown wr,Calls Tryz.prog 81 #[.agg #[.slice a0 s.headers.length c0,.slice a1 s.metas.length c1,.slice a2 s.states.length c2,.slice a3 s.actions.length c3,.slice (some ⟨tb,tof,none⟩) s.tables.length c4,.slice a5 s.control.length c5],.agg #[.string y.ref.head,.string y.ref.name]] (gw z) fun e w' => e = .returned (.int .i64 (widW s y.ref)) ∧ Below (gw z).heap.size (gw z) w') := fun z => C81.out y.ref _ (bst HB.out (gw_below z) (Nat.le_refl _))
   have HTA : Hid (∀ z : Int,z = widW s y.ref → intsV ((ks.take kk).map fun y => widW s y.ref) ++ [.int .i64 z] = intsV ((ks.take (kk + 1)).map fun y => widW s y.ref)) := fun z hz => by
    rw [List.take_add_one,hy,List.map_append,intsV,intsV,List.map_append,hz]; rfl
   generalize hwd : widW s y.ref = wd at CW
   have HWD : Hid (wd = widW s y.ref) := hwd.symm
   clear hwd
   have q0 : ∀ z : Grown wr,(gw z).cell? ⟨xb,0,none⟩ = some (.slice a0 s.headers.length c0) := gw_cell (HX.out.cell 0 rfl)
   have q1' : ∀ z : Grown wr,(gw z).cell? ⟨xb,1,none⟩ = some (.slice a1 s.metas.length c1) := gw_cell (HX.out.cell 1 rfl)
   have q2' : ∀ z : Grown wr,(gw z).cell? ⟨xb,2,none⟩ = some (.slice a2 s.states.length c2) := gw_cell (HX.out.cell 2 rfl)
   have q3' : ∀ z : Grown wr,(gw z).cell? ⟨xb,3,none⟩ = some (.slice a3 s.actions.length c3) := gw_cell (HX.out.cell 3 rfl)
   have q4 : ∀ z : Grown wr,(gw z).cell? ⟨xb,4,none⟩ = some (.slice (some ⟨tb,tof,none⟩) s.tables.length c4) := gw_cell (HX.out.cell 4 rfl)
   have q5' : ∀ z : Grown wr,(gw z).cell? ⟨xb,5,none⟩ = some (.slice a5 s.control.length c5) := gw_cell (HX.out.cell 5 rfl)
   have c4' : ∀ z : Grown wr,(gw z).cell? ⟨tb,tof + i * 7 + 1,none⟩ = some (.slice (some ⟨b,o,none⟩) n kc) := gw_cell t1
   have k0 : ∀ z : Grown wr,(gw z).cell? ⟨b,o + kk * 3,none⟩ = some (.string y.ref.head) := gw_cell (by have := pres_below HB.out _ _ (hc 0 (.string y.ref.head) rfl); simpa using this)
   have k1 : ∀ z : Grown wr,(gw z).cell? ⟨b,o + kk * 3 + 1,none⟩ = some (.string y.ref.name) := gw_cell (by have := pres_below HB.out _ _ (hc 1 (.string y.ref.name) rfl); simpa using this)
   clear hc hy C81
   go_upto_region 8 with fail
   refine region_grows (by kernel_rfl) (by kernel_rfl) ?_
   repeat (go_big_quiet_step ((go_at_call 81; exact calls_gw (CW.out _))))
   refine wpQuiet_nil ?_
   intro wq hwq
   obtain ⟨zq,hwq⟩ := hwq
   subst hwq
   have HB2 : Hid (Below w.heap.size w (gw zq)) := bst HB.out (gw_below zq) (Nat.le_refl _)
   have HX2 : Hid (Blk (gw zq) xb #[.slice a0 s.headers.length c0,.slice a1 s.metas.length c1,.slice a2 s.states.length c2,.slice a3 s.actions.length c3,.slice (some ⟨tb,tof,none⟩) s.tables.length c4,.slice a5 s.control.length c5] 34) := HX.out.below (gw_below zq)
   have HA2 : Hid ((gw zq).ownsRow (w.heap.size + 1) 3 1 (.slice oa kk oc) kk (intsV ((ks.take kk).map fun y => widW s y.ref))) := ownsRow_kept (S := fun _ => False) HA.out (Kept.of_below (gw_below zq)) (fun _ _ e => e)
   clear CW q0 q1' q2' q3' q4 q5' c4' k0 k1 t1 x4 HB HX HA
   generalize gw zq = W2 at HB2 HX2 HA2 ⊢
   have HRA : Hid ((W2.alloc (.cells #[.int .i64 wd] 3)).ownsRow (w.heap.size + 1) 3 1 (.slice oa kk oc) kk (intsV ((ks.take kk).map fun y => widW s y.ref))) := ownsRow_kept (S := fun _ => False) HA2.out (Kept.of_below ((Below.refl _ _).alloc (Nat.le_refl _) _)) (fun _ _ e => e)
   have hx2l := HX2.out.lt
   have hxb2 := HXB.out
   have HEND : Hid (∀ (w6 : World) (g cap : Nat),(W2.alloc (.cells #[.int .i64 wd] 3)).grownBy w6 (Value.slice oa kk oc).ownBlock → (∀ g',(Value.slice oa kk oc).ownBlock = some g' → w.heap.size + 1 ≤ g') → Below w.heap.size w w6 ∧ Blk w6 xb #[.slice a0 s.headers.length c0,.slice a1 s.metas.length c1,.slice a2 s.states.length c2,.slice a3 s.actions.length c3,.slice (some ⟨tb,tof,none⟩) s.tables.length c4,.slice a5 s.control.length c5] 34) := fun w6 g cap hg hge => by
    have k1 : Kept (fun k => w.heap.size + 1 ≤ k) W2 w6 := (Kept.of_below (((Below.refl W2.heap.size W2).alloc (Nat.le_refl _) (.cells #[.int .i64 wd] 3)))).grown hg (fun k e => hge k e)
    exact ⟨HB2.out.trans (k1.below HB2.out.size (fun k e => by omega)),HX2.out.kept k1 (by omega)⟩
   have HGE : Hid (∀ g',(Value.slice oa kk oc).ownBlock = some g' → w.heap.size + 1 ≤ g') := fun g' e => by
    rcases HA2.out.2 with ⟨h,_⟩ | ⟨g2,cap2,cur2,h,hb2,_⟩
    ·cases h; cases e
    ·cases h
     have : g' = g2 := by simpa [Value.ownBlock] using e.symm
     rw [this]; exact hb2
   have h63 : kk + 1 ≤ maxLen := by unfold maxLen; omega
   have hby : (kk + 1) * 8 ≤ 140737488355328 := by omega
   have hbs : w.heap.size + 1 ≤ (W2.alloc (.cells #[.int .i64 wd] 3)).heap.size := by rw [World.size_alloc]; omega
   clear hxb2
   go_wp2_with (at_builtin; refine wpList_append_lies _ rfl _ _ 70 rfl (w.heap.size + 1) 3 i0 (.int .i64 0) 1 8 Tryz.underlying70 hif hz0 hz1 hz3 rfl (by decide) _ _ _ rfl HRA.out ⟨W2.heap.size,0,none⟩ 1 1 [.int .i64 wd] rfl rfl (one_cell W2 _ 3) (by intro u hu; simp at hu; subst hu; rfl) (by decide) h63 hby hbs _ rfl ?_; intro g1 cap1 w6 hown hgr hwh hlt6; obtain ⟨E1,E2⟩ := HEND.out w6 g1 cap1 hgr HGE.out; have HE1 : Hid (Below w.heap.size w w6) := E1; have HE2 : Hid (Blk w6 xb #[.slice a0 s.headers.length c0,.slice a1 s.metas.length c1,.slice a2 s.states.length c2,.slice a3 s.actions.length c3,.slice (some ⟨tb,tof,none⟩) s.tables.length c4,.slice a5 s.control.length c5] 34) := E2; have HOW : Hid (w6.ownsRow (w.heap.size + 1) 3 1 (.slice (some ⟨g1,0,none⟩) (kk + 1) cap1) (kk + 1) (intsV ((ks.take kk).map fun y => widW s y.ref) ++ [.int .i64 wd])) := hown; clear hown hgr hwh hlt6 E1 E2)
   exact ⟨⟨some ⟨g1,0,none⟩,cap1,kk + 1,by omega,rfl,by go_num,HE1.out,HE2.out,by have := HOW.out; rw [HTA.out wd HWD.out] at this; exact this⟩,by simp only [intOf]; omega⟩
  ·have e : kk = n := by omega
   subst e
   have HF : Hid (IntRow wr (.slice oa kk oc) (ks.map fun y => widW s y.ref)) := by
    have h := HA.out
    rw [HL.out,List.take_length] at h
    rw [HL.out]
    exact own_ints (out := ks.map fun y => widW s y.ref) (by rw [List.length_map]; exact h)
   clear HA
   go_wp2
   refine bodyPost_ret (v := .tuple #[.slice oa kk oc,.int .i64 0]) (by simp [results,Tryz.results44,go_sem]) rfl ⟨_,rfl,HF.out,HB.out⟩
end Go.Proofs.YtmbpclknhkbbkaaGreat
