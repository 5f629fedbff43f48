/- Package schema: widthsOf, whole. Package schema's checker: has of cases, isNext. -/
import Derived.Test.YtmbpclknhkbbkaaGreatK21
import Derived.Test.YtmbpclknhkbbkaaGreatK02
set_option linter.unusedSimpArgs false
set_option linter.unusedVariables false
namespace Go.Proofs.YtmbpclknhkbbkaaGreat
open Go.RowKit
set_option linter.unusedVariables false
set_option linter.unusedSimpArgs false

abbrev tMeta : ByteArray := ⟨#[109,101,116,97]⟩
/-- The widths by references, of metadata and headers. -/
def gOf (ms : List Fld) (hs : List Hdr) : Rf → Option Int := fun r => if r.head = tMeta then lookF ms r.name else if r.head = ⟨#[]⟩ then none else match hs.find? (fun h => decide (h.name = r.head)) with | some h => lookF h.fields r.name | none => none
def headB (hs : List Hdr) (nm : ByteArray) : Bool := decide (nm = ⟨#[]⟩) || (decide (nm = tMeta) || hs.any fun h => decide (nm = h.name))
theorem gOf_start (ms : List Fld) : noteG tMeta ms (fun _ => none) = gOf ms [] := by
 funext r
 unfold noteG gOf
 by_cases h : r.head = tMeta
 ·rw [if_pos h,if_pos h]
 ·rw [if_neg h,if_neg h]
  split <;> rfl
theorem gOf_step {ms : List Fld} {hs : List Hdr} {k : Nat} {h : Hdr} (hf : hs[k]? = some h) : gOf ms (hs.take (k + 1)) = if headB (hs.take k) h.name = true then gOf ms (hs.take k) else noteG h.name h.fields (gOf ms (hs.take k)) := by
 have hfind : ∀ nm,(hs.take (k + 1)).find? (fun h => decide (h.name = nm)) = match (hs.take k).find? (fun h => decide (h.name = nm)) with | some y => some y | none => if h.name = nm then some h else none := by
  intro nm
  rw [List.take_add_one,hf,List.find?_append]
  cases (hs.take k).find? (fun h => decide (h.name = nm)) with
  | some y => simp
  | none => by_cases e : h.name = nm <;> simp [e]
 funext r
 by_cases hb : headB (hs.take k) h.name = true
 ·rw [if_pos hb]
  unfold gOf
  by_cases h1 : r.head = tMeta
  ·rw [if_pos h1,if_pos h1]
  ·rw [if_neg h1,if_neg h1]
   by_cases h2 : r.head = ⟨#[]⟩
   ·rw [if_pos h2,if_pos h2]
   ·rw [if_neg h2,if_neg h2,hfind]
    cases hk : (hs.take k).find? (fun h => decide (h.name = r.head)) with
    | some y => rfl
    | none =>
     by_cases e : h.name = r.head
     ·exfalso
      simp only [headB,Bool.or_eq_true,decide_eq_true_eq,List.any_eq_true] at hb
      rcases hb with hb | hb | ⟨x,hx,hxe⟩
      ·exact h2 (by rw [← e,hb])
      ·exact h1 (by rw [← e,hb])
      ·have := List.find?_eq_none.1 hk x hx
       simp only [decide_eq_true_eq] at this
       exact this (by rw [← hxe,e])
     ·simp [e]
 ·rw [if_neg hb]
  simp only [headB,Bool.or_eq_true,decide_eq_true_eq,List.any_eq_true,not_or,not_exists,not_and] at hb
  obtain ⟨b1,b2,b3⟩ := hb
  unfold noteG
  by_cases hr : r.head = h.name
  ·rw [if_pos hr]
   have h1 : ¬ r.head = tMeta := fun e => b2 (by rw [← hr,e])
   have h2 : ¬ r.head = ⟨#[]⟩ := fun e => b1 (by rw [← hr,e])
   have hk : (hs.take k).find? (fun h => decide (h.name = r.head)) = none := List.find?_eq_none.2 (fun x hx => by simpa using fun e => b3 x hx (by rw [← hr,e]))
   unfold gOf
   rw [if_neg h1,if_neg h1,if_neg h2,if_neg h2,hfind,hk]
   simp [hr]
  ·rw [if_neg hr]
   unfold gOf
   by_cases h1 : r.head = tMeta
   ·rw [if_pos h1,if_pos h1]
   ·rw [if_neg h1,if_neg h1]
    by_cases h2 : r.head = ⟨#[]⟩
    ·rw [if_pos h2,if_pos h2]
    ·rw [if_neg h2,if_neg h2,hfind]
     cases hk : (hs.take k).find? (fun h => decide (h.name = r.head)) with
     | some y => rfl
     | none => rw [if_neg (fun e : h.name = r.head => hr e.symm)]
theorem gOf_widW (s : Sch) (r : Rf) : (gOf s.metas s.headers r).getD 0 = widW s r := by
 have hl : ∀ fs : List Fld,(lookF fs r.name).getD 0 = match fs.find? (fun f => decide (f.name = r.name)) with | some f => posW f.width | none => 0 := by
  intro fs
  unfold lookF
  cases fs.find? (fun f => decide (f.name = r.name)) <;> rfl
 unfold gOf widW fldsOf
 by_cases h1 : r.head = ⟨#[]⟩
 ·rw [if_pos h1,if_neg (by rw [h1]; decide),if_pos h1]; rfl
 ·rw [if_neg h1]
  by_cases h2 : r.head = tMeta
  ·rw [if_pos h2,if_neg h1,if_pos h2]; exact hl _
  ·simp only [if_neg h2,if_neg h1]
   unfold hdrAt
   rcases idx_cases (fun h : Hdr => decide (h.name = r.head)) s.headers 0 with ⟨hi,hn⟩ | ⟨i,x,hlt,hx,hp,hi,hn⟩
   ·rw [hi,find_none hn]
    cases s.headers[(-1 : Int).toNat]? <;> rfl
   ·rw [hi,find_at hx hp hn]
    simp only [Nat.zero_add,Int.toNat_natCast,hx]
    rw [if_neg (by omega)]
    exact hl _
theorem SetT.to {w : World} {b : Nat} {xs ys : List ByteArray} (h : SetT w b xs) (e : ∀ s,hasT xs s = hasT ys s) : SetT w b ys := by obtain ⟨n,g,h,h1⟩ := h; exact ⟨n,g,h,fun s => (h1 s).trans (e s)⟩
/-- The heads that were met. -/
def headL (hs : List Hdr) : List ByteArray := (hs.map (·.name)).reverse ++ [tMeta,⟨#[]⟩]
theorem headL_has (hs : List Hdr) (nm : ByteArray) : hasT (headL hs) nm = headB hs nm := by
 unfold hasT headL headB
 rw [List.any_append,List.any_reverse,List.any_map]
 simp only [List.any_cons,List.any_nil,Bool.or_false,Function.comp_def]
 cases decide (nm = ⟨#[]⟩) <;> cases decide (nm = tMeta) <;> simp
theorem SetT.put {w : World} {b : Nat} {xs : List ByteArray} (h : SetT w b xs) {s : ByteArray} (hs : Okt s) (c : Int) : ∃ w',(Instr.mapUpdate 108 (.map (some b)) (.string s) (.int .i64 c)).run Tryz.prog w = .ok () w' ∧ SetT w' b (s :: xs) ∧ Kept (fun k => k = b) w w' := by
 obtain ⟨n,g,hm,hg⟩ := h
 obtain ⟨w',hput,hm',hgr⟩ := hm.put (s := s) (c := c) hs
 refine ⟨w',hput,⟨_,_,hm',fun x => ?_⟩,⟨hgr.os,hgr.tape,hgr.output,hgr.size,fun k hk hs => hgr.block k hk (fun e => hs (Option.some.inj e))⟩⟩
 rw [hasT_cons]
 by_cases e : x = s
 ·simp [e]
 ·simp [e,hg x]
theorem SetT.look {w : World} {b : Nat} {xs : List ByteArray} (h : SetT w b xs) {s : ByteArray} (hs : Okt s) : ∃ c,(Instr.lookup 108 (.map (some b)) (.string s) true).run Tryz.prog w = .ok (.tuple #[.int .i64 c,.bool (hasT xs s)]) w := by
 obtain ⟨n,g,hm,hg⟩ := h
 exact ⟨_,by rw [hm.look hs,hg s]⟩
set_option maxHeartbeats 2000000 in
set_option maxRecDepth 100000 in
theorem widthsOf_any (v : Value) (s : Sch) (w : World) (hs : SchIs w v s) : Calls Tryz.prog 66 #[v] w fun e w' => ∃ b m,e = .returned (.map (some b)) ∧ w.heap.size ≤ b ∧ MapR w' b m (gOf s.metas s.headers) ∧ Below w.heap.size w w' := by
 obtain ⟨a0,c0,a1,c1,a2,c2,a3,c3,a4,c4,a5,c5,rfl,h0,h1,h2,h3,h4,h5⟩ := hs.parts
 have hlen : s.headers.length * 40 ≤ 140737488351232 := h0.2
 have HR : Hid (HdrRow w (.slice a0 s.headers.length c0) s.headers) := h0
 have HF : Hid (FldRow w (.slice a1 s.metas.length c1) s.metas) := h1
 clear h0 h1 h2 h3 h4 h5 hs
 generalize s.headers = hs at *
 generalize s.metas = ms at *
 obtain ⟨n,hn⟩ : ∃ n,n = hs.length := ⟨_,rfl⟩
 have HL : Hid (n = hs.length) := hn
 rw [← hn] at hlen HR ⊢
 clear hn
 have hmm := @run_makeMap Tryz.prog
 have hmf := mf
 go_enter Tryz.func66,Tryz.ntmps66
 go_upto_region 3 with fail
 have HA : Hid (Below w.heap.size w (((w.alloc (.cells #[.slice a0 n c0,.slice a1 ms.length c1,.slice a2 s.states.length c2,.slice a3 s.actions.length c3,.slice a4 s.tables.length c4,.slice a5 s.control.length c5] 34)).alloc (.map #[] 0)).alloc (.cells #[.map (some (w.heap.size + 1))] 107))) := (((Below.refl _ _).alloc (Nat.le_refl _) _).alloc (by simp) _).alloc (by simp; omega) _
 have HX : Hid (Blk (((w.alloc (.cells #[.slice a0 n c0,.slice a1 ms.length c1,.slice a2 s.states.length c2,.slice a3 s.actions.length c3,.slice a4 s.tables.length c4,.slice a5 s.control.length c5] 34)).alloc (.map #[] 0)).alloc (.cells #[.map (some (w.heap.size + 1))] 107)) w.heap.size #[.slice a0 n c0,.slice a1 ms.length c1,.slice a2 s.states.length c2,.slice a3 s.actions.length c3,.slice a4 s.tables.length c4,.slice a5 s.control.length c5] 34) := ((Blk.new w _ 34).below ((Below.refl _ _).alloc (Nat.le_refl _) _)).below ((Below.refl _ _).alloc (Nat.le_refl _) _)
 have HY : Hid (Blk (((w.alloc (.cells #[.slice a0 n c0,.slice a1 ms.length c1,.slice a2 s.states.length c2,.slice a3 s.actions.length c3,.slice a4 s.tables.length c4,.slice a5 s.control.length c5] 34)).alloc (.map #[] 0)).alloc (.cells #[.map (some (w.heap.size + 1))] 107)) (w.heap.size + 1 + 1) #[.map (some (w.heap.size + 1))] 107) := by
  have := Blk.new ((w.alloc (.cells #[.slice a0 n c0,.slice a1 ms.length c1,.slice a2 s.states.length c2,.slice a3 s.actions.length c3,.slice a4 s.tables.length c4,.slice a5 s.control.length c5] 34)).alloc (.map #[] 0)) #[.map (some (w.heap.size + 1))] 107
  show Blk _ _ _ _
  simpa using this
 have HM : Hid (MapR (((w.alloc (.cells #[.slice a0 n c0,.slice a1 ms.length c1,.slice a2 s.states.length c2,.slice a3 s.actions.length c3,.slice a4 s.tables.length c4,.slice a5 s.control.length c5] 34)).alloc (.map #[] 0)).alloc (.cells #[.map (some (w.heap.size + 1))] 107)) (w.heap.size + 1) 0 (fun _ => none)) := by
  have := (MapR.new (w.alloc (.cells #[.slice a0 n c0,.slice a1 ms.length c1,.slice a2 s.states.length c2,.slice a3 s.actions.length c3,.slice a4 s.tables.length c4,.slice a5 s.control.length c5] 34))).below ((Below.refl _ _).alloc (Nat.le_refl _) (.cells #[.map (some (w.heap.size + 1))] 107))
  show MapR _ _ _ _
  simpa using this
 obtain ⟨mb,hmb⟩ : ∃ mb,mb = w.heap.size + 1 := ⟨_,rfl⟩
 have hmb1 : w.heap.size < mb := by omega
 obtain ⟨pb,hpb⟩ : ∃ pb,pb = mb + 1 := ⟨_,rfl⟩
 have hpb1 : mb < pb := by omega
 rw [← hmb] at HA HX HY HM ⊢
 rw [← hpb] at HY ⊢
 generalize (((w.alloc _).alloc (.map #[] 0)).alloc _) = W at HA HX HY HM ⊢
 clear hmb hpb
 have x1 := HX.out.cell 1 (v := .slice a1 ms.length c1) rfl
 have CN : Hid (Calls Tryz.prog 149 #[.string ⟨#[109,101,116,97]⟩,.slice a1 ms.length c1,.pointer (some ⟨pb,0,none⟩)] W fun e w' => e = .returned (.tuple #[]) ∧ Kept (fun k => k = mb) W w' ∧ ∃ m',MapR w' mb m' (noteG tMeta ms (fun _ => none))) := note_any tMeta (by unfold Okt; decide) _ ms W (HF.out.pres (pres_below HA.out)) pb mb 0 _ HY.out HM.out
 go_wp2_with fail
 refine CN.out.mono ?_
 rintro e w1 ⟨rfl,hk1,m1,hm1⟩
 rw [gOf_start] at hm1
 have HM1 : Hid (MapR w1 mb m1 (gOf ms [])) := hm1
 have HX1 : Hid (Blk w1 w.heap.size #[.slice a0 n c0,.slice a1 ms.length c1,.slice a2 s.states.length c2,.slice a3 s.actions.length c3,.slice a4 s.tables.length c4,.slice a5 s.control.length c5] 34) := HX.out.kept hk1 (by show ¬ _ = _; omega)
 have HY1 : Hid (Blk w1 pb #[.map (some mb)] 107) := HY.out.kept hk1 (by show ¬ _ = _; omega)
 have HA1 : Hid (Below w.heap.size w w1) := keptBelow HA.out hk1 (by omega)
 have hw1 := HA1.out.size
 have hbl := hm1.lt
 have hpl := HY1.out.lt
 obtain ⟨w2,hput2,hs2,hk2⟩ := (SetT.new w1).put (s := ⟨#[]⟩) (by unfold Okt; decide) 0
 obtain ⟨w3,hput3,hs3,hk3⟩ := hs2.put (s := ⟨#[109,101,116,97]⟩) (by unfold Okt; decide) 0
 have HK3 : Hid (Kept (fun k => k = w1.heap.size) (w1.alloc (.map #[] 0)) w3) := hk2.trans hk3
 have HS3 : Hid (SetT w3 w1.heap.size (headL [])) := hs3
 have HB3 : Hid (Below w1.heap.size w1 w3) := ((Below.refl _ _).alloc (Nat.le_refl _) _).trans (HK3.out.below (by simp) (fun k e => by omega))
 clear hk1 hm1 CN HX HY HM x1 hs2 hk2 hs3 hk3 HF
 go_upto_region 5 with fail
 have x0 := (HX1.out.below HB3.out).cell 0 (v := .slice a0 n c0) rfl
 have HX3 : Hid (Blk w3 w.heap.size #[.slice a0 n c0,.slice a1 ms.length c1,.slice a2 s.states.length c2,.slice a3 s.actions.length c3,.slice a4 s.tables.length c4,.slice a5 s.control.length c5] 34) := HX1.out.below HB3.out
 have HY3 : Hid (Blk w3 pb #[.map (some mb)] 107) := HY1.out.below HB3.out
 have HM3 : Hid (MapR w3 mb m1 (gOf ms (hs.take 0))) := HM1.out.below HB3.out
 have HA3 : Hid (Below w.heap.size w w3) := bst HA1.out HB3.out (Nat.le_refl _)
 obtain ⟨sb,hsb⟩ : ∃ sb,sb = w1.heap.size := ⟨_,rfl⟩
 rw [← hsb] at HS3 hw1 hbl hpl ⊢
 clear hput2 hput3 HK3 HB3 HX1 HY1 HM1 HA1 hsb HA hmm
 go_wp2_with fail
 go_loopw [21] (fun i wr => ∃ (k m : Nat),k ≤ n ∧ i = .int .i64 k ∧ Below w.heap.size w wr ∧ Blk wr pb #[.map (some mb)] 107 ∧ MapR wr mb m (gOf ms (hs.take k)) ∧ SetT wr sb (headL (hs.take k))) (fun i _ => n - (intOf i).toNat)
 case atStart => exact ⟨0,m1,by omega,rfl,HA3.out,HY3.out,HM3.out,HS3.out⟩
 case round =>
  obtain ⟨k,m,hk,rfl,hb,hpbk,hm,hset⟩ := hrel
  by_cases hlt : k < n
  ·obtain ⟨y,hy⟩ : ∃ y,hs[k]? = some y := ⟨hs[k]'(by rw [← HL.out]; exact hlt),List.getElem?_eq_getElem _⟩
   obtain ⟨b,o,cs,rfl,_,hcc,vf,rfl,hok,hfr⟩ := HR.out.1.at hy
   obtain ⟨fa,fc,rfl,_⟩ := hfr.1.slice
   have q0 : wr.cell? ⟨b,o + k * 2,none⟩ = some (.string y.name) := by have := pres_below hb _ _ (hcc 0 (.string y.name) rfl); simpa using this
   have q1 : wr.cell? ⟨b,o + k * 2 + 1,none⟩ = some (.slice fa y.fields.length fc) := by have := pres_below hb _ _ (hcc 1 (.slice fa y.fields.length fc) rfl); simpa using this
   have HB : Hid (Below w.heap.size w wr) := hb
   have HS : Hid (SetT wr sb (headL (hs.take k))) := hset
   have HMr : Hid (MapR wr mb m (gOf ms (hs.take k))) := hm
   have HPr : Hid (Blk wr pb #[.map (some mb)] 107) := hpbk
   have hsl := hset.lt
   have hml := hm.lt
   have hpl := hpbk.lt
   clear hb hcc hset hm hpbk x0
   go_upto_region 8 with fail
   have HA : Hid (Below wr.heap.size wr (wr.alloc (.cells #[.string y.name,.slice fa y.fields.length fc] 60))) := (Below.refl _ _).alloc (Nat.le_refl _) _
   have HX : Hid (Blk (wr.alloc (.cells #[.string y.name,.slice fa y.fields.length fc] 60)) wr.heap.size #[.string y.name,.slice fa y.fields.length fc] 60) := Blk.new wr _ 60
   generalize (wr.alloc _) = W at HA HX ⊢
   obtain ⟨xb,hxb⟩ : ∃ xb,xb = wr.heap.size := ⟨_,rfl⟩
   rw [← hxb] at HX hsl hml hpl ⊢
   clear hxb
   have x0 := HX.out.cell 0 (v := .string y.name) rfl
   have HSW : Hid (SetT W sb (headL (hs.take k))) := HS.out.below HA.out
   obtain ⟨lc,hlook⟩ := HSW.out.look hok
   rw [headL_has] at hlook
   have HG : Hid (gOf ms (hs.take (k + 1)) = if headB (hs.take k) y.name = true then gOf ms (hs.take k) else noteG y.name y.fields (gOf ms (hs.take k))) := gOf_step hy
   have HT : Hid (hs.take (k + 1) = hs.take k ++ [y]) := by show _ = _; rw [List.take_add_one,hy]; rfl
   have HBW : Hid (Below w.heap.size w W) := bst HB.out HA.out (Nat.le_refl _)
   have HMW : Hid (MapR W mb m (gOf ms (hs.take k))) := HMr.out.below HA.out
   have HPW : Hid (Blk W pb #[.map (some mb)] 107) := HPr.out.below HA.out
   have HHB : Hid (headB (hs.take k) y.name = headB (hs.take k) y.name) := rfl
   cases hhb : headB (hs.take k) y.name with
   | true =>
    rw [hhb] at hlook
    have HE : Hid (gOf ms (hs.take (k + 1)) = gOf ms (hs.take k)) := by show _ = _; rw [HG.out,if_pos hhb]
    have HS' : Hid (SetT W sb (headL (hs.take (k + 1)))) := by
     refine HSW.out.to (fun nm => ?_)
     rw [HT.out]
     unfold headL
     rw [List.map_append,List.reverse_append]
     simp only [List.map_cons,List.map_nil,List.reverse_cons,List.reverse_nil,List.nil_append,List.cons_append,hasT_cons]
     by_cases e : nm = y.name
     ·have := headL_has (hs.take k) nm
      unfold headL at this
      rw [this,e,hhb]; simp
     ·simp [e]
    clear HG HHB hhb
    go_wp2
    exact ⟨⟨k + 1,m,by omega,by go_num,HBW.out,HPW.out,by rw [HE.out]; exact HMW.out,HS'.out⟩,by simp only [intOf]; omega⟩
   | false =>
    rw [hhb] at hlook
    have HE : Hid (gOf ms (hs.take (k + 1)) = noteG y.name y.fields (gOf ms (hs.take k))) := by show _ = _; rw [HG.out,if_neg (by rw [hhb]; decide)]
    obtain ⟨w4,hput4,hs4,hk4⟩ := HSW.out.put hok (k : Int)
    have HS4 : Hid (SetT w4 sb (headL (hs.take (k + 1)))) := by
     refine hs4.to (fun nm => ?_)
     rw [HT.out]
     unfold headL
     rw [List.map_append,List.reverse_append]
     rfl
    have hne1 : ¬ xb = sb := by omega
    have hne2 : ¬ mb = sb := by omega
    have hne3 : ¬ pb = sb := by omega
    have HX4 : Hid (Blk w4 xb #[.string y.name,.slice fa y.fields.length fc] 60) := HX.out.kept hk4 hne1
    have HM4 : Hid (MapR w4 mb m (gOf ms (hs.take k))) := HMW.out.kept hk4 hne2
    have HP4 : Hid (Blk w4 pb #[.map (some mb)] 107) := HPW.out.kept hk4 hne3
    have HB4 : Hid (Below w.heap.size w w4) := keptBelow HBW.out hk4 (by omega)
    have CN : Hid (Calls Tryz.prog 149 #[.string y.name,.slice fa y.fields.length fc,.pointer (some ⟨pb,0,none⟩)] w4 fun e w' => e = .returned (.tuple #[]) ∧ Kept (fun k => k = mb) w4 w' ∧ ∃ m',MapR w' mb m' (noteG y.name y.fields (gOf ms (hs.take k)))) := note_any y.name hok _ y.fields w4 (hfr.pres (pres_below HB4.out)) pb mb m _ HP4.out HM4.out
    clear HG HHB hhb hs4 hk4
    go_upto_region 11 with fail
    have z0 := HX4.out.cell 0 (v := .string y.name) rfl
    have z1 := HX4.out.cell 1 (v := .slice fa y.fields.length fc) rfl
    clear hput4 hlook x0 q0 q1
    go_wp2_with fail
    refine CN.out.mono ?_
    rintro e w5 ⟨rfl,hk5,m5,hm5⟩
    have HS5 : Hid (SetT w5 sb (headL (hs.take (k + 1)))) := HS4.out.kept hk5 (by show ¬ _ = _; omega)
    have HP5 : Hid (Blk w5 pb #[.map (some mb)] 107) := HP4.out.kept hk5 (by show ¬ _ = _; omega)
    have HB5 : Hid (Below w.heap.size w w5) := keptBelow HB4.out hk5 (by omega)
    have HM5 : Hid (MapR w5 mb m5 (gOf ms (hs.take (k + 1)))) := by show MapR _ _ _ _; rw [HE.out]; exact hm5
    clear hk5 hm5
    go_wp2
    exact ⟨⟨k + 1,m5,by omega,by go_num,HB5.out,HP5.out,HM5.out,HS5.out⟩,by simp only [intOf]; omega⟩
  ·have e : k = n := by omega
   subst e
   have HE : Hid (Below w.heap.size w wr ∧ MapR wr mb m (gOf ms hs)) := by
    have := hm
    rw [List.take_of_length_le (by rw [← HL.out]; exact Nat.le_refl _)] at this
    exact ⟨hb,this⟩
   have p0 := hpbk.cell 0 (v := .map (some mb)) rfl
   clear hm hb hset hpbk
   go_wp2
   go_ret
   exact ⟨mb,m,rfl,by omega,HE.out.2,HE.out.1⟩

theorem need_yes (cb : Nat) (r : Int) (w : World) : Calls Tryz.prog 145 #[.pointer (some ⟨cb,0,none⟩),.bool true,.int .i64 r] w fun e w' => e = .returned (.tuple #[]) ∧ w' = w := by
 go_enter Tryz.func145,Tryz.ntmps145
 go_wp2
 first | go_end0 | refine bodyPost_ret (results_none rfl _ _ _) rfl ?_
 all_goals exact ⟨rfl,rfl⟩
theorem need_no (cb : Nat) (r : Int) (th : ByteArray) (w : World) (hc : w.cell? ⟨cb,6,none⟩ = some (.string th)) : Calls Tryz.prog 145 #[.pointer (some ⟨cb,0,none⟩),.bool false,.int .i64 r] w fun e w' => e = .panicked [pf r th] ∧ w' = w := by
 go_enter Tryz.func145,Tryz.ntmps145
 go_wp2
 exact ⟨rfl,rfl,rfl⟩
/-- A map whose keys are just these cases. -/
def SetC (w : World) (b : Nat) (xs : List (Nat × Nat)) : Prop := ∃ n g,MapC w b n g ∧ ∀ s,(g s).isSome = xs.contains s
theorem SetC.new (w : World) : SetC (w.alloc (.map #[] 0)) w.heap.size [] := ⟨0,_,MapC.new w,fun _ => rfl⟩
theorem SetC.lt {w : World} {b : Nat} {xs : List (Nat × Nat)} (h : SetC w b xs) : b < w.heap.size := by obtain ⟨n,g,h,_⟩ := h; exact h.lt
theorem SetC.kept {S : Nat → Prop} {w w' : World} {b : Nat} {xs : List (Nat × Nat)} (h : SetC w b xs) (hk : Kept S w w') (hb : ¬ S b) : SetC w' b xs := by obtain ⟨n,g,h,e⟩ := h; exact ⟨n,g,h.kept hk hb,e⟩
theorem SetC.below {w w' : World} {b : Nat} {xs : List (Nat × Nat)} (h : SetC w b xs) (hk : Below w.heap.size w w') : SetC w' b xs := by obtain ⟨n,g,h,e⟩ := h; exact ⟨n,g,h.below hk,e⟩
theorem SetC.put {w : World} {b : Nat} {xs : List (Nat × Nat)} (h : SetC w b xs) {y : Nat × Nat} (h1 : Is128 y.1) (h2 : Is128 y.2) (c : Int) : ∃ w',(Instr.mapUpdate 227 (.map (some b)) (CasK y) (.int .i64 c)).run Tryz.prog w = .ok () w' ∧ SetC w' b (y :: xs) ∧ Kept (fun k => k = b) w w' := by
 obtain ⟨n,g,hm,hg⟩ := h
 obtain ⟨w',hput,hm',hgr⟩ := hm.put (y := y) (c := c) h1 h2
 refine ⟨w',hput,⟨_,_,hm',fun x => ?_⟩,⟨hgr.os,hgr.tape,hgr.output,hgr.size,fun k hk hs => hgr.block k hk (fun e => hs (Option.some.inj e))⟩⟩
 rw [List.contains_cons]
 by_cases e : x = y
 ·simp [e]
 ·rw [if_neg e,hg x]
  simp [e]
theorem hasCas_any {w : World} {b : Nat} {xs : List (Nat × Nat)} (h : SetC w b xs) (x : Nat × Nat) (h1 : Is128 x.1) (h2 : Is128 x.2) : Calls Tryz.prog 201 #[.map (some b),.agg #[.int .u64 (hiOf x.1),.int .u64 (loOf x.1),.int .u64 (hiOf x.2),.int .u64 (loOf x.2),.string ⟨#[]⟩]] w fun e w' => e = .returned (.bool (xs.contains x)) ∧ Below w.heap.size w w' := by
 obtain ⟨n,g,hm,hg⟩ := h
 have HA : Hid (Below w.heap.size w (w.alloc (.cells #[.int .u64 (hiOf x.1),.int .u64 (loOf x.1),.int .u64 (hiOf x.2),.int .u64 (loOf x.2),.string ⟨#[]⟩] 165))) := (Below.refl _ _).alloc (Nat.le_refl _) _
 have HX : Hid (Blk (w.alloc (.cells #[.int .u64 (hiOf x.1),.int .u64 (loOf x.1),.int .u64 (hiOf x.2),.int .u64 (loOf x.2),.string ⟨#[]⟩] 165)) w.heap.size #[.int .u64 (hiOf x.1),.int .u64 (loOf x.1),.int .u64 (hiOf x.2),.int .u64 (loOf x.2),.string ⟨#[]⟩] 165) := Blk.new _ _ _
 have HL : Hid ((Instr.lookup 227 (.map (some b)) (.agg #[.int .u64 (hiOf x.1),.int .u64 (loOf x.1),.int .u64 (hiOf x.2),.int .u64 (loOf x.2),.string ⟨#[]⟩]) true).run Tryz.prog (w.alloc (.cells #[.int .u64 (hiOf x.1),.int .u64 (loOf x.1),.int .u64 (hiOf x.2),.int .u64 (loOf x.2),.string ⟨#[]⟩] 165)) = .ok (.tuple #[.int .i64 ((g x).getD 0),.bool (xs.contains x)]) (w.alloc (.cells #[.int .u64 (hiOf x.1),.int .u64 (loOf x.1),.int .u64 (hiOf x.2),.int .u64 (loOf x.2),.string ⟨#[]⟩] 165))) := by
  have := (hm.below HA.out).look h1 h2
  rw [hg x] at this
  exact this
 clear hm hg
 generalize (g x).getD 0 = c at *
 generalize xs.contains x = k at *
 go_enter Tryz.func201,Tryz.ntmps201
 go_upto_region 1 with fail
 generalize (w.alloc _) = W at HA HX HL ⊢
 obtain ⟨x0,x1,x2,x3,x4⟩ := HX.out.c5
 have L := HL.out
 go_wp2
 go_ret
 exact ⟨rfl,HA.out⟩
abbrev tAcc : ByteArray := ⟨#[97,99,99,101,112,116]⟩
abbrev tRej : ByteArray := ⟨#[114,101,106,101,99,116]⟩
/-- Can the parser go on there? -/
def nextB (g : ByteArray → Option Int) (nx : ByteArray) : Bool := decide (nx = tAcc) || (decide (nx = tRej) || (g nx).isSome)
theorem isNext_any {w : World} {b n : Nat} {g : ByteArray → Option Int} (h : MapT w b n g) (nx : ByteArray) (hs : Okt nx) : Calls Tryz.prog 202 #[.string nx,.map (some b)] w fun e w' => e = .returned (.bool (nextB g nx)) ∧ w' = w := by
 have C : Hid (Calls Tryz.prog 198 #[.map (some b),.string nx] w fun e w' => e = .returned (.bool (g nx).isSome) ∧ w' = w) := hasMap_any h nx hs
 have e1 := lit_eq nx [97,99,99,101,112,116]
 have e2 := lit_eq nx [114,101,106,101,99,116]
 have HN : Hid (nextB g nx = (decide (nx = tAcc) || (decide (nx = tRej) || (g nx).isSome))) := rfl
 generalize nextB g nx = R at *
 generalize (g nx).isSome = k at *
 by_cases h1 : nx = tAcc
 ·have HR : Hid (R = true) := by show _ = _; rw [HN.out,decide_eq_true h1]; rfl
  rw [decide_eq_true h1] at e1
  clear HN h1
  go_enter Tryz.func202,Tryz.ntmps202
  go_wp2
  go_ret
  exact ⟨by rw [HR.out]; rfl,rfl⟩
 ·rw [decide_eq_false h1] at e1
  by_cases h2 : nx = tRej
  ·have HR : Hid (R = true) := by show _ = _; rw [HN.out,decide_eq_true h2]; simp
   rw [decide_eq_true h2] at e2
   clear HN h1 h2
   go_enter Tryz.func202,Tryz.ntmps202
   go_wp2
   go_ret
   exact ⟨by rw [HR.out]; rfl,rfl⟩
  ·have HR : Hid (R = k) := by show _ = _; rw [HN.out,decide_eq_false h1,decide_eq_false h2]; rfl
   rw [decide_eq_false h2] at e2
   clear HN h1 h2
   go_enter Tryz.func202,Tryz.ntmps202
   go_wp2_with fail
   refine C.out.mono ?_
   rintro e w1 ⟨rfl,hw1⟩
   obtain rfl := Eq.symm hw1
   go_wp2
   go_ret
   exact ⟨by rw [HR.out]; rfl,rfl⟩
end Go.Proofs.YtmbpclknhkbbkaaGreat
