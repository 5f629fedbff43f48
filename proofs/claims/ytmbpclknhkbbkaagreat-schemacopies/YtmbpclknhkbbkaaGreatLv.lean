/- The document's scale: a schema weighed. -/
import Derived.Test.YtmbpclknhkbbkaaGreatLu
import Derived.Deep.RegionHeld3
set_option linter.unusedSimpArgs false
set_option linter.unusedVariables false
namespace Go.Proofs.YtmbpclknhkbbkaaGreat
open Go.RowKit
set_option linter.unusedVariables false
set_option linter.unusedSimpArgs false

/-- What weighing a schema holds: a number on the scale, the schema's own block, and all other blocks. -/
def Lgs (sb xb : Nat) (C : Array Value) (w wr : World) : Prop := Lgt sb w wr ∧ Blk wr xb C 34
theorem Lgs.take {sb xb : Nat} {C : Array Value} {w wr w' : World} (h : Lgs sb xb C w wr) (hne : xb ≠ sb) {l : Int} (hb : Blk w' sb #[.int .i64 l] 205) (hk : Kept (fun k => k = sb) wr w') : Lgs sb xb C w w' := ⟨h.1.trans ⟨⟨l,hb⟩,hk⟩,h.2.kept hk hne⟩
theorem Lgs.drew {sb xb : Nat} {C : Array Value} {w wr : World} (h : Lgs sb xb C w wr) : Lgs sb xb C w wr.drew := ⟨⟨h.1.1,h.1.2.drew⟩,h.2⟩
theorem Lgs.grow {sb xb : Nat} {C : Array Value} {w wr w' : World} (h : Lgs sb xb C w wr) (hb : Below wr.heap.size wr w') : Lgs sb xb C w w' := ⟨⟨by obtain ⟨⟨l,hl⟩,_⟩ := h.1; exact ⟨l,hl.below hb⟩,h.1.2.trans (Kept.of_below hb)⟩,h.2.below hb⟩
theorem Lgs.bel {sb xb : Nat} {C : Array Value} {w0 w wr : World} (h : Lgs sb xb C w wr) (hb : Below w0.heap.size w0 w) (hs : w0.heap.size ≤ sb) : Below w0.heap.size w0 wr := h.1.below hb (Nat.le_refl _) hs
theorem Lgs.calls {sb xb : Nat} {C : Array Value} {w wr : World} (h : Lgs sb xb C w wr) : ∀ n : Int,Calls Tryz.prog 174 #[.pointer (some ⟨sb,0,none⟩),.int .i64 n] wr fun e w' => ∃ l' : Int,e = .returned (.bool (decide (0 ≤ l'))) ∧ Blk w' sb #[.int .i64 l'] 205 ∧ Kept (fun k => k = sb) wr w' := fun n => by
 obtain ⟨⟨⟨l,hl⟩,_⟩,_⟩ := h
 exact take_any sb l n wr hl
set_option maxHeartbeats 4000000 in
set_option maxRecDepth 100000 in
theorem lsch_any (w0 : World) (sb : Nat) (hsb : w0.heap.size ≤ sb) (v : Value) (s : Sch) (w : World) (l : Int) (hs : SchIs w0 v s) (hB : Below w0.heap.size w0 w) (hS : Blk w sb #[.int .i64 l] 205) : Calls Tryz.prog 93 #[.pointer (some ⟨sb,0,none⟩),v] w fun e w' => e = .returned (.tuple #[]) ∧ Lgt sb w w' := by
 obtain ⟨_,_,_,_,_,_,rfl,h1,h2,h3,h4,h5,h6⟩ := hs
 obtain ⟨a1,c1,rfl,_⟩ := h1.1.slice
 obtain ⟨a2,c2,rfl,_⟩ := h2.1.slice
 obtain ⟨a3,c3,rfl,_⟩ := h3.1.slice
 obtain ⟨a4,c4,rfl,_⟩ := h4.1.slice
 obtain ⟨a5,c5,rfl,_⟩ := h5.1.slice
 obtain ⟨a6,c6,rfl,_⟩ := h6.slice
 obtain ⟨n1,hn1⟩ : ∃ n,n = s.headers.length := ⟨_,rfl⟩
 have HN1 : Hid (n1 = s.headers.length) := hn1
 rw [← hn1] at h1 ⊢
 have k1 : n1 ≤ 140737488351232 := by have := h1.2; unfold Len at this; omega
 have HR1 : Hid (HdrRow w0 (.slice a1 n1 c1) s.headers) := h1
 obtain ⟨n2,hn2⟩ : ∃ n,n = s.metas.length := ⟨_,rfl⟩
 have HN2 : Hid (n2 = s.metas.length) := hn2
 rw [← hn2] at h2 ⊢
 have k2 : n2 ≤ 140737488351232 := by have := h2.2; unfold Len at this; omega
 have HR2 : Hid (FldRow w0 (.slice a2 n2 c2) s.metas) := h2
 obtain ⟨n3,hn3⟩ : ∃ n,n = s.states.length := ⟨_,rfl⟩
 have HN3 : Hid (n3 = s.states.length) := hn3
 rw [← hn3] at h3 ⊢
 have k3 : n3 ≤ 140737488351232 := by have := h3.2; unfold Len at this; omega
 have HR3 : Hid (StaRow w0 (.slice a3 n3 c3) s.states) := h3
 obtain ⟨n4,hn4⟩ : ∃ n,n = s.actions.length := ⟨_,rfl⟩
 have HN4 : Hid (n4 = s.actions.length) := hn4
 rw [← hn4] at h4 ⊢
 have k4 : n4 ≤ 140737488351232 := by have := h4.2; unfold Len at this; omega
 have HR4 : Hid (ActRow w0 (.slice a4 n4 c4) s.actions) := h4
 obtain ⟨n5,hn5⟩ : ∃ n,n = s.tables.length := ⟨_,rfl⟩
 have HN5 : Hid (n5 = s.tables.length) := hn5
 rw [← hn5] at h5 ⊢
 have k5 : n5 ≤ 140737488351232 := by have := h5.2; unfold Len at this; omega
 have HR5 : Hid (TblRow w0 (.slice a5 n5 c5) s.tables) := h5
 obtain ⟨n6,hn6⟩ : ∃ n,n = s.control.length := ⟨_,rfl⟩
 have HN6 : Hid (n6 = s.control.length) := hn6
 rw [← hn6] at h6 ⊢
 have HR6 : Hid (StgRow w0 (.slice a6 n6 c6) s.control) := h6
 have HSB : Hid (w0.heap.size ≤ sb) := hsb
 have HB : Hid (Below w0.heap.size w0 w) := hB
 have hlt := hS.lt
 have HL0 : Hid (Lgs sb w.heap.size #[.slice a1 n1 c1,.slice a2 n2 c2,.slice a3 n3 c3,.slice a4 n4 c4,.slice a5 n5 c5,.slice a6 n6 c6] w (w.alloc (.cells #[.slice a1 n1 c1,.slice a2 n2 c2,.slice a3 n3 c3,.slice a4 n4 c4,.slice a5 n5 c5,.slice a6 n6 c6] 34))) := ⟨⟨⟨l,hS.below ((Below.refl _ _).alloc (Nat.le_refl _) _)⟩,Kept.alloc (Kept.refl _ _) _⟩,Blk.new _ _ _⟩
 have HNE : Hid (w.heap.size ≠ sb) := by show _ ≠ _; omega
 clear h1 h2 h3 h4 h5 h6 hsb hB hS hlt hn1 hn2 hn3 hn4 hn5 hn6
 go_enter Tryz.func93,Tryz.ntmps93
 go_upto_region 1 with fail
 generalize (w.alloc _) = W at HL0 ⊢
 generalize w.heap.size = xb at HL0 HNE ⊢
 have CT : Hid (∀ n : Int,Calls Tryz.prog 174 #[.pointer (some ⟨sb,0,none⟩),.int .i64 n] W fun e w' => ∃ l' : Int,e = .returned (.bool (decide (0 ≤ l'))) ∧ Blk w' sb #[.int .i64 l'] 205 ∧ Kept (fun k => k = sb) W w') := HL0.out.calls
 have x1 := HL0.out.2.cell 1 (v := .slice a2 n2 c2) rfl
 go_wp2_with fail
 refine (CT.out _).mono ?_
 rintro e W1 ⟨l1,rfl,hb1,hk1⟩
 have HL : Hid (Lgs sb xb #[.slice a1 n1 c1,.slice a2 n2 c2,.slice a3 n3 c3,.slice a4 n4 c4,.slice a5 n5 c5,.slice a6 n6 c6] w W1) := HL0.out.take HNE.out hb1 hk1
 clear CT x1 hb1 hk1 HL0
 go_wp2_with fail
 go_loopw [4] (fun i wr => ∃ k : Nat,k ≤ n1 ∧ i = .int .i64 k ∧ Lgs sb xb #[.slice a1 n1 c1,.slice a2 n2 c2,.slice a3 n3 c3,.slice a4 n4 c4,.slice a5 n5 c5,.slice a6 n6 c6] w wr) (fun i _ => n1 - (intOf i).toNat)
 case atStart => exact ⟨0,by omega,rfl,HL.out⟩
 case round =>
  obtain ⟨k,hk,rfl,hL⟩ := hrel
  have HL' : Hid (Lgs sb xb #[.slice a1 n1 c1,.slice a2 n2 c2,.slice a3 n3 c3,.slice a4 n4 c4,.slice a5 n5 c5,.slice a6 n6 c6] w wr) := hL
  clear hL HL
  go_upto_region 3 with fail
  go_cut [29] from 13 to 31 (fun c wx => ∃ b : Bool,c = .bool b ∧ (b = true → k < n1) ∧ Lgs sb xb #[.slice a1 n1 c1,.slice a2 n2 c2,.slice a3 n3 c3,.slice a4 n4 c4,.slice a5 n5 c5,.slice a6 n6 c6] w wx)
  case first =>
   have x := HL'.out.2.cell 0 (v := .slice a1 n1 c1) rfl
   by_cases hlt : k < n1
   ·obtain ⟨y,hy⟩ : ∃ y,s.headers[k]? = some y := ⟨s.headers[k]'(by rw [← HN1.out]; exact hlt),List.getElem?_eq_getElem _⟩
    obtain ⟨b,o,e1,d1,rfl,_,q1,_⟩ := HR1.out.get (fun _ _ h => h) hy
    generalize y.fields.length = m1 at *
    have HQ : Hid (∀ W,Below w0.heap.size w0 W → W.cell? ⟨b,o + k * 2 + 1,none⟩ = some (.slice e1 m1 d1)) := fun W hW => pres_below hW _ _ q1
    have hd : decide ((k : Int) < n1) = true := decide_eq_true (by omega)
    clear q1
    have q1 := HQ.out wr (HL'.out.bel HB.out HSB.out)
    have CT : Hid (∀ n : Int,Calls Tryz.prog 174 #[.pointer (some ⟨sb,0,none⟩),.int .i64 n] wr fun e w' => ∃ l' : Int,e = .returned (.bool (decide (0 ≤ l'))) ∧ Blk w' sb #[.int .i64 l'] 205 ∧ Kept (fun k => k = sb) wr w') := HL'.out.calls
    go_wp2_with fail
    refine (CT.out _).mono ?_
    rintro e W1 ⟨l2,rfl,hb2,hk2⟩
    have HL2 : Hid (Lgs sb xb #[.slice (some ⟨b,o,none⟩) n1 c1,.slice a2 n2 c2,.slice a3 n3 c3,.slice a4 n4 c4,.slice a5 n5 c5,.slice a6 n6 c6] w W1) := HL'.out.take HNE.out hb2 hk2
    clear hb2 hk2 CT
    go_wp2_with fail
    go_meet
    exact ⟨_,rfl,fun _ => hlt,HL2.out⟩
   ·have hd : decide ((k : Int) < n1) = false := decide_eq_false (by omega)
    go_wp2_with fail
    go_meet
    exact ⟨false,rfl,(fun h => by cases h),HL'.out⟩
  case rest =>
   obtain ⟨b,rfl,hb,hL⟩ := hcut
   have HL : Hid (Lgs sb xb #[.slice a1 n1 c1,.slice a2 n2 c2,.slice a3 n3 c3,.slice a4 n4 c4,.slice a5 n5 c5,.slice a6 n6 c6] w wc) := hL
   clear hL HL'
   cases b with
   | true =>
    have hlt : k < n1 := hb rfl
    go_wp2
    exact ⟨⟨k + 1,by omega,by go_num,HL.out⟩,by simp only [intOf]; omega⟩
   | false =>
    clear hb
    go_wp2_with fail
    go_loopw [5] (fun i wr => ∃ k : Nat,k ≤ n3 ∧ i = .int .i64 k ∧ Lgs sb xb #[.slice a1 n1 c1,.slice a2 n2 c2,.slice a3 n3 c3,.slice a4 n4 c4,.slice a5 n5 c5,.slice a6 n6 c6] w wr) (fun i _ => n3 - (intOf i).toNat)
    case atStart => exact ⟨0,by omega,rfl,HL.out⟩
    case round =>
     obtain ⟨k,hk,rfl,hL⟩ := hrel
     have HL' : Hid (Lgs sb xb #[.slice a1 n1 c1,.slice a2 n2 c2,.slice a3 n3 c3,.slice a4 n4 c4,.slice a5 n5 c5,.slice a6 n6 c6] w wr) := hL
     clear hL HL
     go_upto_region 6 with fail
     go_cut [48] from 32 to 50 (fun c wx => ∃ b : Bool,c = .bool b ∧ (b = true → k < n3) ∧ Lgs sb xb #[.slice a1 n1 c1,.slice a2 n2 c2,.slice a3 n3 c3,.slice a4 n4 c4,.slice a5 n5 c5,.slice a6 n6 c6] w wx)
     case first =>
      have x := HL'.out.2.cell 2 (v := .slice a3 n3 c3) rfl
      by_cases hlt : k < n3
      ·obtain ⟨y,hy⟩ : ∃ y,s.states[k]? = some y := ⟨s.states[k]'(by rw [← HN3.out]; exact hlt),List.getElem?_eq_getElem _⟩
       obtain ⟨b,o,e1,d1,rfl,_,_,_,_,q1,_⟩ := HR3.out.get (fun _ _ h => h) hy
       generalize y.cases.length = m1 at *
       have HQ : Hid (∀ W,Below w0.heap.size w0 W → W.cell? ⟨b,o + k * 6 + 4,none⟩ = some (.slice e1 m1 d1)) := fun W hW => pres_below hW _ _ q1
       have hd : decide ((k : Int) < n3) = true := decide_eq_true (by omega)
       clear q1
       have q1 := HQ.out wr (HL'.out.bel HB.out HSB.out)
       have CT : Hid (∀ n : Int,Calls Tryz.prog 174 #[.pointer (some ⟨sb,0,none⟩),.int .i64 n] wr fun e w' => ∃ l' : Int,e = .returned (.bool (decide (0 ≤ l'))) ∧ Blk w' sb #[.int .i64 l'] 205 ∧ Kept (fun k => k = sb) wr w') := HL'.out.calls
       go_wp2_with fail
       refine (CT.out _).mono ?_
       rintro e W1 ⟨l2,rfl,hb2,hk2⟩
       have HL2 : Hid (Lgs sb xb #[.slice a1 n1 c1,.slice a2 n2 c2,.slice (some ⟨b,o,none⟩) n3 c3,.slice a4 n4 c4,.slice a5 n5 c5,.slice a6 n6 c6] w W1) := HL'.out.take HNE.out hb2 hk2
       clear hb2 hk2 CT
       go_wp2_with fail
       go_meet
       exact ⟨_,rfl,fun _ => hlt,HL2.out⟩
      ·have hd : decide ((k : Int) < n3) = false := decide_eq_false (by omega)
       go_wp2_with fail
       go_meet
       exact ⟨false,rfl,(fun h => by cases h),HL'.out⟩
     case rest =>
      obtain ⟨b,rfl,hb,hL⟩ := hcut
      have HL : Hid (Lgs sb xb #[.slice a1 n1 c1,.slice a2 n2 c2,.slice a3 n3 c3,.slice a4 n4 c4,.slice a5 n5 c5,.slice a6 n6 c6] w wc) := hL
      clear hL HL'
      cases b with
      | true =>
       have hlt : k < n3 := hb rfl
       go_wp2
       exact ⟨⟨k + 1,by omega,by go_num,HL.out⟩,by simp only [intOf]; omega⟩
      | false =>
       clear hb
       go_wp2_with fail
       go_loopw [6] (fun i wr => ∃ k : Nat,k ≤ n4 ∧ i = .int .i64 k ∧ Lgs sb xb #[.slice a1 n1 c1,.slice a2 n2 c2,.slice a3 n3 c3,.slice a4 n4 c4,.slice a5 n5 c5,.slice a6 n6 c6] w wr) (fun i _ => n4 - (intOf i).toNat)
       case atStart => exact ⟨0,by omega,rfl,HL.out⟩
       case round =>
        obtain ⟨k,hk,rfl,hL⟩ := hrel
        have HL' : Hid (Lgs sb xb #[.slice a1 n1 c1,.slice a2 n2 c2,.slice a3 n3 c3,.slice a4 n4 c4,.slice a5 n5 c5,.slice a6 n6 c6] w wr) := hL
        clear hL HL
        go_upto_region 9 with fail
        go_cut [75] from 51 to 77 (fun c wx => ∃ b : Bool,c = .bool b ∧ (b = true → k < n4) ∧ Lgs sb xb #[.slice a1 n1 c1,.slice a2 n2 c2,.slice a3 n3 c3,.slice a4 n4 c4,.slice a5 n5 c5,.slice a6 n6 c6] w wx)
        case first =>
         have x := HL'.out.2.cell 3 (v := .slice a4 n4 c4) rfl
         by_cases hlt : k < n4
         ·obtain ⟨y,hy⟩ : ∃ y,s.actions[k]? = some y := ⟨s.actions[k]'(by rw [← HN4.out]; exact hlt),List.getElem?_eq_getElem _⟩
          obtain ⟨b,o,e1,d1,e2,d2,rfl,_,q1,q2,_,_,g1,g2⟩ := HR4.out.get (fun _ _ h => h) hy
          have j1 : y.params.length ≤ 140737488351232 := by have := g1.2; unfold Len at this; omega
          have j2 : y.steps.length ≤ 140737488351232 := by have := g2.2; unfold Len at this; omega
          clear g1 g2
          generalize y.params.length = m1 at *
          generalize y.steps.length = m2 at *
          have HQ : Hid (∀ W,Below w0.heap.size w0 W → W.cell? ⟨b,o + k * 3 + 1,none⟩ = some (.slice e1 m1 d1) ∧ W.cell? ⟨b,o + k * 3 + 2,none⟩ = some (.slice e2 m2 d2)) := fun W hW => ⟨pres_below hW _ _ q1,pres_below hW _ _ q2⟩
          have hd : decide ((k : Int) < n4) = true := decide_eq_true (by omega)
          clear q1 q2
          have i0 : (0 : Int) ≤ (k : Int) := by omega
          have i1 : (k : Int) < (n4 : Int) := by omega
          have s0 : IntKind.i64.wrap (1 + (m1 : Int)) = 1 + (m1 : Int) := by rw [IntKind.wrap_i64]; omega
          have s1 : IntKind.i64.wrap (1 + (m1 : Int) + (m2 : Int)) = 1 + (m1 : Int) + (m2 : Int) := by rw [IntKind.wrap_i64]; omega
          obtain ⟨q1,q2⟩ := HQ.out wr (HL'.out.bel HB.out HSB.out)
          have CT : Hid (∀ n : Int,Calls Tryz.prog 174 #[.pointer (some ⟨sb,0,none⟩),.int .i64 n] wr.drew fun e w' => ∃ l' : Int,e = .returned (.bool (decide (0 ≤ l'))) ∧ Blk w' sb #[.int .i64 l'] 205 ∧ Kept (fun k => k = sb) wr.drew w') := HL'.out.drew.calls
          go_region_held3 (fun w' => w'.cell? ⟨xb,3,none⟩ = some (.slice (some ⟨b,o,none⟩) n4 c4) ∧ w'.cell? ⟨b,o + k * 3 + 1,none⟩ = some (.slice e1 m1 d1) ∧ w'.cell? ⟨b,o + k * 3 + 2,none⟩ = some (.slice e2 m2 d2)) (first | exact ⟨x,q1,q2⟩ | exact ⟨(HL'.out.drew.take HNE.out hb2 hk2).2.cell 3 rfl,HQ.out _ ((HL'.out.drew.take HNE.out hb2 hk2).bel HB.out HSB.out)⟩) ((go_at_call 174; refine (CT.out _).mono ?_; rintro e W1 ⟨l2,rfl,hb2,hk2⟩))
          have HL2 : Hid (Lgs sb xb #[.slice a1 n1 c1,.slice a2 n2 c2,.slice a3 n3 c3,.slice (some ⟨b,o,none⟩) n4 c4,.slice a5 n5 c5,.slice a6 n6 c6] w W1) := HL'.out.drew.take HNE.out hb2 hk2
          clear hb2 hk2 CT
          go_wp2_with fail
          go_meet
          exact ⟨_,rfl,fun _ => hlt,HL2.out⟩
         ·have hd : decide ((k : Int) < n4) = false := decide_eq_false (by omega)
          have zx : ∀ z : Grown wr,(gw z).cell? ⟨xb,3,none⟩ = some (.slice a4 n4 c4) := gw_cell x
          clear x
          refine region_grows (by kernel_rfl) (by kernel_rfl) ?_
          repeat (go_big_quiet_step (fail))
          refine wpQuiet_nil ?_
          intro wq hwq
          obtain ⟨zq,hwq⟩ := hwq
          subst hwq
          have HL2 : Hid (Lgs sb xb #[.slice a1 n1 c1,.slice a2 n2 c2,.slice a3 n3 c3,.slice a4 n4 c4,.slice a5 n5 c5,.slice a6 n6 c6] w (gw zq)) := HL'.out.grow (gw_below zq)
          clear zx
          generalize gw zq = W2 at HL2 ⊢
          go_wp2_with fail
          go_meet
          exact ⟨false,rfl,(fun h => by cases h),HL2.out⟩
        case rest =>
         obtain ⟨b,rfl,hb,hL⟩ := hcut
         have HL : Hid (Lgs sb xb #[.slice a1 n1 c1,.slice a2 n2 c2,.slice a3 n3 c3,.slice a4 n4 c4,.slice a5 n5 c5,.slice a6 n6 c6] w wc) := hL
         clear hL HL'
         cases b with
         | true =>
          have hlt : k < n4 := hb rfl
          go_wp2
          exact ⟨⟨k + 1,by omega,by go_num,HL.out⟩,by simp only [intOf]; omega⟩
         | false =>
          clear hb
          go_wp2_with fail
          go_loopw [7] (fun i wr => ∃ k : Nat,k ≤ n5 ∧ i = .int .i64 k ∧ Lgs sb xb #[.slice a1 n1 c1,.slice a2 n2 c2,.slice a3 n3 c3,.slice a4 n4 c4,.slice a5 n5 c5,.slice a6 n6 c6] w wr) (fun i _ => n5 - (intOf i).toNat)
          case atStart => exact ⟨0,by omega,rfl,HL.out⟩
          case round =>
           obtain ⟨k,hk,rfl,hL⟩ := hrel
           have HL' : Hid (Lgs sb xb #[.slice a1 n1 c1,.slice a2 n2 c2,.slice a3 n3 c3,.slice a4 n4 c4,.slice a5 n5 c5,.slice a6 n6 c6] w wr) := hL
           clear hL HL
           go_upto_region 12 with fail
           go_cut [111] from 78 to 113 (fun c wx => ∃ b : Bool,c = .bool b ∧ (b = true → k < n5) ∧ Lgs sb xb #[.slice a1 n1 c1,.slice a2 n2 c2,.slice a3 n3 c3,.slice a4 n4 c4,.slice a5 n5 c5,.slice a6 n6 c6] w wx)
           case first =>
            have x := HL'.out.2.cell 4 (v := .slice a5 n5 c5) rfl
            by_cases hlt : k < n5
            ·obtain ⟨y,hy⟩ : ∃ y,s.tables[k]? = some y := ⟨s.tables[k]'(by rw [← HN5.out]; exact hlt),List.getElem?_eq_getElem _⟩
             obtain ⟨b,o,e1,d1,e2,d2,e3,d3,rfl,_,q1,q2,_,_,q3,_,_,_,g1,g2,g3⟩ := HR5.out.get (fun _ _ h => h) hy
             have j1 : y.keys.length ≤ 140737488351232 := by have := g1.2; unfold Len at this; omega
             have j2 : y.actions.length ≤ 140737488351232 := by have := g2.2; unfold Len at this; omega
             have j3 : y.dflt.args.length ≤ 140737488351232 := by have := g3.2; unfold Len at this; omega
             clear g1 g2 g3
             generalize y.keys.length = m1 at *
             generalize y.actions.length = m2 at *
             generalize y.dflt.args.length = m3 at *
             have HQ : Hid (∀ W,Below w0.heap.size w0 W → W.cell? ⟨b,o + k * 7 + 1,none⟩ = some (.slice e1 m1 d1) ∧ W.cell? ⟨b,o + k * 7 + 2,none⟩ = some (.slice e2 m2 d2) ∧ W.cell? ⟨b,o + k * 7 + 5,none⟩ = some (.slice e3 m3 d3)) := fun W hW => ⟨pres_below hW _ _ q1,pres_below hW _ _ q2,pres_below hW _ _ q3⟩
             have hd : decide ((k : Int) < n5) = true := decide_eq_true (by omega)
             clear q1 q2 q3
             have i0 : (0 : Int) ≤ (k : Int) := by omega
             have i1 : (k : Int) < (n5 : Int) := by omega
             have s0 : IntKind.i64.wrap (1 + (m1 : Int)) = 1 + (m1 : Int) := by rw [IntKind.wrap_i64]; omega
             have s1 : IntKind.i64.wrap (1 + (m1 : Int) + (m2 : Int)) = 1 + (m1 : Int) + (m2 : Int) := by rw [IntKind.wrap_i64]; omega
             have s2 : IntKind.i64.wrap (1 + (m1 : Int) + (m2 : Int) + (m3 : Int)) = 1 + (m1 : Int) + (m2 : Int) + (m3 : Int) := by rw [IntKind.wrap_i64]; omega
             obtain ⟨q1,q2,q3⟩ := HQ.out wr (HL'.out.bel HB.out HSB.out)
             have CT : Hid (∀ n : Int,Calls Tryz.prog 174 #[.pointer (some ⟨sb,0,none⟩),.int .i64 n] wr.drew fun e w' => ∃ l' : Int,e = .returned (.bool (decide (0 ≤ l'))) ∧ Blk w' sb #[.int .i64 l'] 205 ∧ Kept (fun k => k = sb) wr.drew w') := HL'.out.drew.calls
             go_region_held3 (fun w' => w'.cell? ⟨xb,4,none⟩ = some (.slice (some ⟨b,o,none⟩) n5 c5) ∧ w'.cell? ⟨b,o + k * 7 + 1,none⟩ = some (.slice e1 m1 d1) ∧ w'.cell? ⟨b,o + k * 7 + 2,none⟩ = some (.slice e2 m2 d2) ∧ w'.cell? ⟨b,o + k * 7 + 5,none⟩ = some (.slice e3 m3 d3)) (first | exact ⟨x,q1,q2,q3⟩ | exact ⟨(HL'.out.drew.take HNE.out hb2 hk2).2.cell 4 rfl,HQ.out _ ((HL'.out.drew.take HNE.out hb2 hk2).bel HB.out HSB.out)⟩) ((go_at_call 174; refine (CT.out _).mono ?_; rintro e W1 ⟨l2,rfl,hb2,hk2⟩))
             have HL2 : Hid (Lgs sb xb #[.slice a1 n1 c1,.slice a2 n2 c2,.slice a3 n3 c3,.slice a4 n4 c4,.slice (some ⟨b,o,none⟩) n5 c5,.slice a6 n6 c6] w W1) := HL'.out.drew.take HNE.out hb2 hk2
             clear hb2 hk2 CT
             go_wp2_with fail
             go_meet
             exact ⟨_,rfl,fun _ => hlt,HL2.out⟩
            ·have hd : decide ((k : Int) < n5) = false := decide_eq_false (by omega)
             have zx : ∀ z : Grown wr,(gw z).cell? ⟨xb,4,none⟩ = some (.slice a5 n5 c5) := gw_cell x
             clear x
             refine region_grows (by kernel_rfl) (by kernel_rfl) ?_
             repeat (go_big_quiet_step (fail))
             refine wpQuiet_nil ?_
             intro wq hwq
             obtain ⟨zq,hwq⟩ := hwq
             subst hwq
             have HL2 : Hid (Lgs sb xb #[.slice a1 n1 c1,.slice a2 n2 c2,.slice a3 n3 c3,.slice a4 n4 c4,.slice a5 n5 c5,.slice a6 n6 c6] w (gw zq)) := HL'.out.grow (gw_below zq)
             clear zx
             generalize gw zq = W2 at HL2 ⊢
             go_wp2_with fail
             go_meet
             exact ⟨false,rfl,(fun h => by cases h),HL2.out⟩
           case rest =>
            obtain ⟨b,rfl,hb,hL⟩ := hcut
            have HL : Hid (Lgs sb xb #[.slice a1 n1 c1,.slice a2 n2 c2,.slice a3 n3 c3,.slice a4 n4 c4,.slice a5 n5 c5,.slice a6 n6 c6] w wc) := hL
            clear hL HL'
            cases b with
            | true =>
             have hlt : k < n5 := hb rfl
             go_wp2
             exact ⟨⟨k + 1,by omega,by go_num,HL.out⟩,by simp only [intOf]; omega⟩
            | false =>
             clear hb
             have x6 := HL.out.2.cell 5 (v := .slice a6 n6 c6) rfl
             obtain ⟨⟨⟨l2,hl2⟩,_⟩,_⟩ := HL.out
             have CS : Hid (Calls Tryz.prog 175 #[.pointer (some ⟨sb,0,none⟩),.slice a6 n6 c6] wc fun e w' => e = .returned (.tuple #[]) ∧ Lgt sb wc w') := lst_any w0 sb HSB.out _ s.control _ wc l2 (Nat.le_refl _) HR6.out (HL.out.bel HB.out HSB.out) hl2
             clear hl2
             go_wp2_with fail
             refine CS.out.mono ?_
             rintro e W9 ⟨rfl,h9⟩
             have H9 : Hid (Lgt sb w W9) := HL.out.1.trans h9
             clear h9 CS
             go_wp2
             first | go_end0 | refine bodyPost_ret (results_none rfl _ _ _) rfl ?_
             exact ⟨rfl,H9.out⟩
end Go.Proofs.YtmbpclknhkbbkaaGreat
