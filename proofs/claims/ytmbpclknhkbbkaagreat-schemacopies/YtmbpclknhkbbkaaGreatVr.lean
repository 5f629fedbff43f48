/- The document's sameness of stages. -/
import Derived.Test.YtmbpclknhkbbkaaGreatVq
import Derived.Test.YtmbpclknhkbbkaaGreatB21
import Derived.Test.YtmbpclknhkbbkaaGreatB00
set_option linter.unusedSimpArgs false
set_option linter.unusedVariables false
namespace Go.Proofs.YtmbpclknhkbbkaaGreat
open Go.RowKit
set_option linter.unusedVariables false
set_option linter.unusedSimpArgs false

theorem run_ne125 (x y : Tst) (w : World) : (binOp .neq 125 (.agg (TstC x)) (.agg (TstC y))).run Tryz.prog w = .ok (.bool (!decide (x = y))) w := by
 simp only [binOp]
 simp [Op.equal,Op.maxDepth,eqIn125 9996]
theorem stg_eq (p q : Stg) : decide (p = q) = (decide (p.kind = q.kind) && (decide (p.table = q.table) && (decide (p.test = q.test) && (decide (p.thn = q.thn) && decide (p.els = q.els))))) := by
 rw [Bool.eq_iff_iff]
 simp only [Bool.and_eq_true,decide_eq_true_eq]
 cases p; cases q
 simp only [Stg.mk.injEq,Stg.kind,Stg.table,Stg.test,Stg.thn,Stg.els]
set_option maxHeartbeats 8000000 in
set_option maxRecDepth 100000 in
theorem reqStgs_step (xs ys : List Stg) (IH : ∀ (p q : Stg),p ∈ xs → ∀ (v v' : Value) (w : World),(StgRow w v p.thn → StgRow w v' q.thn → Calls Tryz.prog 109 #[v,v'] w fun e w' => e = .returned (.bool (decide (p.thn = q.thn))) ∧ Below w.heap.size w w') ∧ (StgRow w v p.els → StgRow w v' q.els → Calls Tryz.prog 109 #[v,v'] w fun e w' => e = .returned (.bool (decide (p.els = q.els))) ∧ Below w.heap.size w w'))
  (v v' : Value) (w : World) (hr : StgRow w v xs) (hr' : StgRow w v' ys) : Calls Tryz.prog 109 #[v,v'] w fun e w' => e = .returned (.bool (decide (xs = ys))) ∧ Below w.heap.size w w' := by
 obtain ⟨a1,c1,rfl,h1⟩ := hr.slice
 obtain ⟨a2,c2,rfl,h2⟩ := hr'.slice
 by_cases hne : ¬ xs.length = ys.length
 ·have e : decide (xs = ys) = false := by rw [decide_eq_false_iff_not]; intro h; exact hne (by rw [h])
  rw [e]
  have hne' : ¬ ((xs.length : Int) = (ys.length : Int)) := by omega
  clear hr hr' h1 h2 e IH
  go_enter Tryz.func109,Tryz.ntmps109
  go_wp2
  go_ret
  exact ⟨rfl,Below.refl _ _⟩
 have hne := Classical.not_not.1 hne
 have hlen : xs.length * 176 ≤ 140737488351232 := (stgRow_row hr).2
 have HR : Hid (Row 13 (fun w cs x => StgIs w x cs) w (.slice a1 xs.length c1) xs) := (stgRow_row hr).1
 have HS : Hid (Row 13 (fun w cs x => StgIs w x cs) w (.slice a2 ys.length c2) ys) := (stgRow_row hr').1
 obtain ⟨n,hn⟩ : ∃ n,n = xs.length := ⟨_,rfl⟩
 have HL : Hid (n = xs.length ∧ n = ys.length) := ⟨hn,by omega⟩
 have HIH : Hid (∀ (p q : Stg),p ∈ xs → ∀ (v v' : Value) (w : World),(StgRow w v p.thn → StgRow w v' q.thn → Calls Tryz.prog 109 #[v,v'] w fun e w' => e = .returned (.bool (decide (p.thn = q.thn))) ∧ Below w.heap.size w w') ∧ (StgRow w v p.els → StgRow w v' q.els → Calls Tryz.prog 109 #[v,v'] w fun e w' => e = .returned (.bool (decide (p.els = q.els))) ∧ Below w.heap.size w w')) := IH
 rw [← hne] at HS ⊢
 rw [← hn] at HR HS hlen ⊢
 clear hr hr' h1 h2 hn hne IH
 go_enter Tryz.func109,Tryz.ntmps109
 go_wp2_with fail
 go_loopw [5] (fun i wr => ∃ k : Nat,k ≤ n ∧ i = .int .i64 k ∧ Aside (decide (xs = ys) = decide (xs.drop k = ys.drop k)) ∧ Below w.heap.size w wr) (fun i _ => n - (intOf i).toNat)
 case atStart => exact ⟨0,by omega,rfl,by show _ = _; simp,Below.refl _ _⟩
 case round =>
  obtain ⟨k,hk,rfl,hd,hb⟩ := hrel
  by_cases hlt : k < n
  ·obtain ⟨p,hp⟩ : ∃ p,xs[k]? = some p := ⟨xs[k]'(by rw [← HL.out.1]; exact hlt),List.getElem?_eq_getElem _⟩
   obtain ⟨q,hq⟩ : ∃ q,ys[k]? = some q := ⟨ys[k]'(by rw [← HL.out.2]; exact hlt),List.getElem?_eq_getElem _⟩
   obtain ⟨b,o,cs,rfl,_,hpc,hIp⟩ := HR.out.at hp
   obtain ⟨b2,o2,cs2,rfl,_,hqc,hIq⟩ := HS.out.at hq
   obtain ⟨vp1,vp2,rfl,_,hpt,hpe⟩ := (stgIs_iff _ _ _).1 hIp
   obtain ⟨vq1,vq2,rfl,_,hqt,hqe⟩ := (stgIs_iff _ _ _).1 hIq
   obtain ⟨pt,ptc,rfl,_⟩ := hpt.slice
   obtain ⟨pe,pec,rfl,_⟩ := hpe.slice
   obtain ⟨qt,qtc,rfl,_⟩ := hqt.slice
   obtain ⟨qe,qec,rfl,_⟩ := hqe.slice
   have HPC : Hid (∀ j u,(#[.int .i64 p.kind,.string p.table,.int .i64 p.test.kind,.string p.test.a.ref.head,.string p.test.a.ref.name,.int .u64 (hiOf p.test.a.const),.int .u64 (loOf p.test.a.const),.string p.test.b.ref.head,.string p.test.b.ref.name,.int .u64 (hiOf p.test.b.const),.int .u64 (loOf p.test.b.const),.slice pt p.thn.length ptc,.slice pe p.els.length pec] : Array Value)[j]? = some u → w.cell? ⟨b,o + k * 13 + j,none⟩ = some u) := hpc
   have HQC : Hid (∀ j u,(#[.int .i64 q.kind,.string q.table,.int .i64 q.test.kind,.string q.test.a.ref.head,.string q.test.a.ref.name,.int .u64 (hiOf q.test.a.const),.int .u64 (loOf q.test.a.const),.string q.test.b.ref.head,.string q.test.b.ref.name,.int .u64 (hiOf q.test.b.const),.int .u64 (loOf q.test.b.const),.slice qt q.thn.length qtc,.slice qe q.els.length qec] : Array Value)[j]? = some u → w.cell? ⟨b2,o2 + k * 13 + j,none⟩ = some u) := hqc
   have e0 : wr.cell? ⟨b,o + k * 13,none⟩ = some (.int .i64 p.kind) := by have := pres_below hb _ _ (hpc 0 (.int .i64 p.kind) rfl); simpa using this
   have e1 : wr.cell? ⟨b,o + k * 13 + 1,none⟩ = some (.string p.table) := by have := pres_below hb _ _ (hpc 1 (.string p.table) rfl); simpa using this
   have e2 : wr.cell? ⟨b,o + k * 13 + 2,none⟩ = some (.int .i64 p.test.kind) := by have := pres_below hb _ _ (hpc 2 (.int .i64 p.test.kind) rfl); simpa using this
   have e3 : wr.cell? ⟨b,o + k * 13 + 3,none⟩ = some (.string p.test.a.ref.head) := by have := pres_below hb _ _ (hpc 3 (.string p.test.a.ref.head) rfl); simpa using this
   have e4 : wr.cell? ⟨b,o + k * 13 + 4,none⟩ = some (.string p.test.a.ref.name) := by have := pres_below hb _ _ (hpc 4 (.string p.test.a.ref.name) rfl); simpa using this
   have e5 : wr.cell? ⟨b,o + k * 13 + 5,none⟩ = some (.int .u64 (hiOf p.test.a.const)) := by have := pres_below hb _ _ (hpc 5 (.int .u64 (hiOf p.test.a.const)) rfl); simpa using this
   have e6 : wr.cell? ⟨b,o + k * 13 + 6,none⟩ = some (.int .u64 (loOf p.test.a.const)) := by have := pres_below hb _ _ (hpc 6 (.int .u64 (loOf p.test.a.const)) rfl); simpa using this
   have e7 : wr.cell? ⟨b,o + k * 13 + 7,none⟩ = some (.string p.test.b.ref.head) := by have := pres_below hb _ _ (hpc 7 (.string p.test.b.ref.head) rfl); simpa using this
   have e8 : wr.cell? ⟨b,o + k * 13 + 8,none⟩ = some (.string p.test.b.ref.name) := by have := pres_below hb _ _ (hpc 8 (.string p.test.b.ref.name) rfl); simpa using this
   have e9 : wr.cell? ⟨b,o + k * 13 + 9,none⟩ = some (.int .u64 (hiOf p.test.b.const)) := by have := pres_below hb _ _ (hpc 9 (.int .u64 (hiOf p.test.b.const)) rfl); simpa using this
   have e10 : wr.cell? ⟨b,o + k * 13 + 10,none⟩ = some (.int .u64 (loOf p.test.b.const)) := by have := pres_below hb _ _ (hpc 10 (.int .u64 (loOf p.test.b.const)) rfl); simpa using this
   have f0 : wr.cell? ⟨b2,o2 + k * 13,none⟩ = some (.int .i64 q.kind) := by have := pres_below hb _ _ (hqc 0 (.int .i64 q.kind) rfl); simpa using this
   have f1 : wr.cell? ⟨b2,o2 + k * 13 + 1,none⟩ = some (.string q.table) := by have := pres_below hb _ _ (hqc 1 (.string q.table) rfl); simpa using this
   have f2 : wr.cell? ⟨b2,o2 + k * 13 + 2,none⟩ = some (.int .i64 q.test.kind) := by have := pres_below hb _ _ (hqc 2 (.int .i64 q.test.kind) rfl); simpa using this
   have f3 : wr.cell? ⟨b2,o2 + k * 13 + 3,none⟩ = some (.string q.test.a.ref.head) := by have := pres_below hb _ _ (hqc 3 (.string q.test.a.ref.head) rfl); simpa using this
   have f4 : wr.cell? ⟨b2,o2 + k * 13 + 4,none⟩ = some (.string q.test.a.ref.name) := by have := pres_below hb _ _ (hqc 4 (.string q.test.a.ref.name) rfl); simpa using this
   have f5 : wr.cell? ⟨b2,o2 + k * 13 + 5,none⟩ = some (.int .u64 (hiOf q.test.a.const)) := by have := pres_below hb _ _ (hqc 5 (.int .u64 (hiOf q.test.a.const)) rfl); simpa using this
   have f6 : wr.cell? ⟨b2,o2 + k * 13 + 6,none⟩ = some (.int .u64 (loOf q.test.a.const)) := by have := pres_below hb _ _ (hqc 6 (.int .u64 (loOf q.test.a.const)) rfl); simpa using this
   have f7 : wr.cell? ⟨b2,o2 + k * 13 + 7,none⟩ = some (.string q.test.b.ref.head) := by have := pres_below hb _ _ (hqc 7 (.string q.test.b.ref.head) rfl); simpa using this
   have f8 : wr.cell? ⟨b2,o2 + k * 13 + 8,none⟩ = some (.string q.test.b.ref.name) := by have := pres_below hb _ _ (hqc 8 (.string q.test.b.ref.name) rfl); simpa using this
   have f9 : wr.cell? ⟨b2,o2 + k * 13 + 9,none⟩ = some (.int .u64 (hiOf q.test.b.const)) := by have := pres_below hb _ _ (hqc 9 (.int .u64 (hiOf q.test.b.const)) rfl); simpa using this
   have f10 : wr.cell? ⟨b2,o2 + k * 13 + 10,none⟩ = some (.int .u64 (loOf q.test.b.const)) := by have := pres_below hb _ _ (hqc 10 (.int .u64 (loOf q.test.b.const)) rfl); simpa using this
   have CT : Hid (∀ W,Below w.heap.size w W → Calls Tryz.prog 109 #[.slice pt p.thn.length ptc,.slice qt q.thn.length qtc] W fun e w' => e = .returned (.bool (decide (p.thn = q.thn))) ∧ Below W.heap.size W w') := fun W h => (HIH.out p q (List.mem_of_getElem? hp) _ _ W).1 (hpt.pres (pres_below h)) (hqt.pres (pres_below h))
   have CE : Hid (∀ W,Below w.heap.size w W → Calls Tryz.prog 109 #[.slice pe p.els.length pec,.slice qe q.els.length qec] W fun e w' => e = .returned (.bool (decide (p.els = q.els))) ∧ Below W.heap.size W w') := fun W h => (HIH.out p q (List.mem_of_getElem? hp) _ _ W).2 (hpe.pres (pres_below h)) (hqe.pres (pres_below h))
   have HQ : ∀ u : World,(binOp .neq 125 (.agg (TstC p.test)) (.agg (TstC q.test))).run Tryz.prog u = .ok (.bool (!decide (p.test = q.test))) u := fun u => run_ne125 p.test q.test u
   simp only [TstC] at HQ
   have HD : Hid (decide (xs = ys) = ((decide (p.kind = q.kind) && (decide (p.table = q.table) && (decide (p.test = q.test) && (decide (p.thn = q.thn) && decide (p.els = q.els))))) && decide (xs.drop (k + 1) = ys.drop (k + 1)))) := by show _ = _; rw [hd.out,drop_step hp hq,stg_eq]
   have t1 : (p.table.toList == q.table.toList) = decide (p.table = q.table) := txt_eq _ _
   have t2 : (p.kind == q.kind) = decide (p.kind = q.kind) := by rw [Bool.eq_iff_iff]; simp
   have t3 : (p.kind != q.kind) = !decide (p.kind = q.kind) := by rw [← t2]; rfl
   have HB : Hid (Below w.heap.size w wr) := hb
   have hi : (0 : Int) ≤ (k : Int) ∧ (k : Int) < (n : Int) := by omega
   clear hd hb hpc hqc hp hq hIp hIq hpt hpe hqt hqe
   generalize decide (p.kind = q.kind) = bk at *
   generalize decide (p.table = q.table) = bt at *
   generalize decide (p.test = q.test) = bs at *
   generalize decide (p.thn = q.thn) = bth at *
   generalize decide (p.els = q.els) = bel at *
   cases bk
   ·go_upto_region 6 with fail
    go_quiet (fail)
    go_wp2
    go_ret
    exact ⟨by rw [HD.out]; rfl,below_drewN HB.out _⟩
   cases bt
   ·go_upto_region 6 with fail
    go_quiet (fail)
    go_wp2
    go_ret
    exact ⟨by rw [HD.out]; rfl,below_drewN HB.out _⟩
   cases bs
   ·go_upto_region 6 with fail
    go_quiet (fail)
    go_wp2
    go_ret
    exact ⟨by rw [HD.out]; rfl,below_drewN HB.out _⟩
   go_upto_region 6 with fail
   go_quiet (fail)
   rename_i nq
   have HB1 : Hid (Below w.heap.size w (wr.drewN nq)) := below_drewN HB.out _
   clear HB HQ t1 t2 t3 e0 e1 e2 e3 e4 e5 e6 e7 e8 e9 e10 f0 f1 f2 f3 f4 f5 f6 f7 f8 f9 f10
   generalize wr.drewN nq = W1 at HB1 ⊢
   have CT1 : Hid (∀ z : Grown W1,Calls Tryz.prog 109 #[.slice pt p.thn.length ptc,.slice qt q.thn.length qtc] (gw z) fun e w' => e = .returned (.bool bth) ∧ Below (gw z).heap.size (gw z) w') := fun z => CT.out _ (bst HB1.out (gw_below z) (Nat.le_refl _))
   have e11 : ∀ z : Grown W1,(gw z).cell? ⟨b,o + k * 13 + 11,none⟩ = some (.slice pt p.thn.length ptc) := gw_cell (by have := pres_below HB1.out _ _ (HPC.out 11 (.slice pt p.thn.length ptc) rfl); simpa using this)
   have f11 : ∀ z : Grown W1,(gw z).cell? ⟨b2,o2 + k * 13 + 11,none⟩ = some (.slice qt q.thn.length qtc) := gw_cell (by have := pres_below HB1.out _ _ (HQC.out 11 (.slice qt q.thn.length qtc) rfl); simpa using this)
   go_upto_region 8 with fail
   refine region_grows (by kernel_rfl) (by kernel_rfl) ?_
   repeat (go_big_quiet_step ((go_at_call 109; exact calls_gw (CT1.out _))))
   refine wpQuiet_nil ?_
   intro wq hwq
   obtain ⟨zq,hwq⟩ := hwq
   subst hwq
   have HB2 : Hid (Below w.heap.size w (gw zq)) := bst HB1.out (gw_below zq) (Nat.le_refl _)
   clear CT1 CT e11 f11 HB1
   generalize gw zq = W2 at HB2 ⊢
   cases bth
   ·go_wp2
    go_ret
    exact ⟨by rw [HD.out]; rfl,HB2.out⟩
   have CE1 : Hid (∀ z : Grown W2,Calls Tryz.prog 109 #[.slice pe p.els.length pec,.slice qe q.els.length qec] (gw z) fun e w' => e = .returned (.bool bel) ∧ Below (gw z).heap.size (gw z) w') := fun z => CE.out _ (bst HB2.out (gw_below z) (Nat.le_refl _))
   have e12 : ∀ z : Grown W2,(gw z).cell? ⟨b,o + k * 13 + 12,none⟩ = some (.slice pe p.els.length pec) := gw_cell (by have := pres_below HB2.out _ _ (HPC.out 12 (.slice pe p.els.length pec) rfl); simpa using this)
   have f12 : ∀ z : Grown W2,(gw z).cell? ⟨b2,o2 + k * 13 + 12,none⟩ = some (.slice qe q.els.length qec) := gw_cell (by have := pres_below HB2.out _ _ (HQC.out 12 (.slice qe q.els.length qec) rfl); simpa using this)
   go_upto_region 11 with fail
   refine region_grows (by kernel_rfl) (by kernel_rfl) ?_
   repeat (go_big_quiet_step ((go_at_call 109; exact calls_gw (CE1.out _))))
   refine wpQuiet_nil ?_
   intro wq hwq
   obtain ⟨zq,hwq⟩ := hwq
   subst hwq
   have HB3 : Hid (Below w.heap.size w (gw zq)) := bst HB2.out (gw_below zq) (Nat.le_refl _)
   clear CE1 CE e12 f12 HB2
   generalize gw zq = W3 at HB3 ⊢
   cases bel
   ·go_wp2
    go_ret
    exact ⟨by rw [HD.out]; rfl,HB3.out⟩
   ·go_wp2
    exact ⟨⟨k + 1,by omega,by go_num,by show _ = _; rw [HD.out]; rfl,HB3.out⟩,by simp only [intOf]; omega⟩
  ·have e : k = n := by omega
   subst e
   have HE : Hid (decide (xs = ys) = true) := by
    show _ = _
    rw [hd.out,decide_eq_true_eq]
    have h1 := HL.out.1; have h2 := HL.out.2
    rw [List.drop_of_length_le (by omega),List.drop_of_length_le (by omega)]
   clear hd
   go_wp2
   go_ret
   exact ⟨by rw [HE.out]; rfl,hb⟩
theorem reqStgs_all : ∀ (m : Nat) (xs ys : List Stg),SizeOf.sizeOf xs ≤ m → ∀ (v v' : Value) (w : World),StgRow w v xs → StgRow w v' ys → Calls Tryz.prog 109 #[v,v'] w fun e w' => e = .returned (.bool (decide (xs = ys))) ∧ Below w.heap.size w w'
 | 0,xs,ys,h,v,v',w,hr,hr' => by cases xs <;> simp at h
 | m + 1,xs,ys,h,v,v',w,hr,hr' => by
  refine reqStgs_step xs ys (fun p q hp v v' w => ⟨fun h1 h2 => reqStgs_all m p.thn q.thn ?_ v v' w h1 h2,fun h1 h2 => reqStgs_all m p.els q.els ?_ v v' w h1 h2⟩) v v' w hr hr'
  all_goals
   have := List.sizeOf_lt_of_mem hp
   cases p
   simp [Stg.thn,Stg.els] at this ⊢
   omega
theorem reqStgs_any (v v' : Value) (xs ys : List Stg) (w : World) (hr : StgRow w v xs) (hr' : StgRow w v' ys) : Calls Tryz.prog 109 #[v,v'] w fun e w' => e = .returned (.bool (decide (xs = ys))) ∧ Below w.heap.size w w' := reqStgs_all _ xs ys (Nat.le_refl _) v v' w hr hr'
end Go.Proofs.YtmbpclknhkbbkaaGreat
