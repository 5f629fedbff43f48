/- The document's sameness of states. -/
import Derived.Test.YtmbpclknhkbbkaaGreatVg
set_option linter.unusedSimpArgs false
set_option linter.unusedVariables false
namespace Go.Proofs.YtmbpclknhkbbkaaGreat
open Go.RowKit
set_option linter.unusedVariables false
set_option linter.unusedSimpArgs false

theorem run_ne42 (x y : Rf) (w : World) : (binOp .neq 42 (.agg #[.string x.head,.string x.name]) (.agg #[.string y.head,.string y.name])).run Tryz.prog w = .ok (.bool (!decide (x = y))) w := by
 simp only [binOp]
 simp [Op.equal,Op.maxDepth,eqInR 9998]
theorem sta_eq (x y : Sta) : decide (x = y) = (decide (x.name = y.name) && (decide (x.header = y.header) && (decide (x.on = y.on) && (decide (x.next = y.next) && decide (x.cases = y.cases))))) := by
 rw [Bool.eq_iff_iff]
 simp only [Bool.and_eq_true,decide_eq_true_eq]
 cases x; cases y
 simp only [Sta.mk.injEq]
 exact ⟨fun ⟨h1,h2,h3,h4,h5⟩ => ⟨h1,h2,h3,h5,h4⟩,fun ⟨h1,h2,h3,h4,h5⟩ => ⟨h1,h2,h3,h5,h4⟩⟩
set_option maxHeartbeats 4000000 in
set_option maxRecDepth 100000 in
theorem reqSta_any (x y : Sta) (cs ds : Array Value) (w : World) (hI : StaIs w cs x) (hJ : StaIs w ds y) : Calls Tryz.prog 108 #[.agg cs,.agg ds] w fun e w' => e = .returned (.bool (decide (x = y))) ∧ Below w.heap.size w w' := by
 obtain ⟨v,rfl,_,hf⟩ := hI
 obtain ⟨u,rfl,_,hg⟩ := hJ
 obtain ⟨a1,c1,rfl,_⟩ := hf.1.slice
 obtain ⟨a2,c2,rfl,_⟩ := hg.1.slice
 have HB1 := hstart2 w 98 #[.string x.name,.string x.header,.string x.on.head,.string x.on.name,.slice a1 x.cases.length c1,.string x.next] #[.string y.name,.string y.header,.string y.on.head,.string y.on.name,.slice a2 y.cases.length c2,.string y.next]
 have HR : Hid (Row 5 (Flat CasC CasOk) w (.slice a1 x.cases.length c1) x.cases) := hf.1
 have HS : Hid (Row 5 (Flat CasC CasOk) w (.slice a2 y.cases.length c2) y.cases) := hg.1
 have hlen : x.cases.length * 48 ≤ 140737488351232 := hf.2
 have HE0 : Hid (decide (x = y) = (decide (x.name = y.name) && (decide (x.header = y.header) && (decide (x.on = y.on) && (decide (x.next = y.next) && decide (x.cases = y.cases)))))) := sta_eq x y
 have t1 : (x.name.toList == y.name.toList) = decide (x.name = y.name) := txt_eq _ _
 have t2 : (x.header.toList == y.header.toList) = decide (x.header = y.header) := txt_eq _ _
 have t3 : (x.next.toList == y.next.toList) = decide (x.next = y.next) := txt_eq _ _
 have t4 : ∀ u : World,(binOp .neq 42 (.agg #[.string x.on.head,.string x.on.name]) (.agg #[.string y.on.head,.string y.on.name])).run Tryz.prog u = .ok (.bool (!decide (x.on = y.on))) u := fun u => run_ne42 x.on y.on u
 have HLN : Hid (¬ x.cases.length = y.cases.length → decide (x.cases = y.cases) = false) := fun h => decide_eq_false (fun e => h (by rw [e]))
 generalize decide (x = y) = R at *
 generalize decide (x.name = y.name) = bn at *
 generalize decide (x.header = y.header) = bh at *
 generalize decide (x.on = y.on) = bo at *
 generalize decide (x.next = y.next) = bx at *
 clear hf hg
 generalize x.cases = xs at *
 generalize y.cases = ys at *
 go_enter Tryz.func108,Tryz.ntmps108
 go_upto_region 1 with fail
 generalize ((w.alloc _).alloc _) = V at HB1 ⊢
 have p0 := HB1.out.one.cell 0 (v := .string x.name) rfl
 have q0 := HB1.out.two.cell 0 (v := .string y.name) rfl
 have p1 := HB1.out.one.cell 1 (v := .string x.header) rfl
 have q1 := HB1.out.two.cell 1 (v := .string y.header) rfl
 have p2 := HB1.out.one.cell 2 (v := .string x.on.head) rfl
 have q2 := HB1.out.two.cell 2 (v := .string y.on.head) rfl
 have p3 := HB1.out.one.cell 3 (v := .string x.on.name) rfl
 have q3 := HB1.out.two.cell 3 (v := .string y.on.name) rfl
 have p5 := HB1.out.one.cell 5 (v := .string x.next) rfl
 have q5 := HB1.out.two.cell 5 (v := .string y.next) rfl
 have p4 := HB1.out.one.cell 4 (v := .slice a1 xs.length c1) rfl
 have q4 := HB1.out.two.cell 4 (v := .slice a2 ys.length c2) rfl
 cases bn
 ·go_wp2
  go_ret
  exact ⟨by rw [HE0.out]; rfl,HB1.out.below⟩
 cases bh
 ·go_wp2
  go_ret
  exact ⟨by rw [HE0.out]; rfl,HB1.out.below⟩
 cases bo
 ·go_wp2
  go_ret
  exact ⟨by rw [HE0.out]; rfl,HB1.out.below⟩
 cases bx
 ·go_wp2
  go_ret
  exact ⟨by rw [HE0.out]; rfl,HB1.out.below⟩
 by_cases hne : ¬ xs.length = ys.length
 ·have hne' : ¬ ((xs.length : Int) = (ys.length : Int)) := by omega
  have HF : Hid (R = false) := by show _ = _; rw [HE0.out,HLN.out hne]; rfl
  clear HE0 HLN
  go_wp2
  go_ret
  exact ⟨by rw [HF.out]; rfl,HB1.out.below⟩
 have hne := Classical.not_not.1 hne
 have HE : Hid (R = decide (xs = ys)) := by show _ = _; rw [HE0.out]; rfl
 obtain ⟨n,hn⟩ : ∃ n,n = xs.length := ⟨_,rfl⟩
 have HL : Hid (n = xs.length ∧ n = ys.length) := ⟨hn,by omega⟩
 rw [← hne] at HS HB1 q4 ⊢
 rw [← hn] at HR HS hlen HB1 p4 q4 ⊢
 clear hn hne HE0 HLN
 go_wp2_with fail
 clear p0 q0 p1 q1 p2 q2 p3 q3 p4 q4 p5 q5
 go_loopw [5] (fun i wr => ∃ k : Nat,k ≤ n ∧ i = .int .i64 k ∧ Aside (R = decide (xs.drop k = ys.drop k)) ∧ ∃ d,wr = V.drewN d) (fun i _ => n - (intOf i).toNat)
 case atStart => exact ⟨0,by omega,rfl,by show _ = _; rw [HE.out]; rfl,0,rfl⟩
 case round =>
  obtain ⟨k,hk,rfl,hd,d,hwr⟩ := hrel
  have HX : Hid (Box2 w 98 #[.string x.name,.string x.header,.string x.on.head,.string x.on.name,.slice a1 n c1,.string x.next] #[.string y.name,.string y.header,.string y.on.head,.string y.on.name,.slice a2 n c2,.string y.next] wr) := by rw [hwr]; exact ⟨HB1.out.one,HB1.out.two,below_drewN HB1.out.below d⟩
  have HWR : Hid (∃ d,wr = V.drewN d) := ⟨d,hwr⟩
  have hb := HX.out.below
  clear hwr
  have p1 := HX.out.one.cell 4 (v := .slice a1 n c1) rfl
  have q1 := HX.out.two.cell 4 (v := .slice a2 n c2) rfl
  by_cases hlt : k < n
  ·obtain ⟨p,hp⟩ : ∃ p,xs[k]? = some p := ⟨xs[k]'(by rw [← HL.out.1]; exact hlt),List.getElem?_eq_getElem _⟩
   obtain ⟨q,hq⟩ : ∃ q,ys[k]? = some q := ⟨ys[k]'(by rw [← HL.out.2]; exact hlt),List.getElem?_eq_getElem _⟩
   obtain ⟨b,o,cs,rfl,_,hx1,rfl,_⟩ := HR.out.at hp
   obtain ⟨b2,o2,cs2,rfl,_,hy1,rfl,_⟩ := HS.out.at hq
   have e0 : wr.cell? ⟨b,o + k * 5,none⟩ = some (.int .u64 (hiOf p.value)) := by have := pres_below hb _ _ (hx1 0 (.int .u64 (hiOf p.value)) rfl); simpa using this
   have e1 : wr.cell? ⟨b,o + k * 5 + 1,none⟩ = some (.int .u64 (loOf p.value)) := by have := pres_below hb _ _ (hx1 1 (.int .u64 (loOf p.value)) rfl); simpa using this
   have e2 : wr.cell? ⟨b,o + k * 5 + 2,none⟩ = some (.int .u64 (hiOf p.mask)) := by have := pres_below hb _ _ (hx1 2 (.int .u64 (hiOf p.mask)) rfl); simpa using this
   have e3 : wr.cell? ⟨b,o + k * 5 + 3,none⟩ = some (.int .u64 (loOf p.mask)) := by have := pres_below hb _ _ (hx1 3 (.int .u64 (loOf p.mask)) rfl); simpa using this
   have e4 : wr.cell? ⟨b,o + k * 5 + 4,none⟩ = some (.string p.next) := by have := pres_below hb _ _ (hx1 4 (.string p.next) rfl); simpa using this
   have f0 : wr.cell? ⟨b2,o2 + k * 5,none⟩ = some (.int .u64 (hiOf q.value)) := by have := pres_below hb _ _ (hy1 0 (.int .u64 (hiOf q.value)) rfl); simpa using this
   have f1 : wr.cell? ⟨b2,o2 + k * 5 + 1,none⟩ = some (.int .u64 (loOf q.value)) := by have := pres_below hb _ _ (hy1 1 (.int .u64 (loOf q.value)) rfl); simpa using this
   have f2 : wr.cell? ⟨b2,o2 + k * 5 + 2,none⟩ = some (.int .u64 (hiOf q.mask)) := by have := pres_below hb _ _ (hy1 2 (.int .u64 (hiOf q.mask)) rfl); simpa using this
   have f3 : wr.cell? ⟨b2,o2 + k * 5 + 3,none⟩ = some (.int .u64 (loOf q.mask)) := by have := pres_below hb _ _ (hy1 3 (.int .u64 (loOf q.mask)) rfl); simpa using this
   have f4 : wr.cell? ⟨b2,o2 + k * 5 + 4,none⟩ = some (.string q.next) := by have := pres_below hb _ _ (hy1 4 (.string q.next) rfl); simpa using this
   have HQ : ∀ u : World,(binOp .neq 165 (.agg (CasC p)) (.agg (CasC q))).run Tryz.prog u = .ok (.bool (!decide (p = q))) u := fun u => run_ne165 p q u
   simp only [CasC] at HQ
   have HD : Hid (R = (decide (p = q) && decide (xs.drop (k + 1) = ys.drop (k + 1)))) := by show _ = _; rw [hd.out,drop_step hp hq]
   have hi : (0 : Int) ≤ (k : Int) ∧ (k : Int) < (n : Int) := by omega
   have HWB : Hid (Below w.heap.size w wr) := hb
   clear hd hb hx1 hy1 hp hq HX
   generalize decide (p = q) = r at *
   go_wp2_with fail
   go_quiet (fail)
   cases r
   ·go_wp2
    go_ret
    exact ⟨by rw [HD.out]; rfl,below_drewN HWB.out _⟩
   ·go_wp2
    exact ⟨⟨k + 1,by omega,by go_num,by show _ = _; rw [HD.out,Bool.true_and],by obtain ⟨d,rfl⟩ := HWR.out; exact ⟨_,drewN_two _ _ _⟩⟩,by simp only [intOf]; omega⟩
  ·have e : k = n := by omega
   subst e
   have HF : Hid (R = true) := by
    show _ = _
    rw [hd.out,decide_eq_true_eq]
    have h1 := HL.out.1; have h2 := HL.out.2
    rw [List.drop_of_length_le (by omega),List.drop_of_length_le (by omega)]
   clear hd
   go_wp2
   go_ret
   exact ⟨by rw [HF.out]; rfl,hb⟩
end Go.Proofs.YtmbpclknhkbbkaaGreat
