/- The document's sameness of lists: EqFields, EqBits, EqTexts, EqInts. -/
import Derived.Test.YtmbpclknhkbbkaaGreatB29
set_option linter.unusedSimpArgs false
set_option linter.unusedVariables false
namespace Go.Proofs.YtmbpclknhkbbkaaGreat
open Go.RowKit
set_option linter.unusedVariables false
set_option linter.unusedSimpArgs false

set_option maxHeartbeats 2000000 in
set_option maxRecDepth 100000 in
theorem requalFld_any (v v' : Value) (xs ys : List Fld) (w : World) (hr : Row 2 (Flat FldC FldOk) w v xs) (hr' : Row 2 (Flat FldC FldOk) w v' ys) (hlen : xs.length ≤ 140737488351232) :
  Calls Tryz.prog 107 #[v,v'] w fun e w' => e = .returned (.bool (decide (xs = ys))) ∧ Below w.heap.size w w' := by
 obtain ⟨a1,c1,rfl,h1⟩ := hr.slice
 obtain ⟨a2,c2,rfl,h2⟩ := hr'.slice
 by_cases hne : ¬ xs.length = ys.length
 ·have e : decide (xs = ys) = false := by rw [decide_eq_false_iff_not]; intro h; exact hne (by rw [h])
  rw [e]
  have hne' : ¬ ((xs.length : Int) = (ys.length : Int)) := by omega
  clear hr hr' h1 h2 e
  go_enter Tryz.func107,Tryz.ntmps107
  go_wp2
  go_ret
  exact ⟨rfl,Below.refl _ _⟩
 have hne := Classical.not_not.1 hne
 have HR : Hid (Row 2 (Flat FldC FldOk) w (.slice a1 xs.length c1) xs) := hr
 have HS : Hid (Row 2 (Flat FldC FldOk) w (.slice a2 ys.length c2) ys) := hr'
 obtain ⟨n,hn⟩ : ∃ n,n = xs.length := ⟨_,rfl⟩
 have HL : Hid (n = xs.length ∧ n = ys.length) := ⟨hn,by omega⟩
 rw [← hne] at HS ⊢
 rw [← hn] at HR HS hlen ⊢
 clear hr hr' h1 h2 hn hne
 go_enter Tryz.func107,Tryz.ntmps107
 go_wp2_with fail
 go_loopw [5] (fun i wr => ∃ k : Nat,k ≤ n ∧ i = .int .i64 k ∧ decide (xs = ys) = decide (xs.drop k = ys.drop k) ∧ Below w.heap.size w wr) (fun i _ => n - (intOf i).toNat)
 case atStart => exact ⟨0,by omega,rfl,by simp,Below.refl _ _⟩
 case round =>
  obtain ⟨k,hk,rfl,hd,hb⟩ := hrel
  by_cases hlt : k < n
  ·obtain ⟨x,hx⟩ : ∃ x,xs[k]? = some x := ⟨xs[k]'(by rw [← HL.out.1]; exact hlt),List.getElem?_eq_getElem _⟩
   obtain ⟨y,hy⟩ : ∃ y,ys[k]? = some y := ⟨ys[k]'(by rw [← HL.out.2]; exact hlt),List.getElem?_eq_getElem _⟩
   obtain ⟨b,o,cs,rfl,_,hx1,rfl,_⟩ := HR.out.at hx
   obtain ⟨b2,o2,cs2,rfl,_,hy1,rfl,_⟩ := HS.out.at hy
   have p0 : wr.cell? ⟨b,o + k * 2,none⟩ = some (.string x.name) := by have := pres_below hb _ _ (hx1 0 (.string x.name) rfl); simpa using this
   have p1 : wr.cell? ⟨b,o + k * 2 + 1,none⟩ = some (.int .i64 x.width) := by have := pres_below hb _ _ (hx1 1 (.int .i64 x.width) rfl); simpa using this
   have q0 : wr.cell? ⟨b2,o2 + k * 2,none⟩ = some (.string y.name) := by have := pres_below hb _ _ (hy1 0 (.string y.name) rfl); simpa using this
   have q1 : wr.cell? ⟨b2,o2 + k * 2 + 1,none⟩ = some (.int .i64 y.width) := by have := pres_below hb _ _ (hy1 1 (.int .i64 y.width) rfl); simpa using this
   have HQ : ∀ u : World,(binOp .neq 82 (.agg (FldC x)) (.agg (FldC y))).run Tryz.prog u = .ok (.bool (!decide (x = y))) u := fun u => run_ne82 x y u
   simp only [FldC] at HQ
   have HD : Hid (decide (xs = ys) = (decide (x = y) && decide (xs.drop (k + 1) = ys.drop (k + 1)))) := by
    have e := drop_step hx hy
    show decide (xs = ys) = _
    rw [hd,e]
   have HB : Hid (Below w.heap.size w wr) := hb
   have hi : (0 : Int) ≤ (k : Int) ∧ (k : Int) < (n : Int) := by omega
   clear hd hb hx1 hy1 hx hy
   generalize decide (x = y) = r at *
   go_wp2_with fail
   go_quiet (fail)
   cases r
   ·go_wp2
    go_ret
    exact ⟨by rw [HD.out]; rfl,below_drewN HB.out _⟩
   ·go_wp2
    exact ⟨⟨k + 1,by omega,by go_num,by rw [HD.out,Bool.true_and],below_drewN HB.out _⟩,by simp only [intOf]; omega⟩
  ·have e : k = n := by omega
   subst e
   have HE : decide (xs = ys) = true := by
    rw [hd,decide_eq_true_eq]
    have h1 := HL.out.1; have h2 := HL.out.2
    rw [List.drop_of_length_le (by omega),List.drop_of_length_le (by omega)]
   clear hd
   have HE : Hid (decide (xs = ys) = true) := HE
   go_wp2
   go_ret
   exact ⟨by rw [HE.out]; rfl,hb⟩
set_option maxHeartbeats 2000000 in
set_option maxRecDepth 100000 in
theorem requalBit_any (v v' : Value) (xs ys : List Nat) (w : World) (hr : Row 2 (Flat BitC Is128) w v xs) (hr' : Row 2 (Flat BitC Is128) w v' ys) (hlen : xs.length ≤ 140737488351232) :
  Calls Tryz.prog 196 #[v,v'] w fun e w' => e = .returned (.bool (decide (xs = ys))) ∧ Below w.heap.size w w' := by
 obtain ⟨a1,c1,rfl,h1⟩ := hr.slice
 obtain ⟨a2,c2,rfl,h2⟩ := hr'.slice
 by_cases hne : ¬ xs.length = ys.length
 ·have e : decide (xs = ys) = false := by rw [decide_eq_false_iff_not]; intro h; exact hne (by rw [h])
  rw [e]
  have hne' : ¬ ((xs.length : Int) = (ys.length : Int)) := by omega
  clear hr hr' h1 h2 e
  go_enter Tryz.func196,Tryz.ntmps196
  go_wp2
  go_ret
  exact ⟨rfl,Below.refl _ _⟩
 have hne := Classical.not_not.1 hne
 have HR : Hid (Row 2 (Flat BitC Is128) w (.slice a1 xs.length c1) xs) := hr
 have HS : Hid (Row 2 (Flat BitC Is128) w (.slice a2 ys.length c2) ys) := hr'
 obtain ⟨n,hn⟩ : ∃ n,n = xs.length := ⟨_,rfl⟩
 have HL : Hid (n = xs.length ∧ n = ys.length) := ⟨hn,by omega⟩
 rw [← hne] at HS ⊢
 rw [← hn] at HR HS hlen ⊢
 clear hr hr' h1 h2 hn hne
 go_enter Tryz.func196,Tryz.ntmps196
 go_wp2_with fail
 go_loopw [5] (fun i wr => ∃ k : Nat,k ≤ n ∧ i = .int .i64 k ∧ decide (xs = ys) = decide (xs.drop k = ys.drop k) ∧ Below w.heap.size w wr) (fun i _ => n - (intOf i).toNat)
 case atStart => exact ⟨0,by omega,rfl,by simp,Below.refl _ _⟩
 case round =>
  obtain ⟨k,hk,rfl,hd,hb⟩ := hrel
  by_cases hlt : k < n
  ·obtain ⟨x,hx⟩ : ∃ x,xs[k]? = some x := ⟨xs[k]'(by rw [← HL.out.1]; exact hlt),List.getElem?_eq_getElem _⟩
   obtain ⟨y,hy⟩ : ∃ y,ys[k]? = some y := ⟨ys[k]'(by rw [← HL.out.2]; exact hlt),List.getElem?_eq_getElem _⟩
   obtain ⟨b,o,cs,rfl,_,hx1,rfl,_⟩ := HR.out.at hx
   obtain ⟨b2,o2,cs2,rfl,_,hy1,rfl,_⟩ := HS.out.at hy
   have p0 : wr.cell? ⟨b,o + k * 2,none⟩ = some (.int .u64 (hiOf x)) := by have := pres_below hb _ _ (hx1 0 (.int .u64 (hiOf x)) rfl); simpa using this
   have p1 : wr.cell? ⟨b,o + k * 2 + 1,none⟩ = some (.int .u64 (loOf x)) := by have := pres_below hb _ _ (hx1 1 (.int .u64 (loOf x)) rfl); simpa using this
   have q0 : wr.cell? ⟨b2,o2 + k * 2,none⟩ = some (.int .u64 (hiOf y)) := by have := pres_below hb _ _ (hy1 0 (.int .u64 (hiOf y)) rfl); simpa using this
   have q1 : wr.cell? ⟨b2,o2 + k * 2 + 1,none⟩ = some (.int .u64 (loOf y)) := by have := pres_below hb _ _ (hy1 1 (.int .u64 (loOf y)) rfl); simpa using this
   have HQ : ∀ u : World,(binOp .neq 121 (.agg (BitC x)) (.agg (BitC y))).run Tryz.prog u = .ok (.bool (!decide (x = y))) u := fun u => run_ne121 x y u
   simp only [BitC] at HQ
   have HD : Hid (decide (xs = ys) = (decide (x = y) && decide (xs.drop (k + 1) = ys.drop (k + 1)))) := by
    have e := drop_step hx hy
    show decide (xs = ys) = _
    rw [hd,e]
   have HB : Hid (Below w.heap.size w wr) := hb
   have hi : (0 : Int) ≤ (k : Int) ∧ (k : Int) < (n : Int) := by omega
   clear hd hb hx1 hy1 hx hy
   generalize decide (x = y) = r at *
   go_wp2_with fail
   go_quiet (fail)
   cases r
   ·go_wp2
    go_ret
    exact ⟨by rw [HD.out]; rfl,below_drewN HB.out _⟩
   ·go_wp2
    exact ⟨⟨k + 1,by omega,by go_num,by rw [HD.out,Bool.true_and],below_drewN HB.out _⟩,by simp only [intOf]; omega⟩
  ·have e : k = n := by omega
   subst e
   have HE : decide (xs = ys) = true := by
    rw [hd,decide_eq_true_eq]
    have h1 := HL.out.1; have h2 := HL.out.2
    rw [List.drop_of_length_le (by omega),List.drop_of_length_le (by omega)]
   clear hd
   have HE : Hid (decide (xs = ys) = true) := HE
   go_wp2
   go_ret
   exact ⟨by rw [HE.out]; rfl,hb⟩
set_option maxHeartbeats 2000000 in
set_option maxRecDepth 100000 in
theorem requalTxt_any (v v' : Value) (xs ys : List ByteArray) (w : World) (hr : Row 1 (Flat TxtC Okt) w v xs) (hr' : Row 1 (Flat TxtC Okt) w v' ys) (hlen : xs.length ≤ 140737488351232) :
  Calls Tryz.prog 22 #[v,v'] w fun e w' => e = .returned (.bool (decide (xs = ys))) ∧ Below w.heap.size w w' := by
 obtain ⟨a1,c1,rfl,h1⟩ := hr.slice
 obtain ⟨a2,c2,rfl,h2⟩ := hr'.slice
 by_cases hne : ¬ xs.length = ys.length
 ·have e : decide (xs = ys) = false := by rw [decide_eq_false_iff_not]; intro h; exact hne (by rw [h])
  rw [e]
  have hne' : ¬ ((xs.length : Int) = (ys.length : Int)) := by omega
  clear hr hr' h1 h2 e
  go_enter Tryz.func22,Tryz.ntmps22
  go_wp2
  go_ret
  exact ⟨rfl,Below.refl _ _⟩
 have hne := Classical.not_not.1 hne
 have HR : Hid (Row 1 (Flat TxtC Okt) w (.slice a1 xs.length c1) xs) := hr
 have HS : Hid (Row 1 (Flat TxtC Okt) w (.slice a2 ys.length c2) ys) := hr'
 obtain ⟨n,hn⟩ : ∃ n,n = xs.length := ⟨_,rfl⟩
 have HL : Hid (n = xs.length ∧ n = ys.length) := ⟨hn,by omega⟩
 rw [← hne] at HS ⊢
 rw [← hn] at HR HS hlen ⊢
 clear hr hr' h1 h2 hn hne
 go_enter Tryz.func22,Tryz.ntmps22
 go_wp2_with fail
 go_loopw [5] (fun i wr => ∃ k : Nat,k ≤ n ∧ i = .int .i64 k ∧ decide (xs = ys) = decide (xs.drop k = ys.drop k) ∧ Below w.heap.size w wr) (fun i _ => n - (intOf i).toNat)
 case atStart => exact ⟨0,by omega,rfl,by simp,Below.refl _ _⟩
 case round =>
  obtain ⟨k,hk,rfl,hd,hb⟩ := hrel
  by_cases hlt : k < n
  ·obtain ⟨x,hx⟩ : ∃ x,xs[k]? = some x := ⟨xs[k]'(by rw [← HL.out.1]; exact hlt),List.getElem?_eq_getElem _⟩
   obtain ⟨y,hy⟩ : ∃ y,ys[k]? = some y := ⟨ys[k]'(by rw [← HL.out.2]; exact hlt),List.getElem?_eq_getElem _⟩
   obtain ⟨b,o,cs,rfl,_,hx1,rfl,_⟩ := HR.out.at hx
   obtain ⟨b2,o2,cs2,rfl,_,hy1,rfl,_⟩ := HS.out.at hy
   have p0 : wr.cell? ⟨b,o + k,none⟩ = some (.string x) := by have := pres_below hb _ _ (hx1 0 (.string x) rfl); simpa using this
   have q0 : wr.cell? ⟨b2,o2 + k,none⟩ = some (.string y) := by have := pres_below hb _ _ (hy1 0 (.string y) rfl); simpa using this
   have HT : (x.toList == y.toList) = decide (x = y) := txt_eq x y
   have HD : Hid (decide (xs = ys) = (decide (x = y) && decide (xs.drop (k + 1) = ys.drop (k + 1)))) := by
    have e := drop_step hx hy
    show decide (xs = ys) = _
    rw [hd,e]
   have HB : Hid (Below w.heap.size w wr) := hb
   have hi : (0 : Int) ≤ (k : Int) ∧ (k : Int) < (n : Int) := by omega
   clear hd hb hx1 hy1 hx hy
   generalize decide (x = y) = r at *
   go_wp2_with fail
   go_quiet (fail)
   cases r
   ·go_wp2
    go_ret
    exact ⟨by rw [HD.out]; rfl,below_drewN HB.out _⟩
   ·go_wp2
    exact ⟨⟨k + 1,by omega,by go_num,by rw [HD.out,Bool.true_and],below_drewN HB.out _⟩,by simp only [intOf]; omega⟩
  ·have e : k = n := by omega
   subst e
   have HE : decide (xs = ys) = true := by
    rw [hd,decide_eq_true_eq]
    have h1 := HL.out.1; have h2 := HL.out.2
    rw [List.drop_of_length_le (by omega),List.drop_of_length_le (by omega)]
   clear hd
   have HE : Hid (decide (xs = ys) = true) := HE
   go_wp2
   go_ret
   exact ⟨by rw [HE.out]; rfl,hb⟩
abbrev IntC1 : Int → Array Value := fun x => #[Value.int .i64 x]
abbrev IntO1 : Int → Prop := fun _ => True
set_option maxHeartbeats 2000000 in
set_option maxRecDepth 100000 in
theorem requalInt_any (v v' : Value) (xs ys : List Int) (w : World) (hr : Row 1 (Flat IntC1 IntO1) w v xs) (hr' : Row 1 (Flat IntC1 IntO1) w v' ys) (hlen : xs.length ≤ 140737488351232) :
  Calls Tryz.prog 48 #[v,v'] w fun e w' => e = .returned (.bool (decide (xs = ys))) ∧ Below w.heap.size w w' := by
 obtain ⟨a1,c1,rfl,h1⟩ := hr.slice
 obtain ⟨a2,c2,rfl,h2⟩ := hr'.slice
 by_cases hne : ¬ xs.length = ys.length
 ·have e : decide (xs = ys) = false := by rw [decide_eq_false_iff_not]; intro h; exact hne (by rw [h])
  rw [e]
  have hne' : ¬ ((xs.length : Int) = (ys.length : Int)) := by omega
  clear hr hr' h1 h2 e
  go_enter Tryz.func48,Tryz.ntmps48
  go_wp2
  go_ret
  exact ⟨rfl,Below.refl _ _⟩
 have hne := Classical.not_not.1 hne
 have HR : Hid (Row 1 (Flat IntC1 IntO1) w (.slice a1 xs.length c1) xs) := hr
 have HS : Hid (Row 1 (Flat IntC1 IntO1) w (.slice a2 ys.length c2) ys) := hr'
 obtain ⟨n,hn⟩ : ∃ n,n = xs.length := ⟨_,rfl⟩
 have HL : Hid (n = xs.length ∧ n = ys.length) := ⟨hn,by omega⟩
 rw [← hne] at HS ⊢
 rw [← hn] at HR HS hlen ⊢
 clear hr hr' h1 h2 hn hne
 go_enter Tryz.func48,Tryz.ntmps48
 go_wp2_with fail
 go_loopw [5] (fun i wr => ∃ k : Nat,k ≤ n ∧ i = .int .i64 k ∧ decide (xs = ys) = decide (xs.drop k = ys.drop k) ∧ Below w.heap.size w wr) (fun i _ => n - (intOf i).toNat)
 case atStart => exact ⟨0,by omega,rfl,by simp,Below.refl _ _⟩
 case round =>
  obtain ⟨k,hk,rfl,hd,hb⟩ := hrel
  by_cases hlt : k < n
  ·obtain ⟨x,hx⟩ : ∃ x,xs[k]? = some x := ⟨xs[k]'(by rw [← HL.out.1]; exact hlt),List.getElem?_eq_getElem _⟩
   obtain ⟨y,hy⟩ : ∃ y,ys[k]? = some y := ⟨ys[k]'(by rw [← HL.out.2]; exact hlt),List.getElem?_eq_getElem _⟩
   obtain ⟨b,o,cs,rfl,_,hx1,rfl,_⟩ := HR.out.at hx
   obtain ⟨b2,o2,cs2,rfl,_,hy1,rfl,_⟩ := HS.out.at hy
   have p0 : wr.cell? ⟨b,o + k,none⟩ = some (.int .i64 x) := by have := pres_below hb _ _ (hx1 0 (.int .i64 x) rfl); simpa using this
   have q0 : wr.cell? ⟨b2,o2 + k,none⟩ = some (.int .i64 y) := by have := pres_below hb _ _ (hy1 0 (.int .i64 y) rfl); simpa using this
   have HT : (x == y) = decide (x = y) := by rw [Bool.eq_iff_iff]; simp
   have HT2 : (x != y) = !decide (x = y) := by rw [← HT]; rfl
   have HD : Hid (decide (xs = ys) = (decide (x = y) && decide (xs.drop (k + 1) = ys.drop (k + 1)))) := by
    have e := drop_step hx hy
    show decide (xs = ys) = _
    rw [hd,e]
   have HB : Hid (Below w.heap.size w wr) := hb
   have hi : (0 : Int) ≤ (k : Int) ∧ (k : Int) < (n : Int) := by omega
   clear hd hb hx1 hy1 hx hy
   generalize decide (x = y) = r at *
   go_wp2_with fail
   go_quiet (fail)
   cases r
   ·go_wp2
    go_ret
    exact ⟨by rw [HD.out]; rfl,below_drewN HB.out _⟩
   ·go_wp2
    exact ⟨⟨k + 1,by omega,by go_num,by rw [HD.out,Bool.true_and],below_drewN HB.out _⟩,by simp only [intOf]; omega⟩
  ·have e : k = n := by omega
   subst e
   have HE : decide (xs = ys) = true := by
    rw [hd,decide_eq_true_eq]
    have h1 := HL.out.1; have h2 := HL.out.2
    rw [List.drop_of_length_le (by omega),List.drop_of_length_le (by omega)]
   clear hd
   have HE : Hid (decide (xs = ys) = true) := HE
   go_wp2
   go_ret
   exact ⟨by rw [HE.out]; rfl,hb⟩
end Go.Proofs.YtmbpclknhkbbkaaGreat
