/- Package schema: slices.Index, slices.Contains of texts; fits. Package schema's checker: need, has, needNew, checkFields, bitsOf. Package schema's checker: checkFields, bitsOf. Package schema's checker: bitsOf. Package schema: do arguments fit parameters. -/
import Derived.Test.YtmbpclknhkbbkaaGreatK32
import Derived.Test.YtmbpclknhkbbkaaGreatK37
import Derived.Test.YtmbpclknhkbbkaaGreatK01
import Derived.Test.YtmbpclknhkbbkaaGreatK16
import Derived.Defers
import Derived.Recover
import Derived.Deep.CutRange
import Derived.Test.YtmbpclknhkbbkaaGreatK30
import Derived.Test.YtmbpclknhkbbkaaGreatK43
set_option linter.unusedSimpArgs false
set_option linter.unusedVariables false
namespace Go.Proofs.YtmbpclknhkbbkaaGreat
open Go.RowKit
set_option linter.unusedVariables false
set_option linter.unusedSimpArgs false

set_option maxHeartbeats 1000000 in
theorem indexTxt_any (v : Value) (xs : List ByteArray) (w : World) (hr : Row 1 (Flat TxtC Okt) w v xs) (hlen : xs.length ≤ 140737488351232) (s : ByteArray) :
  Calls Tryz.prog 221 #[v,.string s] w fun e w' => e = .returned (.int .i64 (idxF (fun x : ByteArray => decide (s = x)) xs 0)) ∧ Below w.heap.size w w' := by
 obtain ⟨ad,cap,rfl,_⟩ := hr.slice
 have HR : Hid (Row 1 (Flat TxtC Okt) w (.slice ad xs.length cap) xs) := hr
 obtain ⟨R,hR⟩ : ∃ R,R = idxF (fun x : ByteArray => decide (s = x)) xs 0 := ⟨_,rfl⟩
 have H0 : Hid (idxF (fun x : ByteArray => decide (s = x)) (xs.drop 0) 0 = R) := by rw [hR]; rfl
 rw [← hR]
 clear hr hR
 obtain ⟨n,hn⟩ : ∃ n,n = xs.length := ⟨_,rfl⟩
 have HL : Hid (n = xs.length) := hn
 rw [← hn] at hlen HR ⊢
 clear hn
 go_enter Tryz.func221,Tryz.ntmps221
 go_wp2_with fail
 go_loopw [8] (fun i wr => ∃ k : Nat,k ≤ n ∧ i = .int .i64 k ∧ Below w.heap.size w wr ∧ idxF (fun x : ByteArray => decide (s = x)) (xs.drop k) k = R) (fun i _ => n - (intOf i).toNat)
 case atStart => exact ⟨0,by omega,rfl,Below.refl _ _,H0.out⟩
 case round =>
  obtain ⟨k,hk,rfl,hb,hd⟩ := hrel
  by_cases hlt : k < n
  ·obtain ⟨x,hx⟩ : ∃ x,xs[k]? = some x := ⟨xs[k]'(by rw [← HL.out]; exact hlt),List.getElem?_eq_getElem _⟩
   obtain ⟨b,o,cs,rfl,_,hc,rfl,_⟩ := HR.out.at hx
   have q0 : wr.cell? ⟨b,o + k,none⟩ = some (.string x) := by have := pres_below hb _ _ (hc 0 (.string x) rfl); simpa using this
   have HB : Hid (Below w.heap.size w wr) := hb
   by_cases hs : s = x
   ·subst hs
    have HD : Hid (R = (k : Int)) := by
     rw [idx_yes hx (by simp)] at hd
     exact hd.symm
    clear hd hc hx hb
    go_wp2
    go_ret
    exact ⟨by rw [HD.out]; rfl,HB.out⟩
   ·have ht : (s.toList == x.toList) = false := by rw [txt_eq]; exact decide_eq_false hs
    have HD : Hid (idxF (fun x : ByteArray => decide (s = x)) (xs.drop (k + 1)) (k + 1) = R) := by
     rw [idx_no hx (by simpa using hs)] at hd
     exact hd
    clear hd hc hx hb
    go_wp2
    exact ⟨⟨k + 1,by omega,by go_num,HB.out,HD.out⟩,by simp only [intOf]; omega⟩
  ·have e : k = n := by omega
   have HD : Hid (R = -1) := by
    rw [e,HL.out,idx_end] at hd
    exact hd.symm
   clear hd
   subst e
   go_wp2
   go_ret
   exact ⟨by rw [HD.out]; rfl,hb⟩
/-- Is the text among them? -/
def hasT (xs : List ByteArray) (s : ByteArray) : Bool := xs.any fun x => decide (s = x)
theorem containsTxt_any (v : Value) (xs : List ByteArray) (w : World) (hr : Row 1 (Flat TxtC Okt) w v xs) (hlen : xs.length ≤ 140737488351232) (s : ByteArray) :
  Calls Tryz.prog 166 #[v,.string s] w fun e w' => e = .returned (.bool (hasT xs s)) ∧ Below w.heap.size w w' := by
 rcases idx_cases (fun x : ByteArray => decide (s = x)) xs 0 with ⟨h,hno⟩ | ⟨i,x,h1,h2,h3,h4,_⟩
 ·have C := indexTxt_any v xs w hr hlen s
  rw [h] at C
  have HE : Hid (hasT xs s = false) := by
   show hasT xs s = false
   rw [hasT,List.any_eq_false]
   intro x hx
   have := hno x hx
   simpa using this
  have C : Hid (Calls Tryz.prog 221 #[v,.string s] w fun e w' => e = .returned (.int .i64 (-1)) ∧ Below w.heap.size w w') := C
  clear hr h hno
  go_enter Tryz.func166,Tryz.ntmps166
  go_wp2_with fail
  refine C.out.mono ?_
  rintro e w1 ⟨rfl,hb⟩
  go_wp2
  go_ret
  exact ⟨by rw [HE.out]; rfl,hb⟩
 ·have C := indexTxt_any v xs w hr hlen s
  rw [h4,Nat.zero_add] at C
  have HE : Hid (hasT xs s = true) := by
   show hasT xs s = true
   rw [hasT,List.any_eq_true]
   exact ⟨x,List.mem_of_getElem? h2,h3⟩
  have C : Hid (Calls Tryz.prog 221 #[v,.string s] w fun e w' => e = .returned (.int .i64 (i : Int)) ∧ Below w.heap.size w w') := C
  have hge : (0 : Int) ≤ (i : Int) := by omega
  clear hr h1 h2 h3 h4
  go_enter Tryz.func166,Tryz.ntmps166
  go_wp2_with fail
  refine C.out.mono ?_
  rintro e w1 ⟨rfl,hb⟩
  go_wp2
  go_ret
  exact ⟨by rw [HE.out]; rfl,hb⟩
theorem fits168_any (n : Nat) (hn : Is128 n) (f : Fld) (w : World) : Calls Tryz.prog 168 #[.agg (BitC n),.agg (FldC f)] w fun e w' => e = .returned (.bool (fitsN n f.width)) ∧ Below w.heap.size w w' := by
 have CF : Hid (∀ w,Calls Tryz.prog 199 #[.agg #[.int .u64 (hiOf n),.int .u64 (loOf n)],.int .i64 f.width] w fun e w' => e = .returned (.bool (fitsN n f.width)) ∧ Below w.heap.size w w') := fun w => fits_any n hn f.width w
 have HB0 : Hid (Below w.heap.size w ((w.alloc (.cells #[.int .u64 (hiOf n),.int .u64 (loOf n)] 121)).alloc (.cells #[.string f.name,.int .i64 f.width] 82))) := ((Below.refl _ _).alloc (Nat.le_refl _) _).alloc (by simp) _
 unfold BitC FldC
 go_enter Tryz.func168,Tryz.ntmps168
 go_wp2_with fail
 refine (CF.out _).mono ?_
 rintro e w1 ⟨rfl,hb⟩
 have HB1 : Hid (Below w.heap.size w w1) := bst HB0.out hb (Nat.le_refl _)
 clear hb
 go_wp2
 go_ret
 exact ⟨rfl,HB1.out⟩

/-- What a check gives up with. -/
def pf (r : Int) (th : ByteArray) : PanicEntry := { v := .iface 104 (.agg #[.int .i64 r,.string th]),recovered := false }
/-- How a check ends: it returns, or gives up with an error. -/
def Res (r : Int) (th : ByteArray) (e : Ending) : Prop := (r = 0 ∧ e = .returned (.tuple #[])) ∨ (r ≠ 0 ∧ e = .panicked [pf r th])
theorem need_any (cb : Nat) (b : Bool) (r : Int) (th : ByteArray) (w : World) (hc : w.cell? ⟨cb,6,none⟩ = some (.string th)) : Calls Tryz.prog 145 #[.pointer (some ⟨cb,0,none⟩),.bool b,.int .i64 r] w fun e w' => w' = w ∧ ((b = true ∧ e = .returned (.tuple #[])) ∨ (b = false ∧ e = .panicked [pf r th])) := by
 cases b
 ·go_enter Tryz.func145,Tryz.ntmps145
  go_wp2
  exact ⟨rfl,rfl,.inr ⟨by trivial,rfl⟩⟩
 ·go_enter Tryz.func145,Tryz.ntmps145
  go_wp2
  first | go_end0 | refine bodyPost_ret (results_none rfl _ _ _) rfl ?_
  all_goals exact ⟨rfl,.inl ⟨by trivial,rfl⟩⟩
/-- A map whose keys are just these texts. -/
def SetT (w : World) (b : Nat) (xs : List ByteArray) : Prop := ∃ n g,MapT w b n g ∧ ∀ s,(g s).isSome = hasT xs s
theorem SetT.new (w : World) : SetT (w.alloc (.map #[] 0)) w.heap.size [] := ⟨0,_,MapT.new w,fun _ => rfl⟩
theorem SetT.lt {w : World} {b : Nat} {xs : List ByteArray} (h : SetT w b xs) : b < w.heap.size := by obtain ⟨n,g,h,_⟩ := h; exact h.lt
theorem SetT.kept {S : Nat → Prop} {w w' : World} {b : Nat} {xs : List ByteArray} (h : SetT w b xs) (hk : Kept S w w') (hb : ¬ S b) : SetT w' b xs := by obtain ⟨n,g,h,e⟩ := h; exact ⟨n,g,h.kept hk hb,e⟩
theorem SetT.below {w w' : World} {b : Nat} {xs : List ByteArray} (h : SetT w b xs) (hk : Below w.heap.size w w') : SetT w' b xs := by obtain ⟨n,g,h,e⟩ := h; exact ⟨n,g,h.below hk,e⟩
theorem hasMap_any {w : World} {b n : Nat} {g : ByteArray → Option Int} (h : MapT w b n g) (s : ByteArray) (hs : Okt s) : Calls Tryz.prog 198 #[.map (some b),.string s] w fun e w' => e = .returned (.bool (g s).isSome) ∧ w' = w := by
 have L := h.look hs
 clear h
 generalize (g s).getD 0 = c at *
 generalize (g s).isSome = k at *
 go_enter Tryz.func198,Tryz.ntmps198
 go_wp2
 go_ret
 exact ⟨rfl,rfl⟩
theorem has_any {w : World} {b : Nat} {xs : List ByteArray} (h : SetT w b xs) (s : ByteArray) (hs : Okt s) : Calls Tryz.prog 198 #[.map (some b),.string s] w fun e w' => e = .returned (.bool (hasT xs s)) ∧ w' = w := by
 obtain ⟨n,g,h,e⟩ := h
 rw [← e s]
 exact hasMap_any h s hs
/-- What is wrong with a name, those ahead of it at hand. -/
def newE (name : ByteArray) (seen : List ByteArray) : Int := if nameB name.data.toList = false then 70 else if hasT seen name = true then 71 else 0
theorem hasT_cons (x : ByteArray) (xs : List ByteArray) (s : ByteArray) : hasT (x :: xs) s = (decide (s = x) || hasT xs s) := rfl
set_option maxHeartbeats 1000000 in
theorem needNew_any {w : World} {ab cb : Nat} {seen : List ByteArray} (h : SetT w ab seen) (name : ByteArray) (hn : Okt name) (th : ByteArray) (hc : w.cell? ⟨cb,6,none⟩ = some (.string th)) :
  Calls Tryz.prog 146 #[.pointer (some ⟨cb,0,none⟩),.string name,.map (some ab)] w fun e w' => Kept (fun k => k = ab) w w' ∧ Res (newE name seen) th e ∧ (newE name seen = 0 → SetT w' ab (name :: seen)) := by
 have hn' : name.size ≤ maxLen := by unfold Okt at hn; unfold maxLen; omega
 have CI : Hid (Calls Tryz.prog 17 #[.string name] w fun e w' => e = .returned (.bool (nameB name.data.toList)) ∧ Below w.heap.size w w') := isName_any name hn' w
 have CH : Hid (∀ w1,Below w.heap.size w w1 → Calls Tryz.prog 198 #[.map (some ab),.string name] w1 fun e w' => e = .returned (.bool (hasT seen name)) ∧ w' = w1) := fun w1 hb => has_any (h.below hb) name hn
 have CN : Hid (∀ w1,Below w.heap.size w w1 → ∀ b r,Calls Tryz.prog 145 #[.pointer (some ⟨cb,0,none⟩),.bool b,.int .i64 r] w1 fun e w' => w' = w1 ∧ ((b = true ∧ e = .returned (.tuple #[])) ∨ (b = false ∧ e = .panicked [pf r th]))) := fun w1 hb b r => need_any cb b r th w1 (pres_below hb _ _ hc)
 have HS : Hid (∀ w1,Below w.heap.size w w1 → SetT w1 ab seen) := fun w1 hb => h.below hb
 have HE : Hid (newE name seen = if nameB name.data.toList = false then 70 else if hasT seen name = true then 71 else 0) := by show _ = _; rfl
 generalize newE name seen = R at *
 generalize nameB name.data.toList = q1 at *
 have HQ : Hid (hasT seen name = hasT seen name) := rfl
 clear h hc hn'
 go_enter Tryz.func146,Tryz.ntmps146
 go_wp2_with fail
 refine CI.out.mono ?_
 rintro e w1 ⟨rfl,hw1⟩
 have HW : Hid (Below w.heap.size w w1) := hw1
 clear hw1
 go_wp2_with fail
 refine (CN.out w1 HW.out _ _).mono ?_
 rintro e w2 ⟨hw2,hh⟩
 obtain rfl := Eq.symm hw2
 rcases hh with ⟨hb,rfl⟩ | ⟨hb,rfl⟩
 case inr =>
  have HR : Hid (R = 70) := by show _ = _; rw [HE.out,if_pos hb]
  go_wp2
  refine ⟨rfl,Kept.of_below HW.out,?_,?_⟩
  ·rw [HR.out]; exact .inr ⟨by decide,rfl⟩
  ·rw [HR.out]; intro h; cases h
 case inl =>
  subst hb
  go_wp2_with fail
  refine (CH.out w1 HW.out).mono ?_
  rintro e w2 ⟨rfl,hw2⟩
  obtain rfl := Eq.symm hw2
  go_wp2_with fail
  refine (CN.out w1 HW.out _ _).mono ?_
  rintro e w2 ⟨hw2,hh⟩
  obtain rfl := Eq.symm hw2
  rcases hh with ⟨hb,rfl⟩ | ⟨hb,rfl⟩
  case inr =>
   have hb' : hasT seen name = true := by simpa using hb
   have HR : Hid (R = 71) := by show _ = _; rw [HE.out,if_neg (by decide),if_pos hb']
   clear hb'
   go_wp2
   refine ⟨rfl,Kept.of_below HW.out,?_,?_⟩
   ·rw [HR.out]; exact .inr ⟨by decide,rfl⟩
   ·rw [HR.out]; intro h; cases h
  case inl =>
   have hb' : hasT seen name = false := by simpa using hb
   have HR : Hid (R = 0) := by show _ = _; rw [HE.out,if_neg (by decide),if_neg (by simp [hb'])]
   obtain ⟨n,g,hm,hg⟩ := HS.out w1 HW.out
   have L := hm.len 3
   obtain ⟨w3,hput,hm3,hgr⟩ := hm.put (s := name) (c := (n : Int)) hn
   have HF : Hid (SetT w3 ab (name :: seen) ∧ Kept (fun k => k = ab) w w3) := by
    refine ⟨⟨_,_,hm3,fun s => ?_⟩,(Kept.of_below HW.out).trans ⟨hgr.os,hgr.tape,hgr.output,hgr.size,fun k hk hs => hgr.block k hk (fun e => hs (Option.some.inj e))⟩⟩
    rw [hasT_cons]
    by_cases e : s = name
    ·simp [e]
    ·simp [e,hg s]
   clear hm3 hgr hb' hb hm hg
   go_wp2
   first | go_end0 | refine bodyPost_ret (results_none rfl _ _ _) rfl ?_
   refine ⟨HF.out.2,?_,fun _ => HF.out.1⟩
   rw [HR.out]; exact .inl ⟨rfl,rfl⟩

/-- What is wrong with fields, the names ahead of them at hand. -/
def fldsE : List Fld → List ByteArray → Int
 | [],_ => 0
 | f :: fs,seen => if newE f.name seen ≠ 0 then newE f.name seen else if 0 < posW f.width then fldsE fs (f.name :: seen) else 73
theorem flds_step {fs : List Fld} {i : Nat} {f : Fld} (hk : fs[i]? = some f) (seen : List ByteArray) : fldsE (fs.drop i) seen = if newE f.name seen ≠ 0 then newE f.name seen else if 0 < posW f.width then fldsE (fs.drop (i + 1)) (f.name :: seen) else 73 := by
 obtain ⟨h,e⟩ := List.getElem?_eq_some_iff.1 hk
 rw [List.drop_eq_getElem_cons h,e,fldsE]
theorem keptBelow {w wr w1 : World} {ab : Nat} (h : Below w.heap.size w wr) (hk : Kept (fun k => k = ab) wr w1) (ha : w.heap.size ≤ ab) : Below w.heap.size w w1 := h.trans (hk.below h.size (fun k e => by omega))
set_option maxHeartbeats 1000000 in
theorem checkFields_any (cb : Nat) (v : Value) (fs : List Fld) (w : World) (hr : FldRow w v fs) (th : ByteArray) (hc : w.cell? ⟨cb,6,none⟩ = some (.string th)) :
  Calls Tryz.prog 147 #[.pointer (some ⟨cb,0,none⟩),v] w fun e w' => Below w.heap.size w w' ∧ Res (fldsE fs []) th e := by
 obtain ⟨ad,cap,rfl,_⟩ := hr.1.slice
 have hlen : fs.length * 24 ≤ 140737488351232 := hr.2
 have HR : Hid (FldRow w (.slice ad fs.length cap) fs) := hr
 have HC : Hid (w.cell? ⟨cb,6,none⟩ = some (.string th)) := hc
 obtain ⟨R,hR⟩ : ∃ R,R = fldsE fs [] := ⟨_,rfl⟩
 have H0 : Hid (fldsE (fs.drop 0) [] = R) := by rw [hR]; rfl
 rw [← hR]
 clear hr hR hc
 obtain ⟨n,hn⟩ : ∃ n,n = fs.length := ⟨_,rfl⟩
 have HL : Hid (n = fs.length) := hn
 rw [← hn] at hlen HR ⊢
 clear hn
 have HN : Hid (SetT (w.alloc (.map #[] 0)) w.heap.size [] ∧ Below w.heap.size w (w.alloc (.map #[] 0))) := ⟨SetT.new w,(Below.refl _ _).alloc (Nat.le_refl _) _⟩
 have hmm := @run_makeMap Tryz.prog
 go_enter Tryz.func147,Tryz.ntmps147
 go_wp2_with fail
 go_loopw [10] (fun i wr => ∃ (k : Nat) (seen : List ByteArray),k ≤ n ∧ seen.length = k ∧ i = .int .i64 k ∧ Below w.heap.size w wr ∧ SetT wr w.heap.size seen ∧ fldsE (fs.drop k) seen = R) (fun i _ => n - (intOf i).toNat)
 case atStart => exact ⟨0,[],by omega,rfl,rfl,HN.out.2,HN.out.1,H0.out⟩
 case round =>
  obtain ⟨k,seen,hk,hsl,rfl,hb,hset,hd⟩ := hrel
  by_cases hlt : k < n
  ·obtain ⟨y,hy⟩ : ∃ y,fs[k]? = some y := ⟨fs[k]'(by rw [← HL.out]; exact hlt),List.getElem?_eq_getElem _⟩
   obtain ⟨b,o,cs,rfl,_,hcc,rfl,hok⟩ := HR.out.1.at hy
   have q0 : wr.cell? ⟨b,o + k * 2,none⟩ = some (.string y.name) := by have := pres_below hb _ _ (hcc 0 (.string y.name) rfl); simpa using this
   have q1 : wr.cell? ⟨b,o + k * 2 + 1,none⟩ = some (.int .i64 y.width) := by have := pres_below hb _ _ (hcc 1 (.int .i64 y.width) rfl); simpa using this
   have HD : Hid (fldsE (fs.drop k) seen = R) := hd
   have HB : Hid (Below w.heap.size w wr) := hb
   have HS : Hid (SetT wr w.heap.size seen) := hset
   have hsz := hb.size
   have hslt := hset.lt
   clear hb hcc hset hd
   go_upto_region 4 with fail
   have p0 := (Blk.new wr (FldC y) 82).cell 0 (v := .string y.name) rfl
   have p1 := (Blk.new wr (FldC y) 82).cell 1 (v := .int .i64 y.width) rfl
   have HA : Hid (Below wr.heap.size wr (wr.alloc (.cells (FldC y) 82))) := (Below.refl _ _).alloc (Nat.le_refl _) _
   have hsz1 : wr.heap.size < (wr.alloc (.cells (FldC y) 82)).heap.size := by simp
   unfold FldC at p0 p1 HA hsz1
   generalize (wr.alloc _) = W at p0 p1 HA hsz1 ⊢
   have HBW : Hid (Below w.heap.size w W) := bst HB.out HA.out (Nat.le_refl _)
   have CN : Hid (Calls Tryz.prog 146 #[.pointer (some ⟨cb,0,none⟩),.string y.name,.map (some w.heap.size)] W fun e w' => Kept (fun k => k = w.heap.size) W w' ∧ Res (newE y.name seen) th e ∧ (newE y.name seen = 0 → SetT w' w.heap.size (y.name :: seen))) := needNew_any (HS.out.below HA.out) y.name hok.1 th (pres_below HBW.out _ _ HC.out)
   go_wp2_with fail
   refine CN.out.mono ?_
   rintro e w1 ⟨hk1,hres,hset1⟩
   rcases hres with ⟨hE,rfl⟩ | ⟨hE,rfl⟩
   case inr =>
    have HB1 : Hid (Below w.heap.size w w1) := keptBelow HBW.out hk1 (Nat.le_refl _)
    have HRR : Hid (R = newE y.name seen) := by show _ = _; rw [← HD.out,flds_step hy,if_pos hE]
    have HEE : Hid (newE y.name seen ≠ 0) := hE
    clear hk1 hset1 hE
    go_wp2
    refine ⟨rfl,HB1.out,?_⟩
    rw [HRR.out]; exact .inr ⟨HEE.out,rfl⟩
   case inl =>
    have HS1 : Hid (SetT w1 w.heap.size (y.name :: seen)) := hset1 hE
    have HB1 : Hid (Below w.heap.size w w1) := keptBelow HBW.out hk1 (Nat.le_refl _)
    have r1 := hk1.cell p1 (by show ¬ wr.heap.size = w.heap.size; omega)
    have hd2 : fldsE (fs.drop k) seen = if 0 < posW y.width then fldsE (fs.drop (k + 1)) (y.name :: seen) else 73 := by rw [flds_step hy,if_neg (by simpa using hE)]
    have HD2 : Hid (R = if 0 < posW y.width then fldsE (fs.drop (k + 1)) (y.name :: seen) else 73) := by show _ = _; rw [← HD.out,hd2]
    have CP : Hid (Calls Tryz.prog 143 #[.int .i64 y.width] w1 fun e w' => e = .returned (.int .i64 (posW y.width)) ∧ w' = w1) := possible_any y.width w1
    have CN2 : Hid (∀ b r,Calls Tryz.prog 145 #[.pointer (some ⟨cb,0,none⟩),.bool b,.int .i64 r] w1 fun e w' => w' = w1 ∧ ((b = true ∧ e = .returned (.tuple #[])) ∨ (b = false ∧ e = .panicked [pf r th]))) := fun b r => need_any cb b r th w1 (pres_below HB1.out _ _ HC.out)
    clear hk1 hset1 hE hd2 p0 p1
    generalize posW y.width = pw at *
    go_wp2_with fail
    refine CP.out.mono ?_
    rintro e w2 ⟨rfl,hw2⟩
    obtain rfl := Eq.symm hw2
    go_wp2_with fail
    refine (CN2.out _ _).mono ?_
    rintro e w2 ⟨hw2,hh⟩
    obtain rfl := Eq.symm hw2
    rcases hh with ⟨hq,rfl⟩ | ⟨hq,rfl⟩
    case inr =>
     have HRR : Hid (R = 73) := by show _ = _; rw [HD2.out,if_neg (by simpa using hq)]
     go_wp2
     refine ⟨rfl,HB1.out,?_⟩
     rw [HRR.out]; exact .inr ⟨by decide,rfl⟩
    case inl =>
     have HRR : Hid (R = fldsE (fs.drop (k + 1)) (y.name :: seen)) := by show _ = _; rw [HD2.out,if_pos (by simpa using hq)]
     clear hq
     go_wp2
     exact ⟨⟨k + 1,y.name :: seen,by omega,by simp [hsl],by go_num,HB1.out,HS1.out,HRR.out.symm⟩,by simp only [intOf]; omega⟩
  ·have e : k = n := by omega
   subst e
   have HD : Hid (R = 0) := by
    have h1 := HL.out
    rw [List.drop_of_length_le (by omega),fldsE] at hd
    exact hd.symm
   have HB : Hid (Below w.heap.size w wr) := hb
   clear hd hb hset
   go_wp2
   first | go_end0 | refine bodyPost_ret (results_none rfl _ _ _) rfl ?_
   refine ⟨HB.out,?_⟩
   rw [HD.out]; exact .inl ⟨rfl,rfl⟩

/-- The sum of widths, as it is counted. -/
def bitsW : List Fld → Int → Int
 | [],a => a
 | f :: fs,a => bitsW fs (wrap64 (a + f.width))
theorem bits_step {fs : List Fld} {i : Nat} {f : Fld} (hk : fs[i]? = some f) (a : Int) : bitsW (fs.drop i) a = bitsW (fs.drop (i + 1)) (wrap64 (a + f.width)) := by
 obtain ⟨h,e⟩ := List.getElem?_eq_some_iff.1 hk
 rw [List.drop_eq_getElem_cons h,e,bitsW]
set_option maxHeartbeats 1000000 in
theorem bitsOf_any (x : Hdr) (cs : Array Value) (w : World) (hI : HdrIs w cs x) : Calls Tryz.prog 148 #[.agg cs] w fun e w' => e = .returned (.int .i64 (bitsW x.fields 0)) ∧ Below w.heap.size w w' := by
 obtain ⟨v,rfl,hok,hr⟩ := hI
 obtain ⟨ad,cap,rfl,_⟩ := hr.1.slice
 obtain ⟨nm,fs⟩ := x
 simp only at hr hok ⊢
 have hlen : fs.length * 24 ≤ 140737488351232 := hr.2
 have HR : Hid (FldRow w (.slice ad fs.length cap) fs) := hr
 obtain ⟨R,hR⟩ : ∃ R,R = bitsW fs 0 := ⟨_,rfl⟩
 have H0 : Hid (bitsW (fs.drop 0) 0 = R) := by rw [hR]; rfl
 rw [← hR]
 clear hr hR
 obtain ⟨n,hn⟩ : ∃ n,n = fs.length := ⟨_,rfl⟩
 have HL : Hid (n = fs.length) := hn
 rw [← hn] at hlen HR ⊢
 clear hn
 go_enter Tryz.func148,Tryz.ntmps148
 go_upto_region 2 with fail
 have p1 := (Blk.new w #[.string nm,.slice ad n cap] 60).cell 1 (v := .slice ad n cap) rfl
 have HB0 : Hid (Below w.heap.size w (w.alloc (.cells #[.string nm,.slice ad n cap] 60))) := (Below.refl _ _).alloc (Nat.le_refl _) _
 generalize (w.alloc _) = W0 at HB0 p1 ⊢
 go_wp2_with fail
 go_loopw [3,9] (fun t i wr => ∃ (k : Nat) (tt : Int),k ≤ n ∧ t = .int .i64 tt ∧ i = .int .i64 k ∧ Below w.heap.size w wr ∧ bitsW (fs.drop k) tt = R) (fun _ i _ => n - (intOf i).toNat)
 case atStart => exact ⟨0,0,by omega,rfl,rfl,HB0.out,H0.out⟩
 case round =>
  obtain ⟨k,tt,hk,rfl,rfl,hb,hd⟩ := hrel
  by_cases hlt : k < n
  ·obtain ⟨y,hy⟩ : ∃ y,fs[k]? = some y := ⟨fs[k]'(by rw [← HL.out]; exact hlt),List.getElem?_eq_getElem _⟩
   obtain ⟨b,o,cs,rfl,_,hcc,rfl,hok⟩ := HR.out.1.at hy
   have q0 : wr.cell? ⟨b,o + k * 2,none⟩ = some (.string y.name) := by have := pres_below hb _ _ (hcc 0 (.string y.name) rfl); simpa using this
   have q1 : wr.cell? ⟨b,o + k * 2 + 1,none⟩ = some (.int .i64 y.width) := by have := pres_below hb _ _ (hcc 1 (.int .i64 y.width) rfl); simpa using this
   rw [bits_step hy] at hd
   have HD : Hid (bitsW (fs.drop (k + 1)) (wrap64 (tt + y.width)) = R) := hd
   have HB : Hid (Below w.heap.size w (wr.alloc (.cells #[.string y.name,.int .i64 y.width] 82))) := hb.alloc hb.size _
   have hsz := hb.size
   clear hb hcc hd p1 HB0 H0
   go_wp2
   exact ⟨⟨k + 1,_,by omega,rfl,by go_num,HB.out,HD.out⟩,by simp only [intOf]; omega⟩
  ·have e : k = n := by omega
   subst e
   have HD : Hid (R = tt) := by
    have h1 := HL.out
    rw [List.drop_of_length_le (by omega),bitsW] at hd
    exact hd.symm
   clear hd
   go_wp2
   go_ret
   exact ⟨by rw [HD.out]; rfl,hb⟩

def fitAll : List Nat → List Fld → Bool
 | [],[] => true
 | x :: xs,y :: ys => fitsN x y.width && fitAll xs ys
 | _,_ => false
theorem fitAll_len : ∀ (xs : List Nat) (ys : List Fld),¬ xs.length = ys.length → fitAll xs ys = false
 | [],[],h => absurd rfl h
 | [],y :: ys,_ => rfl
 | x :: xs,[],_ => rfl
 | x :: xs,y :: ys,h => by rw [fitAll,fitAll_len xs ys (by simpa using h),Bool.and_false]
theorem fitAll_step {xs : List Nat} {ys : List Fld} {k : Nat} {x : Nat} {y : Fld} (hx : xs[k]? = some x) (hy : ys[k]? = some y) : fitAll (xs.drop k) (ys.drop k) = (fitsN x y.width && fitAll (xs.drop (k + 1)) (ys.drop (k + 1))) := by
 obtain ⟨h1,e1⟩ := List.getElem?_eq_some_iff.1 hx
 obtain ⟨h2,e2⟩ := List.getElem?_eq_some_iff.1 hy
 rw [List.drop_eq_getElem_cons h1,List.drop_eq_getElem_cons h2,e1,e2,fitAll]
theorem fsz121b : (Tryz.prog.info? 121).map (·.size) = some 2 := by kernel_rfl
theorem fsz82b : (Tryz.prog.info? 82).map (·.size) = some 2 := by kernel_rfl
set_option maxHeartbeats 2000000 in
set_option maxRecDepth 100000 in
theorem fitAll_any (v v' : Value) (xs : List Nat) (ys : List Fld) (w : World) (hr : Row 2 (Flat BitC Is128) w v xs) (hr' : Row 2 (Flat FldC FldOk) w v' ys) (hlen : xs.length ≤ 140737488351232) :
  Calls Tryz.prog 167 #[v,v',.func (.func 168) #[] #[]] w fun e w' => e = .returned (.bool (fitAll xs ys)) ∧ Below w.heap.size w w' := by
 obtain ⟨a1,c1,rfl,h1⟩ := hr.slice
 obtain ⟨a2,c2,rfl,h2⟩ := hr'.slice
 by_cases hne : ¬ xs.length = ys.length
 ·have e : fitAll xs ys = false := fitAll_len xs ys hne
  rw [e]
  have hne' : ¬ ((xs.length : Int) = (ys.length : Int)) := by omega
  clear hr hr' h1 h2 e
  go_enter Tryz.func167,Tryz.ntmps167
  go_wp2
  go_ret
  exact ⟨rfl,Below.refl _ _⟩
 have hne := Classical.not_not.1 hne
 have HR : Hid (Row 2 (Flat BitC Is128) w (.slice a1 xs.length c1) xs) := hr
 have HS : Hid (Row 2 (Flat FldC FldOk) w (.slice a2 ys.length c2) ys) := hr'
 obtain ⟨n,hn⟩ : ∃ n,n = xs.length := ⟨_,rfl⟩
 have HL : Hid (n = xs.length ∧ n = ys.length) := ⟨hn,by omega⟩
 rw [← hne] at HS ⊢
 rw [← hn] at HR HS hlen ⊢
 clear hr hr' h1 h2 hn hne
 go_enter Tryz.func167,Tryz.ntmps167
 go_wp2_with fail
 go_loopw [17] (fun i wr => ∃ k : Nat,k ≤ n ∧ i = .int .i64 k ∧ fitAll xs ys = fitAll (xs.drop k) (ys.drop k) ∧ Below w.heap.size w wr) (fun i _ => n - (intOf i).toNat)
 case atStart => exact ⟨0,by omega,rfl,by simp,Below.refl _ _⟩
 case round =>
  obtain ⟨k,hk,rfl,hd,hb⟩ := hrel
  by_cases hlt : k < n
  ·obtain ⟨x,hx⟩ : ∃ x,xs[k]? = some x := ⟨xs[k]'(by rw [← HL.out.1]; exact hlt),List.getElem?_eq_getElem _⟩
   obtain ⟨y,hy⟩ : ∃ y,ys[k]? = some y := ⟨ys[k]'(by rw [← HL.out.2]; exact hlt),List.getElem?_eq_getElem _⟩
   obtain ⟨b,o,⟨cl⟩,rfl,hsx,hx1,hIx⟩ := HR.out.at hx
   obtain ⟨b2,o2,⟨dl⟩,rfl,hsy,hy1,hIy⟩ := HS.out.at hy
   have hcs : cl.length = 2 := hsx
   have hds : dl.length = 2 := hsy
   have hz1 : (Tryz.prog.info? 121).map (·.size) = some cl.length := by rw [hcs]; exact fsz121b
   have hz2 : (Tryz.prog.info? 82).map (·.size) = some dl.length := by rw [hds]; exact fsz82b
   have HP : Hid (Flat BitC Is128 w cl.toArray x ∧ Flat FldC FldOk w dl.toArray y) := ⟨hIx,hIy⟩
   have HD : Hid (fitAll xs ys = (fitsN x y.width && fitAll (xs.drop (k + 1)) (ys.drop (k + 1)))) := by
    have e := fitAll_step hx hy
    show fitAll xs ys = _
    rw [hd,e]
   have HB : Hid (Below w.heap.size w wr) := hb
   have R1 : Hid (wr.rangeAt b (o + k * 2) cl) := fun j u hu => pres_below hb _ _ (hx1 j u (by simpa using hu))
   have R2 : Hid (w.rangeAt b2 (o2 + k * 2) dl) := fun j u hu => (hy1 j u (by simpa using hu))
   have ST : Hid ((wr.alloc (.cells #[.int .u64 0,.int .u64 0] 121)).there wr.heap.size 0 cl.toArray.size) := there_new wr #[.int .u64 0,.int .u64 0] 121 (by simp [hcs])
   have ON1 : Hid (cl.toArray.all (·.oneCell') = true) := bit_good.one hIx
   have ON2 : Hid (dl.toArray.all (·.oneCell') = true) := fld_good.one hIy
   have H1 : Hid (Below w.heap.size w ((wr.alloc (.cells #[.int .u64 0,.int .u64 0] 121)).setCells wr.heap.size 0 cl) ∧ ((wr.alloc (.cells #[.int .u64 0,.int .u64 0] 121)).setCells wr.heap.size 0 cl).rangeAt wr.heap.size 0 cl) :=
    ⟨below_setCells (hb.alloc hb.size _) hb.size _ _,World.rangeAt_setCells_same _ _ _ _ (there_new wr #[.int .u64 0,.int .u64 0] 121 (by simp [hcs]))⟩
   clear hd hb hx1 hy1 hx hy hIx hIy hsx hsy
   go_upto_region 6 with (first | (refine wpList_load_mid rfl 121 _ rfl b (o + k * 2) rfl cl _ R1.out Tryz.underlying121 rfl hz1 ?_) | (refine wpList_store_mid rfl 121 _ _ rfl wr.heap.size 0 cl.toArray rfl rfl ST.out (by rw [List.size_toArray]; exact hz1) ON1.out ?_))
   generalize ((wr.alloc (.cells #[.int .u64 0,.int .u64 0] 121)).setCells wr.heap.size 0 cl) = W1 at H1 ⊢
   have ST2 : Hid ((W1.alloc (.cells #[.string ⟨#[]⟩,.int .i64 0] 82)).there W1.heap.size 0 dl.toArray.size) := there_new W1 #[.string ⟨#[]⟩,.int .i64 0] 82 (by simp [hds])
   have R3 : Hid (W1.rangeAt b2 (o2 + k * 2) dl) := fun j u hu => pres_below H1.out.1 _ _ (R2.out j u hu)
   have H2 : Hid (Below w.heap.size w ((W1.alloc (.cells #[.string ⟨#[]⟩,.int .i64 0] 82)).setCells W1.heap.size 0 dl) ∧ ((W1.alloc (.cells #[.string ⟨#[]⟩,.int .i64 0] 82)).setCells W1.heap.size 0 dl).rangeAt wr.heap.size 0 cl ∧ ((W1.alloc (.cells #[.string ⟨#[]⟩,.int .i64 0] 82)).setCells W1.heap.size 0 dl).rangeAt W1.heap.size 0 dl) :=
    ⟨below_setCells (H1.out.1.alloc H1.out.1.size _) H1.out.1.size _ _,fun j u hu => pres_below (below_setCells ((Below.refl _ _).alloc (Nat.le_refl _) _) (Nat.le_refl _) _ _) _ _ (H1.out.2 j u hu),World.rangeAt_setCells_same _ _ _ _ (there_new W1 #[.string ⟨#[]⟩,.int .i64 0] 82 (by simp [hds]))⟩
   clear R1 ST R2 H1
   go_upto_region 7 with (first | (refine wpList_load_mid rfl 82 _ rfl b2 (o2 + k * 2) rfl dl _ R3.out Tryz.underlying82 rfl hz2 ?_) | (refine wpList_store_mid rfl 82 _ _ rfl W1.heap.size 0 dl.toArray rfl rfl ST2.out (by rw [List.size_toArray]; exact hz2) ON2.out ?_))
   generalize ((W1.alloc (.cells #[.string ⟨#[]⟩,.int .i64 0] 82)).setCells W1.heap.size 0 dl) = W2 at H2 ⊢
   have C : Hid (Calls Tryz.prog 168 #[.agg cl.toArray,.agg dl.toArray] W2 fun e w' => e = .returned (.bool (fitsN x y.width)) ∧ Hid (Below w.heap.size w w')) := by
    obtain ⟨⟨e1,o1⟩,⟨e2,_⟩⟩ := HP.out
    rw [e1,e2]
    refine (fits168_any x o1 y W2).mono ?_
    rintro e w' ⟨rfl,hb⟩
    exact ⟨rfl,bst H2.out.1 hb (Nat.le_refl _)⟩
   generalize fitsN x y.width = r at *
   clear R3 ST2 ON1 ON2
   have R4 : Hid (W2.rangeAt wr.heap.size 0 cl) := H2.out.2.1
   have R5 : Hid (W2.rangeAt W1.heap.size 0 dl) := H2.out.2.2
   clear H2
   go_wp2_with (first | (refine wpList_load_mid rfl 121 _ rfl wr.heap.size 0 rfl cl _ R4.out Tryz.underlying121 rfl hz1 ?_) | (refine wpList_load_mid rfl 82 _ rfl W1.heap.size 0 rfl dl _ R5.out Tryz.underlying82 rfl hz2 ?_))
   refine C.out.mono ?_
   rintro e W3 ⟨rfl,H3⟩
   clear C R4 R5 HB
   cases r
   ·go_wp2
    go_ret
    exact ⟨by rw [HD.out]; rfl,H3.out⟩
   ·go_wp2
    exact ⟨⟨k + 1,by omega,by go_num,by rw [HD.out,Bool.true_and],H3.out⟩,by simp only [intOf]; omega⟩
  ·have e : k = n := by omega
   subst e
   have HE : fitAll xs ys = true := by
    have h1 := HL.out.1; have h2 := HL.out.2
    rw [hd,List.drop_of_length_le (by omega),List.drop_of_length_le (by omega)]
    rfl
   clear hd
   have HE : Hid (fitAll xs ys = true) := HE
   go_wp2
   go_ret
   exact ⟨by rw [HE.out]; rfl,hb⟩
end Go.Proofs.YtmbpclknhkbbkaaGreat
