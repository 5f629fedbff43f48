/- The control gone over, as a list from above: plain facts for the document's Stages, Applied and Meets. -/
import Derived.Test.YtmbpclknhkbbkaaGreatB27
set_option linter.unusedSimpArgs false
set_option linter.unusedVariables false
namespace Go.Proofs.YtmbpclknhkbbkaaGreat
open Go.RowKit
set_option linter.unusedVariables false
set_option linter.unusedSimpArgs false

mutual
/-- The stages from above, each with its depth. -/
def preS : Stg → Int → List (Stg × Int)
 | .mk k t x th el,d => (.mk k t x th el,d) :: (preL th (wrap64 (d + 1)) ++ preL el (wrap64 (d + 1)))
def preL : List Stg → Int → List (Stg × Int)
 | [],_ => []
 | x :: xs,d => preS x d ++ preL xs d
end
theorem preS_eq (y : Stg) (d : Int) : preS y d = (y,d) :: (preL y.thn (wrap64 (d + 1)) ++ preL y.els (wrap64 (d + 1))) := by cases y; rw [preS]; rfl
/-- A list gone over by a step that may end it. -/
def foldW {σ : Type} (stp : σ → Stg → Int → Except PanicEntry (Bool × σ)) : List (Stg × Int) → σ → Except PanicEntry (Bool × σ)
 | [],s => .ok (true,s)
 | p :: l,s => andT (stp s p.1 p.2) (fun s1 => foldW stp l s1)
theorem andT_assoc {σ : Type} (r : Except PanicEntry (Bool × σ)) (f g : σ → Except PanicEntry (Bool × σ)) : andT (andT r f) g = andT r (fun s => andT (f s) g) := by
 rcases r with _ | ⟨_ | _,_⟩ <;> rfl
theorem foldW_append {σ : Type} (stp : σ → Stg → Int → Except PanicEntry (Bool × σ)) : ∀ (l m : List (Stg × Int)) (s : σ),foldW stp (l ++ m) s = andT (foldW stp l s) (fun s1 => foldW stp m s1)
 | [],m,s => rfl
 | p :: l,m,s => by
  rw [List.cons_append,foldW,foldW,andT_assoc]
  congr 1
  funext s1
  exact foldW_append stp l m s1
theorem wlk_fold {σ : Type} (stp : σ → Stg → Int → Except PanicEntry (Bool × σ)) : ∀ (N : Nat) (xs : List Stg) (d : Int) (s : σ),szL xs ≤ N → wlkL stp xs d s = foldW stp (preL xs d) s := by
 intro N
 induction N using Nat.strongRecOn with
 | _ N ih =>
  intro xs d s hN
  cases xs with
  | nil => rw [wlkL,preL,foldW]
  | cons x xs =>
   rw [szL,szS_eq] at hN
   have hw : wlkL stp (x :: xs) d s = andT (wlkS stp x d s) (fun s1 => wlkL stp xs d s1) := by rw [wlkL]; rfl
   rw [hw,wlkS_eq,preL,preS_eq,foldW_append,foldW]
   congr 1
   ·congr 1
    funext s1
    rw [foldW_append]
    rw [ih (szL x.thn) (by omega) x.thn _ _ (Nat.le_refl _)]
    congr 1
    funext s2
    exact ih (szL x.els) (by omega) x.els _ _ (Nat.le_refl _)
   ·funext s1
    exact ih (szL xs) (by omega) xs _ _ (Nat.le_refl _)
theorem pre_len : ∀ (N : Nat) (xs : List Stg) (d : Int),szL xs ≤ N → (preL xs d).length = szL xs := by
 intro N
 induction N using Nat.strongRecOn with
 | _ N ih =>
  intro xs d hN
  cases xs with
  | nil => rw [preL,szL]; rfl
  | cons x xs =>
   rw [szL,szS_eq] at hN
   rw [preL,preS_eq,szL,szS_eq,List.length_append,List.length_cons,List.length_append,ih _ (by omega) x.thn _ (Nat.le_refl _),ih _ (by omega) x.els _ (Nat.le_refl _),ih _ (by omega) xs _ (Nat.le_refl _)]
   omega
/-- Is a stage of a list too deep? -/
def deepL (l : List (Stg × Int)) : Bool := l.any fun p => decide (8 < p.2)
theorem sz_fold : ∀ (l : List (Stg × Int)) (c m : Int),0 ≤ c → c ≤ 128 → ∃ b c' m',foldW szStp l (c,m) = .ok (b,(c',m')) ∧ (c + l.length ≤ 128 → c' = c + l.length ∧ (8 < m' ↔ 8 < m ∨ deepL l = true)) ∧ (128 < c + l.length → 128 < c')
 | [],c,m,h0,h1 => ⟨true,c,m,rfl,fun _ => ⟨by simp,by simp [deepL]⟩,fun h => by simp at h; omega⟩
 | p :: l,c,m,h0,h1 => by
  rw [foldW]
  by_cases hc : c + 1 ≤ 128
  ·have e0 : szStp (c,m) p.1 p.2 = .ok (true,(c + 1,max m p.2)) := by unfold szStp; simp [hc]
   rw [e0]
   obtain ⟨b,c',m',e,h2,h3⟩ := sz_fold l (c + 1) (max m p.2) (by omega) hc
   refine ⟨b,c',m',e,fun h => ?_,fun h => h3 (by simp at h; omega)⟩
   simp only [List.length_cons] at h
   obtain ⟨h4,h5⟩ := h2 (by omega)
   refine ⟨by rw [h4]; simp; omega,?_⟩
   rw [h5,show deepL (p :: l) = (decide (8 < p.2) || deepL l) from rfl]
   simp only [Bool.or_eq_true,decide_eq_true_eq]
   constructor
   ·rintro (h | h)
    ·by_cases hm : 8 < m
     ·exact .inl hm
     ·exact .inr (.inl (by omega))
    ·exact .inr (.inr h)
   ·rintro (h | h | h)
    ·exact .inl (by omega)
    ·exact .inl (by omega)
    ·exact .inr h
  ·have e0 : szStp (c,m) p.1 p.2 = .ok (false,(c + 1,max m p.2)) := by unfold szStp; simp [hc]
   rw [e0]
   refine ⟨false,c + 1,max m p.2,rfl,fun h => ?_,fun h => by omega⟩
   simp at h
   omega
/-- A control's size, by the list. -/
theorem sizeE_pre (xs : List Stg) : sizeE xs = if 128 < (preL xs 1).length then 74 else if deepL (preL xs 1) = true then 77 else 0 := by
 unfold sizeE
 rw [wlk_fold szStp _ xs 1 (0,0) (Nat.le_refl _)]
 obtain ⟨b,c,m,e,h1,h2⟩ := sz_fold (preL xs 1) 0 0 (by omega) (by omega)
 rw [e]
 simp only
 by_cases h : 128 < (preL xs 1).length
 ·rw [if_pos h,if_pos (h2 (by omega))]
 ·obtain ⟨h3,h4⟩ := h1 (by omega)
  rw [if_neg h,if_neg (by omega)]
  by_cases hd : deepL (preL xs 1) = true
  ·rw [if_pos hd,if_pos (h4.2 (.inr hd))]
  ·rw [if_neg hd,if_neg (fun h => (h4.1 h).elim (by omega) hd)]
/-- The names that a list of stages applies, each once. -/
def appF (l : List (Stg × Int)) (out : List ByteArray) : List ByteArray := l.foldl (fun o p => apNew o p.1) out
theorem ap_fold : ∀ (l : List (Stg × Int)) (out : List ByteArray),foldW apStp l out = .ok (true,appF l out)
 | [],out => rfl
 | p :: l,out => by
  rw [foldW]
  show foldW apStp l (apNew out p.1) = _
  rw [ap_fold l]
  rfl
theorem appL_pre (xs : List Stg) : appL xs = appF (preL xs 1) [] := by
 unfold appL
 rw [wlk_fold apStp _ xs 1 [] (Nat.le_refl _),ap_fold]

mutual
/-- The document's list of stages, behind others. -/
def dstS : Stg → Int → List (Stg × Int) → List (Stg × Int)
 | .mk k t x th el,d,out => dstL el (wrap64 (d + 1)) (dstL th (wrap64 (d + 1)) (out ++ [(.mk k t x th el,d)]))
def dstL : List Stg → Int → List (Stg × Int) → List (Stg × Int)
 | [],_,out => out
 | x :: xs,d,out => if out.length ≤ 128 then dstL xs d (dstS x d out) else out
end
theorem dstS_eq (y : Stg) (d : Int) (out : List (Stg × Int)) : dstS y d out = dstL y.els (wrap64 (d + 1)) (dstL y.thn (wrap64 (d + 1)) (out ++ [(y,d)])) := by cases y; rw [dstS]; rfl
theorem dst_step {xs : List Stg} {k : Nat} {y : Stg} (hk : xs[k]? = some y) (d : Int) (out : List (Stg × Int)) : dstL (xs.drop k) d out = if out.length ≤ 128 then dstL (xs.drop (k + 1)) d (dstS y d out) else out := by
 obtain ⟨h,e⟩ := List.getElem?_eq_some_iff.1 hk
 rw [List.drop_eq_getElem_cons h,e,dstL]
theorem dst_pre : ∀ (N : Nat) (xs : List Stg) (d : Int) (out : List (Stg × Int)),szL xs ≤ N → dstL xs d out = out ++ (preL xs d).take (129 - out.length) := by
 intro N
 induction N using Nat.strongRecOn with
 | _ N ih =>
  intro xs d out hN
  cases xs with
  | nil => rw [dstL,preL]; simp
  | cons x xs =>
   rw [szL,szS_eq] at hN
   rw [dstL,dstS_eq,preL,preS_eq]
   by_cases h : out.length ≤ 128
   ·rw [if_pos h,ih _ (by omega) x.thn _ _ (Nat.le_refl _),ih _ (by omega) x.els _ _ (Nat.le_refl _),ih _ (by omega) xs _ _ (Nat.le_refl _)]
    generalize preL x.thn (wrap64 (d + 1)) = A
    generalize preL x.els (wrap64 (d + 1)) = B
    generalize preL xs d = C
    obtain ⟨n,hn⟩ : ∃ n,129 - out.length = n + 1 := ⟨128 - out.length,by omega⟩
    rw [hn,List.cons_append,List.take_succ_cons,List.append_assoc A B C]
    simp only [List.append_assoc,List.length_append,List.length_cons,List.length_nil,List.length_take,List.take_append,List.cons_append,List.nil_append]
    have e1 : 129 - (out.length + (0 + 1)) = n := by omega
    rw [e1]
    have e2 : 129 - (out.length + (0 + 1 + min n A.length)) = n - A.length := by omega
    have e2' : 129 - (out.length + (min n A.length + 1)) = n - A.length := by omega
    have e3 : 129 - (out.length + (0 + 1 + (min n A.length + min (n - A.length) B.length))) = n - A.length - B.length := by omega
    have e3' : 129 - (out.length + (min n A.length + min (n - A.length) B.length + 1)) = n - A.length - B.length := by omega
    simp only [e1,e2,e2',e3,e3',Nat.zero_add]
    first | rfl | (congr 4 <;> omega) | skip
   ·rw [if_neg h,show 129 - out.length = 0 by omega]
    simp
/-- What the document's Stages finds. -/
theorem dst_all (xs : List Stg) : dstL xs 1 [] = (preL xs 1).take 129 := by
 rw [dst_pre _ xs 1 [] (Nat.le_refl _)]; simp

mutual
/-- The document's most: of the ways that come to the end, and of those that end within. -/
def rmS : Stg → Int × Int → Int × Int
 | .mk k _ _ th el,s =>
  if k = 3 then (-1,max s.2 s.1)
  else if k = 1 ∨ k = 2 then
   (if (rmL th (0, -1)).1 < 0 ∧ (rmL el (0, -1)).1 < 0 then -1 else wrap64 ((if k = 1 then wrap64 (s.1 + 1) else s.1) + max (rmL th (0, -1)).1 (rmL el (0, -1)).1),
    if 0 ≤ (rmL th (0, -1)).2 ∨ 0 ≤ (rmL el (0, -1)).2 then max s.2 (wrap64 ((if k = 1 then wrap64 (s.1 + 1) else s.1) + max (rmL th (0, -1)).2 (rmL el (0, -1)).2)) else s.2)
  else s
def rmL : List Stg → Int × Int → Int × Int
 | [],s => s
 | x :: xs,s => if 0 ≤ s.1 then rmL xs (rmS x s) else s
end
theorem rmS_eq (y : Stg) (s : Int × Int) : rmS y s = if y.kind = 3 then (-1,max s.2 s.1)
  else if y.kind = 1 ∨ y.kind = 2 then
   (if (rmL y.thn (0, -1)).1 < 0 ∧ (rmL y.els (0, -1)).1 < 0 then -1 else wrap64 ((if y.kind = 1 then wrap64 (s.1 + 1) else s.1) + max (rmL y.thn (0, -1)).1 (rmL y.els (0, -1)).1),
    if 0 ≤ (rmL y.thn (0, -1)).2 ∨ 0 ≤ (rmL y.els (0, -1)).2 then max s.2 (wrap64 ((if y.kind = 1 then wrap64 (s.1 + 1) else s.1) + max (rmL y.thn (0, -1)).2 (rmL y.els (0, -1)).2)) else s.2)
  else s := by cases y; rw [rmS]; rfl
theorem rm_step {xs : List Stg} {k : Nat} {y : Stg} (hk : xs[k]? = some y) (s : Int × Int) : rmL (xs.drop k) s = if 0 ≤ s.1 then rmL (xs.drop (k + 1)) (rmS y s) else s := by
 obtain ⟨h,e⟩ := List.getElem?_eq_some_iff.1 hk
 rw [List.drop_eq_getElem_cons h,e,rmL]
/-- What both say together, where n follow. -/
def rmV (s : Int × Int) (n : Int) : Int := if 0 ≤ s.1 then max (s.1 + n) s.2 else s.2
def RmOk (K : Int) (s : Int × Int) : Prop := -1 ≤ s.1 ∧ s.1 ≤ K ∧ -1 ≤ s.2 ∧ s.2 ≤ K ∧ (0 ≤ s.1 ∨ 0 ≤ s.2)
theorem wrap_small {z : Int} (h0 : -10 ≤ z) (h1 : z ≤ 4611686018427387904) : wrap64 z = z := by
 unfold wrap64
 omega
set_option maxHeartbeats 4000000 in
theorem rm_arith {K m s1 s2 p1 p2 q1 q2 ma mb A B u : Int} (hu : u = 0 ∨ u = 1) (hs : RmOk K (s1,s2)) (hm : 0 ≤ m) (hA : 0 ≤ A) (hB : 0 ≤ B) (hK : K + m + A + B ≤ 4611686018427387002) (a1 : RmOk A (p1,p2)) (b1 : RmOk B (q1,q2)) (a2 : rmV (p1,p2) m = rmV (0,-1) ma) (b2 : rmV (q1,q2) m = rmV (0,-1) mb) (a3 : 0 ≤ ma) (b3 : 0 ≤ mb) (a4 : ma ≤ m + A) (b4 : mb ≤ m + B) :
  RmOk (K + 1 + A + B) (if p1 < 0 ∧ q1 < 0 then -1 else wrap64 (wrap64 (s1 + u) + max p1 q1),if 0 ≤ p2 ∨ 0 ≤ q2 then max s2 (wrap64 (wrap64 (s1 + u) + max p2 q2)) else s2) ∧
  (0 ≤ s1 → rmV (if p1 < 0 ∧ q1 < 0 then -1 else wrap64 (wrap64 (s1 + u) + max p1 q1),if 0 ≤ p2 ∨ 0 ≤ q2 then max s2 (wrap64 (wrap64 (s1 + u) + max p2 q2)) else s2) m = rmV (s1,s2) (wrap64 (u + max ma mb))) ∧ 0 ≤ wrap64 (u + max ma mb) ∧ wrap64 (u + max ma mb) ≤ m + 1 + A + B := by
 simp only [RmOk,rmV] at *
 rw [if_pos (show (0 : Int) ≤ 0 by omega)] at a2 b2
 have w1 : wrap64 (s1 + u) = s1 + u := wrap_small (by omega) (by omega)
 have w2 : wrap64 (s1 + u + max p1 q1) = s1 + u + max p1 q1 := wrap_small (by omega) (by omega)
 have w3 : wrap64 (s1 + u + max p2 q2) = s1 + u + max p2 q2 := wrap_small (by omega) (by omega)
 have w4 : wrap64 (u + max ma mb) = u + max ma mb := wrap_small (by omega) (by omega)
 rw [w1,w2,w3,w4]
 clear w1 w2 w3 w4
 have hab : (0 ≤ p1 ∧ ma = max (p1 + m) p2 ∨ ¬ 0 ≤ p1 ∧ ma = p2) ∧ (0 ≤ q1 ∧ mb = max (q1 + m) q2 ∨ ¬ 0 ≤ q1 ∧ mb = q2) := by
  constructor
  ·by_cases c : 0 ≤ p1
   ·rw [if_pos c] at a2; exact .inl ⟨c,by omega⟩
   ·rw [if_neg c] at a2; exact .inr ⟨c,by omega⟩
  ·by_cases c : 0 ≤ q1
   ·rw [if_pos c] at b2; exact .inl ⟨c,by omega⟩
   ·rw [if_neg c] at b2; exact .inr ⟨c,by omega⟩
 clear a2 b2
 obtain ⟨ha,hb⟩ := hab
 have n1 : ¬ (0 : Int) ≤ -1 := by omega
 by_cases c12 : p1 < 0 ∧ q1 < 0
 ·have c34 : 0 ≤ p2 ∨ 0 ≤ q2 := by omega
  simp only [if_pos c12,if_pos c34,if_neg n1]
  refine ⟨by omega,fun h => ?_,by omega,by omega⟩
  rw [if_pos h]
  omega
 ·simp only [if_neg c12]
  have c5 : 0 ≤ s1 → 0 ≤ s1 + u + max p1 q1 := fun h => by omega
  by_cases c34 : 0 ≤ p2 ∨ 0 ≤ q2
  ·simp only [if_pos c34]
   refine ⟨by omega,fun h => ?_,by omega,by omega⟩
   rw [if_pos h,if_pos (c5 h)]
   omega
  ·simp only [if_neg c34]
   refine ⟨by omega,fun h => ?_,by omega,by omega⟩
   rw [if_pos h,if_pos (c5 h)]
   omega
theorem rm_val : ∀ (N : Nat) (xs : List Stg) (s : Int × Int) (K n : Int),szL xs ≤ N → RmOk K s → 0 ≤ n → K + n + szL xs ≤ 4611686018427387000 →
  RmOk (K + szL xs) (rmL xs s) ∧ rmV (rmL xs s) n = rmV s (mostL xs n) ∧ 0 ≤ mostL xs n ∧ mostL xs n ≤ n + szL xs := by
 intro N
 induction N using Nat.strongRecOn with
 | _ N ih =>
  intro xs s K n hN hs hn hK
  cases xs with
  | nil => rw [rmL,mostL,szL] at *; exact ⟨by simpa using hs,rfl,hn,by simp⟩
  | cons x xs =>
   rw [szL,szS_eq] at hN hK ⊢
   rw [rmL,mostL]
   obtain ⟨i1,i2,i3,i4⟩ := ih (szL xs) (by omega) xs (0,-1) 0 n (Nat.le_refl _) ⟨by simp,by simp,by simp,by simp,by simp⟩ hn (by unfold RmOk at hs; omega)
   obtain ⟨a1,a2,a3,a4⟩ := ih (szL x.thn) (by omega) x.thn (0,-1) 0 (mostL xs n) (Nat.le_refl _) ⟨by simp,by simp,by simp,by simp,by simp⟩ i3 (by unfold RmOk at hs; omega)
   obtain ⟨b1,b2,b3,b4⟩ := ih (szL x.els) (by omega) x.els (0,-1) 0 (mostL xs n) (Nat.le_refl _) ⟨by simp,by simp,by simp,by simp,by simp⟩ i3 (by unfold RmOk at hs; omega)
   have hx : RmOk (K + 1 + szL x.thn + szL x.els) (rmS x s) ∧ (0 ≤ s.1 → rmV (rmS x s) (mostL xs n) = rmV s (mostS x (mostL xs n))) ∧ 0 ≤ mostS x (mostL xs n) ∧ mostS x (mostL xs n) ≤ mostL xs n + 1 + szL x.thn + szL x.els := by
    rw [rmS_eq,mostS_eq]
    generalize rmL x.thn (0,-1) = a at *
    generalize rmL x.els (0,-1) = b at *
    generalize mostL x.thn (mostL xs n) = ma at *
    generalize mostL x.els (mostL xs n) = mb at *
    generalize mostL xs n = m at *
    obtain ⟨s1,s2⟩ := s
    obtain ⟨p1,p2⟩ := a
    obtain ⟨q1,q2⟩ := b
    clear ih i1 i2
    by_cases k3 : x.kind = 3
    ·have k1 : ¬ x.kind = 1 := by omega
     have k2 : ¬ x.kind = 2 := by omega
     simp only [if_pos k3,if_neg k1,if_neg k2,RmOk,rmV] at *
     refine ⟨by omega,fun h => ?_,by omega,by omega⟩
     rw [if_pos h]
     simp
     omega
    by_cases k1 : x.kind = 1
    ·have := rm_arith (u := 1) (.inr rfl) hs i3 (by omega) (by omega) (by unfold RmOk at hs; omega) (by simpa using a1) (by simpa using b1) a2 b2 a3 b3 a4 b4
     simpa only [if_neg k3,if_pos k1,if_pos (show x.kind = 1 ∨ x.kind = 2 from .inl k1)] using this
    by_cases k2 : x.kind = 2
    ·have := rm_arith (u := 0) (.inl rfl) hs i3 (by omega) (by omega) (by unfold RmOk at hs; omega) (by simpa using a1) (by simpa using b1) a2 b2 a3 b3 a4 b4
     have e1 : wrap64 (s1 + 0) = s1 := by rw [Int.add_zero]; unfold RmOk at hs; exact wrap_small (by omega) (by omega)
     have e2 : wrap64 (0 + max ma mb) = max ma mb := by rw [Int.zero_add]; unfold RmOk at hs; exact wrap_small (by omega) (by omega)
     rw [e1,e2] at this
     simpa only [if_neg k3,if_neg k1,if_pos k2,if_pos (show x.kind = 1 ∨ x.kind = 2 from .inr k2)] using this
    ·simp only [if_neg k3,if_neg k1,if_neg k2,if_neg (show ¬ (x.kind = 1 ∨ x.kind = 2) by omega)]
     unfold RmOk at *
     exact ⟨by omega,fun _ => by trivial,by omega,by omega⟩
   obtain ⟨x1,x2,x3,x4⟩ := hx
   by_cases h0 : 0 ≤ s.1
   ·rw [if_pos h0]
    obtain ⟨j1,j2,j3,j4⟩ := ih (szL xs) (by omega) xs (rmS x s) (K + 1 + szL x.thn + szL x.els) n (Nat.le_refl _) x1 hn (by omega)
    refine ⟨?_,by rw [j2,x2 h0],x3,by omega⟩
    have : K + ((1 + szL x.thn + szL x.els + szL xs : Nat) : Int) = K + 1 + szL x.thn + szL x.els + szL xs := by omega
    rw [this]
    exact j1
   ·rw [if_neg h0]
    refine ⟨?_,by unfold rmV; rw [if_neg h0,if_neg h0],x3,by omega⟩
    unfold RmOk at hs ⊢
    omega
end Go.Proofs.YtmbpclknhkbbkaaGreat
