/- The document's Stages. -/
import Derived.Test.YtmbpclknhkbbkaaGreatGb
set_option linter.unusedSimpArgs false
set_option linter.unusedVariables false
namespace Go.Proofs.YtmbpclknhkbbkaaGreat
open Go.RowKit
set_option linter.unusedVariables false
set_option linter.unusedSimpArgs false

theorem OutV.at {w : World} : ∀ {l : List (Stg × Int)} {vs : List Value},OutV w l vs → ∀ {i : Nat} {p : Stg × Int},l[i]? = some p → ∃ cs,StgIs w p.1 cs ∧ (∀ j u,cs[j]? = some u → vs[i * 14 + j]? = some u) ∧ vs[i * 14 + 13]? = some (.int .i64 p.2)
 | [],vs,h,i,p,hp => by simp at hp
 | q :: l,vs,h,0,p,hp => by
  obtain ⟨cs,rest,h1,rfl,h2⟩ := h
  simp only [List.getElem?_cons_zero,Option.some.injEq] at hp
  subst hp
  have hsz : cs.size = 13 := stg_good.size h1
  have hl : cs.toList.length = 13 := by simpa using hsz
  refine ⟨cs,h1,fun j u hu => ?_,?_⟩
  ·have hj : j < cs.toList.length := by
    have := (Array.getElem?_eq_some_iff.1 hu).1
    simpa using this
   rw [Nat.zero_mul,Nat.zero_add,List.getElem?_append_left hj]
   simpa using hu
  ·rw [List.getElem?_append_right (by omega),hl]
   rfl
 | q :: l,vs,h,i + 1,p,hp => by
  obtain ⟨cs,rest,h1,rfl,h2⟩ := h
  simp only [List.getElem?_cons_succ] at hp
  have hsz : cs.size = 13 := stg_good.size h1
  have hl : cs.toList.length = 13 := by simpa using hsz
  obtain ⟨cs',h3,h4,h5⟩ := OutV.at h2 hp
  have key : ∀ j,(cs.toList ++ (Value.int .i64 q.2 :: rest))[(i + 1) * 14 + j]? = rest[i * 14 + j]? := fun j => by
   rw [List.getElem?_append_right (by omega),hl,show (i + 1) * 14 + j - 13 = i * 14 + j + 1 by omega,List.getElem?_cons_succ]
  exact ⟨cs',h3,fun j u hu => by rw [key]; exact h4 j u hu,by rw [key]; exact h5⟩
theorem own_at {w : World} {B e z n : Nat} {oa : Option Addr} {oc : Nat} {vs : List Value} (h : w.ownsRow B e z (.slice oa n oc) n vs) (hn : 0 < n) : ∃ g,oa = some ⟨g,0,none⟩ ∧ B ≤ g ∧ ∀ j u,vs[j]? = some u → w.cell? ⟨g,j,none⟩ = some u := by
 have hl := h.1
 have h0 := h
 rcases h.2 with ⟨_,h1⟩ | ⟨g,cap,cur,hv,hb,_⟩
 ·omega
 ·cases hv
  refine ⟨g,rfl,hb,fun j u hu => ?_⟩
  have hj := (List.getElem?_eq_some_iff.1 hu).1
  have := h0.cellAt (g := g) (cap := oc) j (by omega)
  rw [this]; exact hu
theorem deep_step {l : List (Stg × Int)} {k : Nat} {p : Stg × Int} (hk : l[k]? = some p) : deepL (l.drop k) = (decide (8 < p.2) || deepL (l.drop (k + 1))) := by
 obtain ⟨h,e⟩ := List.getElem?_eq_some_iff.1 hk
 rw [List.drop_eq_getElem_cons h,e]
 rfl
/-- What Stages answers: the stages from above, or the fault. -/
def StgsOut (w0 : World) (B : Nat) (xs : List Stg) (e : Ending) (w' : World) : Prop :=
 (sizeE xs = 0 ∧ ∃ oa oc vs,e = .returned (.tuple #[.slice oa (preL xs 1).length oc,.int .i64 0]) ∧ w'.ownsRow B 135 14 (.slice oa (preL xs 1).length oc) (preL xs 1).length vs ∧ OutV w0 (preL xs 1) vs ∧ (preL xs 1).length ≤ 128) ∨
 (sizeE xs ≠ 0 ∧ e = .returned (.tuple #[.slice none 0 0,.int .i64 (sizeE xs)]))
set_option maxHeartbeats 4000000 in
set_option maxRecDepth 100000 in
theorem rstages_any (v : Value) (s : Sch) (w : World) (hs : SchIs w v s) : Calls Tryz.prog 88 #[v] w fun e w' => StgsOut w (w.heap.size + 1) s.control e w' ∧ Below w.heap.size w w' := by
 obtain ⟨a0,c0,a1,c1,a2,c2,a3,c3,a4,c4,a5,c5,rfl,h0,h1,h2,h3,h4,h5⟩ := hs.parts
 have HB0 : Hid (Below w.heap.size w (w.alloc (.cells #[.slice a0 s.headers.length c0,.slice a1 s.metas.length c1,.slice a2 s.states.length c2,.slice a3 s.actions.length c3,.slice a4 s.tables.length c4,.slice a5 s.control.length c5] 34))) := (Below.refl _ _).alloc (Nat.le_refl _) _
 have HX0 : Hid (Blk (w.alloc (.cells #[.slice a0 s.headers.length c0,.slice a1 s.metas.length c1,.slice a2 s.states.length c2,.slice a3 s.actions.length c3,.slice a4 s.tables.length c4,.slice a5 s.control.length c5] 34)) w.heap.size #[.slice a0 s.headers.length c0,.slice a1 s.metas.length c1,.slice a2 s.states.length c2,.slice a3 s.actions.length c3,.slice a4 s.tables.length c4,.slice a5 s.control.length c5] 34) := Blk.new _ _ _
 have HR : Hid (StgRow w (.slice a5 s.control.length c5) s.control) := h5
 have HSZ : Hid ((w.alloc (.cells #[.slice a0 s.headers.length c0,.slice a1 s.metas.length c1,.slice a2 s.states.length c2,.slice a3 s.actions.length c3,.slice a4 s.tables.length c4,.slice a5 s.control.length c5] 34)).heap.size = w.heap.size + 1) := World.size_alloc _ _
 clear hs h0 h1 h2 h3 h4 h5
 generalize s.control = xs at *
 go_enter Tryz.func88,Tryz.ntmps88
 go_upto_region 1 with fail
 generalize (w.alloc _) = W0 at HB0 HX0 HSZ ⊢
 obtain ⟨xb,hxb⟩ : ∃ xb,xb = w.heap.size := ⟨_,rfl⟩
 rw [← hxb] at HX0 ⊢
 have HXB : Hid (xb = w.heap.size) := hxb
 clear hxb
 have x5 := HX0.out.cell 5 (v := .slice a5 xs.length c5) rfl
 have C1 : Hid (Calls Tryz.prog 172 #[.slice none 0 0,.slice a5 xs.length c5,.int .i64 1] W0 fun e w' => ∃ sv' vs',e = .returned sv' ∧ DOut w (w.heap.size + 1) W0 (dstL xs 1 []) sv' vs' w') :=
  dst_any w (w.heap.size + 1) (by omega) _ xs _ W0 [] [] _ 1 (Nat.le_refl _) HR.out HB0.out ⟨World.ownsRow_nil W0 _ 135 14,rfl,Kept.refl _ _,by simp,by rw [HSZ.out]; exact Nat.le_refl _⟩
 go_wp2_with fail
 refine C1.out.mono ?_
 rintro e W1 ⟨sv1,vs1,rfl,hO⟩
 obtain ⟨oa,oc,rfl⟩ := hO.slice
 rw [dst_all] at hO ⊢
 have HB1 : Hid (Below w.heap.size w W1) := HB0.out.trans (hO.kept.below HB0.out.size (fun k e => by omega))
 have HE := sizeE_pre xs
 have HE : Hid (sizeE xs = if 128 < (preL xs 1).length then 74 else if deepL (preL xs 1) = true then 77 else 0) := HE
 clear C1 x5 HX0 HB0 HSZ
 by_cases hbig : 128 < (preL xs 1).length
 ·have hl : ((preL xs 1).take 129).length = 129 := by rw [List.length_take]; omega
  rw [hl]
  have HF : Hid (sizeE xs = 74) := by show _ = _; rw [HE.out,if_pos hbig]
  clear hO hl hbig HE
  go_wp2
  refine bodyPost_ret (v := .tuple #[.slice none 0 0,.int .i64 74]) (by simp [results,Tryz.results88,go_sem]) rfl ⟨.inr ⟨?_,?_⟩,HB1.out⟩
  ·rw [HF.out]; decide
  ·rw [HF.out]
 ·have ht : (preL xs 1).take 129 = preL xs 1 := List.take_of_length_le (by omega)
  rw [ht] at hO ⊢
  have HO : Hid (DOut w (w.heap.size + 1) W0 (preL xs 1) (.slice oa (preL xs 1).length oc) vs1 W1) := hO
  have HE2 : Hid (sizeE xs = if deepL (preL xs 1) = true then 77 else 0) := by show _ = _; rw [HE.out,if_neg hbig]
  have hm : (preL xs 1).length ≤ 128 := by omega
  clear hO hbig ht HE
  obtain ⟨L,hL⟩ : ∃ L,L = preL xs 1 := ⟨_,rfl⟩
  obtain ⟨m,hmm⟩ : ∃ m,m = (preL xs 1).length := ⟨_,rfl⟩
  have HM : Hid (m = L.length) := by show _ = _; rw [hmm,hL]
  have HO2 : Hid (W1.ownsRow (w.heap.size + 1) 135 14 (.slice oa m oc) m vs1 ∧ OutV w L vs1) := by
   have h1 := HO.out.own; have h2 := HO.out.val
   rw [← hmm] at h1
   rw [← hL] at h2
   exact ⟨h1,h2⟩
  have HLL : Hid (L = preL xs 1) := hL
  have HMM : Hid (m = (preL xs 1).length) := hmm
  rw [← hL] at HE2
  rw [← hmm] at hm ⊢
  clear HO hL hmm
  have hd0 : decide ((128 : Int) < m) = false := decide_eq_false (by omega)
  go_wp2_with fail
  go_loopw [5] (fun i wr => ∃ k : Nat,k ≤ m ∧ i = .int .i64 k ∧ wr = W1 ∧ Aside (deepL L = deepL (L.drop k))) (fun i _ => m - (intOf i).toNat)
  case atStart => exact ⟨0,by omega,rfl,rfl,by show _ = _; simp⟩
  case round =>
   obtain ⟨k,hk,rfl,rfl,hd⟩ := hrel
   have HD : Hid (deepL L = deepL (L.drop k)) := hd.out
   clear hd
   by_cases hlt : k < m
   ·obtain ⟨p,hp⟩ : ∃ p,L[k]? = some p := ⟨L[k]'(by rw [← HM.out]; exact hlt),List.getElem?_eq_getElem _⟩
    obtain ⟨g,rfl,_,hg⟩ := own_at HO2.out.1 (by omega)
    obtain ⟨cs,_,_,hdp⟩ := HO2.out.2.at hp
    have q := hg _ _ hdp
    have hdl : decide ((k : Int) < m) = true := decide_eq_true (by omega)
    have HST : Hid (deepL L = (decide (8 < p.2) || deepL (L.drop (k + 1)))) := by show _ = _; rw [HD.out,deep_step hp]
    clear hg hdp hp
    generalize p.2 = dp at *
    by_cases h8 : 8 < dp
    ·have HF : Hid (sizeE xs = 77) := by
      show _ = _
      rw [HE2.out,HST.out,decide_eq_true h8,Bool.true_or,if_pos rfl]
     have h8' : decide ((8 : Int) < dp) = true := decide_eq_true h8
     go_wp2
     refine bodyPost_ret (v := .tuple #[.slice none 0 0,.int .i64 77]) (by simp [results,Tryz.results88,go_sem]) rfl ⟨.inr ⟨?_,?_⟩,HB1.out⟩
     ·rw [HF.out]; decide
     ·rw [HF.out]
    ·have h8' : decide ((8 : Int) < dp) = false := decide_eq_false h8
     go_wp2
     exact ⟨⟨k + 1,by omega,by go_num,by trivial,by show _ = _; rw [HST.out,h8',Bool.false_or]⟩,by simp only [intOf]; omega⟩
   ·have e : k = m := by omega
    subst e
    have HF : Hid (sizeE xs = 0) := by
     show _ = _
     rw [HE2.out,HD.out,HM.out,List.drop_length]
     rfl
    have hdl : decide ((k : Int) < k) = false := decide_eq_false (by omega)
    go_wp2
    refine bodyPost_ret (v := .tuple #[.slice oa k oc,.int .i64 0]) (by simp [results,Tryz.results88,go_sem]) rfl ⟨.inl ⟨HF.out,oa,oc,vs1,?_⟩,HB1.out⟩
    rw [← HMM.out,← HLL.out]
    exact ⟨rfl,HO2.out.1,HO2.out.2,hm⟩
end Go.Proofs.YtmbpclknhkbbkaaGreat
