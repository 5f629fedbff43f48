/- The document's Applied and Meets. -/
import Derived.Test.YtmbpclknhkbbkaaGreatGe
import Derived.Test.YtmbpclknhkbbkaaGreatVb
set_option linter.unusedSimpArgs false
set_option linter.unusedVariables false
namespace Go.Proofs.YtmbpclknhkbbkaaGreat
open Go.RowKit
set_option linter.unusedVariables false
set_option linter.unusedSimpArgs false

theorem appF_step {l : List (Stg × Int)} {k : Nat} {p : Stg × Int} (hk : l[k]? = some p) (out : List ByteArray) : appF (l.drop k) out = appF (l.drop (k + 1)) (apNew out p.1) := by
 obtain ⟨h,e⟩ := List.getElem?_eq_some_iff.1 hk
 rw [List.drop_eq_getElem_cons h,e]
 rfl
structure ApO (B : Nat) (cur : List ByteArray) (oa : Option Addr) (m oc : Nat) (k : Nat) (w : World) : Prop where
 len : m = cur.length
 own : w.ownsRow B 9 1 (.slice oa m oc) m (strsV cur)
 ok : ∀ x ∈ cur,Okt x
 le : m ≤ k
theorem ApO.block {B : Nat} {cur : List ByteArray} {oa : Option Addr} {m oc k : Nat} {w : World} (h : ApO B cur oa m oc k w) (g : Nat) (e : (Value.slice oa m oc).ownBlock = some g) : B ≤ g := by
 rcases h.own.2 with ⟨h1,_⟩ | ⟨g2,cap2,cur2,h1,hb2,_⟩
 ·cases h1; cases e
 ·cases h1
  have : g = g2 := by simpa [Value.ownBlock] using e.symm
  rw [this]; exact hb2
theorem ApO.row {B : Nat} {cur : List ByteArray} {oa : Option Addr} {m oc k : Nat} {w : World} (h : ApO B cur oa m oc k w) (hk : k ≤ 128) : TxtRow w (.slice oa m oc) cur := by
 have h1 := h.own
 rw [h.len] at h1 ⊢
 exact (own_txt h1 (by rw [← h.len]; exact Nat.le_trans h.le hk) h.ok).pres (pres_up _ _)
set_option maxHeartbeats 8000000 in
set_option maxRecDepth 100000 in
theorem rapplied_any (v : Value) (s : Sch) (w : World) (hs : SchIs w v s) : Calls Tryz.prog 24 #[v] w fun e w' => ∃ u,e = .returned u ∧ TxtRow w' u (appliedE s) ∧ Below w.heap.size w w' := by
 obtain ⟨a0,c0,a1,c1,a2,c2,a3,c3,a4,c4,a5,c5,rfl,h0,h1,h2,h3,h4,h5⟩ := hs.parts
 have HB0 : Hid (Below w.heap.size w (w.alloc (.cells #[.slice a0 s.headers.length c0,.slice a1 s.metas.length c1,.slice a2 s.states.length c2,.slice a3 s.actions.length c3,.slice a4 s.tables.length c4,.slice a5 s.control.length c5] 34))) := (Below.refl _ _).alloc (Nat.le_refl _) _
 have HX0 : Hid (Blk (w.alloc (.cells #[.slice a0 s.headers.length c0,.slice a1 s.metas.length c1,.slice a2 s.states.length c2,.slice a3 s.actions.length c3,.slice a4 s.tables.length c4,.slice a5 s.control.length c5] 34)) w.heap.size #[.slice a0 s.headers.length c0,.slice a1 s.metas.length c1,.slice a2 s.states.length c2,.slice a3 s.actions.length c3,.slice a4 s.tables.length c4,.slice a5 s.control.length c5] 34) := Blk.new _ _ _
 have HS : Hid (SchIs w (.agg #[.slice a0 s.headers.length c0,.slice a1 s.metas.length c1,.slice a2 s.states.length c2,.slice a3 s.actions.length c3,.slice a4 s.tables.length c4,.slice a5 s.control.length c5]) s) := hs
 have HR : Hid (StgRow w (.slice a5 s.control.length c5) s.control) := h5
 clear hs h0 h1 h2 h3 h4 h5
 have HE : Hid (appliedE s = if sizeE s.control = 0 then appL s.control else []) := rfl
 have hnil : Hid (∀ w',TxtRow w' (.slice none 0 0) []) := fun w' => (own_txt (World.ownsRow_nil w' 0 9 1) (by simp) (fun x hx => by cases hx)).pres (pres_up _ _)
 obtain ⟨i0,hif,hz0,hz1,hz3⟩ := info_of info9
 generalize appliedE s = R at *
 go_enter Tryz.func24,Tryz.ntmps24
 go_upto_region 1 with fail
 generalize (w.alloc _) = W0 at HB0 HX0 ⊢
 obtain ⟨xb,hxb⟩ : ∃ xb,xb = w.heap.size := ⟨_,rfl⟩
 rw [← hxb] at HX0 ⊢
 clear hxb
 have C1 : Hid (Calls Tryz.prog 88 #[.agg #[.slice a0 s.headers.length c0,.slice a1 s.metas.length c1,.slice a2 s.states.length c2,.slice a3 s.actions.length c3,.slice a4 s.tables.length c4,.slice a5 s.control.length c5]] W0 fun e w' => StgsOut W0 (W0.heap.size + 1) s.control e w' ∧ Below W0.heap.size W0 w') := rstages_any _ s W0 (HS.out.pres (pres_below HB0.out))
 obtain ⟨x0,x1,x2,x3,x4,x5⟩ := HX0.out.c6
 go_wp2_with fail
 refine C1.out.mono ?_
 rintro e W1 ⟨hO,hb⟩
 have HB1 : Hid (Below w.heap.size w W1) := bst HB0.out hb
 clear hb C1 HB0 HX0 HS HR x0 x1 x2 x3 x4 x5
 rcases hO with ⟨hz,oa1,oc1,vs,rfl,hown,hval,hl⟩ | ⟨hz,rfl⟩
 case inr =>
  have HF : Hid (R = []) := by show _ = _; rw [HE.out,if_neg hz]
  have hz' : (sizeE s.control == 0) = false := by simpa using hz
  clear HE
  go_wp2
  go_ret
  exact ⟨_,rfl,by rw [HF.out]; exact hnil.out _,HB1.out⟩
 have HF : Hid (appF ((preL s.control 1).drop 0) [] = R) := by show _ = _; rw [HE.out,if_pos hz,appL_pre]; rfl
 have HOW : Hid (W1.ownsRow (W0.heap.size + 1) 135 14 (.slice oa1 (preL s.control 1).length oc1) (preL s.control 1).length vs) := hown
 have HV : Hid (OutV W0 (preL s.control 1) vs) := hval
 clear hown hval HE hz hnil
 generalize preL s.control 1 = L at *
 obtain ⟨n,hn⟩ : ∃ n,n = L.length := ⟨_,rfl⟩
 have HN : Hid (n = L.length) := hn
 rw [← hn] at HOW hl ⊢
 clear hn
 have HA0 : Hid (ApO W1.heap.size [] none 0 0 0 W1) := ⟨rfl,World.ownsRow_nil W1 _ 9 1,(fun x hx => by cases hx),Nat.le_refl _⟩
 go_wp2_with fail
 go_loopw [5,6] (fun o i wr => ∃ (k m : Nat) (cur : List ByteArray) (oa : Option Addr) (oc : Nat),k ≤ n ∧ o = .slice oa m oc ∧ i = .int .i64 k ∧ Aside (appF (L.drop k) cur = R ∧ ApO W1.heap.size cur oa m oc k wr ∧ Below W1.heap.size W1 wr)) (fun _ i _ => n - (intOf i).toNat)
 case atStart => exact ⟨0,0,[],none,0,by omega,rfl,rfl,HF.out,HA0.out,Below.refl _ _⟩
 case round =>
  clear HF HA0
  obtain ⟨k,m,cur,oa,oc,hk,rfl,rfl,hA⟩ := hrel
  have HF : Hid (appF (L.drop k) cur = R) := hA.out.1
  have HA : Hid (ApO W1.heap.size cur oa m oc k wr) := hA.out.2.1
  have HB : Hid (Below W1.heap.size W1 wr) := hA.out.2.2
  clear hA
  by_cases hlt : k < n
  ·obtain ⟨p,hp⟩ : ∃ p,L[k]? = some p := ⟨L[k]'(by rw [← HN.out]; exact hlt),List.getElem?_eq_getElem _⟩
   obtain ⟨g,rfl,_,hg⟩ := own_at HOW.out (by omega)
   obtain ⟨cs,hIs,hcc,_⟩ := HV.out.at hp
   obtain ⟨v1,v2,rfl,hok,hth,hel⟩ := (stgIs_iff W0 p.1 cs).1 hIs
   have HX : Hid (Okt p.1.table) := hok.2.1
   have q0 : wr.cell? ⟨g,k * 14,none⟩ = some (.int .i64 p.1.kind) := by have := pres_below HB.out _ _ (hg _ _ (hcc 0 _ rfl)); simpa using this
   have q1 : wr.cell? ⟨g,k * 14 + 1,none⟩ = some (.string p.1.table) := by have := pres_below HB.out _ _ (hg _ _ (hcc 1 _ rfl)); simpa using this
   have HST : Hid (R = appF (L.drop (k + 1)) (if p.1.kind = 1 ∧ hasT cur p.1.table = false then cur ++ [p.1.table] else cur)) := by show _ = _; rw [← HF.out,appF_step hp]; rfl
   have CH : Hid (Calls Tryz.prog 89 #[.slice oa m oc,.string p.1.table] wr fun e w' => e = .returned (.bool (hasT cur p.1.table)) ∧ w' = wr) := rhas_any _ cur _ wr (HA.out.row (by omega)).1 (by have := HA.out.len; have := HA.out.le; omega)
   have hdl : decide ((k : Int) < n) = true := decide_eq_true (by omega)
   have hm128 : m ≤ 128 := Nat.le_trans HA.out.le (by omega)
   clear hg hcc hIs hok hth hel hp HF
   generalize p.1.kind = kd at *
   generalize p.1.table = tx at *
   obtain ⟨hb,hhb⟩ : ∃ hb,hb = hasT cur tx := ⟨_,rfl⟩
   rw [← hhb] at CH HST
   clear hhb
   go_wp2_with fail
   refine CH.out.mono ?_
   rintro e wq ⟨rfl,hwq⟩
   rw [hwq]
   clear CH hwq wq
   by_cases k1 : kd = 1
   ·subst k1
    cases hb with
    | true =>
     rw [if_neg (by simp)] at HST
     go_wp2
     exact ⟨⟨k + 1,m,cur,oa,oc,by omega,rfl,by go_num,HST.out.symm,⟨HA.out.len,HA.out.own,HA.out.ok,Nat.le_succ_of_le HA.out.le⟩,HB.out⟩,by simp only [intOf]; omega⟩
    | false =>
     rw [if_pos (by simp)] at HST
     have HRA : Hid ((wr.alloc (.cells #[.string tx] 9)).ownsRow W1.heap.size 9 1 (.slice oa m oc) m (strsV cur)) := ownsRow_kept (S := fun _ => False) HA.out.own (Kept.of_below ((Below.refl _ _).alloc (Nat.le_refl _) _)) (fun _ _ e => e)
     have HEND : Hid (∀ (w6 : World) (g1 cap1 : Nat),(wr.alloc (.cells #[.string tx] 9)).grownBy w6 (Value.slice oa m oc).ownBlock → w6.ownsRow W1.heap.size 9 1 (.slice (some ⟨g1,0,none⟩) (m + 1) cap1) (m + 1) (strsV cur ++ [.string tx]) → ApO W1.heap.size (cur ++ [tx]) (some ⟨g1,0,none⟩) (m + 1) cap1 (k + 1) w6 ∧ Below W1.heap.size W1 w6) := fun w6 g1 cap1 hg hown => by
      have k1 : Kept (fun k => W1.heap.size ≤ k) wr w6 := (Kept.of_below ((Below.refl wr.heap.size wr).alloc (Nat.le_refl _) (.cells #[.string tx] 9))).grown hg (fun k e => HA.out.block k e)
      refine ⟨⟨?_,?_,fun x hx => ?_,?_⟩,HB.out.trans (k1.below HB.out.size (fun _ e => e))⟩
      ·rw [List.length_append,← HA.out.len]; rfl
      ·rw [strsV_snoc]; exact hown
      ·rcases List.mem_append.1 hx with hx | hx
       ·exact HA.out.ok x hx
       ·rw [List.mem_singleton.1 hx]; exact HX.out
      ·have := HA.out.le; omega
     have h63 : m + 1 ≤ maxLen := by unfold maxLen; omega
     have hby : (m + 1) * 16 ≤ 140737488355328 := by omega
     have hbs : W1.heap.size ≤ (wr.alloc (.cells #[.string tx] 9)).heap.size := by have := HB.out.size; rw [World.size_alloc]; omega
     go_wp2_with (at_builtin; refine wpList_append_lies _ rfl _ _ 36 rfl W1.heap.size 9 i0 (.string ⟨#[]⟩) 1 16 Tryz.underlying36 hif hz0 hz1 hz3 rfl (by decide) _ _ _ rfl HRA.out ⟨wr.heap.size,0,none⟩ 1 1 [.string tx] rfl rfl (new_cells wr [.string tx] 9) (by intro u hu; simp at hu; subst hu; rfl) (by decide) h63 hby hbs _ rfl ?_; intro g1 cap1 w6 hown hgr hwh hlt6; have HE1 : Hid (ApO W1.heap.size (cur ++ [tx]) (some ⟨g1,0,none⟩) (m + 1) cap1 (k + 1) w6 ∧ Below W1.heap.size W1 w6) := HEND.out w6 g1 cap1 hgr hown; clear hown hgr hwh hlt6 HEND HRA)
     exact ⟨⟨k + 1,m + 1,cur ++ [tx],some ⟨g1,0,none⟩,cap1,by omega,rfl,by go_num,HST.out.symm,HE1.out.1,HE1.out.2⟩,by simp only [intOf]; omega⟩
   ·have k1' : (kd == 1) = false := by simpa using k1
    rw [if_neg (fun h => k1 h.1)] at HST
    go_wp2
    exact ⟨⟨k + 1,m,cur,oa,oc,by omega,rfl,by go_num,HST.out.symm,⟨HA.out.len,HA.out.own,HA.out.ok,Nat.le_succ_of_le HA.out.le⟩,HB.out⟩,by simp only [intOf]; omega⟩
  ·have e : k = n := by omega
   subst e
   have HF2 : Hid (R = cur) := by show _ = _; rw [← HF.out,List.drop_of_length_le (by rw [← HN.out]; omega)]; rfl
   have hdl : decide ((k : Int) < k) = false := decide_eq_false (by omega)
   clear HF
   go_wp2
   go_ret
   exact ⟨_,rfl,by rw [HF2.out]; exact HA.out.row hl,HB1.out.trans (HB.out.mono HB1.out.size)⟩
set_option maxHeartbeats 4000000 in
set_option maxRecDepth 100000 in
theorem rmeets_any (v : Value) (s : Sch) (w : World) (hs : SchIs w v s) : Calls Tryz.prog 26 #[v] w fun e w' => e = .returned (.int .i64 (meetsE s)) ∧ Below w.heap.size w w' := by
 obtain ⟨a0,c0,a1,c1,a2,c2,a3,c3,a4,c4,a5,c5,rfl,h0,h1,h2,h3,h4,h5⟩ := hs.parts
 have HB0 : Hid (Below w.heap.size w (w.alloc (.cells #[.slice a0 s.headers.length c0,.slice a1 s.metas.length c1,.slice a2 s.states.length c2,.slice a3 s.actions.length c3,.slice a4 s.tables.length c4,.slice a5 s.control.length c5] 34))) := (Below.refl _ _).alloc (Nat.le_refl _) _
 have HX0 : Hid (Blk (w.alloc (.cells #[.slice a0 s.headers.length c0,.slice a1 s.metas.length c1,.slice a2 s.states.length c2,.slice a3 s.actions.length c3,.slice a4 s.tables.length c4,.slice a5 s.control.length c5] 34)) w.heap.size #[.slice a0 s.headers.length c0,.slice a1 s.metas.length c1,.slice a2 s.states.length c2,.slice a3 s.actions.length c3,.slice a4 s.tables.length c4,.slice a5 s.control.length c5] 34) := Blk.new _ _ _
 have HS : Hid (SchIs w (.agg #[.slice a0 s.headers.length c0,.slice a1 s.metas.length c1,.slice a2 s.states.length c2,.slice a3 s.actions.length c3,.slice a4 s.tables.length c4,.slice a5 s.control.length c5]) s) := hs
 have HR : Hid (StgRow w (.slice a5 s.control.length c5) s.control) := h5
 clear hs h0 h1 h2 h3 h4 h5
 have HE : Hid (meetsE s = if sizeE s.control = 0 then mostL s.control 0 else 0) := rfl
 generalize meetsE s = R at *
 go_enter Tryz.func26,Tryz.ntmps26
 go_upto_region 1 with fail
 generalize (w.alloc _) = W0 at HB0 HX0 ⊢
 obtain ⟨xb,hxb⟩ : ∃ xb,xb = w.heap.size := ⟨_,rfl⟩
 rw [← hxb] at HX0 ⊢
 clear hxb
 have C1 : Hid (Calls Tryz.prog 88 #[.agg #[.slice a0 s.headers.length c0,.slice a1 s.metas.length c1,.slice a2 s.states.length c2,.slice a3 s.actions.length c3,.slice a4 s.tables.length c4,.slice a5 s.control.length c5]] W0 fun e w' => StgsOut W0 (W0.heap.size + 1) s.control e w' ∧ Below W0.heap.size W0 w') := rstages_any _ s W0 (HS.out.pres (pres_below HB0.out))
 obtain ⟨x0,x1,x2,x3,x4,x5⟩ := HX0.out.c6
 go_wp2_with fail
 refine C1.out.mono ?_
 rintro e W1 ⟨hO,hb⟩
 have HB1 : Hid (Below w.heap.size w W1) := bst HB0.out hb
 have HX1 := hblk HX0 hb
 clear hb C1 HB0 HX0 HS x0 x1 x2 x3 x4 x5
 rcases hO with ⟨hz,oa1,oc1,vs,rfl,hown,hval,hl⟩ | ⟨hz,rfl⟩
 case inr =>
  have HF : Hid (R = 0) := by show _ = _; rw [HE.out,if_neg hz]
  have hz' : (sizeE s.control == 0) = false := by simpa using hz
  clear HE HX1 HR
  go_wp2
  go_ret
  exact ⟨by rw [HF.out]; rfl,HB1.out⟩
 have HF : Hid (R = max (rmL s.control (0,-1)).1 (rmL s.control (0,-1)).2) := by
  show _ = _
  rw [HE.out,if_pos hz]
  have hsz := size_le hz
  obtain ⟨h1,h2,h3,h4⟩ := rm_val _ s.control (0,-1) 0 0 (Nat.le_refl _) ⟨by simp,by simp,by simp,by simp,by simp⟩ (by omega) (by omega)
  generalize rmL s.control (0,-1) = r at *
  obtain ⟨r1,r2⟩ := r
  simp only [rmV,RmOk] at h1 h2 ⊢
  rw [if_pos (show (0 : Int) ≤ 0 by omega)] at h2
  by_cases c : 0 ≤ r1
  ·rw [if_pos c] at h2; omega
  ·rw [if_neg c] at h2; omega
 have CM : Hid (Calls Tryz.prog 91 #[.slice a5 s.control.length c5] W1 fun e w' => e = .returned (.tuple #[.int .i64 (rmL s.control (0,-1)).1,.int .i64 (rmL s.control (0,-1)).2]) ∧ w' = W1) := rmost_any _ s.control _ W1 (Nat.le_refl _) (HR.out.pres (pres_below HB1.out))
 have x5 := HX1.out.cell 5 (v := .slice a5 s.control.length c5) rfl
 clear hown hval HE hz HR hl
 go_wp2_with fail
 refine CM.out.mono ?_
 rintro e _ ⟨rfl,rfl⟩
 clear CM x5
 go_wp2
 go_ret
 exact ⟨by rw [HF.out]; rfl,HB1.out⟩
end Go.Proofs.YtmbpclknhkbbkaaGreat
