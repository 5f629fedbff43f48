/- The document's stages, from above, behind others. -/
import Derived.Test.YtmbpclknhkbbkaaGreatGa
import Derived.Test.YtmbpclknhkbbkaaGreatB20
import Derived.Deep.AppendLies
set_option linter.unusedSimpArgs false
set_option linter.unusedVariables false
namespace Go.Proofs.YtmbpclknhkbbkaaGreat
open Go.RowKit
set_option linter.unusedVariables false
set_option linter.unusedSimpArgs false

theorem info135 : (Tryz.prog.info? 135).map (fun i => (i.zero,i.size,i.bytes)) = some (some (.agg #[.int .i64 0,.string ⟨#[]⟩,.int .i64 0,.string ⟨#[]⟩,.string ⟨#[]⟩,.int .u64 0,.int .u64 0,.string ⟨#[]⟩,.string ⟨#[]⟩,.int .u64 0,.int .u64 0,.slice none 0 0,.slice none 0 0,.int .i64 0]),14,184) := by kernel_rfl
/-- The cells of a list of stages with their depths; what the stages hold lies in w. -/
def OutV (w : World) : List (Stg × Int) → List Value → Prop
 | [],vs => vs = []
 | p :: l,vs => ∃ cs rest,StgIs w p.1 cs ∧ vs = cs.toList ++ (.int .i64 p.2 :: rest) ∧ OutV w l rest
theorem OutV.snoc {w : World} {y : Stg} {d : Int} {cs : Array Value} (hy : StgIs w y cs) : ∀ {l : List (Stg × Int)} {vs : List Value},OutV w l vs → OutV w (l ++ [(y,d)]) (vs ++ (cs.toList ++ [.int .i64 d]))
 | [],vs,h => by
  have h : vs = [] := h
  subst h
  exact ⟨cs,[],hy,by simp,rfl⟩
 | p :: l,vs,h => by
  obtain ⟨c,rest,h1,rfl,h2⟩ := h
  exact ⟨c,_,h1,by simp,h2.snoc hy⟩
/-- A row of our own of such stages. -/
structure DOut (w0 : World) (B : Nat) (w : World) (out : List (Stg × Int)) (sv : Value) (vs : List Value) (w' : World) : Prop where
 own : w'.ownsRow B 135 14 sv out.length vs
 val : OutV w0 out vs
 kept : Kept (fun k => B ≤ k) w w'
 len : out.length ≤ 129
 base : B ≤ w.heap.size
theorem DOut.slice {w0 : World} {B : Nat} {w : World} {out : List (Stg × Int)} {sv : Value} {vs : List Value} {w' : World} (h : DOut w0 B w out sv vs w') : ∃ oa oc,sv = .slice oa out.length oc := by
 rcases h.own.2 with ⟨rfl,h0⟩ | ⟨g,cap,cur,rfl,_⟩
 ·exact ⟨none,0,by rw [h0]⟩
 ·exact ⟨_,_,rfl⟩
theorem DOut.block {w0 : World} {B : Nat} {w : World} {out : List (Stg × Int)} {sv : Value} {vs : List Value} {w' : World} (h : DOut w0 B w out sv vs w') (g : Nat) (e : sv.ownBlock = some g) : B ≤ g := by
 rcases h.own.2 with ⟨rfl,_⟩ | ⟨g2,cap2,cur2,rfl,hb2,_⟩
 ·cases e
 ·have : g = g2 := by simpa [Value.ownBlock] using e.symm
  rw [this]; exact hb2
theorem new_cells (w : World) (cs : List Value) (t : TypeId) : ∀ j u,cs[j]? = some u → (w.alloc (.cells cs.toArray t)).cell? ((⟨w.heap.size,0,none⟩ : Addr).add j) = some u := by
 intro j u hj
 have h := (Blk.new w cs.toArray t).cell j (v := u) (by simpa using hj)
 have e : (⟨w.heap.size,0,none⟩ : Addr).add j = ⟨w.heap.size,j,none⟩ := by
  unfold Addr.add
  by_cases h0 : j = 0
  ·simp [h0]
  ·simp [h0]
 rw [e]
 exact h
theorem dst_len : ∀ (N : Nat) (xs : List Stg) (d : Int) (out : List (Stg × Int)),szL xs ≤ N → out.length ≤ 129 → (dstL xs d out).length ≤ 129 := by
 intro N xs d out hN h
 rw [dst_pre N xs d out hN,List.length_append,List.length_take]
 omega
set_option maxHeartbeats 8000000 in
set_option maxRecDepth 100000 in
theorem dst_any (w0 : World) (B : Nat) (hB0 : w0.heap.size ≤ B) : ∀ (N : Nat) (xs : List Stg) (v : Value) (w : World) (out : List (Stg × Int)) (vs : List Value) (sv : Value) (d : Int),szL xs ≤ N → StgRow w0 v xs → Below w0.heap.size w0 w → DOut w0 B w out sv vs w →
  Calls Tryz.prog 172 #[sv,v,.int .i64 d] w fun e w' => ∃ sv' vs',e = .returned sv' ∧ DOut w0 B w (dstL xs d out) sv' vs' w' := by
 intro N
 induction N using Nat.strongRecOn with
 | _ N ih =>
  intro xs v w out vs sv d hN hr hB hO
  obtain ⟨ad,cap,rfl,_⟩ := hr.slice
  obtain ⟨oa,oc,rfl⟩ := hO.slice
  have hlen : xs.length * 176 ≤ 140737488351232 := (stgRow_row hr).2
  obtain ⟨i0,hif,hz0,hz1,hz3⟩ := info_of info135
  have HR : Hid (StgRow w0 (.slice ad xs.length cap) xs) := hr
  have HB : Hid (Below w0.heap.size w0 w) := hB
  have HSZ : Hid (szL xs ≤ N) := hN
  have HIH : Hid (∀ M,M < N → ∀ (xs : List Stg) (v : Value) (w : World) (out : List (Stg × Int)) (vs : List Value) (sv : Value) (d : Int),szL xs ≤ M → StgRow w0 v xs → Below w0.heap.size w0 w → DOut w0 B w out sv vs w → Calls Tryz.prog 172 #[sv,v,.int .i64 d] w fun e w' => ∃ sv' vs',e = .returned sv' ∧ DOut w0 B w (dstL xs d out) sv' vs' w') := ih
  have HB0 : Hid (w0.heap.size ≤ B) := hB0
  obtain ⟨n,hn⟩ : ∃ n,n = xs.length := ⟨_,rfl⟩
  have HN : Hid (n = xs.length) := hn
  obtain ⟨R,hR⟩ : ∃ R,R = dstL xs d out := ⟨_,rfl⟩
  obtain ⟨m,hm⟩ : ∃ m,m = out.length := ⟨_,rfl⟩
  have HO : Hid (m = out.length ∧ dstL (xs.drop 0) d out = R ∧ DOut w0 B w out (.slice oa m oc) vs w) := ⟨hm,hR.symm,by rw [hm]; exact hO⟩
  rw [← hn] at hlen HR ⊢
  rw [← hR,← hm]
  clear hn hr hN hB hO ih hB0 hR hm
  go_enter Tryz.func172,Tryz.ntmps172
  go_wp2_with fail
  go_loopw [0,7] (fun o i wr => ∃ (k m : Nat) (cur : List (Stg × Int)) (vs : List Value) (oa : Option Addr) (oc : Nat),k ≤ n ∧ o = .slice oa m oc ∧ i = .int .i64 k ∧ Aside (m = cur.length ∧ dstL (xs.drop k) d cur = R ∧ DOut w0 B w cur (.slice oa m oc) vs wr)) (fun _ i _ => n - (intOf i).toNat)
  case atStart => exact ⟨0,m,out,vs,oa,oc,by omega,rfl,rfl,HO.out⟩
  case round =>
   clear HO
   obtain ⟨k,m,cur,vs,oa,oc,hk,rfl,rfl,hA⟩ := hrel
   have HA : Hid (m = cur.length ∧ dstL (xs.drop k) d cur = R ∧ DOut w0 B w cur (.slice oa m oc) vs wr) := hA.out
   have hm129 : m ≤ 129 := by rw [HA.out.1]; exact HA.out.2.2.len
   clear hA
   by_cases hlt : k < n
   ·by_cases hfull : m ≤ 128
    ·obtain ⟨y,hy⟩ : ∃ y,xs[k]? = some y := ⟨xs[k]'(by rw [← HN.out]; exact hlt),List.getElem?_eq_getElem _⟩
     obtain ⟨b,o,cs,rfl,_,hcc,hIs⟩ := (stgRow_row HR.out).1.at hy
     obtain ⟨v1,v2,rfl,hok,hth,hel⟩ := (stgIs_iff w0 y cs).1 hIs
     obtain ⟨ta,tc,rfl,_⟩ := hth.slice
     obtain ⟨ea,ec,rfl,_⟩ := hel.slice
     have HTh : Hid (StgRow w0 (.slice ta y.thn.length tc) y.thn) := hth
     have HEl : Hid (StgRow w0 (.slice ea y.els.length ec) y.els) := hel
     have HIs : Hid (StgIs w0 y #[.int .i64 y.kind,.string y.table,.int .i64 y.test.kind,.string y.test.a.ref.head,.string y.test.a.ref.name,.int .u64 (hiOf y.test.a.const),.int .u64 (loOf y.test.a.const),.string y.test.b.ref.head,.string y.test.b.ref.name,.int .u64 (hiOf y.test.b.const),.int .u64 (loOf y.test.b.const),.slice ta y.thn.length tc,.slice ea y.els.length ec]) := hIs
     have HY : Hid (szL y.thn < N ∧ szL y.els < N) := by
      have h1 := szL_mem hy
      have h2 := HSZ.out
      rw [szS_eq] at h1
      exact ⟨by omega,by omega⟩
     have HQ : Hid (∀ W,Below w0.heap.size w0 W → W.cell? ⟨b,o + k * 13 + 11,none⟩ = some (.slice ta y.thn.length tc) ∧ W.cell? ⟨b,o + k * 13 + 12,none⟩ = some (.slice ea y.els.length ec)) := by
      intro W hW
      have hpw := pres_below hW
      exact ⟨by have := hpw _ _ (hcc 11 _ rfl); simpa using this,by have := hpw _ _ (hcc 12 _ rfl); simpa using this⟩
     have HS : Hid (R = dstL (xs.drop (k + 1)) d (dstL y.els (wrap64 (d + 1)) (dstL y.thn (wrap64 (d + 1)) (cur ++ [(y,d)])))) := by
      show _ = _
      rw [← HA.out.2.1,dst_step hy,if_pos (by rw [← HA.out.1]; exact hfull),dstS_eq]
     have HBr : Hid (Below w0.heap.size w0 wr) := HB.out.trans (HA.out.2.2.kept.below HB.out.size (fun k e => Nat.le_trans HB0.out e))
     have R1 : Hid (wr.rangeAt b (o + k * 13) [.int .i64 y.kind,.string y.table,.int .i64 y.test.kind,.string y.test.a.ref.head,.string y.test.a.ref.name,.int .u64 (hiOf y.test.a.const),.int .u64 (loOf y.test.a.const),.string y.test.b.ref.head,.string y.test.b.ref.name,.int .u64 (hiOf y.test.b.const),.int .u64 (loOf y.test.b.const),.slice ta y.thn.length tc,.slice ea y.els.length ec]) := fun j u hu => pres_below HBr.out _ _ (hcc j u (by simpa using hu))
     have hz' : (Tryz.prog.info? 127).map (·.size) = some ([.int .i64 y.kind,.string y.table,.int .i64 y.test.kind,.string y.test.a.ref.head,.string y.test.a.ref.name,.int .u64 (hiOf y.test.a.const),.int .u64 (loOf y.test.a.const),.string y.test.b.ref.head,.string y.test.b.ref.name,.int .u64 (hiOf y.test.b.const),.int .u64 (loOf y.test.b.const),.slice ta y.thn.length tc,.slice ea y.els.length ec] : List Value).length := isz127
     have hd : decide ((k : Int) < n) = true := decide_eq_true (by omega)
     have hd2 : decide ((m : Int) ≤ 128) = true := decide_eq_true (by omega)
     clear hcc hIs hth hel hok hy
     have hsz : B ≤ wr.heap.size := Nat.le_trans HA.out.2.2.base HA.out.2.2.kept.size
     have HRA : Hid ((wr.alloc (.cells #[.int .i64 y.kind,.string y.table,.int .i64 y.test.kind,.string y.test.a.ref.head,.string y.test.a.ref.name,.int .u64 (hiOf y.test.a.const),.int .u64 (loOf y.test.a.const),.string y.test.b.ref.head,.string y.test.b.ref.name,.int .u64 (hiOf y.test.b.const),.int .u64 (loOf y.test.b.const),.slice ta y.thn.length tc,.slice ea y.els.length ec,.int .i64 d] 135)).ownsRow B 135 14 (.slice oa m oc) m vs) := by
      have h := ownsRow_kept (S := fun _ => False) HA.out.2.2.own (Kept.of_below ((Below.refl _ _).alloc (Nat.le_refl _) (.cells #[.int .i64 y.kind,.string y.table,.int .i64 y.test.kind,.string y.test.a.ref.head,.string y.test.a.ref.name,.int .u64 (hiOf y.test.a.const),.int .u64 (loOf y.test.a.const),.string y.test.b.ref.head,.string y.test.b.ref.name,.int .u64 (hiOf y.test.b.const),.int .u64 (loOf y.test.b.const),.slice ta y.thn.length tc,.slice ea y.els.length ec,.int .i64 d] 135))) (fun _ _ e => e)
      rwa [← HA.out.1] at h
     have HEND : Hid (∀ (w6 : World) (g cap : Nat),(wr.alloc (.cells #[.int .i64 y.kind,.string y.table,.int .i64 y.test.kind,.string y.test.a.ref.head,.string y.test.a.ref.name,.int .u64 (hiOf y.test.a.const),.int .u64 (loOf y.test.a.const),.string y.test.b.ref.head,.string y.test.b.ref.name,.int .u64 (hiOf y.test.b.const),.int .u64 (loOf y.test.b.const),.slice ta y.thn.length tc,.slice ea y.els.length ec,.int .i64 d] 135)).grownBy w6 (Value.slice oa m oc).ownBlock → w6.ownsRow B 135 14 (.slice (some ⟨g,0,none⟩) (m + 1) cap) (m + 1) (vs ++ [.int .i64 y.kind,.string y.table,.int .i64 y.test.kind,.string y.test.a.ref.head,.string y.test.a.ref.name,.int .u64 (hiOf y.test.a.const),.int .u64 (loOf y.test.a.const),.string y.test.b.ref.head,.string y.test.b.ref.name,.int .u64 (hiOf y.test.b.const),.int .u64 (loOf y.test.b.const),.slice ta y.thn.length tc,.slice ea y.els.length ec,.int .i64 d]) → DOut w0 B w (cur ++ [(y,d)]) (.slice (some ⟨g,0,none⟩) (m + 1) cap) (vs ++ [.int .i64 y.kind,.string y.table,.int .i64 y.test.kind,.string y.test.a.ref.head,.string y.test.a.ref.name,.int .u64 (hiOf y.test.a.const),.int .u64 (loOf y.test.a.const),.string y.test.b.ref.head,.string y.test.b.ref.name,.int .u64 (hiOf y.test.b.const),.int .u64 (loOf y.test.b.const),.slice ta y.thn.length tc,.slice ea y.els.length ec,.int .i64 d]) w6) := fun w6 g cap hg hown => by
      have k1 : Kept (fun k => B ≤ k) wr w6 := (Kept.of_below ((Below.refl wr.heap.size wr).alloc (Nat.le_refl _) (.cells #[.int .i64 y.kind,.string y.table,.int .i64 y.test.kind,.string y.test.a.ref.head,.string y.test.a.ref.name,.int .u64 (hiOf y.test.a.const),.int .u64 (loOf y.test.a.const),.string y.test.b.ref.head,.string y.test.b.ref.name,.int .u64 (hiOf y.test.b.const),.int .u64 (loOf y.test.b.const),.slice ta y.thn.length tc,.slice ea y.els.length ec,.int .i64 d] 135))).grown hg (fun k e => HA.out.2.2.block k e)
      refine ⟨?_,?_,HA.out.2.2.kept.trans k1,?_,HA.out.2.2.base⟩
      ·rw [List.length_append,← HA.out.1]; exact hown
      ·exact HA.out.2.2.val.snoc HIs.out
      ·rw [List.length_append,← HA.out.1]; show m + 1 ≤ 129; omega
     have h63 : m + 1 ≤ maxLen := by unfold maxLen; omega
     have hby : (m + 1) * 184 ≤ 140737488355328 := by omega
     have hbs : B ≤ (wr.alloc (.cells #[.int .i64 y.kind,.string y.table,.int .i64 y.test.kind,.string y.test.a.ref.head,.string y.test.a.ref.name,.int .u64 (hiOf y.test.a.const),.int .u64 (loOf y.test.a.const),.string y.test.b.ref.head,.string y.test.b.ref.name,.int .u64 (hiOf y.test.b.const),.int .u64 (loOf y.test.b.const),.slice ta y.thn.length tc,.slice ea y.els.length ec,.int .i64 d] 135)).heap.size := by rw [World.size_alloc]; omega
     have hone : ∀ u ∈ ([.int .i64 y.kind,.string y.table,.int .i64 y.test.kind,.string y.test.a.ref.head,.string y.test.a.ref.name,.int .u64 (hiOf y.test.a.const),.int .u64 (loOf y.test.a.const),.string y.test.b.ref.head,.string y.test.b.ref.name,.int .u64 (hiOf y.test.b.const),.int .u64 (loOf y.test.b.const),.slice ta y.thn.length tc,.slice ea y.els.length ec,.int .i64 d] : List Value),u.oneCell' = true := by
      intro u hu
      simp only [List.mem_cons,List.not_mem_nil,or_false] at hu
      rcases hu with rfl | rfl | rfl | rfl | rfl | rfl | rfl | rfl | rfl | rfl | rfl | rfl | rfl | rfl <;> rfl
     go_wp2_with (first | (refine wpList_load_mid rfl 127 _ rfl b (o + k * 13) rfl [.int .i64 y.kind,.string y.table,.int .i64 y.test.kind,.string y.test.a.ref.head,.string y.test.a.ref.name,.int .u64 (hiOf y.test.a.const),.int .u64 (loOf y.test.a.const),.string y.test.b.ref.head,.string y.test.b.ref.name,.int .u64 (hiOf y.test.b.const),.int .u64 (loOf y.test.b.const),.slice ta y.thn.length tc,.slice ea y.els.length ec] _ R1.out Tryz.underlying127 rfl hz' ?_) | (at_builtin; refine wpList_append_lies _ rfl _ _ 131 rfl B 135 i0 (.agg #[.int .i64 0,.string ⟨#[]⟩,.int .i64 0,.string ⟨#[]⟩,.string ⟨#[]⟩,.int .u64 0,.int .u64 0,.string ⟨#[]⟩,.string ⟨#[]⟩,.int .u64 0,.int .u64 0,.slice none 0 0,.slice none 0 0,.int .i64 0]) 14 184 Tryz.underlying131 hif hz0 hz1 hz3 rfl (by decide) _ _ _ rfl HRA.out ⟨wr.heap.size,0,none⟩ 1 1 [.int .i64 y.kind,.string y.table,.int .i64 y.test.kind,.string y.test.a.ref.head,.string y.test.a.ref.name,.int .u64 (hiOf y.test.a.const),.int .u64 (loOf y.test.a.const),.string y.test.b.ref.head,.string y.test.b.ref.name,.int .u64 (hiOf y.test.b.const),.int .u64 (loOf y.test.b.const),.slice ta y.thn.length tc,.slice ea y.els.length ec,.int .i64 d] rfl rfl (new_cells wr [.int .i64 y.kind,.string y.table,.int .i64 y.test.kind,.string y.test.a.ref.head,.string y.test.a.ref.name,.int .u64 (hiOf y.test.a.const),.int .u64 (loOf y.test.a.const),.string y.test.b.ref.head,.string y.test.b.ref.name,.int .u64 (hiOf y.test.b.const),.int .u64 (loOf y.test.b.const),.slice ta y.thn.length tc,.slice ea y.els.length ec,.int .i64 d] 135) hone (by decide) h63 hby hbs _ rfl ?_; intro g1 cap1 w6 hown hgr hwh hlt6; have HD1 : Hid (DOut w0 B w (cur ++ [(y,d)]) (.slice (some ⟨g1,0,none⟩) (m + 1) cap1) (vs ++ [.int .i64 y.kind,.string y.table,.int .i64 y.test.kind,.string y.test.a.ref.head,.string y.test.a.ref.name,.int .u64 (hiOf y.test.a.const),.int .u64 (loOf y.test.a.const),.string y.test.b.ref.head,.string y.test.b.ref.name,.int .u64 (hiOf y.test.b.const),.int .u64 (loOf y.test.b.const),.slice ta y.thn.length tc,.slice ea y.els.length ec,.int .i64 d]) w6) := HEND.out w6 g1 cap1 hgr hown; have HB1 : Hid (Below w0.heap.size w0 w6) := HB.out.trans (HD1.out.kept.below HB.out.size (fun k e => Nat.le_trans HB0.out e)); obtain ⟨q1,_⟩ := HQ.out _ HB1.out; clear hown hgr hwh hlt6 HEND HRA hone R1 hbs hsz))
     have C1 : Hid (Calls Tryz.prog 172 #[.slice (some ⟨g1,0,none⟩) (m + 1) cap1,.slice ta y.thn.length tc,.int .i64 (wrap64 (d + 1))] w6 fun e w' => ∃ sv' vs',e = .returned sv' ∧ DOut w0 B w6 (dstL y.thn (wrap64 (d + 1)) (cur ++ [(y,d)])) sv' vs' w') := HIH.out _ HY.out.1 y.thn _ w6 _ _ _ _ (Nat.le_refl _) HTh.out HB1.out ⟨HD1.out.own,HD1.out.val,Kept.refl _ _,HD1.out.len,Nat.le_trans HD1.out.base HD1.out.kept.size⟩
     refine C1.out.mono ?_
     rintro e W2 ⟨sv2,vs2,rfl,hO2⟩
     obtain ⟨oa2,oc2,rfl⟩ := hO2.slice
     have HD2 : Hid (DOut w0 B w (dstL y.thn (wrap64 (d + 1)) (cur ++ [(y,d)])) (.slice oa2 (dstL y.thn (wrap64 (d + 1)) (cur ++ [(y,d)])).length oc2) vs2 W2) := ⟨hO2.own,hO2.val,HD1.out.kept.trans hO2.kept,hO2.len,HD1.out.base⟩
     have HB2 : Hid (Below w0.heap.size w0 W2) := HB.out.trans (HD2.out.kept.below HB.out.size (fun k e => Nat.le_trans HB0.out e))
     obtain ⟨_,q2⟩ := HQ.out _ HB2.out
     clear hO2 C1 q1 HD1 HB1
     have C2 : Hid (Calls Tryz.prog 172 #[.slice oa2 (dstL y.thn (wrap64 (d + 1)) (cur ++ [(y,d)])).length oc2,.slice ea y.els.length ec,.int .i64 (wrap64 (d + 1))] W2 fun e w' => ∃ sv' vs',e = .returned sv' ∧ DOut w0 B W2 (dstL y.els (wrap64 (d + 1)) (dstL y.thn (wrap64 (d + 1)) (cur ++ [(y,d)]))) sv' vs' w') := HIH.out _ HY.out.2 y.els _ W2 _ _ _ _ (Nat.le_refl _) HEl.out HB2.out ⟨HD2.out.own,HD2.out.val,Kept.refl _ _,HD2.out.len,Nat.le_trans HD2.out.base HD2.out.kept.size⟩
     generalize (dstL y.thn (wrap64 (d + 1)) (cur ++ [(y,d)])).length = m2 at C2 ⊢
     go_wp2_with fail
     refine C2.out.mono ?_
     rintro e W3 ⟨sv3,vs3,rfl,hO3⟩
     obtain ⟨oa3,oc3,rfl⟩ := hO3.slice
     have HD3 : Hid (DOut w0 B w (dstL y.els (wrap64 (d + 1)) (dstL y.thn (wrap64 (d + 1)) (cur ++ [(y,d)]))) (.slice oa3 (dstL y.els (wrap64 (d + 1)) (dstL y.thn (wrap64 (d + 1)) (cur ++ [(y,d)]))).length oc3) vs3 W3) := ⟨hO3.own,hO3.val,HD2.out.kept.trans hO3.kept,hO3.len,HD2.out.base⟩
     clear hO3 C2 q2 HD2 HB2
     generalize dstL y.els (wrap64 (d + 1)) (dstL y.thn (wrap64 (d + 1)) (cur ++ [(y,d)])) = L3 at HD3 HS ⊢
     obtain ⟨m3,hm3⟩ : ∃ m3,m3 = L3.length := ⟨_,rfl⟩
     rw [← hm3] at HD3 ⊢
     have HM3 : Hid (m3 = L3.length) := hm3
     clear hm3
     go_wp2
     exact ⟨⟨k + 1,m3,L3,vs3,oa3,oc3,by omega,rfl,by go_num,⟨HM3.out,HS.out.symm,HD3.out⟩⟩,by simp only [intOf]; omega⟩
    ·have HF : Hid (R = cur) := by
      show _ = _
      obtain ⟨y,hy⟩ : ∃ y,xs[k]? = some y := ⟨xs[k]'(by rw [← HN.out]; exact hlt),List.getElem?_eq_getElem _⟩
      rw [← HA.out.2.1,dst_step hy,if_neg (by rw [← HA.out.1]; omega)]
     have hd : decide ((k : Int) < n) = true := decide_eq_true (by omega)
     have hd2 : decide ((m : Int) ≤ 128) = false := decide_eq_false (by omega)
     go_wp2
     go_ret
     exact ⟨_,vs,rfl,by rw [HF.out]; exact HA.out.2.2⟩
   ·have e : k = n := by omega
    subst e
    have HF : Hid (R = cur) := by
     show _ = _
     rw [← HA.out.2.1,List.drop_of_length_le (by rw [← HN.out]; omega),dstL]
    have hd : decide ((k : Int) < k) = false := decide_eq_false (by omega)
    go_wp2
    go_ret
    exact ⟨_,vs,rfl,by rw [HF.out]; exact HA.out.2.2⟩
end Go.Proofs.YtmbpclknhkbbkaaGreat
