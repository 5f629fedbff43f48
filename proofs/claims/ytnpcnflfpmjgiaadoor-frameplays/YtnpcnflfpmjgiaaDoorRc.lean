/- The document's disks: Write and Flush. -/
import Derived.Test.YtnpcnflfpmjgiaaDoorRb
namespace Go.Proofs.YtnpcnflfpmjgiaaDoor
open Go.RowKit
set_option linter.unusedVariables false
set_option linter.unusedSimpArgs false

theorem info104 : (Tryd.prog.info? 94).map (fun i => (i.zero, i.size, i.bytes)) = some (some (.agg #[.int .i64 0, .string ⟨#[]⟩]), 2, 24) := by kernel_rfl
section
variable {B : Nat} {w : World} {b g cg : Nat} {pv : Value} {S : DS}
theorem Rv.pushed (d : Rv B w b g cg pv S) (p : Nat × ByteArray) (hpn : p.1 < S.safe.length) (hps : p.2.size = 512) (g' cap : Nat) (w6 : World)
    (hown : w6.ownsRow B 94 2 (.slice (some ⟨g', 0, none⟩) (S.wait.length + 1) cap) (S.wait.length + 1) (wcells S.wait ++ [.int .i64 (p.1 : Int), .string p.2])) (hg : w.grownBy w6 pv.ownBlock) (hwh : pv.ownBlock = some g' ∨ g' = w.heap.size) (q : Int) :
    Rv B ((w6.setCell ⟨b, 1, none⟩ (.slice (some ⟨g', 0, none⟩) (S.wait.length + 1) cap)).setCell ⟨b, 5, none⟩ (.int .i64 q)) b g cg (.slice (some ⟨g', 0, none⟩) (S.wait.length + 1) cap) { S with wait := S.wait ++ [p], wr := q } ∧
    Kept (RP b g pv) w ((w6.setCell ⟨b, 1, none⟩ (.slice (some ⟨g', 0, none⟩) (S.wait.length + 1) cap)).setCell ⟨b, 5, none⟩ (.int .i64 q)) ∧
    (∀ k, RP b g (.slice (some ⟨g', 0, none⟩) (S.wait.length + 1) cap) k → RP b g pv k ∨ w.heap.size ≤ k) := by
  have hgb : g' ≠ b ∧ g' ≠ g := by
    rcases hwh with e | e
    · exact d.pb g' e
    · have h1 := d.blk.lt; have h2 := (d.fp g (.inr (.inl rfl))).2; exact ⟨by omega, by omega⟩
  have hk6 : Kept (fun k => pv.ownBlock = some k) w w6 := (Kept.refl _ _).grown hg (fun k e => e)
  have hkb : Kept (fun k => k = b) w6 ((w6.setCell ⟨b, 1, none⟩ (.slice (some ⟨g', 0, none⟩) (S.wait.length + 1) cap)).setCell ⟨b, 5, none⟩ (.int .i64 q)) := Kept.set (S := fun k => k = b) (Kept.set (S := fun k => k = b) (Kept.refl _ _) rfl _) rfl _
  have hka : Kept (fun k => pv.ownBlock = some k ∨ k = b) w ((w6.setCell ⟨b, 1, none⟩ (.slice (some ⟨g', 0, none⟩) (S.wait.length + 1) cap)).setCell ⟨b, 5, none⟩ (.int .i64 q)) := (hk6.mono (fun k _ e => .inl e)).trans (hkb.mono (fun k _ e => .inr e))
  have hpb := fun e => (d.pb b e).1 rfl
  refine ⟨{
    ok := ⟨d.ok.one, d.ok.most, d.ok.size, ?_, ?_, d.ok.cut0, d.ok.cut1, d.ok.idle⟩
    blk := ((d.blk.kept hk6 hpb).set 1 _).set 5 _
    rowG := ownsRow_kept d.rowG hka (fun k e => by simp [Value.ownBlock] at e; subst e; rintro (e | e); exact (d.pb _ e).2 rfl; exact d.bg e.symm)
    rowP := by
      have := ownsRow_kept hown hkb (fun k e => by simp [Value.ownBlock] at e; subst e; exact hgb.1)
      rw [← wcells_snoc] at this
      simpa using this
    bg := d.bg
    pb := fun k e => by simp [Value.ownBlock] at e; subst e; exact hgb
    low := d.low }, hka.mono (fun k _ e => by rcases e with e | e; exact .inr (.inr e); exact .inl e), ?_⟩
  · intro p' hp'
    rcases List.mem_append.1 hp' with h1 | h1
    · exact d.ok.num p' h1
    · rw [List.mem_singleton.1 h1]; exact hpn
  · intro p' hp'
    rcases List.mem_append.1 hp' with h1 | h1
    · exact d.ok.len p' h1
    · rw [List.mem_singleton.1 h1]; exact hps
  · rintro k (e | e | e)
    · exact .inl (.inl e)
    · exact .inl (.inr (.inl e))
    · simp [Value.ownBlock] at e
      subst e
      rcases hwh with q | q
      · exact .inl (.inr (.inr q))
      · exact .inr (by omega)
end
set_option maxHeartbeats 1000000 in
set_option maxRecDepth 100000 in
theorem rwrite_any {B : Nat} {w : World} {b : Nat} {fp : Nat → Prop} {S : DS} (d : Rk B w b fp S) (n : Int) (s : ByteArray) (hfew : S.wait.length < 5864062014000) (hBw : B ≤ w.heap.size) : Calls Tryd.prog 79 #[pt b, .int .i64 n, .string s] w fun e w' => e = .returned (.int .i64 (writeE S n s)) ∧ RLeft B b fp w (writeD S n s) w' := by
  have hL := RLeft.refl d
  obtain ⟨g, cg, pv, rfl, d⟩ := d
  have c0 := d.blk.cell 0 (v := .slice (some ⟨g, 0, none⟩) S.safe.length cg) rfl
  have c2 := d.blk.cell 2 (v := .bool S.off) rfl
  have hml : (S.safe.length : Int) ≤ 4096 := by have := d.ok.most; omega
  unfold pt
  have HL : Hid (RLeft B b (RP b g pv) w S w) := hL
  by_cases ho : S.off = true
  · have HE : Hid (writeE S n s = 40 ∧ writeD S n s = S) := by
      have : refuseD S n = 40 := by unfold refuseD; rw [if_pos ho]
      unfold writeE writeD; rw [this]; exact ⟨rfl, rfl⟩
    rw [HE.out.1, HE.out.2]
    rw [ho] at c2
    clear d hL ho HE hfew hBw
    go_enter Tryd.func79, Tryd.ntmps79
    go_wp2
    go_ret
    exact ⟨rfl, HL.out⟩
  · have ho' : S.off = false := by simpa using ho
    rw [ho'] at c2
    by_cases hr : refuseD S n = 0
    · obtain ⟨m, rfl, hm⟩ := refuse_zero hr
      have hm' : (m : Int) < (S.safe.length : Int) := by omega
      have hm0 : (0 : Int) ≤ (m : Int) := by omega
      by_cases hz : s.size = 512
      · have hz2 : ((s.size : Int) != 512) = false := by rw [hz]; rfl
        have C2 : Hid (Calls Tryd.prog 78 #[.pointer (some ⟨b, 0, none⟩)] w fun e w' => e = .returned (.bool (stepD S).off) ∧ Rv B w' b g cg pv (stepD S) ∧ Kept (fun k => k = b) w w' ∧ w'.heap.size = w.heap.size) := rstep_any d ho'
        by_cases hs : (stepD S).off = true
        · have HE : Hid (writeE S (m : Int) s = 40 ∧ writeD S (m : Int) s = stepD S) := by show _ ∧ _; unfold writeE writeD; simp [hr, hz, hs]
          rw [HE.out.1, HE.out.2]
          rw [hs] at C2
          clear d hL hr HE ho ho' hfew hBw hz hs HL hm
          go_enter Tryd.func79, Tryd.ntmps79
          go_wp2_with fail
          refine C2.out.mono ?_
          rintro e w2 ⟨rfl, hd, hk, hsz⟩
          have hend : Hid (RLeft B b (RP b g pv) w (stepD S) w2) := ⟨_, ⟨g, cg, pv, rfl, hd⟩, hk.mono (fun k _ e => .inl e), fun k e => .inl e⟩
          clear hd hk hsz C2
          go_wp2
          go_ret
          exact ⟨rfl, hend.out⟩
        · have hs' : (stepD S).off = false := by simpa using hs
          have HE : Hid (writeE S (m : Int) s = 0 ∧ writeD S (m : Int) s = { stepD S with wait := S.wait ++ [(m, s)], wr := wrap64 (S.wr + 1) }) := by show _ ∧ _; unfold writeE writeD; simp [hr, hz, hs]
          rw [HE.out.1, HE.out.2]
          rw [hs'] at C2
          obtain ⟨i0, hi, hz0, hz1, hz3⟩ := info_parts info104
          have HM : Hid (m < S.safe.length ∧ s.size = 512 ∧ S.wait.length < 5864062014000) := ⟨hm, hz, hfew⟩
          clear d hL hr HE ho ho' hfew hz hs hs' HL hm
          go_enter Tryd.func79, Tryd.ntmps79
          go_wp2_with fail
          refine C2.out.mono ?_
          rintro e w5 ⟨rfl, hd5, hk5, hsz⟩
          have hb6 : Below w5.heap.size w5 (w5.alloc (.cells #[.int .i64 (m : Int), .string s] 94)) := (Below.refl _ _).alloc (Nat.le_refl _) _
          have hd6 := hd5.below hb6
          have c1 := hd5.blk.cell 1 (v := pv) rfl
          have hblt := hd5.blk.lt
          have HROW : Hid ((w5.alloc (.cells #[.int .i64 (m : Int), .string s] 94)).ownsRow B 94 2 pv S.wait.length (wcells S.wait)) := hd6.rowP
          have HNEW : Hid (∀ (j : Nat) (u : Value), (#[.int .i64 (m : Int), .string s] : Array Value).toList[j]? = some u → (w5.alloc (.cells #[.int .i64 (m : Int), .string s] 94)).cell? ((⟨w5.heap.size, 0, none⟩ : Addr).add j) = some u) := World.news_of_block (Blk.new w5 #[.int .i64 (m : Int), .string s] 94)
          have HN : Hid (∀ u ∈ [Value.int .i64 (m : Int), .string s], u.oneCell' = true) := fun u hu => by simp at hu; rcases hu with rfl | rfl <;> rfl
          have HB : Hid (S.wait.length + 1 ≤ maxLen ∧ (S.wait.length + 1) * 24 ≤ 140737488355328 ∧ B ≤ (w5.alloc (.cells #[.int .i64 (m : Int), .string s] 94)).heap.size) := by
            have := HM.out
            refine ⟨by unfold maxLen; omega, by omega, ?_⟩
            have := hb6.size; omega
          have HSZ : Hid (w5.heap.size = w.heap.size) := hsz
          clear hd5 C2 hsz
          go_wp2_with (at_builtin; refine wpList_append_lies _ rfl _ _ 82 rfl B 94 i0 (.agg #[.int .i64 0, .string ⟨#[]⟩]) 2 24 Tryd.underlying82 hi hz0 hz1 hz3 rfl (by decide) _ _ _ rfl HROW.out ⟨w5.heap.size, 0, none⟩ 1 1 [.int .i64 (m : Int), .string s] rfl rfl HNEW.out HN.out (by decide) HB.out.1 HB.out.2.1 HB.out.2.2 _ rfl ?_)
          intro g' cap w6 hown hgr hwh hlt6
          have hpush := hd6.pushed (m, s) HM.out.1 HM.out.2.1 g' cap w6 hown hgr (by simpa using hwh) (wrap64 (S.wr + 1))
          have hend : Hid (RLeft B b (RP b g pv) w { stepD S with wait := S.wait ++ [(m, s)], wr := wrap64 (S.wr + 1) } ((w6.setCell ⟨b, 1, none⟩ (.slice (some ⟨g', 0, none⟩) (S.wait.length + 1) cap)).setCell ⟨b, 5, none⟩ (.int .i64 (wrap64 (S.wr + 1))))) := by
            obtain ⟨p1, p2, p3⟩ := hpush
            refine ⟨RP b g (.slice (some ⟨g', 0, none⟩) (S.wait.length + 1) cap), ⟨g, cg, _, rfl, p1⟩, ((hk5.mono (fun k _ e => .inl e)).trans (Kept.of_below hb6)).trans p2, fun k e => ?_⟩
            rcases p3 k e with e | e
            · exact .inl e
            · exact .inr (by have := hb6.size; have := HSZ.out; omega)
          have hkx : Kept (fun k => pv.ownBlock = some k) (w5.alloc (.cells #[.int .i64 (m : Int), .string s] 94)) w6 := (Kept.refl _ _).grown hgr (fun k e => e)
          have hb6k := hd6.blk.kept hkx (fun e => (hd6.pb b e).1 rfl)
          have c1' := hb6k.cell 1 (v := pv) rfl
          have f1' := hb6k.frozen 1
          have c5' := hb6k.cell 5 (v := .int .i64 S.wr) rfl
          have f5' := hb6k.frozen 5
          clear hpush hown hgr hwh hd6 hkx hb6k HROW HNEW HN HB c1 hk5 hb6
          go_wp2
          go_ret
          exact ⟨rfl, hend.out⟩
      · have hz2 : ((s.size : Int) != 512) = true := by rw [bne_iff_ne]; omega
        have HE : Hid (writeE S (m : Int) s = 42 ∧ writeD S (m : Int) s = S) := by show _ ∧ _; unfold writeE writeD; simp [hr, hz]
        rw [HE.out.1, HE.out.2]
        clear d hL hr HE ho ho' hfew hBw hz
        go_enter Tryd.func79, Tryd.ntmps79
        go_wp2
        go_ret
        exact ⟨rfl, HL.out⟩
    · have hq : refuseD S n = 41 ∧ (n < 0 ∨ (S.safe.length : Int) ≤ n) := by
        unfold refuseD at hr ⊢
        rw [if_neg ho] at hr ⊢
        split at hr
        · rename_i h; rw [if_pos h]; exact ⟨rfl, h⟩
        · omega
      have HE : Hid (writeE S n s = 41 ∧ writeD S n s = S) := by show _ ∧ _; unfold writeE writeD; rw [hq.1]; simp
      rw [HE.out.1, HE.out.2]
      have hor : n < 0 ∨ (¬ n < 0 ∧ (S.safe.length : Int) ≤ n) := by omega
      clear d hL hr HE ho ho' hq hfew hBw
      rcases hor with h1 | ⟨h1, h2⟩
      all_goals
        go_enter Tryd.func79, Tryd.ntmps79
        go_wp2
        go_ret
        exact ⟨rfl, HL.out⟩
set_option maxHeartbeats 1000000 in
set_option maxRecDepth 100000 in
theorem rflush_any {B : Nat} {w : World} {b : Nat} {fp : Nat → Prop} {S : DS} (d : Rk B w b fp S) : Calls Tryd.prog 50 #[pt b] w fun e w' => e = .returned (.int .i64 (flushE S)) ∧ RLeft B b fp w (flushD S) w' := by
  have hL := RLeft.refl d
  obtain ⟨g, cg, pv, rfl, d⟩ := d
  have c2 := d.blk.cell 2 (v := .bool S.off) rfl
  unfold pt
  have HL : Hid (RLeft B b (RP b g pv) w S w) := hL
  by_cases ho : S.off = true
  · have HE : Hid (flushE S = 40 ∧ flushD S = S) := by
      have hc := d.ok.idle ho
      have : stepD S = S := by unfold stepD; rw [ho, hc]; cases S; simp_all
      unfold flushE flushD; rw [this, if_pos ho, if_pos ho]; exact ⟨rfl, rfl⟩
    rw [HE.out.1, HE.out.2]
    rw [ho] at c2
    clear d hL ho HE
    go_enter Tryd.func50, Tryd.ntmps50
    go_wp2
    go_ret
    exact ⟨rfl, HL.out⟩
  · have ho' : S.off = false := by simpa using ho
    rw [ho'] at c2
    have C2 : Hid (Calls Tryd.prog 78 #[.pointer (some ⟨b, 0, none⟩)] w fun e w' => e = .returned (.bool (stepD S).off) ∧ Rv B w' b g cg pv (stepD S) ∧ Kept (fun k => k = b) w w' ∧ w'.heap.size = w.heap.size) := rstep_any d ho'
    by_cases hs : (stepD S).off = true
    · have HE : Hid (flushE S = 40 ∧ flushD S = stepD S) := by unfold flushE flushD; rw [if_pos hs, if_pos hs]; exact ⟨rfl, rfl⟩
      rw [HE.out.1, HE.out.2]
      rw [hs] at C2
      clear d hL HE ho ho' hs HL
      go_enter Tryd.func50, Tryd.ntmps50
      go_wp2_with fail
      refine C2.out.mono ?_
      rintro e w2 ⟨rfl, hd, hk, hsz⟩
      have hend : Hid (RLeft B b (RP b g pv) w (stepD S) w2) := ⟨_, ⟨g, cg, pv, rfl, hd⟩, hk.mono (fun k _ e => .inl e), fun k e => .inl e⟩
      clear hd hk hsz C2
      go_wp2
      go_ret
      exact ⟨rfl, hend.out⟩
    · have hs' : (stepD S).off = false := by simpa using hs
      have HE : Hid (flushE S = 0 ∧ flushD S = { stepD S with safe := over S.safe S.wait, wait := [], fl := wrap64 (S.fl + 1) }) := by unfold flushE flushD; rw [if_neg hs, if_neg hs]; exact ⟨rfl, rfl⟩
      rw [HE.out.1, HE.out.2]
      rw [hs'] at C2
      have hwl : S.wait.length ≤ maxLen := by
        rcases d.rowP.2 with ⟨_, h0⟩ | ⟨_, _, _, _, _, _, h1, h2, _⟩ <;> omega
      unfold maxLen at hwl
      have hwi : (S.wait.length : Int) ≤ 9223372036854775807 := by omega
      obtain ⟨pa, pc, rfl⟩ := ownsRow_slice d.rowP
      clear d hL HE ho ho' hs hs' HL
      go_enter Tryd.func50, Tryd.ntmps50
      go_wp2_with fail
      refine C2.out.mono ?_
      rintro e w2 ⟨rfl, hd2, hk2, hsz⟩
      have HD2 : Hid (Rv B w2 b g cg (.slice pa S.wait.length pc) { stepD S with safe := over S.safe (S.wait.take 0) }) := hd2
      have HK2 : Hid (Kept (RP b g (.slice pa S.wait.length pc)) w w2) := hk2.mono (fun k _ e => .inl e)
      clear hd2 hk2 C2 hsz
      go_wp2_with fail
      go_loopw [4] (fun t wa => ∃ k : Nat, k ≤ S.wait.length ∧ t = .int .i64 k ∧ Rv B wa b g cg (.slice pa S.wait.length pc) { stepD S with safe := over S.safe (S.wait.take k) } ∧ Kept (RP b g (.slice pa S.wait.length pc)) w wa) (fun t _ => S.wait.length - (intOf t).toNat)
      case atStart => exact ⟨0, Nat.zero_le _, rfl, HD2.out, HK2.out⟩
      case round =>
        obtain ⟨k, hk, rfl, hD, hK⟩ := hrel
        clear HD2 HK2
        have c1 := hD.blk.cell 1 (v := .slice pa S.wait.length pc) rfl
        have hll : (over S.safe (S.wait.take k)).length = S.safe.length := length_over _ _
        by_cases hlt : k < S.wait.length
        · have hk' : (k : Int) < (S.wait.length : Int) := by omega
          have hp : S.wait[k]? = some (S.wait[k]) := List.getElem?_eq_getElem hlt
          generalize S.wait[k] = p at *
          have hpm := List.mem_of_getElem? hp
          have hpn : p.1 < (over S.safe (S.wait.take k)).length := hD.ok.num p hpm
          have hps : p.2.size = 512 := hD.ok.len p hpm
          obtain ⟨pg, rfl⟩ : ∃ pg, pa = some ⟨pg, 0, none⟩ := by
            rcases hD.rowP.2 with ⟨_, h0⟩ | ⟨pg, cap, cur, e, _⟩
            · exact absurd h0 (by show ¬ S.wait.length = 0; omega)
            · injection e with e; exact ⟨pg, e⟩
          obtain ⟨e1, e2⟩ := wcells_at S.wait k p hp
          have p1 := (hD.rowP.cellAt (k * 2) (by show k * 2 < S.wait.length * 2; omega)).trans e1
          have p2 := (hD.rowP.cellAt (k * 2 + 1) (by show k * 2 + 1 < S.wait.length * 2; omega)).trans e2
          have c0 := hD.blk.cell 0 (v := .slice (some ⟨g, 0, none⟩) (over S.safe (S.wait.take k)).length cg) rfl
          have cg0 := rsafe_at hD hpn
          have fg0 := hD.rowG.frozenAt p.1
          have hend : Hid (Rv B (wr.setCell ⟨g, p.1, none⟩ (.string p.2)).drew b g cg (.slice (some ⟨pg, 0, none⟩) S.wait.length pc) { stepD S with safe := over S.safe (S.wait.take (k + 1)) } ∧ Kept (RP b g (.slice (some ⟨pg, 0, none⟩) S.wait.length pc)) w (wr.setCell ⟨g, p.1, none⟩ (.string p.2)).drew) := by
            have hov : over S.safe (S.wait.take (k + 1)) = (over S.safe (S.wait.take k)).set p.1 p.2 := by rw [List.take_add_one, hp]; exact over_snoc _ _ _
            rw [hov]
            exact ⟨(hD.setG p.1 p.2 hps).drew, (hK.set (p := ⟨g, p.1, none⟩) (.inr (.inl rfl)) _).drew⟩
          have hlm : ((over S.safe (S.wait.take k)).length : Int) ≤ 4096 := by have := hD.ok.most; show ((over S.safe (S.wait.take k)).length : Int) ≤ 4096; simp only at this; omega
          have hpn' : (p.1 : Int) < ((over S.safe (S.wait.take k)).length : Int) := by omega
          have hngp : ¬ pg = g := (hD.pb pg rfl).2
          have hngp2 : ¬ g = pg := fun e => hngp e.symm
          have hngb : ¬ g = b := fun e => hD.bg e.symm
          have hngb2 : ¬ b = g := hD.bg
          generalize hLn : (over S.safe (S.wait.take k)).length = Ln at *
          clear hD hK hp hpm e1 e2 hLn hll
          go_wp2_with fail
          go_region
          go_wp2
          go_roundw
          case rel => exact ⟨k + 1, by omega, by go_num, hend.out⟩
          case measure => simp [intOf]; omega
        · have hk' : ¬ (k : Int) < (S.wait.length : Int) := by omega
          rw [List.take_of_length_le (by omega)] at hD
          have f1 := hD.blk.frozen 1
          have c6 := hD.blk.cell 6 (v := .int .i64 S.fl) rfl
          have f6 := hD.blk.frozen 6
          have hend : Hid (RLeft B b (RP b g (.slice pa S.wait.length pc)) w { stepD S with safe := over S.safe S.wait, wait := [], fl := wrap64 (S.fl + 1) } ((wr.setCell ⟨b, 1, none⟩ (.slice none 0 0)).setCell ⟨b, 6, none⟩ (.int .i64 (wrap64 (S.fl + 1))))) := by
            have h1 := hD.emptied
            have hk3 : Kept (fun k => k = b) (wr.setCell ⟨b, 1, none⟩ (.slice none 0 0)) ((wr.setCell ⟨b, 1, none⟩ (.slice none 0 0)).setCell ⟨b, 6, none⟩ (.int .i64 (wrap64 (S.fl + 1)))) := Kept.set (S := fun k => k = b) (Kept.refl _ _) rfl _
            refine ⟨RP b g (.slice none 0 0), ⟨g, cg, _, rfl, h1.upd hk3 (h1.blk.set 6 _) ⟨h1.ok.one, h1.ok.most, h1.ok.size, h1.ok.num, h1.ok.len, h1.ok.cut0, h1.ok.cut1, h1.ok.idle⟩ rfl rfl⟩, (hK.set (p := ⟨b, 1, none⟩) (.inl rfl) _).trans (hk3.mono (fun k _ e => .inl e)), ?_⟩
            rintro i (e | e | e)
            · exact .inl (.inl e)
            · exact .inl (.inr (.inl e))
            · simp [Value.ownBlock] at e
          clear hD hK hll
          go_wp2
          go_ret
          exact ⟨rfl, hend.out⟩
end Go.Proofs.YtnpcnflfpmjgiaaDoor
