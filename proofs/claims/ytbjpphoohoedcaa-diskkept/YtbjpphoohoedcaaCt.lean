/- The walk of DiskKept: true; older memory is as it was. -/
import Derived.Test.YtbjpphoohoedcaaCs
namespace Go.Proofs.Ytbjpphoohoedcaa
open Go.RowKit
set_option linter.unusedVariables false
set_option linter.unusedSimpArgs false

set_option maxHeartbeats 4000000 in
set_option maxRecDepth 100000 in
theorem kept_walk (sectors more : Int) (hs1 : I64 sectors) (hs2 : I64 more) (ps qs : List Pu) (a1 a2 : Option Addr) (c1 c2 : Nat) (w : World) (hv1 : PtsV w ps a1) (hv2 : PtsV w qs a2) (hl1 : ps.length ≤ 8796093021952) (hl2 : qs.length ≤ 8796093021952) :
    Calls Try.prog 6 #[.int .i64 sectors, .slice a1 ps.length c1, .slice a2 qs.length c2, .int .i64 more] w fun e w' => e = .returned (.bool true) ∧ Below w.heap.size w w' := by
  have hr6 := pickI_range sectors 6 (by omega)
  have hr3 := pickI_range more 3 (by omega)
  have hr9 := pickI_range more 9 (by omega)
  obtain ⟨N, hN⟩ : ∃ N : Nat, 1 + pickI sectors 6 = (N : Int) := ⟨(1 + pickI sectors 6).toNat, by omega⟩
  have hN1 : 1 ≤ N ∧ N ≤ 6 := by omega
  have hWN : wrap64 (N : Int) = (N : Int) := wrap_small (by omega) (by omega)
  obtain ⟨M, hM⟩ : ∃ M : Nat, (qs.length : Int) + pickI more 3 = (M : Int) := ⟨((qs.length : Int) + pickI more 3).toNat, by omega⟩
  have hM1 : qs.length ≤ M ∧ M ≤ 8796093021954 := by omega
  have hWM : wrap64 (M : Int) = (M : Int) := wrap_small (by omega) (by omega)
  have hMb : (M : Int) ≤ 8796093021954 := by omega
  have CP6 : Hid (∀ w : World, Calls Try.prog 20 #[.int .i64 sectors, .int .i64 6] w fun e w' => e = .returned (.int .i64 (pickI sectors 6)) ∧ w' = w) := pick_any sectors 6 hs1 (by omega) (by omega)
  have CP3 : Hid (∀ w : World, Calls Try.prog 20 #[.int .i64 more, .int .i64 3] w fun e w' => e = .returned (.int .i64 (pickI more 3)) ∧ w' = w) := pick_any more 3 hs2 (by omega) (by omega)
  have CP9 : Hid (∀ w : World, Calls Try.prog 20 #[.int .i64 more, .int .i64 9] w fun e w' => e = .returned (.int .i64 (pickI more 9)) ∧ w' = w) := pick_any more 9 hs2 (by omega) (by omega)
  have CW : Hid (∀ w1 : World, Below w.heap.size w w1 → Calls Try.prog 23 #[.int .i64 (N : Int), .slice a1 ps.length c1, .slice a2 qs.length c2] w1 fun e w' => Wrote w1 (wS2 N ps qs qs.length) e w') := by
    show ∀ w1 : World, _
    intro w1 hb
    exact written_all N hN1.1 (by omega) ps qs a1 a2 c1 c2 w1 (hv1.below hb) (hv2.below hb) (by omega) (by omega)
  have CW0 : Hid (∀ w1 : World, Below w.heap.size w w1 → Calls Try.prog 23 #[.int .i64 (N : Int), .slice a1 ps.length c1, .slice none 0 0] w1 fun e w' => Wrote w1 (wS2 N ps [] 0) e w') := by
    show ∀ w1 : World, _
    intro w1 hb
    exact written_all N hN1.1 (by omega) ps [] a1 none c1 0 w1 (hv1.below hb) (.inl rfl) (by omega) (by simp)
  have HSW : Hid ((wS2 N ps qs qs.length).wait.length = qs.length) := by show ((qs.take qs.length).map (lw N)).length = _; simp
  have HSO : Hid (flushE (wS2 N ps qs qs.length) = 0 ∧ (flushD (wS2 N ps qs qs.length)).safe = (wS2 N ps qs qs.length).shown) := flush_safe rfl rfl
  have HSS : Hid ((wS2 N ps [] 0).safe = (wS2 N ps qs qs.length).safe) := rfl
  have hneg : wrap64 (-pickI more 9) = -pickI more 9 := by unfold wrap64; omega
  have HP9 : Hid (512 ≤ 512 + pickI more 9 ∧ -pickI more 9 ≤ 0) := by constructor <;> omega
  obtain ⟨i0, hi, hz0, hz1, hz3⟩ := info_parts info59
  generalize pickI sectors 6 = P6 at *
  generalize pickI more 3 = P3 at *
  generalize pickI more 9 = P9 at *
  have hP9 : P9 < 9 := hr9.2
  have hP90 : 0 ≤ P9 := hr9.1
  generalize wS2 N ps qs qs.length = SW at *
  generalize wS2 N ps [] 0 = SO at *
  have HL2 : Hid (qs.length ≤ M ∧ M ≤ 8796093021954) := hM1
  have hlq : (qs.length : Int) ≤ 8796093021952 := by omega
  have hP3 : 0 ≤ P3 ∧ P3 < 3 := hr3
  clear hv1 hv2 hs1 hs2 hl1 hl2 hr6 hN1 hr9 hM1 hr3
  go_enter Try.func6, Try.ntmps6
  go_wp2_with fail
  refine (awake_any _).mono ?_
  rintro e w1 ⟨rfl, hb1⟩
  go_wp2_with fail
  refine (CP6.out _).mono ?_
  rintro e w1' ⟨rfl, hw⟩
  rw [hw]; clear hw CP6
  go_wp2_with fail
  refine (CW.out _ hb1).mono ?_
  rintro e w2 ⟨a, fa, rfl, da, hb2⟩
  have hB2 := bstep hb1 hb2 (Nat.le_refl _)
  unfold pt
  go_wp2_with fail
  refine (CW.out _ hB2).mono ?_
  rintro e w3 ⟨b, fb, rfl, db, hb3⟩
  have hB3 := bstep hB2 hb3 (Nat.le_refl _)
  unfold pt
  go_wp2_with fail
  refine (CW.out _ hB3).mono ?_
  rintro e w4 ⟨c, fc, rfl, dc, hb4⟩
  have hB4 := bstep hB3 hb4 (Nat.le_refl _)
  unfold pt
  go_wp2_with fail
  refine (CW.out _ hB4).mono ?_
  rintro e w5 ⟨d, fd, rfl, dd, hb5⟩
  have hB5 := bstep hB4 hb5 (Nat.le_refl _)
  unfold pt
  go_wp2_with fail
  refine (CW0.out _ hB5).mono ?_
  rintro e w6 ⟨o, fo, rfl, dold, hb6⟩
  have hB6 := bstep hB5 hb6 (Nat.le_refl _)
  unfold pt
  have Ia : Hid (∀ k, fa k → w1.heap.size ≤ k ∧ k < w2.heap.size) := fun k e => da.fp k e
  have Ib : Hid (∀ k, fb k → w2.heap.size ≤ k ∧ k < w3.heap.size) := fun k e => db.fp k e
  have Ic : Hid (∀ k, fc k → w3.heap.size ≤ k ∧ k < w4.heap.size) := fun k e => dc.fp k e
  have Idd : Hid (∀ k, fd k → w4.heap.size ≤ k ∧ k < w5.heap.size) := fun k e => dd.fp k e
  have Z : Hid (w.heap.size ≤ w1.heap.size ∧ w1.heap.size ≤ w2.heap.size ∧ w2.heap.size ≤ w3.heap.size ∧ w3.heap.size ≤ w4.heap.size ∧ w4.heap.size ≤ w5.heap.size ∧ w5.heap.size ≤ w6.heap.size) := ⟨hb1.size, hb2.size, hb3.size, hb4.size, hb5.size, hb6.size⟩
  have da6 := (((da.below hb3).below hb4).below hb5).below hb6
  have db6 := ((db.below hb4).below hb5).below hb6
  have dc6 := (dc.below hb5).below hb6
  have dd6 := dd.below hb6
  clear hb1 hb2 hb3 hb4 hb5 hb6 hB2 hB3 hB4 hB5 da db dc dd CW CW0
  have CI : Hid (Calls Try.prog 18 #[.pointer (some ⟨o, 0, none⟩)] w6 fun e w' => e = .returned (.string (catB SO.safe)) ∧ Below w6.heap.size w6 w') := l_image (Left.refl dold)
  go_wp2_with fail
  refine CI.out.mono ?_
  rintro e w7 ⟨rfl, hb7⟩
  have HA : Hid (Dk w1.heap.size w7 a fa SW) := da6.below hb7
  have dOk : Hid SW.Ok := da6.ok
  have HBd : Hid (Dk w2.heap.size w7 b fb SW) := db6.below hb7
  have HC : Hid (Dk w3.heap.size w7 c fc SW) := dc6.below hb7
  have HDd : Hid (Dk w4.heap.size w7 d fd SW) := dd6.below hb7
  have HB7 : Hid (Below w.heap.size w w7) := bstep hB6 hb7 (Nat.le_refl _)
  have hz67 : Hid (w6.heap.size ≤ w7.heap.size) := hb7.size
  clear CI da6 db6 dc6 dd6 dold hb7 hB6
  go_wp2_with fail
  go_loopw [17, 18, 19, 20] (fun u v x t w8 => ∃ k : Nat, k ≤ M ∧ t = .int .i64 k ∧ R3 w7.heap.size w8 u v x k k k more (512 + P9) (-P9) ∧ Below w7.heap.size w7 w8) (fun _ _ _ t _ => M - (intOf t).toNat)
  case atStart => exact ⟨0, Nat.zero_le _, rfl, ⟨World.ownsRow_nil _ _ _ _, World.ownsRow_nil _ _ _ _, World.ownsRow_nil _ _ _ _, (fun j e => by cases e), (fun j e => by cases e), (fun j e => by cases e)⟩, Below.refl _ _⟩
  case round =>
    obtain ⟨k, hk, rfl, hR, hBk⟩ := hrel
    go_wp2_with fail
    refine (CP3.out _).mono ?_
    rintro e wq ⟨rfl, hw⟩
    rw [hw]; clear hw
    by_cases hlt : k < M
    · have hk' : (k : Int) < (M : Int) := by omega
      have hbz : w7.heap.size ≤ wr.heap.size := hBk.size
      have HR : Hid (R3 w7.heap.size wr u17 u18 u19 k k k more (512 + P9) (-P9)) := hR
      have HBk : Hid (Below w7.heap.size w7 wr) := hBk
      have NB : ∀ (w : World) (x y : Int), Hid (∀ (j : Nat) (u : Value), [Value.int .i64 x, .int .i64 y][j]? = some u → (w.alloc (.cells #[.int .i64 x, .int .i64 y] 59)).cell? ((⟨w.heap.size, 0, none⟩ : Addr).add j) = some u) := fun w x y => World.news_of_block (Blk.new w #[.int .i64 x, .int .i64 y] 59)
      have N1 : ∀ x y : Int, ∀ u ∈ [Value.int .i64 x, .int .i64 y], u.oneCell' = true := fun x y u hu => by simp at hu; rcases hu with rfl | rfl <;> rfl
      have HNB : Hid (∀ (w : World) (x y : Int), Hid (∀ (j : Nat) (u : Value), [Value.int .i64 x, .int .i64 y][j]? = some u → (w.alloc (.cells #[.int .i64 x, .int .i64 y] 59)).cell? ((⟨w.heap.size, 0, none⟩ : Addr).add j) = some u)) := NB
      have HN1 : Hid (∀ x y : Int, ∀ u ∈ [Value.int .i64 x, .int .i64 y], u.oneCell' = true) := N1
      have HSZ : Hid (k + 1 ≤ maxLen ∧ (k + 1) * 16 ≤ 140737488355328) := by have := HL2.out; refine ⟨by unfold maxLen; omega, by omega⟩
      clear hR hBk NB N1
      go_wp2_with (at_builtin; refine wpList_append_lies _ rfl _ _ 40 rfl w7.heap.size 59 i0 (.agg #[.int .i64 0, .int .i64 0]) 2 16 Try.underlying40 hi hz0 hz1 hz3 rfl (by decide) _ k (fcells 1 more k) rfl (HR.out.r1.alloc _) ⟨wr.heap.size, 0, none⟩ 1 1 [.int .i64 1, .int .i64 more] rfl rfl (HNB.out wr 1 more).out (HN1.out 1 more) (by decide) HSZ.out.1 HSZ.out.2 (by simp; omega) _ rfl ?_)
      intro g1 cap1 wA hownA hgrA hwhA hltA
      have RA := HR.out.push1 _ hownA hgrA (by simpa using hwhA)
      have hBA : Below w7.heap.size w7 wA := (HBk.out.alloc hbz _).grown hgrA (by simp; omega) (fun j e => (HR.out.r1.lt j e).1)
      have hzA : w7.heap.size ≤ wA.heap.size := hBA.size
      clear hownA hgrA hwhA hltA HR HBk
      go_wp2_with fail
      refine (CP9.out _).mono ?_
      rintro e wq2 ⟨rfl, hw⟩
      rw [hw]; clear hw
      have HRA : Hid (R3 w7.heap.size wA (.slice (some ⟨g1, 0, none⟩) (k + 1) cap1) u18 u19 (k + 1) k k more (512 + P9) (-P9)) := RA
      have HBA : Hid (Below w7.heap.size w7 wA) := hBA
      clear RA hBA
      go_wp2_with (at_builtin; refine wpList_append_lies _ rfl _ _ 40 rfl w7.heap.size 59 i0 (.agg #[.int .i64 0, .int .i64 0]) 2 16 Try.underlying40 hi hz0 hz1 hz3 rfl (by decide) _ k (fcells 2 (512 + P9) k) rfl (HRA.out.r2.alloc _) ⟨wA.heap.size, 0, none⟩ 1 1 [.int .i64 2, .int .i64 (512 + P9)] rfl rfl (HNB.out wA 2 (512 + P9)).out (HN1.out 2 (512 + P9)) (by decide) HSZ.out.1 HSZ.out.2 (by simp; omega) _ rfl ?_)
      intro g2 cap2 wC hownC hgrC hwhC hltC
      have RC := HRA.out.push2 _ hownC hgrC (by simpa using hwhC)
      have hBC : Below w7.heap.size w7 wC := (HBA.out.alloc hzA _).grown hgrC (by simp; omega) (fun j e => (HRA.out.r2.lt j e).1)
      have hzC : w7.heap.size ≤ wC.heap.size := hBC.size
      clear hownC hgrC hwhC hltC HRA HBA
      go_wp2_with fail
      refine (CP9.out _).mono ?_
      rintro e wq2 ⟨rfl, hw⟩
      rw [hw]; clear hw
      have HRC : Hid (R3 w7.heap.size wC (.slice (some ⟨g1, 0, none⟩) (k + 1) cap1) (.slice (some ⟨g2, 0, none⟩) (k + 1) cap2) u19 (k + 1) (k + 1) k more (512 + P9) (-P9)) := RC
      have HBC : Hid (Below w7.heap.size w7 wC) := hBC
      clear RC hBC
      go_wp2_with (at_builtin; refine wpList_append_lies _ rfl _ _ 40 rfl w7.heap.size 59 i0 (.agg #[.int .i64 0, .int .i64 0]) 2 16 Try.underlying40 hi hz0 hz1 hz3 rfl (by decide) _ k (fcells 2 (-P9) k) rfl (HRC.out.r3.alloc _) ⟨wC.heap.size, 0, none⟩ 1 1 [.int .i64 2, .int .i64 (-P9)] rfl rfl (HNB.out wC 2 (-P9)).out (HN1.out 2 (-P9)) (by decide) HSZ.out.1 HSZ.out.2 (by simp; omega) _ rfl ?_)
      intro g3 cap3 wE hownE hgrE hwhE hltE
      have RE := HRC.out.push3 _ hownE hgrE (by simpa using hwhE)
      have hBE : Below w7.heap.size w7 wE := (HBC.out.alloc hzC _).grown hgrE (by simp; omega) (fun j e => (HRC.out.r3.lt j e).1)
      have HRE : Hid (R3 w7.heap.size wE (.slice (some ⟨g1, 0, none⟩) (k + 1) cap1) (.slice (some ⟨g2, 0, none⟩) (k + 1) cap2) (.slice (some ⟨g3, 0, none⟩) (k + 1) cap3) (k + 1) (k + 1) (k + 1) more (512 + P9) (-P9)) := RE
      have HBE : Hid (Below w7.heap.size w7 wE) := hBE
      clear hownE hgrE hwhE hltE HRC HBC RE hBE
      go_wp2
      exact ⟨⟨k + 1, by omega, by go_num, HRE.out, HBE.out⟩, by simp [intOf]; omega⟩
    · have hk' : ¬ (k : Int) < (M : Int) := by omega
      have hke : k = M := by omega
      rw [hke] at hR
      clear hke hlt CP3 CP9
      have hzr : w7.heap.size ≤ wr.heap.size := hBk.size
      have da := HA.out.kept (T := fun k => w7.heap.size ≤ k) ⟨hBk.os, hBk.tape, hBk.output, hBk.size, fun i _ h => hBk.block i (by omega)⟩ (fun i e h => by have h1 := (Ia.out i e).2; have := Z.out; have := hz67.out; omega)
      have db := HBd.out.kept (T := fun k => w7.heap.size ≤ k) ⟨hBk.os, hBk.tape, hBk.output, hBk.size, fun i _ h => hBk.block i (by omega)⟩ (fun i e h => by have h1 := (Ib.out i e).2; have := Z.out; have := hz67.out; omega)
      have dc := HC.out.kept (T := fun k => w7.heap.size ≤ k) ⟨hBk.os, hBk.tape, hBk.output, hBk.size, fun i _ h => hBk.block i (by omega)⟩ (fun i e h => by have h1 := (Ic.out i e).2; have := Z.out; have := hz67.out; omega)
      have dd := HDd.out.kept (T := fun k => w7.heap.size ≤ k) ⟨hBk.os, hBk.tape, hBk.output, hBk.size, fun i _ h => hBk.block i (by omega)⟩ (fun i e h => by have h1 := (Idd.out i e).2; have := Z.out; have := hz67.out; omega)
      have hB8 : Below w.heap.size w wr := HB7.out.trans (hBk.mono HB7.out.size)
      obtain ⟨r1, r2, r3, d12, d13, d23⟩ := hR
      clear HA HBd HC HDd HB7 hBk d12 d13 d23
      have L1 : ∀ {u : Value} {k : Nat} {kd t : Int} {w' : World}, Hid (w'.ownsRow w7.heap.size 59 2 u k (fcells kd t k) → ∀ j, u.ownBlock = some j → w7.heap.size ≤ j) := fun {u k kd t w'} h j e => (h.lt j e).1
      have CFa : Hid (Calls Try.prog 30 #[.pointer (some ⟨a, 0, none⟩)] wr fun e w' => e = .returned (.int .i64 (flushE SW)) ∧ Left w1.heap.size a fa wr (flushD SW) w') := l_flush (Left.refl da)
      rw [HSO.out.1] at CFa
      have hB := hB8
      clear hB8
      go_wp2_with fail
      refine CFa.out.mono ?_
      rintro e x1 ⟨rfl, La⟩
      obtain ⟨fa', ea, ka, na⟩ := La
      replace db := db.kept ka (fun i e h => by have h1 := (Ib.out i e); have h2 := (Ia.out i h); have := Z.out; omega)
      replace dc := dc.kept ka (fun i e h => by have h1 := (Ic.out i e); have h2 := (Ia.out i h); have := Z.out; omega)
      replace dd := dd.kept ka (fun i e h => by have h1 := (Idd.out i e); have h2 := (Ia.out i h); have := Z.out; omega)
      clear da
      replace r1 := ownsRow_kept r1 ka (fun j e h => by have h1 := (r1.lt j e).1; have h2 := (Ia.out _ h).2; have := Z.out; have := hz67.out; omega)
      replace r2 := ownsRow_kept r2 ka (fun j e h => by have h1 := (r2.lt j e).1; have h2 := (Ia.out _ h).2; have := Z.out; have := hz67.out; omega)
      replace r3 := ownsRow_kept r3 ka (fun j e h => by have h1 := (r3.lt j e).1; have h2 := (Ia.out _ h).2; have := Z.out; have := hz67.out; omega)
      replace hB : Below w.heap.size w x1 := hB.trans (ka.below hB.size (fun i h => by have h2 := (Ia.out _ h).1; have := Z.out; omega))
      have zr : Hid (w5.heap.size ≤ wr.heap.size ∧ wr.heap.size ≤ x1.heap.size) := ⟨by have := Z.out; have := hz67.out; omega, ka.size⟩
      clear CFa L1
      obtain ⟨vB, qB, rfl, ftB, foB⟩ := fts_of r1
      have CB : Hid (Calls Try.prog 25 #[.pointer (some ⟨b, 0, none⟩), .slice vB M qB] x1 fun e w' => e = .returned (.tuple #[]) ∧ Left w2.heap.size b fb x1 (crashD SW (List.replicate M (1, more))) w') := by
        have := l_crash (Left.refl db) (List.replicate M (1, more)) vB qB ftB (fun fb' off e => by
          have h1 := r1.lt _ (foB fb' off e)
          exact ⟨fun q => (by have h2 := (Ib.out _ q).2; have := Z.out; have := hz67.out; omega), h1.2⟩)
        rw [List.length_replicate] at this
        exact this
      simp only [List.length_replicate] at *
      go_wp2_with fail
      refine CB.out.mono ?_
      rintro e x2 ⟨rfl, LB⟩
      obtain ⟨fb', eb, kb, nb⟩ := LB
      replace ea := ea.kept kb (fun i e h => by have h2 := Ib.out i h; have := Z.out; have := zr.out; rcases na i e with q | q; have h1 := Ia.out i q; omega; omega)
      replace dc := dc.kept kb (fun i e h => by have h1 := Ic.out i e; have h2 := Ib.out i h; have := Z.out; omega)
      replace dd := dd.kept kb (fun i e h => by have h1 := Idd.out i e; have h2 := Ib.out i h; have := Z.out; omega)
      replace r2 := ownsRow_kept r2 kb (fun j e h => by have h1 := (r2.lt j e).1; have h2 := (Ib.out _ h).2; have := Z.out; have := hz67.out; omega)
      replace r3 := ownsRow_kept r3 kb (fun j e h => by have h1 := (r3.lt j e).1; have h2 := (Ib.out _ h).2; have := Z.out; have := hz67.out; omega)
      replace hB : Below w.heap.size w x2 := hB.trans (kb.below (hB.size) (fun i h => by have h2 := (Ib.out _ h).1; have := Z.out; omega))
      clear CB
      have zb : Hid (x1.heap.size ≤ x2.heap.size) := kb.size
      obtain ⟨vC, qC, rfl, ftC, foC⟩ := fts_of r2
      have CC : Hid (Calls Try.prog 25 #[.pointer (some ⟨c, 0, none⟩), .slice vC M qC] x2 fun e w' => e = .returned (.tuple #[]) ∧ Left w3.heap.size c fc x2 (crashD SW (List.replicate M (2, (512 + P9)))) w') := by
        have := l_crash (Left.refl dc) (List.replicate M (2, (512 + P9))) vC qC ftC (fun fb' off e => by
          have h1 := r2.lt _ (foC fb' off e)
          exact ⟨fun q => (by have h2 := (Ic.out _ q).2; have := Z.out; have := hz67.out; omega), h1.2⟩)
        rw [List.length_replicate] at this
        exact this
      simp only [List.length_replicate] at *
      go_wp2_with fail
      refine CC.out.mono ?_
      rintro e x3 ⟨rfl, LC⟩
      obtain ⟨fc', ec, kc, nc⟩ := LC
      replace ea := ea.kept kc (fun i e h => by have h2 := Ic.out i h; have := Z.out; have := zr.out; rcases na i e with q | q; have h1 := Ia.out i q; omega; omega)
      replace eb := eb.kept kc (fun i e h => by have h2 := Ic.out i h; have := Z.out; have := zr.out; have := zb.out; rcases nb i e with q | q; have h1 := Ib.out i q; omega; omega)
      replace dd := dd.kept kc (fun i e h => by have h1 := Idd.out i e; have h2 := Ic.out i h; have := Z.out; omega)
      replace r3 := ownsRow_kept r3 kc (fun j e h => by have h1 := (r3.lt j e).1; have h2 := (Ic.out _ h).2; have := Z.out; have := hz67.out; omega)
      replace hB : Below w.heap.size w x3 := hB.trans (kc.below (hB.size) (fun i h => by have h2 := (Ic.out _ h).1; have := Z.out; omega))
      clear CC
      have zc : Hid (x2.heap.size ≤ x3.heap.size) := kc.size
      obtain ⟨vD, qD, rfl, ftD, foD⟩ := fts_of r3
      have CD : Hid (Calls Try.prog 25 #[.pointer (some ⟨d, 0, none⟩), .slice vD M qD] x3 fun e w' => e = .returned (.tuple #[]) ∧ Left w4.heap.size d fd x3 (crashD SW (List.replicate M (2, (-P9)))) w') := by
        have := l_crash (Left.refl dd) (List.replicate M (2, (-P9))) vD qD ftD (fun fb' off e => by
          have h1 := r3.lt _ (foD fb' off e)
          exact ⟨fun q => (by have h2 := (Idd.out _ q).2; have := Z.out; have := hz67.out; omega), h1.2⟩)
        rw [List.length_replicate] at this
        exact this
      simp only [List.length_replicate] at *
      go_wp2_with fail
      refine CD.out.mono ?_
      rintro e x4 ⟨rfl, LD⟩
      obtain ⟨fd', ed, kd, nd⟩ := LD
      replace ea := ea.kept kd (fun i e h => by have h2 := Idd.out i h; have := Z.out; have := zr.out; rcases na i e with q | q; have h1 := Ia.out i q; omega; omega)
      replace eb := eb.kept kd (fun i e h => by have h2 := Idd.out i h; have := Z.out; have := zr.out; have := zb.out; rcases nb i e with q | q; have h1 := Ib.out i q; omega; omega)
      replace ec := ec.kept kd (fun i e h => by have h2 := Idd.out i h; have := Z.out; have := zr.out; have := zb.out; have := zc.out; rcases nc i e with q | q; have h1 := Ic.out i q; omega; omega)
      replace hB : Below w.heap.size w x4 := hB.trans (kd.below (hB.size) (fun i h => by have h2 := (Idd.out _ h).1; have := Z.out; omega))
      clear CD
      have hokW : Hid SW.Ok := dOk.out
      have sb : (crashD SW (List.replicate M (1, more))).safe = SW.shown := crash_all hokW.out.len M 1 more (by rw [HSW.out]; exact HL2.out.1) (kept_one _)
      have sc : (crashD SW (List.replicate M (2, 512 + P9))).safe = SW.shown := crash_all hokW.out.len M 2 (512 + P9) (by rw [HSW.out]; exact HL2.out.1) (kept_torn _ HP9.out.1)
      have sd : (crashD SW (List.replicate M (2, -P9))).safe = SW.safe := crash_lost hokW.out M 2 (-P9) (by rw [HSW.out]; exact HL2.out.1) (kept_none _ HP9.out.2)
      have IA : Hid (∀ x : World, Below x4.heap.size x4 x → Calls Try.prog 18 #[.pointer (some ⟨a, 0, none⟩)] x fun e w' => e = .returned (.string (catB SW.shown)) ∧ Below x.heap.size x w') := by
        show ∀ x : World, _
        intro x hb
        have := l_image (Left.refl (ea.below hb))
        rw [HSO.out.2] at this
        exact this
      have IB : Hid (∀ x : World, Below x4.heap.size x4 x → Calls Try.prog 18 #[.pointer (some ⟨b, 0, none⟩)] x fun e w' => e = .returned (.string (catB SW.shown)) ∧ Below x.heap.size x w') := by
        show ∀ x : World, _
        intro x hb
        have := l_image (Left.refl (eb.below hb))
        rw [sb] at this
        exact this
      have IC : Hid (∀ x : World, Below x4.heap.size x4 x → Calls Try.prog 18 #[.pointer (some ⟨c, 0, none⟩)] x fun e w' => e = .returned (.string (catB SW.shown)) ∧ Below x.heap.size x w') := by
        show ∀ x : World, _
        intro x hb
        have := l_image (Left.refl (ec.below hb))
        rw [sc] at this
        exact this
      have IDD : Hid (∀ x : World, Below x4.heap.size x4 x → Calls Try.prog 18 #[.pointer (some ⟨d, 0, none⟩)] x fun e w' => e = .returned (.string (catB SO.safe)) ∧ Below x.heap.size x w') := by
        show ∀ x : World, _
        intro x hb
        have := l_image (Left.refl (ed.below hb))
        rw [sd] at this
        rw [HSS.out]
        exact this
      clear ea eb ec ed sb sc sd na nb nc nd ka kb kc kd
      generalize catB SW.shown = IM at *
      generalize catB SO.safe = IO at *
      go_wp2_with fail
      refine (IB.out _ (Below.refl _ _)).mono ?_
      rintro e y1 ⟨rfl, hy1⟩
      go_wp2_with fail
      refine (IA.out _ hy1).mono ?_
      rintro e y2 ⟨rfl, hy2⟩
      have h2 := bstep hy1 hy2 (Nat.le_refl _)
      go_wp2_with fail
      refine (IC.out _ h2).mono ?_
      rintro e y3 ⟨rfl, hy3⟩
      have h3 := bstep h2 hy3 (Nat.le_refl _)
      go_wp2_with fail
      refine (IA.out _ h3).mono ?_
      rintro e y4 ⟨rfl, hy4⟩
      have h4 := bstep h3 hy4 (Nat.le_refl _)
      go_wp2_with fail
      refine (IDD.out _ h4).mono ?_
      rintro e y5 ⟨rfl, hy5⟩
      have h5 := bstep h4 hy5 (Nat.le_refl _)
      have hend : Hid (Below w.heap.size w y5) := bstep hB h5 (Nat.le_refl _)
      clear hy1 hy2 hy3 hy4 hy5 h2 h3 h4 h5 hB IA IB IC IDD
      go_wp2
      go_ret
      exact ⟨rfl, hend.out⟩
end Go.Proofs.Ytbjpphoohoedcaa
