/- The document's readers: Bits. -/
import Derived.Test.YtdpddlaedffmdaaRs
namespace Go.Proofs.Ytdpddlaedffmdaa
open Go.RowKit
set_option linter.unusedVariables false
set_option linter.unusedSimpArgs false

theorem Hid.mk' {p : Prop} (h : p) : Hid p := h
theorem BC {w w' : World} (h : Below w.heap.size w w') {a : Addr} {v : Value} (hc : w.cell? a = some v) : w'.cell? a = some v := by
  rw [h.cell (World.block_lt_of_cell? w a hc)]; exact hc
/-- The end of Bits: a value stored in the answer's cells. -/
theorem bits_end {w w1 : World} {c r : Nat} {s : ByteArray} {a : Nat} {f : Int} {u0 u1 : Int} (h : RF w1 c s a f) (hk : Kept (fun k => k = c) w w1) (hr : w.heap.size ≤ r) (hc : c < w.heap.size) (e0 : w1.cell? ⟨r, 0, none⟩ = some (.int .u64 u0)) (e1 : w1.cell? ⟨r, 1, none⟩ = some (.int .u64 u1)) (x y : Int) :
    RF ((w1.setCell ⟨r, 0, none⟩ (.int .u64 x)).setCell ⟨r, 1, none⟩ (.int .u64 y)) c s a f ∧ Kept (fun k => k = c) w ((w1.setCell ⟨r, 0, none⟩ (.int .u64 x)).setCell ⟨r, 1, none⟩ (.int .u64 y)) ∧
    ((w1.setCell ⟨r, 0, none⟩ (.int .u64 x)).setCell ⟨r, 1, none⟩ (.int .u64 y)).cell? ⟨r, 0, none⟩ = some (.int .u64 x) ∧ ((w1.setCell ⟨r, 0, none⟩ (.int .u64 x)).setCell ⟨r, 1, none⟩ (.int .u64 y)).cell? ⟨r, 1, none⟩ = some (.int .u64 y) := by
  have hst : Kept (fun k => k = r) w1 ((w1.setCell ⟨r, 0, none⟩ (.int .u64 x)).setCell ⟨r, 1, none⟩ (.int .u64 y)) := Kept.set2 (S := fun k => k = r) (Kept.refl _ _) rfl _ _
  exact ⟨h.kept hst (by show ¬ c = r; omega), Kept.new (g := r) ((hk.mono (fun k _ h => .inl h)).trans (hst.mono (fun k _ h => .inr h))) hr, (two_set e0 e1).1, (two_set e0 e1).2⟩
set_option maxRecDepth 100000 in
set_option maxHeartbeats 2000000 in
theorem x44 {w : World} {c : Nat} {s : ByteArray} {a : Nat} {f : Int} (h : RF w c s a f) (hs : s.size ≤ 140737488351232) (n : Int) : Calls Try.prog 44 #[.pointer (some ⟨c, 0, none⟩), .int .i64 n] w fun e w' => e = .returned (B (bitsS s a f n).1) ∧ RF w' c s (bitsS s a f n).2.1 (bitsS s a f n).2.2 ∧ Kept (fun k => k = c) w w' := by
  have hcl := h.lt
  have h7 := h.2.2.2.2.2.2.2
  have hb0 : Below w.heap.size w (w.alloc (.cells #[.int .u64 0, .int .u64 0] 34)) := (Below.refl _ _).alloc (Nat.le_refl _) _
  have HRF : Hid (RF (w.alloc (.cells #[.int .u64 0, .int .u64 0] 34)) c s a f) := h.below hb0
  have HK0 : Hid (Kept (fun k => k = c) w (w.alloc (.cells #[.int .u64 0, .int .u64 0] 34))) := Kept.of_below hb0
  have r0 : (w.alloc (.cells #[.int .u64 0, .int .u64 0] 34)).cell? ⟨w.heap.size, 0, none⟩ = some (.int .u64 0) := by simp
  have r1 : (w.alloc (.cells #[.int .u64 0, .int .u64 0] 34)).cell? ⟨w.heap.size, 1, none⟩ = some (.int .u64 0) := by simp
  have z0 : (w.alloc (.cells #[.int .u64 0, .int .u64 0] 34)).frozen? ⟨w.heap.size, 0, none⟩ = false := by simp
  have z1 : (w.alloc (.cells #[.int .u64 0, .int .u64 0] 34)).frozen? ⟨w.heap.size, 1, none⟩ = false := by simp
  have hcr : ¬ w.heap.size = c := by omega
  by_cases hf : f = 0
  · subst hf
    have hul : bitsS s a 0 n = bitsQ s a n := by unfold bitsS; rw [if_pos rfl]
    rw [hul]
    cases hW : isW n
    · rw [show bitsQ s a n = (0, a, 10) by unfold bitsQ; rw [hW]; rfl]
      have CB : Hid (Calls Try.prog 70 #[.pointer (some ⟨c, 0, none⟩), .int .i64 10] (w.alloc (.cells #[.int .u64 0, .int .u64 0] 34)) fun x w' => x = .returned (.tuple #[]) ∧ RF w' c s a 10 ∧ Kept (fun k => k = c) (w.alloc (.cells #[.int .u64 0, .int .u64 0] 34)) w') := bad_any HRF.out 10 (by decide)
      obtain ⟨h0, h1, h2, h3, h4, h5, h6, _⟩ := id HRF.out
      clear hul hs h hb0
      go_enter Try.func44, Try.ntmps44
      go_wp2_with fail
      generalize w.alloc (.cells #[.int .u64 0, .int .u64 0] 34) = W0 at *
      have hlw : w.heap.size < W0.heap.size := World.block_lt_of_cell? W0 ⟨w.heap.size, 0, none⟩ r0
      refine (rwidth_val hW _).mono ?_
      rintro e w2 ⟨rfl, rfl⟩
      go_wp2_with fail
      refine CB.out.mono ?_
      rintro e w3 ⟨rfl, hR3, hk3⟩
      have e0 := hk3.cell r0 hcr
      have e1 := hk3.cell r1 hcr
      have y0 := (hk3.frozen (p := ⟨w.heap.size, 0, none⟩) hlw hcr).trans z0
      have y1 := (hk3.frozen (p := ⟨w.heap.size, 1, none⟩) hlw hcr).trans z1
      obtain ⟨hR, hK, m2, m3⟩ := bits_end hR3 (HK0.out.trans hk3) (Nat.le_refl _) hcl e0 e1 0 0
      clear r0 r1 z0 z1 h0 h1 h2 h3 h4 h5 h6 hk3 hR3 CB
      go_wp2
      generalize (w3.setCell ⟨w.heap.size, 0, none⟩ (.int .u64 0)).setCell ⟨w.heap.size, 1, none⟩ (.int .u64 0) = W6 at *
      refine bodyPost_ret (v := B 0) ?_ rfl ⟨rfl, hR, hK⟩
      simp [results, Try.results44, go_sem, m2, m3]; exact ⟨rfl, rfl⟩
    · have hbd := isW_bounds hW
      obtain ⟨k, hk⟩ : ∃ k : Nat, (n + 7) / 8 = (k : Int) := ⟨((n + 7) / 8).toNat, by omega⟩
      have hk0 : ((n + 7) / 8).toNat = k := by omega
      have HQ : Hid (bitsQ s a n = if a + k ≤ s.size then (if (frR (s.extract a (a + k)).data.toList n).2 ≠ 0 then (0, a, (frR (s.extract a (a + k)).data.toList n).2) else ((frR (s.extract a (a + k)).data.toList n).1, a + k, 0)) else (0, a, 3)) := by show _ = _; unfold bitsQ; rw [if_pos hW, hk0]
      generalize bitsQ s a n = Q at *
      have CL : Hid (∀ w : World, Calls Try.prog 72 #[.int .i64 n] w fun e w' => e = .returned (.int .i64 (k : Int)) ∧ w' = w) := by
        show ∀ w : World, _
        intro w; rw [← hk]; exact long_any n (by omega) (by omega) w
      have hWs : IntKind.i64.wrap ((s.size : Int) - (a : Int)) = (s.size : Int) - (a : Int) := by rw [IntKind.wrap_i64]; omega
      obtain ⟨h0, h1, h2, h3, h4, h5, h6, _⟩ := id HRF.out
      by_cases hm : a + k ≤ s.size
      · have hqs : (s.extract a (a + k)).size ≤ maxLen := by rw [ByteArray.size_extract]; unfold maxLen; omega
        have htn : ((a : Int) + (k : Int)).toNat = a + k := by omega
        have C2 : Hid (∀ w : World, Calls Try.prog 73 #[.string (s.extract a ((a : Int) + (k : Int)).toNat), .int .i64 n] w fun e w' => e = .returned (.tuple #[.agg #[.int .u64 (hiOf (frR (s.extract a (a + k)).data.toList n).1), .int .u64 (loOf (frR (s.extract a (a + k)).data.toList n).1)], .int .i64 (frR (s.extract a (a + k)).data.toList n).2]) ∧ Hid (Below w.heap.size w w') ∧ ((w.cell? ⟨c, 0, none⟩ = some (.string s) ∧ w.cell? ⟨c, 1, none⟩ = some (.int .i64 (a : Int))) → (w'.cell? ⟨c, 0, none⟩ = some (.string s) ∧ w'.cell? ⟨c, 1, none⟩ = some (.int .i64 (a : Int))))) := by
          show ∀ w : World, _
          intro w; rw [htn]; refine (rfrom_any _ hqs n w).mono ?_; rintro e w' ⟨rfl, hb⟩; exact ⟨rfl, hb, fun h => ⟨BC hb h.1, BC hb h.2⟩⟩
        have C3 : Hid (∀ w : World, Calls Try.prog 73 #[.string (s.extract a ((a : Int) + (k : Int)).toNat), .int .i64 n] (w.alloc (.cells #[.int .u64 0, .int .u64 0] 34)) fun e w' => e = .returned (.tuple #[.agg #[.int .u64 (hiOf (frR (s.extract a (a + k)).data.toList n).1), .int .u64 (loOf (frR (s.extract a (a + k)).data.toList n).1)], .int .i64 (frR (s.extract a (a + k)).data.toList n).2]) ∧ Hid (Below (w.alloc (.cells #[.int .u64 0, .int .u64 0] 34)).heap.size (w.alloc (.cells #[.int .u64 0, .int .u64 0] 34)) w') ∧ (((w.alloc (.cells #[.int .u64 0, .int .u64 0] 34)).cell? ⟨c, 0, none⟩ = some (.string s) ∧ (w.alloc (.cells #[.int .u64 0, .int .u64 0] 34)).cell? ⟨c, 1, none⟩ = some (.int .i64 (a : Int))) → (w'.cell? ⟨c, 0, none⟩ = some (.string s) ∧ w'.cell? ⟨c, 1, none⟩ = some (.int .i64 (a : Int)))) ∧ w'.cell? ⟨w.heap.size, 0, none⟩ = some (.int .u64 0) ∧ w'.cell? ⟨w.heap.size, 1, none⟩ = some (.int .u64 0) ∧ w'.frozen? ⟨w.heap.size, 0, none⟩ = false ∧ w'.frozen? ⟨w.heap.size, 1, none⟩ = false) := by
          show ∀ w : World, _
          intro w; rw [htn]; refine (rfrom_any _ hqs n _).mono ?_; rintro e w' ⟨rfl, hb⟩
          exact ⟨rfl, hb, fun h => ⟨BC hb h.1, BC hb h.2⟩, BC hb (by simp), BC hb (by simp), (hb.frozen (by simp)).trans (by simp), (hb.frozen (by simp)).trans (by simp)⟩
        have HQ2 : Hid (Q = if (frR (s.extract a (a + k)).data.toList n).2 ≠ 0 then (0, a, (frR (s.extract a (a + k)).data.toList n).2) else ((frR (s.extract a (a + k)).data.toList n).1, a + k, 0)) := by show _ = _; rw [HQ.out, if_pos hm]
        generalize frR (s.extract a (a + k)).data.toList n = F at *
        obtain ⟨x, g⟩ := F
        simp only at C2 C3 HQ2
        have hm1 : decide ((s.size : Int) - (a : Int) < (k : Int)) = false := by simp; omega
        have hm2 : (a : Int) + (k : Int) ≤ (s.size : Int) := by omega
        have hm3 : (a : Int) ≤ (a : Int) + (k : Int) := by omega
        have hm4 : IntKind.i64.wrap ((a : Int) + (k : Int)) = (a : Int) + (k : Int) := by rw [IntKind.wrap_i64]; omega
        clear HQ hul hs h hb0 hqs hk hk0 htn
        go_enter Try.func44, Try.ntmps44
        go_wp2_with fail
        generalize w.alloc (.cells #[.int .u64 0, .int .u64 0] 34) = W0 at *
        have hlw : w.heap.size < W0.heap.size := World.block_lt_of_cell? W0 ⟨w.heap.size, 0, none⟩ r0
        have hlc : c < W0.heap.size := by omega
        have hnc : ¬ W0.heap.size = c := by omega
        have hnc' : ¬ c = W0.heap.size := by omega
        refine (rwidth_val hW _).mono ?_
        rintro e w2 ⟨rfl, rfl⟩
        go_wp2_with fail
        refine (CL.out _).mono ?_
        rintro e w3 ⟨rfl, rfl⟩
        go_wp2
        go_quiet (fail)
        go_wp2
        go_region_held3 (fun w' => w'.cell? ⟨c, 0, none⟩ = some (.string s) ∧ w'.cell? ⟨c, 1, none⟩ = some (.int .i64 (a : Int)))
          (first | go_keep | exact hkp (by simp [go_sem, h0, h1, hlc, World.cell?_alloc_lt]))
          (first | (go_at_call 73; refine (C3.out _).mono ?_; rintro e w4 ⟨rfl, hb4, hkp, q0, q1, q2, q3⟩; simp at q0 q1 q2 q3) | (go_at_call 73; refine (C2.out _).mono ?_; rintro e w4 ⟨rfl, hb4, hkp⟩))
        all_goals clear C2 C3 CL
        · have hB : Below w3.heap.size w3 (w4.alloc (.cells #[.int .u64 (hiOf x), .int .u64 (loOf x)] 34)) := (show Below w3.heap.size w3 w4 from ⟨hb4.out.os, hb4.out.tape, hb4.out.output, hb4.out.size, hb4.out.block⟩).alloc hb4.out.size _
          have d0 : (w4.alloc (.cells #[.int .u64 (hiOf x), .int .u64 (loOf x)] 34)).cell? ⟨w4.heap.size, 0, none⟩ = some (.int .u64 (hiOf x)) := by simp
          have d1 : (w4.alloc (.cells #[.int .u64 (hiOf x), .int .u64 (loOf x)] 34)).cell? ⟨w4.heap.size, 1, none⟩ = some (.int .u64 (loOf x)) := by simp
          have hsz : w3.heap.size ≤ w4.heap.size := hb4.out.size
          have hbc : ¬ w4.heap.size = c := by omega
          have hbw : ¬ w4.heap.size = w.heap.size := by omega
          clear hb4 hkp hsz
          generalize w4.alloc (.cells #[.int .u64 (hiOf x), .int .u64 (loOf x)] 34) = W at *
          generalize w4.heap.size = b at *
          have HR : Hid (RF W c s a 0) := HRF.out.below hB
          have HK : Hid (Kept (fun k => k = c) w W) := HK0.out.trans (Kept.of_below hB)
          have r0' := BC hB r0
          have r1' := BC hB r1
          have z0' := (hB.frozen (p := ⟨w.heap.size, 0, none⟩) hlw).trans z0
          have z1' := (hB.frozen (p := ⟨w.heap.size, 1, none⟩) hlw).trans z1
          have hlW : w.heap.size < W.heap.size := World.block_lt_of_cell? W ⟨w.heap.size, 0, none⟩ r0'
          obtain ⟨p0, p1, p2, p3, p4, p5, p6, _⟩ := id HR.out
          clear hB h0 h1 h2 h3 h4 h5 h6 r0 r1 z0 z1 HRF HK0 hlw hlc hnc hnc'
          by_cases hg : g = 0
          · subst hg
            have hQ : Q = (x, a + k, 0) := by rw [HQ2.out]; simp
            subst hQ
            have HR5 : Hid (RF (W.setCell ⟨c, 1, none⟩ (.int .i64 ((a : Int) + (k : Int)))) c s (a + k) 0) := HR.out.place (a + k) hm
            have HK5 : Hid (Kept (fun k => k = c) w (W.setCell ⟨c, 1, none⟩ (.int .i64 ((a : Int) + (k : Int))))) := Kept.set (S := fun k => k = c) HK.out rfl _
            have HKs : Kept (fun k => k = c) W (W.setCell ⟨c, 1, none⟩ (.int .i64 ((a : Int) + (k : Int)))) := Kept.set (S := fun k => k = c) (Kept.refl _ _) rfl _
            have e0 := HKs.cell r0' hcr
            have e1 := HKs.cell r1' hcr
            have d0' := HKs.cell d0 hbc
            have d1' := HKs.cell d1 hbc
            obtain ⟨hR, hK, m2, m3⟩ := bits_end HR5.out HK5.out (Nat.le_refl _) hcl e0 e1 (hiOf x) (loOf x)
            have HRx := Hid.mk' hR
            have HKx := Hid.mk' hK
            clear hR hK HKs
            go_wp2
            refine bodyPost_ret (v := B x) ?_ rfl ⟨rfl, HRx.out, HKx.out⟩
            simp [results, Try.results44, go_sem, m2, m3]
          · have hQ : Q = (0, a, g) := by rw [HQ2.out, if_pos hg]
            subst hQ
            have hg' : (g == 0) = false := by simpa using hg
            have CB : Hid (Calls Try.prog 70 #[.pointer (some ⟨c, 0, none⟩), .int .i64 g] W fun x w' => x = .returned (.tuple #[]) ∧ RF w' c s a g ∧ Kept (fun k => k = c) W w') := bad_any HR.out g hg
            go_wp2_with fail
            refine CB.out.mono ?_
            rintro e w5 ⟨rfl, hR5, hk5⟩
            have e0 := hk5.cell r0' hcr
            have e1 := hk5.cell r1' hcr
            have y0 := (hk5.frozen (p := ⟨w.heap.size, 0, none⟩) hlW hcr).trans z0'
            have y1 := (hk5.frozen (p := ⟨w.heap.size, 1, none⟩) hlW hcr).trans z1'
            obtain ⟨hR, hK, m2, m3⟩ := bits_end hR5 (HK.out.trans hk5) (Nat.le_refl _) hcl e0 e1 0 0
            clear r0' r1' z0' z1' p0 p1 p2 p3 p4 p5 p6 hk5 hR5 CB
            go_wp2
            generalize (w5.setCell ⟨w.heap.size, 0, none⟩ (.int .u64 0)).setCell ⟨w.heap.size, 1, none⟩ (.int .u64 0) = W6 at *
            refine bodyPost_ret (v := B 0) ?_ rfl ⟨rfl, hR, hK⟩
            simp [results, Try.results44, go_sem, m2, m3]; exact ⟨rfl, rfl⟩
        · have hB : Below w3.heap.size w3 ((w4.setCell ⟨w3.heap.size, 0, none⟩ (.int .u64 (hiOf x))).setCell ⟨w3.heap.size, 1, none⟩ (.int .u64 (loOf x))) := ((show Below w3.heap.size w3 w4 from ((Below.refl _ _).alloc (Nat.le_refl _) (.cells #[.int .u64 0, .int .u64 0] 34)).trans ⟨hb4.out.os, hb4.out.tape, hb4.out.output, hb4.out.size, fun i hi => hb4.out.block i (by simp; omega)⟩).setCell (Nat.le_refl _) _).setCell (Nat.le_refl _) _
          have d0 : ((w4.setCell ⟨w3.heap.size, 0, none⟩ (.int .u64 (hiOf x))).setCell ⟨w3.heap.size, 1, none⟩ (.int .u64 (loOf x))).cell? ⟨w3.heap.size, 0, none⟩ = some (.int .u64 (hiOf x)) := (two_set q0 q1).1
          have d1 : ((w4.setCell ⟨w3.heap.size, 0, none⟩ (.int .u64 (hiOf x))).setCell ⟨w3.heap.size, 1, none⟩ (.int .u64 (loOf x))).cell? ⟨w3.heap.size, 1, none⟩ = some (.int .u64 (loOf x)) := (two_set q0 q1).2
          have hbc : ¬ w3.heap.size = c := hnc
          have hbw : ¬ w3.heap.size = w.heap.size := by omega
          clear hb4 hkp q0 q1 q2 q3
          generalize (w4.setCell ⟨w3.heap.size, 0, none⟩ (.int .u64 (hiOf x))).setCell ⟨w3.heap.size, 1, none⟩ (.int .u64 (loOf x)) = W at *
          obtain ⟨b, hbb⟩ : ∃ b, w3.heap.size = b := ⟨_, rfl⟩
          rw [hbb] at d0 d1 hbc hbw
          have e3 := hbb
          have HR : Hid (RF W c s a 0) := HRF.out.below hB
          have HK : Hid (Kept (fun k => k = c) w W) := HK0.out.trans (Kept.of_below hB)
          have r0' := BC hB r0
          have r1' := BC hB r1
          have z0' := (hB.frozen (p := ⟨w.heap.size, 0, none⟩) hlw).trans z0
          have z1' := (hB.frozen (p := ⟨w.heap.size, 1, none⟩) hlw).trans z1
          have hlW : w.heap.size < W.heap.size := World.block_lt_of_cell? W ⟨w.heap.size, 0, none⟩ r0'
          obtain ⟨p0, p1, p2, p3, p4, p5, p6, _⟩ := id HR.out
          clear hB h0 h1 h2 h3 h4 h5 h6 r0 r1 z0 z1 HRF HK0 hlw hlc hnc hnc'
          by_cases hg : g = 0
          · subst hg
            have hQ : Q = (x, a + k, 0) := by rw [HQ2.out]; simp
            subst hQ
            have HR5 : Hid (RF (W.setCell ⟨c, 1, none⟩ (.int .i64 ((a : Int) + (k : Int)))) c s (a + k) 0) := HR.out.place (a + k) hm
            have HK5 : Hid (Kept (fun k => k = c) w (W.setCell ⟨c, 1, none⟩ (.int .i64 ((a : Int) + (k : Int))))) := Kept.set (S := fun k => k = c) HK.out rfl _
            have HKs : Kept (fun k => k = c) W (W.setCell ⟨c, 1, none⟩ (.int .i64 ((a : Int) + (k : Int)))) := Kept.set (S := fun k => k = c) (Kept.refl _ _) rfl _
            have e0 := HKs.cell r0' hcr
            have e1 := HKs.cell r1' hcr
            have d0' := HKs.cell d0 hbc
            have d1' := HKs.cell d1 hbc
            obtain ⟨hR, hK, m2, m3⟩ := bits_end HR5.out HK5.out (Nat.le_refl _) hcl e0 e1 (hiOf x) (loOf x)
            have HRx := Hid.mk' hR
            have HKx := Hid.mk' hK
            clear hR hK HKs
            go_wp2
            refine bodyPost_ret (v := B x) ?_ rfl ⟨rfl, HRx.out, HKx.out⟩
            simp [results, Try.results44, go_sem, m2, m3]
          · have hQ : Q = (0, a, g) := by rw [HQ2.out, if_pos hg]
            subst hQ
            have hg' : (g == 0) = false := by simpa using hg
            have CB : Hid (Calls Try.prog 70 #[.pointer (some ⟨c, 0, none⟩), .int .i64 g] W fun x w' => x = .returned (.tuple #[]) ∧ RF w' c s a g ∧ Kept (fun k => k = c) W w') := bad_any HR.out g hg
            go_wp2_with fail
            refine CB.out.mono ?_
            rintro e w5 ⟨rfl, hR5, hk5⟩
            have e0 := hk5.cell r0' hcr
            have e1 := hk5.cell r1' hcr
            have y0 := (hk5.frozen (p := ⟨w.heap.size, 0, none⟩) hlW hcr).trans z0'
            have y1 := (hk5.frozen (p := ⟨w.heap.size, 1, none⟩) hlW hcr).trans z1'
            obtain ⟨hR, hK, m2, m3⟩ := bits_end hR5 (HK.out.trans hk5) (Nat.le_refl _) hcl e0 e1 0 0
            clear r0' r1' z0' z1' p0 p1 p2 p3 p4 p5 p6 hk5 hR5 CB
            go_wp2
            generalize (w5.setCell ⟨w.heap.size, 0, none⟩ (.int .u64 0)).setCell ⟨w.heap.size, 1, none⟩ (.int .u64 0) = W6 at *
            refine bodyPost_ret (v := B 0) ?_ rfl ⟨rfl, hR, hK⟩
            simp [results, Try.results44, go_sem, m2, m3]; exact ⟨rfl, rfl⟩
      · rw [show Q = (0, a, 3) by rw [HQ.out, if_neg hm]]
        have hm1 : (s.size : Int) - (a : Int) < (k : Int) := by omega
        have CB : Hid (∀ n, Calls Try.prog 70 #[.pointer (some ⟨c, 0, none⟩), .int .i64 3] ((w.alloc (.cells #[.int .u64 0, .int .u64 0] 34)).drewN n) fun x w' => x = .returned (.tuple #[]) ∧ RF w' c s a 3 ∧ Kept (fun k => k = c) ((w.alloc (.cells #[.int .u64 0, .int .u64 0] 34)).drewN n) w') := fun n => bad_any (HRF.out.drew n) 3 (by decide)
        clear HQ hul hs h hb0 hk hk0
        go_enter Try.func44, Try.ntmps44
        go_wp2_with fail
        generalize w.alloc (.cells #[.int .u64 0, .int .u64 0] 34) = W0 at *
        have hlw : w.heap.size < W0.heap.size := World.block_lt_of_cell? W0 ⟨w.heap.size, 0, none⟩ r0
        refine (rwidth_val hW _).mono ?_
        rintro e w2 ⟨rfl, rfl⟩
        go_wp2_with fail
        refine (CL.out _).mono ?_
        rintro e w3 ⟨rfl, rfl⟩
        go_wp2
        go_quiet (fail)
        go_wp2_with fail
        refine (CB.out _).mono ?_
        rintro e w5 ⟨rfl, hR5, hk5⟩
        have hk5 : Kept (fun k => k = c) w3 w5 := ((Kept.refl _ _).drewN _).trans hk5
        have e0 := hk5.cell r0 hcr
        have e1 := hk5.cell r1 hcr
        have y0 := (hk5.frozen (p := ⟨w.heap.size, 0, none⟩) hlw hcr).trans z0
        have y1 := (hk5.frozen (p := ⟨w.heap.size, 1, none⟩) hlw hcr).trans z1
        obtain ⟨hR, hK, m2, m3⟩ := bits_end hR5 (HK0.out.trans hk5) (Nat.le_refl _) hcl e0 e1 0 0
        clear r0 r1 z0 z1 h0 h1 h2 h3 h4 h5 h6 hk5 hR5 CB
        go_wp2
        generalize (w5.setCell ⟨w.heap.size, 0, none⟩ (.int .u64 0)).setCell ⟨w.heap.size, 1, none⟩ (.int .u64 0) = W6 at *
        refine bodyPost_ret (v := B 0) ?_ rfl ⟨rfl, hR, hK⟩
        simp [results, Try.results44, go_sem, m2, m3]; exact ⟨rfl, rfl⟩
  · have hul : bitsS s a f n = (0, a, f) := by unfold bitsS; rw [if_neg hf]
    rw [hul]
    have hf' : (f == 0) = false := by simpa using hf
    obtain ⟨h0, h1, h2, h3, h4, h5, h6, _⟩ := id HRF.out
    clear hul hs h hb0
    go_enter Try.func44, Try.ntmps44
    go_wp2
    refine bodyPost_ret (v := B 0) ?_ rfl ⟨rfl, HRF.out, HK0.out⟩
    simp [results, Try.results44, go_sem, r0, r1]; exact ⟨rfl, rfl⟩
end Go.Proofs.Ytdpddlaedffmdaa
