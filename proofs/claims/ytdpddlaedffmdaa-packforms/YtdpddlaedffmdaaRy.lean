/- One thing that is read on both readers: Bits. -/
import Derived.Test.YtdpddlaedffmdaaRx
namespace Go.Proofs.Ytdpddlaedffmdaa
open Go.RowKit
set_option linter.unusedVariables false
set_option linter.unusedSimpArgs false

set_option maxHeartbeats 4000000 in
set_option maxRecDepth 100000 in
theorem reads4 {w : World} {b c : Nat} {s : ByteArray} {a : Nat} {f : Int} (h : Both w b c s a f) (hs : s.size ≤ 140737488351232) (i : Wa) (hi : i.ok) (hk : i.kd = 4) : Calls Try.prog 13 #[.pointer (some ⟨b, 0, none⟩), .pointer (some ⟨c, 0, none⟩), i.val] w fun e w' => e = .returned (.bool true) ∧ BLeft b c s w w' := by
  have hb0 : Below w.heap.size w (w.alloc i.cells) := (Below.refl _ _).alloc (Nat.le_refl _) _
  have hP := h.below hb0
  have HI : Hid (WaAt (w.alloc i.cells) w.heap.size 0 i) := WaAt.new w i
  have hbl : b < w.heap.size := h.1.lt
  have hcl : c < w.heap.size := h.2.1.lt
  have hbc := h.2.2
  have hK0 : Kept (two b c) w (w.alloc i.cells) := Kept.of_below hb0
  have CA : Hid (Calls Try.prog 24 #[.pointer (some ⟨b, 0, none⟩), .int .i64 i.k] (w.alloc i.cells) fun e w' => e = .returned (B (bitsS s a f i.k).1) ∧ Rd w' b s (bitsS s a f i.k).2.1 (bitsS s a f i.k).2.2 ∧ Kept (fun k => k = b) (w.alloc i.cells) w') := a24 hP.1 hs i.k
  have CX : Hid (∀ w1 : World, RF w1 c s a f → Calls Try.prog 44 #[.pointer (some ⟨c, 0, none⟩), .int .i64 i.k] w1 fun e w' => e = .returned (B (bitsS s a f i.k).1) ∧ RF w' c s (bitsS s a f i.k).2.1 (bitsS s a f i.k).2.2 ∧ Kept (fun k => k = c) w1 w') := fun w1 h1 => x44 h1 hs i.k
  have HF : Hid (∀ w1 : World, Kept (fun k => k = b) (w.alloc i.cells) w1 → RF w1 c s a f) := fun w1 h1 => hP.2.1.kept h1 (fun e => hbc e.symm)
  have HIL : Hid (∀ w1 : World, Kept (fun k => k = b) (w.alloc i.cells) w1 → WaAt w1 w.heap.size 0 i) := fun w1 h1 => HI.out.kept h1 (by show ¬ w.heap.size = b; omega)
  have HK1 : Hid (Kept (two b c) w (w.alloc i.cells)) := hK0
  have hk1 : (i.kd == 4) = true := by simpa using hk
  have hne : ∀ j : Int, j ≠ 4 → (i.kd == j) = false := fun j hj => by rw [hk]; simpa using fun e => hj e.symm
  have hk_1 := hne 1 (by decide)
  have hk_2 := hne 2 (by decide)
  have hk_3 := hne 3 (by decide)
  have hk_5 := hne 5 (by decide)
  obtain ⟨c0, c1, c2, c3⟩ := id HI.out
  simp only [Nat.zero_add] at c1 c2 c3
  unfold Wa.val
  unfold Wa.cells at *
  clear h hP hne hk hi hb0 hK0 HI
  generalize (bitsS s a f i.k).1 = V at *
  generalize (bitsS s a f i.k).2.1 = A at *
  generalize (bitsS s a f i.k).2.2 = G at *
  go_enter Try.func13, Try.ntmps13
  go_wp2_with fail
  generalize (w.alloc (.cells #[.bool i.o, .int .i64 i.kd, .int .u64 i.n, .int .i64 i.k] 45)) = W1 at *
  refine CA.out.mono ?_
  rintro e w2 ⟨rfl, hR2, hk2⟩
  obtain ⟨d0, d1, d2, d3⟩ := HIL.out _ hk2
  simp only [Nat.zero_add] at d1 d2 d3
  have HF2 : Hid (RF w2 c s a f) := HF.out _ hk2
  have HR2 : Hid (Rd w2 b s A G) := hR2
  have HK2 : Hid (Kept (two b c) w w2) := HK1.out.trans (two_left hk2)
  clear c0 c1 c2 c3 hk2 hR2 HF HIL HK1 CA
  have hB2 : Below w2.heap.size w2 (w2.alloc (.cells #[.int .u64 (hiOf V), .int .u64 (loOf V)] 34)) := (Below.refl _ _).alloc (Nat.le_refl _) _
  have hz2 : w.heap.size ≤ w2.heap.size := HK2.out.size
  have hlt2 : w.heap.size < w2.heap.size := World.block_lt_of_cell? w2 ⟨w.heap.size, 0, none⟩ d0
  have g0 : (w2.alloc (.cells #[.int .u64 (hiOf V), .int .u64 (loOf V)] 34)).cell? ⟨w2.heap.size, 0, none⟩ = some (.int .u64 (hiOf V)) := by simp
  have g1 : (w2.alloc (.cells #[.int .u64 (hiOf V), .int .u64 (loOf V)] 34)).cell? ⟨w2.heap.size, 1, none⟩ = some (.int .u64 (loOf V)) := by simp
  have d3' := BC hB2 d3
  have HF3 : Hid (RF (w2.alloc (.cells #[.int .u64 (hiOf V), .int .u64 (loOf V)] 34)) c s a f) := HF2.out.below hB2
  have HR3 : Hid (Rd (w2.alloc (.cells #[.int .u64 (hiOf V), .int .u64 (loOf V)] 34)) b s A G) := HR2.out.below hB2
  have HK4 : Hid (Kept (two b c) w (w2.alloc (.cells #[.int .u64 (hiOf V), .int .u64 (loOf V)] 34))) := HK2.out.trans (Kept.of_below hB2)
  have hgc : ¬ w2.heap.size = c := by omega
  have hwc : ¬ w.heap.size = c := by omega
  go_wp2
  generalize (w2.alloc (.cells #[.int .u64 (hiOf V), .int .u64 (loOf V)] 34)) = W2 at *
  clear hB2 HF2 HR2 HK2 d0 d1 d2 d3 hz2 hlt2
  generalize w2.heap.size = g at *
  have C44 : Hid (Calls Try.prog 44 #[.pointer (some ⟨c, 0, none⟩), .int .i64 i.k] W2.drew fun e w' => e = .returned (B V) ∧ Hid (Both w' b c s A G) ∧ Hid (Kept (two b c) w w') ∧ w'.cell? ⟨g, 0, none⟩ = some (.int .u64 (hiOf V)) ∧ w'.cell? ⟨g, 1, none⟩ = some (.int .u64 (loOf V)) ∧ w'.cell? ⟨w.heap.size, 3, none⟩ = some (.int .i64 i.k)) := by
    refine (CX.out W2.drew HF3.out).mono ?_
    rintro e w' ⟨rfl, hF, hk⟩
    have hk' : Kept (fun k => k = c) W2 w' := ⟨hk.os, hk.tape, hk.output, hk.size, hk.block⟩
    exact ⟨rfl, ⟨HR3.out.kept hk' hbc, hF, hbc⟩, HK4.out.trans (two_right hk'), hk'.cell g0 hgc, hk'.cell g1 hgc, hk'.cell d3' hwc⟩
  clear CX HF3 HR3 HK4 hgc hwc hbl hcl
  go_region_held3 (fun w' => w'.cell? ⟨g, 0, none⟩ = some (.int .u64 (hiOf V)) ∧ w'.cell? ⟨g, 1, none⟩ = some (.int .u64 (loOf V)) ∧ w'.cell? ⟨w.heap.size, 3, none⟩ = some (.int .i64 i.k))
    (first | go_keep | exact hkp)
    (first | (go_at_call 44; refine C44.out.mono ?_; rintro e w3 ⟨rfl, HB3, HK3, hkp⟩))
  -- the end: where both stand
  have CF : Hid (Calls Try.prog 18 #[.pointer (some ⟨b, 0, none⟩)] w3 fun e w' => e = .returned (.tuple #[.int .i64 G, .int .i64 (faultAt A G)]) ∧ Both w' b c s A G ∧ Kept (two b c) w3 w') := fault_both HB3.out
  have CE : Hid (∀ w, Both w b c s A G → Calls Try.prog 20 #[.pointer (some ⟨b, 0, none⟩)] w fun e w' => e = .returned (.int .i64 (endR s A G)) ∧ Both w' b c s A G ∧ Kept (two b c) w w') := fun w h => end_both h hs
  go_wp2_with fail
  refine CF.out.mono ?_
  rintro e w4 ⟨rfl, hB4, hK4⟩
  go_wp2_with fail
  refine (CE.out _ hB4).mono ?_
  rintro e w5 ⟨rfl, hB5, hK5⟩
  have HK5 : Hid (Kept (two b c) w w5) := HK3.out.trans (hK4.trans hK5)
  have HB5 : Hid (Both w5 b c s A G) := hB5
  obtain ⟨p0, p1, p2, p3, p4, p5, p6, p7⟩ := id hB5.2.1
  clear CF CE hB4 hK4 hK5 hB5 HK3 HB3
  have C19 : Hid (∀ n, Calls Try.prog 19 #[.pointer (some ⟨b, 0, none⟩)] (w5.drewN n) fun e w' => e = .returned (.int .i64 A) ∧ w' = w5.drewN n) := fun n => at_any (w := w5.drewN n) HB5.out.1
  have C46 : Hid (∀ n, Calls Try.prog 46 #[.pointer (some ⟨c, 0, none⟩)] (w5.drewN n) fun e w' => e = .returned (.int .i64 (endR s A G)) ∧ ∃ m, w' = (w5.drewN n).drewN m) := fun n => rend_any (w := w5.drewN n) HB5.out.2.1
  have HE : Hid (∀ n, BLeft b c s w (w5.drewN n)) := fun n => ⟨A, G, HB5.out, HK5.out.drewN n⟩
  generalize endR s A G = en at *
  generalize faultAt A G = fa at *
  clear HB5 HK5 hs
  go_wp2
  go_quiet (first | (go_at_call 19; refine Calls.quiet_of_same (C19.out _)) | (go_at_call 46; refine Calls.quiet_of (C46.out _)))
  go_wp2
  go_ret
  exact ⟨by simp, HE.out _⟩
end Go.Proofs.Ytdpddlaedffmdaa
