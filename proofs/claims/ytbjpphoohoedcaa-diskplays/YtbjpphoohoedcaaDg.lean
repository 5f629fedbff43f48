/- Two disks beside one another: crash of both. -/
import Derived.Test.YtbjpphoohoedcaaDf
namespace Go.Proofs.Ytbjpphoohoedcaa
open Go.RowKit
set_option linter.unusedVariables false
set_option linter.unusedSimpArgs false

set_option maxHeartbeats 2000000 in
set_option maxRecDepth 100000 in
theorem pcrash_any {B : Nat} {v w : World} {a b : Nat} {fa fb : Nat → Prop} {S : DS} (t : Two B w a b fa fb S S) (fs : List (Int × Int)) (ad : Option Addr) (c : Nat) (hf : FtO v fs ad) (hv : Below v.heap.size v w) (hB : v.heap.size ≤ B) (hfl : fs.length ≤ 8796093021952) : Calls Try.prog 50 #[.agg #[pt a, pt b], .slice ad fs.length c] w fun e w' => e = .returned (.bool true) ∧ TL B a b fa fb w (crashD S fs) (crashD S fs) w' := by
  unfold pt
  obtain ⟨W, hW⟩ : ∃ W, W = w.alloc (.cells #[.pointer (some ⟨a, 0, none⟩), .pointer (some ⟨b, 0, none⟩)] 33) := ⟨_, rfl⟩
  have hbW : Below w.heap.size w W := hW ▸ Below_new _ _
  have hzW : W.heap.size ≤ w.heap.size + 1 ∧ w.heap.size + 1 ≤ W.heap.size := by rw [hW, World.size_alloc]; omega
  have HK : Hid (Blk W w.heap.size #[.pointer (some ⟨a, 0, none⟩), .pointer (some ⟨b, 0, none⟩)] 33) := hW ▸ Blk.new _ _ _
  have hvz : v.heap.size ≤ w.heap.size := hv.size
  have hvW : Below v.heap.size v W := bstep hv hbW (Nat.le_refl _)
  have HT : Hid (Two B W a b fa fb S S) := t.below hbW
  have HTL : Hid (∀ k, (fa k ∨ fb k) → k < w.heap.size) := fun k h => (t.low k h).2
  have HBW : Hid (Below w.heap.size w W) := hbW
  have CL : Hid (Calls Try.prog 68 #[.slice ad fs.length c] W fun e w' => e = .returned (.slice (some ⟨W.heap.size, 0, none⟩) (fs.length + 3) (fs.length + 3)) ∧ (∃ xs, w'.ownsRow W.heap.size 59 2 (.slice (some ⟨W.heap.size, 0, none⟩) (fs.length + 3) (fs.length + 3)) (fs.length + 3) xs ∧ ∀ j p, (LL fs)[j]? = some p → At2 xs j p) ∧ Below W.heap.size W w') := lent_any fs ad c (hf.below hvW) hfl
  have HF : Hid (FtO v fs ad) := hf
  have HV : Hid (Below v.heap.size v W) := hvW
  have HB : Hid (v.heap.size ≤ B) := hB
  have HFL : Hid (fs.length ≤ 8796093021952) := hfl
  have C25 : Hid (∀ (w2 : World) (xs : List Value), w2.ownsRow W.heap.size 59 2 (.slice (some ⟨W.heap.size, 0, none⟩) (fs.length + 3) (fs.length + 3)) (fs.length + 3) xs → (∀ j p, (LL fs)[j]? = some p → At2 xs j p) → Two B w2 a b fa fb S S → Calls Try.prog 25 #[.pointer (some ⟨a, 0, none⟩), .slice (some ⟨W.heap.size, 0, none⟩) fs.length (fs.length + 3)] w2 fun e w' => e = .returned (.tuple #[]) ∧ Hid (TL B a b fa fb w2 (crashD S fs) S w')) := by
    show ∀ (w2 : World) (xs : List Value), _
    intro w2 xs hR hA t2
    refine (crash_any t2.da fs (some ⟨W.heap.size, 0, none⟩) (fs.length + 3) ?_ ?_).mono ?_
    · right
      refine ⟨_, _, rfl, fun i kd tt hi => ?_⟩
      have hil := (List.getElem?_eq_some_iff.1 hi).1
      obtain ⟨b0, b1⟩ := hA i _ (LL_at fs i _ hi)
      rw [Nat.zero_add]
      exact ⟨(hR.cellAt (i * 2) (by omega)).trans b0, (hR.cellAt (i * 2 + 1) (by omega)).trans b1⟩
    · intro x off e hx
      injection e with e
      injection e with e1 e2
      have := HTL.out x (.inl hx)
      omega
    · rintro e w' ⟨h1, h2⟩
      exact ⟨h1, t2.stepA h2⟩
  have C69 : Hid (∀ (w3 : World) (fa' fb' : Nat → Prop), Two B w3 a b fa' fb' (crashD S fs) S → Below v.heap.size v w3 → Calls Try.prog 69 #[.pointer (some ⟨b, 0, none⟩), .slice ad fs.length c] w3 fun e w' => e = .returned (.tuple #[]) ∧ TL B a b fa' fb' w3 (crashD S fs) (crashD S fs) w') := by
    show ∀ (w3 : World) (fa' fb' : Nat → Prop), _
    intro w3 fa' fb' t3 hb3
    refine (rcrash_any t3.db fs ad c HF.out hb3 HB.out HFL.out).mono ?_
    rintro e w' ⟨h1, h2⟩
    exact ⟨h1, t3.stepB h2⟩
  have C70 : Hid (∀ (w4 : World) (xs : List Value), Below v.heap.size v w4 → w4.ownsRow W.heap.size 59 2 (.slice (some ⟨W.heap.size, 0, none⟩) (fs.length + 3) (fs.length + 3)) (fs.length + 3) xs → (∀ j p, (LL fs)[j]? = some p → At2 xs j p) → Calls Try.prog 70 #[.slice (some ⟨W.heap.size, 0, none⟩) (fs.length + 3) (fs.length + 3), .slice ad fs.length c] w4 fun e w' => e = .returned (.bool true) ∧ Kept (fun k => k = W.heap.size) w4 w') := fun w4 xs hb hR hA => still_any fs ad c (fs.length + 3) HF.out hb W.heap.size (by omega) rfl HFL.out xs hR hA
  generalize crashD S fs = SR at *
  generalize LL fs = L at *
  clear t hbW hf hv hB hvW
  obtain ⟨n, hn⟩ : ∃ n, n = fs.length := ⟨_, rfl⟩
  rw [← hn] at CL C25 C69 C70 hfl ⊢
  have hni : (n : Int) ≤ 8796093021952 := by omega
  have hn3 : (n : Int) ≤ (n : Int) + 3 := by omega
  have hn4 : n ≤ n + 3 := by omega
  have HFN : Hid (n = fs.length) := hn
  clear hn hfl
  go_enter Try.func50, Try.ntmps50
  go_wp2_with fail
  rw [← hW]
  clear hW
  refine CL.out.mono ?_
  rintro e w2 ⟨rfl, ⟨xs, hR, hA⟩, hb2⟩
  have T2 := HT.out.below hb2
  have K2 := HK.out.below hb2
  have z2 : W.heap.size < w2.heap.size := (hR.lt _ rfl).2
  have k0 := K2.cell 0 (v := .pointer (some ⟨a, 0, none⟩)) rfl
  have C25' : Hid (∀ w3 : World, Below w2.heap.size w2 w3 → Calls Try.prog 25 #[.pointer (some ⟨a, 0, none⟩), .slice (some ⟨W.heap.size, 0, none⟩) n (n + 3)] w3 fun e w' => e = .returned (.tuple #[]) ∧ Hid (TL B a b fa fb w3 SR S w') ∧ Hid (w'.cell? ⟨w.heap.size, 0, none⟩ = some (.pointer (some ⟨a, 0, none⟩)))) := fun w3 hb => (C25.out w3 xs (ownsRow_kept (S := fun _ => False) hR (Kept.of_below hb) (fun _ _ => id)) hA (T2.below hb)).mono (fun e w' ⟨h1, h2⟩ => ⟨h1, h2, by
    obtain ⟨_, _, _, hk, _⟩ := h2.out
    exact ((K2.below hb).kept hk (fun e => by have := HTL.out _ e; omega)).cell 0 rfl⟩)
  have H2 : Hid (w2.ownsRow W.heap.size 59 2 (.slice (some ⟨W.heap.size, 0, none⟩) (n + 3) (n + 3)) (n + 3) xs ∧ (∀ j p, L[j]? = some p → At2 xs j p) ∧ Below W.heap.size W w2 ∧ Blk w2 w.heap.size #[.pointer (some ⟨a, 0, none⟩), .pointer (some ⟨b, 0, none⟩)] 33 ∧ Two B w2 a b fa fb S S) := ⟨hR, hA, hb2, K2, T2⟩
  clear hR hA hb2 T2 K2 CL C25 HT HK
  go_wp2_with fail
  go_region_held3 (fun w' => w'.cell? ⟨w.heap.size, 0, none⟩ = some (.pointer (some ⟨a, 0, none⟩)))
    (first | exact hc3.out | go_keep)
    (first | (go_at_call 25; refine (C25'.out _ (by exact ⟨rfl, rfl, rfl, Nat.le_refl _, fun _ _ => rfl⟩)).mono ?_; rintro e w3 ⟨rfl, hT3, hc3⟩))
  obtain ⟨hR, hA, hb2, K2, T2⟩ := H2.out
  have hT3' : TL B a b fa fb w2 SR S w3 := by
    obtain ⟨fa', fb', x1, x2, x3⟩ := hT3.out
    exact ⟨fa', fb', x1, ⟨x2.os, x2.tape, x2.output, x2.size, x2.block⟩, x3⟩
  obtain ⟨fa', fb', t3, hk3, hn3'⟩ := hT3'
  have K3 := K2.kept hk3 (fun e => by have := HTL.out _ e; omega)
  have k1 := K3.cell 1 (v := .pointer (some ⟨b, 0, none⟩)) rfl
  have hbl2 : Below v.heap.size v w2 := HV.out.trans (hb2.mono (by omega))
  have hlow : ∀ k, (fa k ∨ fb k) → v.heap.size ≤ k := fun k h => Nat.le_trans HB.out (T2.low k h).1
  have hbl3 : Below v.heap.size v w3 := hbl2.trans (hk3.below (by omega) hlow)
  have C69' : Hid (Calls Try.prog 69 #[.pointer (some ⟨b, 0, none⟩), .slice ad n c] w3 fun e w' => e = .returned (.tuple #[]) ∧ TL B a b fa fb w2 SR SR w') := (C69.out w3 fa' fb' t3 hbl3).mono (fun e w' ⟨h1, h2⟩ => ⟨h1, TL.trans hk3 hn3' h2⟩)
  clear hT3 t3 hk3 hn3' K3 K2 hbl3 C69 C25' T2 hR hA hb2 k0
  go_wp2_with fail
  refine C69'.out.mono ?_
  rintro e w4 ⟨rfl, hT4⟩
  obtain ⟨hR, hA, hb2, K2, T2⟩ := H2.out
  obtain ⟨fa4, fb4, t4, hk4, hn4'⟩ := hT4
  have R4 := ownsRow_kept hR hk4 (fun k e h => by simp [Value.ownBlock] at e; subst e; have := HTL.out _ h; omega)
  have hbl4 : Below v.heap.size v w4 := hbl2.trans (hk4.below (by omega) hlow)
  have C70' : Hid (Calls Try.prog 70 #[.slice (some ⟨W.heap.size, 0, none⟩) (n + 3) (n + 3), .slice ad n c] w4 fun e w' => e = .returned (.bool true) ∧ TL B a b fa fb w SR SR w') := by
    refine (C70.out w4 xs hbl4 R4 hA).mono ?_
    rintro e w' ⟨h1, h2⟩
    refine ⟨h1, fa4, fb4, t4.kept h2 (fun k h e => ?_), ?_, fun k h => ?_⟩
    · rcases hn4' k h with x | x
      · have := HTL.out k x; omega
      · omega
    · have e1 : Kept (fun k => fa k ∨ fb k) w w2 := (Kept.of_below HBW.out).trans (Kept.of_below hb2)
      exact ⟨(h2.os.trans hk4.os).trans e1.os, (h2.tape.trans hk4.tape).trans e1.tape, (h2.output.trans hk4.output).trans e1.output, Nat.le_trans e1.size (Nat.le_trans hk4.size h2.size), fun i hi hs => ((h2.block i (Nat.lt_of_lt_of_le hi (Nat.le_trans e1.size hk4.size)) (by omega)).trans (hk4.block i (Nat.lt_of_lt_of_le hi e1.size) hs)).trans (e1.block i hi hs)⟩
    · rcases hn4' k h with x | x
      · exact .inl x
      · right; omega
  clear t4 hk4 hn4' R4 hbl4 C70 C69' hR hA hb2 K2 T2 hbl2 hlow H2
  go_wp2_with fail
  refine C70'.out.mono ?_
  rintro e w5 ⟨rfl, hT5⟩
  have HE : Hid (TL B a b fa fb w SR SR w5) := hT5
  clear hT5 C70'
  go_wp2
  go_ret
  exact ⟨rfl, HE.out⟩
end Go.Proofs.Ytbjpphoohoedcaa
