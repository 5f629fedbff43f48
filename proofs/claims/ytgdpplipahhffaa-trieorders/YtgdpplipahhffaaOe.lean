/- Package trie: Drop. -/
import Derived.Test.YtgdpplipahhffaaOd
namespace Go.Proofs.Ytgdpplipahhffaa
open Go.RowKit
set_option linter.unusedVariables false
set_option linter.unusedSimpArgs false

theorem drop_none (qa : Option Addr) (v : Nat) (l : Int) (w : World) (hC : ∀ w1, Below w.heap.size w w1 → Calls Try.prog 28 #[.pointer qa, Pf v l] w1 fun e w' => e = .returned (okI none) ∧ Below w1.heap.size w1 w') :
    Calls Try.prog 39 #[.pointer qa, Pf v l] w fun e w' => e = .returned (okI none) ∧ Below w.heap.size w w' := by
  have C : Hid (∀ w1, Below w.heap.size w w1 → Calls Try.prog 28 #[.pointer qa, Pf v l] w1 fun e w' => e = .returned (.tuple #[.int .i64 0, .bool false]) ∧ Hid (Below w1.heap.size w1 w')) := hC
  have HB : Hid _ := one_new w #[.int .u64 (hiOf v), .int .u64 (loOf v), .int .i64 l] 51
  clear hC
  go_enter Try.func39, Try.ntmps39
  go_wp2_with fail
  refine (C.out _ HB.out.2.1).mono ?_
  rintro e w2 ⟨rfl, H2⟩
  have HC : Hid (Below w.heap.size w w2) := bst HB.out.2.1 H2.out
  clear H2 C HB
  go_wp2
  go_ret2
  exact ⟨rfl, HC.out⟩
section
variable {w : World} {q W most : Nat} {a : Option Nat} {n : Nat} {N : List (Nd Int)}
set_option maxHeartbeats 2000000 in
theorem drop_some (hT : TrieAt w q W most a n N) {p : List Bool} (hp : p.length ≤ W) (v : Int) (hl : look p (kept N) = some v) :
    Calls Try.prog 39 #[.pointer (some ⟨q, 0, none⟩), Pf (valOf W p) p.length] w fun e w' => e = .returned (okI (some v)) ∧ ∃ a' n' N', TrieAt w' q W most a' n' N' ∧ kept N' = del p (kept N) ∧ Kept (fun k => k = q) w w' := by
  obtain ⟨h1, h2⟩ := hT.wd
  have CG : Hid (∀ w1, Below w.heap.size w w1 → Calls Try.prog 28 #[.pointer (some ⟨q, 0, none⟩), Pf (valOf W p) p.length] w1 fun e w' => e = .returned (.tuple #[.int .i64 v, .bool true]) ∧ Hid (Below w1.heap.size w1 w')) := fun w1 h => by
    have := get_yes (hT.below h) hp
    rw [hl] at this; exact this
  have hsm : (look p (kept N)).isSome = true := by rw [hl]; rfl
  have hlen : (del p (kept N)).length + 1 = (kept N).length := len_del hT.hang.srt hsm
  have HLN : Hid ((del p (kept N)).length + 1 = (kept N).length) := hlen
  have HT : Hid (TrieAt w q W most a n N) := hT
  obtain ⟨A, hA9⟩ : ∃ A : Option Addr, A = a.map fun b => ⟨b, 0, none⟩ := ⟨_, rfl⟩
  have C63 : Hid (∀ w1, Below w.heap.size w w1 → Calls Try.prog 63 #[.pointer (some ⟨q, 0, none⟩), .pointer A, Pf (valOf W p) p.length] w1 fun e w' => ∃ b, e = .returned (pt b) ∧ Hid (Del1 W w1 w' p (kept N) b)) := fun w1 hb => by
    rw [hA9]
    exact without_any h1 h2 hp q n w1 a N ((hT.hd.below hb).cell 0 rfl) (hT.hang.below hb) (by rw [hl]; simp)
  have HH : Hid (Blk w q #[.int .i64 W, .int .i64 most, .int .i64 (kept N).length, .pointer A] 84) := by rw [hA9]; exact hT.hd
  have HM : Hid ((kept N).length ≤ most ∧ most ≤ 4096) := ⟨hT.most.1, hT.most.2.2⟩
  have hlq : q < w.heap.size := hT.hd.lt
  have HB : Hid _ := one_new w #[.int .u64 (hiOf (valOf W p)), .int .u64 (loOf (valOf W p)), .int .i64 p.length] 51
  have hll : 1 ≤ (kept N).length := by omega
  have hlm : (kept N).length ≤ 4096 := by have := HM.out; omega
  clear hT hl hsm hlen hA9
  generalize hLL : (kept N).length = LL at *
  have HLL : Hid ((kept N).length = LL) := hLL
  clear hLL
  go_enter Try.func39, Try.ntmps39
  go_wp2_with fail
  refine (CG.out _ HB.out.2.1).mono ?_
  rintro e w4 ⟨rfl, H2⟩
  have HE : Hid (Below w.heap.size w w4 ∧ Blk w4 w.heap.size #[.int .u64 (hiOf (valOf W p)), .int .u64 (loOf (valOf W p)), .int .i64 p.length] 51) := ⟨bst HB.out.2.1 H2.out, HB.out.1.below H2.out⟩
  clear H2 CG HB
  have y0 := HE.out.2.cell 0 (v := .int .u64 (hiOf (valOf W p))) rfl
  have y1 := HE.out.2.cell 1 (v := .int .u64 (loOf (valOf W p))) rfl
  have y2 := HE.out.2.cell 2 (v := .int .i64 p.length) rfl
  have q3 : w4.cell? ⟨q, 3, none⟩ = some (.pointer A) := (HH.out.below HE.out.1).cell 3 rfl
  have CC : Hid (∀ V, Below w4.heap.size w4 V → Calls Try.prog 63 #[.pointer (some ⟨q, 0, none⟩), .pointer A, Pf (valOf W p) p.length] V fun e w' => ∃ B, e = .returned (.pointer B) ∧ w'.cell? ⟨q, 3, none⟩ = some (.pointer A) ∧ w'.frozen? ⟨q, 3, none⟩ = false ∧ Hid (Blk w' q #[.int .i64 W, .int .i64 most, .int .i64 LL, .pointer A] 84 ∧ Below w.heap.size w w' ∧ ∃ a' n N', B = (a'.map fun b => ⟨b, 0, none⟩) ∧ HangI W w' n a' N' ∧ kept N' = del p (kept N))) := fun V hV => (C63.out V (bst HE.out.1 hV)).mono (by
    rintro e w' ⟨b, rfl, hP⟩
    have hb := bst (bst HE.out.1 hV) hP.out.2
    have g := HH.out.below hb
    obtain ⟨n', N', g1, g2⟩ := hP.out.1
    exact ⟨_, rfl, g.cell 3 rfl, g.frozen 3, (⟨g, hb, b, n', N', rfl, g1, g2⟩ : _ ∧ _)⟩)
  clear C63
  go_upto_region 3 with fail
  go_region_with ((go_at_call 63; refine (CC.out _ (by exact ⟨rfl, rfl, rfl, Nat.le_refl _, fun _ _ => rfl⟩)).mono ?_; rintro e w5 ⟨B, rfl, d3, e3, H5⟩))
  all_goals (
    have hks : Kept (fun k => k = q) w5 ((w5.setCell ⟨q, 3, none⟩ (.pointer B)).setCell ⟨q, 2, none⟩ (.int .i64 ((LL : Int) - 1))) := ((Kept.refl (fun k => k = q) w5).set (p := ⟨q, 3, none⟩) rfl _).set (p := ⟨q, 2, none⟩) rfl _
    have HF : Hid (∃ a' n' N', TrieAt ((w5.setCell ⟨q, 3, none⟩ (.pointer B)).setCell ⟨q, 2, none⟩ (.int .i64 ((LL : Int) - 1))) q W most a' n' N' ∧ kept N' = del p (kept N) ∧ Kept (fun k => k = q) w ((w5.setCell ⟨q, 3, none⟩ (.pointer B)).setCell ⟨q, 2, none⟩ (.int .i64 ((LL : Int) - 1)))) := by
      obtain ⟨g1, g2, a', n', N', g5, g3, g4⟩ := H5.out
      have hl2 : (kept N').length + 1 = LL := by rw [g4]; exact HLN.out
      refine ⟨a', n', N', HT.out.over ?_ (g3.keptW hks (g3.off_head g1)) (by have := HM.out; omega), g4, (Kept.of_below g2).trans hks⟩
      rw [show (((kept N').length : Nat) : Int) = (LL : Int) - 1 by omega]
      have := (g1.set 3 (.pointer B)).set 2 (.int .i64 ((LL : Int) - 1))
      rw [g5] at this ⊢
      exact this
    have HG : Hid (Blk (w5.setCell ⟨q, 3, none⟩ (.pointer B)) q #[.int .i64 W, .int .i64 most, .int .i64 LL, .pointer B] 84) := H5.out.1.set 3 _
    clear H5 hks CC y0 y1 y2 q3 d3 e3
    go_upto_region 4 with fail
    generalize w5.setCell _ _ = w6 at HF HG ⊢
    have c2 := HG.out.cell 2 (v := .int .i64 LL) rfl
    have f2 := HG.out.frozen 2
    go_wp2
    go_ret2
    exact ⟨rfl, HF.out⟩)
end
end Go.Proofs.Ytgdpplipahhffaa
