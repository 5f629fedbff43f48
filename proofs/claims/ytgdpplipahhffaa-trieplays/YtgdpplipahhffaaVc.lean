/- What is asked of both: Find, Every, All, Under; both tell the same. -/
import Derived.Test.YtgdpplipahhffaaVb
import Derived.Test.YtgdpplipahhffaaNo
import Derived.Test.YtgdpplipahhffaaGh
namespace Go.Proofs.Ytgdpplipahhffaa
open Go.RowKit
set_option linter.unusedVariables false
set_option linter.unusedSimpArgs false

section
variable {W most : Nat} {L : List (List Bool × Int)}
theorem evR_hits {W a : Nat} (h : fitsN a W = true) (L : List (List Bool × Int)) : evR (bitsOf W a) L = hitsL W a L := by
  unfold evR hitsL; rw [if_pos h]
theorem find_both (h1 : 1 ≤ W) (h2 : W ≤ 128) (hm : L.length ≤ 4096) (a : Nat) (ha : Is128 a) :
    (∀ w0 w q, Own w0 w q W most L → Calls Try.prog 26 #[.pointer (some ⟨q, 0, none⟩), B a] w fun e w' => e = .returned (findV W (hitsL W a L).getLast?) ∧ Below w.heap.size w w') ∧
    (∀ w B r, RefAt w B r W most L → Calls Try.prog 45 #[.pointer (some ⟨r, 0, none⟩), Go.Proofs.Ytgdpplipahhffaa.B a] w fun e w' => e = .returned (lastV (hitsL W a L).getLast?) ∧ Below w.heap.size w w') := by
  have hl : (hitsL W a L).length ≤ 4096 := by
    unfold hitsL; split
    · exact Nat.le_trans (List.length_filter_le _ _) hm
    · simp
  refine ⟨fun w0 w q hO => ?_, fun w B r hR => ?_⟩
  · obtain ⟨⟨b, n, N, hT, hk⟩, _⟩ := hO
    cases hf : fitsN a W with
    | false =>
      have := find_no (w := w) (W := W) q a ha hf (hT.hd.cell 0 rfl)
      have e : hitsL W a L = [] := by unfold hitsL; rw [hf]; rfl
      rw [e]; exact this
    | true =>
      have := find_yes hT a ha hf
      rw [kept_way hf, hk] at this
      exact this
  · refine (rfind_of hR a (hitsL W a L) hl fun w1 hb => ?_).mono fun e w' h => ⟨h.1, h.2.below (Nat.le_refl _) (fun k e => e.elim)⟩
    cases hf : fitsN a W with
    | false =>
      have e : hitsL W a L = [] := by unfold hitsL; rw [hf]; rfl
      rw [e]
      exact (revery_no (hR.below hb) h1 h2 a ha hf).mono fun e w' h => ⟨none, 0, h.1, (⟨World.ownsRow_nil _ _ _ _, Kept.of_below h.2⟩ : _ ∧ _)⟩
    | true =>
      have := revery_yes (hR.below hb) h1 h2 a ha hf
      rw [evR_hits hf] at this
      exact this
theorem every_both (h1 : 1 ≤ W) (h2 : W ≤ 128) (hm : L.length ≤ 4096) (a : Nat) (ha : Is128 a) :
    (∀ w0 w q, Own w0 w q W most L → Calls Try.prog 27 #[.pointer (some ⟨q, 0, none⟩), B a] w fun e w' => ∃ ba bc, e = .returned (.slice ba (hitsL W a L).length bc) ∧ Hid (w'.ownsRow w.heap.size 51 3 (.slice ba (hitsL W a L).length bc) (hitsL W a L).length (rowK W (keys (hitsL W a L))) ∧ Below w.heap.size w w')) ∧
    (∀ w B r, RefAt w B r W most L → Calls Try.prog 65 #[.pointer (some ⟨r, 0, none⟩), Go.Proofs.Ytgdpplipahhffaa.B a] w fun e w' => ∃ ba bc, e = .returned (.slice ba (hitsL W a L).length bc) ∧ Hid (w'.ownsRow w.heap.size 57 2 (.slice ba (hitsL W a L).length bc) (hitsL W a L).length (rowR (hitsL W a L)) ∧ Below w.heap.size w w')) := by
  refine ⟨fun w0 w q hO => ?_, fun w B r hR => ?_⟩
  · obtain ⟨⟨b, n, N, hT, hk⟩, _⟩ := hO
    cases hf : fitsN a W with
    | false =>
      have := every_no (w := w) (W := W) q a ha hf (hT.hd.cell 0 rfl)
      have e : hitsL W a L = [] := by unfold hitsL; rw [hf]; rfl
      rw [e]
      exact this.mono fun e w' ⟨h1, h2⟩ => ⟨none, 0, h1, (⟨World.ownsRow_nil _ _ _ _, h2⟩ : _ ∧ _)⟩
    | true =>
      have hlen : N.length ≤ 1000000 := by
        have h1 := hT.most.1
        rcases hT.hang.count with h | h
        · rw [h]; exact Nat.zero_le _
        · rw [hk] at h; omega
      have := every_yes hT hlen a ha hf
      rw [kept_way hf, hk] at this
      refine this.mono ?_
      rintro e w' ⟨s, rfl, h1, h2⟩
      have hkl : (keys (hitsL W a L)).length = (hitsL W a L).length := by simp [keys]
      rw [hkl] at h1
      obtain ⟨ba, bc, rfl⟩ := ownsRow_slice h1
      exact ⟨ba, bc, rfl, (⟨h1, h2⟩ : _ ∧ _)⟩
  · cases hf : fitsN a W with
    | false =>
      have e : hitsL W a L = [] := by unfold hitsL; rw [hf]; rfl
      rw [e]
      exact (revery_no hR h1 h2 a ha hf).mono fun e w' h => ⟨none, 0, h.1, (⟨World.ownsRow_nil _ _ _ _, h.2⟩ : _ ∧ _)⟩
    | true =>
      have := revery_yes hR h1 h2 a ha hf
      rw [evR_hits hf] at this
      exact this.mono fun e w' ⟨ba, bc, h, h2⟩ => ⟨ba, bc, h, (⟨h2.out.1, h2.out.2.below (Nat.le_refl _) (fun k e => e.elim)⟩ : _ ∧ _)⟩
/-- An iterator's word, from a world on. -/
def Tells51 (w : World) (W : Nat) (bt bp : Nat) (K : List (List Bool × Int)) : Prop := ∀ w1 S, Below w.heap.size w w1 → (∀ k, S k → w.heap.size ≤ k ∧ k < w1.heap.size) → TellsG 51 Try.prog 48 #[.pointer (some ⟨bt, 0, none⟩), .pointer (some ⟨bp, 0, none⟩)] (fun y : List Bool × Int => #[Pf (valOf W y.1) y.1.length, .int .i64 y.2]) K S w1
theorem all_tells51 {w0 V : World} {q bt bp : Nat} (hO : Own w0 V q W most L) (hbt : Blk V bt #[.pointer (some ⟨q, 0, none⟩)] 24) (hbp : Blk V bp #[.int .u64 (hiOf 0), .int .u64 (loOf 0), .int .i64 0] 51) : Tells51 V W bt bp L := by
  intro w1 S hb hS
  obtain ⟨⟨a, n, N, hT, hk⟩, _⟩ := hO
  have hbp' : Blk V bp #[.int .u64 (hiOf (valOf W [])), .int .u64 (loOf (valOf W [])), .int .i64 (([] : List Bool).length : Nat)] 51 := by rw [val_nil]; exact hbp
  have := under_tellsG 51 (by decide) (by decide) (hT.below hb) (p := []) (Nat.zero_le _) bt bp (hbt.below hb) (hbp'.below hb) S (fun k e => (hS k e).2) (hT.hang.off_new fun k e => (hS k e).1)
  rw [und_nil, hk] at this
  exact this
theorem under_both (h1 : 1 ≤ W) (h2 : W ≤ 128) (v : Nat) (hv : Is128 v) (l : Int) : ∃ K : List (List Bool × Int), (∀ y ∈ K, y ∈ L) ∧ K.length ≤ L.length ∧
    (∀ w0 V q bt bp, Own w0 V q W most L → Blk V bt #[.pointer (some ⟨q, 0, none⟩)] 24 → Blk V bp #[.int .u64 (hiOf v), .int .u64 (loOf v), .int .i64 l] 51 → Tells51 V W bt bp K) ∧
    (∀ w B r, RefAt w B r W most L → Calls Try.prog 21 #[.pointer (some ⟨r, 0, none⟩), Go.Proofs.Ytgdpplipahhffaa.B v, .int .i64 l] w fun e w' => ∃ ba bc, e = .returned (.slice ba K.length bc) ∧ Hid (w'.ownsRow w.heap.size 57 2 (.slice ba K.length bc) K.length (rowR K) ∧ Below w.heap.size w w')) := by
  by_cases hP : isP W v l = true
  · obtain ⟨p, hp, rfl, rfl⟩ := isP_yes hP
    refine ⟨unR p L, fun y hy => (List.mem_filter.1 hy).1, List.length_filter_le _ _, fun w0 V q bt bp hO hbt hbp w1 S hb hS => ?_, fun w B r hR => ?_⟩
    · obtain ⟨⟨a, n, N, hT, hk⟩, _⟩ := hO
      have := under_tellsG 51 (by decide) (by decide) (hT.below hb) hp bt bp (hbt.below hb) (hbp.below hb) S (fun k e => (hS k e).2) (hT.hang.off_new fun k e => (hS k e).1)
      rw [kept_und, hk] at this
      exact this
    · exact (runder_yes hR h1 h2 (valOf W p) hv p.length hP p (text_mk hp)).mono fun e w' ⟨ba, bc, h, h2⟩ => ⟨ba, bc, h, (⟨h2.out.1, h2.out.2.below (Nat.le_refl _) (fun k e => e.elim)⟩ : _ ∧ _)⟩
  · have hP : isP W v l = false := Bool.eq_false_iff.2 hP
    refine ⟨[], by simp, Nat.zero_le _, fun w0 V q bt bp hO hbt hbp w1 S hb hS => ?_, fun w B r hR => ?_⟩
    · obtain ⟨⟨a, n, N, hT, hk⟩, _⟩ := hO
      exact under_tells_bad 51 _ (hT.below hb) v hv l hP bt bp (hbt.below hb) (hbp.below hb) S
    · exact (runder_no hR h1 h2 v hv l hP).mono fun e w' h => ⟨none, 0, h.1, (⟨World.ownsRow_nil _ _ _ _, h.2⟩ : _ ∧ _)⟩
theorem nodes_both {w0 w : World} {q : Nat} (hO : Own w0 w q W most L) (hm : L.length ≤ 4096) : Calls Try.prog 40 #[.pointer (some ⟨q, 0, none⟩)] w fun e w' => e = .returned (.int .i64 (nodesR L)) ∧ Below w.heap.size w w' := by
  obtain ⟨⟨a, n, N, hT, hk⟩, _⟩ := hO
  have hlen : N.length ≤ 1000000 := by
    rcases hT.hang.count with h | h
    · rw [h]; exact Nat.zero_le _
    · rw [hk] at h; omega
  have := callsIn_wide.1 (nodes_any hT hlen 0)
  rw [nodes_eq hT.hang, hk] at this
  exact this
theorem len_both {w0 w : World} {q : Nat} (hO : Own w0 w q W most L) : Calls Try.prog 37 #[.pointer (some ⟨q, 0, none⟩)] w fun e w' => e = .returned (.int .i64 L.length) ∧ w' = w := by
  obtain ⟨⟨a, n, N, hT, hk⟩, _⟩ := hO
  have := len_any hT
  rw [hk] at this
  exact this
end
end Go.Proofs.Ytgdpplipahhffaa
