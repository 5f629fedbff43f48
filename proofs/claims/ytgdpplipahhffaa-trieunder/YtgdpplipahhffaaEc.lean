/- Package trie: each's iterator, to rounds that keep rows of their own. -/
import Derived.Test.YtgdpplipahhffaaEb
import Derived.Laws.EntriesVeiled
namespace Go.Proofs.Ytgdpplipahhffaa
open Go.RowKit
set_option linter.unusedVariables false
set_option linter.unusedSimpArgs false

set_option maxHeartbeats 4000000 in
set_option maxRecDepth 100000 in
theorem each_tellsG {W : Nat} (gt : TypeId) (hgt : gt ≠ 121) (w : World) {k : Nat} {a : Option Nat} {N : List (Nd Int)} (hH : HangI W w k a N) (bn : Nat) (hbn : Blk w bn #[pt a] 82) (S : Nat → Prop) (hS : ∀ k, S k → k < w.heap.size) (hSN : Off S N) :
    TellsG gt Try.prog 67 #[.pointer (some ⟨bn, 0, none⟩)] (fun x : Nd Int => #[Value.pointer (some ⟨x.blk, 0, none⟩)]) N S w := by
  intro n l J Jx w1 hW hl hJ hJx hY h0
  have hs := hW.size
  obtain ⟨S', hS'⟩ : ∃ S' : Nat → Prop, S' = fun k => S k ∨ (w1.heap.size ≤ k ∧ k ≠ w1.heap.size ∧ k ≠ w1.heap.size + 1) := ⟨_, rfl⟩
  have hn1 : ¬ S' w1.heap.size := by rw [hS']; exact fun e => e.elim (fun e => by have := hS _ e; omega) (fun e => e.2.1 rfl)
  have hn2 : ¬ S' (w1.heap.size + 1) := by rw [hS']; exact fun e => e.elim (fun e => by have := hS _ e; omega) (fun e => e.2.2 rfl)
  have hoff : Off S' N := fun x hx => by
    rw [hS']
    exact ⟨fun e => e.elim (hSN x hx).1 (by have := (hH.blks x hx).1; omega), fun t v ht e => e.elim ((hSN x hx).2 t v ht) (by have := (hH.blks x hx).2 t v ht; omega)⟩
  have CW : Hid (∀ w3, Below w1.heap.size w1 w3 → Blk w3 w1.heap.size #[.func (.yield l) #[] #[]] 121 → Blk w3 (w1.heap.size + 1) #[.func (.func 68) #[] #[.pointer (some ⟨w1.heap.size, 0, none⟩), .pointer (some ⟨w1.heap.size + 1, 0, none⟩)]] 121 →
      CallsIn Fence.wide (n - 1) Try.prog 68 #[pt a, .pointer (some ⟨w1.heap.size, 0, none⟩), .pointer (some ⟨w1.heap.size + 1, 0, none⟩)] w3 fun e w' => ∃ bb : Bool, e = .returned (.bool bb) ∧ Hid (J N w' ∨ ∃ pre, pre <+: N ∧ Jx pre w')) := fun w3 h3 b1 b2 => by
    have hJb : ∀ s A C, Below A.heap.size A C → J s A → J s C := fun s A C hb hj => hJ s A C (Kept.of_below hb) hj
    have := walk_core (W := W) w1.heap.size (w1.heap.size + 1) l N S' hn1 hn2
      (fun pre V => J pre V ∧ Blk V w1.heap.size #[.func (.yield l) #[] #[]] 121 ∧ Blk V (w1.heap.size + 1) #[.func (.func 68) #[] #[.pointer (some ⟨w1.heap.size, 0, none⟩), .pointer (some ⟨w1.heap.size + 1, 0, none⟩)]] 121) Jx
      (fun s A C hb hj => ⟨hJb s A C hb hj.1, hj.2.1.below hb, hj.2.2.below hb⟩)
      (fun m pre x W1 hpre hj => by
        obtain ⟨fn, tmps, assign, body, g1, g2⟩ := yield_any (m' := m) (hY pre x W1 hpre hj.1)
        have hk : ∀ k, k < W1.heap.size → Gst gt w1.heap.size S W1 k → S' k := fun k _ e => by
          rw [hS']
          rcases e with e | ⟨e, cs, f, hr⟩
          · exact .inl e
          · refine .inr ⟨e, ?_, ?_⟩
            · rintro rfl
              have := hj.2.1
              unfold Blk at this
              rw [this] at hr
              cases hr; exact hgt rfl
            · rintro rfl
              have := hj.2.2
              unfold Blk at this
              rw [this] at hr
              cases hr; exact hgt rfl
        refine ⟨fn, tmps, assign, body, g1, g2.mono ?_⟩
        rintro e W' (⟨rfl, k1, k2⟩ | ⟨rfl, k1, k2⟩)
        · have k3 := k2.mono hk
          exact .inl ⟨rfl, ⟨k1, hj.2.1.kept k3 hn1, hj.2.2.kept k3 hn2⟩, k3⟩
        · exact .inr ⟨rfl, k1, k2.mono fun k hk' e => e.elim (fun e => .inl (hk k hk' e)) .inr⟩)
      k (n - 1) a N [] w3 ((hH.below hW).below h3) hoff (by simp) ⟨hJb _ _ _ h3 h0, b1, b2⟩ b1 b2
    refine this.mono ?_
    rintro e w' (⟨rfl, H⟩ | ⟨rfl, H⟩)
    · exact ⟨true, rfl, .inl H.out.1.1⟩
    · exact ⟨false, rfl, .inr H.out⟩
  have HB : Hid _ := two_new' w1 #[.func (.yield l) #[] #[]] #[.func (.func 68) #[] #[.pointer (some ⟨w1.heap.size, 0, none⟩), .pointer (some ⟨w1.heap.size + 1, 0, none⟩)]] 121 121
  have HN : Hid (Blk w1 bn #[pt a] 82) := hbn.below hW
  have hbl := hbn.lt
  have hbl1 := HN.out.lt
  clear hH hbn hY hJ hJx hoff hn1 hn2 h0 hSN hS hS'
  generalize pt a = P0 at *
  refine callsIn_of_wp Try.func67 rfl trivial ?_ rfl
  simp only [Try.ntmps67, List.size_toArray, List.length_cons, List.length_nil, Nat.reduceAdd, Nat.reduceSub, Array.replicate_succ, Array.replicate_zero, List.push_toArray, List.append_toArray, List.nil_append, List.cons_append]
  gi_upto_region 3 with fail
  generalize ((w1.alloc _).alloc _) = w2 at HB ⊢
  have x1 := HB.out.2.1.cell 0 (v := .func (.func 68) #[] #[.pointer (some ⟨w1.heap.size, 0, none⟩), .pointer (some ⟨w1.heap.size + 1, 0, none⟩)]) rfl
  have x0 := (HN.out.below HB.out.2.2.1).cell 0 (v := P0) rfl
  gi_wp2_with fail
  refine ⟨trivial, no_depth _, ?_⟩
  refine (CW.out _ HB.out.2.2.1 HB.out.1 HB.out.2.1).mono ?_
  rintro e w3 ⟨bb, rfl, H3⟩
  clear CW HB HN x0 x1
  gi_wp2_with fail
  go_end0
  exact ⟨⟨_, rfl⟩, H3.out⟩
end Go.Proofs.Ytgdpplipahhffaa
