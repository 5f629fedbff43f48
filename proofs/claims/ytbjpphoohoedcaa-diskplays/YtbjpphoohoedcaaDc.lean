/- Two disks beside one another: pending of both, twice. -/
import Derived.Test.YtbjpphoohoedcaaRh
namespace Go.Proofs.Ytbjpphoohoedcaa
open Go.RowKit
set_option linter.unusedVariables false
set_option linter.unusedSimpArgs false

set_option maxHeartbeats 2000000 in
set_option maxRecDepth 100000 in
theorem ppending_any {B : Nat} {w : World} {a b : Nat} {fa fb : Nat → Prop} {S : DS} (t : Two B w a b fa fb S S) (hfew : S.wait.length ≤ 17592186044000) : Calls Try.prog 22 #[.agg #[pt a, pt b]] w fun e w' => e = .returned (.bool true) ∧ Below w.heap.size w w' := by
  unfold pt
  obtain ⟨i0, hi, hz0, hz1, hz3⟩ := info_parts info3
  obtain ⟨W, hW⟩ : ∃ W, W = w.alloc (.cells #[.pointer (some ⟨a, 0, none⟩), .pointer (some ⟨b, 0, none⟩)] 33) := ⟨_, rfl⟩
  have hbW : Below w.heap.size w W := hW ▸ Below_new _ _
  have hzW : W.heap.size ≤ w.heap.size + 1 ∧ w.heap.size + 1 ≤ W.heap.size := by rw [hW, World.size_alloc]; omega
  have hblk : Blk W w.heap.size #[.pointer (some ⟨a, 0, none⟩), .pointer (some ⟨b, 0, none⟩)] 33 := hW ▸ Blk.new _ _ _
  have HT : Hid (Two B W a b fa fb S S) := t.below hbW
  have HTL : Hid (∀ k, (fa k ∨ fb k) → k < w.heap.size) := fun k h => (t.low k h).2
  have HK : Hid (Blk W w.heap.size #[.pointer (some ⟨a, 0, none⟩), .pointer (some ⟨b, 0, none⟩)] 33) := hblk
  have HBW : Hid (Below w.heap.size w W) := hbW
  have k0 := hblk.cell 0 (v := .pointer (some ⟨a, 0, none⟩)) rfl
  obtain ⟨l, hl⟩ : ∃ l, l = S.wait.map (·.1) := ⟨_, rfl⟩
  obtain ⟨n, hn⟩ : ∃ n, n = S.wait.length := ⟨_, rfl⟩
  have hln : l.length = n := by rw [hl, hn]; simp
  have CP : Hid (∀ w1 : World, Two B w1 a b fa fb S S → Calls Try.prog 24 #[.pointer (some ⟨a, 0, none⟩)] w1 fun e w' => e = .returned (.slice (some ⟨w1.heap.size, 0, none⟩) n n) ∧ w'.ownsRow w1.heap.size 3 1 (.slice (some ⟨w1.heap.size, 0, none⟩) n n) n (nl l) ∧ Below w1.heap.size w1 w') := by
    show ∀ w1 : World, _
    intro w1 t1
    obtain ⟨g, h, cg, ch, pv, bx, _, da⟩ := t1.da
    have := pending_any da (by omega)
    rw [hn, ← nums_all, hl, List.length_map]
    exact this
  have CR : Hid (∀ w1 : World, Two B w1 a b fa fb S S → Calls Try.prog 51 #[.pointer (some ⟨b, 0, none⟩)] w1 fun e w' => ∃ v, e = .returned v ∧ w'.ownsRow w1.heap.size 3 1 v n (nl l) ∧ Below w1.heap.size w1 w') := by
    show ∀ w1 : World, _
    intro w1 t1
    obtain ⟨g, cg, pv, _, db⟩ := t1.db
    have := rpending_any db (by omega)
    rw [hn, hl]
    exact this
  have hnn : n ≤ 17592186044000 := by omega
  have hni : (n : Int) ≤ 17592186044000 := by omega
  clear t hblk hbW hn hl hfew
  go_enter Try.func22, Try.ntmps22
  go_wp2_with fail
  rw [← hW]
  clear hW
  refine (CP.out W HT.out).mono ?_
  rintro e w2 ⟨rfl, r2, hb2⟩
  have T2 := HT.out.below hb2
  have K2 := HK.out.below hb2
  have k0 := K2.cell 0 (v := .pointer (some ⟨a, 0, none⟩)) rfl
  have z2 : W.heap.size < w2.heap.size := (r2.lt _ rfl).2
  have C2 : Hid (Calls Try.prog 24 _ w2 _) := CP.out w2 T2
  have H2 : Hid (w2.ownsRow W.heap.size 3 1 (.slice (some ⟨W.heap.size, 0, none⟩) n n) n (nl l) ∧ Below W.heap.size W w2 ∧ Two B w2 a b fa fb S S ∧ Blk w2 w.heap.size #[.pointer (some ⟨a, 0, none⟩), .pointer (some ⟨b, 0, none⟩)] 33) := ⟨r2, hb2, T2, K2⟩
  clear HT HK r2 hb2 T2 K2
  go_wp2_with fail
  refine C2.out.mono ?_
  rintro e w3 ⟨rfl, r3, hb3⟩
  obtain ⟨r2, hb2, T2, K2⟩ := H2.out
  have T3 := T2.below hb3
  have K3 := K2.below hb3
  have k1 := K3.cell 1 (v := .pointer (some ⟨b, 0, none⟩)) rfl
  have z3 : w2.heap.size < w3.heap.size := (r3.lt _ rfl).2
  have C3 : Hid (Calls Try.prog 51 _ w3 _) := CR.out w3 T3
  have H3 : Hid (w3.ownsRow W.heap.size 3 1 (.slice (some ⟨W.heap.size, 0, none⟩) n n) n (nl l) ∧ w3.ownsRow w2.heap.size 3 1 (.slice (some ⟨w2.heap.size, 0, none⟩) n n) n (nl l) ∧ Below W.heap.size W w3 ∧ Two B w3 a b fa fb S S ∧ Blk w3 w.heap.size #[.pointer (some ⟨a, 0, none⟩), .pointer (some ⟨b, 0, none⟩)] 33) := ⟨row_below r2 hb3, r3, bstep hb2 hb3 (Nat.le_refl _), T3, K3⟩
  clear H2 C2 r2 r3 hb2 hb3 T2 K2 T3 K3
  go_wp2_with fail
  refine C3.out.mono ?_
  rintro e w4 ⟨v, rfl, r4, hb4⟩
  obtain ⟨r2, r3, hb3, T3, K3⟩ := H3.out
  have z4 := hb4.size
  have T4 := T3.below hb4
  have K4 := K3.below hb4
  have x4 := row_below r2 hb4
  have y4 := row_below r3 hb4
  have C4 : Hid (Calls Try.prog 52 _ w4 _) := same_any hln x4 r4
  have hvb : ∀ j, v.ownBlock = some j → w3.heap.size ≤ j ∧ j < w4.heap.size := fun j e => r4.lt j e
  have HVB : Hid (∀ j, v.ownBlock = some j → w3.heap.size ≤ j ∧ j < w4.heap.size) := hvb
  have H4 : Hid (w4.ownsRow W.heap.size 3 1 (.slice (some ⟨W.heap.size, 0, none⟩) n n) n (nl l) ∧ w4.ownsRow w2.heap.size 3 1 (.slice (some ⟨w2.heap.size, 0, none⟩) n n) n (nl l) ∧ w4.ownsRow w3.heap.size 3 1 v n (nl l) ∧ Below W.heap.size W w4 ∧ Two B w4 a b fa fb S S ∧ Blk w4 w.heap.size #[.pointer (some ⟨a, 0, none⟩), .pointer (some ⟨b, 0, none⟩)] 33) := ⟨x4, y4, r4, bstep hb3 hb4 (Nat.le_refl _), T4, K4⟩
  clear H3 C3 r2 r3 hb3 hb4 T3 K3 T4 K4 x4 y4 r4 hvb
  go_wp2_with fail
  refine C4.out.mono ?_
  rintro e w5 ⟨rfl, hb5⟩
  obtain ⟨x4, y4, r4, hb4, T4, K4⟩ := H4.out
  have z5 := hb5.size
  have C5 : Hid (Calls Try.prog 52 _ w5 _) := same_any hln (row_below y4 hb5) (row_below r4 hb5)
  have H5 : Hid (w5.ownsRow W.heap.size 3 1 (.slice (some ⟨W.heap.size, 0, none⟩) n n) n (nl l) ∧ w5.ownsRow w2.heap.size 3 1 (.slice (some ⟨w2.heap.size, 0, none⟩) n n) n (nl l) ∧ w5.ownsRow w3.heap.size 3 1 v n (nl l) ∧ Below W.heap.size W w5 ∧ Two B w5 a b fa fb S S ∧ Blk w5 w.heap.size #[.pointer (some ⟨a, 0, none⟩), .pointer (some ⟨b, 0, none⟩)] 33) := ⟨row_below x4 hb5, row_below y4 hb5, row_below r4 hb5, bstep hb4 hb5 (Nat.le_refl _), T4.below hb5, K4.below hb5⟩
  clear H4 C4 x4 y4 r4 hb4 hb5 T4 K4
  go_wp2_with fail
  refine C5.out.mono ?_
  rintro e w6 ⟨rfl, hb6⟩
  obtain ⟨x5, y5, r5, hb5, T5, K5⟩ := H5.out
  have z6 := hb6.size
  have H6 : Hid (w6.ownsRow W.heap.size 3 1 (.slice (some ⟨W.heap.size, 0, none⟩) n n) n (nl l) ∧ w6.ownsRow w2.heap.size 3 1 (.slice (some ⟨w2.heap.size, 0, none⟩) n n) n (nl l) ∧ w6.ownsRow w3.heap.size 3 1 v n (nl l) ∧ Below W.heap.size W w6 ∧ Two B w6 a b fa fb S S ∧ Blk w6 w.heap.size #[.pointer (some ⟨a, 0, none⟩), .pointer (some ⟨b, 0, none⟩)] 33) := ⟨row_below x5 hb6, row_below y5 hb6, row_below r5 hb6, bstep hb5 hb6 (Nat.le_refl _), T5.below hb6, K5.below hb6⟩
  clear H5 C5 x5 y5 r5 hb5 hb6 T5 K5
  go_wp2_with fail
  go_loopw [8] (fun t wa => ∃ (k : Nat) (xs : List Value), k ≤ n ∧ t = .int .i64 k ∧ wa.ownsRow W.heap.size 3 1 (.slice (some ⟨W.heap.size, 0, none⟩) n n) n xs ∧ Kept (fun k => k = W.heap.size ∨ w6.heap.size ≤ k) w6 wa) (fun t _ => n - (intOf t).toNat)
  case atStart => exact ⟨0, _, Nat.zero_le _, rfl, H6.out.1, Kept.refl _ _⟩
  case round =>
    obtain ⟨k, xs, hk, rfl, hR, hK⟩ := hrel
    by_cases hlt2 : k < n
    · have hk' : (k : Int) < (n : Int) := by omega
      have hxl : k < xs.length := by have := hR.1; omega
      have q1 := (hR.cellAt k (by omega)).trans (List.getElem?_eq_getElem hxl)
      have f1 := hR.frozenAt k
      have HE : Hid ((wr.setCell ⟨W.heap.size, k, none⟩ (.int .i64 (-1))).ownsRow W.heap.size 3 1 (.slice (some ⟨W.heap.size, 0, none⟩) n n) n (xs.set k (.int .i64 (-1))) ∧ Kept (fun k => k = W.heap.size ∨ w6.heap.size ≤ k) w6 (wr.setCell ⟨W.heap.size, k, none⟩ (.int .i64 (-1)))) := ⟨(hR.stored k (.int .i64 (-1))).1, hK.set (p := ⟨W.heap.size, k, none⟩) (.inl rfl) _⟩
      clear hR hK H6
      generalize xs[k] = x at *
      go_wp2
      go_roundw
      case rel => exact ⟨k + 1, _, by omega, by go_num, HE.out⟩
      case measure => simp [intOf]; omega
    · have hk' : ¬ (k : Int) < (n : Int) := by omega
      have HR : Hid (wr.ownsRow W.heap.size 3 1 (.slice (some ⟨W.heap.size, 0, none⟩) n n) n xs) := hR
      have HKK : Hid (Kept (fun k => k = W.heap.size ∨ w6.heap.size ≤ k) w6 wr) := hK
      clear hR hK
      go_wp2_with fail
      go_loopw [3, 9] (fun s t wa => ∃ (k : Nat) (xs : List Value), k ≤ 9 ∧ t = .int .i64 k ∧ wa.ownsRow W.heap.size 3 1 s (n + k) xs ∧ (∀ j, s.ownBlock = some j → j = W.heap.size ∨ w6.heap.size ≤ j) ∧ Kept (fun k => k = W.heap.size ∨ w6.heap.size ≤ k) w6 wa) (fun _ t _ => 9 - (intOf t).toNat)
      case atStart => exact ⟨0, _, Nat.zero_le _, rfl, HR.out, fun j e => .inl (by simpa [Value.ownBlock] using e.symm), HKK.out⟩
      case round =>
        obtain ⟨i, xs, hi9, rfl, hR, hO, hK⟩ := hrel
        by_cases hlt3 : i < 9
        · have hi' : (i : Int) < 9 := by omega
          have hw1 := hK.size
          have HR : Hid ((wr.alloc (.cells #[.int .i64 (-1)] 3)).ownsRow W.heap.size 3 1 u3 (n + i) xs) := hR.alloc _
          have HNX : Hid (∀ (j : Nat) (u : Value), [Value.int .i64 (-1)][j]? = some u → (wr.alloc (.cells #[.int .i64 (-1)] 3)).cell? ((⟨wr.heap.size, 0, none⟩ : Addr).add j) = some u) := World.news_of_block (Blk.new wr #[.int .i64 (-1)] 3)
          have HN : Hid (∀ u ∈ [Value.int .i64 (-1)], u.oneCell' = true) := fun u hu => by rw [List.mem_singleton.1 hu]; rfl
          have HZ : Hid (n + i + 1 ≤ maxLen ∧ (n + i + 1) * 8 ≤ 140737488355328 ∧ W.heap.size ≤ (wr.alloc (.cells #[.int .i64 (-1)] 3)).heap.size) := ⟨by unfold maxLen; omega, by omega, by rw [World.size_alloc]; omega⟩
          have HE : Hid (∀ (g cap : Nat) (w' : World), w'.ownsRow W.heap.size 3 1 (.slice (some ⟨g, 0, none⟩) (n + i + 1) cap) (n + i + 1) (xs ++ [.int .i64 (-1)]) → (wr.alloc (.cells #[.int .i64 (-1)] 3)).grownBy w' u3.ownBlock → (u3.ownBlock = some g ∨ g = wr.heap.size + 1) → w'.ownsRow W.heap.size 3 1 (.slice (some ⟨g, 0, none⟩) (n + i + 1) cap) (n + (i + 1)) (xs ++ [.int .i64 (-1)]) ∧ (∀ j, (Value.slice (some ⟨g, 0, none⟩) (n + i + 1) cap).ownBlock = some j → j = W.heap.size ∨ w6.heap.size ≤ j) ∧ Kept (fun k => k = W.heap.size ∨ w6.heap.size ≤ k) w6 w') := by
            show ∀ (g cap : Nat) (w' : World), _
            intro g cap w' ho hg hwh
            refine ⟨ho, fun j e => ?_, (hK.alloc _).grown hg hO⟩
            simp [Value.ownBlock] at e
            subst e
            rcases hwh with e | e
            · exact hO _ e
            · right; omega
          clear hR hK hO H6
          go_wp2_with (at_builtin; refine wpList_append_lies _ rfl _ _ 47 rfl W.heap.size 3 i0 (.int .i64 0) 1 8 Try.underlying47 hi hz0 hz1 hz3 rfl (by decide) u3 (n + i) xs rfl HR.out ⟨wr.heap.size, 0, none⟩ 1 1 [.int .i64 (-1)] rfl rfl HNX.out HN.out (by decide) HZ.out.1 HZ.out.2.1 HZ.out.2.2 _ rfl ?_)
          intro g1 cap1 w7 hown hgr hwh hlt6
          have hend : Hid _ := HE.out g1 cap1 w7 hown hgr hwh
          clear HE HR hown hgr hwh
          go_wp2
          go_roundw
          case rel => exact ⟨i + 1, _, by omega, by go_num, hend.out⟩
          case measure => simp [intOf]; omega
        · have hi' : ¬ (i : Int) < 9 := by omega
          obtain ⟨x6, y6, r6, hb6, T6, K6⟩ := H6.out
          have y7 := ownsRow_kept y6 hK (fun j e hs => by simp [Value.ownBlock] at e; omega)
          have r7 := ownsRow_kept r6 hK (fun j e hs => by have := HVB.out j e; omega)
          have T7 : Two B wr a b fa fb S S := T6.kept hK (fun j e hs => by have := HTL.out j e; have := hb6.size; omega)
          have K7 := K6.kept hK (by omega)
          have hB7 : Below W.heap.size W wr := hb6.trans (hK.below (by omega) (fun j e => by omega))
          have C7 : Hid (Calls Try.prog 52 _ wr _) := same_any hln y7 r7
          have H7 : Hid (wr.ownsRow w3.heap.size 3 1 v n (nl l) ∧ Below W.heap.size W wr ∧ Two B wr a b fa fb S S ∧ Blk wr w.heap.size #[.pointer (some ⟨a, 0, none⟩), .pointer (some ⟨b, 0, none⟩)] 33) := ⟨r7, hB7, T7, K7⟩
          clear H6 x6 y6 r6 hb6 T6 K6 y7 r7 T7 K7 hB7 hR hO hK HR HKK
          go_wp2_with fail
          refine C7.out.mono ?_
          rintro e w9 ⟨rfl, hb9⟩
          obtain ⟨r7, hB7, T7, K7⟩ := H7.out
          have k0 := (K7.below hb9).cell 0 (v := .pointer (some ⟨a, 0, none⟩)) rfl
          have C9 : Hid (Calls Try.prog 24 _ w9 _) := CP.out w9 (T7.below hb9)
          have H9 : Hid (w9.ownsRow w3.heap.size 3 1 v n (nl l) ∧ Below W.heap.size W w9) := ⟨row_below r7 hb9, bstep hB7 hb9 (Nat.le_refl _)⟩
          clear H7 C7 r7 hB7 T7 K7 hb9
          go_wp2_with fail
          refine C9.out.mono ?_
          rintro e w10 ⟨rfl, r10, hb10⟩
          have C10 : Hid (Calls Try.prog 52 _ w10 _) := same_any hln r10 (row_below H9.out.1 hb10)
          have H10 : Hid (Below w.heap.size w w10) := bstep (bstep HBW.out H9.out.2 (Nat.le_refl _)) hb10 (Nat.le_refl _)
          clear H9 C9 r10 hb10
          go_wp2_with fail
          refine C10.out.mono ?_
          rintro e w11 ⟨rfl, hb11⟩
          have H11 : Hid (Below w.heap.size w w11) := bstep H10.out hb11 (Nat.le_refl _)
          clear H10 C10 hb11
          go_wp2
          go_ret
          exact ⟨rfl, H11.out⟩
end Go.Proofs.Ytbjpphoohoedcaa
