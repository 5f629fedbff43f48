/- Package pack's place.fixed and place.bits: what they read, and what they give up with. -/
import Derived.Test.YtdpddlaedffmdaaQe
namespace Go.Proofs.Ytdpddlaedffmdaa
open Go.RowKit
set_option linter.unusedVariables false
set_option linter.unusedSimpArgs false

/-- The number of bytes, the highest first. -/
def fxN (l : List UInt8) : Nat := l.foldl (fun v b => v * 256 + b.toNat) 0
theorem fxN_snoc (l : List UInt8) (b : UInt8) : fxN (l ++ [b]) = fxN l * 256 + b.toNat := by simp [fxN]
theorem fxN_lt (l : List UInt8) : fxN l < 256 ^ l.length := by
  have : ∀ (r : List UInt8), fxN r.reverse < 256 ^ r.length := by
    intro r
    induction r with
    | nil => decide
    | cons b r ih =>
      rw [List.reverse_cons, fxN_snoc, List.length_cons, Nat.pow_succ]
      have := b.toNat_lt
      omega
  have h := this l.reverse
  rw [List.reverse_reverse, List.length_reverse] at h
  exact h
def fixQ (s : ByteArray) (a : Nat) (k : Int) : Nat × Nat × Int := if isFx k = true then (if a + k.toNat ≤ s.size then (fxN (s.extract a (a + k.toNat)).data.toList, a + k.toNat, 0) else (0, a, 3)) else (0, a, 1)
theorem fix_word (n : Nat) (b : UInt8) (h : n < 72057594037927936) : bits .or .u64 (IntKind.u64.wrap ((n : Int) * 256)) (b.toNat : Int) = ((n * 256 + b.toNat : Nat) : Int) := by
  have hb := b.toNat_lt
  rw [show IntKind.u64.wrap ((n : Int) * 256) = ((n * 256 : Nat) : Int) by rw [IntKind.wrap_u64]; omega, u64_or_nat _ _ (by omega) (by omega)]
  congr 1
  have := Nat.two_pow_add_eq_or_of_lt (i := 8) (b := b.toNat) (by omega) n
  rw [Nat.mul_comm n 256, show (256 : Nat) = 2 ^ 8 from rfl, this]
set_option maxHeartbeats 1000000 in
set_option maxRecDepth 100000 in
theorem pfixed_any {w : World} {b : Nat} {s : ByteArray} {a : Nat} (h : Pl w b s a) (hs : s.size ≤ 140737488351232) (k : Int) : Calls Try.prog 52 #[.pointer (some ⟨b, 0, none⟩), .int .i64 k] w fun e w' => Outc b s w (.int .u64 (fixQ s a k).1) (fixQ s a k).2.1 (fixQ s a k).2.2 e w' := by
  cases hF : isFx k
  · rw [show fixQ s a k = (0, a, 1) by unfold fixQ; rw [hF]; rfl]
    go_enter Try.func52, Try.ntmps52
    go_wp2_with fail
    refine (isFixed_val hF _).mono ?_
    rintro e w1 ⟨rfl, rfl⟩
    go_wp2_with fail
    refine (need_no 1 _).mono ?_
    rintro e w1 ⟨rfl, rfl⟩
    go_wp2
    exact ⟨rfl, Outc.no (Kept.refl _ _) (by decide)⟩
  · have hb := isFx_bounds hF
    obtain ⟨m, rfl⟩ := Int.eq_ofNat_of_zero_le (show 0 ≤ k by omega)
    by_cases hm : a + m ≤ s.size
    · rw [show fixQ s a (m : Int) = (fxN (s.extract a (a + m)).data.toList, a + m, 0) by unfold fixQ; rw [if_pos hF, Int.toNat_natCast, if_pos hm]]
      have C1 : Hid (Calls Try.prog 75 #[.pointer (some ⟨b, 0, none⟩), .int .i64 m] w fun e w' => e = .returned (.string (s.extract a (a + m))) ∧ Pl w' b s (a + m) ∧ Kept (fun k => k = b) w w') := by
        refine (next_yes h hs m hm).mono ?_
        rintro e w' ⟨rfl, j, rfl⟩
        exact ⟨rfl, Pl.set (h.drew j) (a + m) hm, Kept.set (S := fun k => k = b) ((Kept.refl _ _).drewN j) rfl _⟩
      have hq : (s.extract a (a + m)).size = m := by rw [ByteArray.size_extract]; omega
      generalize s.extract a (a + m) = q at *
      clear h hm
      go_enter Try.func52, Try.ntmps52
      go_wp2_with fail
      refine (isFixed_val hF _).mono ?_
      rintro e w1 ⟨rfl, rfl⟩
      go_wp2_with fail
      refine (need_yes 1 _).mono ?_
      rintro e w1 ⟨rfl, rfl⟩
      go_wp2_with fail
      refine C1.out.mono ?_
      rintro e w2 ⟨rfl, hp, hk⟩
      clear C1 hF
      go_wp2
      go_loopw [6, 16] (fun x y wr => ∃ j n : Nat, j ≤ m ∧ y = .int .i64 j ∧ x = .int .u64 n ∧ n = fxN (q.data.toList.take j) ∧ wr = w2) (fun _ y _ => m - (intOf y).toNat)
      case atStart => exact ⟨0, 0, by omega, rfl, rfl, rfl, rfl⟩
      case round =>
        obtain ⟨j, n, hj, rfl, rfl, hn, rfl⟩ := hrel
        have HN : Hid (n = fxN (q.data.toList.take j)) := hn
        by_cases hlt : j < m
        · have hjq : j < q.size := by omega
          have hl : (q.data.toList.take j).length = j := by rw [List.length_take, show q.data.toList.length = q.size by simp]; omega
          have hn7 : n < 72057594037927936 := by
            have h1 := fxN_lt (q.data.toList.take j)
            rw [hl] at h1
            have h2 : (256 : Nat) ^ j ≤ 256 ^ 7 := Nat.pow_le_pow_right (by decide) (by omega)
            have e : (256 : Nat) ^ 7 = 72057594037927936 := by decide
            omega
          have hW := fix_word n q[j] hn7
          have hlb := (q[j]).toNat_lt
          have HS : Hid (n * 256 + (q[j]).toNat = fxN (q.data.toList.take (j + 1))) := by
            show _ = _
            have h1 : j < q.data.toList.length := by simpa using hjq
            rw [List.take_succ_eq_append_getElem h1, fxN_snoc, ← hn]; rfl
          clear hn hl hn7
          go_wp2
          exact ⟨⟨j + 1, n * 256 + (q[j]).toNat, by omega, rfl, congrArg (Value.int .u64) (by omega), HS.out, trivial⟩, by simp only [intOf]; omega⟩
        · obtain rfl : j = m := by omega
          have HE : Hid (n = fxN q.data.toList) := by show _ = _; rw [HN.out, List.take_of_length_le (by rw [show q.data.toList.length = q.size by simp]; omega)]
          clear hn HN
          go_wp2
          go_ret
          rw [← HE.out]
          exact Outc.yes hk hp
    · rw [show fixQ s a (m : Int) = (0, a, 3) by unfold fixQ; rw [if_pos hF, Int.toNat_natCast, if_neg hm]]
      have C1 : Hid (Calls Try.prog 75 #[.pointer (some ⟨b, 0, none⟩), .int .i64 m] w fun e w' => e = .panicked [pe 3] ∧ ∃ n, w' = w.drewN n) := next_no h hs m (by have := h.2.2.2; omega)
      clear h hm
      go_enter Try.func52, Try.ntmps52
      go_wp2_with fail
      refine (isFixed_val hF _).mono ?_
      rintro e w1 ⟨rfl, rfl⟩
      go_wp2_with fail
      refine (need_yes 1 _).mono ?_
      rintro e w1 ⟨rfl, rfl⟩
      go_wp2_with fail
      refine C1.out.mono ?_
      rintro e w2 ⟨rfl, j, rfl⟩
      go_wp2
      exact ⟨rfl, Outc.no ((Kept.refl _ _).drewN j) (by decide)⟩
/-- What place.bits makes. -/
def bitsQ (s : ByteArray) (a : Nat) (wd : Int) : Nat × Nat × Int :=
  if isW wd = true then (if a + ((wd + 7) / 8).toNat ≤ s.size then (if (frR (s.extract a (a + ((wd + 7) / 8).toNat)).data.toList wd).2 ≠ 0 then (0, a, (frR (s.extract a (a + ((wd + 7) / 8).toNat)).data.toList wd).2) else ((frR (s.extract a (a + ((wd + 7) / 8).toNat)).data.toList wd).1, a + ((wd + 7) / 8).toNat, 0)) else (0, a, 3)) else (0, a, 10)
set_option maxHeartbeats 1000000 in
set_option maxRecDepth 100000 in
theorem pbits_any {w : World} {b : Nat} {s : ByteArray} {a : Nat} (h : Pl w b s a) (hs : s.size ≤ 140737488351232) (wd : Int) : Calls Try.prog 58 #[.pointer (some ⟨b, 0, none⟩), .int .i64 wd] w fun e w' => Outc b s w (B (bitsQ s a wd).1) (bitsQ s a wd).2.1 (bitsQ s a wd).2.2 e w' := by
  have CM : Hid (∀ w : World, Calls Try.prog 80 #[.int .i64 wd] w fun e w' => e = .returned (.tuple #[B (maskR wd wd).1, .int .i64 (maskR wd wd).2]) ∧ Below w.heap.size w w') := most_all wd
  cases hW : isW wd
  · rw [show bitsQ s a wd = (0, a, 10) by unfold bitsQ; rw [hW]; rfl]
    rw [maskR_no hW] at CM
    go_enter Try.func58, Try.ntmps58
    go_wp2_with fail
    refine (CM.out _).mono ?_
    rintro e w1 ⟨rfl, hb⟩
    have hk : Kept (fun k => k = b) w (w1.alloc (.cells #[.int .u64 (hiOf 0), .int .u64 (loOf 0)] 34)) := Kept.of_below ((bstep ((Below.refl _ _).alloc (Nat.le_refl _) _) hb).alloc (by have := hb.size; simp at this; omega) _)
    go_wp2_with fail
    refine (need_no 10 _).mono ?_
    rintro e w2 ⟨rfl, rfl⟩
    go_wp2
    exact ⟨rfl, Outc.no hk (by decide)⟩
  · have hbd := isW_bounds hW
    obtain ⟨k, hk⟩ : ∃ k : Nat, (wd + 7) / 8 = (k : Int) := ⟨((wd + 7) / 8).toNat, by omega⟩
    have hk0 : ((wd + 7) / 8).toNat = k := by omega
    rw [maskR_yes hW (by omega)] at CM
    generalize maskN wd wd = y at *
    have HQ : Hid (bitsQ s a wd = if a + k ≤ s.size then (if (frR (s.extract a (a + k)).data.toList wd).2 ≠ 0 then (0, a, (frR (s.extract a (a + k)).data.toList wd).2) else ((frR (s.extract a (a + k)).data.toList wd).1, a + k, 0)) else (0, a, 3)) := by show _ = _; unfold bitsQ; rw [if_pos hW, hk0]
    generalize bitsQ s a wd = Q at *
    have HP : Hid (Pl w b s a) := h
    have HS : Hid (s.size ≤ 140737488351232) := hs
    have HK : Hid ((wd + 7) / 8 = (k : Int)) := hk
    clear h hs hk hk0 hW
    go_enter Try.func58, Try.ntmps58
    go_wp2_with fail
    refine (CM.out _).mono ?_
    rintro e w1 ⟨rfl, hb⟩
    have hz0 : w.heap.size < w1.heap.size := by have := hb.size; simp at this; omega
    have hB1 : Below w.heap.size w (w1.alloc (.cells #[.int .u64 (hiOf y), .int .u64 (loOf y)] 34)) := (bstep ((Below.refl _ _).alloc (Nat.le_refl _) _) hb).alloc (by omega) _
    have c0 : (w1.alloc (.cells #[.int .u64 (hiOf y), .int .u64 (loOf y)] 34)).cell? ⟨w.heap.size, 0, none⟩ = some (.int .u64 0) := by
      have h1 := hb.cell (p := ⟨w.heap.size, 0, none⟩) (by simp)
      simp at h1
      exact (((Below.refl w1.heap.size w1).alloc (Nat.le_refl _) _).cell (p := ⟨w.heap.size, 0, none⟩) hz0).trans h1
    have c1 : (w1.alloc (.cells #[.int .u64 (hiOf y), .int .u64 (loOf y)] 34)).cell? ⟨w.heap.size, 1, none⟩ = some (.int .u64 0) := by
      have h1 := hb.cell (p := ⟨w.heap.size, 1, none⟩) (by simp)
      simp at h1
      exact (((Below.refl w1.heap.size w1).alloc (Nat.le_refl _) _).cell (p := ⟨w.heap.size, 1, none⟩) hz0).trans h1
    have z0 : (w1.alloc (.cells #[.int .u64 (hiOf y), .int .u64 (loOf y)] 34)).frozen? ⟨w.heap.size, 0, none⟩ = false := by
      have h1 := hb.frozen (p := ⟨w.heap.size, 0, none⟩) (by simp)
      simp at h1
      exact (((Below.refl w1.heap.size w1).alloc (Nat.le_refl _) _).frozen (p := ⟨w.heap.size, 0, none⟩) hz0).trans h1
    have z1 : (w1.alloc (.cells #[.int .u64 (hiOf y), .int .u64 (loOf y)] 34)).frozen? ⟨w.heap.size, 1, none⟩ = false := by
      have h1 := hb.frozen (p := ⟨w.heap.size, 1, none⟩) (by simp)
      simp at h1
      exact (((Below.refl w1.heap.size w1).alloc (Nat.le_refl _) _).frozen (p := ⟨w.heap.size, 1, none⟩) hz0).trans h1
    have hbs := HP.out.lt
    have HP1 : Hid (Pl (w1.alloc (.cells #[.int .u64 (hiOf y), .int .u64 (loOf y)] 34)) b s a) := HP.out.kept (S := fun _ => False) (Kept.of_below hB1) id
    go_wp2_with fail
    generalize w1.alloc (.cells #[.int .u64 (hiOf y), .int .u64 (loOf y)] 34) = W1 at *
    clear hb hz0
    refine (need_yes 0 _).mono ?_
    rintro e w2 ⟨rfl, rfl⟩
    by_cases hm : a + k ≤ s.size
    · have C1 : Hid (Calls Try.prog 75 #[.pointer (some ⟨b, 0, none⟩), .int .i64 ((wd + 7) / 8)] w2 fun e w' => e = .returned (.string (s.extract a (a + k))) ∧ Pl w' b s (a + k) ∧ Kept (fun k => k = b) w2 w') := by
        show Calls _ _ _ _ _
        rw [HK.out]
        refine (next_yes HP1.out HS.out k hm).mono ?_
        rintro e w' ⟨rfl, j, rfl⟩
        exact ⟨rfl, Pl.set (HP1.out.drew j) (a + k) hm, Kept.set (S := fun k => k = b) ((Kept.refl _ _).drewN j) rfl _⟩
      have hqs : (s.extract a (a + k)).size ≤ maxLen := by rw [ByteArray.size_extract]; unfold maxLen; have := HS.out; omega
      have C2 : Hid (∀ w : World, Calls Try.prog 81 #[.string (s.extract a (a + k)), .int .i64 wd] w fun e w' => e = .returned (.tuple #[B (frR (s.extract a (a + k)).data.toList wd).1, .int .i64 (frR (s.extract a (a + k)).data.toList wd).2]) ∧ Below w.heap.size w w') := from_any _ hqs wd
      have HQ2 : Hid (Q = if (frR (s.extract a (a + k)).data.toList wd).2 ≠ 0 then (0, a, (frR (s.extract a (a + k)).data.toList wd).2) else ((frR (s.extract a (a + k)).data.toList wd).1, a + k, 0)) := by show _ = _; rw [HQ.out, if_pos hm]
      generalize frR (s.extract a (a + k)).data.toList wd = F at *
      generalize s.extract a (a + k) = q at *
      obtain ⟨x, f⟩ := F
      simp only at C2 HQ2
      clear HQ HP HP1 hqs
      go_wp2_with fail
      refine C1.out.mono ?_
      rintro e w3 ⟨rfl, hp3, hk3⟩
      have hbn : w.heap.size ≠ b := by omega
      have d0 := hk3.cell c0 (show ¬ w.heap.size = b from hbn)
      have d1 := hk3.cell c1 (show ¬ w.heap.size = b from hbn)
      have hl2 : w.heap.size < w2.heap.size := World.block_lt_of_cell? w2 ⟨w.heap.size, 0, none⟩ c0
      have y0 := (hk3.frozen (p := ⟨w.heap.size, 0, none⟩) hl2 (show ¬ w.heap.size = b from hbn)).trans z0
      have y1 := (hk3.frozen (p := ⟨w.heap.size, 1, none⟩) hl2 (show ¬ w.heap.size = b from hbn)).trans z1
      have hK3 : Kept (fun k => k = b) w w3 := (Kept.of_below hB1).trans hk3
      have hl3 : w.heap.size < w3.heap.size := Nat.lt_of_lt_of_le hl2 hk3.size
      clear c0 c1 z0 z1 C1 hk3 hB1 hl2
      go_wp2_with fail
      refine (C2.out _).mono ?_
      rintro e w4 ⟨rfl, hb4⟩
      have hb5 : Below w3.heap.size w3 (w4.alloc (.cells #[.int .u64 (hiOf x), .int .u64 (loOf x)] 34)) := hb4.alloc hb4.size _
      have e0 := (hb5.cell (p := ⟨w.heap.size, 0, none⟩) hl3).trans d0
      have e1 := (hb5.cell (p := ⟨w.heap.size, 1, none⟩) hl3).trans d1
      have x0 := (hb5.frozen (p := ⟨w.heap.size, 0, none⟩) hl3).trans y0
      have x1 := (hb5.frozen (p := ⟨w.heap.size, 1, none⟩) hl3).trans y1
      have hp5 : Pl (w4.alloc (.cells #[.int .u64 (hiOf x), .int .u64 (loOf x)] 34)) b s (a + k) := hp3.kept (S := fun _ => False) (Kept.of_below hb5) id
      have hK5 : Kept (fun k => k = b) w (w4.alloc (.cells #[.int .u64 (hiOf x), .int .u64 (loOf x)] 34)) := hK3.trans (Kept.of_below hb5)
      have g0 : (w4.alloc (.cells #[.int .u64 (hiOf x), .int .u64 (loOf x)] 34)).cell? ⟨w4.heap.size, 0, none⟩ = some (.int .u64 (hiOf x)) := by simp
      have g1 : (w4.alloc (.cells #[.int .u64 (hiOf x), .int .u64 (loOf x)] 34)).cell? ⟨w4.heap.size, 1, none⟩ = some (.int .u64 (loOf x)) := by simp
      clear d0 d1 y0 y1 hp3 hK3 C2
      by_cases hf : f = 0
      · subst hf
        have hQ : Q = (x, a + k, 0) := by rw [HQ2.out]; simp
        subst hQ
        go_wp2_with fail
        generalize w4.alloc (.cells #[.int .u64 (hiOf x), .int .u64 (loOf x)] 34) = W4 at *
        refine (need_yes 0 _).mono ?_
        rintro e w6 ⟨rfl, rfl⟩
        clear hb4 hb5
        go_wp2
        have k0 : (w6.setCell ⟨w.heap.size, 0, none⟩ (.int .u64 (hiOf x))).cell? ⟨w.heap.size, 0, none⟩ = some (.int .u64 (hiOf x)) := World.cell?_setCell_same _ _ _ e0
        have k1 : (w6.setCell ⟨w.heap.size, 0, none⟩ (.int .u64 (hiOf x))).cell? ⟨w.heap.size, 1, none⟩ = some (.int .u64 0) := by rw [World.cell?_setCell_other _ _ _ _ (by intro x; injection x with _ x _; cases x)]; exact e1
        have k2 : ((w6.setCell ⟨w.heap.size, 0, none⟩ (.int .u64 (hiOf x))).setCell ⟨w.heap.size, 1, none⟩ (.int .u64 (loOf x))).cell? ⟨w.heap.size, 0, none⟩ = some (.int .u64 (hiOf x)) := by rw [World.cell?_setCell_other _ _ _ _ (by intro x; injection x with _ x _; cases x)]; exact k0
        have k3 : ((w6.setCell ⟨w.heap.size, 0, none⟩ (.int .u64 (hiOf x))).setCell ⟨w.heap.size, 1, none⟩ (.int .u64 (loOf x))).cell? ⟨w.heap.size, 1, none⟩ = some (.int .u64 (loOf x)) := World.cell?_setCell_same _ _ _ k1
        have hK6 : Kept (fun k => k = b) w ((w6.setCell ⟨w.heap.size, 0, none⟩ (.int .u64 (hiOf x))).setCell ⟨w.heap.size, 1, none⟩ (.int .u64 (loOf x))) :=
          Kept.mono (S := fun k => k = b ∨ k = w.heap.size) (Kept.set (Kept.set (hK5.mono (fun k _ h => .inl h)) (.inr rfl) _) (.inr rfl) _) (fun k hk h => by rcases h with h | h; exact h; omega)
        have hp6 : Pl ((w6.setCell ⟨w.heap.size, 0, none⟩ (.int .u64 (hiOf x))).setCell ⟨w.heap.size, 1, none⟩ (.int .u64 (loOf x))) b s (a + k) :=
          hp5.kept (S := fun k => k = w.heap.size) (Kept.set (S := fun k => k = w.heap.size) (Kept.set (S := fun k => k = w.heap.size) (Kept.refl _ _) rfl _) rfl _) (fun e => hbn e.symm)
        generalize (w6.setCell ⟨w.heap.size, 0, none⟩ (.int .u64 (hiOf x))).setCell ⟨w.heap.size, 1, none⟩ (.int .u64 (loOf x)) = W6 at *
        refine bodyPost_ret (v := B x) ?_ rfl (Outc.yes hK6 hp6)
        simp [results, Try.results58, go_sem, k2, k3]
      · have hf' : (f == 0) = false := by simpa using hf
        have hQ : Q = (0, a, f) := by rw [HQ2.out, if_pos hf]
        subst hQ
        go_wp2_with fail
        refine (need_no f _).mono ?_
        rintro e w6 ⟨rfl, rfl⟩
        go_wp2
        exact ⟨rfl, Outc.no hK5 hf⟩
    · have C1 : Hid (Calls Try.prog 75 #[.pointer (some ⟨b, 0, none⟩), .int .i64 ((wd + 7) / 8)] w2 fun e w' => e = .panicked [pe 3] ∧ ∃ n, w' = w2.drewN n) := by
        show Calls _ _ _ _ _
        rw [HK.out]
        exact next_no HP1.out HS.out k (by have := HP1.out.2.2.2; omega)
      have hQ : Q = (0, a, 3) := by rw [HQ.out, if_neg hm]
      subst hQ
      go_wp2_with fail
      refine C1.out.mono ?_
      rintro e w3 ⟨rfl, j, rfl⟩
      go_wp2
      exact ⟨rfl, Outc.no ((Kept.of_below hB1).drewN j) (by decide)⟩
end Go.Proofs.Ytdpddlaedffmdaa
