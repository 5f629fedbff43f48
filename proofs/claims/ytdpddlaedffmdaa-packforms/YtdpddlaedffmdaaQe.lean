/- The library's contract of internal/stringslite.Clone, laid at this program in plain words; strings.Clone. -/
import Derived.Shelf.Strconv.Clone
import Derived.Test.YtdpddlaedffmdaaQw
namespace Go.Proofs
open Go.Shelf
def Try.lays316_ren : Go.Shelf.Ren := ⟨fun | 316 => 90 | n => n, fun | 37 => 28 | 127 => 104 | n => n, fun | n => n⟩
theorem Try.lays316 : Go.Proofs.LaysM.n316 Try.prog Try.lays316_ren := {
  mixed := by kernel_rfl
  f316 := Try.func90.trans (congrArg some (by kernel_rfl))
  t0 := Try.underlying0
  a0 := Try.isAgg0
  z0 := Try.sizeOf0
  v0 := Try.zeroValue0
  t3 := Try.underlying3
  a3 := Try.isAgg3
  z3 := Try.sizeOf3
  v3 := Try.zeroValue3
  t4 := Try.underlying4
  a4 := Try.isAgg4
  z4 := Try.sizeOf4
  v4 := Try.zeroValue4
  t9 := Try.underlying9
  a9 := Try.isAgg9
  z9 := Try.sizeOf9
  v9 := Try.zeroValue9
  t37 := Try.underlying28
  a37 := Try.isAgg28
  z37 := Try.sizeOf28
  v37 := Try.zeroValue28
  t127 := Try.underlying104
  a127 := Try.isAgg104
  z127 := Try.sizeOf104
  v127 := Try.zeroValue104
  t5 := Try.underlying5
  a5 := Try.isAgg5
  z5 := Try.sizeOf5
  v5 := Try.zeroValue5
  i0 := by kernel_rfl
  i3 := by kernel_rfl
  i4 := by kernel_rfl
  i5 := by kernel_rfl
  i9 := by kernel_rfl
  i37 := by kernel_rfl
  i127 := by kernel_rfl }
namespace Ytdpddlaedffmdaa
open Go.RowKit
set_option linter.unusedVariables false
set_option linter.unusedSimpArgs false
theorem lite_any (s : ByteArray) (hs : s.size ≤ 140737488351232) (w : World) : Calls Try.prog 90 #[.string s] w fun e w' => e = .returned (.string s) ∧ Below w.heap.size w w' := Any.stringslite_Clone Try.lays316 s w (by omega)
theorem clone_any (s : ByteArray) (hs : s.size ≤ 140737488351232) (w : World) : Calls Try.prog 82 #[.string s] w fun e w' => e = .returned (.string s) ∧ Below w.heap.size w w' := by
  have C : Hid (∀ w : World, Calls Try.prog 90 #[.string s] w fun e w' => e = .returned (.string s) ∧ Below w.heap.size w w') := lite_any s hs
  clear hs
  go_enter Try.func82, Try.ntmps82
  go_wp2_with fail
  refine (C.out _).mono ?_
  rintro e w1 ⟨rfl, hb⟩
  go_wp2
  go_ret
  exact ⟨rfl, hb⟩
/-- What place.raw makes: the text, the place behind it, or the error. -/
def rawR (s : ByteArray) (a : Nat) (n : Int) : ByteArray × Nat × Int := if n < 0 then (⟨#[]⟩, a, 1) else if a + n.toNat ≤ s.size then (s.extract a (a + n.toNat), a + n.toNat, 0) else (⟨#[]⟩, a, 3)
theorem Outc.kept {b : Nat} {s : ByteArray} {w w1 w' : World} {x : Value} {a : Nat} {f : Int} {e : Ending} (h : Outc b s w1 x a f e w') (hk : Kept (fun k => k = b) w w1) : Outc b s w x a f e w' := ⟨hk.trans h.1, h.2⟩
set_option maxRecDepth 100000 in
theorem praw_any {w : World} {b : Nat} {s : ByteArray} {a : Nat} (h : Pl w b s a) (hs : s.size ≤ 140737488351232) (n : Int) : Calls Try.prog 60 #[.pointer (some ⟨b, 0, none⟩), .int .i64 n] w fun e w' => Outc b s w (.string (rawR s a n).1) (rawR s a n).2.1 (rawR s a n).2.2 e w' := by
  by_cases hn : n < 0
  · rw [show rawR s a n = (⟨#[]⟩, a, 1) by unfold rawR; rw [if_pos hn]]
    have hd : decide (0 ≤ n) = false := by simp; omega
    go_enter Try.func60, Try.ntmps60
    go_wp2_with fail
    refine (need_no 1 _).mono ?_
    rintro e w1 ⟨rfl, rfl⟩
    go_wp2
    exact ⟨rfl, Outc.no (Kept.refl _ _) (by decide)⟩
  · obtain ⟨m, rfl⟩ := Int.eq_ofNat_of_zero_le (show 0 ≤ n by omega)
    by_cases hm : a + m ≤ s.size
    · rw [show rawR s a (m : Int) = (s.extract a (a + m), a + m, 0) by unfold rawR; rw [if_neg hn, Int.toNat_natCast, if_pos hm]]
      have C1 : Hid (Calls Try.prog 75 #[.pointer (some ⟨b, 0, none⟩), .int .i64 m] w fun e w' => e = .returned (.string (s.extract a (a + m))) ∧ Pl w' b s (a + m) ∧ Kept (fun k => k = b) w w') := by
        refine (next_yes h hs m hm).mono ?_
        rintro e w' ⟨rfl, j, rfl⟩
        exact ⟨rfl, Pl.set (h.drew j) (a + m) hm, Kept.set (S := fun k => k = b) ((Kept.refl _ _).drewN j) rfl _⟩
      have C2 : Hid (∀ w : World, Calls Try.prog 82 #[.string (s.extract a (a + m))] w fun e w' => e = .returned (.string (s.extract a (a + m))) ∧ Below w.heap.size w w') := clone_any _ (by rw [ByteArray.size_extract]; omega)
      generalize s.extract a (a + m) = q at *
      clear h hm
      go_enter Try.func60, Try.ntmps60
      go_wp2_with fail
      refine (need_yes 1 _).mono ?_
      rintro e w1 ⟨rfl, rfl⟩
      go_wp2_with fail
      refine C1.out.mono ?_
      rintro e w2 ⟨rfl, hp, hk⟩
      go_wp2_with fail
      refine (C2.out _).mono ?_
      rintro e w3 ⟨rfl, hb⟩
      have hp3 : Pl w3 b s (a + m) := hp.kept (S := fun _ => False) (Kept.of_below hb) id
      have hk3 := hk.trans (Kept.of_below hb)
      clear hp hk hb
      go_wp2
      go_ret
      exact Outc.yes hk3 hp3
    · rw [show rawR s a (m : Int) = (⟨#[]⟩, a, 3) by unfold rawR; rw [if_neg hn, Int.toNat_natCast, if_neg hm]]
      have C1 : Hid (Calls Try.prog 75 #[.pointer (some ⟨b, 0, none⟩), .int .i64 m] w fun e w' => e = .panicked [pe 3] ∧ ∃ n, w' = w.drewN n) := next_no h hs m (by have := h.2.2.2; omega)
      clear h hm
      go_enter Try.func60, Try.ntmps60
      go_wp2_with fail
      refine (need_yes 1 _).mono ?_
      rintro e w1 ⟨rfl, rfl⟩
      go_wp2_with fail
      refine C1.out.mono ?_
      rintro e w2 ⟨rfl, j, rfl⟩
      go_wp2
      exact ⟨rfl, Outc.no ((Kept.refl _ _).drewN j) (by decide)⟩
/-- What place.text makes. -/
def textQ (s : ByteArray) (a : Nat) (most : Int) : ByteArray × Nat × Int :=
  if most < 0 then (⟨#[]⟩, a, 1) else if (numR (s.data.toList.drop a) most.toNat).2.2 ≠ 0 then (⟨#[]⟩, a, (numR (s.data.toList.drop a) most.toNat).2.2)
  else if (rawR s (a + (numR (s.data.toList.drop a) most.toNat).2.1) (numR (s.data.toList.drop a) most.toNat).1).2.2 ≠ 0 then (⟨#[]⟩, a, (rawR s (a + (numR (s.data.toList.drop a) most.toNat).2.1) (numR (s.data.toList.drop a) most.toNat).1).2.2)
  else rawR s (a + (numR (s.data.toList.drop a) most.toNat).2.1) (numR (s.data.toList.drop a) most.toNat).1
theorem numR_most (l : List UInt8) (most : Nat) : (numR l most).1 ≤ most := by
  unfold numR
  split
  · simp
  · split
    · assumption
    · simp
set_option maxRecDepth 100000 in
theorem ptext_any {w : World} {b : Nat} {s : ByteArray} {a : Nat} (h : Pl w b s a) (hs : s.size ≤ 140737488351232) (most : Int) (hmx : most ≤ 9223372036854775807) : Calls Try.prog 55 #[.pointer (some ⟨b, 0, none⟩), .int .i64 most] w fun e w' => Outc b s w (.string (textQ s a most).1) (textQ s a most).2.1 (textQ s a most).2.2 e w' := by
  by_cases hn : most < 0
  · rw [show textQ s a most = (⟨#[]⟩, a, 1) by unfold textQ; rw [if_pos hn]]
    have hd : decide (0 ≤ most) = false := by simp; omega
    clear hmx
    go_enter Try.func55, Try.ntmps55
    go_wp2_with fail
    refine (need_no 1 _).mono ?_
    rintro e w1 ⟨rfl, rfl⟩
    go_wp2
    exact ⟨rfl, Outc.no (Kept.refl _ _) (by decide)⟩
  · obtain ⟨m, rfl⟩ := Int.eq_ofNat_of_zero_le (show 0 ≤ most by omega)
    have C1 : Hid (Calls Try.prog 50 #[.pointer (some ⟨b, 0, none⟩), .int .u64 m] w fun e w' => Outc b s w (.int .u64 (numR (s.data.toList.drop a) m).1) (a + (numR (s.data.toList.drop a) m).2.1) (numR (s.data.toList.drop a) m).2.2 e w') := number_any h hs m
    have hW : IntKind.u64.wrap (m : Int) = (m : Int) := by rw [IntKind.wrap_u64]; omega
    have hle := numR_most (s.data.toList.drop a) m
    have HQ : Hid (textQ s a (m : Int) = if (numR (s.data.toList.drop a) m).2.2 ≠ 0 then (⟨#[]⟩, a, (numR (s.data.toList.drop a) m).2.2)
  else if (rawR s (a + (numR (s.data.toList.drop a) m).2.1) (numR (s.data.toList.drop a) m).1).2.2 ≠ 0 then (⟨#[]⟩, a, (rawR s (a + (numR (s.data.toList.drop a) m).2.1) (numR (s.data.toList.drop a) m).1).2.2)
  else rawR s (a + (numR (s.data.toList.drop a) m).2.1) (numR (s.data.toList.drop a) m).1) := by show _ = _; unfold textQ; rw [if_neg hn, Int.toNat_natCast]
    generalize numR (s.data.toList.drop a) m = R at *
    obtain ⟨v, k, f⟩ := R
    simp only at C1 hle HQ
    have hW2 : IntKind.i64.wrap (v : Int) = (v : Int) := by rw [IntKind.wrap_i64]; omega
    have HS : Hid (s.size ≤ 140737488351232) := hs
    generalize textQ s a (m : Int) = Q at *
    clear h hs hmx hle
    go_enter Try.func55, Try.ntmps55
    go_wp2_with fail
    refine (need_yes 1 _).mono ?_
    rintro e w1 ⟨rfl, rfl⟩
    go_wp2_with fail
    refine C1.out.mono ?_
    rintro e w2 ⟨hk, (⟨rfl, rfl, hp⟩ | ⟨hf, rfl⟩)⟩
    · have C2 : Hid (Calls Try.prog 60 #[.pointer (some ⟨b, 0, none⟩), .int .i64 v] w2 fun e w' => Outc b s w2 (.string (rawR s (a + k) v).1) (rawR s (a + k) v).2.1 (rawR s (a + k) v).2.2 e w') := praw_any hp HS.out v
      have HQ' : Hid (Q = if (rawR s (a + k) (v : Int)).2.2 ≠ 0 then (⟨#[]⟩, a, (rawR s (a + k) (v : Int)).2.2) else rawR s (a + k) (v : Int)) := by show _ = _; rw [HQ.out]; simp
      generalize rawR s (a + k) (v : Int) = T at *
      obtain ⟨t, j, g⟩ := T
      simp only at C2 HQ'
      clear hp HQ C1
      go_wp2_with fail
      refine C2.out.mono ?_
      rintro e w3 ⟨hk2, (⟨rfl, rfl, hp2⟩ | ⟨hg, rfl⟩)⟩
      · have hQ : Q = (t, j, 0) := by rw [HQ'.out]; simp
        subst hQ
        go_wp2
        go_ret
        exact Outc.yes (hk.trans hk2) hp2
      · have hQ : Q = (⟨#[]⟩, a, g) := by rw [HQ'.out, if_pos hg]
        subst hQ
        go_wp2
        exact ⟨rfl, Outc.no (hk.trans hk2) hg⟩
    · have hQ : Q = (⟨#[]⟩, a, f) := by rw [HQ.out, if_pos hf]
      subst hQ
      go_wp2
      exact ⟨rfl, Outc.no hk hf⟩
end Ytdpddlaedffmdaa
end Go.Proofs
