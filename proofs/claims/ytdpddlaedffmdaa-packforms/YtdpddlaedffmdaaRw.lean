/- The document's writers: UintBytes, FixedBytes, put, the calls that write, Out: what each leaves and answers. -/
import Derived.Test.YtdpddlaedffmdaaLi
namespace Go.Proofs.Ytdpddlaedffmdaa
open Go.RowKit
set_option linter.unusedVariables false
set_option linter.unusedSimpArgs false

theorem conv_one (w : World) (a : UInt8) : (convert 28 9 (.slice (some ⟨w.heap.size, 0, none⟩) 1 1)).run Try.prog (w.alloc (.cells #[.int .u8 (a.toNat : Int)] 5)) = .ok (.string ⟨#[a]⟩) (w.alloc (.cells #[.int .u8 (a.toNat : Int)] 5)) := by
  refine run_convert_bytes_back (P := Try.prog) _ 28 9 5 ⟨w.heap.size, 0, none⟩ 1 [a] Try.underlying28 Try.underlying5 Try.underlying9 (fun j hj => ?_)
  exact one_cell w _ 5 j _ (by match j, hj with | 0, _ => rfl)
theorem str_cons (a : UInt8) (l : List UInt8) : (⟨#[a]⟩ : ByteArray) ++ (⟨l.toArray⟩ : ByteArray) = ⟨(a :: l).toArray⟩ := by
  have := str_app [a] l
  exact this
set_option maxRecDepth 100000 in
theorem uintBytes_any : ∀ (k n : Nat), n < 128 ^ (k + 1) → n < 18446744073709551616 → ∀ w : World, Calls Try.prog 66 #[.int .u64 n] w fun e w' => e = .returned (.string ⟨(vb n).toArray⟩) ∧ Below w.heap.size w w' := by
  intro k
  induction k with
  | zero =>
    intro n hk hn w
    have hlt : (n : Int) < 128 := by have : n < 128 := by simpa using hk
                                     omega
    have hv : vb n = [UInt8.ofNat n] := vb_end (by omega)
    have hc := conv_one w (UInt8.ofNat n)
    rw [of8 n (by omega)] at hc
    have e0 : (n : Int) % 256 = (n : Int) := by omega
    have hB : Below w.heap.size w (w.alloc (.cells #[.int .u8 (n : Int)] 5)) := (Below.refl _ _).alloc (Nat.le_refl _) _
    rw [hv]
    clear hk hn hv
    go_enter Try.func66, Try.ntmps66
    go_wp2
    go_ret
    exact ⟨rfl, hB⟩
  | succ k ih =>
    intro n hk hn w
    by_cases h : n < 128
    · have hlt : (n : Int) < 128 := by omega
      have hv : vb n = [UInt8.ofNat n] := vb_end h
      have hc := conv_one w (UInt8.ofNat n)
      rw [of8 n (by omega)] at hc
      have e0 : (n : Int) % 256 = (n : Int) := by omega
      have hB : Below w.heap.size w (w.alloc (.cells #[.int .u8 (n : Int)] 5)) := (Below.refl _ _).alloc (Nat.le_refl _) _
      rw [hv]
      clear hk hn hv ih
      go_enter Try.func66, Try.ntmps66
      go_wp2
      go_ret
      exact ⟨rfl, hB⟩
    · have hge : ¬ (n : Int) < 128 := by omega
      have hv : vb n = UInt8.ofNat (n % 128 + 128) :: vb (n / 128) := vb_more h
      have C : Hid (∀ w : World, Calls Try.prog 66 #[.int .u64 ((n : Int) / 128)] w fun e w' => e = .returned (.string ⟨(vb (n / 128)).toArray⟩) ∧ Below w.heap.size w w') := by
        show ∀ w : World, _
        intro w
        have := ih (n / 128) (by rw [Nat.div_lt_iff_lt_mul (by decide)]; rw [Nat.pow_succ] at hk; exact hk) (by omega) w
        rw [show ((n / 128 : Nat) : Int) = (n : Int) / 128 by omega] at this
        exact this
      have hc : ∀ w : World, (convert 28 9 (.slice (some ⟨w.heap.size, 0, none⟩) 1 1)).run Try.prog (w.alloc (.cells #[.int .u8 ((n : Int) % 128 + 128)] 5)) = .ok (.string ⟨#[UInt8.ofNat (n % 128 + 128)]⟩) (w.alloc (.cells #[.int .u8 ((n : Int) % 128 + 128)] 5)) := fun w => by
        have := conv_one w (UInt8.ofNat (n % 128 + 128))
        rw [of8 _ (by omega), show ((n % 128 + 128 : Nat) : Int) = (n : Int) % 128 + 128 by omega] at this
        exact this
      have HV : Hid ((⟨#[UInt8.ofNat (n % 128 + 128)]⟩ : ByteArray) ++ (⟨(vb (n / 128)).toArray⟩ : ByteArray) = ⟨(vb n).toArray⟩) := by show _ = _; rw [hv]; exact str_cons _ _
      have hW1 : IntKind.u64.wrap ((n : Int) / 128) = (n : Int) / 128 := by rw [IntKind.wrap_u64]; omega
      have hW2 : IntKind.u64.wrap ((n : Int) % 128) = (n : Int) % 128 := by rw [IntKind.wrap_u64]; omega
      have hl := vb_ten (n / 128) (by omega)
      have hz2 : (⟨(vb (n / 128)).toArray⟩ : ByteArray).size ≤ 10 := by rw [arr_size]; exact hl
      have hz1 : (⟨#[UInt8.ofNat (n % 128 + 128)]⟩ : ByteArray).size = 1 := rfl
      generalize (⟨#[UInt8.ofNat (n % 128 + 128)]⟩ : ByteArray) = S1 at *
      generalize (⟨(vb (n / 128)).toArray⟩ : ByteArray) = S2 at *
      generalize (⟨(vb n).toArray⟩ : ByteArray) = S3 at *
      obtain rfl : S3 = S1 ++ S2 := HV.out.symm
      clear hv ih hk hn h hl
      go_enter Try.func66, Try.ntmps66
      go_wp2_with fail
      refine (C.out _).mono ?_
      rintro e w1 ⟨rfl, hb1⟩
      have hcw := hc w1
      have hB2 : Below w.heap.size w (w1.alloc (.cells #[.int .u8 ((n : Int) % 128 + 128)] 5)) := hb1.alloc hb1.size _
      clear hc
      go_wp2
      go_ret
      exact ⟨rfl, hB2⟩
theorem rUint (n : Nat) (hn : n < 18446744073709551616) (w : World) : Calls Try.prog 66 #[.int .u64 n] w fun e w' => e = .returned (.string ⟨(vb n).toArray⟩) ∧ Below w.heap.size w w' := uintBytes_any 9 n (by omega) hn w
set_option maxRecDepth 100000 in
set_option maxHeartbeats 1000000 in
theorem rfixedBytes (n : Nat) (hn0 : n < 18446744073709551616) (k : Int) (w : World) : Calls Try.prog 67 #[.int .u64 n, .int .i64 k] w fun e w' => e = .returned (.tuple #[.string (fxR n k).1, .int .i64 (fxR n k).2]) ∧ Below w.heap.size w w' := by
  cases hF : isFx k
  · rw [show fxR n k = (⟨#[]⟩, 1) by unfold fxR; rw [hF]; rfl]
    by_cases h1 : k < 1
    · go_enter Try.func67, Try.ntmps67
      go_wp2
      go_ret2
      exact ⟨rfl, Below.refl _ _⟩
    · have h2 : 8 < k := by
        have : ¬ (1 ≤ k ∧ k ≤ 8) := fun h => by simp [isFx, h.1, h.2] at hF
        omega
      have h1' : ¬ k < 1 := h1
      go_enter Try.func67, Try.ntmps67
      go_wp2
      go_ret2
      exact ⟨rfl, Below.refl _ _⟩
  · have hb := isFx_bounds hF
    obtain ⟨m, rfl⟩ := Int.eq_ofNat_of_zero_le (show 0 ≤ k by omega)
    have HR : Hid (fxR n (m : Int) = if n < 256 ^ m then (⟨(be m n).toArray⟩, 0) else (⟨#[]⟩, 11)) := by show _ = _; unfold fxR; rw [if_pos hF, Int.toNat_natCast]
    generalize fxR n (m : Int) = R at *
    clear hF
    have HN0 : Hid (n < 18446744073709551616) := hn0
    have h1 : ¬ (m : Int) < 1 := by omega
    have h2 : (m : Int) ≤ 8 := hb.2
    have h3 : decide (8 < (m : Int)) = false := by simp; omega
    clear hn0
    go_enter Try.func67, Try.ntmps67
    go_wp2
    go_loopw [0, 6, 7] (fun x s y wr => ∃ i : Nat, i ≤ m ∧ y = .int .i64 i ∧ x = .int .u64 ((n / 256 ^ i : Nat) : Int) ∧ s = .string ⟨(be i n).toArray⟩ ∧ Below w.heap.size w wr) (fun _ _ y _ => m - (intOf y).toNat)
    case atStart => exact ⟨0, by omega, rfl, by simp, rfl, Below.refl _ _⟩
    case round =>
      obtain ⟨i, hi, rfl, rfl, rfl, hB⟩ := hrel
      have HD : Hid (n / 256 ^ i / 256 = n / 256 ^ (i + 1)) := by show _ = _; rw [Nat.div_div_eq_div_mul, Nat.pow_succ]
      have HE : Hid ((⟨#[UInt8.ofNat (n / 256 ^ i % 256)]⟩ : ByteArray) ++ (⟨(be i n).toArray⟩ : ByteArray) = ⟨(be (i + 1) n).toArray⟩) := str_cons _ _
      by_cases hlt : i < m
      · have hc := conv_one wr (UInt8.ofNat (n / 256 ^ i % 256))
        rw [of8 _ (by omega), show ((n / 256 ^ i % 256 : Nat) : Int) = ((n / 256 ^ i : Nat) : Int) % 256 by omega] at hc
        have hB2 : Below w.heap.size w (wr.alloc (.cells #[.int .u8 (((n / 256 ^ i : Nat) : Int) % 256)] 5)) := hB.alloc hB.size _
        have hm2 : ((n / 256 ^ i : Nat) : Int) % 256 % 256 = ((n / 256 ^ i : Nat) : Int) % 256 := by omega
        have h9 : n / 256 ^ i ≤ n := Nat.div_le_self _ _
        have hz1 : (⟨#[UInt8.ofNat (n / 256 ^ i % 256)]⟩ : ByteArray).size = 1 := rfl
        have hz2 : (⟨(be i n).toArray⟩ : ByteArray).size ≤ 8 := by rw [arr_size, be_length]; omega
        generalize (⟨#[UInt8.ofNat (n / 256 ^ i % 256)]⟩ : ByteArray) = S1 at *
        generalize (⟨(be i n).toArray⟩ : ByteArray) = S2 at *
        generalize hN : n / 256 ^ i = N at *
        have hW : IntKind.u64.wrap ((N : Int) / 256) = (N : Int) / 256 := by
          have h10 := HN0.out
          rw [IntKind.wrap_u64]; omega
        clear hN h9
        go_wp2
        exact ⟨⟨i + 1, by omega, rfl, congrArg (Value.int .u64) (by rw [← HD.out]; rfl), by rw [← HE.out], hB2⟩, by simp only [intOf]; omega⟩
      · obtain rfl : i = m := by omega
        by_cases hn : n < 256 ^ i
        · have hz : n / 256 ^ i = 0 := Nat.div_eq_of_lt hn
          have hR : R = (⟨(be i n).toArray⟩, 0) := by rw [HR.out, if_pos hn]
          subst hR
          rw [hz]
          clear HD HE HR hn hz
          go_wp2
          go_ret2
          exact ⟨rfl, hB⟩
        · have hz : 0 < n / 256 ^ i := Nat.div_pos (by omega) (Nat.pow_pos (by decide))
          have hR : R = (⟨#[]⟩, 11) := by rw [HR.out, if_neg hn]
          subst hR
          generalize n / 256 ^ i = N at *
          have hz' : (0 : Int) < (N : Int) := by omega
          clear HD HE HR hn hz
          go_wp2
          go_ret2
          exact ⟨rfl, hB⟩
theorem rput_dead {B b : Nat} {v : Value} {l : List UInt8} {g : Int} {w : World} (h : Wr B w b v l g) (hg : g ≠ 0) (s : ByteArray) (f : Int) : Calls Try.prog 65 #[.pointer (some ⟨b, 0, none⟩), .string s, .int .i64 f] w fun e w' => e = .returned (.tuple #[]) ∧ w' = w := by
  obtain ⟨h0, h1, h2, h3, h4, h5, h6⟩ := h
  go_enter Try.func65, Try.ntmps65
  go_wp2
  first | go_end0 | refine bodyPost_ret (results_none rfl _ _ _) rfl ?_
  all_goals exact ⟨rfl, rfl⟩
theorem rput_err {B b : Nat} {v : Value} {l : List UInt8} {w : World} (h : Wr B w b v l 0) (s : ByteArray) (f : Int) (hf : f ≠ 0) : Calls Try.prog 65 #[.pointer (some ⟨b, 0, none⟩), .string s, .int .i64 f] w fun e w' => e = .returned (.tuple #[]) ∧ Left B b v w l f w' := by
  have hW := h
  obtain ⟨h0, h1, h2, h3, h4, h5, h6⟩ := h
  have hw : Left B b v w l f (w.setCell ⟨b, 1, none⟩ (.int .i64 f)) := by
    have hk : Kept (own b v) w (w.setCell ⟨b, 1, none⟩ (.int .i64 f)) := (Kept.refl _ _).set (.inl rfl) _
    refine ⟨v, ⟨h0, ?_, ?_, by simpa using h3, by simpa using h4, ?_, h6⟩, hk, .inl rfl⟩
    · rw [World.cell?_setCell_other _ _ _ _ (by intro x; injection x with _ x _; cases x)]; exact h1
    · rw [World.cell?_setCell_same _ _ _ h2]
    · exact ownsRow_kept (S := fun k => k = b) h5 (Kept.set (S := fun k => k = b) (Kept.refl _ _) rfl _) (fun k hk e => h6 (e ▸ hk))
  clear h5
  go_enter Try.func65, Try.ntmps65
  go_wp2
  first | go_end0 | refine bodyPost_ret (results_none rfl _ _ _) rfl ?_
  all_goals exact ⟨rfl, hw⟩
set_option maxHeartbeats 1000000 in
set_option maxRecDepth 100000 in
theorem rput_ok {B b : Nat} {v : Value} {l : List UInt8} {w : World} (h : Wr B w b v l 0) (s : ByteArray) (hs : l.length + s.size ≤ 140737488355328) (hB : B ≤ w.heap.size) : Calls Try.prog 65 #[.pointer (some ⟨b, 0, none⟩), .string s, .int .i64 0] w fun e w' => e = .returned (.tuple #[]) ∧ Left B b v w (l ++ s.data.toList) 0 w' := by
  obtain ⟨i0, hi, hz0, hz1, hz2⟩ := info_parts info5
  have hlt := h.lt
  obtain ⟨h0, h1, h2, h3, h4, h5, h6⟩ := h
  have H5 : Hid (w.ownsRow B 5 1 v l.length (cells8 l)) := h5
  have HS : Hid (l.length + s.size ≤ 140737488355328) := hs
  clear h5 hs
  go_enter Try.func65, Try.ntmps65
  go_wp2_with (at_builtin; refine wpList_append_where rfl rfl _ _ rfl B i0 hi hz0 hz1 hz2 _ _ _ rfl H5.out s rfl HS.out hB ?_)
  intro v' w' hown hg hwh
  have hkg : Kept (own b v) w w' := (Kept.refl _ _).grown hg (fun k hk => .inr hk)
  have hbb : ¬ (fun k => v.ownBlock = some k) b := h6
  have hk2 : Kept (fun k => v.ownBlock = some k) w w' := (Kept.refl _ _).grown hg (fun k hk => hk)
  have c0 := hk2.cell h1 hbb
  have c1 := hk2.cell h2 hbb
  have f0 := (hk2.frozen (p := ⟨b, 0, none⟩) hlt hbb).trans h3
  have f1 := (hk2.frozen (p := ⟨b, 1, none⟩) hlt hbb).trans h4
  have hv' : v'.ownBlock ≠ some b := by
    rcases hwh with e | e
    · rw [e]; exact h6
    · rw [e]; intro x; injection x with x; omega
  have hw : Left B b v w (l ++ s.data.toList) 0 (w'.setCell ⟨b, 0, none⟩ v') := by
    refine ⟨v', ⟨h0, ?_, ?_, by simpa using f0, by simpa using f1, ?_, hv'⟩, hkg.set (.inl rfl) _, ?_⟩
    · rw [World.cell?_setCell_same _ _ _ c0]
    · rw [World.cell?_setCell_other _ _ _ _ (by intro x; injection x with _ x _; cases x)]; exact c1
    · rw [List.length_append, cells8_append, ← strCells8, show s.data.toList.length = s.size by simp]
      exact ownsRow_kept (S := fun k => k = b) hown (Kept.set (S := fun k => k = b) (Kept.refl _ _) rfl _) (fun k hk e => hv' (e ▸ hk))
    · rcases hwh with e | e
      · exact .inl e
      · exact .inr ⟨_, e, Nat.le_refl _⟩
  obtain ⟨ba, bn, bc, rfl⟩ : ∃ ba bn bc, v' = .slice ba bn bc := by
    rcases hown.2 with ⟨rfl, _⟩ | ⟨g, cap, cur, rfl, _⟩
    · exact ⟨_, _, _, rfl⟩
    · exact ⟨_, _, _, rfl⟩
  clear hown hg hkg hk2 hwh H5 h1 h2 h3 h4 hv'
  go_wp2
  first | go_end0 | refine bodyPost_ret (results_none rfl _ _ _) rfl ?_
  all_goals exact ⟨rfl, hw⟩
theorem rput_all {B b : Nat} {v : Value} {l : List UInt8} {g : Int} {w : World} (h : Wr B w b v l g) (s : ByteArray) (f : Int) (hs : l.length + s.size ≤ 140737488355328) (hB : B ≤ w.heap.size) : Calls Try.prog 65 #[.pointer (some ⟨b, 0, none⟩), .string s, .int .i64 f] w fun e w' => e = .returned (.tuple #[]) ∧ Left B b v w (putR l g s f).1 (putR l g s f).2 w' := by
  by_cases hg : g = 0
  · subst hg
    by_cases hf : f = 0
    · subst hf
      rw [show putR l 0 s 0 = (l ++ s.data.toList, 0) from rfl]
      exact rput_ok h s hs hB
    · rw [show putR l 0 s f = (l, f) by unfold putR; simp [hf]]
      exact rput_err h s f hf
  · rw [show putR l g s f = (l, g) by unfold putR; simp [hg]]
    refine (rput_dead h hg s f).mono ?_
    rintro e w' ⟨rfl, rfl⟩
    exact ⟨rfl, Left.refl h⟩
section
variable {B b : Nat} {v : Value} {l : List UInt8} {g : Int} {w : World}
theorem rwraw (h : Wr B w b v l g) (s : ByteArray) (hs : l.length + s.size ≤ 140737488355328) (hB : B ≤ w.heap.size) :
    Calls Try.prog 39 #[.pointer (some ⟨b, 0, none⟩), .string s] w fun e w' => e = .returned (.tuple #[]) ∧ Left B b v w (putR l g s 0).1 (putR l g s 0).2 w' := by
  have C : Hid (Calls Try.prog 65 #[.pointer (some ⟨b, 0, none⟩), .string s, .int .i64 0] w fun e w' => e = .returned (.tuple #[]) ∧ Left B b v w (putR l g s 0).1 (putR l g s 0).2 w') := rput_all h s 0 hs hB
  clear h
  go_enter Try.func39, Try.ntmps39
  go_wp2_with fail
  refine C.out.mono ?_
  rintro e w1 ⟨rfl, hL⟩
  go_wp2
  first | go_end0 | refine bodyPost_ret (results_none rfl _ _ _) rfl ?_
  all_goals exact ⟨rfl, hL⟩
theorem rwuint (h : Wr B w b v l g) (n : Nat) (hn : n < 18446744073709551616) (hs : l.length + 10 ≤ 140737488355328) (hB : B ≤ w.heap.size) :
    Calls Try.prog 35 #[.pointer (some ⟨b, 0, none⟩), .int .u64 n] w fun e w' => e = .returned (.tuple #[]) ∧ Left B b v w (putR l g ⟨(vb n).toArray⟩ 0).1 (putR l g ⟨(vb n).toArray⟩ 0).2 w' := by
  have C0 : Hid (∀ w : World, Calls Try.prog 66 #[.int .u64 n] w fun e w' => e = .returned (.string ⟨(vb n).toArray⟩) ∧ Below w.heap.size w w') := rUint n hn
  have hl := vb_ten n hn
  have C : Hid (∀ w1 : World, Below w.heap.size w w1 → Calls Try.prog 65 #[.pointer (some ⟨b, 0, none⟩), .string ⟨(vb n).toArray⟩, .int .i64 0] w1 fun e w' => e = .returned (.tuple #[]) ∧ Left B b v w (putR l g ⟨(vb n).toArray⟩ 0).1 (putR l g ⟨(vb n).toArray⟩ 0).2 w') := by
    show ∀ w1 : World, _
    intro w1 hb
    refine (rput_all (h.below hb) _ 0 (by rw [arr_size]; omega) (Nat.le_trans hB hb.size)).mono ?_
    rintro e w' ⟨rfl, hL⟩
    exact ⟨rfl, hL.after hb⟩
  generalize vb n = q at *
  clear h hn
  go_enter Try.func35, Try.ntmps35
  go_wp2_with fail
  refine (C0.out _).mono ?_
  rintro e w1 ⟨rfl, hb1⟩
  go_wp2_with fail
  refine (C.out _ hb1).mono ?_
  rintro e w2 ⟨rfl, hL⟩
  go_wp2
  first | go_end0 | refine bodyPost_ret (results_none rfl _ _ _) rfl ?_
  all_goals exact ⟨rfl, hL⟩
theorem rwfixed (h : Wr B w b v l g) (n : Nat) (hn : n < 18446744073709551616) (k : Int) (hs : l.length + 8 ≤ 140737488355328) (hB : B ≤ w.heap.size) :
    Calls Try.prog 36 #[.pointer (some ⟨b, 0, none⟩), .int .u64 n, .int .i64 k] w fun e w' => e = .returned (.tuple #[]) ∧ Left B b v w (putR l g (fxR n k).1 (fxR n k).2).1 (putR l g (fxR n k).1 (fxR n k).2).2 w' := by
  have C0 : Hid (∀ w : World, Calls Try.prog 67 #[.int .u64 n, .int .i64 k] w fun e w' => e = .returned (.tuple #[.string (fxR n k).1, .int .i64 (fxR n k).2]) ∧ Below w.heap.size w w') := rfixedBytes n hn k
  have hl := fxR_size n k
  have C : Hid (∀ w1 : World, Below w.heap.size w w1 → Calls Try.prog 65 #[.pointer (some ⟨b, 0, none⟩), .string (fxR n k).1, .int .i64 (fxR n k).2] w1 fun e w' => e = .returned (.tuple #[]) ∧ Left B b v w (putR l g (fxR n k).1 (fxR n k).2).1 (putR l g (fxR n k).1 (fxR n k).2).2 w') := by
    show ∀ w1 : World, _
    intro w1 hb
    refine (rput_all (h.below hb) _ _ (by omega) (Nat.le_trans hB hb.size)).mono ?_
    rintro e w' ⟨rfl, hL⟩
    exact ⟨rfl, hL.after hb⟩
  generalize fxR n k = q at *
  clear h
  go_enter Try.func36, Try.ntmps36
  go_wp2_with fail
  refine (C0.out _).mono ?_
  rintro e w1 ⟨rfl, hb1⟩
  go_wp2_with fail
  refine (C.out _ hb1).mono ?_
  rintro e w2 ⟨rfl, hL⟩
  go_wp2
  first | go_end0 | refine bodyPost_ret (results_none rfl _ _ _) rfl ?_
  all_goals exact ⟨rfl, hL⟩
theorem rwbits (h : Wr B w b v l g) (n : Nat) (hn : Is128 n) (k : Int) (hs : l.length + 16 ≤ 140737488355328) (hB : B ≤ w.heap.size) :
    Calls Try.prog 38 #[.pointer (some ⟨b, 0, none⟩), _root_.Go.Proofs.Ytdpddlaedffmdaa.B n, .int .i64 k] w fun e w' => e = .returned (.tuple #[]) ∧ Left B b v w (putR l g (byR n k).1 (byR n k).2).1 (putR l g (byR n k).1 (byR n k).2).2 w' := by
  have C0 : Hid (∀ w : World, Calls Try.prog 68 #[_root_.Go.Proofs.Ytdpddlaedffmdaa.B n, .int .i64 k] w fun e w' => e = .returned (.tuple #[.string (byR n k).1, .int .i64 (byR n k).2]) ∧ Below w.heap.size w w') := rbytes_all n hn k
  have hl := byR_size n k
  have C : Hid (∀ w1 : World, Below w.heap.size w w1 → Calls Try.prog 65 #[.pointer (some ⟨b, 0, none⟩), .string (byR n k).1, .int .i64 (byR n k).2] w1 fun e w' => e = .returned (.tuple #[]) ∧ Left B b v w (putR l g (byR n k).1 (byR n k).2).1 (putR l g (byR n k).1 (byR n k).2).2 w') := by
    show ∀ w1 : World, _
    intro w1 hb
    refine (rput_all (h.below hb) _ _ (by omega) (Nat.le_trans hB hb.size)).mono ?_
    rintro e w' ⟨rfl, hL⟩
    exact ⟨rfl, hL.after hb⟩
  generalize byR n k = q at *
  clear h
  go_enter Try.func38, Try.ntmps38
  go_wp2_with fail
  refine (C0.out _).mono ?_
  rintro e w1 ⟨rfl, hb1⟩
  have hb2 : Below w.heap.size w w1 := bstep ((Below.refl _ _).alloc (Nat.le_refl _) _) hb1
  go_wp2_with fail
  refine (C.out _ hb2).mono ?_
  rintro e w2 ⟨rfl, hL⟩
  go_wp2
  first | go_end0 | refine bodyPost_ret (results_none rfl _ _ _) rfl ?_
  all_goals exact ⟨rfl, hL⟩
set_option maxRecDepth 100000 in
theorem rwout (h : Wr B w b v l g) : Calls Try.prog 40 #[.pointer (some ⟨b, 0, none⟩)] w fun e w' => e = .returned (.tuple #[.string (outR l g), .int .i64 g]) ∧ ∃ n, w' = w.drewN n := by
  obtain ⟨h0, h1, h2, h3, h4, h5, h6⟩ := h
  have hc := conv_wr (n := 0) h5
  obtain ⟨ba, bn, bc, rfl⟩ : ∃ ba bn bc, v = .slice ba bn bc := by
    rcases h5.2 with ⟨rfl, h⟩ | ⟨g, cap, cur, rfl, _⟩
    · exact ⟨_, _, _, rfl⟩
    · exact ⟨_, _, _, rfl⟩
  clear h5
  by_cases hg : g = 0
  · subst hg
    rw [show outR l 0 = ⟨l.toArray⟩ from rfl]
    go_enter Try.func40, Try.ntmps40
    go_wp2
    go_ret2
    exact ⟨rfl, 0, rfl⟩
  · rw [show outR l g = ⟨#[]⟩ by unfold outR; rw [if_neg hg]]
    go_enter Try.func40, Try.ntmps40
    go_wp2
    go_quiet (fail)
    go_wp2
    go_ret2
    exact ⟨rfl, _, rfl⟩
theorem rwtext (h : Wr B w b v l g) (s : ByteArray) (hs : l.length + s.size + 10 ≤ 140737488355328) (hB : B ≤ w.heap.size) :
    Calls Try.prog 37 #[.pointer (some ⟨b, 0, none⟩), .string s] w fun e w' => e = .returned (.tuple #[]) ∧ Left B b v w (textR l g s).1 (textR l g s).2 w' := by
  have hn : s.size < 18446744073709551616 := by omega
  have hl := vb_ten s.size hn
  have C0 : Hid (∀ w : World, Calls Try.prog 66 #[.int .u64 s.size] w fun e w' => e = .returned (.string ⟨(vb s.size).toArray⟩) ∧ Below w.heap.size w w') := rUint s.size hn
  have hW : IntKind.u64.wrap (s.size : Int) = (s.size : Int) := by rw [IntKind.wrap_u64]; omega
  have hp : putR l g ((⟨(vb s.size).toArray⟩ : ByteArray) ++ s) 0 = textR l g s := by
    unfold putR textR
    by_cases h0 : g = 0
    · subst h0; simp [ByteArray.data_append]
    · simp [h0]
  have C : Hid (∀ w1 : World, Below w.heap.size w w1 → Calls Try.prog 65 #[.pointer (some ⟨b, 0, none⟩), .string ((⟨(vb s.size).toArray⟩ : ByteArray) ++ s), .int .i64 0] w1 fun e w' => e = .returned (.tuple #[]) ∧ Left B b v w (textR l g s).1 (textR l g s).2 w') := by
    show ∀ w1 : World, _
    intro w1 hb
    rw [← hp]
    refine (rput_all (h.below hb) _ 0 (by rw [ByteArray.size_append, arr_size]; omega) (Nat.le_trans hB hb.size)).mono ?_
    rintro e w' ⟨rfl, hL⟩
    exact ⟨rfl, hL.after hb⟩
  have HS : Hid (l.length + s.size + 10 ≤ 140737488355328) := hs
  have hz : (⟨(vb s.size).toArray⟩ : ByteArray).size ≤ 10 := by rw [arr_size]; exact hl
  have hz2 : (s.size : Int) ≤ 140737488355328 := by omega
  generalize (⟨(vb s.size).toArray⟩ : ByteArray) = q at *
  clear h hl hn hs hp
  generalize textR l g s = r at *
  go_enter Try.func37, Try.ntmps37
  go_wp2_with fail
  refine (C0.out _).mono ?_
  rintro e w1 ⟨rfl, hb1⟩
  go_wp2_with fail
  refine (C.out _ hb1).mono ?_
  rintro e w2 ⟨rfl, hL⟩
  go_wp2
  first | go_end0 | refine bodyPost_ret (results_none rfl _ _ _) rfl ?_
  all_goals exact ⟨rfl, hL⟩
end
end Go.Proofs.Ytdpddlaedffmdaa
