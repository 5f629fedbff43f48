/- Package pack's number: what it reads, and what it gives up with. -/
import Derived.Test.YtdpddlaedffmdaaQa
namespace Go.Proofs.Ytdpddlaedffmdaa
open Go.RowKit
set_option linter.unusedVariables false
set_option linter.unusedSimpArgs false

/-- A number's bytes, read from the i-th one on: the number, its bytes, or the error. -/
def numS : List UInt8 → Nat → Nat → Nat × Nat × Int
  | [], i, n => (0, 0, 3)
  | c :: r, i, n =>
    if i < 9 ∨ c.toNat ≤ 1 then
      if i = 0 ∨ c.toNat ≠ 0 then
        if c.toNat < 128 then (n + c.toNat % 128 * 128 ^ i, i + 1, 0) else numS r (i + 1) (n + c.toNat % 128 * 128 ^ i)
      else (0, 0, 30)
    else (0, 0, 30)
def numR (l : List UInt8) (most : Nat) : Nat × Nat × Int := if (numS l 0 0).2.2 ≠ 0 then (0, 0, (numS l 0 0).2.2) else if (numS l 0 0).1 ≤ most then numS l 0 0 else (0, 0, 2)
theorem andNot_all : ∀ c : Fin 256, bits .andNot .u8 ((c.val : Nat) : Int) 128 = ((c.val % 128 : Nat) : Int) := by decide +kernel
theorem num_word (n c i : Nat) (hc : c < 256) (hn : n < 128 ^ i) (hi : i < 9 ∨ (i = 9 ∧ c ≤ 1)) : bits .or .u64 (n : Int) (IntKind.u64.wrap (IntKind.u64.wrap (bits .andNot .u8 (c : Int) 128) * 2 ^ (7 * i))) = ((n + c % 128 * 128 ^ i : Nat) : Int) ∧ n + c % 128 * 128 ^ i < 18446744073709551616 ∧ (i < 9 → n + c % 128 * 128 ^ i < 128 ^ (i + 1)) := by
  have e0 := andNot_all ⟨c, hc⟩
  simp only at e0
  have e1 : (2 : Int) ^ (7 * i) = ((128 ^ i : Nat) : Int) := by rw [Int.pow_mul]; simp
  have hp := Nat.pow_pos (n := i) (by decide : 0 < 128)
  have hlt : c % 128 * 128 ^ i < 18446744073709551616 ∧ n + c % 128 * 128 ^ i < 18446744073709551616 := by
    rcases hi with h | ⟨rfl, h⟩
    · have h1 : 128 ^ i ≤ 128 ^ 8 := Nat.pow_le_pow_right (by decide) (by omega)
      have h2 : c % 128 * 128 ^ i ≤ 127 * 128 ^ 8 := Nat.mul_le_mul (by omega) h1
      have e : (128 : Nat) ^ 8 = 72057594037927936 := by decide
      omega
    · have h2 : c % 128 * 128 ^ 9 ≤ 1 * 128 ^ 9 := Nat.mul_le_mul_right _ (by omega)
      have e : (128 : Nat) ^ 9 = 9223372036854775808 := by decide
      omega
  have w1 : IntKind.u64.wrap ((c % 128 : Nat) : Int) = ((c % 128 : Nat) : Int) := by rw [IntKind.wrap_u64]; omega
  have e2 : ((c % 128 : Nat) : Int) * ((128 ^ i : Nat) : Int) = ((c % 128 * 128 ^ i : Nat) : Int) := by simp
  have w2 : IntKind.u64.wrap ((c % 128 * 128 ^ i : Nat) : Int) = ((c % 128 * 128 ^ i : Nat) : Int) := by rw [IntKind.wrap_u64]; omega
  refine ⟨?_, hlt.2, fun _ => ?_⟩
  · rw [e0, w1, e1, e2, w2, u64_or_nat n _ (by omega) hlt.1]
    congr 1
    have e3 : (128 : Nat) ^ i = 2 ^ (7 * i) := by rw [Nat.pow_mul]
    rw [e3] at hn ⊢
    rw [Nat.or_comm, Nat.mul_comm, ← Nat.two_pow_add_eq_or_of_lt hn, Nat.add_comm]
  · have h2 : c % 128 * 128 ^ i ≤ 127 * 128 ^ i := Nat.mul_le_mul_right _ (by omega)
    rw [Nat.pow_succ]; omega
/-- What comes of a reading at a place: its answer and the place behind it, or what it gives up with. -/
def Outc (b : Nat) (s : ByteArray) (w : World) (x : Value) (a : Nat) (f : Int) (e : Ending) (w' : World) : Prop :=
  Kept (fun k => k = b) w w' ∧ ((f = 0 ∧ e = .returned x ∧ Pl w' b s a) ∨ (f ≠ 0 ∧ e = .panicked [pe f]))
theorem Outc.yes {b : Nat} {s : ByteArray} {w w' : World} {x : Value} {a : Nat} (h : Kept (fun k => k = b) w w') (hp : Pl w' b s a) : Outc b s w x a 0 (.returned x) w' := ⟨h, .inl ⟨rfl, rfl, hp⟩⟩
theorem Outc.no {b : Nat} {s : ByteArray} {w w' : World} {x : Value} {a : Nat} {f : Int} (h : Kept (fun k => k = b) w w') (hf : f ≠ 0) : Outc b s w x a f (.panicked [pe f]) w' := ⟨h, .inr ⟨hf, rfl⟩⟩
theorem Kept.drewN {S : Nat → Prop} {a w : World} (h : Kept S a w) (n : Nat) : Kept S a (w.drewN n) := h.trans ⟨rfl, rfl, rfl, Nat.le_refl _, fun _ _ _ => rfl⟩
theorem Pl.set {w : World} {b : Nat} {s : ByteArray} {a : Nat} (h : Pl w b s a) (a' : Nat) (ha : a' ≤ s.size) : Pl (w.setCell ⟨b, 1, none⟩ (.int .i64 (a' : Int))) b s a' :=
  ⟨by rw [World.cell?_setCell_other _ _ _ _ (by intro x; injection x with _ x _; cases x)]; exact h.1, by rw [World.cell?_setCell_same _ _ _ h.2.1], by simpa using h.2.2.1, ha⟩
theorem ext_one (s : ByteArray) (p : Nat) (h : p < s.size) : s.extract p (p + 1) = ⟨#[s[p]]⟩ := by
  apply ByteArray.ext
  apply Array.ext'
  have h1 : p < s.data.toList.length := by simpa using h
  rw [ByteArray.data_extract, Array.toList_extract]
  simp only [List.extract_eq_take_drop, Nat.add_sub_cancel_left]
  rw [List.drop_eq_getElem_cons h1]; rfl
/-- One byte of a text, gone over. -/
theorem next_one {w : World} {b : Nat} {s : ByteArray} {a : Nat} (h : Pl w b s a) (hs : s.size ≤ 140737488351232) (ha : a < s.size) : Calls Try.prog 75 #[.pointer (some ⟨b, 0, none⟩), .int .i64 1] w fun e w' => e = .returned (.string ⟨#[s[a]]⟩) ∧ Pl w' b s (a + 1) ∧ Kept (fun k => k = b) w w' := by
  refine (next_yes h hs 1 (by omega)).mono ?_
  rintro e w' ⟨rfl, m, rfl⟩
  refine ⟨by rw [ext_one s a ha], ?_, ?_⟩
  · exact Pl.set (h.drew m) (a + 1) (by omega)
  · exact Kept.set (S := fun k => k = b) ((Kept.refl _ _).drewN m) rfl _
set_option maxHeartbeats 4000000 in
set_option maxRecDepth 100000 in
theorem number_any {w : World} {b : Nat} {s : ByteArray} {a : Nat} (h : Pl w b s a) (hs : s.size ≤ 140737488351232) (most : Nat) : Calls Try.prog 50 #[.pointer (some ⟨b, 0, none⟩), .int .u64 most] w fun e w' =>
    Outc b s w (.int .u64 (numR (s.data.toList.drop a) most).1) (a + (numR (s.data.toList.drop a) most).2.1) (numR (s.data.toList.drop a) most).2.2 e w' := by
  have HR : Hid (numR (s.data.toList.drop a) most = if (numS (s.data.toList.drop a) 0 0).2.2 ≠ 0 then (0, 0, (numS (s.data.toList.drop a) 0 0).2.2) else if (numS (s.data.toList.drop a) 0 0).1 ≤ most then numS (s.data.toList.drop a) 0 0 else (0, 0, 2)) := by show _ = _; rfl
  generalize numR (s.data.toList.drop a) most = R at *
  have HP : Hid (Pl w b s a) := h
  have HS : Hid (s.size ≤ 140737488351232) := hs
  clear h hs
  go_enter Try.func50, Try.ntmps50
  go_wp2
  go_loopw [5, 6] (fun x y wr => ∃ n i : Nat, x = .int .u64 n ∧ y = .int .i64 i ∧ i ≤ 9 ∧ n < 128 ^ i ∧ Pl wr b s (a + i) ∧ Kept (fun k => k = b) w wr ∧ numS (s.data.toList.drop (a + i)) i n = numS (s.data.toList.drop a) 0 0) (fun _ y _ => (10 - intOf y).toNat)
  case atStart => exact ⟨0, 0, rfl, rfl, by omega, by decide, HP.out, Kept.refl _ _, rfl⟩
  case round =>
    obtain ⟨n, i, rfl, rfl, hi, hn, hpl, hk, hx⟩ := hrel
    have HN : Hid (n < 128 ^ i) := hn
    have HX : Hid (numS (s.data.toList.drop (a + i)) i n = numS (s.data.toList.drop a) 0 0) := hx
    clear hn hx
    by_cases hend : a + i < s.size
    · have C : Hid (Calls Try.prog 75 #[.pointer (some ⟨b, 0, none⟩), .int .i64 1] wr fun e w' => e = .returned (.string ⟨#[s[a + i]]⟩) ∧ Pl w' b s (a + i + 1) ∧ Kept (fun k => k = b) wr w') := next_one hpl HS.out hend
      have HE : Hid (s.data.toList.drop (a + i) = s[a + i] :: s.data.toList.drop (a + i + 1)) := byte_at s hend
      have hb := (s[a + i]).toNat_lt
      generalize s[a + i] = c at *
      have hq : ∀ h : 0 < (⟨#[c]⟩ : ByteArray).size, (⟨#[c]⟩ : ByteArray)[0] = c := fun _ => rfl
      obtain ⟨q, hqd⟩ : ∃ q, n + c.toNat % 128 * 128 ^ i = q := ⟨_, rfl⟩
      have HQ : Hid ((i < 9) → q < 128 ^ (i + 1)) := by
        show _ → _
        intro h9
        rw [← hqd]
        exact (num_word n c.toNat i (by omega) HN.out (.inl h9)).2.2 h9
      have HGO : Hid ((i < 9 ∨ c.toNat ≤ 1) → (i = 0 ∨ c.toNat ≠ 0) → c.toNat < 128 → numS (s.data.toList.drop a) 0 0 = (q, i + 1, 0)) := by
        show _ → _ → _ → _
        intro h1 h2 h3
        rw [← HX.out, HE.out, numS, if_pos h1, if_pos h2, if_pos h3, hqd]
      have HGR : Hid ((i < 9 ∨ c.toNat ≤ 1) → (i = 0 ∨ c.toNat ≠ 0) → ¬ c.toNat < 128 → numS (s.data.toList.drop (a + i + 1)) (i + 1) q = numS (s.data.toList.drop a) 0 0) := by
        show _ → _ → _ → _
        intro h1 h2 h3
        rw [← HX.out, HE.out, numS, if_pos h1, if_pos h2, if_neg h3, hqd]
      have HB1 : Hid (¬ (i < 9 ∨ c.toNat ≤ 1) → R = (0, 0, 30)) := by
        show _ → _
        intro h1
        rw [HR.out, ← HX.out, HE.out, numS, if_neg h1]; rfl
      have HB2 : Hid ((i < 9 ∨ c.toNat ≤ 1) → ¬ (i = 0 ∨ c.toNat ≠ 0) → R = (0, 0, 30)) := by
        show _ → _ → _
        intro h1 h2
        rw [HR.out, ← HX.out, HE.out, numS, if_pos h1, if_neg h2]; rfl
      have HF : Hid ((i < 9 ∨ (i = 9 ∧ c.toNat ≤ 1)) → bits .or .u64 (n : Int) (IntKind.u64.wrap (IntKind.u64.wrap (bits .andNot .u8 (c.toNat : Int) 128) * 2 ^ (7 * i))) = (q : Int)) := by
        show _ → _
        intro h1
        rw [← hqd]
        exact (num_word n c.toNat i (by omega) HN.out h1).1
      clear hpl HX HE HN hqd
      go_wp2_with fail
      refine C.out.mono ?_
      rintro e w2 ⟨rfl, hp2, hk2⟩
      have hk3 := hk.trans hk2
      clear hk hk2 C
      by_cases h9 : i < 9
      · have h9' : (i : Int) < 9 := by omega
        have hg1 : i < 9 ∨ c.toNat ≤ 1 := .inl h9
        have hF := HF.out (.inl h9)
        by_cases h0 : i = 0
        · subst h0
          have hg2 : 0 = 0 ∨ c.toNat ≠ 0 := .inl rfl
          have hF0 : bits .or .u64 (n : Int) (IntKind.u64.wrap (IntKind.u64.wrap (bits .andNot .u8 (c.toNat : Int) 128))) = (q : Int) := by simpa using hF
          clear hF
          go_wp2_with fail
          refine (need_yes 30 _).mono ?_
          rintro e w3 ⟨rfl, rfl⟩
          go_wp2_with fail
          refine (need_yes 30 _).mono ?_
          rintro e w4 ⟨rfl, rfl⟩
          by_cases hc : c.toNat < 128
          · have hc' : (c.toNat : Int) < 128 := by omega
            have hR := HGO.out hg1 hg2 hc
            by_cases hm : q ≤ most
            · have hm' : (q : Int) ≤ (most : Int) := by omega
              have HRq : Hid (R = (q, 0 + 1, 0)) := by show _ = _; rw [HR.out, hR]; simp [hm]
              clear hR
              go_wp2_with fail
              refine (need_yes 2 _).mono ?_
              rintro e w5 ⟨rfl, rfl⟩
              go_wp2
              go_ret
              rw [HRq.out]
              exact Outc.yes hk3 hp2
            · have hm' : decide ((q : Int) ≤ (most : Int)) = false := by simp; omega
              have HRq : Hid (R = (0, 0, 2)) := by show _ = _; rw [HR.out, hR]; simp [hm]
              clear hR
              go_wp2_with fail
              refine (need_no 2 _).mono ?_
              rintro e w5 ⟨rfl, rfl⟩
              go_wp2
              refine ⟨rfl, ?_⟩
              rw [HRq.out]
              exact Outc.no hk3 (by decide)
          · have hc' : ¬ (c.toNat : Int) < 128 := by omega
            have HR2 : Hid (numS (s.data.toList.drop (a + 0 + 1)) (0 + 1) q = numS (s.data.toList.drop a) 0 0) := HGR.out hg1 hg2 hc
            go_wp2
            refine ⟨⟨q, 0 + 1, rfl, rfl, by omega, HQ.out (by omega), hp2, hk3, HR2.out⟩, by simp only [intOf]; omega⟩
        · have h0'' : ((i : Int) == 0) = false := by simpa using h0
          by_cases hc0 : c.toNat = 0
          · have hc0' : ((c.toNat : Int) != 0) = false := by simp; omega
            have HRq : Hid (R = (0, 0, 30)) := HB2.out hg1 (by omega)
            go_wp2_with fail
            refine (need_yes 30 _).mono ?_
            rintro e w3 ⟨rfl, rfl⟩
            go_wp2_with fail
            refine (need_no 30 _).mono ?_
            rintro e w4 ⟨rfl, rfl⟩
            go_wp2
            refine ⟨rfl, ?_⟩
            rw [HRq.out]
            exact Outc.no hk3 (by decide)
          · have hc0' : ((c.toNat : Int) != 0) = true := by simp; omega
            have hg2 : i = 0 ∨ c.toNat ≠ 0 := .inr hc0
            go_wp2_with fail
            refine (need_yes 30 _).mono ?_
            rintro e w3 ⟨rfl, rfl⟩
            go_wp2_with fail
            refine (need_yes 30 _).mono ?_
            rintro e w4 ⟨rfl, rfl⟩
            by_cases hc : c.toNat < 128
            · have hc' : (c.toNat : Int) < 128 := by omega
              have hR := HGO.out hg1 hg2 hc
              by_cases hm : q ≤ most
              · have hm' : (q : Int) ≤ (most : Int) := by omega
                have HRq : Hid (R = (q, i + 1, 0)) := by show _ = _; rw [HR.out, hR]; simp [hm]
                clear hR
                go_wp2_with fail
                refine (need_yes 2 _).mono ?_
                rintro e w5 ⟨rfl, rfl⟩
                go_wp2
                go_ret
                rw [HRq.out]
                exact Outc.yes hk3 hp2
              · have hm' : decide ((q : Int) ≤ (most : Int)) = false := by simp; omega
                have HRq : Hid (R = (0, 0, 2)) := by show _ = _; rw [HR.out, hR]; simp [hm]
                clear hR
                go_wp2_with fail
                refine (need_no 2 _).mono ?_
                rintro e w5 ⟨rfl, rfl⟩
                go_wp2
                refine ⟨rfl, ?_⟩
                rw [HRq.out]
                exact Outc.no hk3 (by decide)
            · have hc' : ¬ (c.toNat : Int) < 128 := by omega
              have HR2 : Hid (numS (s.data.toList.drop (a + i + 1)) (i + 1) q = numS (s.data.toList.drop a) 0 0) := HGR.out hg1 hg2 hc
              go_wp2
              refine ⟨⟨q, i + 1, rfl, rfl, by omega, HQ.out (by omega), hp2, hk3, HR2.out⟩, by simp only [intOf]; omega⟩
      · have h9' : ¬ (i : Int) < 9 := by omega
        have h9'' : decide ((i : Int) < 9) = false := by simp; omega
        have h0'' : ((i : Int) == 0) = false := by simp; omega
        by_cases hc1 : c.toNat ≤ 1
        · have hc1' : decide ((c.toNat : Int) ≤ 1) = true := by simp; omega
          have hg1 : i < 9 ∨ c.toNat ≤ 1 := .inr hc1
          have hF := HF.out (.inr ⟨by omega, hc1⟩)
          by_cases hc0 : c.toNat = 0
          · have hc0' : ((c.toNat : Int) != 0) = false := by simp; omega
            have HRq : Hid (R = (0, 0, 30)) := HB2.out hg1 (by omega)
            go_wp2_with fail
            refine (need_yes 30 _).mono ?_
            rintro e w3 ⟨rfl, rfl⟩
            go_wp2_with fail
            refine (need_no 30 _).mono ?_
            rintro e w4 ⟨rfl, rfl⟩
            go_wp2
            refine ⟨rfl, ?_⟩
            rw [HRq.out]
            exact Outc.no hk3 (by decide)
          · have hc0' : ((c.toNat : Int) != 0) = true := by simp; omega
            have hg2 : i = 0 ∨ c.toNat ≠ 0 := .inr hc0
            go_wp2_with fail
            refine (need_yes 30 _).mono ?_
            rintro e w3 ⟨rfl, rfl⟩
            go_wp2_with fail
            refine (need_yes 30 _).mono ?_
            rintro e w4 ⟨rfl, rfl⟩
            by_cases hc : c.toNat < 128
            · have hc' : (c.toNat : Int) < 128 := by omega
              have hR := HGO.out hg1 hg2 hc
              by_cases hm : q ≤ most
              · have hm' : (q : Int) ≤ (most : Int) := by omega
                have HRq : Hid (R = (q, i + 1, 0)) := by show _ = _; rw [HR.out, hR]; simp [hm]
                clear hR
                go_wp2_with fail
                refine (need_yes 2 _).mono ?_
                rintro e w5 ⟨rfl, rfl⟩
                go_wp2
                go_ret
                rw [HRq.out]
                exact Outc.yes hk3 hp2
              · have hm' : decide ((q : Int) ≤ (most : Int)) = false := by simp; omega
                have HRq : Hid (R = (0, 0, 2)) := by show _ = _; rw [HR.out, hR]; simp [hm]
                clear hR
                go_wp2_with fail
                refine (need_no 2 _).mono ?_
                rintro e w5 ⟨rfl, rfl⟩
                go_wp2
                refine ⟨rfl, ?_⟩
                rw [HRq.out]
                exact Outc.no hk3 (by decide)
            · omega
        · have hc1' : decide ((c.toNat : Int) ≤ 1) = false := by simp; omega
          have HRq : Hid (R = (0, 0, 30)) := HB1.out (by omega)
          go_wp2_with fail
          refine (need_no 30 _).mono ?_
          rintro e w3 ⟨rfl, rfl⟩
          go_wp2
          refine ⟨rfl, ?_⟩
          rw [HRq.out]
          exact Outc.no hk3 (by decide)
    · have C : Hid (Calls Try.prog 75 #[.pointer (some ⟨b, 0, none⟩), .int .i64 1] wr fun e w' => e = .panicked [pe 3] ∧ ∃ n, w' = wr.drewN n) := next_no hpl HS.out 1 (by omega)
      have hd : s.data.toList.drop (a + i) = [] := List.drop_eq_nil_of_le (by simp; omega)
      have HRq : Hid (R = (0, 0, 3)) := by show _ = _; rw [HR.out, ← HX.out, hd]; rfl
      clear hd
      go_wp2_with fail
      refine C.out.mono ?_
      rintro e w2 ⟨rfl, m, rfl⟩
      go_wp2
      refine ⟨rfl, ?_⟩
      rw [HRq.out]
      exact Outc.no (hk.drewN m) (by decide)
end Go.Proofs.Ytdpddlaedffmdaa
