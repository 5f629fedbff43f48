/- The document's scale: Weigh, Take, Text, Texts, Fine. What is left on it is not said: only that it is a number. -/
import Derived.Test.YtkcjcidndckgbaaOa
import Derived.Test.YtkcjcidndckgbaaKe
namespace Go.Proofs.Ytkcjcidndckgbaa
open Go.RowKit
set_option linter.unusedVariables false
set_option linter.unusedSimpArgs false

def TxtRow (w : World) (v : Value) (xs : List ByteArray) : Prop := Row 1 (fun _ cs s => cs = #[.string s] ∧ Okt s) w v xs ∧ Len 16 xs
theorem TxtRow.parts {w : World} {v : Value} {xs : List ByteArray} (h : TxtRow w v xs) : ∃ ad cap, v = .slice ad xs.length cap ∧ xs.length ≤ 8796093022208 ∧ ∀ i x, xs[i]? = some x → Okt x ∧ ∃ b o, ad = some ⟨b, o, none⟩ ∧ w.cell? ⟨b, o + i, none⟩ = some (.string x) := by
  obtain ⟨⟨ad, cap, rfl, h1, h2⟩, h3⟩ := h
  refine ⟨ad, cap, rfl, by unfold Len at h3; omega, fun i x hx => ?_⟩
  rcases h2 with rfl | ⟨b, o, rfl, h4⟩
  · simp at hx
  · obtain ⟨cs, g1, g2, rfl, g4⟩ := h4 i x hx
    refine ⟨g4, b, o, rfl, ?_⟩
    have := g2 0 _ rfl
    simpa using this
theorem weigh_any (w : World) : Calls Try.prog 12 #[] w fun e w' => e = .returned (.pointer (some ⟨w.heap.size, 0, none⟩)) ∧ w' = w.alloc (.cells #[.int .i64 1048576] 92) := by
  go_enter Try.func12, Try.ntmps12
  go_wp2
  go_ret
  exact ⟨rfl, rfl⟩
theorem fine_any (sb : Nat) (l : Int) (w : World) (hb : Blk w sb #[.int .i64 l] 92) : Calls Try.prog 14 #[.pointer (some ⟨sb, 0, none⟩)] w fun e w' => e = .returned (.bool (decide (0 ≤ l))) ∧ w' = w := by
  have p0 := hb.cell 0 (v := .int .i64 l) rfl
  have l0 := hb.lt
  clear hb
  go_enter Try.func14, Try.ntmps14
  go_wp2
  go_ret
  exact ⟨rfl, rfl⟩
set_option maxHeartbeats 1000000 in
theorem take_any (sb : Nat) (l n : Int) (w : World) (hb : Blk w sb #[.int .i64 l] 92) : Calls Try.prog 68 #[.pointer (some ⟨sb, 0, none⟩), .int .i64 n] w fun e w' => ∃ l' : Int, e = .returned (.bool (decide (0 ≤ l'))) ∧ Blk w' sb #[.int .i64 l'] 92 ∧ Kept (fun k => k = sb) w w' := by
  have HB : Hid (Blk w sb #[.int .i64 l] 92) := hb
  have p0 := hb.cell 0 (v := .int .i64 l) rfl
  have p1 := hb.frozen 0
  have l0 := hb.lt
  clear hb
  by_cases h : 0 ≤ l
  · have h' : decide (0 ≤ l) = true := decide_eq_true h
    go_enter Try.func68, Try.ntmps68
    go_wp2
    go_ret
    exact ⟨_, rfl, HB.out.set 0 _, Kept.set (S := fun k => k = sb) (Kept.refl _ _) rfl _⟩
  · have h' : decide (0 ≤ l) = false := decide_eq_false h
    go_enter Try.func68, Try.ntmps68
    go_wp2
    go_ret
    exact ⟨l, by rw [h']; rfl, HB.out, Kept.refl _ _⟩
set_option maxHeartbeats 1000000 in
theorem text_any (sb : Nat) (l : Int) (s : ByteArray) (w : World) (hb : Blk w sb #[.int .i64 l] 92) : Calls Try.prog 45 #[.pointer (some ⟨sb, 0, none⟩), .string s] w fun e w' => ∃ bb : Bool, e = .returned (.bool bb) ∧ (∃ l' : Int, Blk w' sb #[.int .i64 l'] 92) ∧ Kept (fun k => k = sb) w w' := by
  have C : Hid (∀ n, Calls Try.prog 68 #[.pointer (some ⟨sb, 0, none⟩), .int .i64 n] w fun e w' => ∃ l' : Int, e = .returned (.bool (decide (0 ≤ l'))) ∧ Blk w' sb #[.int .i64 l'] 92 ∧ Kept (fun k => k = sb) w w') := fun n => take_any sb l n w hb
  clear hb
  go_enter Try.func45, Try.ntmps45
  go_wp2_with fail
  refine (C.out _).mono ?_
  rintro e w1 ⟨l', rfl, h1, h2⟩
  have H : Hid (Blk w1 sb #[.int .i64 l'] 92 ∧ Kept (fun k => k = sb) w w1) := ⟨h1, h2⟩
  clear h1 h2 C
  go_wp2
  go_ret
  exact ⟨_, rfl, ⟨_, H.out.1⟩, H.out.2⟩
set_option maxHeartbeats 2000000 in
theorem texts_any (w0 : World) (v : Value) (xs : List ByteArray) (h : TxtRow w0 v xs) (sb : Nat) (l : Int) (W : World) (hW : Below w0.heap.size w0 W) (hs : w0.heap.size ≤ sb) (hb : Blk W sb #[.int .i64 l] 92) :
    Calls Try.prog 13 #[.pointer (some ⟨sb, 0, none⟩), v] W fun e w' => e = .returned (.tuple #[]) ∧ (∃ l' : Int, Blk w' sb #[.int .i64 l'] 92) ∧ Below w0.heap.size w0 w' := by
  obtain ⟨ad, cap, rfl, hlen, hat⟩ := h.parts
  have HT : Hid (∀ i x, xs[i]? = some x → Okt x ∧ ∃ b o, ad = some ⟨b, o, none⟩ ∧ w0.cell? ⟨b, o + i, none⟩ = some (.string x)) := hat
  have H0 : Hid (Below w0.heap.size w0 W ∧ ∃ l' : Int, Blk W sb #[.int .i64 l'] 92) := ⟨hW, l, hb⟩
  obtain ⟨n, hn⟩ : ∃ n, n = xs.length := ⟨_, rfl⟩
  have HN : Hid (n = xs.length) := hn
  rw [← hn] at hlen ⊢
  clear h hat hW hb hn
  go_enter Try.func13, Try.ntmps13
  go_wp2_with fail
  go_loopw [4] (fun i wr => ∃ m : Nat, i = .int .i64 m ∧ m ≤ n ∧ Hid (Below w0.heap.size w0 wr ∧ ∃ l' : Int, Blk wr sb #[.int .i64 l'] 92)) (fun i _ => n - (intOf i).toNat)
  case atStart => exact ⟨0, rfl, Nat.zero_le _, H0⟩
  case round =>
    obtain ⟨m, rfl, hm, HK⟩ := hrel
    clear H0
    by_cases hmn : m < n
    · obtain ⟨x, hx⟩ : ∃ x, xs[m]? = some x := ⟨xs[m]'(by rw [← HN.out]; exact hmn), List.getElem?_eq_getElem _⟩
      obtain ⟨hok, b, o, rfl, hc⟩ := HT.out m x hx
      have c0 := pres_below HK.out.1 _ _ hc
      obtain ⟨l', hl'⟩ := HK.out.2
      have CT : Hid (Calls Try.prog 45 #[.pointer (some ⟨sb, 0, none⟩), .string x] wr fun e w' => ∃ bb : Bool, e = .returned (.bool bb) ∧ (∃ l' : Int, Blk w' sb #[.int .i64 l'] 92) ∧ Kept (fun k => k = sb) wr w') := text_any sb l' x wr hl'
      clear hl' hx hc hok
      have t1 : decide ((m : Int) < (n : Int)) = true := by simp; omega
      go_wp2_with fail
      refine CT.out.mono ?_
      rintro e w1 ⟨bb, rfl, h1, h2⟩
      have H1 : Hid (Below w0.heap.size w0 w1 ∧ ∃ l' : Int, Blk w1 sb #[.int .i64 l'] 92) := ⟨HK.out.1.trans (h2.below HK.out.1.size fun k hk => by omega), h1⟩
      clear h1 h2 CT c0
      cases bb with
      | true =>
        go_wp2_with fail
        refine ⟨⟨m + 1, by simp, by omega, H1⟩, ?_⟩
        simp [intOf]
        omega
      | false =>
        go_wp2_with fail
        go_end0
        exact ⟨rfl, H1.out.2, H1.out.1⟩
    · have t1 : decide ((m : Int) < (n : Int)) = false := by simp; omega
      go_wp2_with fail
      go_end0
      exact ⟨rfl, HK.out.2, HK.out.1⟩
end Go.Proofs.Ytkcjcidndckgbaa
