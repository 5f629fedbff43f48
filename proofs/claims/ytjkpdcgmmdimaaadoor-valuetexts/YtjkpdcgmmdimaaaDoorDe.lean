/- Package value's Text: any number of 128 bits, any width, any form. -/
import Derived.Test.YtjkpdcgmmdimaaaDoorDb
import Derived.Test.YtjkpdcgmmdimaaaDoorDc
namespace Go.Proofs.YtjkpdcgmmdimaaaDoor
open Go.RowKit
set_option linter.unusedVariables false
set_option linter.unusedSimpArgs false

/-- Which forms are there; which widths a form has; a text in a form. -/
def isF (form : Int) : Bool := decide (1 ≤ form) && decide (form ≤ 5)
def hasF (wd form : Int) : Bool := if form = 4 then wd == 32 else if form = 5 then hasC wd else isW wd
def txN (n : Nat) (wd form : Int) : List UInt8 :=
  if form = 2 then 48 :: 120 :: digs 16 n else if form = 3 then 48 :: 98 :: digs 2 n else if form = 4 then dpre n 4 else if form = 5 then colN n ((wd + 7) / 8).toNat else digs 10 n
/-- What Text answers: the text and the error's number. -/
def txR (n : Nat) (wd form : Int) : List UInt8 × Int := if isF form = true then (if hasF wd form = true then (if fitsN n wd = true then (txN n wd form, 0) else ([], 11)) else ([], 10)) else ([], 1)
theorem txR_form {n : Nat} {wd form : Int} (h : isF form = false) : txR n wd form = ([], 1) := by unfold txR; rw [h]; rfl
theorem txR_has {n : Nat} {wd form : Int} (h : isF form = true) (h' : hasF wd form = false) : txR n wd form = ([], 10) := by unfold txR; rw [h, h']; rfl
theorem txR_fit {n : Nat} {wd form : Int} (h : isF form = true) (h' : hasF wd form = true) (hf : fitsN n wd = false) : txR n wd form = ([], 11) := by unfold txR; rw [h, h', hf]; rfl
theorem txR_yes {n : Nat} {wd form : Int} (h : isF form = true) (h' : hasF wd form = true) (hf : fitsN n wd = true) : txR n wd form = (txN n wd form, 0) := by unfold txR; rw [h, h', hf]; rfl

theorem isForm_any (f : Int) (w : World) : Calls Tryd.prog 55 #[.int .i64 f] w fun e w' => e = .returned (.bool (isF f)) ∧ w' = w := by
  by_cases h1 : 1 ≤ f
  · go_enter Tryd.func55, Tryd.ntmps55
    go_wp2
    go_ret
    exact ⟨by simp [isF, h1], rfl⟩
  · have h1' : decide (1 ≤ f) = false := by simpa using h1
    go_enter Tryd.func55, Tryd.ntmps55
    go_wp2
    go_ret
    exact ⟨by rw [show isF f = false by unfold isF; rw [h1', Bool.false_and]]; rfl, rfl⟩
theorem formHas_any (f wd : Int) (w : World) : Calls Tryd.prog 56 #[.int .i64 f, .int .i64 wd] w fun e w' => e = .returned (.bool (hasF wd f)) ∧ w' = w := by
  by_cases h4 : f = 4
  · subst h4; exact formHas_dots wd w
  by_cases h5 : f = 5
  · subst h5; exact formHas_colons wd w
  have e4 : (f == 4) = false := by simpa using h4
  have e5 : (f == 5) = false := by simpa using h5
  have E : Hid (hasF wd f = isW wd) := by unfold hasF; rw [if_neg h4, if_neg h5]; rfl
  clear h4 h5
  go_enter Tryd.func56, Tryd.ntmps56
  go_wp2_with (go_at_call 42; refine (isWidth_any wd _).mono ?_; rintro e w' ⟨rfl, rfl⟩)
  go_ret
  exact ⟨by rw [E.out]; rfl, rfl⟩

theorem str_head (a b : UInt8) (l : List UInt8) : (⟨#[a, b]⟩ : ByteArray) ++ (⟨l.toArray⟩ : ByteArray) = ⟨(a :: b :: l).toArray⟩ := str_app [a, b] l

/-- What Text's last step leans on: the digits, the dots, the colons of a number. -/
theorem text_yes (n : Nat) (hn : Is128 n) (wd form : Int) (hF : isF form = true) (hH : hasF wd form = true) (hf : fitsN n wd = true) (w : World) (hT : Tab w) :
    Calls Tryd.prog 38 #[B n, .int .i64 wd, .int .i64 form] w fun e w' => e = .returned (.tuple #[.string ⟨(txN n wd form).toArray⟩, .int .i64 0]) ∧ Below w.heap.size w w' := by
  have N0 := Box.new w n
  have B0 : Below w.heap.size w (w.alloc (.cells #[.int .u64 (hiOf n), .int .u64 (loOf n)] 24)) := by go_grown
  have H1 : Hid (isF form = true) := hF
  have H2 : Hid (hasF wd form = true) := hH
  have H3 : Hid (fitsN n wd = true) := hf
  have HT : Hid (Tab w) := hT
  have hcases : form = 1 ∨ form = 2 ∨ form = 3 ∨ form = 4 ∨ form = 5 := by simp [isF] at hF; omega
  clear hF hH hf hT
  have FORM : Hid (∀ w, Calls Tryd.prog 55 #[.int .i64 form] w fun e w' => e = .returned (.bool true) ∧ w' = w) := fun w => by rw [← H1.out]; exact isForm_any form w
  have HAS : Hid (∀ w, Calls Tryd.prog 56 #[.int .i64 form, .int .i64 wd] w fun e w' => e = .returned (.bool true) ∧ w' = w) := fun w => by rw [← H2.out]; exact formHas_any form wd w
  have FIT : Hid (∀ w, Calls Tryd.prog 10 #[B n, .int .i64 wd] w fun e w' => e = .returned (.bool true) ∧ Below w.heap.size w w') := fun w => by rw [← H3.out]; exact fits_any n hn wd w
  rcases hcases with rfl | rfl | rfl | rfl | rfl
  · have E : Hid (txN n wd 1 = digs 10 n) := by unfold txN; rfl
    go_enter Tryd.func38, Tryd.ntmps38
    go_wp2_with (first | (go_at_call 55; refine (FORM.out _).mono ?_; rintro e w' ⟨rfl, rfl⟩) | (go_at_call 56; refine (HAS.out _).mono ?_; rintro e w' ⟨rfl, rfl⟩))
    refine (FIT.out _).mono ?_
    rintro e w1 ⟨rfl, hb1⟩
    obtain ⟨n0, n1⟩ := N0.below hb1 N0.lt
    have hB1 := bstep B0 hb1
    have HT1 : Hid (Tab w1) := HT.out.below hB1
    clear N0 B0 hb1
    go_wp2_with fail
    refine (digits_ten n hn _ HT1.out).mono ?_
    rintro e w2 ⟨rfl, hb2⟩
    go_wp2
    go_ret2
    exact ⟨by rw [E.out]; rfl, bstep hB1 hb2⟩
  · have E : Hid (txN n wd 2 = 48 :: 120 :: digs 16 n) := by unfold txN; rfl
    have hd := digs_length 16 n
    go_enter Tryd.func38, Tryd.ntmps38
    go_wp2_with (first | (go_at_call 55; refine (FORM.out _).mono ?_; rintro e w' ⟨rfl, rfl⟩) | (go_at_call 56; refine (HAS.out _).mono ?_; rintro e w' ⟨rfl, rfl⟩))
    refine (FIT.out _).mono ?_
    rintro e w1 ⟨rfl, hb1⟩
    obtain ⟨n0, n1⟩ := N0.below hb1 N0.lt
    have hB1 := bstep B0 hb1
    have HT1 : Hid (Tab w1) := HT.out.below hB1
    clear N0 B0 hb1
    go_wp2_with fail
    refine (digits_hex n hn _ HT1.out).mono ?_
    rintro e w2 ⟨rfl, hb2⟩
    go_wp2
    go_ret2
    exact ⟨by rw [E.out, ← str_head]; rfl, bstep hB1 hb2⟩
  · have E : Hid (txN n wd 3 = 48 :: 98 :: digs 2 n) := by unfold txN; rfl
    have hd := digs_length 2 n
    go_enter Tryd.func38, Tryd.ntmps38
    go_wp2_with (first | (go_at_call 55; refine (FORM.out _).mono ?_; rintro e w' ⟨rfl, rfl⟩) | (go_at_call 56; refine (HAS.out _).mono ?_; rintro e w' ⟨rfl, rfl⟩))
    refine (FIT.out _).mono ?_
    rintro e w1 ⟨rfl, hb1⟩
    obtain ⟨n0, n1⟩ := N0.below hb1 N0.lt
    have hB1 := bstep B0 hb1
    have HT1 : Hid (Tab w1) := HT.out.below hB1
    clear N0 B0 hb1
    go_wp2_with fail
    refine (digits_two n hn _ HT1.out).mono ?_
    rintro e w2 ⟨rfl, hb2⟩
    go_wp2
    go_ret2
    exact ⟨by rw [E.out, ← str_head]; rfl, bstep hB1 hb2⟩
  · have E : Hid (txN n wd 4 = dpre n 4) := by unfold txN; rfl
    go_enter Tryd.func38, Tryd.ntmps38
    go_wp2_with (first | (go_at_call 55; refine (FORM.out _).mono ?_; rintro e w' ⟨rfl, rfl⟩) | (go_at_call 56; refine (HAS.out _).mono ?_; rintro e w' ⟨rfl, rfl⟩))
    refine (FIT.out _).mono ?_
    rintro e w1 ⟨rfl, hb1⟩
    obtain ⟨n0, n1⟩ := N0.below hb1 N0.lt
    have hB1 := bstep B0 hb1
    have HT1 : Hid (Tab w1) := HT.out.below hB1
    clear N0 B0 hb1
    go_wp2_with fail
    refine (dots_any n _ HT1.out).mono ?_
    rintro e w2 ⟨rfl, hb2⟩
    go_wp2
    go_ret2
    exact ⟨by rw [E.out]; rfl, bstep hB1 hb2⟩
  · have E : Hid (txN n wd 5 = colN n ((wd + 7) / 8).toNat) := by unfold txN; rfl
    have hb : 16 ≤ wd ∧ wd ≤ 128 := by
      have := H2.out; unfold hasF hasC isW at this; simp at this; omega
    obtain ⟨k, hk⟩ : ∃ k : Nat, (wd + 7) / 8 = (k : Int) := ⟨((wd + 7) / 8).toNat, by omega⟩
    have k1 : 1 ≤ k := by omega
    have k16 : k ≤ 16 := by omega
    have hk0 : ((wd + 7) / 8).toNat = k := by omega
    rw [hk0] at E
    have CNT : Hid (∀ w, Calls Tryd.prog 51 #[.int .i64 wd] w fun e w' => e = .returned (.int .i64 (k : Int)) ∧ w' = w) := fun w => by rw [← hk]; exact byteCount_any wd (by omega) (by omega) w
    clear hk hk0
    go_enter Tryd.func38, Tryd.ntmps38
    go_wp2_with (first | (go_at_call 55; refine (FORM.out _).mono ?_; rintro e w' ⟨rfl, rfl⟩) | (go_at_call 56; refine (HAS.out _).mono ?_; rintro e w' ⟨rfl, rfl⟩))
    refine (FIT.out _).mono ?_
    rintro e w1 ⟨rfl, hb1⟩
    obtain ⟨n0, n1⟩ := N0.below hb1 N0.lt
    have hB1 := bstep B0 hb1
    have HT1 : Hid (Tab w1) := HT.out.below hB1
    clear N0 B0 hb1
    go_wp2_with fail
    go_region_with (first
      | (go_at_call 51; refine (CNT.out _).mono ?_; rintro e w' ⟨rfl, rfl⟩)
      | (go_at_call 59; refine (colons_any n k hn k16 k1 w1.drew HT1.out).mono ?_; rintro e w2 ⟨rfl, hb2⟩))
    all_goals
      go_wp2
      go_ret2
      exact ⟨by rw [E.out]; rfl, bstep hB1.drew hb2⟩

set_option maxHeartbeats 1000000 in
theorem text_all (n : Nat) (hn : Is128 n) (wd form : Int) (w : World) (hT : Tab w) :
    Calls Tryd.prog 38 #[B n, .int .i64 wd, .int .i64 form] w fun e w' => e = .returned (.tuple #[.string ⟨(txR n wd form).1.toArray⟩, .int .i64 (txR n wd form).2]) ∧ Below w.heap.size w w' := by
  cases hF : isF form
  · rw [txR_form hF]
    have FORM : Hid (∀ w, Calls Tryd.prog 55 #[.int .i64 form] w fun e w' => e = .returned (.bool false) ∧ w' = w) := fun w => by rw [← hF]; exact isForm_any form w
    go_enter Tryd.func38, Tryd.ntmps38
    go_wp2_with (go_at_call 55; refine (FORM.out _).mono ?_; rintro e w' ⟨rfl, rfl⟩)
    go_ret2
    exact ⟨rfl, by go_grown⟩
  have FORM : Hid (∀ w, Calls Tryd.prog 55 #[.int .i64 form] w fun e w' => e = .returned (.bool true) ∧ w' = w) := fun w => by rw [← hF]; exact isForm_any form w
  cases hH : hasF wd form
  · rw [txR_has hF hH]
    have HAS : Hid (∀ w, Calls Tryd.prog 56 #[.int .i64 form, .int .i64 wd] w fun e w' => e = .returned (.bool false) ∧ w' = w) := fun w => by rw [← hH]; exact formHas_any form wd w
    go_enter Tryd.func38, Tryd.ntmps38
    go_wp2_with (first | (go_at_call 55; refine (FORM.out _).mono ?_; rintro e w' ⟨rfl, rfl⟩) | (go_at_call 56; refine (HAS.out _).mono ?_; rintro e w' ⟨rfl, rfl⟩))
    go_ret2
    exact ⟨rfl, by go_grown⟩
  have HAS : Hid (∀ w, Calls Tryd.prog 56 #[.int .i64 form, .int .i64 wd] w fun e w' => e = .returned (.bool true) ∧ w' = w) := fun w => by rw [← hH]; exact formHas_any form wd w
  cases hf : fitsN n wd
  · rw [txR_fit hF hH hf]
    have FIT : Hid (∀ w, Calls Tryd.prog 10 #[B n, .int .i64 wd] w fun e w' => e = .returned (.bool false) ∧ Below w.heap.size w w') := fun w => by rw [← hf]; exact fits_any n hn wd w
    go_enter Tryd.func38, Tryd.ntmps38
    go_wp2_with (first | (go_at_call 55; refine (FORM.out _).mono ?_; rintro e w' ⟨rfl, rfl⟩) | (go_at_call 56; refine (HAS.out _).mono ?_; rintro e w' ⟨rfl, rfl⟩) | (go_at_call 10; refine (FIT.out _).mono ?_; rintro e w1 ⟨rfl, hb1⟩))
    go_ret2
    exact ⟨rfl, bstep (by go_grown) hb1⟩
  · rw [txR_yes hF hH hf]; exact text_yes n hn wd form hF hH hf w hT
end Go.Proofs.YtjkpdcgmmdimaaaDoor
