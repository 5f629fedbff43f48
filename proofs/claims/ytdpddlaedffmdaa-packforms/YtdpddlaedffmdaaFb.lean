/- An item's bytes; what reading it makes of a reader: whole, cut short, dead. -/
import Derived.Test.YtdpddlaedffmdaaFa
namespace Go.Proofs.Ytdpddlaedffmdaa
open Go.RowKit
set_option linter.unusedVariables false
set_option linter.unusedSimpArgs false

def It.fit (i : It) : Bool := isFx i.k && decide (i.n < 256 ^ i.k.toNat)
def It.lo (i : It) : Nat := i.x % 18446744073709551616
/-- The bytes that an item is. -/
def It.enc (i : It) : List UInt8 :=
  if i.kd = 1 then vb i.n else if i.kd = 2 then (if i.fit = true then be i.k.toNat i.n else []) else if i.kd = 3 then vb i.s.size ++ i.s.data.toList else if i.kd = 5 then i.s.data.toList else if i.kd = 4 then be 8 i.lo else []
/-- What reading an item answers: is it the like?; the place; the error. -/
def gotS (i : It) (s : ByteArray) (a : Nat) (f : Int) : Prop × Nat × Int :=
  if i.kd = 1 then ((uintS s a f i.n).1 = i.n, (uintS s a f i.n).2) else
  if i.kd = 2 then (if i.fit = true then ((fixS s a f i.k).1 = i.n, (fixS s a f i.k).2) else (True, a, f)) else
  if i.kd = 3 then ((textS s a f (i.s.size : Int)).1 = i.s, (textS s a f (i.s.size : Int)).2) else
  if i.kd = 5 then ((rawS s a f (i.s.size : Int)).1 = i.s, (rawS s a f (i.s.size : Int)).2) else
  if i.kd = 4 then ((bitsS s a f 64).1 = i.lo, (bitsS s a f 64).2) else (True, a, f)
theorem arr_list (s : ByteArray) : (⟨s.data.toList.toArray⟩ : ByteArray) = s := by
  apply ByteArray.ext; simp
theorem size_list (s : ByteArray) : s.data.toList.length = s.size := by rw [Array.length_toList]; rfl
theorem fit_parts {i : It} (h : i.fit = true) : isFx i.k = true ∧ i.n < 256 ^ i.k.toNat := by
  unfold It.fit at h; simpa using h
theorem lo_lt (i : It) : i.lo < 18446744073709551616 := Nat.mod_lt _ (by decide)
/-- Whole. -/
theorem got_whole (i : It) (hi : i.ok) (s : ByteArray) (a : Nat) (r : List UInt8) (ha : a ≤ s.size) (h : s.data.toList.drop a = i.enc ++ r) : (gotS i s a 0).1 ∧ (gotS i s a 0).2 = (a + i.enc.length, 0) := by
  unfold It.enc at h ⊢
  unfold gotS
  by_cases k1 : i.kd = 1
  · rw [if_pos k1] at h ⊢; rw [if_pos k1]
    have e := numR_vb i.n hi.1 r i.n (Nat.le_refl _)
    simp only [uintS, h, if_true, e]; simp
  rw [if_neg k1] at h ⊢; rw [if_neg k1]
  by_cases k2 : i.kd = 2
  · rw [if_pos k2] at h ⊢; rw [if_pos k2]
    by_cases hf : i.fit = true
    · rw [if_pos hf] at h ⊢; rw [if_pos hf]
      obtain ⟨h1, h2⟩ := fit_parts hf
      have hr := room s a _ _ ha h
      have he := ext_list s a i.k.toNat
      rw [h, List.take_append_of_le_length (by rw [be_length]; exact Nat.le_refl _), List.take_of_length_le (by rw [be_length]; exact Nat.le_refl _)] at he
      rw [be_length] at hr
      simp only [fixS, if_true, fixQ, h1, if_pos (show a + i.k.toNat ≤ s.size by omega), he, fxN_be _ _ h2, be_length]; simp
    · rw [if_neg hf] at h ⊢; rw [if_neg hf]; simp
  rw [if_neg k2] at h ⊢; rw [if_neg k2]
  by_cases k3 : i.kd = 3
  · rw [if_pos k3] at h ⊢; rw [if_pos k3]
    have hsz : i.s.size < 18446744073709551616 := by have := hi.2.2.1; omega
    rw [List.append_assoc] at h
    have e := numR_vb i.s.size hsz (i.s.data.toList ++ r) i.s.size (Nat.le_refl _)
    have hr := room s a _ _ ha h
    have hd := drop_more s a _ _ h
    have w := raw_whole s (a + (vb i.s.size).length) i.s.data.toList r (by omega) hd
    rw [size_list, arr_list] at w
    have hn : ¬ (i.s.size : Int) < 0 := by omega
    simp only [textS, if_true, textQ, if_neg hn, Int.toNat_natCast, h, e, w]; simp [size_list]; omega
  rw [if_neg k3] at h ⊢; rw [if_neg k3]
  by_cases k5 : i.kd = 5
  · rw [if_pos k5] at h ⊢; rw [if_pos k5]
    have w := raw_whole s a i.s.data.toList r ha h
    rw [size_list, arr_list] at w
    simp only [rawS, if_true, w, size_list]; simp
  rw [if_neg k5] at h ⊢; rw [if_neg k5]
  by_cases k4 : i.kd = 4
  · rw [if_pos k4] at h ⊢; rw [if_pos k4]
    have hr := room s a _ _ ha h
    have he := ext_list s a 8
    rw [h, List.take_append_of_le_length (by rw [be_length]; exact Nat.le_refl _), List.take_of_length_le (by rw [be_length]; exact Nat.le_refl _)] at he
    rw [be_length] at hr
    have hW : isW 64 = true := by decide
    have h8 : (((64 : Int) + 7) / 8).toNat = 8 := by decide
    simp only [bitsS, if_true, bitsQ, hW, h8, if_pos (show a + 8 ≤ s.size by omega), he, frR_be _ (lo_lt i), be_length]; simp
  rw [if_neg k4] at h ⊢; rw [if_neg k4]; simp
/-- Cut short. -/
theorem got_cut (i : It) (hi : i.ok) (s : ByteArray) (a : Nat) (z : UInt8) (ha : a ≤ s.size) (h : s.data.toList.drop a ++ [z] = i.enc) : (gotS i s a 0).2.2 = 3 := by
  have hl := congrArg List.length h
  rw [List.length_append, drop_len] at hl
  simp only [List.length_cons, List.length_nil] at hl
  unfold It.enc at h hl
  unfold gotS
  by_cases k1 : i.kd = 1
  · rw [if_pos k1] at h; rw [if_pos k1]
    have e := numR_cut i.n hi.1 _ _ h.symm (by simp) i.n
    simp only [uintS, if_true, e]
  rw [if_neg k1] at h hl; rw [if_neg k1]
  by_cases k2 : i.kd = 2
  · rw [if_pos k2] at h hl; rw [if_pos k2]
    by_cases hf : i.fit = true
    · rw [if_pos hf, be_length] at hl; rw [if_pos hf]
      obtain ⟨h1, h2⟩ := fit_parts hf
      simp only [fixS, if_true, fixQ, h1, if_neg (show ¬ a + i.k.toNat ≤ s.size by omega)]
    · rw [if_neg hf] at h; simp at h
  rw [if_neg k2] at h hl; rw [if_neg k2]
  by_cases k3 : i.kd = 3
  · rw [if_pos k3] at h hl; rw [if_pos k3]
    have hsz : i.s.size < 18446744073709551616 := by have := hi.2.2.1; omega
    have hn : ¬ (i.s.size : Int) < 0 := by omega
    rw [List.length_append, size_list] at hl
    by_cases hv : (vb i.s.size).length ≤ s.size - a
    · have hd : s.data.toList.drop a = vb i.s.size ++ (s.data.toList.drop a).drop (vb i.s.size).length := by
        have e1 := congrArg (List.take (vb i.s.size).length) h
        rw [List.take_append_of_le_length (by rw [drop_len]; exact hv), List.take_append_of_le_length (Nat.le_refl _), List.take_length] at e1
        have e2 := (List.take_append_drop (vb i.s.size).length (s.data.toList.drop a)).symm
        rw [e1] at e2; exact e2
      have e := numR_vb i.s.size hsz ((s.data.toList.drop a).drop (vb i.s.size).length) i.s.size (Nat.le_refl _)
      rw [← hd] at e
      have w := raw_short s (a + (vb i.s.size).length) i.s.size (by omega)
      simp only [textS, if_true, textQ, if_neg hn, Int.toNat_natCast, e, w]; simp
    · have e1 := congrArg (List.take (s.size - a)) h
      rw [List.take_append_of_le_length (by rw [drop_len]; exact Nat.le_refl _), List.take_of_length_le (by rw [drop_len]; exact Nat.le_refl _), List.take_append_of_le_length (by omega)] at e1
      have e2 := (List.take_append_drop (s.size - a) (vb i.s.size)).symm
      rw [← e1] at e2
      have hne : (vb i.s.size).drop (s.size - a) ≠ [] := by
        intro e; have := congrArg List.length e; rw [List.length_drop] at this; simp at this; omega
      have e := numR_cut i.s.size hsz _ _ e2 hne i.s.size
      simp only [textS, if_true, textQ, if_neg hn, Int.toNat_natCast, e]; simp
  rw [if_neg k3] at h hl; rw [if_neg k3]
  by_cases k5 : i.kd = 5
  · rw [if_pos k5, size_list] at hl; rw [if_pos k5]
    have w := raw_short s a i.s.size (by omega)
    simp only [rawS, if_true, w]
  rw [if_neg k5] at h hl; rw [if_neg k5]
  by_cases k4 : i.kd = 4
  · rw [if_pos k4, be_length] at hl; rw [if_pos k4]
    have hW : isW 64 = true := by decide
    have h8 : (((64 : Int) + 7) / 8).toNat = 8 := by decide
    simp only [bitsS, if_true, bitsQ, hW, h8, if_neg (show ¬ a + 8 ≤ s.size by omega)]
  rw [if_neg k4] at h; simp at h
/-- Dead. -/
theorem got_dead (i : It) (s : ByteArray) (a : Nat) (f : Int) (hf : f ≠ 0) : (gotS i s a f).2.2 = f := by
  unfold gotS
  split
  · simp [uintS, hf]
  · split
    · split
      · simp [fixS, hf]
      · rfl
    · split
      · simp [textS, hf]
      · split
        · simp [rawS, hf]
        · split
          · simp [bitsS, hf]
          · rfl
/-- A list's bytes. -/
def encs (l : List It) : List UInt8 := (l.map It.enc).flatten
theorem encs_drop (l : List It) (i : Nat) (h : i < l.length) : encs (l.drop i) = l[i].enc ++ encs (l.drop (i + 1)) := by
  unfold encs; rw [List.drop_eq_getElem_cons h, List.map_cons, List.flatten_cons]
theorem encs_take (l : List It) (i : Nat) (h : i < l.length) : encs (l.take (i + 1)) = encs (l.take i) ++ l[i].enc := by
  unfold encs; rw [List.take_succ_eq_append_getElem h, List.map_append, List.flatten_append, List.map_cons, List.map_nil, List.flatten_cons, List.flatten_nil, List.append_nil]
/-- A step with the last byte cut off: on, or dead with the end. -/
theorem cut_step (i : It) (hi : i.ok) (s : ByteArray) (a : Nat) (z : UInt8) (R : List UInt8) (ha : a ≤ s.size) (h : s.data.toList.drop a ++ [z] = i.enc ++ R) :
    (gotS i s a 0).2.2 = 3 ∨ ((gotS i s a 0).2.2 = 0 ∧ s.data.toList.drop (gotS i s a 0).2.1 ++ [z] = R) := by
  rcases List.eq_nil_or_concat R with rfl | ⟨R', z', rfl⟩
  · rw [List.append_nil] at h
    exact .inl (got_cut i hi s a z ha h)
  · right
    rw [List.concat_eq_append, ← List.append_assoc] at h
    obtain ⟨h1, h2⟩ := List.append_inj' h rfl
    obtain ⟨_, h3⟩ := got_whole i hi s a R' ha h1
    rw [h3]
    refine ⟨rfl, ?_⟩
    rw [drop_more s a _ _ h1, h2, List.concat_eq_append]
end Go.Proofs.Ytdpddlaedffmdaa
