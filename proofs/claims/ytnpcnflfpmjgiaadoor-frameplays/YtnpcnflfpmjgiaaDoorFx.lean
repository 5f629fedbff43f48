/- A frame's bytes, place by place: what is sealed is opened as it was; what is opened is sealed as these bytes. Plain facts. -/
import Derived.Test.YtnpcnflfpmjgiaaDoorFq
namespace Go.Proofs.YtnpcnflfpmjgiaaDoor
open Go.RowKit
set_option linter.unusedVariables false
set_option linter.unusedSimpArgs false

theorem ext_list (s : ByteArray) (a b : Nat) : (s.extract a b).data.toList = (s.data.toList.drop a).take (b - a) := by
  rw [ByteArray.data_extract, Array.toList_extract, List.extract_eq_take_drop]
theorem list_ext {s t : ByteArray} (h : s.data.toList = t.data.toList) : s = t := ByteArray.ext (Array.ext' h)
theorem app_list (s t : ByteArray) : (s ++ t).data.toList = s.data.toList ++ t.data.toList := by rw [ByteArray.data_append, Array.toList_append]
theorem mid_part {l X Y Z : List UInt8} (e : l = X ++ (Y ++ Z)) {a c : Nat} (ha : X.length = a) (hc : Y.length = c - a) : (l.drop a).take (c - a) = Y := by
  subst ha
  rw [e, List.drop_left, ← hc, List.take_left]
theorem fold_be (n : Nat) : ∀ (k a : Nat), (beL n k).foldl (fun a b => a * 256 + b.toNat) a = a * 256 ^ k + n % 256 ^ k
  | 0, a => by simp [beL, Nat.mod_one]
  | k + 1, a => by
    rw [beL, List.foldl_cons, fold_be n k, ofNat_byte, Nat.pow_succ, Nat.mod_mul, Nat.add_mul]
    rw [Nat.mul_assoc, Nat.mul_comm 256 (256 ^ k), Nat.mul_comm (n / 256 ^ k % 256)]
    omega
theorem numN_be (n k : Nat) (h : n < 256 ^ k) : numN (beL n k) = n := by
  unfold numN
  rw [fold_be, Nat.zero_mul, Nat.zero_add, Nat.mod_eq_of_lt h]
/-- A frame's bytes as a list. -/
def sealL (k n i : Nat) (b : List UInt8) (m : Nat) (u : List UInt8) : List UInt8 := [UInt8.ofNat m] ++ (beL k 1 ++ (beL n 8 ++ (beL i 4 ++ (beL b.length 2 ++ (b ++ (List.replicate (491 - b.length) 0 ++ (u ++ [UInt8.ofNat m])))))))
theorem sealB_list (k n i : Nat) (b : ByteArray) (m : Nat) : (sealB k n i b m).data.toList = sealL k n i b.data.toList m (le4 (sumN (midB k n i b))) := by
  unfold sealB midB sealL
  simp only [app_list, List.append_assoc]
  rfl
theorem midB_list (k n i : Nat) (b : ByteArray) : (midB k n i b).data.toList = beL k 1 ++ (beL n 8 ++ (beL i 4 ++ (beL b.data.toList.length 2 ++ (b.data.toList ++ List.replicate (491 - b.data.toList.length) 0)))) := by
  unfold midB
  simp only [app_list, List.append_assoc]
  rfl
theorem le4_length (y : Nat) : (le4 y).length = 4 := rfl
section
variable {s : ByteArray} {k n i m : Nat} {b : List UInt8} {u : List UInt8}
theorem at_first (h : s.data.toList = sealL k n i b m u) : at8 s 0 = UInt8.ofNat m := by
  unfold at8; rw [h]; rfl
theorem at_last (h : s.data.toList = sealL k n i b m u) (hb : b.length ≤ 491) (hu : u.length = 4) : at8 s 511 = UInt8.ofNat m := by
  unfold at8
  rw [h, List.getD_eq_getElem?_getD]
  have e : sealL k n i b m u = ([UInt8.ofNat m] ++ beL k 1 ++ beL n 8 ++ beL i 4 ++ beL b.length 2 ++ b ++ List.replicate (491 - b.length) 0 ++ u) ++ [UInt8.ofNat m] := by unfold sealL; simp only [List.append_assoc]
  have key : ∀ X : List UInt8, X.length = 511 → ((X ++ [UInt8.ofNat m])[511]?).getD 0 = UInt8.ofNat m := by
    intro X hX
    rw [List.getElem?_append_right (by omega), hX]; rfl
  rw [e]
  exact key _ (by simp [beL_length, hu]; omega)
theorem part_sum (h : s.data.toList = sealL k n i b m u) (hb : b.length ≤ 491) (hu : u.length = 4) : (s.extract 507 511).data.toList = u := by
  rw [ext_list, h]
  exact mid_part (X := [UInt8.ofNat m] ++ beL k 1 ++ beL n 8 ++ beL i 4 ++ beL b.length 2 ++ b ++ List.replicate (491 - b.length) 0) (Z := [UInt8.ofNat m]) (by unfold sealL; simp only [List.append_assoc]) (by simp [beL_length]; omega) (by omega)
theorem part_mid (h : s.data.toList = sealL k n i b m u) (hb : b.length ≤ 491) : (s.extract 1 507).data.toList = beL k 1 ++ (beL n 8 ++ (beL i 4 ++ (beL b.length 2 ++ (b ++ List.replicate (491 - b.length) 0)))) := by
  rw [ext_list, h]
  exact mid_part (X := [UInt8.ofNat m]) (Z := u ++ [UInt8.ofNat m]) (by unfold sealL; simp only [List.append_assoc]) rfl (by simp [beL_length]; omega)
theorem part_kind (h : s.data.toList = sealL k n i b m u) (hk : k < 256) : numA s 1 2 = k := by
  unfold numA
  have e : (s.extract 1 2).data.toList = beL k 1 := by
    rw [ext_list, h]
    exact mid_part (X := [UInt8.ofNat m]) (Z := beL n 8 ++ (beL i 4 ++ (beL b.length 2 ++ (b ++ (List.replicate (491 - b.length) 0 ++ (u ++ [UInt8.ofNat m])))))) rfl rfl (by simp [beL_length])
  rw [e]
  exact numN_be k 1 (by simpa using hk)
theorem part_num (h : s.data.toList = sealL k n i b m u) (hn : n < 18446744073709551616) : numA s 2 10 = n := by
  unfold numA
  rw [ext_list, h, mid_part (X := [UInt8.ofNat m] ++ beL k 1) (Y := beL n 8) (Z := beL i 4 ++ (beL b.length 2 ++ (b ++ (List.replicate (491 - b.length) 0 ++ (u ++ [UInt8.ofNat m]))))) (by unfold sealL; simp only [List.append_assoc]) (by simp [beL_length]) (by simp [beL_length])]
  exact numN_be n 8 hn
theorem part_index (h : s.data.toList = sealL k n i b m u) (hi : i < 4294967296) : numA s 10 14 = i := by
  unfold numA
  rw [ext_list, h, mid_part (X := [UInt8.ofNat m] ++ beL k 1 ++ beL n 8) (Y := beL i 4) (Z := beL b.length 2 ++ (b ++ (List.replicate (491 - b.length) 0 ++ (u ++ [UInt8.ofNat m])))) (by unfold sealL; simp only [List.append_assoc]) (by simp [beL_length]) (by simp [beL_length])]
  exact numN_be i 4 hi
theorem part_length (h : s.data.toList = sealL k n i b m u) (hb : b.length ≤ 491) : numA s 14 16 = b.length := by
  unfold numA
  rw [ext_list, h, mid_part (X := [UInt8.ofNat m] ++ beL k 1 ++ beL n 8 ++ beL i 4) (Y := beL b.length 2) (Z := b ++ (List.replicate (491 - b.length) 0 ++ (u ++ [UInt8.ofNat m]))) (by unfold sealL; simp only [List.append_assoc]) (by simp [beL_length]) (by simp [beL_length])]
  exact numN_be _ 2 (Nat.lt_of_le_of_lt hb (by decide))
theorem part_body (h : s.data.toList = sealL k n i b m u) : (s.extract 16 (16 + b.length)).data.toList = b := by
  rw [ext_list, h]
  exact mid_part (X := [UInt8.ofNat m] ++ beL k 1 ++ beL n 8 ++ beL i 4 ++ beL b.length 2) (Z := List.replicate (491 - b.length) 0 ++ (u ++ [UInt8.ofNat m])) (by unfold sealL; simp only [List.append_assoc]) (by simp [beL_length]) (by omega)
theorem part_rest (h : s.data.toList = sealL k n i b m u) (hb : b.length ≤ 491) : (s.extract (16 + b.length) 507).data.toList = List.replicate (491 - b.length) 0 := by
  rw [ext_list, h]
  exact mid_part (X := [UInt8.ofNat m] ++ beL k 1 ++ beL n 8 ++ beL i 4 ++ beL b.length 2 ++ b) (Z := u ++ [UInt8.ofNat m]) (by unfold sealL; simp only [List.append_assoc]) (by simp [beL_length]; omega) (by simp; omega)
end
/-- What is sealed is opened as it was. -/
theorem open_seal (k n i : Nat) (b : ByteArray) (m : Nat) (k1 : 1 ≤ k) (k2 : k < 256) (hn : n < 18446744073709551616) (hi : i ≤ 2147483647) (hb : b.size ≤ 491) :
    openE (sealB k n i b m) = 0 ∧ openF (sealB k n i b m) = ⟨k, n, i, b⟩ ∧ at8 (sealB k n i b m) 0 = UInt8.ofNat m ∧ at8 (sealB k n i b m) 511 = UInt8.ofNat m := by
  have h := sealB_list k n i b m
  have hl : b.data.toList.length ≤ 491 := hb
  have hu := le4_length (sumN (midB k n i b))
  have hz := sealB_size k n i b m hb
  have e1 := at_first h
  have e2 := at_last h hl hu
  have e3 : (sealB k n i b m).extract 507 511 = sumB ((sealB k n i b m).extract 1 507) := by
    have a1 : (sealB k n i b m).extract 1 507 = midB k n i b := list_ext ((part_mid h hl).trans (midB_list k n i b).symm)
    rw [a1]
    exact list_ext (part_sum h hl hu)
  have e4 := part_kind h k2
  have e5 := part_index h (by omega)
  have e6 := part_length h hl
  have e7 := part_num h hn
  have e8 : (sealB k n i b m).extract 16 (16 + b.data.toList.length) = b := list_ext (part_body h)
  have e9 : (sealB k n i b m).extract (16 + b.data.toList.length) 507 = zerosB (491 - b.data.toList.length) := list_ext (part_rest h hl)
  refine ⟨?_, ?_, e1, e2⟩
  · unfold openE
    rw [if_neg (by omega), if_neg (by rw [e1, e2]; simp), if_neg (by rw [e3]; simp), if_neg (by rw [e4, e5, e6]; omega), if_neg (by rw [e6, e9]; simp)]
  · unfold openF
    rw [e4, e5, e6, e7, e8]
theorem open_sealR {f : Fr} (hw : wrong f = 0) (hn : f.num < 18446744073709551616) (m : Nat) (hm : m < 256) :
    openE (sealB f.kind.toNat f.num f.idx.toNat f.body m) = 0 ∧ openR (sealB f.kind.toNat f.num f.idx.toNat f.body m) = f ∧ openM (sealB f.kind.toNat f.num f.idx.toNat f.body m) = m ∧ (at8 (sealB f.kind.toNat f.num f.idx.toNat f.body m) 511).toNat = m := by
  obtain ⟨k, i, hk, hi, k1, k2, i1, hz⟩ := right_of hw
  obtain ⟨fk, fn, fi, fb⟩ := f
  simp only at *
  subst hk hi
  rw [Int.toNat_natCast, Int.toNat_natCast]
  obtain ⟨h1, h2, h3, h4⟩ := open_seal k fn i fb m k1 k2 hn i1 hz
  refine ⟨h1, ?_, ?_, ?_⟩
  · unfold openR; rw [if_pos h1, h2]
  · unfold openM; rw [if_pos h1, h3]; simp; omega
  · rw [h4]; simp; omega
/-- Bytes that say a number are that number's. -/
theorem beL_numN (l : List UInt8) : beL (numN l) l.length = l := by
  have key : ∀ (l : List UInt8) (a : Nat), beL (l.foldl (fun a b => a * 256 + b.toNat) a) l.length = l ∧ l.foldl (fun a b => a * 256 + b.toNat) a / 256 ^ l.length = a := by
    intro l
    induction l with
    | nil => intro a; exact ⟨rfl, by simp⟩
    | cons b l ih =>
      intro a
      obtain ⟨h1, h2⟩ := ih (a * 256 + b.toNat)
      have hb := b.toNat_lt
      rw [List.foldl_cons, List.length_cons, beL, h1, h2]
      refine ⟨?_, ?_⟩
      · rw [show (a * 256 + b.toNat) % 256 = b.toNat by omega]; simp
      · rw [Nat.pow_succ, ← Nat.div_div_eq_div_mul, h2]; omega
  exact (key l 0).1
theorem beL_numA (s : ByteArray) (a c : Nat) (hs : s.size = 512) (h1 : a ≤ c) (h2 : c ≤ 512) : beL (numA s a c) (c - a) = (s.data.toList.drop a).take (c - a) := by
  unfold numA
  have h := beL_numN (s.extract a c).data.toList
  rw [ext_list] at h ⊢
  have hl : ((s.data.toList.drop a).take (c - a)).length = c - a := by
    rw [List.length_take, List.length_drop, show s.data.toList.length = s.size from rfl]; omega
  rw [hl] at h
  exact h
theorem cut_in {l : List UInt8} {a c : Nat} (h : a ≤ c) : l.drop a = (l.drop a).take (c - a) ++ l.drop c := by
  conv => lhs; rw [← List.take_append_drop (c - a) (l.drop a)]
  rw [List.drop_drop, show a + (c - a) = c by omega]
/-- What is opened is sealed as these bytes. -/
theorem seal_open (s : ByteArray) (h : openE s = 0) : sealB (numA s 1 2) (numA s 2 10) (numA s 10 14) (s.extract 16 (16 + numA s 14 16)) (at8 s 0).toNat = s := by
  obtain ⟨hs, h1, h2, ⟨h3, h4, h5⟩, h6⟩ := opened_facts h
  have hl : s.data.toList.length = 512 := hs
  have hbl : (s.extract 16 (16 + numA s 14 16)).data.toList.length = numA s 14 16 := by
    rw [ext_list, List.length_take, List.length_drop, hl]; omega
  have hM : midB (numA s 1 2) (numA s 2 10) (numA s 10 14) (s.extract 16 (16 + numA s 14 16)) = s.extract 1 507 := by
    apply list_ext
    rw [midB_list, hbl, ext_list s 1 507, ext_list s 16, show 16 + numA s 14 16 - 16 = numA s 14 16 by omega]
    have b1 := beL_numA s 1 2 hs (by omega) (by omega)
    have b2 := beL_numA s 2 10 hs (by omega) (by omega)
    have b3 := beL_numA s 10 14 hs (by omega) (by omega)
    have b4 := beL_numA s 14 16 hs (by omega) (by omega)
    have b6 : List.replicate (491 - numA s 14 16) 0 = (s.data.toList.drop (16 + numA s 14 16)).take (507 - (16 + numA s 14 16)) := by
      have := congrArg (fun t : ByteArray => t.data.toList) h6
      simp only [ext_list] at this
      rw [this]; rfl
    rw [show (2 : Nat) - 1 = 1 from rfl] at b1
    rw [show (10 : Nat) - 2 = 8 from rfl] at b2
    rw [show (14 : Nat) - 10 = 4 from rfl] at b3
    rw [show (16 : Nat) - 14 = 2 from rfl] at b4
    rw [b1, b2, b3, b4, b6]
    generalize numA s 14 16 = L at *
    generalize s.data.toList = l at *
    have c0 : (l.drop 1).take (507 - 1) = (l.take 507).drop 1 := by rw [List.drop_take]
    rw [c0]
    have q : ∀ a c : Nat, a ≤ c → c ≤ 507 → (l.take 507).drop a = (l.drop a).take (c - a) ++ (l.take 507).drop c := by
      intro a c hac hc
      rw [cut_in (l := l.take 507) hac]
      congr 1
      rw [List.drop_take, List.take_take, Nat.min_eq_left (by omega)]
    rw [q 1 2 (by omega) (by omega), q 2 10 (by omega) (by omega), q 10 14 (by omega) (by omega), q 14 16 (by omega) (by omega), q 16 (16 + L) (by omega) (by omega), q (16 + L) 507 (by omega) (by omega)]
    rw [show 16 + L - 16 = L by omega]
    rw [show (l.take 507).drop 507 = [] from List.drop_eq_nil_of_le (by rw [List.length_take]; omega), List.append_nil]
  unfold sealB
  rw [hM, ← h2]
  apply list_ext
  simp only [app_list, ext_list]
  have m0 : (markB (at8 s 0).toNat).data.toList = [at8 s 0] := by unfold markB; simp
  rw [m0]
  have x0 : [at8 s 0] = s.data.toList.take 1 := by
    unfold at8
    cases e : s.data.toList with
    | nil => rw [e] at hl; cases hl
    | cons x l => rfl
  have x1 : [at8 s 511] = s.data.toList.drop 511 := by
    unfold at8
    rw [List.drop_eq_getElem_cons (by omega), List.drop_eq_nil_of_le (by omega), List.getD_eq_getElem?_getD, List.getElem?_eq_getElem (by omega)]
    rfl
  have fin : s.data.toList.take 1 ++ (s.data.toList.drop 1).take (507 - 1) ++ (s.data.toList.drop 507).take (511 - 507) ++ s.data.toList.drop 511 = s.data.toList := by
    rw [List.append_assoc, List.append_assoc, ← cut_in (by omega), ← cut_in (by omega), List.take_append_drop]
  rw [← x0, ← x1, ← h1] at fin
  exact fin
end Go.Proofs.YtnpcnflfpmjgiaaDoor
