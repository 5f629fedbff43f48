/- Package frame's inner calls: a number's bytes, the number that bytes say, a sum's bytes, need, refusal: what each answers. -/
import Derived.Test.YtnpcnflfpmjgiaaDoorCe
import Derived.Test.YtnpcnflfpmjgiaaDoorSu
import Derived.Laws.IdiomStrings
namespace Go.Proofs.YtnpcnflfpmjgiaaDoor
open Go.RowKit
set_option linter.unusedVariables false
set_option linter.unusedSimpArgs false

/-- A number in k bytes, the highest first. -/
def beL (n : Nat) : Nat → List UInt8
  | 0 => []
  | k + 1 => UInt8.ofNat (n / 256 ^ k % 256) :: beL n k
theorem beL_length (n : Nat) : ∀ k, (beL n k).length = k
  | 0 => rfl
  | k + 1 => by simp [beL, beL_length n k]
def beB (n k : Nat) : ByteArray := ⟨(beL n k).toArray⟩
theorem beB_size (n k : Nat) : (beB n k).size = k := by simp [beB, ByteArray.size, beL_length]
def u8v (b : UInt8) : Value := .int .u8 (b.toNat : Int)
def u8s (l : List UInt8) : List Value := l.map u8v
theorem u8s_length (l : List UInt8) : (u8s l).length = l.length := by simp [u8s]
/-- The row of bytes while it is filled from its end. -/
def upL (n k i : Nat) : List UInt8 := List.replicate (k - i) 0 ++ beL n i
theorem upL_length (n k i : Nat) (h : i ≤ k) : (upL n k i).length = k := by simp [upL, beL_length]; omega
theorem upL_set (n k i : Nat) (h : i < k) : (u8s (upL n k i)).set (k - 1 - i) (u8v (UInt8.ofNat (n / 256 ^ i % 256))) = u8s (upL n k (i + 1)) := by
  unfold u8s upL
  rw [show k - i = (k - 1 - i) + 1 by omega, show k - (i + 1) = k - 1 - i by omega, List.replicate_succ', List.map_append, List.map_append, List.map_append, List.append_assoc, List.set_append_right _ _ (by simp)]
  simp [beL]
theorem addr_at (g t : Nat) : (⟨g, 0, none⟩ : Addr).add t = ⟨g, t, none⟩ := by unfold Addr.add; split <;> simp_all
theorem conv_row {w : World} {B g c : Nat} {l : List UInt8} (h : w.ownsRow B 5 1 (.slice (some ⟨g, 0, none⟩) l.length c) l.length (u8s l)) : (convert 58 9 (.slice (some ⟨g, 0, none⟩) l.length c)).run Tryd.prog w = .ok (.string ⟨l.toArray⟩) w := by
  exact run_convert_bytes_back (P := Tryd.prog) w 58 9 5 ⟨g, 0, none⟩ c l Tryd.underlying58 Tryd.underlying5 Tryd.underlying9 (fun t ht => by
    rw [addr_at, h.cellAt t (by omega), u8s, List.getElem?_map, List.getElem?_eq_getElem ht]
    rfl)
theorem info5f : (Tryd.prog.info? 5).map (fun i => (i.zero, i.size, i.bytes)) = some (some (.int .u8 0), 1, 1) := by kernel_rfl
theorem made0 (k : Nat) : (madeCells #[Value.int .u8 0] k).toList = u8s (List.replicate k 0) := by
  rw [toList_madeCells_one]; simp [u8s, u8v]

set_option maxHeartbeats 1000000 in
set_option maxRecDepth 100000 in
theorem numb_any (n k : Nat) (hn : n < 18446744073709551616) (hk1 : 1 ≤ k) (hk8 : k ≤ 8) (w : World) : Calls Tryd.prog 67 #[.int .u64 n, .int .i64 k] w fun e w' => e = .returned (.string (beB n k)) ∧ Below w.heap.size w w' := by
  obtain ⟨i5, hi5, hz50, hz51, hz53⟩ := info_parts info5f
  go_enter Tryd.func67, Tryd.ntmps67
  go_wp2_with (at_make; refine wpList_make_full _ rfl _ _ 58 rfl w.heap.size 5 i5 (.int .u8 0) 1 Tryd.underlying58 hi5 hz50 hz51 _ _ _ _ k rfl rfl rfl rfl ?c1 ?c2 ?c3 ?_)
  case c1 => rw [hz53]; omega
  case c2 => unfold maxLen; omega
  case c3 => omega
  intro wm hown hgrow
  have HR : Hid (wm.ownsRow w.heap.size 5 1 (.slice (some ⟨w.heap.size, 0, none⟩) k k) k (u8s (upL n k 0))) := by
    have e : (madeCells #[Value.int .u8 0] k).toList = u8s (upL n k 0) := by rw [made0]; simp [upL, beL]
    rw [← e]; exact hown
  have hbm : Hid (Below w.heap.size w wm) := (Below.refl _ _).grown hgrow (Nat.le_refl _) (fun _ h => by cases h)
  clear hown hgrow
  go_wp2
  go_loopw [11] (fun t w4 => ∃ i : Nat, i ≤ k ∧ t = .int .i64 i ∧ w4.ownsRow w.heap.size 5 1 (.slice (some ⟨w.heap.size, 0, none⟩) k k) k (u8s (upL n k i)) ∧ Below w.heap.size w w4) (fun t _ => k - (intOf t).toNat)
  case atStart => exact ⟨0, Nat.zero_le _, rfl, HR.out, hbm.out⟩
  case round =>
    obtain ⟨i, hi, rfl, hR, hB⟩ := hrel
    by_cases hlt : i < k
    · have hlt' : (i : Int) < (k : Int) := by omega
      have hl : k - 1 - i < (u8s (upL n k i)).length := by rw [u8s_length, upL_length _ _ _ hi]; omega
      have hc : ∃ v, wr.cell? ⟨w.heap.size, k - 1 - i, none⟩ = some v := ⟨_, (hR.cellAt (k - 1 - i) (by omega)).trans (List.getElem?_eq_getElem hl)⟩
      obtain ⟨v, hc⟩ := hc
      have hf := hR.frozenAt (k - 1 - i)
      have hv : (n : Int) / 2 ^ (8 * i) % 256 = ((UInt8.ofNat (n / 256 ^ i % 256)).toNat : Int) := by
        rw [ofNat_byte, show (256 : Nat) ^ i = 2 ^ (8 * i) by rw [Nat.pow_mul]]
        push_cast; rfl
      have hend : Hid (∀ q : Int, q = ((UInt8.ofNat (n / 256 ^ i % 256)).toNat : Int) → (wr.setCell ⟨w.heap.size, k - 1 - i, none⟩ (.int .u8 q)).ownsRow w.heap.size 5 1 (.slice (some ⟨w.heap.size, 0, none⟩) k k) k (u8s (upL n k (i + 1))) ∧ Below w.heap.size w (wr.setCell ⟨w.heap.size, k - 1 - i, none⟩ (.int .u8 q))) := by
        show ∀ q : Int, _
        rintro q rfl
        have := (hR.stored (k - 1 - i) (u8v (UInt8.ofNat (n / 256 ^ i % 256)))).1
        rw [upL_set n k i hlt] at this
        exact ⟨this, hB.setCell (Nat.le_refl _) _⟩
      have HV : Hid ((n : Int) / 2 ^ (8 * i) % 256 = ((UInt8.ofNat (n / 256 ^ i % 256)).toNat : Int)) := hv
      clear hv hR hB HR hbm hl
      go_wp2_with fail
      exact ⟨⟨i + 1, by omega, by go_num, hend.out _ HV.out⟩, by simp [intOf]; omega⟩
    · obtain rfl : i = k := by omega
      have hlt' : ¬ (i : Int) < (i : Int) := by omega
      have hcv : (convert 58 9 (.slice (some ⟨w.heap.size, 0, none⟩) i i)).run Tryd.prog wr = .ok (.string (beB n i)) wr := by
        have e : upL n i i = beL n i := by simp [upL]
        rw [e] at hR
        have hl := beL_length n i
        have := conv_row (l := beL n i) (c := i) (by rw [hl]; exact hR)
        rw [hl] at this
        exact this
      clear hR HR hbm
      go_wp2
      go_ret
      exact ⟨rfl, hB⟩
/-- The number that bytes say, the highest first. -/
def numN (l : List UInt8) : Nat := l.foldl (fun a b => a * 256 + b.toNat) 0
theorem numN_snoc (l : List UInt8) (b : UInt8) : numN (l ++ [b]) = numN l * 256 + b.toNat := by simp [numN]
theorem numN_lt (l : List UInt8) : numN l < 256 ^ l.length := by
  have key : ∀ (l : List UInt8) (a : Nat), l.foldl (fun a b => a * 256 + b.toNat) a < (a + 1) * 256 ^ l.length := by
    intro l
    induction l with
    | nil => intro a; simp
    | cons b l ih =>
      intro a
      have h := ih (a * 256 + b.toNat)
      have hb := b.toNat_lt
      rw [List.foldl_cons, List.length_cons, Nat.pow_succ, Nat.mul_comm (256 ^ l.length) 256, ← Nat.mul_assoc]
      exact Nat.lt_of_lt_of_le h (Nat.mul_le_mul_right _ (by omega))
  have := key l 0
  rw [Nat.zero_add, Nat.one_mul] at this
  exact this
theorem or_low8 (a b : Nat) (ha : a * 256 < 18446744073709551616) (hb : b < 256) : bits .or .u64 ((a : Int) * 256) (b : Int) = ((a * 256 + b : Nat) : Int) := by
  have := u64_or_nat (a * 256) b ha (by omega)
  rw [show ((a * 256 : Nat) : Int) = (a : Int) * 256 by omega] at this
  rw [this]
  congr 1
  have h2 := Nat.two_pow_add_eq_or_of_lt (i := 8) (b := b) (by omega) a
  rw [show (2 : Nat) ^ 8 = 256 from rfl, Nat.mul_comm] at h2
  exact h2.symm
set_option maxHeartbeats 1000000 in
theorem numin_any (s : ByteArray) (hs : s.size ≤ 8) (w : World) : Calls Tryd.prog 72 #[.string s] w fun e w' => e = .returned (.int .u64 (numN s.data.toList)) ∧ w' = w := by
  go_enter Tryd.func72, Tryd.ntmps72
  go_wp2
  go_loopw [3, 7] (fun a i wr => ∃ p r : Nat, a = .int .u64 r ∧ i = .int .i64 p ∧ p ≤ s.size ∧ r = numN (s.data.toList.take p) ∧ wr = w) (fun _ i _ => (s.size - intOf i).toNat)
  case atStart => exact ⟨0, 0, rfl, rfl, by omega, rfl, rfl⟩
  case round =>
    obtain ⟨p, r, rfl, rfl, hp, hr, rfl⟩ := hrel
    by_cases h : p < s.size
    · have hb := (s[p]).toNat_lt
      have hl : r < 256 ^ p := by
        have := numN_lt (s.data.toList.take p)
        rw [List.length_take, Nat.min_eq_left (by simp; omega)] at this
        rw [hr]; exact this
      have hl7 : r * 256 < 18446744073709551616 := by
        have h7 : 256 ^ p ≤ 256 ^ 7 := Nat.pow_le_pow_right (by decide) (by omega)
        rw [show (256 : Nat) ^ 7 = 72057594037927936 from rfl] at h7
        omega
      have E := or_low8 r (s[p]).toNat hl7 hb
      have W : IntKind.u64.wrap ((r : Int) * 256) = (r : Int) * 256 := by rw [IntKind.wrap_u64]; omega
      have HR : Hid (r * 256 + (s[p]).toNat = numN (s.data.toList.take (p + 1))) := by
        show _ = _
        rw [List.take_succ_eq_append_getElem (by simpa using h), numN_snoc, hr]; rfl
      clear hr hl hl7
      go_wp2_with fail
      exact ⟨⟨p + 1, r * 256 + (s[p]).toNat, rfl, rfl, by omega, HR.out, trivial⟩, by simp only [intOf]; omega⟩
    · have e2 : s.data.toList.take p = s.data.toList := List.take_of_length_le (by simp; omega)
      rw [e2] at hr
      subst hr
      go_wp2
      go_ret
      exact ⟨rfl, rfl⟩
/-- What an opening gives up with. -/
def pe (f : Int) : PanicEntry := { v := .iface 26 (.int .i64 f), recovered := false }
theorem need_yes (f : Int) (w : World) : Calls Tryd.prog 71 #[.bool true, .int .i64 f] w fun e w' => e = .returned (.tuple #[]) ∧ w' = w := by
  go_enter Tryd.func71, Tryd.ntmps71
  go_wp2
  first | go_end0 | refine bodyPost_ret (results_none rfl _ _ _) rfl ?_
  all_goals exact ⟨rfl, rfl⟩
theorem need_no (f : Int) (w : World) : Calls Tryd.prog 71 #[.bool false, .int .i64 f] w fun e w' => e = .panicked [pe f] ∧ w' = w := by
  go_enter Tryd.func71, Tryd.ntmps71
  go_wp2
  exact ⟨rfl, rfl, rfl⟩
/-- A sum's bytes while they are laid, the lowest first. -/
def leL (n : Nat) (i : Nat) : List UInt8 := (le4 n).take i ++ List.replicate (4 - i) 0
theorem leL_set (n i : Nat) (h : i < 4) : (u8s (leL n i)).set i (u8v (UInt8.ofNat (n / 256 ^ i % 256))) = u8s (leL n (i + 1)) := by
  match i, h with
  | 0, _ => simp [leL, le4, u8s]
  | 1, _ => simp [leL, le4, u8s]
  | 2, _ => simp [leL, le4, u8s]
  | 3, _ => simp [leL, le4, u8s]
theorem leL_length (n i : Nat) (h : i ≤ 4) : (leL n i).length = 4 := by simp [leL, le4]; omega
/-- A text's sum. -/
def sumN (s : ByteArray) : Nat := moreC 0 s.data.toList
def sumB (s : ByteArray) : ByteArray := ⟨(le4 (sumN s)).toArray⟩
theorem sumB_size (s : ByteArray) : (sumB s).size = 4 := by simp [sumB, ByteArray.size, le4]
set_option maxHeartbeats 1000000 in
set_option maxRecDepth 100000 in
theorem sumof_any (s : ByteArray) (hs : s.size ≤ 9223372036854775807) (w : World) (hT : Tab w) : Calls Tryd.prog 69 #[.string s] w fun e w' => e = .returned (.string (sumB s)) ∧ Below w.heap.size w w' := by
  obtain ⟨i5, hi5, hz50, hz51, hz53⟩ := info_parts info5f
  have hb1 : Below w.heap.size w (w.alloc (.cells #[.string s] 9)) := (Below.refl _ _).alloc (Nat.le_refl _) _
  have CS : Hid (Calls Tryd.prog 85 #[.slice (some ⟨w.heap.size, 0, none⟩) 1 1] (w.alloc (.cells #[.string s] 9)) fun e w' => e = .returned (.int .u32 (sumN s)) ∧ w' = w.alloc (.cells #[.string s] 9)) :=
    sum_any w.heap.size 0 1 [s] (by simp) (by simp; exact hs) _ (hT.below hb1) (fun i hi => by
      have : i = 0 := by simpa using hi
      subst this; simp)
  have hlt : sumN s < 4294967296 := moreC_lt _ _
  have HSB : Hid (sumB s = ⟨(le4 (sumN s)).toArray⟩) := by show _ = _; rfl
  generalize sumN s = n at *
  generalize sumB s = sb at *
  go_enter Tryd.func69, Tryd.ntmps69
  go_wp2_with fail
  refine CS.out.mono ?_
  rintro e w1 ⟨rfl, rfl⟩
  generalize w.alloc (.cells #[.string s] 9) = W at *
  have hz1 : w.heap.size ≤ W.heap.size := hb1.size
  go_wp2_with (at_make; refine wpList_make_full _ rfl _ _ 58 rfl W.heap.size 5 i5 (.int .u8 0) 1 Tryd.underlying58 hi5 hz50 hz51 _ _ _ _ 4 rfl rfl rfl rfl ?c1 ?c2 ?c3 ?_)
  case c1 => rw [hz53]; omega
  case c2 => unfold maxLen; omega
  case c3 => omega
  intro wm hown hgrow
  have HR : Hid (wm.ownsRow W.heap.size 5 1 (.slice (some ⟨W.heap.size, 0, none⟩) 4 4) 4 (u8s (leL n 0))) := by
    have e : (madeCells #[Value.int .u8 0] 4).toList = u8s (leL n 0) := by rw [made0]; simp [leL]
    rw [← e]; exact hown
  have hbm : Hid (Below w.heap.size w wm) := hb1.grown hgrow hz1 (fun _ h => by cases h)
  clear hown hgrow CS
  go_wp2
  go_loopw [12] (fun t w4 => ∃ i : Nat, i ≤ 4 ∧ t = .int .i64 i ∧ w4.ownsRow W.heap.size 5 1 (.slice (some ⟨W.heap.size, 0, none⟩) 4 4) 4 (u8s (leL n i)) ∧ Below w.heap.size w w4) (fun t _ => 4 - (intOf t).toNat)
  case atStart => exact ⟨0, Nat.zero_le _, rfl, HR.out, hbm.out⟩
  case round =>
    obtain ⟨i, hi, rfl, hR, hB⟩ := hrel
    by_cases hlt' : i < 4
    · have hlt'' : (i : Int) < 4 := by omega
      have hl : i < (u8s (leL n i)).length := by rw [u8s_length, leL_length _ _ hi]; omega
      have hc : ∃ v, wr.cell? ⟨W.heap.size, i, none⟩ = some v := ⟨_, (hR.cellAt i (by omega)).trans (List.getElem?_eq_getElem hl)⟩
      obtain ⟨v, hc⟩ := hc
      have hf := hR.frozenAt i
      have HV : Hid ((n : Int) / 2 ^ (8 * i) % 256 = ((UInt8.ofNat (n / 256 ^ i % 256)).toNat : Int)) := by
        show _ = _
        rw [ofNat_byte, show (256 : Nat) ^ i = 2 ^ (8 * i) by rw [Nat.pow_mul]]
        push_cast; rfl
      have hend : Hid (∀ q : Int, q = ((UInt8.ofNat (n / 256 ^ i % 256)).toNat : Int) → (wr.setCell ⟨W.heap.size, i, none⟩ (.int .u8 q)).ownsRow W.heap.size 5 1 (.slice (some ⟨W.heap.size, 0, none⟩) 4 4) 4 (u8s (leL n (i + 1))) ∧ Below w.heap.size w (wr.setCell ⟨W.heap.size, i, none⟩ (.int .u8 q))) := by
        show ∀ q : Int, _
        rintro q rfl
        have := (hR.stored i (u8v (UInt8.ofNat (n / 256 ^ i % 256)))).1
        rw [leL_set n i hlt'] at this
        exact ⟨this, hB.setCell hz1 _⟩
      clear hR hB HR hbm hl
      go_wp2_with fail
      exact ⟨⟨i + 1, by omega, by go_num, hend.out _ HV.out⟩, by simp [intOf]; omega⟩
    · obtain rfl : i = 4 := by omega
      have hcv : (convert 58 9 (.slice (some ⟨W.heap.size, 0, none⟩) 4 4)).run Tryd.prog wr = .ok (.string sb) wr := by
        have e : leL n 4 = le4 n := by simp [leL, le4]
        rw [e] at hR
        rw [HSB.out]
        exact conv_row (l := le4 n) (c := 4) hR
      clear hR HR hbm
      go_wp2
      go_ret
      exact ⟨rfl, hB⟩
/-- A frame: its kind, number, index, body. -/
structure Fr where
  kind : Int
  num : Nat
  idx : Int
  body : ByteArray
/-- What is wrong with a frame. -/
def wrong (f : Fr) : Int := if f.kind < 1 ∨ 255 < f.kind ∨ f.idx < 0 ∨ 2147483647 < f.idx then 1 else if 491 < f.body.size then 2 else 0
def frV (f : Fr) : Value := .agg #[.int .i64 f.kind, .int .u64 f.num, .int .i64 f.idx, .string f.body]
def frC (f : Fr) : Array Value := #[.int .i64 f.kind, .int .u64 f.num, .int .i64 f.idx, .string f.body]
theorem refusal_any (f : Fr) (w : World) : Calls Tryd.prog 36 #[frV f] w fun e w' => e = .returned (.int .i64 (wrong f)) ∧ Below w.heap.size w w' := by
  obtain ⟨k, n, i, b⟩ := f
  unfold frV
  have hb : Below w.heap.size w (w.alloc (.cells #[.int .i64 k, .int .u64 n, .int .i64 i, .string b] 24)) := (Below.refl _ _).alloc (Nat.le_refl _) _
  by_cases h1 : k < 1
  · rw [show wrong ⟨k, n, i, b⟩ = 1 by unfold wrong; rw [if_pos (.inl h1)]]
    go_enter Tryd.func36, Tryd.ntmps36
    go_wp2
    go_ret
    exact ⟨rfl, hb⟩
  · by_cases h2 : 255 < k
    · rw [show wrong ⟨k, n, i, b⟩ = 1 by unfold wrong; rw [if_pos (.inr (.inl h2))]]
      go_enter Tryd.func36, Tryd.ntmps36
      go_wp2
      go_ret
      exact ⟨rfl, hb⟩
    · by_cases h3 : i < 0
      · rw [show wrong ⟨k, n, i, b⟩ = 1 by unfold wrong; rw [if_pos (.inr (.inr (.inl h3)))]]
        go_enter Tryd.func36, Tryd.ntmps36
        go_wp2
        go_ret
        exact ⟨rfl, hb⟩
      · by_cases h4 : 2147483647 < i
        · rw [show wrong ⟨k, n, i, b⟩ = 1 by unfold wrong; rw [if_pos (.inr (.inr (.inr h4)))]]
          go_enter Tryd.func36, Tryd.ntmps36
          go_wp2
          go_ret
          exact ⟨rfl, hb⟩
        · have hn : ¬ (k < 1 ∨ 255 < k ∨ i < 0 ∨ 2147483647 < i) := by omega
          by_cases h5 : 491 < b.size
          · rw [show wrong ⟨k, n, i, b⟩ = 2 by unfold wrong; rw [if_neg hn, if_pos h5]]
            have h5' : (491 : Int) < (b.size : Int) := by omega
            go_enter Tryd.func36, Tryd.ntmps36
            go_wp2
            go_ret
            exact ⟨rfl, hb⟩
          · rw [show wrong ⟨k, n, i, b⟩ = 0 by unfold wrong; rw [if_neg hn, if_neg h5]]
            have h5' : ¬ (491 : Int) < (b.size : Int) := by omega
            go_enter Tryd.func36, Tryd.ntmps36
            go_wp2
            go_ret
            exact ⟨rfl, hb⟩
end Go.Proofs.YtnpcnflfpmjgiaaDoor
