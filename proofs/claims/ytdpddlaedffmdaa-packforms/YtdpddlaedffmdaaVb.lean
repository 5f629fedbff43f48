/- The bytes of a number, seven bits a byte: package pack's bytesOf: what it answers. -/
import Derived.Test.YtdpddlaedffmdaaWy
import Derived.Maps.AppendAt
import Derived.OwnWalk
import Derived.Laws.MakeOwn
import Derived.Lib.AppendStr
namespace Go.Proofs.Ytdpddlaedffmdaa
open Go.RowKit
set_option linter.unusedVariables false
set_option linter.unusedSimpArgs false

/-- A number's bytes. -/
def vb (n : Nat) : List UInt8 := if n < 128 then [UInt8.ofNat n] else UInt8.ofNat (n % 128 + 128) :: vb (n / 128)
termination_by n
decreasing_by omega
theorem vb_end {n : Nat} (h : n < 128) : vb n = [UInt8.ofNat n] := by rw [vb, if_pos h]
theorem vb_more {n : Nat} (h : ¬ n < 128) : vb n = UInt8.ofNat (n % 128 + 128) :: vb (n / 128) := by rw [vb, if_neg h]
theorem vb_len : ∀ (k n : Nat), n < 128 ^ (k + 1) → (vb n).length ≤ k + 1
  | 0, n, h => by rw [vb_end (by simpa using h)]; simp
  | k + 1, n, h => by
    by_cases h1 : n < 128
    · rw [vb_end h1]; simp
    · rw [vb_more h1]
      have := vb_len k (n / 128) (by rw [Nat.div_lt_iff_lt_mul (by decide)]; rw [Nat.pow_succ] at h; exact h)
      simpa using this
theorem vb_ten (n : Nat) (h : n < 18446744073709551616) : (vb n).length ≤ 10 := vb_len 9 n (by omega)
theorem vb_pos (n : Nat) : 0 < (vb n).length := by
  by_cases h : n < 128
  · rw [vb_end h]; simp
  · rw [vb_more h]; simp

theorem cells8_append (a b : List UInt8) : cells8 (a ++ b) = cells8 a ++ cells8 b := by simp [cells8]
theorem one_cell (w : World) (x : Value) (t : TypeId) : ∀ j u, [x][j]? = some u → (w.alloc (.cells #[x] t)).cell? ((⟨w.heap.size, 0, none⟩ : Addr).add j) = some u := by
  intro j u hj
  match j, hj with
  | 0, hj => simp at hj; subst hj; simp [Addr.add]
  | j + 1, hj => simp at hj
/-- A text of one's own bytes. -/
theorem conv_own {w : World} {base n : Nat} {v : Value} {l : List UInt8} (h : w.ownsRow base 5 1 v n (cells8 l)) (hn : n = l.length) (hp : 0 < n) : (convert 28 9 v).run Try.prog w = .ok (.string ⟨l.toArray⟩) w := by
  obtain ⟨_, (⟨_, h0⟩ | ⟨g, kc, cur, rfl, hbg, hcur, hle, hmx, hcs, htk⟩)⟩ := h
  · omega
  subst hn
  refine run_convert_bytes_back (P := Try.prog) w 28 9 5 ⟨g, 0, none⟩ kc l Try.underlying28 Try.underlying5 Try.underlying9 (fun j hj => ?_)
  rw [show (⟨g, 0, none⟩ : Addr).add j = ⟨g, j, none⟩ by unfold Addr.add; split <;> simp_all]
  have h1 : (cur.toList.take (l.length * 1))[j]? = some (.int .u8 (l[j].toNat : Int)) := by rw [htk, cells8, List.getElem?_map, List.getElem?_eq_getElem hj]; rfl
  have h2 : cur[j]? = some (.int .u8 (l[j].toNat : Int)) := by
    rw [List.getElem?_take_of_lt (by omega)] at h1
    simpa using h1
  simp [World.cell?, hcur, h2]
theorem or128 (m : Nat) : bits .or .u8 ((m : Int) % 256) 128 = (m : Int) % 128 + 128 := by
  have h := u8_or_nat (m % 256) 128 (by omega) (by decide)
  rw [show ((128 : Nat) : Int) = 128 from rfl, show ((m % 256 : Nat) : Int) = (m : Int) % 256 by omega] at h
  rw [h]
  have h1 : ∀ x, x < 256 → x ||| 128 = x % 128 + 128 := by decide +kernel
  rw [h1 _ (by omega)]; omega
theorem of8 (m : Nat) (h : m < 256) : ((UInt8.ofNat m).toNat : Int) = (m : Int) := by simp [UInt8.toNat_ofNat']; omega

set_option maxHeartbeats 1000000 in
set_option maxRecDepth 100000 in
theorem bytesOf_any (n : Nat) (hn : n < 18446744073709551616) (w : World) : Calls Try.prog 62 #[.int .u64 n] w fun e w' => e = .returned (.string ⟨(vb n).toArray⟩) ∧ Below w.heap.size w w' := by
  obtain ⟨i0, hi, hi0, hi1, hi2⟩ := info_parts info5
  have hten := vb_ten n hn
  have HN : Hid (n < 18446744073709551616) := hn
  have HT : Hid ((vb n).length ≤ 10) := hten
  clear hn hten
  go_enter Try.func62, Try.ntmps62
  go_wp2
  go_loopw [0, 3] (fun x v wr => ∃ (m : Nat) (l : List UInt8), x = .int .u64 m ∧ m < 18446744073709551616 ∧ l ++ vb m = vb n ∧ wr.ownsRow w.heap.size 5 1 v l.length (cells8 l) ∧ Below w.heap.size w wr) (fun x _ _ => (intOf x).toNat)
  case atStart => exact ⟨n, [], rfl, HN.out, rfl, World.ownsRow_nil _ _ _ _, Below.refl _ _⟩
  case round =>
    obtain ⟨m, l, rfl, hm, hx, hown, hB⟩ := hrel
    have hlen : l.length + (vb m).length ≤ 10 := by rw [← List.length_append, hx]; exact HT.out
    have hsz := hB.size
    have HW : Hid (∀ k, Value.ownBlock u3 = some k → w.heap.size ≤ k ∧ k < wr.heap.size) := hown.lt
    have HM : Hid (m < 18446744073709551616) := hm
    have HX : Hid (l ++ vb m = vb n) := hx
    have HL : Hid (l.length + (vb m).length ≤ 10) := hlen
    have HO : Hid (wr.ownsRow w.heap.size 5 1 u3 l.length (cells8 l)) := hown
    clear hm hx hlen hown
    by_cases hlt : m < 128
    · have hlt' : (m : Int) < 128 := by omega
      have e0 : (m : Int) % 256 = (m : Int) := by omega
      have HV : Hid (vb m = [UInt8.ofNat m]) := vb_end hlt
      have HO1 : Hid ((wr.alloc (.cells #[.int .u8 (m : Int)] 5)).ownsRow w.heap.size 5 1 u3 l.length (cells8 l)) := World.ownsRow.alloc HO.out _
      have hln : l.length ≤ 10 := by have := HL.out; omega
      go_wp2_with (at_builtin; refine wpList_append_own _ rfl _ _ 28 rfl w.heap.size 5 i0 (.int .u8 0) 1 1 Try.underlying28 hi hi0 hi1 hi2 rfl (by decide) _ _ _ rfl HO1.out ⟨wr.heap.size, 0, none⟩ 1 1 [.int .u8 (m : Int)] rfl rfl (one_cell wr _ 5) (by intro u hu; simp at hu; subst hu; rfl) (by unfold maxLen; omega) (by omega) (by simp; omega) ?_)
      intro v6 w6 hown6 hgrow6 _
      have B6 : Below w.heap.size w w6 := Below.grown (hB.alloc hB.size _) hgrow6 (by simp; omega) fun g hg => (HW.out g hg).1
      have e1 : cells8 l ++ [.int .u8 (m : Int)] = cells8 (vb n) := by
        rw [← HX.out, cells8_append, HV.out]; simp only [cells8, List.map]; rw [of8 m (by omega)]
      rw [e1] at hown6
      have hconv := conv_own hown6 (by rw [← HX.out, List.length_append, HV.out]; rfl) (by omega)
      clear hown6 hgrow6 HO HO1 HW e1
      go_wp2
      go_ret
      exact ⟨rfl, B6⟩
    · have hlt' : (128 : Int) ≤ (m : Int) := by omega
      have O8 := or128 m
      have HV : Hid (vb m = UInt8.ofNat (m % 128 + 128) :: vb (m / 128)) := vb_more hlt
      have HO1 : Hid ((wr.alloc (.cells #[.int .u8 ((m : Int) % 128 + 128)] 5)).ownsRow w.heap.size 5 1 u3 l.length (cells8 l)) := World.ownsRow.alloc HO.out _
      have hln : l.length ≤ 10 := by have := HL.out; omega
      go_wp2_with (at_builtin; refine wpList_append_own _ rfl _ _ 28 rfl w.heap.size 5 i0 (.int .u8 0) 1 1 Try.underlying28 hi hi0 hi1 hi2 rfl (by decide) _ _ _ rfl HO1.out ⟨wr.heap.size, 0, none⟩ 1 1 [.int .u8 ((m : Int) % 128 + 128)] rfl rfl (one_cell wr _ 5) (by intro u hu; simp at hu; subst hu; rfl) (by unfold maxLen; omega) (by omega) (by simp; omega) ?_)
      intro v6 w6 hown6 hgrow6 _
      have B6 : Below w.heap.size w w6 := Below.grown (hB.alloc hB.size _) hgrow6 (by simp; omega) fun g hg => (HW.out g hg).1
      have e1 : cells8 l ++ [.int .u8 ((m : Int) % 128 + 128)] = cells8 (l ++ [UInt8.ofNat (m % 128 + 128)]) := by
        rw [cells8_append]; simp only [cells8, List.map]; rw [of8 (m % 128 + 128) (by omega)]
        congr 3
      rw [e1] at hown6
      have R6 : Hid (w6.ownsRow w.heap.size 5 1 v6 (l.length + 1) (cells8 (l ++ [UInt8.ofNat (m % 128 + 128)]))) := hown6
      clear hown6 hgrow6 HO HO1 HW e1 O8
      go_wp2
      refine ⟨⟨m / 128, l ++ [UInt8.ofNat (m % 128 + 128)], rfl, by have := HM.out; omega, ?_, by rw [List.length_append]; exact R6.out, B6⟩, by simp only [intOf]; omega⟩
      rw [List.append_assoc, ← HX.out, HV.out]; rfl
end Go.Proofs.Ytdpddlaedffmdaa
