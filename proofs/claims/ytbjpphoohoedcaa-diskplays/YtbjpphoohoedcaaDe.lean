/- Fates in memory of their own: lent, still. -/
import Derived.Test.YtbjpphoohoedcaaDa
import Derived.Test.YtbjpphoohoedcaaRd
namespace Go.Proofs.Ytbjpphoohoedcaa
open Go.RowKit
set_option linter.unusedVariables false
set_option linter.unusedSimpArgs false

def At2 (xs : List Value) (j : Nat) (p : Int × Int) : Prop := xs[j * 2]? = some (.int .i64 p.1) ∧ xs[j * 2 + 1]? = some (.int .i64 p.2)
def LL (fs : List (Int × Int)) : List (Int × Int) := fs ++ List.replicate 3 (-7, -7)
theorem LL_len (fs : List (Int × Int)) : (LL fs).length = fs.length + 3 := by simp [LL]
theorem LL_at (fs : List (Int × Int)) (k : Nat) (p : Int × Int) (h : fs[k]? = some p) : (LL fs)[k]? = some p := by
  unfold LL; rw [List.getElem?_append_left (List.getElem?_eq_some_iff.1 h).1]; exact h
theorem LL_end (fs : List (Int × Int)) (k : Nat) (h1 : fs.length ≤ k) (h2 : k < fs.length + 3) : (LL fs)[k]? = some (-7, -7) := by
  unfold LL; rw [List.getElem?_append_right h1, List.getElem?_replicate, if_pos (by omega)]
theorem At2.far {xs : List Value} {j i : Nat} {p : Int × Int} (h : At2 xs j p) (v : Value) (h1 : i ≠ j * 2) (h2 : i ≠ j * 2 + 1) : At2 (xs.set i v) j p := by
  unfold At2
  rw [List.getElem?_set_ne h1, List.getElem?_set_ne h2]
  exact h
theorem At2.two {xs : List Value} {k : Nat} (h : k * 2 + 1 < xs.length) (x y : Int) : At2 ((xs.set (k * 2) (.int .i64 x)).set (k * 2 + 1) (.int .i64 y)) k (x, y) := by
  unfold At2
  rw [List.getElem?_set_ne (by omega), List.getElem?_set_self (by omega), List.getElem?_set_self (by rw [List.length_set]; omega)]
  exact ⟨rfl, rfl⟩
theorem run_neF (a b c d : Int) (w : World) : (binOp .neq 59 (.agg #[.int .i64 a, .int .i64 b]) (.agg #[.int .i64 c, .int .i64 d])).run Try.prog w = .ok (.bool (!((a == c) && (b == d)))) w := by
  have hS : Try.prog.underlying 59 = some (.struct (Try.prog.fieldsOf 59)) := by kernel_rfl
  have hp : Try.prog.stoodInHeld 59 = false := by kernel_rfl
  have u := Try.underlying3
  have h : (Op.equalIn 10000 59 (.agg #[.int .i64 a, .int .i64 b]) (.agg #[.int .i64 c, .int .i64 d])).run Try.prog w = .ok (a == c && b == d) w := by
    rw [show (10000 : Nat) = 9999 + 1 from rfl, run_equalIn_struct w 9999 59 _ _ hS hp]
    simp only [Program.fieldsOf, Try.underlying59]
    go_simp
    by_cases h1 : a = c <;> by_cases h2 : b = d <;> simp [h1, h2]
  simp only [binOp]
  simp [Op.equal, Op.maxDepth, h]
set_option maxHeartbeats 2000000 in
set_option maxRecDepth 100000 in
theorem lent_any {w : World} (fs : List (Int × Int)) (a : Option Addr) (c : Nat) (hf : FtO w fs a) (hfl : fs.length ≤ 8796093021952) : Calls Try.prog 68 #[.slice a fs.length c] w fun e w' => e = .returned (.slice (some ⟨w.heap.size, 0, none⟩) (fs.length + 3) (fs.length + 3)) ∧ (∃ xs, w'.ownsRow w.heap.size 59 2 (.slice (some ⟨w.heap.size, 0, none⟩) (fs.length + 3) (fs.length + 3)) (fs.length + 3) xs ∧ ∀ j p, (LL fs)[j]? = some p → At2 xs j p) ∧ Below w.heap.size w w' := by
  obtain ⟨i0, hi, hz0, hz1, hz3⟩ := info_parts info59
  have HF : Hid (FtO w fs a) := hf
  have hfi : (fs.length : Int) ≤ 8796093021952 := by omega
  have HLA : Hid (∀ (k : Nat) (p : Int × Int), fs[k]? = some p → (LL fs)[k]? = some p) := LL_at fs
  have HLE : Hid (∀ k : Nat, fs.length ≤ k → k < fs.length + 3 → (LL fs)[k]? = some (-7, -7)) := LL_end fs
  have HLN : Hid ((LL fs).length = fs.length + 3) := LL_len fs
  have HGE : Hid (∀ k : Nat, k < fs.length → ∃ p, fs[k]? = some p) := fun k h => ⟨_, List.getElem?_eq_getElem h⟩
  generalize LL fs = L at *
  obtain ⟨n, hn⟩ : ∃ n, n = fs.length := ⟨_, rfl⟩
  rw [← hn] at hfi hfl HLE HLN HGE ⊢
  have HNN : Hid (n = fs.length) := hn
  obtain ⟨N, hN⟩ : ∃ N, N = n + 3 := ⟨_, rfl⟩
  have hNm : (N : Int) ≤ 8796093021955 := by omega
  rw [← hN] at HLE HLN ⊢
  clear hf hn
  go_enter Try.func68, Try.ntmps68
  go_wp2_with (at_make; refine wpList_make_full _ rfl _ _ 40 rfl w.heap.size 59 i0 (.agg #[.int .i64 0, .int .i64 0]) 2 Try.underlying40 hi hz0 hz1 _ _ _ _ (n + 3) rfl rfl rfl rfl ?c1 ?c2 ?c3 ?_)
  case c1 => rw [hz3]; omega
  case c2 => unfold maxLen; omega
  case c3 => omega
  intro w3 hrow hgr
  rw [← hN] at hrow
  have HR : Hid (w3.ownsRow w.heap.size 59 2 (.slice (some ⟨w.heap.size, 0, none⟩) N N) N (madeCells #[.int .i64 0, .int .i64 0] (N * 2)).toList) := hrow
  have HB : Hid (Below w.heap.size w w3) := (Below.refl _ _).grown hgr (Nat.le_refl _) (fun k e => by simp at e)
  clear hrow hgr
  rw [← hN]
  go_wp2_with fail
  go_loopw [4] (fun t wa => ∃ (k : Nat) (xs : List Value), k ≤ N ∧ t = .int .i64 k ∧ wa.ownsRow w.heap.size 59 2 (.slice (some ⟨w.heap.size, 0, none⟩) N N) N xs ∧ (∀ j p, j < k → L[j]? = some p → At2 xs j p) ∧ Below w.heap.size w wa) (fun t _ => N - (intOf t).toNat)
  case atStart => exact ⟨0, _, Nat.zero_le _, rfl, HR.out, fun j p h => by omega, HB.out⟩
  case round =>
    obtain ⟨k, xs, hk, rfl, hR, hA, hBk⟩ := hrel
    clear HR HB
    by_cases hlt : k < N
    · have hk' : (k : Int) < (N : Int) := by omega
      have hxl : xs.length = N * 2 := hR.1
      obtain ⟨x0, q0⟩ : ∃ x, wr.cell? ⟨w.heap.size, k * 2, none⟩ = some x := ⟨_, (hR.cellAt (k * 2) (by omega)).trans (List.getElem?_eq_getElem (by omega))⟩
      obtain ⟨x1, q1⟩ : ∃ x, wr.cell? ⟨w.heap.size, k * 2 + 1, none⟩ = some x := ⟨_, (hR.cellAt (k * 2 + 1) (by omega)).trans (List.getElem?_eq_getElem (by omega))⟩
      have f0 := hR.frozenAt (k * 2)
      have f1 := hR.frozenAt (k * 2 + 1)
      have hgl : w.heap.size < wr.heap.size := (hR.lt _ rfl).2
      by_cases hin : k < n
      · have hin' : (k : Int) < (n : Int) := by omega
        obtain ⟨⟨kd, t⟩, hp⟩ := HGE.out k hin
        obtain ⟨fb, foff, rfl, hfb, hft⟩ : ∃ fb foff, a = some ⟨fb, foff, none⟩ ∧ fb < w.heap.size ∧ Fts w fb foff fs := by
          rcases HF.out with h | h
          · rw [h] at hp; simp at hp
          · exact h
        obtain ⟨g0, g1⟩ := hft k kd t hp
        have r0 := (hBk.cell (p := ⟨fb, foff + k * 2, none⟩) hfb).trans g0
        have r1 := (hBk.cell (p := ⟨fb, foff + k * 2 + 1, none⟩) hfb).trans g1
        have hne : ¬ fb = w.heap.size := by omega
        have hne2 : ¬ w.heap.size = fb := by omega
        have HE : Hid ((((((wr.setCell ⟨w.heap.size, k * 2, none⟩ (.int .i64 (-7))).setCell ⟨w.heap.size, k * 2 + 1, none⟩ (.int .i64 (-7))).setCell ⟨w.heap.size, k * 2, none⟩ (.int .i64 kd)).setCell ⟨w.heap.size, k * 2 + 1, none⟩ (.int .i64 t)).ownsRow w.heap.size 59 2 (.slice (some ⟨w.heap.size, 0, none⟩) N N) N ((((xs.set (k * 2) (.int .i64 (-7))).set (k * 2 + 1) (.int .i64 (-7))).set (k * 2) (.int .i64 kd)).set (k * 2 + 1) (.int .i64 t))) ∧ (∀ j p, j < k + 1 → L[j]? = some p → At2 ((((xs.set (k * 2) (.int .i64 (-7))).set (k * 2 + 1) (.int .i64 (-7))).set (k * 2) (.int .i64 kd)).set (k * 2 + 1) (.int .i64 t)) j p) ∧ Below w.heap.size w ((((wr.setCell ⟨w.heap.size, k * 2, none⟩ (.int .i64 (-7))).setCell ⟨w.heap.size, k * 2 + 1, none⟩ (.int .i64 (-7))).setCell ⟨w.heap.size, k * 2, none⟩ (.int .i64 kd)).setCell ⟨w.heap.size, k * 2 + 1, none⟩ (.int .i64 t))) := by
          refine ⟨((((hR.stored (k * 2) (.int .i64 (-7))).1.stored (k * 2 + 1) (.int .i64 (-7))).1.stored (k * 2) (.int .i64 kd)).1.stored (k * 2 + 1) (.int .i64 t)).1, fun j p hj hp' => ?_, (((hBk.setCell (Nat.le_refl _) _).setCell (Nat.le_refl _) _).setCell (Nat.le_refl _) _).setCell (Nat.le_refl _) _⟩
          by_cases e : j = k
          · subst e
            rw [HLA.out j _ hp] at hp'
            injection hp' with hp'
            subst hp'
            exact At2.two (by simp; omega) kd t
          · exact ((((hA j p (by omega) hp').far _ (by omega) (by omega)).far _ (by omega) (by omega)).far _ (by omega) (by omega)).far _ (by omega) (by omega)
        clear hR hA hBk hxl hft g0 g1 HF HGE
        go_wp2
        go_roundw
        case rel => exact ⟨k + 1, _, by omega, by go_num, HE.out⟩
        case measure => simp [intOf]; omega
      · have hin' : ¬ (k : Int) < (n : Int) := by omega
        have HE : Hid (((wr.setCell ⟨w.heap.size, k * 2, none⟩ (.int .i64 (-7))).setCell ⟨w.heap.size, k * 2 + 1, none⟩ (.int .i64 (-7))).ownsRow w.heap.size 59 2 (.slice (some ⟨w.heap.size, 0, none⟩) N N) N ((xs.set (k * 2) (.int .i64 (-7))).set (k * 2 + 1) (.int .i64 (-7))) ∧ (∀ j p, j < k + 1 → L[j]? = some p → At2 ((xs.set (k * 2) (.int .i64 (-7))).set (k * 2 + 1) (.int .i64 (-7))) j p) ∧ Below w.heap.size w ((wr.setCell ⟨w.heap.size, k * 2, none⟩ (.int .i64 (-7))).setCell ⟨w.heap.size, k * 2 + 1, none⟩ (.int .i64 (-7)))) := by
          refine ⟨((hR.stored (k * 2) (.int .i64 (-7))).1.stored (k * 2 + 1) (.int .i64 (-7))).1, fun j p hj hp' => ?_, (hBk.setCell (Nat.le_refl _) _).setCell (Nat.le_refl _) _⟩
          by_cases e : j = k
          · subst e
            rw [HLE.out j (by omega) hlt] at hp'
            injection hp' with hp'
            subst hp'
            exact At2.two (by omega) _ _
          · exact ((hA j p (by omega) hp').far _ (by omega) (by omega)).far _ (by omega) (by omega)
        clear hR hA hBk hxl HF HGE
        go_wp2
        go_roundw
        case rel => exact ⟨k + 1, _, by omega, by go_num, HE.out⟩
        case measure => simp [intOf]; omega
    · have hk' : ¬ (k : Int) < (N : Int) := by omega
      have HE : Hid ((∃ xs, wr.ownsRow w.heap.size 59 2 (.slice (some ⟨w.heap.size, 0, none⟩) N N) N xs ∧ ∀ j p, L[j]? = some p → At2 xs j p) ∧ Below w.heap.size w wr) := ⟨⟨xs, hR, fun j p h => hA j p (by have := (List.getElem?_eq_some_iff.1 h).1; have := HLN.out; omega) h⟩, hBk⟩
      clear hR hA hBk HF HGE
      go_wp2
      go_ret
      obtain ⟨⟨ys, e1, e2⟩, e3⟩ := HE.out
      rw [hN] at e1
      exact ⟨rfl, ⟨ys, e1, fun j x y h => e2 j (x, y) h⟩, e3⟩
end Go.Proofs.Ytbjpphoohoedcaa
