/- The document's disks: Pending; and same. -/
import Derived.Test.YtnpcnflfpmjgiaaDoorDa
namespace Go.Proofs.YtnpcnflfpmjgiaaDoor
open Go.RowKit
set_option linter.unusedVariables false
set_option linter.unusedSimpArgs false

def nl (l : List Nat) : List Value := l.map (fun x : Nat => .int .i64 (x : Int))
theorem nums_all (l : List Nat) : nums l l.length = nl l := by simp [nums, nl]
theorem nl_at (l : List Nat) (k : Nat) (h : k < l.length) : (nl l)[k]? = some (.int .i64 ((l[k] : Nat) : Int)) := by simp [nl, h]
theorem row_below {w w' : World} {B e z : Nat} {v : Value} {n : Nat} {xs : List Value} (h : w.ownsRow B e z v n xs) (hb : Below w.heap.size w w') : w'.ownsRow B e z v n xs := ownsRow_kept (S := fun _ => False) h (Kept.of_below hb) (fun _ _ => id)
set_option maxHeartbeats 1000000 in
set_option maxRecDepth 100000 in
theorem rpending_any {B : Nat} {w : World} {b g cg : Nat} {pv : Value} {S : DS} (d : Rv B w b g cg pv S) (hfew : S.wait.length ≤ 17592186044416) : Calls Tryd.prog 26 #[.pointer (some ⟨b, 0, none⟩)] w fun e w' => ∃ v, e = .returned v ∧ w'.ownsRow w.heap.size 3 1 v S.wait.length (nl (S.wait.map (·.1))) ∧ Below w.heap.size w w' := by
  obtain ⟨i0, hi, hz0, hz1, hz3⟩ := info_parts info3
  obtain ⟨pa, pc, rfl⟩ := ownsRow_slice d.rowP
  have hlt := d.blk.lt
  have HD : Hid (Rv B w b g cg (.slice pa S.wait.length pc) S) := d
  have hf : (S.wait.length : Int) ≤ 17592186044416 := by omega
  have R0 : Hid (w.ownsRow w.heap.size 3 1 (.slice none 0 0) 0 (nl ((S.wait.map (·.1)).take 0))) := World.ownsRow_nil _ _ _ _
  clear d
  go_enter Tryd.func26, Tryd.ntmps26
  go_wp2_with fail
  go_loopw [3, 4] (fun s t wa => ∃ k : Nat, k ≤ S.wait.length ∧ t = .int .i64 k ∧ wa.ownsRow w.heap.size 3 1 s k (nl ((S.wait.map (·.1)).take k)) ∧ Below w.heap.size w wa) (fun _ t _ => S.wait.length - (intOf t).toNat)
  case atStart => exact ⟨0, Nat.zero_le _, rfl, R0.out, Below.refl _ _⟩
  case round =>
    obtain ⟨k, hk, rfl, hR, hBk⟩ := hrel
    clear R0
    have hD := HD.out.below hBk
    have c1 := hD.blk.cell 1 (v := .slice pa S.wait.length pc) rfl
    by_cases hlt2 : k < S.wait.length
    · have hk' : (k : Int) < (S.wait.length : Int) := by omega
      have hp : S.wait[k]? = some (S.wait[k]) := List.getElem?_eq_getElem hlt2
      generalize S.wait[k] = p at *
      obtain ⟨pg, rfl⟩ : ∃ pg, pa = some ⟨pg, 0, none⟩ := by
        rcases hD.rowP.2 with ⟨_, h0⟩ | ⟨pg, cap, cur, e, _⟩
        · exact absurd h0 (by show ¬ S.wait.length = 0; omega)
        · injection e with e; exact ⟨pg, e⟩
      obtain ⟨e1, e2⟩ := wcells_at S.wait k p hp
      have p1 := (hD.rowP.cellAt (k * 2) (by show k * 2 < S.wait.length * 2; omega)).trans e1
      have hpgl := (hD.fp pg (.inr (.inr rfl))).2
      have htk : (S.wait.map (·.1)).take (k + 1) = (S.wait.map (·.1)).take k ++ [p.1] := by rw [List.take_add_one, List.getElem?_map, hp]; rfl
      have HR : Hid ((wr.alloc (.cells #[.int .i64 (p.1 : Int)] 3)).ownsRow w.heap.size 3 1 u3 k (nl ((S.wait.map (·.1)).take k))) := hR.alloc _
      have HRL : Hid (∀ j, u3.ownBlock = some j → w.heap.size ≤ j) := fun j e => (hR.lt j e).1
      have HNX : Hid (∀ (j : Nat) (u : Value), [Value.int .i64 (p.1 : Int)][j]? = some u → (wr.alloc (.cells #[.int .i64 (p.1 : Int)] 3)).cell? ((⟨wr.heap.size, 0, none⟩ : Addr).add j) = some u) := World.news_of_block (Blk.new wr #[.int .i64 (p.1 : Int)] 3)
      have HN : Hid (∀ u ∈ [Value.int .i64 (p.1 : Int)], u.oneCell' = true) := fun u hu => by rw [List.mem_singleton.1 hu]; rfl
      have HZ : Hid (k + 1 ≤ maxLen ∧ (k + 1) * 8 ≤ 140737488355328 ∧ w.heap.size ≤ (wr.alloc (.cells #[.int .i64 (p.1 : Int)] 3)).heap.size) := ⟨by unfold maxLen; omega, by omega, by rw [World.size_alloc]; have := hBk.size; omega⟩
      have HE : Hid (∀ (v' : Value) (w' : World), w'.ownsRow w.heap.size 3 1 v' (k + 1) (nl ((S.wait.map (·.1)).take k) ++ [.int .i64 (p.1 : Int)]) → (wr.alloc (.cells #[.int .i64 (p.1 : Int)] 3)).grownBy w' u3.ownBlock → w'.ownsRow w.heap.size 3 1 v' (k + 1) (nl ((S.wait.map (·.1)).take (k + 1))) ∧ Below w.heap.size w w') := by
        show ∀ (v' : Value) (w' : World), _
        intro v' w' ho hg
        refine ⟨?_, (hBk.alloc hBk.size _).grown hg (by rw [World.size_alloc]; have := hBk.size; omega) HRL.out⟩
        rw [htk]
        simpa [nl] using ho
      clear hR hD htk hp e1 e2
      go_wp2_with (at_builtin; refine wpList_append_lies _ rfl _ _ 51 rfl w.heap.size 3 i0 (.int .i64 0) 1 8 Tryd.underlying51 hi hz0 hz1 hz3 rfl (by decide) u3 k (nl ((S.wait.map (·.1)).take k)) rfl HR.out ⟨wr.heap.size, 0, none⟩ 1 1 [.int .i64 (p.1 : Int)] rfl rfl HNX.out HN.out (by decide) HZ.out.1 HZ.out.2.1 HZ.out.2.2 _ rfl ?_)
      intro g1 cap1 w6 hown hgr hwh hlt6
      have hend : Hid _ := HE.out _ w6 hown hgr
      clear HE HR hown hgr hwh
      go_wp2
      go_roundw
      case rel => exact ⟨k + 1, by omega, by go_num, hend.out⟩
      case measure => simp [intOf]; omega
    · have hk' : ¬ (k : Int) < (S.wait.length : Int) := by omega
      have hke : k = S.wait.length := by omega
      have HE : Hid (wr.ownsRow w.heap.size 3 1 u3 S.wait.length (nl (S.wait.map (·.1))) ∧ Below w.heap.size w wr) := by
        rw [hke, List.take_of_length_le (by simp)] at hR
        exact ⟨hR, hBk⟩
      clear hR hD hBk hke
      go_wp2
      go_ret
      exact ⟨_, rfl, HE.out⟩
end Go.Proofs.YtnpcnflfpmjgiaaDoor
