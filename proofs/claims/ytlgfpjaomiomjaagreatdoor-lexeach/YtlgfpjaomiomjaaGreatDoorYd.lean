/- The document's grown: eight parts times a number, and another one. -/
import Derived.Test.YtlgfpjaomiomjaaGreatDoorYc
import Derived.Test.YtlgfpjaomiomjaaGreatDoorUc
namespace Go.Proofs.YtlgfpjaomiomjaaGreatDoor
open Go.RowKit
set_option linter.unusedVariables false
set_option linter.unusedSimpArgs false

theorem infoInt : (Tryz.prog.info? 3).map (fun i => (i.zero, i.size, i.bytes)) = some (some (.int .i64 0), 1, 8) := by kernel_rfl
theorem info_int : ∃ i, Tryz.prog.info? 3 = some i ∧ i.zero = some (.int .i64 0) ∧ i.size = 1 ∧ i.bytes = 8 := by
  have h := infoInt
  cases hi : Tryz.prog.info? 3 with
  | none => rw [hi] at h; cases h
  | some i =>
    rw [hi] at h
    simp only [Option.map_some, Option.some.injEq, Prod.mk.injEq] at h
    exact ⟨i, rfl, h.1, h.2.1, h.2.2⟩
/-- Eight numbers in memory. -/
def LRow (w : World) (g : Nat) (f : Nat → Nat) : Prop := ∀ j, j < 8 → w.cell? ⟨g, j, none⟩ = some (.int .i64 (f j : Int)) ∧ w.frozen? ⟨g, j, none⟩ = false
theorem LRow.lt {w : World} {g : Nat} {f : Nat → Nat} (h : LRow w g f) : g < w.heap.size := World.block_lt_of_cell? _ _ (h 0 (by omega)).1
theorem LRow.kept {S : Nat → Prop} {w w' : World} {g : Nat} {f : Nat → Nat} (h : LRow w g f) (hk : Kept S w w') (hs : ¬ S g) : LRow w' g f := fun j hj => ⟨hk.cell (h j hj).1 hs, by rw [hk.frozen h.lt hs]; exact (h j hj).2⟩
def lmbs (n k : Nat) : List Value := (List.range k).map fun j => Value.int .i64 (lmb n j : Int)
theorem lmbs_snoc (n k : Nat) : lmbs n (k + 1) = lmbs n k ++ [.int .i64 (lmb n k : Int)] := by unfold lmbs; rw [List.range_succ, List.map_append]; rfl
theorem lrow_of {w : World} {B n : Nat} {v : Value} (h : w.ownsRow B 3 1 v 8 (lmbs n 8)) : ∃ g cap, v = .slice (some ⟨g, 0, none⟩) 8 cap ∧ B ≤ g ∧ LRow w g (lmb n) := by
  rcases h.2 with ⟨_, h0⟩ | ⟨g, cap, cur, e, hg, hblk, rest⟩
  · omega
  · refine ⟨g, cap, e, hg, fun j hj => ⟨?_, ?_⟩⟩
    · have hr := h
      rw [e] at hr
      rw [hr.cellAt j (by omega)]
      unfold lmbs; simp [hj]
    · simp [World.frozen?, hblk]
/-- What is carried on. -/
def car (v base d k : Nat) : Nat := ((v % 65536 ^ k) * base + d) / 65536 ^ k
theorem car_zero (v base d : Nat) : car v base d 0 = d := by simp [car, Nat.mod_one]
theorem car_lt {v base d k : Nat} (hd : d < base) : car v base d k < base := by
  unfold car
  have hp : 0 < 65536 ^ k := Nat.pow_pos (by decide)
  rw [Nat.div_lt_iff_lt_mul hp]
  have h1 : v % 65536 ^ k + 1 ≤ 65536 ^ k := Nat.mod_lt _ hp
  have h2 := Nat.mul_le_mul_right base h1
  rw [Nat.add_mul, Nat.one_mul, Nat.mul_comm (65536 ^ k) base] at h2
  omega
theorem car_step (v base d k : Nat) : car v base d k + lmb v k * base = ((v % 65536 ^ (k + 1)) * base + d) / 65536 ^ k := by
  have hp : 0 < 65536 ^ k := Nat.pow_pos (by decide)
  have e : v % 65536 ^ (k + 1) = v % 65536 ^ k + 65536 ^ k * lmb v k := by rw [Nat.pow_succ, Nat.mod_mul]; rfl
  rw [e, Nat.add_mul, Nat.mul_assoc, Nat.add_right_comm, Nat.add_mul_div_left _ _ hp]; rfl
theorem car_mod (v base d k : Nat) : (car v base d k + lmb v k * base) % 65536 = lmb (v * base + d) k := by
  rw [car_step]
  have hp : 0 < 65536 ^ k := Nat.pow_pos (by decide)
  have e : v * base + d = (v % 65536 ^ (k + 1)) * base + d + 65536 ^ k * (65536 * (v / 65536 ^ (k + 1) * base)) := by
    have h := Nat.mod_add_div v (65536 ^ (k + 1))
    have : v * base = (v % 65536 ^ (k + 1)) * base + 65536 ^ k * (65536 * (v / 65536 ^ (k + 1) * base)) := by
      rw [← Nat.mul_assoc, ← Nat.pow_succ, ← Nat.mul_assoc, ← Nat.add_mul, h]
    omega
  unfold lmb
  rw [e, Nat.add_mul_div_left _ _ hp, Nat.add_mul_mod_self_left]
theorem car_div (v base d k : Nat) : (car v base d k + lmb v k * base) / 65536 = car v base d (k + 1) := by
  rw [car_step, Nat.div_div_eq_div_mul, ← Nat.pow_succ]; rfl
theorem car_end {v base d : Nat} (hv : v < 65536 ^ 8) : car v base d 8 = 0 ↔ v * base + d < 65536 ^ 8 := by
  unfold car
  rw [Nat.mod_eq_of_lt hv, Nat.div_eq_zero_iff]
  constructor
  · rintro (h | h)
    · exact absurd h (by decide)
    · exact h
  · exact fun h => .inr h
set_option maxHeartbeats 4000000 in
set_option maxRecDepth 100000 in
theorem grown_any (v base d g cap : Nat) (hv : v < 65536 ^ 8) (hd : d < base) (hb : base ≤ 16) (w : World) (hr : LRow w g (lmb v)) :
    Calls Tryz.prog 45 #[.slice (some ⟨g, 0, none⟩) 8 cap, .int .i64 (base : Int), .int .i64 (d : Int)] w fun e w' => ∃ sv, e = .returned (.tuple #[sv, .bool (decide (v * base + d < 65536 ^ 8))]) ∧ w'.ownsRow w.heap.size 3 1 sv 8 (lmbs (v * base + d) 8) ∧ Below w.heap.size w w' := by
  obtain ⟨i3, hi3, hz0, hz1, hz3⟩ := info_int
  obtain ⟨C, hC⟩ : ∃ C : Nat → Nat, C = car v base d := ⟨_, rfl⟩
  obtain ⟨u, hu⟩ : ∃ u, u = v * base + d := ⟨_, rfl⟩
  have C0 : Hid (C 0 = d) := by show _ = _; rw [hC]; exact car_zero v base d
  have CL : Hid (∀ k, C k < base) := fun k => by rw [hC]; exact car_lt hd
  have CM : Hid (∀ k, (C k + lmb v k * base) % 65536 = lmb u k) := fun k => by rw [hC, hu]; exact car_mod v base d k
  have CD : Hid (∀ k, (C k + lmb v k * base) / 65536 = C (k + 1)) := fun k => by rw [hC]; exact car_div v base d k
  have CE : Hid (decide (C 8 = 0) = decide (u < 65536 ^ 8)) := by
    show _ = _
    rw [decide_eq_decide, hC, hu]; exact car_end hv
  rw [← hu]
  have HR : Hid (LRow w g (lmb v)) := hr
  have hgl : g < w.heap.size := hr.lt
  generalize decide (u < 65536 ^ 8) = R at *
  clear hr hC hu hv
  go_enter Tryz.func45, Tryz.ntmps45
  go_wp2
  go_loopw [2, 8, 9] (fun x l i wr => ∃ (k : Nat), k ≤ 8 ∧ x = .int .i64 (C k : Int) ∧ i = .int .i64 k ∧ wr.ownsRow w.heap.size 3 1 l k (lmbs u k) ∧ Below w.heap.size w wr) (fun _ _ i _ => 8 - (intOf i).toNat)
  case atStart => exact ⟨0, by omega, by rw [C0.out], rfl, World.ownsRow_nil _ _ _ _, Below.refl _ _⟩
  case round =>
    obtain ⟨k, hk, rfl, rfl, hrow, hB⟩ := hrel
    have HROW : Hid (wr.ownsRow w.heap.size 3 1 u8 k (lmbs u k)) := hrow
    have HB : Hid (Below w.heap.size w wr) := hB
    by_cases hlt : k < 8
    · have hc : wr.cell? ⟨g, k, none⟩ = some (.int .i64 (lmb v k : Int)) := (HR.out.kept (S := fun j => w.heap.size ≤ j) ⟨hB.os, hB.tape, hB.output, hB.size, fun i hi hs => hB.block i (by omega)⟩ (by omega) k hlt).1
      have h1 := CL.out k
      have h2 := lmb_lt v k
      have hmul : lmb v k * base < 65536 * 16 := by
        have := Nat.mul_le_mul (Nat.le_of_lt_succ h2) hb
        omega
      have E1 : Hid ((C k + lmb v k * base) % 65536 = lmb u k) := CM.out k
      have E2 : Hid ((C k + lmb v k * base) / 65536 = C (k + 1)) := CD.out k
      obtain ⟨m, hm⟩ : ∃ m, m = lmb v k * base := ⟨_, rfl⟩
      have em : (lmb v k : Int) * (base : Int) = (m : Int) := by rw [hm]; exact (Int.natCast_mul _ _).symm
      rw [← hm] at E1 E2 hmul
      clear hm hrow hB
      generalize lmb v k = q at *
      obtain ⟨y, hy⟩ : ∃ y, y = C k + m := ⟨_, rfl⟩
      have ey : (C k : Int) + (m : Int) = (y : Int) := by omega
      rw [← hy] at E1 E2
      have hyb : y < 2000000 := by omega
      clear hy
      have e1 : (y : Int) % 65536 = ((y % 65536 : Nat) : Int) := by omega
      have e2 : (y : Int) / 65536 = ((y / 65536 : Nat) : Int) := by omega
      obtain ⟨z, hz⟩ : ∃ z, z = y % 65536 := ⟨_, rfl⟩
      obtain ⟨x, hx⟩ : ∃ x, x = y / 65536 := ⟨_, rfl⟩
      rw [← hz] at e1 E1
      rw [← hx] at e2 E2
      have hzb : z < 65536 := by omega
      have hxb : x < 65536 := by omega
      clear hz hx
      have HR0 : Hid ((wr.alloc (.cells #[.int .i64 (z : Int)] 3)).ownsRow w.heap.size 3 1 u8 k (lmbs u k)) := HROW.out.alloc _
      have HN0 : Hid (∀ (j : Nat) (u : Value), [Value.int .i64 (z : Int)][j]? = some u → (wr.alloc (.cells #[.int .i64 (z : Int)] 3)).cell? ((⟨wr.heap.size, 0, none⟩ : Addr).add j) = some u) := World.news_of_block (Blk.new wr #[.int .i64 (z : Int)] 3)
      have HO0 : Hid (∀ u ∈ [Value.int .i64 (z : Int)], u.oneCell' = true) := fun u hu => by simp at hu; subst hu; rfl
      have HZ1 : Hid (k + 1 ≤ maxLen) := by show _ ≤ _; unfold maxLen; omega
      have HZ2 : Hid ((k + 1) * 8 ≤ 140737488355328) := by show _ ≤ _; omega
      have HZ3 : Hid (w.heap.size ≤ (wr.alloc (.cells #[.int .i64 (z : Int)] 3)).heap.size) := by show _ ≤ _; have := HB.out.size; simp; omega
      go_wp2_with (at_builtin; refine wpList_append_lies _ rfl _ _ 69 rfl w.heap.size 3 i3 (.int .i64 0) 1 8 Tryz.underlying69 hi3 hz0 hz1 hz3 rfl (by decide) u8 k (lmbs u k) rfl HR0.out ⟨wr.heap.size, 0, none⟩ 1 1 [.int .i64 (z : Int)] rfl rfl HN0.out HO0.out (by decide) HZ1.out HZ2.out HZ3.out _ rfl ?_)
      intro g1 cap1 w4 hown1 hgr1 hwh1 hlt1
      have hKA : Kept (fun k => u8.ownBlock = some k) wr w4 := ((Kept.refl _ _).alloc _).grown hgr1 (fun k e => e)
      have H1 : Hid (w4.ownsRow w.heap.size 3 1 (.slice (some ⟨g1, 0, none⟩) (k + 1) cap1) (k + 1) (lmbs u (k + 1))) := by
        show World.ownsRow _ _ _ _ _ _ _
        rw [lmbs_snoc, ← E1.out]; exact hown1
      have H3 : Hid (Below w.heap.size w w4) := HB.out.trans (hKA.below HB.out.size (fun j e => by have := (HROW.out.lt j e).1; omega))
      clear hown1 hgr1 hwh1 hKA HR0 HN0 HO0 HZ1 HZ2 HZ3
      go_wp2
      exact ⟨⟨k + 1, by omega, by rw [E2.out], by go_num, H1.out, H3.out⟩, by simp only [intOf]; omega⟩
    · have e : k = 8 := by omega
      subst e
      obtain ⟨b8, hb8⟩ : ∃ b, b = ((C 8 : Int) == 0) := ⟨_, rfl⟩
      have E : Hid (b8 = R) := by
        show _ = _
        rw [← CE.out, hb8, Bool.eq_iff_iff]; simp
      have hh : ((C 8 : Int) == 0) = b8 := hb8.symm
      clear hrow hB hb8
      go_wp2
      refine bodyPost_ret (v := .tuple #[u8, .bool b8]) ?_ rfl ⟨u8, by rw [← E.out], HROW.out, HB.out⟩
      simp [results, Tryz.results45, go_sem]
end Go.Proofs.YtlgfpjaomiomjaaGreatDoor
