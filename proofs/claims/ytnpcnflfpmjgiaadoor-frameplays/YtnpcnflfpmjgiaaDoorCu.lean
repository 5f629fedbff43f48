/- Three disks beside one another; an image's sectors; what DiskFlushes asks, plain. -/
import Derived.Test.YtnpcnflfpmjgiaaDoorCs
namespace Go.Proofs.YtnpcnflfpmjgiaaDoor
open Go.RowKit
set_option linter.unusedVariables false
set_option linter.unusedSimpArgs false

theorem Dk.lower {B B' : Nat} {w : World} {b : Nat} {fp : Nat → Prop} {S : DS} (d : Dk B w b fp S) (hb : B' ≤ B) : Dk B' w b fp S := by
  obtain ⟨g, h, cg, ch, pv, bx, rfl, d⟩ := d
  exact ⟨g, h, cg, ch, pv, bx, rfl, { d with
    rowG := ownsRow_low d.rowG hb
    rowH := ownsRow_low d.rowH hb
    rowP := ownsRow_low d.rowP hb
    xb := fun x hx => ⟨⟨Nat.le_trans hb (d.xb x hx).1.1, (d.xb x hx).1.2⟩, ⟨Nat.le_trans hb (d.xb x hx).2.1, (d.xb x hx).2.2⟩⟩
    low := Nat.le_trans hb d.low }⟩
/-- Three disks, apart. -/
def D3 (B : Nat) (w : World) (b1 b2 b3 : Nat) (S1 S2 S3 : DS) : Prop := ∃ f1 f2 f3, Dk B w b1 f1 S1 ∧ Dk B w b2 f2 S2 ∧ Dk B w b3 f3 S3 ∧ (∀ k, f1 k → ¬ f2 k) ∧ (∀ k, f1 k → ¬ f3 k) ∧ (∀ k, f2 k → ¬ f3 k)
section
variable {B : Nat} {w : World} {b1 b2 b3 : Nat} {S1 S2 S3 : DS}
theorem D3.p12 (h : D3 B w b1 b2 b3 S1 S2 S3) : D3 B w b2 b1 b3 S2 S1 S3 := by
  obtain ⟨f1, f2, f3, d1, d2, d3, h12, h13, h23⟩ := h
  exact ⟨f2, f1, f3, d2, d1, d3, fun k a b => h12 k b a, h23, h13⟩
theorem D3.p13 (h : D3 B w b1 b2 b3 S1 S2 S3) : D3 B w b3 b2 b1 S3 S2 S1 := by
  obtain ⟨f1, f2, f3, d1, d2, d3, h12, h13, h23⟩ := h
  exact ⟨f3, f2, f1, d3, d2, d1, fun k a b => h23 k b a, fun k a b => h13 k b a, fun k a b => h12 k b a⟩
theorem D3.below {w' : World} (h : D3 B w b1 b2 b3 S1 S2 S3) (hb : Below w.heap.size w w') : D3 B w' b1 b2 b3 S1 S2 S3 := by
  obtain ⟨f1, f2, f3, d1, d2, d3, h⟩ := h
  exact ⟨f1, f2, f3, d1.below hb, d2.below hb, d3.below hb, h⟩
theorem D3.act {K : Nat} {args : Array Value} {E : Ending} {S1' : DS} (h : D3 B w b1 b2 b3 S1 S2 S3) (hB : B ≤ w.heap.size) (op : ∀ f, Dk B w b1 f S1 → Calls Tryd.prog K args w fun e w' => e = E ∧ Left B b1 f w S1' w') :
    Calls Tryd.prog K args w fun e w' => e = E ∧ D3 B w' b1 b2 b3 S1' S2 S3 ∧ Below B w w' := by
  obtain ⟨f1, f2, f3, d1, d2, d3, h12, h13, h23⟩ := h
  refine (op f1 d1).mono ?_
  rintro e w' ⟨rfl, hL⟩
  have hl := hL.low d1 hB
  have e2 := d2.beside hL (fun k a b => h12 k b a)
  have e3 := d3.beside hL (fun k a b => h13 k b a)
  obtain ⟨f1', e1, k1, n1⟩ := hL
  refine ⟨rfl, ⟨f1', f2, f3, e1, e2, e3, fun k a b => ?_, fun k a b => ?_, h23⟩, hl⟩
  · rcases n1 k a with q | q
    · exact h12 k q b
    · have := (d2.fp k b).2; omega
  · rcases n1 k a with q | q
    · exact h13 k q b
    · have := (d3.fp k b).2; omega
theorem D3.read1 (h : D3 B w b1 b2 b3 S1 S2 S3) (hB : B ≤ w.heap.size) (n : Int) : Calls Tryd.prog 60 #[.pointer (some ⟨b1, 0, none⟩), .int .i64 n] w fun e w' => e = .returned (.tuple #[.string (readS S1 n), .int .i64 (refuseD S1 n)]) ∧ D3 B w' b1 b2 b3 (readD S1 n) S2 S3 ∧ Below B w w' := h.act hB (fun f d => read_any d n)
end
theorem catL_cons (a : ByteArray) (l : List ByteArray) : catL (a :: l) = a.data.toList ++ catL l := by simp [catL]
theorem addr_add (g t : Nat) : (⟨g, 0, none⟩ : Addr).add t = ⟨g, t, none⟩ := by unfold Addr.add; split <;> simp_all
/-- A sector of an image that was put together. -/
theorem catL_drop (l : List ByteArray) (h : ∀ s ∈ l, s.size = 512) (k : Nat) : (catL l).drop (k * 512) = catL (l.drop k) := by
  induction k generalizing l with
  | zero => simp
  | succ k ih =>
    match l with
    | [] => simp [catL]
    | a :: l =>
      have ha : a.data.toList.length = 512 := by have := h a (by simp); simpa using this
      rw [show catL (a :: l) = a.data.toList ++ catL l by simp [catL], show (k + 1) * 512 = 512 + k * 512 by omega, ← List.drop_drop, List.drop_left' ha, ih l (fun s hs => h s (by simp [hs]))]
      rfl
theorem sec_cat (l : List ByteArray) (h : ∀ s ∈ l, s.size = 512) (k : Nat) (hk : k < l.length) : sec (catB l) k = l.getD k ByteArray.empty := by
  apply ByteArray.ext
  apply Array.ext'
  unfold sec catB
  rw [ByteArray.data_extract, Array.toList_extract, List.extract_eq_take_drop]
  simp only []
  rw [catL_drop l h k, show (k + 1) * 512 - k * 512 = 512 by omega]
  rw [List.drop_eq_getElem_cons hk]
  have hs : (l[k]).data.toList.length = 512 := by have := h l[k] (List.getElem_mem hk); simpa using this
  rw [catL_cons, List.take_left' hs]
  rw [List.getD_eq_getElem?_getD, List.getElem?_eq_getElem hk]
  rfl
theorem secs_cat (l : List ByteArray) (h : ∀ s ∈ l, s.size = 512) : ∀ m, m ≤ l.length → secs (catB l) m = l.take m := by
  intro m
  induction m with
  | zero => intro _; simp [secs]
  | succ m ih =>
    intro hm
    rw [secs_succ, ih (by omega), sec_cat l h m (by omega), List.take_add_one, List.getD_eq_getElem?_getD, List.getElem?_eq_getElem (show m < l.length by omega)]
    rfl
theorem catB_size (l : List ByteArray) (h : ∀ s ∈ l, s.size = 512) : (catB l).size = l.length * 512 := by
  unfold catB; rw [ByteArray.size]; simp only [List.size_toArray]; exact catL_length h
/-- The newest of the first k writes into the sector i. -/
def want (n : Nat) (ps : List Pu) (i k : Nat) : ByteArray := (over (List.replicate n zero512) ((ps.take k).map (lw n))).getD i ByteArray.empty
theorem want_zero (n : Nat) (ps : List Pu) (i : Nat) (hi : i < n) : want n ps i 0 = zero512 := by
  unfold want; simp [over, List.getD_eq_getElem?_getD, hi]
theorem want_succ (n : Nat) (ps : List Pu) (i k : Nat) (p : Pu) (hp : ps[k]? = some p) (hi : i < n) : want n ps i (k + 1) = if (pickI p.n n).toNat = i then fullB p.f p.e else want n ps i k := by
  unfold want
  have ht : (ps.take (k + 1)).map (lw n) = (ps.take k).map (lw n) ++ [lw n p] := by rw [List.take_add_one, hp]; simp
  rw [ht, over_snoc]
  have hl : (over (List.replicate n zero512) ((ps.take k).map (lw n))).length = n := by rw [length_over, List.length_replicate]
  show ((over (List.replicate n zero512) ((ps.take k).map (lw n))).set (pickI p.n n).toNat (fullB p.f p.e)).getD i ByteArray.empty = _
  rw [List.getD_eq_getElem?_getD, List.getElem?_set]
  split
  · rename_i e; rw [if_pos (by omega)]; rfl
  · rw [List.getD_eq_getElem?_getD]
theorem conv_zero {w : World} {g : Nat} (h : w.ownsRow g 5 1 (.slice (some ⟨g, 0, none⟩) 512 512) 512 (List.replicate 512 (.int .u8 0))) : (convert 58 9 (.slice (some ⟨g, 0, none⟩) 512 512)).run Tryd.prog w = .ok (.string zero512) w := by
  have := run_convert_bytes_back (P := Tryd.prog) w 58 9 5 ⟨g, 0, none⟩ 512 (List.replicate 512 0) Tryd.underlying58 Tryd.underlying5 Tryd.underlying9 (fun t ht => by
    rw [List.length_replicate] at ht
    rw [addr_add, h.cellAt t (by omega), List.getElem?_replicate, if_pos ht, List.getElem_replicate]
    rfl)
  rw [List.length_replicate, show (⟨(List.replicate 512 (0 : UInt8)).toArray⟩ : ByteArray) = zero512 by unfold zero512; rw [← List.toArray_replicate]] at this
  exact this
end Go.Proofs.YtnpcnflfpmjgiaaDoor
