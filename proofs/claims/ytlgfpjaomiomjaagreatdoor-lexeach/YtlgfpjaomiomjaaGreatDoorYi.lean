/- The document's Tokens. -/
import Derived.Test.YtlgfpjaomiomjaaGreatDoorYh
namespace Go.Proofs.YtlgfpjaomiomjaaGreatDoor
open Go.RowKit
set_option linter.unusedVariables false
set_option linter.unusedSimpArgs false

theorem lex_zero : ∀ (f : Nat) (p : Nat × Nat) (l : List UInt8), (lexF f p l).2.1 = 0 → (lexF f p l).2 = (0, 0, 0)
  | 0, p, l, _ => rfl
  | f + 1, p, l, h => by
    by_cases h0 : l.drop (gapL false l) = []
    · rw [lex_end h0]
    · by_cases he : (firstW (l.drop (gapL false l))).e = 0
      · rw [lex_word rfl h0 rfl he rfl] at h ⊢
        exact lex_zero f _ _ h
      · rw [lex_fault rfl h0 he] at h
        exact absurd h he
/-- What Some answers. -/
def someR (l : List UInt8) : List Tk × (Nat × Nat × Nat) := if 65536 < l.length then ([], (2, 0, 0)) else lexL l
theorem rsome_all (s : ByteArray) (hs : s.size ≤ maxLen) (w : World) :
    Calls Tryz.prog 9 #[.string s] w fun e w' => ∃ sv p, e = .returned (.tuple #[sv, .agg (fltA (someR s.data.toList).2), Pl p]) ∧ w'.ownsRow w.heap.size 47 6 sv (someR s.data.toList).1.length (tcells (someR s.data.toList).1) ∧ Below w.heap.size w w' := by
  unfold maxLen at hs
  have hlen : s.data.toList.length = s.size := by simp
  by_cases h0 : 65536 < s.size
  · have q0 : (65536 : Int) < (s.size : Int) := by omega
    have E : Hid (someR s.data.toList = ([], (2, 0, 0))) := by show _ = _; unfold someR; rw [hlen, if_pos h0]
    generalize someR s.data.toList = T at *
    clear hlen h0
    go_enter Tryz.func9, Tryz.ntmps9
    go_wp2
    refine bodyPost_ret (v := .tuple #[.slice none 0 0, .agg (fltA (2, 0, 0)), Pl (0, 0)]) ?_ rfl ⟨.slice none 0 0, (0, 0), by rw [E.out], ?_, ?_⟩
    · simp [results, Tryz.results9, go_sem]
    · rw [E.out]; exact World.ownsRow_nil _ _ _ _
    · go_grown
  · have := rsome_any s (by omega) w
    unfold someR
    rw [hlen, if_neg h0]
    exact this
theorem some_tok (l : List UInt8) : tokR l = if (someR l).2.1 = 0 then (someR l) else ([], (someR l).2) := by
  unfold tokR someR
  by_cases h : 65536 < l.length
  · rw [if_pos h, if_pos h]; rfl
  · rw [if_neg h, if_neg h]
    by_cases h0 : (lexL l).2.1 = 0
    · rw [if_pos h0, if_pos h0]
      exact Prod.ext rfl (lex_zero _ _ _ h0).symm
    · rw [if_neg h0, if_neg h0]
set_option maxHeartbeats 2000000 in
theorem rtokens_any (s : ByteArray) (hs : s.size ≤ maxLen) (w : World) :
    Calls Tryz.prog 6 #[.string s] w fun e w' => ∃ sv, e = .returned (.tuple #[sv, .agg (fltA (tokR s.data.toList).2)]) ∧ w'.ownsRow w.heap.size 47 6 sv (tokR s.data.toList).1.length (tcells (tokR s.data.toList).1) ∧ Below w.heap.size w w' := by
  have CS : Hid (∀ w, Calls Tryz.prog 9 #[.string s] w fun e w' => ∃ sv p, e = .returned (.tuple #[sv, .agg (fltA (someR s.data.toList).2), Pl p]) ∧ w'.ownsRow w.heap.size 47 6 sv (someR s.data.toList).1.length (tcells (someR s.data.toList).1) ∧ Below w.heap.size w w') := fun w => rsome_all s hs w
  have E : Hid (tokR s.data.toList = if (someR s.data.toList).2.1 = 0 then (someR s.data.toList) else ([], (someR s.data.toList).2)) := some_tok _
  have HB0 : Hid (Below w.heap.size w (w.alloc (.cells (fltA (0, 0, 0)) 28))) := (Below.refl _ _).alloc (Nat.le_refl _) _
  have HZ0 : Hid (Blk (w.alloc (.cells (fltA (0, 0, 0)) 28)) w.heap.size (fltA (0, 0, 0)) 28) := Blk.new _ _ _
  generalize tokR s.data.toList = T at *
  generalize someR s.data.toList = S at *
  obtain ⟨ts, e, l, c⟩ := S
  go_enter Tryz.func6, Tryz.ntmps6
  go_wp2_with fail
  refine (CS.out _).mono ?_
  rintro e' w2 ⟨sv, p, rfl, hrow, hb2⟩
  have HR : Hid (((w2.alloc (.cells (fltA (e, l, c)) 28)).alloc (.cells (plA p) 26)).ownsRow w.heap.size 47 6 sv ts.length (tcells ts)) := ((ownsRow_low hrow (by simp)).alloc _).alloc _
  have HB : Hid (Below w.heap.size w ((w2.alloc (.cells (fltA (e, l, c)) 28)).alloc (.cells (plA p) 26))) := bst (bst HB0.out hb2 (by simp)) (((Below.refl w2.heap.size w2).alloc (Nat.le_refl _) _).alloc (by simp) _) (Nat.le_refl _)
  have HZ : Hid (Blk ((w2.alloc (.cells (fltA (e, l, c)) 28)).alloc (.cells (plA p) 26)) w.heap.size (fltA (0, 0, 0)) 28) := (HZ0.out.below hb2).below (((Below.refl w2.heap.size w2).alloc (Nat.le_refl _) _).alloc (by simp) _)
  have HF : Hid (Blk ((w2.alloc (.cells (fltA (e, l, c)) 28)).alloc (.cells (plA p) 26)) w2.heap.size (fltA (e, l, c)) 28) := (Blk.new _ _ _).below ((Below.refl _ _).alloc (Nat.le_refl _) _)
  have hwl : w.heap.size < w2.heap.size := (HZ0.out.below hb2).lt
  have HRB : Hid (w.heap.size + 1 ≤ w2.heap.size ∧ ∀ k, sv.ownBlock = some k → w.heap.size + 1 ≤ k) := ⟨hwl, fun k e => by have := (hrow.lt k e).1; simpa using this⟩
  clear hrow hb2 CS HB0 HZ0
  go_upto_region 2 with fail
  generalize (w2.alloc (.cells (fltA (e, l, c)) 28)).alloc (.cells (plA p) 26) = W at *
  generalize w2.heap.size = fb at *
  have c0 := HF.out.cell 0 (v := .int .i64 (e : Int)) rfl
  have c1 := HF.out.cell 1 (v := .int .i64 (l : Int)) rfl
  have c2 := HF.out.cell 2 (v := .int .i64 (c : Int)) rfl
  have z0 := HZ.out.cell 0 (v := .int .i64 0) rfl
  have z1 := HZ.out.cell 1 (v := .int .i64 0) rfl
  have z2 := HZ.out.cell 2 (v := .int .i64 0) rfl
  have y0 := HZ.out.frozen 0
  have y1 := HZ.out.frozen 1
  have y2 := HZ.out.frozen 2
  have HK : Hid (Kept (fun j => j = w.heap.size) W (((W.setCell ⟨w.heap.size, 0, none⟩ (.int .i64 (e : Int))).setCell ⟨w.heap.size, 1, none⟩ (.int .i64 (l : Int))).setCell ⟨w.heap.size, 2, none⟩ (.int .i64 (c : Int)))) := ((Kept.refl (fun j => j = w.heap.size) W).set rfl _).set rfl _ |>.set rfl _
  have HX : Hid (Blk (((W.setCell ⟨w.heap.size, 0, none⟩ (.int .i64 (e : Int))).setCell ⟨w.heap.size, 1, none⟩ (.int .i64 (l : Int))).setCell ⟨w.heap.size, 2, none⟩ (.int .i64 (c : Int))) w.heap.size (fltA (e, l, c)) 28) := ((HZ.out.set 0 _).set 1 _).set 2 _
  by_cases h0 : e = 0
  · have ET : Hid (T = (ts, (e, l, c))) := by show _ = _; rw [E.out, if_pos h0]
    have q0 : ((e : Int) != 0) = false := by simp [h0]
    clear h0 E
    go_wp2
    go_region
    go_wp2
    refine bodyPost_ret (v := .tuple #[sv, .agg (fltA (e, l, c))]) ?_ rfl ⟨sv, by rw [ET.out], ?_, (HB.out.trans (HK.out.below HB.out.size (by omega))).drew⟩
    · simp [results, Tryz.results6, go_sem, HX.out.cell 0 (v := .int .i64 (e : Int)) rfl, HX.out.cell 1 (v := .int .i64 (l : Int)) rfl, HX.out.cell 2 (v := .int .i64 (c : Int)) rfl]
    · rw [ET.out]
      exact ownsRow_kept HR.out HK.out.drew (fun k e2 e3 => by have := HRB.out.2 k e2; omega)
  · have ET : Hid (T = ([], (e, l, c))) := by show _ = _; rw [E.out, if_neg h0]
    have q0 : ((e : Int) != 0) = true := by simp [h0]
    clear h0 E
    go_wp2
    go_region
    go_wp2
    refine bodyPost_ret (v := .tuple #[.slice none 0 0, .agg (fltA (e, l, c))]) ?_ rfl ⟨.slice none 0 0, by rw [ET.out], ?_, (HB.out.trans (HK.out.below HB.out.size (by omega))).drew⟩
    · simp [results, Tryz.results6, go_sem, HX.out.cell 0 (v := .int .i64 (e : Int)) rfl, HX.out.cell 1 (v := .int .i64 (l : Int)) rfl, HX.out.cell 2 (v := .int .i64 (c : Int)) rfl]
    · rw [ET.out]; exact World.ownsRow_nil _ _ _ _
end Go.Proofs.YtlgfpjaomiomjaaGreatDoor
