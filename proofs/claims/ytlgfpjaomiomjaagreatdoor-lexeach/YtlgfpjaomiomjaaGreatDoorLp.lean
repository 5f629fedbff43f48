/- Package lex: Tokens of any text. -/
import Derived.Test.YtlgfpjaomiomjaaGreatDoorLn
namespace Go.Proofs.YtlgfpjaomiomjaaGreatDoor
open Go.RowKit
set_option linter.unusedVariables false
set_option linter.unusedSimpArgs false

/-- What Tokens answers: the words, and the fault. -/
def tokR (l : List UInt8) : List Tk × (Nat × Nat × Nat) :=
  if 65536 < l.length then ([], (2, 0, 0)) else if (lexL l).2.1 = 0 then ((lexL l).1, (0, 0, 0)) else ([], (lexL l).2)
theorem ownsRow_low {w : World} {B C e z : Nat} {v : Value} {n : Nat} {xs : List Value} (h : w.ownsRow B e z v n xs) (hb : C ≤ B) : w.ownsRow C e z v n xs := by
  refine ⟨h.1, ?_⟩
  rcases h.2 with hn | ⟨g, cap, cur, rfl, hb2, rest⟩
  · exact .inl hn
  · exact .inr ⟨g, cap, cur, rfl, Nat.le_trans hb hb2, rest⟩
set_option maxHeartbeats 2000000 in
set_option maxRecDepth 100000 in
theorem tokens_any (s : ByteArray) (hs : s.size ≤ maxLen) (w : World) (hT : Tabs w) :
    Calls Tryz.prog 7 #[.string s] w fun e w' => ∃ sv, e = .returned (.tuple #[sv, .agg (fltA (tokR s.data.toList).2)]) ∧ w'.ownsRow w.heap.size 39 6 sv (tokR s.data.toList).1.length (tcells (tokR s.data.toList).1) ∧ Below w.heap.size w w' := by
  have hlen : s.data.toList.length = s.size := by simp
  unfold maxLen at hs
  have hpos := hT.pos
  by_cases h0 : 65536 < s.size
  · have q0 : (65536 : Int) < (s.size : Int) := by omega
    have E : Hid (tokR s.data.toList = ([], (2, 0, 0))) := by show _ = _; unfold tokR; rw [hlen, if_pos h0]
    generalize tokR s.data.toList = TR at *
    clear h0 hlen hT
    go_enter Tryz.func7, Tryz.ntmps7
    go_wp2
    refine bodyPost_ret (v := .tuple #[.slice none 0 0, .agg (fltA TR.2)]) ?_ rfl ⟨.slice none 0 0, rfl, ?_, ?_⟩
    · rw [E.out]; simp [results, Tryz.results7, go_sem]
    · rw [E.out]; exact World.ownsRow_nil _ _ _ _
    · go_grown
  have q0 : decide ((65536 : Int) < (s.size : Int)) = false := by simp; omega
  have hmf : ∀ (fn : Fn) (first cap : Array Value) (w : World), (Instr.makeFunc fn first cap).run Tryz.prog w = .ok (.func fn first cap) w := fun _ _ _ _ => rfl
  have hb0 : Below w.heap.size w ((w.alloc (.cells (fltA (0, 0, 0)) 28)).alloc (.cells #[.slice none 0 0] 31)) := ((Below.refl _ _).alloc (Nat.le_refl _) _).alloc (by simp) _
  have C : Hid (Calls Tryz.prog 12 #[.string s, .func (.func 13) #[] #[.pointer (some ⟨w.heap.size + 1, 0, none⟩)]] ((w.alloc (.cells (fltA (0, 0, 0)) 28)).alloc (.cells #[.slice none 0 0] 31)) fun e w' => e = .returned (.agg (fltA (lexL s.data.toList).2)) ∧ Hid (∃ sv, w'.ownsRow (w.heap.size + 2) 39 6 sv (lexL s.data.toList).1.length (tcells (lexL s.data.toList).1) ∧ Blk w' (w.heap.size + 1) #[sv] 31 ∧ Blk w' w.heap.size (fltA (0, 0, 0)) 28 ∧ Below w.heap.size w w')) := by
    have hbk : Blk ((w.alloc (.cells (fltA (0, 0, 0)) 28)).alloc (.cells #[.slice none 0 0] 31)) (w.heap.size + 1) #[.slice none 0 0] 31 := by
      simpa using Blk.new (w.alloc (.cells (fltA (0, 0, 0)) 28)) #[.slice none 0 0] 31
    have hbr : Blk ((w.alloc (.cells (fltA (0, 0, 0)) 28)).alloc (.cells #[.slice none 0 0] 31)) w.heap.size (fltA (0, 0, 0)) 28 := (Blk.new w _ _).below ((Below.refl _ _).alloc (Nat.le_refl _) _)
    refine (walk_any s (by omega) _ (hT.below hb0) (w.heap.size + 1) hbk (by omega)).mono ?_
    rintro e w' ⟨rfl, sv, hl, hk⟩
    refine ⟨rfl, sv, ownsRow_low hl.row (by simp), hl.blk, hbr.kept hk (by omega), hb0.trans (hk.below (by simp; omega) (fun k e => by omega))⟩
  have HE : Hid (tokR s.data.toList = if (lexL s.data.toList).2.1 = 0 then ((lexL s.data.toList).1, (0, 0, 0)) else ([], (lexL s.data.toList).2)) := by show _ = _; unfold tokR; rw [hlen, if_neg h0]
  generalize tokR s.data.toList = TR at *
  generalize lexL s.data.toList = TL at *
  clear h0 hlen hT hb0
  go_enter Tryz.func7, Tryz.ntmps7
  go_wp2_with fail
  refine C.out.mono ?_
  rintro e w1 ⟨rfl, H1⟩
  have hz1 : w.heap.size + 1 < w1.heap.size := by
    obtain ⟨sv, _, h2, _⟩ := H1.out
    exact h2.lt
  by_cases he : TL.2.1 = 0
  · have he' : ((TL.2.1 : Int) != 0) = false := by simp [he]
    have E : Hid (TR = (TL.1, (0, 0, 0))) := by show _ = _; rw [HE.out, if_pos he]
    obtain ⟨sv, hrow, hbl, hbr, hb⟩ := H1.out
    have HROW : Hid (w1.ownsRow (w.heap.size + 2) 39 6 sv TL.1.length (tcells TL.1)) := hrow
    have HB : Hid (Below w.heap.size w w1) := hb
    have k0 : (w1.alloc (.cells (fltA TL.2) 28)).cell? ⟨w.heap.size + 1, 0, none⟩ = some sv := (hbl.below ((Below.refl _ _).alloc (Nat.le_refl _) _)).cell 0 rfl
    have HBR : Hid (Blk (w1.alloc (.cells (fltA TL.2) 28)) w.heap.size (fltA (0, 0, 0)) 28) := hbr.below ((Below.refl _ _).alloc (Nat.le_refl _) _)
    clear he hrow hbl hbr hb H1
    go_wp2_with (refine wpList_store_row rfl 28 _ _ rfl w.heap.size _ rfl rfl 28 _ HBR.out info29 rfl one29 ?_)
    refine bodyPost_ret (v := .tuple #[sv, .agg (fltA TR.2)]) ?_ rfl ⟨sv, rfl, ?_, ?_⟩
    · rw [E.out]; simp [results, Tryz.results7, go_sem, row_back HBR.out]
    · rw [E.out]
      refine ownsRow_low (B := w.heap.size + 2) ?_ (by omega)
      refine ownsRow_kept (S := fun k => k = w.heap.size) (HROW.out.alloc _) (Kept.setRow (S := fun k => k = w.heap.size) (Kept.refl _ _) (.inl rfl) _) (fun k e he => ?_)
      have := (HROW.out.lt k e).1
      omega
    · exact below_setRow (HB.out.alloc (by omega) _) (Nat.le_refl _) _
  · have he' : ((TL.2.1 : Int) != 0) = true := by simp [he]
    have E : Hid (TR = ([], TL.2)) := by show _ = _; rw [HE.out, if_neg he]
    obtain ⟨sv, hrow, hbl, hbr, hb⟩ := H1.out
    have HB : Hid (Below w.heap.size w w1) := hb
    have HBR : Hid (Blk (w1.alloc (.cells (fltA TL.2) 28)) w.heap.size (fltA (0, 0, 0)) 28) := hbr.below ((Below.refl _ _).alloc (Nat.le_refl _) _)
    have r0 := HBR.out.cell 0 (v := .int .i64 0) rfl
    have r1 := HBR.out.cell 1 (v := .int .i64 0) rfl
    have r2 := HBR.out.cell 2 (v := .int .i64 0) rfl
    have g0 := HBR.out.frozen 0
    have g1 := HBR.out.frozen 1
    have g2 := HBR.out.frozen 2
    clear he hrow hbl hbr hb H1
    go_wp2
    go_region
    go_wp2
    have HC : Hid (Blk ((((w1.alloc (.cells (fltA TL.2) 28)).setCell ⟨w.heap.size, 0, none⟩ (.int .i64 (TL.2.1 : Int))).setCell ⟨w.heap.size, 1, none⟩ (.int .i64 (TL.2.2.1 : Int))).setCell ⟨w.heap.size, 2, none⟩ (.int .i64 (TL.2.2.2 : Int))) w.heap.size (fltA TL.2) 28) := ((HBR.out.set 0 _).set 1 _).set 2 _
    have c0 := HC.out.cell 0 (v := .int .i64 (TL.2.1 : Int)) rfl
    have c1 := HC.out.cell 1 (v := .int .i64 (TL.2.2.1 : Int)) rfl
    have c2 := HC.out.cell 2 (v := .int .i64 (TL.2.2.2 : Int)) rfl
    refine bodyPost_ret (v := .tuple #[.slice none 0 0, .agg (fltA TR.2)]) ?_ rfl ⟨.slice none 0 0, rfl, ?_, ?_⟩
    · rw [E.out]; simp [results, Tryz.results7, go_sem, c0, c1, c2]
    · rw [E.out]; exact World.ownsRow_nil _ _ _ _
    · exact ((((HB.out.alloc (by omega) _).setCell (Nat.le_refl _) _).setCell (Nat.le_refl _) _).setCell (Nat.le_refl _) _).drew
end Go.Proofs.YtlgfpjaomiomjaaGreatDoor
