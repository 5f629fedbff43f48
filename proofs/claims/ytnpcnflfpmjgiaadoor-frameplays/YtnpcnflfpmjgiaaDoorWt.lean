/- The walk of FrameWhole: true; older memory is as it was. -/
import Derived.Test.YtnpcnflfpmjgiaaDoorWr
import Derived.Lib.BufferWrite
import Derived.Laws.CopyOwn
namespace Go.Proofs.YtnpcnflfpmjgiaaDoor
open Go.RowKit
set_option linter.unusedVariables false
set_option linter.unusedSimpArgs false

/-- 'copy(dst, s)' of a text into a row, as many bytes as there is room for. -/
theorem run_copy_text (w : World) (ty : TypeId) (g o dLen dCap : Nat) (s : ByteArray) (cur : Array Value)
    (hg : w.heap[g]? = some (.cells cur 5 (0, 0))) (hfit : o + dLen ≤ cur.size) :
    (Builtin.copy_ #[58, 9] ty #[.slice (some ⟨g, o, none⟩) dLen dCap, .string s]).run Tryd.prog w =
      .ok (goInt (Nat.min s.size dLen)) (w.setRow g (cur.toList.take o ++ u8s (s.data.toList.take (Nat.min s.size dLen)) ++ cur.toList.drop (o + Nat.min s.size dLen)).toArray) := by
  have hu : Tryd.prog.underlying 58 = some (.slice 5) := Tryd.underlying58
  have hlen : (u8s (s.data.toList.take (Nat.min s.size dLen))).length = Nat.min s.size dLen := by
    rw [u8s_length, List.length_take, show s.data.toList.length = s.size from rfl]
    exact Nat.min_eq_left (Nat.min_le_left _ _)
  have hle : Nat.min s.size dLen ≤ dLen := Nat.min_le_right _ _
  have hst := run_storeCells_at Tryd.prog g o 5 (u8s (s.data.toList.take (Nat.min s.size dLen))) 0 cur w hg (by rw [hlen]; omega) (by
    intro v hv
    simp only [u8s, List.mem_map] at hv
    obtain ⟨b, _, rfl⟩ := hv
    rfl)
  rw [hlen] at hst
  simp only [Nat.add_zero] at hst
  have htk : List.take (Nat.min s.size dLen) (List.map (fun b : UInt8 => Value.int IntKind.u8 (b.toNat : Int)) s.data.toList) = u8s (s.data.toList.take (Nat.min s.size dLen)) := by
    rw [← List.map_take]; rfl
  have hq0 : (Tryd.prog.info? 5).map (·.size) = some 1 := by kernel_rfl
  cases hq : Tryd.prog.info? 5 with
  | none => simp [hq] at hq0
  | some i =>
    simp [Builtin.copy_, run_underlying hu, Builtin.lenOf, Builtin.firstCells, sizeOf, typeInfo, hq]
    simp only [← List.map_take]
    rw [show List.map (fun b : UInt8 => Value.int IntKind.u8 (b.toNat : Int)) (List.take (Nat.min s.size dLen) s.data.toList) = u8s (List.take (Nat.min s.size dLen) s.data.toList) from rfl, hst]
    simp [Result.andThen, List.append_assoc]
set_option maxRecDepth 20000 in
/-- The text of such a row, behind the copy. -/
theorem copy_text {wm : World} {B g : Nat} (s : ByteArray) (h : wm.ownsRow B 5 1 (.slice (some ⟨g, 0, none⟩) 1024 1024) 1024 (u8s (List.replicate 1024 0))) :
    ∃ (cs : Array Value) (T : ByteArray) (n : Nat), T.size = 2 * 512 ∧ (Builtin.copy_ #[58, 9] 3 #[.slice (some ⟨g, 512, none⟩) 512 512, .string s]).run Tryd.prog wm = .ok (goInt n) (wm.setRow g cs) ∧
      (convert 58 9 (.slice (some ⟨g, 0, none⟩) 1024 1024)).run Tryd.prog (wm.setRow g cs) = .ok (.string T) (wm.setRow g cs) := by
  rcases h.2 with ⟨e, _⟩ | ⟨g', cap, cur, e, _, hg, _, _, hsz, htk⟩
  · cases e
  · injection e with e1 e2 e3
    injection e1 with e1
    injection e1 with e1
    subst e1
    subst e3
    have hcs : cur.size = 1024 := by omega
    have hcl : cur.toList = u8s (List.replicate 1024 0) := by rw [← htk, List.take_of_length_le (by simp [hcs])]
    have hmin : Nat.min s.size 512 ≤ 512 := Nat.min_le_right _ _
    have hmin2 : Nat.min s.size 512 ≤ s.size := Nat.min_le_left _ _
    have hC := run_copy_text wm 3 g 512 512 512 s cur hg (by omega)
    generalize Nat.min s.size 512 = n at *
    have hst : (s.data.toList.take n).length = n := by rw [List.length_take, show s.data.toList.length = s.size from rfl]; omega
    have hT : (cur.toList.take 512 ++ u8s (s.data.toList.take n) ++ cur.toList.drop (512 + n)) = u8s (List.replicate 512 0 ++ s.data.toList.take n ++ List.replicate (512 - n) 0) := by
      rw [hcl]
      unfold u8s
      rw [List.map_append, List.map_append, ← List.map_take, ← List.map_drop, List.take_replicate, List.drop_replicate]
      rw [show min 512 1024 = 512 from rfl, show 1024 - (512 + n) = 512 - n by omega]
    have hl : (List.replicate 512 (0 : UInt8) ++ s.data.toList.take n ++ List.replicate (512 - n) 0).length = 1024 := by simp only [List.length_append, List.length_replicate, hst]; omega
    rw [hT] at hC
    refine ⟨_, ⟨(List.replicate 512 0 ++ s.data.toList.take n ++ List.replicate (512 - n) 0).toArray⟩, n, ?_, hC, ?_⟩
    · show (List.toArray _).size = _
      rw [List.size_toArray, hl]
    · generalize (List.replicate 512 (0 : UInt8) ++ s.data.toList.take n ++ List.replicate (512 - n) 0) = lT at *
      have hh := setRow_heap wm g cur (u8s lT).toArray 5 (0, 0) hg
      have := run_convert_bytes_back (P := Tryd.prog) (wm.setRow g (u8s lT).toArray) 58 9 5 ⟨g, 0, none⟩ 1024 lT Tryd.underlying58 Tryd.underlying5 Tryd.underlying9 (fun t ht => by
        rw [addr_at, cell_of_row _ g t _ 5 (0, 0) hh]
        simp [u8s, List.getElem?_eq_getElem ht, u8v])
      rw [hl] at this
      exact this
/-- Arguments of FrameWhole. -/
def FrO (w : World) (l : List Fr) (a : Option Addr) : Prop := l = [] ∨ ∃ bb off, a = some ⟨bb, off, none⟩ ∧ bb < w.heap.size ∧ FrM w bb off l
theorem FrO.at {w w' : World} {l : List Fr} {a : Option Addr} {fp : Nat → Prop} (h : FrO w l a) (hk : Kept fp w w') (hn : ∀ k, fp k → w.heap.size ≤ k) : l = [] ∨ ∃ bb off, a = some ⟨bb, off, none⟩ ∧ bb < w.heap.size ∧ FrM w' bb off l := by
  rcases h with h | ⟨bb, off, e, hb, h⟩
  · exact .inl h
  · exact .inr ⟨bb, off, e, hb, h.kept hk (fun q => by have := hn bb q; omega)⟩
theorem FtO.at {w w' : World} {l : List (Int × Int)} {a : Option Addr} {fp : Nat → Prop} (h : FtO w l a) (hk : Kept fp w w') (hn : ∀ k, fp k → w.heap.size ≤ k) : l = [] ∨ ∃ fb off, a = some ⟨fb, off, none⟩ ∧ fb < w.heap.size ∧ Fts w' fb off l := by
  rcases h with h | ⟨bb, off, e, hb, h⟩
  · exact .inl h
  · exact .inr ⟨bb, off, e, hb, fun i kd t hi => ⟨hk.cell (h i kd t hi).1 (fun q => by have := hn bb q; omega), hk.cell (h i kd t hi).2 (fun q => by have := hn bb q; omega)⟩⟩
set_option maxHeartbeats 4000000 in
set_option maxRecDepth 100000 in
theorem whole_walk (s : ByteArray) (hs : s.size ≤ 140737488351232) (l1 l2 : List Fr) (f1 f2 : List (Int × Int)) (a1 a2 a3 a4 : Option Addr) (c1 c2 c3 c4 : Nat) (w : World) (hT : Tab w)
    (h1 : FrO w l1 a1) (h2 : FtO w f1 a2) (h3 : FrO w l2 a3) (h4 : FtO w f2 a4) (i1 : ∀ f ∈ l1, I64 f.kind ∧ I64 f.idx ∧ f.num < 18446744073709551616) (i2 : ∀ f ∈ l2, I64 f.kind ∧ I64 f.idx ∧ f.num < 18446744073709551616) (n1 : l1.length ≤ 9223372036854775807) (n2 : l2.length ≤ 9223372036854775807) :
    Calls Tryd.prog 9 #[.string s, .slice a1 l1.length c1, .slice a2 f1.length c2, .slice a3 l2.length c3, .slice a4 f2.length c4] w fun e w' => e = .returned (.bool true) ∧ Below w.heap.size w w' := by
  obtain ⟨i5, hi5, hz50, hz51, hz53⟩ := info_parts info5f
  have hB1 := hT.pos
  have CA : Hid (∀ w : World, Tab w → Calls Tryd.prog 12 #[] w fun e w' => e = .returned (.bool true) ∧ Below w.heap.size w w') := awake_any
  have CL : Hid (∀ (T : ByteArray) (w1 : World), T.size = 2 * 512 → w.heap.size ≤ w1.heap.size → Calls Tryd.prog 30 #[.string T] w1 fun e w' => Made w.heap.size w1 (freshD (secs T 2)) e w') := fun T w1 hT h => load_ok T 2 hT (by decide) (by decide) w.heap.size w1 h
  have CW1 : Hid (∀ (b : Nat) (fp : Nat → Prop) (S : DS) (x o : ByteArray) (w1 : World), Dk w.heap.size w1 b fp S → Wd S x o [] [] → Kept fp w w1 → Calls Tryd.prog 31 #[.pointer (some ⟨b, 0, none⟩), .slice a1 l1.length c1, .slice a2 f1.length c2] w1 fun e w' => e = .returned (.bool true) ∧ ∃ S' o', Left w.heap.size b fp w1 S' w' ∧ Wd S' x o' [] []) := by
    intro b fp S x o w1 d hW hk
    have hn : ∀ k, fp k → w.heap.size ≤ k := fun k h => (d.fp k h).1
    exact whole_any d x o hW (hT.kept hk (fun e => by have := hn 1 e; omega)) hB1 hk.size l1 i1 a1 c1 (h1.at hk hn) n1 f1 a2 c2 (h2.at hk hn)
  have CW2 : Hid (∀ (b : Nat) (fp : Nat → Prop) (S : DS) (x o : ByteArray) (w1 : World), Dk w.heap.size w1 b fp S → Wd S x o [] [] → Kept fp w w1 → Calls Tryd.prog 31 #[.pointer (some ⟨b, 0, none⟩), .slice a3 l2.length c3, .slice a4 f2.length c4] w1 fun e w' => e = .returned (.bool true) ∧ ∃ S' o', Left w.heap.size b fp w1 S' w' ∧ Wd S' x o' [] []) := by
    intro b fp S x o w1 d hW hk
    have hn : ∀ k, fp k → w.heap.size ≤ k := fun k h => (d.fp k h).1
    exact whole_any d x o hW (hT.kept hk (fun e => by have := hn 1 e; omega)) hB1 hk.size l2 i2 a3 c3 (h3.at hk hn) n2 f2 a4 c4 (h4.at hk hn)
  clear h1 h2 h3 h4 i1 i2 n1 n2 hs
  go_enter Tryd.func9, Tryd.ntmps9
  go_wp2_with fail
  refine (CA.out _ hT).mono ?_
  rintro e w1 ⟨rfl, hb1⟩
  clear CA hT
  go_wp2_with (at_make; refine wpList_make_full _ rfl _ _ 58 rfl w1.heap.size 5 i5 (.int .u8 0) 1 Tryd.underlying58 hi5 hz50 hz51 _ _ _ _ 1024 rfl rfl rfl rfl ?c1 ?c2 ?c3 ?_)
  case c1 => rw [hz53]; omega
  case c2 => unfold maxLen; omega
  case c3 => omega
  intro wm hown hgrow
  rw [made0] at hown
  have hbm : Below w.heap.size w wm := hb1.grown hgrow hb1.size (fun _ h => by cases h)
  obtain ⟨cs, T, n, hTs, hcp, hcv⟩ := copy_text s hown
  have hB2 : Below w.heap.size w (wm.setRow w1.heap.size cs) := below_setRow hbm hb1.size cs
  clear hown hgrow hbm
  go_wp2_with fail
  generalize wm.setRow w1.heap.size cs = W2 at *
  refine (CL.out T _ hTs hB2.size).mono ?_
  rintro e w3 ⟨b, fp, rfl, hd3, hfp3, hb3⟩
  have hB3 : Below w.heap.size w w3 := hB2.trans (hb3.mono hB2.size)
  have hk3 : Kept fp w w3 := Kept.of_below ⟨hB3.os, hB3.tape, hB3.output, hB3.size, hB3.block⟩
  have hW3 : Wd (freshD (secs T 2)) (sec T 0) (sec T 1) [] [] := Wd.start (live_fresh (by rw [secs_length]; decide) (by rw [secs_length]; decide) (secs_size hTs)) rfl rfl
  have C1 : Hid (Calls Tryd.prog 31 #[.pointer (some ⟨b, 0, none⟩), .slice a1 l1.length c1, .slice a2 f1.length c2] w3 fun e w' => e = .returned (.bool true) ∧ ∃ S' o', Left w.heap.size b fp w3 S' w' ∧ Wd S' (sec T 0) o' [] []) := CW1.out b fp _ _ _ w3 hd3 hW3 hk3
  have HE : Hid (∀ (k : Nat), fp k → w.heap.size ≤ k) := fun k h => (hd3.fp k h).1
  clear CW1 hd3 hfp3 hb3 hW3 hTs hB2 CL hcp hcv
  unfold pt
  go_wp2_with fail
  refine C1.out.mono ?_
  rintro e w4 ⟨rfl, S4, o4, hL4, hW4⟩
  obtain ⟨fp4, hd4, hk4, hn4⟩ := hL4
  have hk5 : Kept fp4 w w4 := by
    have h := hk3.trans hk4
    exact ⟨h.os, h.tape, h.output, h.size, fun i hi hs => h.block i hi (fun e => by have := HE.out i e; omega)⟩
  have C2 : Hid (Calls Tryd.prog 31 #[.pointer (some ⟨b, 0, none⟩), .slice a3 l2.length c3, .slice a4 f2.length c4] w4 fun e w' => e = .returned (.bool true) ∧ ∃ S' o', Left w.heap.size b fp4 w4 S' w' ∧ Wd S' (sec T 0) o' [] []) := CW2.out b fp4 _ _ _ w4 hd4 hW4 hk5
  have HE4 : Hid (∀ (k : Nat), fp4 k → w.heap.size ≤ k) := fun k h => (hd4.fp k h).1
  clear C1 CW2 hd4 hW4 hn4 hk4 hk3
  go_wp2_with fail
  refine C2.out.mono ?_
  rintro e w5 ⟨rfl, S5, o5, hL5, hW5⟩
  have hk6 := hL5.keeps
  have hB6 : Below w.heap.size w w5 := (hk5.trans hk6).below (Nat.le_refl _) HE4.out
  clear C2 hL5 hW5 hk5 hk6
  go_wp2
  go_ret
  exact ⟨rfl, hB6⟩
end Go.Proofs.YtnpcnflfpmjgiaaDoor
