/- The walk of whole: frames put into a sector, a crash: true. -/
import Derived.Test.YtnpcnflfpmjgiaaDoorWp
import Derived.Test.YtnpcnflfpmjgiaaDoorWq
import Derived.Test.YtnpcnflfpmjgiaaDoorCw
namespace Go.Proofs.YtnpcnflfpmjgiaaDoor
open Go.RowKit
set_option linter.unusedVariables false
set_option linter.unusedSimpArgs false

theorem run_neF (a c d e : Int) (b f : ByteArray) (n m : Nat) (w : World) : (binOp .neq 24 (.agg #[.int .i64 a, .int .u64 (n : Int), .int .i64 c, .string b]) (.agg #[.int .i64 d, .int .u64 (m : Int), .int .i64 e, .string f])).run Tryd.prog w = .ok (.bool (!((a == d) && ((n : Int) == (m : Int)) && (c == e) && (b.toList == f.toList)))) w := by
  have hS : Tryd.prog.underlying 24 = some (.struct (Tryd.prog.fieldsOf 24)) := by kernel_rfl
  have hp : Tryd.prog.stoodInHeld 24 = false := by kernel_rfl
  have u := Tryd.underlying3
  have u2 := Tryd.underlying22
  have u3 := Tryd.underlying9
  have h : (Op.equalIn 10000 24 (.agg #[.int .i64 a, .int .u64 (n : Int), .int .i64 c, .string b]) (.agg #[.int .i64 d, .int .u64 (m : Int), .int .i64 e, .string f])).run Tryd.prog w = .ok (a == d && (n : Int) == (m : Int) && c == e && b.toList == f.toList) w := by
    rw [show (10000 : Nat) = 9999 + 1 from rfl, run_equalIn_struct w 9999 24 _ _ hS hp]
    simp only [Program.fieldsOf, Tryd.underlying24]
    go_simp
    by_cases h1 : a = d <;> by_cases h2 : (n : Int) = (m : Int) <;> by_cases h3 : c = e <;> by_cases h4 : b.toList = f.toList <;> simp [h1, h2, h3, h4]
  simp only [binOp]
  simp [Op.equal, Op.maxDepth, h]
theorem sameF_eq {f g : Fr} (h : sameF f g = true) : f = g := by
  obtain ⟨a, b, c, d⟩ := f
  obtain ⟨e, i, j, k⟩ := g
  unfold sameF at h
  simp only [Bool.and_eq_true, beq_iff_eq] at h
  obtain ⟨⟨⟨h1, h2⟩, h3⟩, h4⟩ := h
  rw [ByteArray.toList_eq, ByteArray.toList_eq] at h4
  have h4' : d = k := list_ext h4
  have h2' : b = i := by omega
  subst h1 h2' h3 h4'
  rfl
theorem info24 : (Tryd.prog.info? 24).map (fun i => (i.zero, i.size, i.bytes)) = some (some (.agg #[.int .i64 0, .int .u64 0, .int .i64 0, .string ⟨#[]⟩]), 4, 40) := by kernel_rfl
/-- Frames as an argument. -/
def FrV (w : World) (l : List Fr) (a : Option Addr) : Prop := l = [] ∨ ∃ bb off, a = some ⟨bb, off, none⟩ ∧ bb < w.heap.size ∧ FrM w bb off l
set_option maxHeartbeats 8000000 in
set_option maxRecDepth 100000 in
theorem whole_any {B : Nat} {w : World} {b : Nat} {fp : Nat → Prop} {S : DS} (d : Dk B w b fp S) (x o : ByteArray) (hW : Wd S x o [] []) (hT : Tab w) (hB : 1 < B) (hBw : B ≤ w.heap.size)
    (l : List Fr) (hl : ∀ f ∈ l, I64 f.kind ∧ I64 f.idx ∧ f.num < 18446744073709551616) (a : Option Addr) (c : Nat) (hv : l = [] ∨ ∃ bb off, a = some ⟨bb, off, none⟩ ∧ bb < B ∧ FrM w bb off l) (hlen : l.length ≤ 9223372036854775807)
    (fs : List (Int × Int)) (a2 : Option Addr) (c2 : Nat) (hf : fs = [] ∨ ∃ fb off, a2 = some ⟨fb, off, none⟩ ∧ fb < B ∧ Fts w fb off fs) :
    Calls Tryd.prog 31 #[.pointer (some ⟨b, 0, none⟩), .slice a l.length c, .slice a2 fs.length c2] w fun e w' => e = .returned (.bool true) ∧ ∃ S' o', Left B b fp w S' w' ∧ Wd S' x o' [] [] := by
  obtain ⟨i24, hi24, hz0, hz1, hz3⟩ := info_parts info24
  have hfp : Hid (∀ k, fp k → B ≤ k) := fun k h => (d.fp k h).1
  have HG0 : Hid (Calls Tryd.prog 35 #[.pointer (some ⟨b, 0, none⟩), .int .i64 1] w fun e w' => e = .returned (.tuple #[.agg #[.int .i64 (openR o).kind, .int .u64 (openR o).num, .int .i64 (openR o).idx, .string (openR o).body], .int .i64 (openE o)]) ∧ Hid (Wl B b fp w w' (readD S 1) (.slice none 0 0) [] [])) := by
    have hg := hW.live.get (m := 1) hW.two
    rw [show ((1 : Nat) : Int) = 1 from rfl, hW.shown] at hg
    refine ((Wl.start d).after (E := fun e => e = .returned (.tuple #[frV (getF S 1), .int .i64 (getE S 1)])) (S' := readD S 1) (fun fp' d' => get_any d' 1 hT hB)).mono ?_
    rintro e w' ⟨rfl, h⟩
    rw [hg.1, hg.2]
    exact ⟨rfl, h⟩
  have HTab : Hid (∀ (wx : World) (S : DS) (pv : Value) (m : List Fr) (bs : List (Nat × Fr)), Wl B b fp w wx S pv m bs → Tab wx ∧ (∀ bb off, bb < B → FrM w bb off l → FrM wx bb off l) ∧ w.heap.size ≤ wx.heap.size) := fun wx S pv m bs h => ⟨hT.kept h.kept (fun e => by have := hfp.out 1 e; omega), fun bb off hb hm => hm.kept h.kept (fun e => by have := hfp.out bb e; omega), h.kept.size⟩
  generalize hoE : openE o = E0 at *
  generalize hoR : openR o = F0 at *
  have HOE : Hid (openE o = E0 ∧ openR o = F0) := ⟨hoE, hoR⟩
  have HW0 : Hid (Wd (readD S 1) x o [] []) := hW.read 1
  obtain ⟨k0, n0, i0, b0⟩ := F0
  simp only at HG0
  clear hoE hoR hW d hT
  go_enter Tryd.func31, Tryd.ntmps31
  go_wp2_with fail
  refine HG0.out.mono ?_
  rintro e w1 ⟨rfl, HL1⟩
  clear HG0
  have HL2 : Hid (Wl B b fp w (w1.alloc (.cells #[.int .i64 k0, .int .u64 n0, .int .i64 i0, .string b0] 24)) (readD S 1) (.slice none 0 0) [] [(w1.heap.size, ⟨k0, n0, i0, b0⟩)]) := HL1.out.box ⟨k0, n0, i0, b0⟩
  clear HL1
  go_wp2_with fail
  generalize w1.heap.size = q at *
  generalize w1.alloc (.cells #[.int .i64 k0, .int .u64 n0, .int .i64 i0, .string b0] 24) = W2 at *
  go_loopw [9, 10] (fun pvv t wx => ∃ (k : Nat) (ss : List ByteArray) (S' : DS), k ≤ l.length ∧ k ≤ 255 ∧ t = .int .i64 (k : Int) ∧ Wd S' x o ((l.take k).map rightF) ss ∧ Wl B b fp w wx S' pvv ((l.take k).map rightF) [(q, ⟨k0, n0, i0, b0⟩)]) (fun _ t _ => 255 - (intOf t).toNat)
  case atStart => exact ⟨0, [], readD S 1, Nat.zero_le _, Nat.zero_le _, rfl, HW0.out, HL2.out⟩
  case round =>
    obtain ⟨k, ss, S', hk1, hk2, rfl, hWd, hWl⟩ := hrel
    have hmk : ((l.take k).map rightF).length = k := by rw [List.length_map, List.length_take]; omega
    by_cases hlt : k < l.length ∧ k < 255
    · obtain ⟨hlt1, hlt2⟩ := hlt
      have hlt1' : (k : Int) < (l.length : Int) := by omega
      have hlt2' : (k : Int) < 255 := by omega
      obtain ⟨f, hf9⟩ : ∃ f, l[k]? = some f := ⟨_, List.getElem?_eq_getElem hlt1⟩
      obtain ⟨hfk, hfi, hfn⟩ := hl f (List.mem_of_getElem? hf9)
      obtain ⟨bb, off, rfl, hbb, hfm⟩ : ∃ bb off, a = some ⟨bb, off, none⟩ ∧ bb < B ∧ FrM w bb off l := by
        rcases hv with rfl | hv
        · simp at hlt1
        · exact hv
      obtain ⟨c0, c1, c2', c3⟩ := (HTab.out _ _ _ _ _ hWl).2.1 bb off hbb hfm k f hf9
      have hsn : (l.take (k + 1)).map rightF = (l.take k).map rightF ++ [rightF f] := by
        rw [List.take_add_one, hf9]; simp
      have hwr := rightF_wrong f
      have hnr : (rightF f).num < 18446744073709551616 := hfn
      have CR : Hid (∀ w : World, Calls Tryd.prog 29 #[.agg #[.int .i64 f.kind, .int .u64 f.num, .int .i64 f.idx, .string f.body]] w fun e w' => e = .returned (.agg #[.int .i64 (rightF f).kind, .int .u64 (rightF f).num, .int .i64 (rightF f).idx, .string (rightF f).body]) ∧ Below w.heap.size w w') := right_any f hfk hfi
      obtain ⟨pE, pW, gE, gF⟩ := hWd.put hwr hnr
      have hfew : S'.wait.length < 17592186044416 := by rw [hWd.wait]; unfold atOne; rw [List.length_map, hWd.len, hmk]; omega
      have HP : Hid (∀ (wy : World) (pv : Value) (m : List Fr) (bs : List (Nat × Fr)), Wl B b fp w wy S' pv m bs → Calls Tryd.prog 32 #[.pointer (some ⟨b, 0, none⟩), .int .i64 1, .agg #[.int .i64 (rightF f).kind, .int .u64 (rightF f).num, .int .i64 (rightF f).idx, .string (rightF f).body]] wy fun e w' => e = .returned (.int .i64 0) ∧ Hid (Wl B b fp w w' (putD S' 1 (rightF f)) pv m bs)) := by
        intro wy pv m bs h
        obtain ⟨hT', _, hz'⟩ := HTab.out _ _ _ _ _ h
        refine (h.after (E := fun e => e = .returned (.int .i64 (putE S' 1 (rightF f)))) (S' := putD S' 1 (rightF f)) (fun fp' d' => put_any d' 1 (rightF f) hnr hT' hB (by omega) hfew)).mono ?_
        rintro e w' ⟨rfl, h⟩
        rw [pE]
        exact ⟨rfl, h⟩
      have HG : Hid (∀ (wy : World) (pv : Value) (m : List Fr) (bs : List (Nat × Fr)), Wl B b fp w wy (putD S' 1 (rightF f)) pv m bs → Calls Tryd.prog 35 #[.pointer (some ⟨b, 0, none⟩), .int .i64 1] wy fun e w' => e = .returned (.tuple #[.agg #[.int .i64 (rightF f).kind, .int .u64 (rightF f).num, .int .i64 (rightF f).idx, .string (rightF f).body], .int .i64 0]) ∧ Hid (Wl B b fp w w' (readD (putD S' 1 (rightF f)) 1) pv m bs)) := by
        intro wy pv m bs h
        obtain ⟨hT', _, hz'⟩ := HTab.out _ _ _ _ _ h
        refine (h.after (E := fun e => e = .returned (.tuple #[frV (getF (putD S' 1 (rightF f)) 1), .int .i64 (getE (putD S' 1 (rightF f)) 1)])) (S' := readD (putD S' 1 (rightF f)) 1) (fun fp' d' => get_any d' 1 hT' hB)).mono ?_
        rintro e w' ⟨rfl, h⟩
        rw [gE, gF]
        exact ⟨rfl, h⟩
      have HWn : Hid (Wd (readD (putD S' 1 (rightF f)) 1) x o ((l.take (k + 1)).map rightF) (ss ++ [putB S' 1 (rightF f)])) := by rw [hsn]; exact pW.read 1
      have HSN : Hid ((l.take (k + 1)).map rightF = (l.take k).map rightF ++ [rightF f]) := hsn
      have hne : ∀ w : World, (binOp .neq 24 (.agg #[.int .i64 (rightF f).kind, .int .u64 ((rightF f).num : Int), .int .i64 (rightF f).idx, .string (rightF f).body]) (.agg #[.int .i64 (rightF f).kind, .int .u64 ((rightF f).num : Int), .int .i64 (rightF f).idx, .string (rightF f).body])).run Tryd.prog w = .ok (.bool false) w := by
        intro w
        rw [run_neF]; simp
      have HMK : Hid (((l.take k).map rightF).length = k) := hmk
      clear hWd pE pW gE gF hwr hnr hfk hfi hfn hsn hfew HW0 hv hf HOE HTab
      generalize hln : (l.take (k + 1)).map rightF = ln at *
      have HLN : Hid ((l.take (k + 1)).map rightF = ln) := hln
      clear hln
      generalize (l.take k).map rightF = lk at *
      generalize ss ++ [putB S' 1 (rightF f)] = sn at *
      generalize readD (putD S' 1 (rightF f)) 1 = Sn at *
      generalize putD S' 1 (rightF f) = Sp at *
      generalize rightF f = g at *
      obtain ⟨gk, gn, gi, gb⟩ := g
      obtain ⟨fk, fn, fi, fb⟩ := f
      simp only at *
      have HL3 : Hid (Wl B b fp w wr S' _ lk [(q, ⟨k0, n0, i0, b0⟩)]) := hWl
      clear hWl HL2 hf9
      go_wp2_with fail
      refine (CR.out _).mono ?_
      rintro e w3 ⟨rfl, hb3⟩
      have HL4 := (HL3.out.below hb3).box ⟨gk, gn, gi, gb⟩
      unfold frC at HL4
      simp only at HL4
      have hblk4 := HL4.blk (x := (w3.heap.size, ⟨gk, gn, gi, gb⟩)) (List.mem_cons_self ..)
      unfold frC at hblk4
      simp only at hblk4
      have d0 := hblk4.cell 0 rfl
      have d1 := hblk4.cell 1 rfl
      have d2 := hblk4.cell 2 rfl
      have d3 := hblk4.cell 3 rfl
      clear CR HL3 hb3 c0 c1 c2' c3 hblk4
      have HL4' : Hid (Wl B b fp w (w3.alloc (.cells #[.int .i64 gk, .int .u64 gn, .int .i64 gi, .string gb] 24)) S' u9 lk [(w3.heap.size, ⟨gk, gn, gi, gb⟩), (q, ⟨k0, n0, i0, b0⟩)]) := HL4
      clear HL4
      go_wp2_with fail
      generalize w3.alloc (.cells #[.int .i64 gk, .int .u64 gn, .int .i64 gi, .string gb] 24) = W4 at *
      generalize w3.heap.size = p at *
      refine (HP.out _ _ _ _ HL4'.out).mono ?_
      rintro e w5 ⟨rfl, HL5⟩
      clear HP HL4' d0 d1 d2 d3
      go_wp2_with fail
      refine (HG.out _ _ _ _ HL5.out).mono ?_
      rintro e w6 ⟨rfl, HL6⟩
      have HL7 : Hid (Wl B b fp w (w6.alloc (.cells #[.int .i64 gk, .int .u64 gn, .int .i64 gi, .string gb] 24)) Sn u9 lk [(w6.heap.size, ⟨gk, gn, gi, gb⟩), (p, ⟨gk, gn, gi, gb⟩), (q, ⟨k0, n0, i0, b0⟩)]) := HL6.out.box ⟨gk, gn, gi, gb⟩
      have hblk6 : Blk w6 p #[.int .i64 gk, .int .u64 gn, .int .i64 gi, .string gb] 24 := HL6.out.blk (x := (p, ⟨gk, gn, gi, gb⟩)) (List.mem_cons_self ..)
      have hpl := hblk6.lt
      have d0 := hblk6.cell 0 rfl
      have d1 := hblk6.cell 1 rfl
      have d2 := hblk6.cell 2 rfl
      have d3 := hblk6.cell 3 rfl
      have HL8 : Hid (Wl B b fp w ((w6.alloc (.cells #[.int .i64 gk, .int .u64 gn, .int .i64 gi, .string gb] 24)).alloc (.cells #[.int .i64 gk, .int .u64 gn, .int .i64 gi, .string gb] 24)) Sn u9 lk [(q, ⟨k0, n0, i0, b0⟩)]) := (HL7.out.below ((Below.refl _ _).alloc (Nat.le_refl _) _)).less (fun x hx => by simp at hx ⊢; exact .inr (.inr hx))
      clear HG HL5 HL6 HL7 hblk6
      have hmk2 := HMK.out
      have HROW : Hid (((w6.alloc (.cells #[.int .i64 gk, .int .u64 gn, .int .i64 gi, .string gb] 24)).alloc (.cells #[.int .i64 gk, .int .u64 gn, .int .i64 gi, .string gb] 24)).ownsRow w.heap.size 24 4 u9 k (frs lk)) := by have := HL8.out.row; rw [hmk2] at this; exact this
      have HNEW : Hid (∀ (j : Nat) (u : Value), (#[.int .i64 gk, .int .u64 gn, .int .i64 gi, .string gb] : Array Value).toList[j]? = some u → ((w6.alloc (.cells #[.int .i64 gk, .int .u64 gn, .int .i64 gi, .string gb] 24)).alloc (.cells #[.int .i64 gk, .int .u64 gn, .int .i64 gi, .string gb] 24)).cell? ((⟨w6.heap.size + 1, 0, none⟩ : Addr).add j) = some u) := by
        have := World.news_of_block (Blk.new (w6.alloc (.cells #[.int .i64 gk, .int .u64 gn, .int .i64 gi, .string gb] 24)) #[.int .i64 gk, .int .u64 gn, .int .i64 gi, .string gb] 24)
        rw [World.size_alloc] at this
        exact this
      have HN : Hid (∀ u ∈ [Value.int .i64 gk, .int .u64 gn, .int .i64 gi, .string gb], u.oneCell' = true) := fun u hu => by simp at hu; rcases hu with rfl | rfl | rfl | rfl <;> rfl
      have HBD : Hid (k + 1 ≤ maxLen ∧ (k + 1) * 40 ≤ 140737488355328 ∧ w.heap.size ≤ ((w6.alloc (.cells #[.int .i64 gk, .int .u64 gn, .int .i64 gi, .string gb] 24)).alloc (.cells #[.int .i64 gk, .int .u64 gn, .int .i64 gi, .string gb] 24)).heap.size) := ⟨by unfold maxLen; omega, by omega, HL8.out.kept.size⟩
      clear hmk2
      go_wp2_with (at_builtin; refine wpList_append_lies _ rfl _ _ 60 rfl w.heap.size 24 i24 (.agg #[.int .i64 0, .int .u64 0, .int .i64 0, .string ⟨#[]⟩]) 4 40 Tryd.underlying60 hi24 hz0 hz1 hz3 rfl (by decide) _ _ _ rfl HROW.out ⟨w6.heap.size + 1, 0, none⟩ 1 1 [.int .i64 gk, .int .u64 gn, .int .i64 gi, .string gb] rfl rfl HNEW.out HN.out (by decide) HBD.out.1 HBD.out.2.1 HBD.out.2.2 _ rfl ?_)
      intro g' cap w9 hown hgr hwh hlt9
      have HL9 : Hid (Wl B b fp w w9 Sn (.slice (some ⟨g', 0, none⟩) (k + 1) cap) ln [(q, ⟨k0, n0, i0, b0⟩)]) := by
        have hm := HMK.out
        have := HL8.out.push (w6 := w9) ⟨gk, gn, gi, gb⟩ g' cap (by rw [hm]; exact hown) hgr (by simpa using hwh)
        rw [hm] at this
        rw [HSN.out]; exact this
      clear HL8 HROW HNEW HN HBD hown hgr hwh d0 d1 d2 d3
      go_wp2_with fail
      refine ⟨⟨k + 1, sn, Sn, by omega, by omega, by go_num, ?_, ?_⟩, by simp [intOf]; omega⟩
      · rw [HLN.out]; exact HWn.out
      · rw [HLN.out]; exact HL9.out
    · have hend : Hid ((k : Int) < (l.length : Int) → ¬ (k : Int) < 255) := fun h1 h2 => hlt ⟨by omega, by omega⟩
      have hlk : ((l.take k).map rightF).length ≤ 255 := by omega
      obtain ⟨o', hWc, hoz, hout⟩ := hWd.crash hlk fs
      have HC : Hid (Calls Tryd.prog 34 #[.pointer (some ⟨b, 0, none⟩), .slice a2 fs.length c2] wr fun e w' => e = .returned (.tuple #[]) ∧ Hid (Wl B b fp w w' (crashD S' fs) u9 ((l.take k).map rightF) [(q, ⟨k0, n0, i0, b0⟩)])) := by
        rcases hf with rfl | ⟨fb, off, rfl, hfb, hf⟩
        · refine (hWl.after (E := fun e => e = .returned (.tuple #[])) (S' := crashD S' []) (fun fp' d' => crash_empty d' a2 c2)).mono ?_
          rintro e w' ⟨rfl, h⟩
          exact ⟨rfl, h⟩
        · have hnf : ¬ fp fb := fun h => by have := hfp.out fb h; omega
          have hfx : Fts wr fb off fs := fun i kd t hi => ⟨hWl.kept.cell (hf i kd t hi).1 hnf, hWl.kept.cell (hf i kd t hi).2 hnf⟩
          refine (hWl.after (E := fun e => e = .returned (.tuple #[])) (S' := crashD S' fs) (fun fp' d' => crash_any d' fs _ c2 (.inr ⟨fb, off, rfl, hfx⟩) (fun fb' off' e h => by injection e with e; injection e with e; subst e; have := (d'.fp _ h).1; omega))).mono ?_
          rintro e w' ⟨rfl, h⟩
          exact ⟨rfl, h⟩
      have hg := hWc.live.get (m := 1) hWc.two
      rw [show ((1 : Nat) : Int) = 1 from rfl, hWc.shown] at hg
      have hgE : getE (crashD S' fs) 1 = openE o' := hg.1
      have hgF : getF (crashD S' fs) 1 = openR o' := hg.2
      have HG : Hid (∀ wy : World, Wl B b fp w wy (crashD S' fs) u9 ((l.take k).map rightF) [(q, ⟨k0, n0, i0, b0⟩)] → Calls Tryd.prog 35 #[.pointer (some ⟨b, 0, none⟩), .int .i64 1] wy fun e w' => e = .returned (.tuple #[.agg #[.int .i64 (openR o').kind, .int .u64 (openR o').num, .int .i64 (openR o').idx, .string (openR o').body], .int .i64 (openE o')]) ∧ Hid (Wl B b fp w w' (readD (crashD S' fs) 1) u9 ((l.take k).map rightF) [(q, ⟨k0, n0, i0, b0⟩)])) := by
        intro wy h
        obtain ⟨hT', _, hz'⟩ := HTab.out _ _ _ _ _ h
        refine (h.after (E := fun e => e = .returned (.tuple #[frV (getF (crashD S' fs) 1), .int .i64 (getE (crashD S' fs) 1)])) (S' := readD (crashD S' fs) 1) (fun fp' d' => get_any d' 1 hT' hB)).mono ?_
        rintro e w' ⟨rfl, h⟩
        rw [hgE, hgF]
        exact ⟨rfl, h⟩
      have HWF : Hid (Wd (readD (crashD S' fs) 1) x o' [] []) := hWc.read 1
      rw [HOE.out.1, HOE.out.2] at hout
      have HOUT : Hid (openE o' = 50 ∨ (openE o' = E0 ∧ openR o' = ⟨k0, n0, i0, b0⟩) ∨ ∃ (i : Nat) (f : Fr), ((l.take k).map rightF)[i]? = some f ∧ openE o' = 0 ∧ openR o' = f) := hout
      have HMK : Hid (((l.take k).map rightF).length = k) := hmk
      clear hWc hoz hout hWd hWl hg hgE hgF HW0 HL2 hlt hlk hv hf HOE HTab hmk hl
      generalize (l.take k).map rightF = lk at *
      generalize readD (crashD S' fs) 1 = Sf at *
      generalize crashD S' fs = Sc at *
      generalize openE o' = E1 at *
      generalize openR o' = F1 at *
      have HQ0 : Hid (∀ w : World, (binOp .eql 24 (.agg #[.int .i64 F1.kind, .int .u64 (F1.num : Int), .int .i64 F1.idx, .string F1.body]) (.agg #[.int .i64 k0, .int .u64 (n0 : Int), .int .i64 i0, .string b0])).run Tryd.prog w = .ok (.bool (sameF F1 ⟨k0, n0, i0, b0⟩)) w) := fun w => run_eqF _ _ _ _ _ _ _ _ w
      obtain ⟨k1, n1, i1, b1⟩ := F1
      simp only at HG HQ0
      by_cases hkl : (k : Int) < (l.length : Int)
      · have hk9 := hend.out hkl
        clear hend
        go_wp2_with fail
        refine HC.out.mono ?_
        rintro e wc ⟨rfl, HLc⟩
        clear HC
        go_wp2_with fail
        refine (HG.out _ HLc.out).mono ?_
        rintro e wg ⟨rfl, HLg⟩
        clear HG HLc
        have HLb : Hid (Wl B b fp w (wg.alloc (.cells #[.int .i64 k1, .int .u64 n1, .int .i64 i1, .string b1] 24)) Sf u9 lk [(wg.heap.size, ⟨k1, n1, i1, b1⟩), (q, ⟨k0, n0, i0, b0⟩)]) := HLg.out.box ⟨k1, n1, i1, b1⟩
        have hblkq : Blk wg q #[.int .i64 k0, .int .u64 n0, .int .i64 i0, .string b0] 24 := HLg.out.blk (x := (q, ⟨k0, n0, i0, b0⟩)) (List.mem_cons_self ..)
        have hql := hblkq.lt
        have z0 := hblkq.cell 0 rfl
        have z1 := hblkq.cell 1 rfl
        have z2 := hblkq.cell 2 rfl
        have z3 := hblkq.cell 3 rfl
        clear HLg hblkq
        by_cases hE : E1 = 50
        · subst hE
          go_wp2
          go_ret
          exact ⟨rfl, Sf, o', HLb.out.left, HWF.out⟩
        · have hE' : (E1 == 50) = false := by simpa using hE
          have hq0 := HQ0.out
          by_cases hs0 : sameF ⟨k1, n1, i1, b1⟩ ⟨k0, n0, i0, b0⟩ = true
          · rw [hs0] at hq0
            by_cases hE2 : E1 = E0
            · have hE3 : (E1 == E0) = true := by simpa using hE2
              clear hE2 HOUT
              go_wp2
              go_ret
              exact ⟨rfl, Sf, o', HLb.out.left, HWF.out⟩
            · have hE3 : (E1 == E0) = false := by simpa using hE2
              have hno : ¬ (sameF ⟨k1, n1, i1, b1⟩ ⟨k0, n0, i0, b0⟩ = true ∧ E1 = E0) := fun h => hE2 h.2
              obtain ⟨ix, fx, hix, hE0, hFx⟩ : ∃ (i : Nat) (f : Fr), lk[i]? = some f ∧ E1 = 0 ∧ (⟨k1, n1, i1, b1⟩ : Fr) = f := by
                rcases HOUT.out with h | ⟨h1, h2⟩ | h
                · exact absurd h hE
                · exact absurd ⟨by rw [h2]; exact sameF_self _, h1⟩ hno
                · exact h
              have hk0 : 0 < k := by have := (List.getElem?_eq_some_iff.1 hix).1; have := HMK.out; omega
              have hrow : (wg.alloc (.cells #[.int .i64 k1, .int .u64 n1, .int .i64 i1, .string b1] 24)).ownsRow w.heap.size 24 4 u9 k (frs lk) := by have := HLb.out.row; rw [HMK.out] at this; exact this
              obtain ⟨rg, rc, hu9, _, _⟩ := hrow.form hk0
              have HROW : Hid (∀ (j : Nat) (g : Fr), lk[j]? = some g → (wg.alloc (.cells #[.int .i64 k1, .int .u64 n1, .int .i64 i1, .string b1] 24)).cell? ⟨rg, j * 4, none⟩ = some (.int .i64 g.kind) ∧ (wg.alloc (.cells #[.int .i64 k1, .int .u64 n1, .int .i64 i1, .string b1] 24)).cell? ⟨rg, j * 4 + 1, none⟩ = some (.int .u64 g.num) ∧ (wg.alloc (.cells #[.int .i64 k1, .int .u64 n1, .int .i64 i1, .string b1] 24)).cell? ⟨rg, j * 4 + 2, none⟩ = some (.int .i64 g.idx) ∧ (wg.alloc (.cells #[.int .i64 k1, .int .u64 n1, .int .i64 i1, .string b1] 24)).cell? ⟨rg, j * 4 + 3, none⟩ = some (.string g.body)) := by
                intro j g hj
                have hjl := (List.getElem?_eq_some_iff.1 hj).1
                have hm := HMK.out
                rw [hu9] at hrow
                obtain ⟨h0, h1, h2, h3⟩ := frs_at lk j g hj
                exact ⟨(hrow.cellAt (j * 4) (by omega)).trans h0, (hrow.cellAt (j * 4 + 1) (by omega)).trans h1, (hrow.cellAt (j * 4 + 2) (by omega)).trans h2, (hrow.cellAt (j * 4 + 3) (by omega)).trans h3⟩
              have HIX : Hid (lk[ix]? = some (⟨k1, n1, i1, b1⟩ : Fr)) := by show _ = _; rw [hFx]; exact hix
              subst hE0
              subst hu9
              have hB0 : (wg.alloc (.cells #[.int .i64 k1, .int .u64 n1, .int .i64 i1, .string b1] 24)).cell? ⟨wg.heap.size, 0, none⟩ = some (.int .i64 k1) := by simp
              have hB1 : (wg.alloc (.cells #[.int .i64 k1, .int .u64 n1, .int .i64 i1, .string b1] 24)).cell? ⟨wg.heap.size, 1, none⟩ = some (.int .u64 n1) := by simp
              have hB2 : (wg.alloc (.cells #[.int .i64 k1, .int .u64 n1, .int .i64 i1, .string b1] 24)).cell? ⟨wg.heap.size, 2, none⟩ = some (.int .i64 i1) := by simp
              have hB3 : (wg.alloc (.cells #[.int .i64 k1, .int .u64 n1, .int .i64 i1, .string b1] 24)).cell? ⟨wg.heap.size, 3, none⟩ = some (.string b1) := by simp
              clear hrow hix hFx hno HOUT
              go_wp2_with fail
              generalize wg.alloc (.cells #[.int .i64 k1, .int .u64 n1, .int .i64 i1, .string b1] 24) = Wb at *
              generalize wg.heap.size = pb at *
              clear z0 z1 z2 z3 hql HQ0
              go_loopw [17] (fun t wx => ∃ (j n : Nat), j ≤ k ∧ t = .int .i64 (j : Int) ∧ (∀ i g, i < j → lk[i]? = some g → sameF ⟨k1, n1, i1, b1⟩ g = false) ∧ wx = Wb.drewN n) (fun t _ => k - (intOf t).toNat)
              case atStart => exact ⟨0, 0, Nat.zero_le _, rfl, fun i g h => absurd h (by omega), rfl⟩
              case round =>
                obtain ⟨j, dn, hj, rfl, hno, rfl⟩ := hrel
                by_cases hjk : j < k
                · have hjk' : (j : Int) < (k : Int) := by omega
                  obtain ⟨g, hg⟩ : ∃ g, lk[j]? = some g := ⟨_, List.getElem?_eq_getElem (by have := HMK.out; omega)⟩
                  obtain ⟨y0, y1, y2, y3⟩ := HROW.out j g hg
                  have HQ : ∀ w : World, (binOp .eql 24 (.agg #[.int .i64 k1, .int .u64 (n1 : Int), .int .i64 i1, .string b1]) (.agg #[.int .i64 g.kind, .int .u64 (g.num : Int), .int .i64 g.idx, .string g.body])).run Tryd.prog w = .ok (.bool (sameF ⟨k1, n1, i1, b1⟩ g)) w := fun w => run_eqF _ _ _ _ _ _ _ _ w
                  by_cases hs9 : sameF ⟨k1, n1, i1, b1⟩ g = true
                  · rw [hs9] at HQ
                    have hLf : Left B b fp w Sf (Wb.drewN dn) := HLb.out.left.then (Below.fresh _ _)
                    clear HROW HIX hno hs9 hg
                    obtain ⟨gk, gn, gi, gb⟩ := g
                    simp only at *
                    go_wp2_with fail
                    go_quiet (fail)
                    go_wp2
                    go_ret
                    exact ⟨rfl, Sf, o', hLf.then (Below.fresh _ _), HWF.out⟩
                  · have hs8 : sameF ⟨k1, n1, i1, b1⟩ g = false := by simpa using hs9
                    rw [hs8] at HQ
                    have HNO : Hid (∀ i g', i < j + 1 → lk[i]? = some g' → sameF ⟨k1, n1, i1, b1⟩ g' = false) := by
                      intro i g' hi hg'
                      by_cases e : i = j
                      · subst e; rw [hg] at hg'; obtain rfl := Option.some.inj hg'; exact hs8
                      · exact hno i g' (by omega) hg'
                    clear HROW HIX hno hs9 hg hs8
                    obtain ⟨gk, gn, gi, gb⟩ := g
                    simp only at *
                    go_wp2_with fail
                    go_quiet (fail)
                    go_wp2_with fail
                    exact ⟨⟨j + 1, _, by omega, by go_num, HNO.out, rfl⟩, by simp [intOf]; omega⟩
                · have := hno ix _ (by have := (List.getElem?_eq_some_iff.1 HIX.out).1; have := HMK.out; omega) HIX.out
                  rw [sameF_self] at this
                  cases this
          · have hs1 : sameF ⟨k1, n1, i1, b1⟩ ⟨k0, n0, i0, b0⟩ = false := by simpa using hs0
            rw [hs1] at hq0
            have hno : ¬ (sameF ⟨k1, n1, i1, b1⟩ ⟨k0, n0, i0, b0⟩ = true ∧ E1 = E0) := fun h => hs0 h.1
            obtain ⟨ix, fx, hix, hE0, hFx⟩ : ∃ (i : Nat) (f : Fr), lk[i]? = some f ∧ E1 = 0 ∧ (⟨k1, n1, i1, b1⟩ : Fr) = f := by
              rcases HOUT.out with h | ⟨h1, h2⟩ | h
              · exact absurd h hE
              · exact absurd ⟨by rw [h2]; exact sameF_self _, h1⟩ hno
              · exact h
            have hk0 : 0 < k := by have := (List.getElem?_eq_some_iff.1 hix).1; have := HMK.out; omega
            have hrow : (wg.alloc (.cells #[.int .i64 k1, .int .u64 n1, .int .i64 i1, .string b1] 24)).ownsRow w.heap.size 24 4 u9 k (frs lk) := by have := HLb.out.row; rw [HMK.out] at this; exact this
            obtain ⟨rg, rc, hu9, _, _⟩ := hrow.form hk0
            have HROW : Hid (∀ (j : Nat) (g : Fr), lk[j]? = some g → (wg.alloc (.cells #[.int .i64 k1, .int .u64 n1, .int .i64 i1, .string b1] 24)).cell? ⟨rg, j * 4, none⟩ = some (.int .i64 g.kind) ∧ (wg.alloc (.cells #[.int .i64 k1, .int .u64 n1, .int .i64 i1, .string b1] 24)).cell? ⟨rg, j * 4 + 1, none⟩ = some (.int .u64 g.num) ∧ (wg.alloc (.cells #[.int .i64 k1, .int .u64 n1, .int .i64 i1, .string b1] 24)).cell? ⟨rg, j * 4 + 2, none⟩ = some (.int .i64 g.idx) ∧ (wg.alloc (.cells #[.int .i64 k1, .int .u64 n1, .int .i64 i1, .string b1] 24)).cell? ⟨rg, j * 4 + 3, none⟩ = some (.string g.body)) := by
              intro j g hj
              have hjl := (List.getElem?_eq_some_iff.1 hj).1
              have hm := HMK.out
              rw [hu9] at hrow
              obtain ⟨h0, h1, h2, h3⟩ := frs_at lk j g hj
              exact ⟨(hrow.cellAt (j * 4) (by omega)).trans h0, (hrow.cellAt (j * 4 + 1) (by omega)).trans h1, (hrow.cellAt (j * 4 + 2) (by omega)).trans h2, (hrow.cellAt (j * 4 + 3) (by omega)).trans h3⟩
            have HIX : Hid (lk[ix]? = some (⟨k1, n1, i1, b1⟩ : Fr)) := by show _ = _; rw [hFx]; exact hix
            subst hE0
            subst hu9
            have hB0 : (wg.alloc (.cells #[.int .i64 k1, .int .u64 n1, .int .i64 i1, .string b1] 24)).cell? ⟨wg.heap.size, 0, none⟩ = some (.int .i64 k1) := by simp
            have hB1 : (wg.alloc (.cells #[.int .i64 k1, .int .u64 n1, .int .i64 i1, .string b1] 24)).cell? ⟨wg.heap.size, 1, none⟩ = some (.int .u64 n1) := by simp
            have hB2 : (wg.alloc (.cells #[.int .i64 k1, .int .u64 n1, .int .i64 i1, .string b1] 24)).cell? ⟨wg.heap.size, 2, none⟩ = some (.int .i64 i1) := by simp
            have hB3 : (wg.alloc (.cells #[.int .i64 k1, .int .u64 n1, .int .i64 i1, .string b1] 24)).cell? ⟨wg.heap.size, 3, none⟩ = some (.string b1) := by simp
            clear hrow hix hFx hno HOUT
            go_wp2_with fail
            generalize wg.alloc (.cells #[.int .i64 k1, .int .u64 n1, .int .i64 i1, .string b1] 24) = Wb at *
            generalize wg.heap.size = pb at *
            clear z0 z1 z2 z3 hql HQ0
            go_loopw [17] (fun t wx => ∃ (j n : Nat), j ≤ k ∧ t = .int .i64 (j : Int) ∧ (∀ i g, i < j → lk[i]? = some g → sameF ⟨k1, n1, i1, b1⟩ g = false) ∧ wx = Wb.drewN n) (fun t _ => k - (intOf t).toNat)
            case atStart => exact ⟨0, 0, Nat.zero_le _, rfl, fun i g h => absurd h (by omega), rfl⟩
            case round =>
              obtain ⟨j, dn, hj, rfl, hno, rfl⟩ := hrel
              by_cases hjk : j < k
              · have hjk' : (j : Int) < (k : Int) := by omega
                obtain ⟨g, hg⟩ : ∃ g, lk[j]? = some g := ⟨_, List.getElem?_eq_getElem (by have := HMK.out; omega)⟩
                obtain ⟨y0, y1, y2, y3⟩ := HROW.out j g hg
                have HQ : ∀ w : World, (binOp .eql 24 (.agg #[.int .i64 k1, .int .u64 (n1 : Int), .int .i64 i1, .string b1]) (.agg #[.int .i64 g.kind, .int .u64 (g.num : Int), .int .i64 g.idx, .string g.body])).run Tryd.prog w = .ok (.bool (sameF ⟨k1, n1, i1, b1⟩ g)) w := fun w => run_eqF _ _ _ _ _ _ _ _ w
                by_cases hs9 : sameF ⟨k1, n1, i1, b1⟩ g = true
                · rw [hs9] at HQ
                  have hLf : Left B b fp w Sf (Wb.drewN dn) := HLb.out.left.then (Below.fresh _ _)
                  clear HROW HIX hno hs9 hg
                  obtain ⟨gk, gn, gi, gb⟩ := g
                  simp only at *
                  go_wp2_with fail
                  go_quiet (fail)
                  go_wp2
                  go_ret
                  exact ⟨rfl, Sf, o', hLf.then (Below.fresh _ _), HWF.out⟩
                · have hs8 : sameF ⟨k1, n1, i1, b1⟩ g = false := by simpa using hs9
                  rw [hs8] at HQ
                  have HNO : Hid (∀ i g', i < j + 1 → lk[i]? = some g' → sameF ⟨k1, n1, i1, b1⟩ g' = false) := by
                    intro i g' hi hg'
                    by_cases e : i = j
                    · subst e; rw [hg] at hg'; obtain rfl := Option.some.inj hg'; exact hs8
                    · exact hno i g' (by omega) hg'
                  clear HROW HIX hno hs9 hg hs8
                  obtain ⟨gk, gn, gi, gb⟩ := g
                  simp only at *
                  go_wp2_with fail
                  go_quiet (fail)
                  go_wp2_with fail
                  exact ⟨⟨j + 1, _, by omega, by go_num, HNO.out, rfl⟩, by simp [intOf]; omega⟩
              · have := hno ix _ (by have := (List.getElem?_eq_some_iff.1 HIX.out).1; have := HMK.out; omega) HIX.out
                rw [sameF_self] at this
                cases this
      · clear hend
        go_wp2_with fail
        refine HC.out.mono ?_
        rintro e wc ⟨rfl, HLc⟩
        clear HC
        go_wp2_with fail
        refine (HG.out _ HLc.out).mono ?_
        rintro e wg ⟨rfl, HLg⟩
        clear HG HLc
        have HLb : Hid (Wl B b fp w (wg.alloc (.cells #[.int .i64 k1, .int .u64 n1, .int .i64 i1, .string b1] 24)) Sf u9 lk [(wg.heap.size, ⟨k1, n1, i1, b1⟩), (q, ⟨k0, n0, i0, b0⟩)]) := HLg.out.box ⟨k1, n1, i1, b1⟩
        have hblkq : Blk wg q #[.int .i64 k0, .int .u64 n0, .int .i64 i0, .string b0] 24 := HLg.out.blk (x := (q, ⟨k0, n0, i0, b0⟩)) (List.mem_cons_self ..)
        have hql := hblkq.lt
        have z0 := hblkq.cell 0 rfl
        have z1 := hblkq.cell 1 rfl
        have z2 := hblkq.cell 2 rfl
        have z3 := hblkq.cell 3 rfl
        clear HLg hblkq
        by_cases hE : E1 = 50
        · subst hE
          go_wp2
          go_ret
          exact ⟨rfl, Sf, o', HLb.out.left, HWF.out⟩
        · have hE' : (E1 == 50) = false := by simpa using hE
          have hq0 := HQ0.out
          by_cases hs0 : sameF ⟨k1, n1, i1, b1⟩ ⟨k0, n0, i0, b0⟩ = true
          · rw [hs0] at hq0
            by_cases hE2 : E1 = E0
            · have hE3 : (E1 == E0) = true := by simpa using hE2
              clear hE2 HOUT
              go_wp2
              go_ret
              exact ⟨rfl, Sf, o', HLb.out.left, HWF.out⟩
            · have hE3 : (E1 == E0) = false := by simpa using hE2
              have hno : ¬ (sameF ⟨k1, n1, i1, b1⟩ ⟨k0, n0, i0, b0⟩ = true ∧ E1 = E0) := fun h => hE2 h.2
              obtain ⟨ix, fx, hix, hE0, hFx⟩ : ∃ (i : Nat) (f : Fr), lk[i]? = some f ∧ E1 = 0 ∧ (⟨k1, n1, i1, b1⟩ : Fr) = f := by
                rcases HOUT.out with h | ⟨h1, h2⟩ | h
                · exact absurd h hE
                · exact absurd ⟨by rw [h2]; exact sameF_self _, h1⟩ hno
                · exact h
              have hk0 : 0 < k := by have := (List.getElem?_eq_some_iff.1 hix).1; have := HMK.out; omega
              have hrow : (wg.alloc (.cells #[.int .i64 k1, .int .u64 n1, .int .i64 i1, .string b1] 24)).ownsRow w.heap.size 24 4 u9 k (frs lk) := by have := HLb.out.row; rw [HMK.out] at this; exact this
              obtain ⟨rg, rc, hu9, _, _⟩ := hrow.form hk0
              have HROW : Hid (∀ (j : Nat) (g : Fr), lk[j]? = some g → (wg.alloc (.cells #[.int .i64 k1, .int .u64 n1, .int .i64 i1, .string b1] 24)).cell? ⟨rg, j * 4, none⟩ = some (.int .i64 g.kind) ∧ (wg.alloc (.cells #[.int .i64 k1, .int .u64 n1, .int .i64 i1, .string b1] 24)).cell? ⟨rg, j * 4 + 1, none⟩ = some (.int .u64 g.num) ∧ (wg.alloc (.cells #[.int .i64 k1, .int .u64 n1, .int .i64 i1, .string b1] 24)).cell? ⟨rg, j * 4 + 2, none⟩ = some (.int .i64 g.idx) ∧ (wg.alloc (.cells #[.int .i64 k1, .int .u64 n1, .int .i64 i1, .string b1] 24)).cell? ⟨rg, j * 4 + 3, none⟩ = some (.string g.body)) := by
                intro j g hj
                have hjl := (List.getElem?_eq_some_iff.1 hj).1
                have hm := HMK.out
                rw [hu9] at hrow
                obtain ⟨h0, h1, h2, h3⟩ := frs_at lk j g hj
                exact ⟨(hrow.cellAt (j * 4) (by omega)).trans h0, (hrow.cellAt (j * 4 + 1) (by omega)).trans h1, (hrow.cellAt (j * 4 + 2) (by omega)).trans h2, (hrow.cellAt (j * 4 + 3) (by omega)).trans h3⟩
              have HIX : Hid (lk[ix]? = some (⟨k1, n1, i1, b1⟩ : Fr)) := by show _ = _; rw [hFx]; exact hix
              subst hE0
              subst hu9
              have hB0 : (wg.alloc (.cells #[.int .i64 k1, .int .u64 n1, .int .i64 i1, .string b1] 24)).cell? ⟨wg.heap.size, 0, none⟩ = some (.int .i64 k1) := by simp
              have hB1 : (wg.alloc (.cells #[.int .i64 k1, .int .u64 n1, .int .i64 i1, .string b1] 24)).cell? ⟨wg.heap.size, 1, none⟩ = some (.int .u64 n1) := by simp
              have hB2 : (wg.alloc (.cells #[.int .i64 k1, .int .u64 n1, .int .i64 i1, .string b1] 24)).cell? ⟨wg.heap.size, 2, none⟩ = some (.int .i64 i1) := by simp
              have hB3 : (wg.alloc (.cells #[.int .i64 k1, .int .u64 n1, .int .i64 i1, .string b1] 24)).cell? ⟨wg.heap.size, 3, none⟩ = some (.string b1) := by simp
              clear hrow hix hFx hno HOUT
              go_wp2_with fail
              generalize wg.alloc (.cells #[.int .i64 k1, .int .u64 n1, .int .i64 i1, .string b1] 24) = Wb at *
              generalize wg.heap.size = pb at *
              clear z0 z1 z2 z3 hql HQ0
              go_loopw [17] (fun t wx => ∃ (j n : Nat), j ≤ k ∧ t = .int .i64 (j : Int) ∧ (∀ i g, i < j → lk[i]? = some g → sameF ⟨k1, n1, i1, b1⟩ g = false) ∧ wx = Wb.drewN n) (fun t _ => k - (intOf t).toNat)
              case atStart => exact ⟨0, 0, Nat.zero_le _, rfl, fun i g h => absurd h (by omega), rfl⟩
              case round =>
                obtain ⟨j, dn, hj, rfl, hno, rfl⟩ := hrel
                by_cases hjk : j < k
                · have hjk' : (j : Int) < (k : Int) := by omega
                  obtain ⟨g, hg⟩ : ∃ g, lk[j]? = some g := ⟨_, List.getElem?_eq_getElem (by have := HMK.out; omega)⟩
                  obtain ⟨y0, y1, y2, y3⟩ := HROW.out j g hg
                  have HQ : ∀ w : World, (binOp .eql 24 (.agg #[.int .i64 k1, .int .u64 (n1 : Int), .int .i64 i1, .string b1]) (.agg #[.int .i64 g.kind, .int .u64 (g.num : Int), .int .i64 g.idx, .string g.body])).run Tryd.prog w = .ok (.bool (sameF ⟨k1, n1, i1, b1⟩ g)) w := fun w => run_eqF _ _ _ _ _ _ _ _ w
                  by_cases hs9 : sameF ⟨k1, n1, i1, b1⟩ g = true
                  · rw [hs9] at HQ
                    have hLf : Left B b fp w Sf (Wb.drewN dn) := HLb.out.left.then (Below.fresh _ _)
                    clear HROW HIX hno hs9 hg
                    obtain ⟨gk, gn, gi, gb⟩ := g
                    simp only at *
                    go_wp2_with fail
                    go_quiet (fail)
                    go_wp2
                    go_ret
                    exact ⟨rfl, Sf, o', hLf.then (Below.fresh _ _), HWF.out⟩
                  · have hs8 : sameF ⟨k1, n1, i1, b1⟩ g = false := by simpa using hs9
                    rw [hs8] at HQ
                    have HNO : Hid (∀ i g', i < j + 1 → lk[i]? = some g' → sameF ⟨k1, n1, i1, b1⟩ g' = false) := by
                      intro i g' hi hg'
                      by_cases e : i = j
                      · subst e; rw [hg] at hg'; obtain rfl := Option.some.inj hg'; exact hs8
                      · exact hno i g' (by omega) hg'
                    clear HROW HIX hno hs9 hg hs8
                    obtain ⟨gk, gn, gi, gb⟩ := g
                    simp only at *
                    go_wp2_with fail
                    go_quiet (fail)
                    go_wp2_with fail
                    exact ⟨⟨j + 1, _, by omega, by go_num, HNO.out, rfl⟩, by simp [intOf]; omega⟩
                · have := hno ix _ (by have := (List.getElem?_eq_some_iff.1 HIX.out).1; have := HMK.out; omega) HIX.out
                  rw [sameF_self] at this
                  cases this
          · have hs1 : sameF ⟨k1, n1, i1, b1⟩ ⟨k0, n0, i0, b0⟩ = false := by simpa using hs0
            rw [hs1] at hq0
            have hno : ¬ (sameF ⟨k1, n1, i1, b1⟩ ⟨k0, n0, i0, b0⟩ = true ∧ E1 = E0) := fun h => hs0 h.1
            obtain ⟨ix, fx, hix, hE0, hFx⟩ : ∃ (i : Nat) (f : Fr), lk[i]? = some f ∧ E1 = 0 ∧ (⟨k1, n1, i1, b1⟩ : Fr) = f := by
              rcases HOUT.out with h | ⟨h1, h2⟩ | h
              · exact absurd h hE
              · exact absurd ⟨by rw [h2]; exact sameF_self _, h1⟩ hno
              · exact h
            have hk0 : 0 < k := by have := (List.getElem?_eq_some_iff.1 hix).1; have := HMK.out; omega
            have hrow : (wg.alloc (.cells #[.int .i64 k1, .int .u64 n1, .int .i64 i1, .string b1] 24)).ownsRow w.heap.size 24 4 u9 k (frs lk) := by have := HLb.out.row; rw [HMK.out] at this; exact this
            obtain ⟨rg, rc, hu9, _, _⟩ := hrow.form hk0
            have HROW : Hid (∀ (j : Nat) (g : Fr), lk[j]? = some g → (wg.alloc (.cells #[.int .i64 k1, .int .u64 n1, .int .i64 i1, .string b1] 24)).cell? ⟨rg, j * 4, none⟩ = some (.int .i64 g.kind) ∧ (wg.alloc (.cells #[.int .i64 k1, .int .u64 n1, .int .i64 i1, .string b1] 24)).cell? ⟨rg, j * 4 + 1, none⟩ = some (.int .u64 g.num) ∧ (wg.alloc (.cells #[.int .i64 k1, .int .u64 n1, .int .i64 i1, .string b1] 24)).cell? ⟨rg, j * 4 + 2, none⟩ = some (.int .i64 g.idx) ∧ (wg.alloc (.cells #[.int .i64 k1, .int .u64 n1, .int .i64 i1, .string b1] 24)).cell? ⟨rg, j * 4 + 3, none⟩ = some (.string g.body)) := by
              intro j g hj
              have hjl := (List.getElem?_eq_some_iff.1 hj).1
              have hm := HMK.out
              rw [hu9] at hrow
              obtain ⟨h0, h1, h2, h3⟩ := frs_at lk j g hj
              exact ⟨(hrow.cellAt (j * 4) (by omega)).trans h0, (hrow.cellAt (j * 4 + 1) (by omega)).trans h1, (hrow.cellAt (j * 4 + 2) (by omega)).trans h2, (hrow.cellAt (j * 4 + 3) (by omega)).trans h3⟩
            have HIX : Hid (lk[ix]? = some (⟨k1, n1, i1, b1⟩ : Fr)) := by show _ = _; rw [hFx]; exact hix
            subst hE0
            subst hu9
            have hB0 : (wg.alloc (.cells #[.int .i64 k1, .int .u64 n1, .int .i64 i1, .string b1] 24)).cell? ⟨wg.heap.size, 0, none⟩ = some (.int .i64 k1) := by simp
            have hB1 : (wg.alloc (.cells #[.int .i64 k1, .int .u64 n1, .int .i64 i1, .string b1] 24)).cell? ⟨wg.heap.size, 1, none⟩ = some (.int .u64 n1) := by simp
            have hB2 : (wg.alloc (.cells #[.int .i64 k1, .int .u64 n1, .int .i64 i1, .string b1] 24)).cell? ⟨wg.heap.size, 2, none⟩ = some (.int .i64 i1) := by simp
            have hB3 : (wg.alloc (.cells #[.int .i64 k1, .int .u64 n1, .int .i64 i1, .string b1] 24)).cell? ⟨wg.heap.size, 3, none⟩ = some (.string b1) := by simp
            clear hrow hix hFx hno HOUT
            go_wp2_with fail
            generalize wg.alloc (.cells #[.int .i64 k1, .int .u64 n1, .int .i64 i1, .string b1] 24) = Wb at *
            generalize wg.heap.size = pb at *
            clear z0 z1 z2 z3 hql HQ0
            go_loopw [17] (fun t wx => ∃ (j n : Nat), j ≤ k ∧ t = .int .i64 (j : Int) ∧ (∀ i g, i < j → lk[i]? = some g → sameF ⟨k1, n1, i1, b1⟩ g = false) ∧ wx = Wb.drewN n) (fun t _ => k - (intOf t).toNat)
            case atStart => exact ⟨0, 0, Nat.zero_le _, rfl, fun i g h => absurd h (by omega), rfl⟩
            case round =>
              obtain ⟨j, dn, hj, rfl, hno, rfl⟩ := hrel
              by_cases hjk : j < k
              · have hjk' : (j : Int) < (k : Int) := by omega
                obtain ⟨g, hg⟩ : ∃ g, lk[j]? = some g := ⟨_, List.getElem?_eq_getElem (by have := HMK.out; omega)⟩
                obtain ⟨y0, y1, y2, y3⟩ := HROW.out j g hg
                have HQ : ∀ w : World, (binOp .eql 24 (.agg #[.int .i64 k1, .int .u64 (n1 : Int), .int .i64 i1, .string b1]) (.agg #[.int .i64 g.kind, .int .u64 (g.num : Int), .int .i64 g.idx, .string g.body])).run Tryd.prog w = .ok (.bool (sameF ⟨k1, n1, i1, b1⟩ g)) w := fun w => run_eqF _ _ _ _ _ _ _ _ w
                by_cases hs9 : sameF ⟨k1, n1, i1, b1⟩ g = true
                · rw [hs9] at HQ
                  have hLf : Left B b fp w Sf (Wb.drewN dn) := HLb.out.left.then (Below.fresh _ _)
                  clear HROW HIX hno hs9 hg
                  obtain ⟨gk, gn, gi, gb⟩ := g
                  simp only at *
                  go_wp2_with fail
                  go_quiet (fail)
                  go_wp2
                  go_ret
                  exact ⟨rfl, Sf, o', hLf.then (Below.fresh _ _), HWF.out⟩
                · have hs8 : sameF ⟨k1, n1, i1, b1⟩ g = false := by simpa using hs9
                  rw [hs8] at HQ
                  have HNO : Hid (∀ i g', i < j + 1 → lk[i]? = some g' → sameF ⟨k1, n1, i1, b1⟩ g' = false) := by
                    intro i g' hi hg'
                    by_cases e : i = j
                    · subst e; rw [hg] at hg'; obtain rfl := Option.some.inj hg'; exact hs8
                    · exact hno i g' (by omega) hg'
                  clear HROW HIX hno hs9 hg hs8
                  obtain ⟨gk, gn, gi, gb⟩ := g
                  simp only at *
                  go_wp2_with fail
                  go_quiet (fail)
                  go_wp2_with fail
                  exact ⟨⟨j + 1, _, by omega, by go_num, HNO.out, rfl⟩, by simp [intOf]; omega⟩
              · have := hno ix _ (by have := (List.getElem?_eq_some_iff.1 HIX.out).1; have := HMK.out; omega) HIX.out
                rw [sameF_self] at this
                cases this
end Go.Proofs.YtnpcnflfpmjgiaaDoor
