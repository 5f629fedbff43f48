/- What DiskFates asks, plain; fates in older memory. -/
import Derived.Test.YtnpcnflfpmjgiaaDoorCv
namespace Go.Proofs.YtnpcnflfpmjgiaaDoor
open Go.RowKit
set_option linter.unusedVariables false
set_option linter.unusedSimpArgs false

/-- Fates as an argument: none, or in memory. -/
def FtO (w : World) (fs : List (Int × Int)) (a : Option Addr) : Prop := fs = [] ∨ ∃ fb off, a = some ⟨fb, off, none⟩ ∧ fb < w.heap.size ∧ Fts w fb off fs
theorem Fts.below {w w' : World} {B fb off : Nat} {fs : List (Int × Int)} (h : Fts w fb off fs) (hb : Below B w w') (hp : fb < B) : Fts w' fb off fs := fun i kd t hi => by
  obtain ⟨a, b⟩ := h i kd t hi
  exact ⟨(hb.cell (p := ⟨fb, off + i * 2, none⟩) hp).trans a, (hb.cell (p := ⟨fb, off + i * 2 + 1, none⟩) hp).trans b⟩
theorem FtO.below {w w' : World} {fs : List (Int × Int)} {a : Option Addr} (h : FtO w fs a) (hb : Below w.heap.size w w') : FtO w' fs a := by
  rcases h with h | ⟨fb, off, rfl, hl, h⟩
  · exact .inl h
  · exact .inr ⟨fb, off, rfl, Nat.lt_of_lt_of_le hl hb.size, h.below hb hl⟩
theorem FtO.v {w : World} {fs : List (Int × Int)} {a : Option Addr} (h : FtO w fs a) : FtsV w fs a := by
  rcases h with h | ⟨fb, off, rfl, hl, h⟩
  · exact .inl h
  · exact .inr ⟨fb, off, rfl, h⟩
set_option maxRecDepth 100000 in
theorem crash_empty {B : Nat} {w : World} {b : Nat} {fp : Nat → Prop} {S : DS} (d : Dk B w b fp S) (a : Option Addr) (c : Nat) : Calls Tryd.prog 34 #[pt b, .slice a 0 c] w fun e w' => e = .returned (.tuple #[]) ∧ Left B b fp w (crashD S []) w' := by
  obtain ⟨g, h, cg, ch, pv, bx, rfl, d⟩ := d
  have hmf := mk_func
  have hb0 : Below w.heap.size w (w.alloc (.cells #[.slice a 0 c] 44)) := (Below.refl _ _).alloc (Nat.le_refl _) _
  have hd0 := d.below hb0
  have hx : Blk (w.alloc (.cells #[.slice a 0 c] 44)) w.heap.size #[.slice a 0 c] 44 := Blk.new _ _ _
  have hnx : ¬ FP b g h pv bx w.heap.size := fun e => by have := (d.fp _ e).2; omega
  have HF : Hid (∀ (w1 : World) (i : Nat), Kept (FP b g h pv bx) (w.alloc (.cells #[.slice a 0 c] 44)) w1 → i < S.wait.length → Calls Tryd.prog 65 #[.int .i64 i, .pointer (some ⟨w.heap.size, 0, none⟩)] w1 fun e w' => e = .returned (.int .i64 (fateK [] i)) ∧ Below w1.heap.size w1 w') := by
    show ∀ (w1 : World) (i : Nat), _
    intro w1 i hk hi
    have hx1 := (hx.kept hk hnx).cell 0 (v := .slice a 0 c) rfl
    exact (none54 i 0 c a w.heap.size hx1 (by omega)).mono (by rintro e w2 ⟨rfl, rfl⟩; exact ⟨rfl, Below.refl _ _⟩)
  unfold pt
  clear d hx
  go_enter Tryd.func34, Tryd.ntmps34
  go_wp2_with fail
  refine (settle54 w.heap.size hd0 (fateK []) (fateK_le []) HF.out).mono ?_
  rintro e w2 ⟨rfl, hd2, hk2⟩
  have c3 := hd2.blk.cell 3 (v := .bool S.off) rfl
  have f3 := hd2.blk.frozen 3
  have c4 := hd2.blk.cell 4 (v := .int .i64 S.cut) rfl
  have f4 := hd2.blk.frozen 4
  have hend : Hid (Left B b (FP b g h pv bx) w (crashD S []) ((w2.setCell ⟨b, 3, none⟩ (.bool false)).setCell ⟨b, 4, none⟩ (.int .i64 0))) := by
    have hk3 : Kept (fun k => k = b) w2 ((w2.setCell ⟨b, 3, none⟩ (.bool false)).setCell ⟨b, 4, none⟩ (.int .i64 0)) := Kept.set (S := fun k => k = b) (Kept.set (S := fun k => k = b) (Kept.refl _ _) rfl _) rfl _
    refine ⟨_, ⟨g, h, cg, ch, .slice none 0 0, [], rfl, ?_⟩, ((Kept.of_below hb0).trans hk2).trans (hk3.mono (fun k _ e => .inl e)), fun k e => .inl (FP_sub k e)⟩
    exact hd2.upd hk3 ((hd2.blk.set 3 _).set 4 _) ⟨hd2.ok.one, hd2.ok.most, hd2.ok.size, hd2.ok.num, hd2.ok.len, Int.le_refl _, (by show (0 : Int) ≤ 9223372036854775807; omega), fun e => rfl⟩ rfl rfl
  clear hd0 hd2 hk2 HF hb0 hnx
  go_wp2
  first | go_end0 | refine bodyPost_ret (results_none rfl _ _ _) rfl ?_
  all_goals exact ⟨rfl, hend.out⟩
/-- A crash with fates in older memory. -/
theorem l_crash_old {B : Nat} {w0 w v : World} {b : Nat} {f0 : Nat → Prop} {S : DS} (h : Left B b f0 w0 S w) (fs : List (Int × Int)) (a : Option Addr) (c : Nat) (hf : FtO v fs a) (hb : Below v.heap.size v w) (hB : v.heap.size ≤ B) : Calls Tryd.prog 34 #[.pointer (some ⟨b, 0, none⟩), .slice a fs.length c] w fun e w' => e = .returned (.tuple #[]) ∧ Left B b f0 w0 (crashD S fs) w' := by
  obtain ⟨fp, d, hk, hn⟩ := h
  have hfw := hf.below hb
  rcases hf with rfl | ⟨fb, off, rfl, hl, hf⟩
  · refine (crash_empty d a c).mono ?_
    rintro e w' ⟨rfl, hL⟩
    exact ⟨rfl, Left.trans hk hn hL⟩
  · refine (crash_any d fs _ c hfw.v (fun fb' off' e q => ?_)).mono ?_
    · injection e with e; injection e with e; subst e
      have := (d.fp _ q).1; omega
    · rintro e w' ⟨rfl, hL⟩
      exact ⟨rfl, Left.trans hk hn hL⟩
/-- What is written into the sector j. -/
def fq (qs : List Pu) (j : Nat) : ByteArray := match qs[j]? with
  | some p => fullB p.f p.e
  | none => zero512
theorem fq_size (qs : List Pu) (j : Nat) : (fq qs j).size = 512 := by unfold fq; split; exact fullB_size _ _; exact z_size
/-- Writes into the first i sectors, one each. -/
def fw (qs : List Pu) (i : Nat) : List (Nat × ByteArray) := (List.range i).map (fun j => (j, fq qs j))
theorem fw_succ (qs : List Pu) (i : Nat) : fw qs (i + 1) = fw qs i ++ [(i, fq qs i)] := by simp [fw, List.range_succ]
theorem fw_length (qs : List Pu) (i : Nat) : (fw qs i).length = i := by simp [fw]
/-- The disk behind the first i of these writes. -/
def fS (l : List ByteArray) (r a : Int) (qs : List Pu) (i : Nat) : DS := ⟨l, fw qs i, false, 0, r, a + i, 1⟩
theorem fS_succ (l : List ByteArray) (r : Int) (a i : Nat) (qs : List Pu) (h : a + i ≤ 17592186044416) :
    ({ fS l r a qs i with wait := (fS l r a qs i).wait ++ [(i, fq qs i)], wr := wrap64 ((fS l r a qs i).wr + 1) } : DS) = fS l r a qs (i + 1) := by
  have hw : wrap64 (((a : Int) + (i : Int)) + 1) = (a : Int) + ((i + 1 : Nat) : Int) := by rw [wrap_small (by omega) (by omega)]; omega
  unfold fS
  simp only [fw_succ, hw]
/-- Each write meets its own fate. -/
theorem settle_each (ks : Nat → Nat) (l : List ByteArray) (qs : List Pu) (m : Nat) (hm : m ≤ l.length) : ∀ i, (settle ks 0 l (fw qs m))[i]? = if i < m then some (tear (fq qs i) (l.getD i ByteArray.empty) (ks i)) else l[i]? := by
  induction m with
  | zero => intro i; simp [fw, settle]
  | succ m ih =>
    intro i
    have ih := ih (by omega)
    have hl : (settle ks 0 l (fw qs m)).length = l.length := length_settle ks 0 l _
    rw [fw_succ, settle_snoc, Nat.zero_add, fw_length]
    unfold lay
    simp only []
    rw [List.getElem?_set]
    split
    · rename_i e
      subst e
      have h0 : (settle ks 0 l (fw qs m)).getD m ByteArray.empty = l.getD m ByteArray.empty := by
        rw [List.getD_eq_getElem?_getD, ih m, if_neg (by omega), ← List.getD_eq_getElem?_getD]
      rw [if_pos (by omega), if_pos (by omega), h0]
    · rename_i e
      rw [ih]
      by_cases h1 : i < m
      · rw [if_pos h1, if_pos (by omega)]
      · rw [if_neg h1, if_neg (by omega)]
theorem settle_getD (ks : Nat → Nat) (l : List ByteArray) (h : ∀ s ∈ l, s.size = 512) (qs : List Pu) (m : Nat) (hm : m ≤ l.length) (i : Nat) (hi : i < l.length) : (settle ks 0 l (fw qs m)).getD i ByteArray.empty = if i < m then tear (fq qs i) (l.getD i ByteArray.empty) (ks i) else l.getD i ByteArray.empty := by
  rw [List.getD_eq_getElem?_getD, settle_each ks l qs m hm]
  split
  · rfl
  · rw [← List.getD_eq_getElem?_getD]
theorem fw_num (qs : List Pu) (m n : Nat) (h : m ≤ n) : ∀ p ∈ fw qs m, p.1 < n := by
  intro p hp
  simp only [fw, List.mem_map, List.mem_range] at hp
  obtain ⟨j, hj, rfl⟩ := hp
  show j < n; omega
theorem fw_len (qs : List Pu) (m : Nat) : ∀ p ∈ fw qs m, p.2.size = 512 := by
  intro p hp
  simp only [fw, List.mem_map, List.mem_range] at hp
  obtain ⟨j, hj, rfl⟩ := hp
  exact fq_size qs j
/-- What a sector holds behind the crash. -/
def fateW (l : List ByteArray) (qs : List Pu) (fs : List (Int × Int)) (m i : Nat) : ByteArray := (settle (fateK fs) 0 l (fw qs m)).getD i ByteArray.empty
theorem fateW_old (l : List ByteArray) (h : ∀ s ∈ l, s.size = 512) (qs : List Pu) (fs : List (Int × Int)) (m : Nat) (hm : m ≤ l.length) (i : Nat) (hi : i < l.length) (hn : i < m → fateK fs i = 0) : fateW l qs fs m i = l.getD i ByteArray.empty := by
  unfold fateW
  rw [settle_getD _ l h qs m hm i hi]
  split
  · rename_i e; rw [hn e, tear_zero (size_getD h hi)]
  · rfl
theorem fateW_new (l : List ByteArray) (h : ∀ s ∈ l, s.size = 512) (qs : List Pu) (fs : List (Int × Int)) (m : Nat) (hm : m ≤ l.length) (i : Nat) (hi : i < l.length) (hn : i < m) : fateW l qs fs m i = tear (fq qs i) (l.getD i ByteArray.empty) (fateK fs i) := by
  unfold fateW
  rw [settle_getD _ l h qs m hm i hi, if_pos hn]
end Go.Proofs.YtnpcnflfpmjgiaaDoor
