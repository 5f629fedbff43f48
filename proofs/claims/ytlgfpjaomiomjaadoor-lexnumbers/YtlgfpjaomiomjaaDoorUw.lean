/- The walk of LexNumbers. -/
import Derived.Test.YtlgfpjaomiomjaaDoorUd
import Derived.Test.YtlgfpjaomiomjaaDoorNw
namespace Go.Proofs.YtlgfpjaomiomjaaDoor
open Go.RowKit
set_option linter.unusedVariables false
set_option linter.unusedSimpArgs false

theorem info_u8 : ∃ i, Tryd.prog.info? 5 = some i ∧ i.zero = some (.int .u8 0) ∧ i.size = 1 ∧ i.bytes = 1 := by
  have h := info5
  cases hi : Tryd.prog.info? 5 with
  | none => rw [hi] at h; cases h
  | some i =>
    rw [hi] at h
    simp only [Option.map_some, Option.some.injEq, Prod.mk.injEq] at h
    exact ⟨i, rfl, h.1, h.2.1, h.2.2⟩
theorem conv_owned {w : World} {base : Nat} {v : Value} {l : List UInt8} {m : Nat} (h : w.ownsRow base 5 1 v m (cells8 l)) (hm : m = l.length) (h1 : 1 ≤ l.length) : (convert 42 9 v).run Tryd.prog w = .ok (.string ⟨l.toArray⟩) w := by
  rcases h.2 with ⟨_, h2⟩ | ⟨g, cap, cur, rfl, hb, hg, rest⟩
  · omega
  · subst hm
    refine run_convert_bytes_back (P := Tryd.prog) w 42 9 5 ⟨g, 0, none⟩ cap l Tryd.underlying42 Tryd.underlying5 Tryd.underlying9 (fun j hj => ?_)
    have := h.cellAt j (by omega)
    rw [show (⟨g, 0, none⟩ : Addr).add j = ⟨g, j, none⟩ by unfold Addr.add; split <;> simp_all]
    rw [this]
    simp [cells8, hj]
theorem up_word (c : UInt8) : ((upB c).toNat : Int) = if 97 ≤ (c.toNat : Int) then (c.toNat : Int) - 32 else (c.toNat : Int) := by
  have : ∀ c : Fin 256, ((upB (UInt8.ofNat c.val)).toNat : Int) = if 97 ≤ ((UInt8.ofNat c.val).toNat : Int) then ((UInt8.ofNat c.val).toNat : Int) - 32 else ((UInt8.ofNat c.val).toNat : Int) := by decide +kernel
  have h := this ⟨c.toNat, c.toNat_lt⟩
  simpa using h
theorem bytes_of (l : List UInt8) : (⟨l.toArray⟩ : ByteArray).data.toList = l := rfl
theorem ba_ext {a b : ByteArray} (h : a.data.toList = b.data.toList) : a = b := by
  apply ByteArray.ext
  apply Array.ext'
  exact h
theorem app_list (a b : ByteArray) : (a ++ b).data.toList = a.data.toList ++ b.data.toList := by rw [ByteArray.data_append, Array.toList_append]
set_option maxHeartbeats 8000000 in
set_option maxRecDepth 100000 in
theorem numbers_walk (n : Nat) (hn : Is128 n) (s : ByteArray) (hs : s.size ≤ 140737488351232) (w : World) (hT : Tabs w) : Calls Tryd.prog 6 #[B n, .string s] w fun e w' => e = .returned (.bool true) ∧ Below w.heap.size w w' := by
  obtain ⟨i5, hi5, hz0, hz1, hz3⟩ := info_u8
  have hB0 : Below w.heap.size w (w.alloc (.cells #[.int .u64 (hiOf n), .int .u64 (loOf n)] 34)) := (Below.refl _ _).alloc (Nat.le_refl _) _
  have HT : Hid (∀ w1, Below w.heap.size w w1 → Tabs w1) := fun w1 h => hT.below h
  have CL : Hid (Calls Tryd.prog 7 #[] (w.alloc (.cells #[.int .u64 (hiOf n), .int .u64 (loOf n)] 34)) fun e w' => e = .returned (.bool true) ∧ Below (w.alloc (.cells #[.int .u64 (hiOf n), .int .u64 (loOf n)] 34)).heap.size (w.alloc (.cells #[.int .u64 (hiOf n), .int .u64 (loOf n)] 34)) w') := live_any _ (hT.below hB0)
  have CD : Hid (∀ (base : Nat) (w1 : World), 2 ≤ base → base ≤ 16 → Calls Tryd.prog 14 #[B n, .int .i64 (base : Int)] w1 fun e w' => e = .returned (.string ⟨(digs base n).toArray⟩) ∧ Below w1.heap.size w1 w') := fun base w1 h1 h2 => digits_any n base hn h1 h2 w1
  obtain ⟨f4a, f4b, f4c⟩ := four_tok hn
  have hbads := bads_ok hn
  have d10 := digs_length 10 n
  have d16 := digs_length 16 n
  have d2 := digs_length 2 n
  obtain ⟨t10, ht10⟩ : ∃ t10 : ByteArray, t10 = ⟨(digs 10 n).toArray⟩ := ⟨_, rfl⟩
  obtain ⟨t16, ht16⟩ : ∃ t16 : ByteArray, t16 = ⟨(digs 16 n).toArray⟩ := ⟨_, rfl⟩
  obtain ⟨t2, ht2⟩ : ∃ t2 : ByteArray, t2 = ⟨(digs 2 n).toArray⟩ := ⟨_, rfl⟩
  have l10 : t10.data.toList = digs 10 n := by rw [ht10]
  have l16 : t16.data.toList = digs 16 n := by rw [ht16]
  have l2 : t2.data.toList = digs 2 n := by rw [ht2]
  have z10 : t10.size ≤ 128 := by have : t10.data.toList.length = t10.size := by simp
                                  rw [← this, l10]; exact d10
  have z16 : t16.size ≤ 128 := by have : t16.data.toList.length = t16.size := by simp
                                  rw [← this, l16]; exact d16
  have z16b : 1 ≤ t16.size := by have : t16.data.toList.length = t16.size := by simp
                                 rw [← this, l16]; exact List.length_pos_iff.2 (digs_ne 16 n)
  have z2 : t2.size ≤ 128 := by have : t2.data.toList.length = t2.size := by simp
                                rw [← this, l2]; exact d2
  have C10 : Hid (∀ w1 : World, Calls Tryd.prog 14 #[B n, .int .i64 10] w1 fun e w' => e = .returned (.string t10) ∧ Below w1.heap.size w1 w') := fun w1 => by rw [ht10]; exact CD.out 10 w1 (by decide) (by decide)
  have C16 : Hid (∀ w1 : World, Calls Tryd.prog 14 #[B n, .int .i64 16] w1 fun e w' => e = .returned (.string t16) ∧ Below w1.heap.size w1 w') := fun w1 => by rw [ht16]; exact CD.out 16 w1 (by decide) (by decide)
  have C2 : Hid (∀ w1 : World, Calls Tryd.prog 14 #[B n, .int .i64 2] w1 fun e w' => e = .returned (.string t2) ∧ Below w1.heap.size w1 w') := fun w1 => by rw [ht2]; exact CD.out 2 w1 (by decide) (by decide)
  have HL10 : Hid (t10.data.toList = digs 10 n) := l10
  have HL16 : Hid (t16.data.toList = digs 16 n) := l16
  have HL2 : Hid (t2.data.toList = digs 2 n) := l2
  have HF4 : Hid ((tokR (fourL n)).2 = (0, 0, 0) ∧ (tokR (fourL n)).1.length = 4 ∧ ∀ (i : Nat) (t : Tk), (tokR (fourL n)).1[i]? = some t → t.kind = 3 ∧ t.val = n) := ⟨f4a, f4b, f4c⟩
  have HBD : Hid (∀ B ∈ badsL n, BadW B) := hbads
  have HBX : Hid (Blk (w.alloc (.cells #[.int .u64 (hiOf n), .int .u64 (loOf n)] 34)) w.heap.size #[.int .u64 (hiOf n), .int .u64 (loOf n)] 34) := Blk.new _ _ _
  have HB0 : Hid (Below w.heap.size w (w.alloc (.cells #[.int .u64 (hiOf n), .int .u64 (loOf n)] 34))) := hB0
  clear hT hB0 CD f4a f4b f4c hbads d10 d16 d2 ht10 ht16 ht2 l10 l16 l2 hn
  go_enter Tryd.func6, Tryd.ntmps6
  go_wp2_with fail
  refine CL.out.mono ?_
  rintro e w1 ⟨rfl, hb1⟩
  have HX1 : Hid (Blk w1 w.heap.size #[.int .u64 (hiOf n), .int .u64 (loOf n)] 34 ∧ Below w.heap.size w w1) := ⟨HBX.out.below hb1, HB0.out.trans (hb1.mono (by simp))⟩
  clear CL HBX HB0 hb1
  have a0 := HX1.out.1.cell 0 (v := .int .u64 (hiOf n)) rfl
  have a1 := HX1.out.1.cell 1 (v := .int .u64 (loOf n)) rfl
  go_wp2_with fail
  refine (C10.out _).mono ?_
  rintro e w2 ⟨rfl, hb2⟩
  have HX2 : Hid (Blk w2 w.heap.size #[.int .u64 (hiOf n), .int .u64 (loOf n)] 34 ∧ Below w.heap.size w w2) := ⟨HX1.out.1.below hb2, bst HX1.out.2 hb2⟩
  clear HX1 hb2 a0 a1
  have a0 := HX2.out.1.cell 0 (v := .int .u64 (hiOf n)) rfl
  have a1 := HX2.out.1.cell 1 (v := .int .u64 (loOf n)) rfl
  go_wp2_with fail
  refine (C16.out _).mono ?_
  rintro e w3 ⟨rfl, hb3⟩
  have HX3 : Hid (Blk w3 w.heap.size #[.int .u64 (hiOf n), .int .u64 (loOf n)] 34 ∧ Below w.heap.size w w3) := ⟨HX2.out.1.below hb3, bst HX2.out.2 hb3⟩
  clear HX2 hb3 a0 a1
  have a0 := HX3.out.1.cell 0 (v := .int .u64 (hiOf n)) rfl
  have a1 := HX3.out.1.cell 1 (v := .int .u64 (loOf n)) rfl
  go_wp2_with fail
  refine (C2.out _).mono ?_
  rintro e w4 ⟨rfl, hb4⟩
  have HX4 : Hid (Blk w4 w.heap.size #[.int .u64 (hiOf n), .int .u64 (loOf n)] 34 ∧ Below w.heap.size w w4) := ⟨HX3.out.1.below hb4, bst HX3.out.2 hb4⟩
  clear HX3 hb4 a0 a1 C10 C16 C2
  go_wp2_with fail
  go_loopw [9, 10] (fun l i wr => ∃ (k : Nat) (sv : Value), k ≤ t16.size ∧ l = sv ∧ i = .int .i64 k ∧ wr.ownsRow (w.heap.size + 1) 5 1 sv k (cells8 ((t16.data.toList.take k).map upB)) ∧ Blk wr w.heap.size #[.int .u64 (hiOf n), .int .u64 (loOf n)] 34 ∧ Below w.heap.size w wr) (fun _ i _ => t16.size - (intOf i).toNat)
  case atStart => exact ⟨0, .slice none 0 0, by omega, rfl, rfl, World.ownsRow_nil _ _ _ _, HX4.out.1, HX4.out.2⟩
  case round =>
    obtain ⟨k, sv, hk, rfl, rfl, hrow, hbk, hB⟩ := hrel
    have HROW : Hid (wr.ownsRow (w.heap.size + 1) 5 1 u9 k (cells8 ((t16.data.toList.take k).map upB))) := hrow
    have HBKr : Hid (Blk wr w.heap.size #[.int .u64 (hiOf n), .int .u64 (loOf n)] 34) := hbk
    have HBr : Hid (Below w.heap.size w wr) := hB
    clear hrow hbk hB HX4
    by_cases hlt : k < t16.size
    · have hc8 : t16[k].toNat < 256 := t16[k].toNat_lt
      have hup := up_word t16[k]
      have HSN : Hid (cells8 ((t16.data.toList.take (k + 1)).map upB) = cells8 ((t16.data.toList.take k).map upB) ++ [.int .u8 ((upB t16[k]).toNat : Int)]) := by
        show _ = _
        have : t16.data.toList.take (k + 1) = t16.data.toList.take k ++ [t16[k]] := by
          rw [List.take_succ_eq_append_getElem (by simpa using hlt)]; rfl
        rw [this, List.map_append]; simp [cells8]
      obtain ⟨z, hz⟩ : ∃ z : Int, z = ((upB t16[k]).toNat : Int) := ⟨_, rfl⟩
      rw [← hz] at hup HSN
      clear hz
      have HR0 : Hid ((wr.alloc (.cells #[.int .u8 z] 5)).ownsRow (w.heap.size + 1) 5 1 u9 k (cells8 ((t16.data.toList.take k).map upB))) := HROW.out.alloc _
      have HN0 : Hid (∀ (j : Nat) (u : Value), [Value.int .u8 z][j]? = some u → (wr.alloc (.cells #[.int .u8 z] 5)).cell? ((⟨wr.heap.size, 0, none⟩ : Addr).add j) = some u) := World.news_of_block (Blk.new wr #[.int .u8 z] 5)
      have HO0 : Hid (∀ u ∈ [Value.int .u8 z], u.oneCell' = true) := fun u hu => by simp at hu; subst hu; rfl
      have HZ1 : Hid (k + 1 ≤ maxLen) := by show _ ≤ _; unfold maxLen; omega
      have HZ2 : Hid ((k + 1) * 1 ≤ 140737488355328) := by show _ ≤ _; omega
      have HZ3 : Hid (w.heap.size + 1 ≤ (wr.alloc (.cells #[.int .u8 z] 5)).heap.size) := by show _ ≤ _; have := HBKr.out.lt; simp; omega
      by_cases h97 : 97 ≤ (t16[k].toNat : Int)
      · rw [if_pos h97] at hup
        subst hup
        have hmod : ((t16[k].toNat : Int) - 32) % 256 = (t16[k].toNat : Int) - 32 := by omega
        go_wp2_with (at_builtin; refine wpList_append_lies _ rfl _ _ 42 rfl (w.heap.size + 1) 5 i5 (.int .u8 0) 1 1 Tryd.underlying42 hi5 hz0 hz1 hz3 rfl (by decide) u9 k _ rfl HR0.out ⟨wr.heap.size, 0, none⟩ 1 1 [.int .u8 ((t16[k].toNat : Int) - 32)] rfl rfl HN0.out HO0.out (by decide) HZ1.out HZ2.out HZ3.out _ rfl ?_)
        intro g1 cap1 wx hown1 hgr1 hwh1 hlt1
        have hKA : Kept (fun k => u9.ownBlock = some k) wr wx := ((Kept.refl _ _).alloc _).grown hgr1 (fun k e => e)
        have hrn : wx.ownsRow (w.heap.size + 1) 5 1 (.slice (some ⟨g1, 0, none⟩) (k + 1) cap1) (k + 1) (cells8 ((t16.data.toList.take (k + 1)).map upB)) := by rw [HSN.out, List.map_take]; exact hown1
        have H1 : Hid (wx.ownsRow (w.heap.size + 1) 5 1 (.slice (some ⟨g1, 0, none⟩) (k + 1) cap1) (k + 1) (cells8 ((t16.data.toList.take (k + 1)).map upB))) := hrn
        have H2 : Hid (Blk wx w.heap.size #[.int .u64 (hiOf n), .int .u64 (loOf n)] 34) := HBKr.out.kept hKA (fun e => by have := (HROW.out.lt _ e).1; omega)
        have H3 : Hid (Below w.heap.size w wx) := HBr.out.trans (hKA.below HBr.out.size (fun j e => by have := (HROW.out.lt j e).1; omega))
        clear hown1 hgr1 hwh1 hKA hrn HR0 HN0 HO0 HZ1 HZ2 HZ3
        go_wp2
        exact ⟨⟨k + 1, _, by omega, rfl, by go_num, H1.out, H2.out, H3.out⟩, by simp only [intOf]; omega⟩
      · rw [if_neg h97] at hup
        subst hup
        have h97d : decide (97 ≤ (t16[k].toNat : Int)) = false := by simpa using h97
        go_wp2_with (at_builtin; refine wpList_append_lies _ rfl _ _ 42 rfl (w.heap.size + 1) 5 i5 (.int .u8 0) 1 1 Tryd.underlying42 hi5 hz0 hz1 hz3 rfl (by decide) u9 k _ rfl HR0.out ⟨wr.heap.size, 0, none⟩ 1 1 [.int .u8 ((t16[k].toNat : Int))] rfl rfl HN0.out HO0.out (by decide) HZ1.out HZ2.out HZ3.out _ rfl ?_)
        intro g1 cap1 wx hown1 hgr1 hwh1 hlt1
        have hKA : Kept (fun k => u9.ownBlock = some k) wr wx := ((Kept.refl _ _).alloc _).grown hgr1 (fun k e => e)
        have hrn : wx.ownsRow (w.heap.size + 1) 5 1 (.slice (some ⟨g1, 0, none⟩) (k + 1) cap1) (k + 1) (cells8 ((t16.data.toList.take (k + 1)).map upB)) := by rw [HSN.out, List.map_take]; exact hown1
        have H1 : Hid (wx.ownsRow (w.heap.size + 1) 5 1 (.slice (some ⟨g1, 0, none⟩) (k + 1) cap1) (k + 1) (cells8 ((t16.data.toList.take (k + 1)).map upB))) := hrn
        have H2 : Hid (Blk wx w.heap.size #[.int .u64 (hiOf n), .int .u64 (loOf n)] 34) := HBKr.out.kept hKA (fun e => by have := (HROW.out.lt _ e).1; omega)
        have H3 : Hid (Below w.heap.size w wx) := HBr.out.trans (hKA.below HBr.out.size (fun j e => by have := (HROW.out.lt j e).1; omega))
        clear hown1 hgr1 hwh1 hKA hrn HR0 HN0 HO0 HZ1 HZ2 HZ3
        go_wp2
        exact ⟨⟨k + 1, _, by omega, rfl, by go_num, H1.out, H2.out, H3.out⟩, by simp only [intOf]; omega⟩
    · have e : k = t16.size := by omega
      subst e
      have hfull : t16.data.toList.take t16.size = digs 16 n := by rw [List.take_of_length_le (by simp)]; exact HL16.out
      have hrow2 := HROW.out
      rw [hfull] at hrow2
      have hl16 : (digs 16 n).length = t16.size := by rw [← HL16.out]; simp
      have hcv := conv_owned hrow2 (by rw [List.length_map]; exact hl16.symm) (by rw [List.length_map]; omega)
      obtain ⟨tb, htb⟩ : ∃ tb : ByteArray, tb = ⟨((digs 16 n).map upB).toArray⟩ := ⟨_, rfl⟩
      rw [← htb] at hcv
      have ltb : tb.data.toList = (digs 16 n).map upB := by rw [htb]
      have ztb : tb.size ≤ 128 := by
        have : tb.data.toList.length = tb.size := by simp
        rw [← this, ltb, List.length_map, hl16]; exact z16
      have CF : Hid (Calls Tryd.prog 10 #[.string (t10 ++ ⟨#[32, 48, 120]⟩ ++ t16 ++ ⟨#[10, 48, 120, 48, 48]⟩ ++ tb ++ ⟨#[32, 48, 98]⟩ ++ t2)] wr fun e w' => ∃ ad cap, e = .returned (.tuple #[.slice ad 4 cap, .agg (fltA (0, 0, 0))]) ∧ Tok6 w' ad (tokR (fourL n)).1 ∧ Below wr.heap.size wr w') := by
        have hl : (t10 ++ ⟨#[32, 48, 120]⟩ ++ t16 ++ ⟨#[10, 48, 120, 48, 48]⟩ ++ tb ++ ⟨#[32, 48, 98]⟩ ++ t2).data.toList = fourL n := by
          simp only [app_list, HL10.out, HL16.out, HL2.out, ltb]
          unfold fourL; simp
        have hz : (t10 ++ ⟨#[32, 48, 120]⟩ ++ t16 ++ ⟨#[10, 48, 120, 48, 48]⟩ ++ tb ++ ⟨#[32, 48, 98]⟩ ++ t2).size ≤ maxLen := by
          simp only [ByteArray.size_append]
          rw [show (⟨#[32, 48, 120]⟩ : ByteArray).size = 3 from rfl, show (⟨#[10, 48, 120, 48, 48]⟩ : ByteArray).size = 5 from rfl, show (⟨#[32, 48, 98]⟩ : ByteArray).size = 3 from rfl]
          unfold maxLen; omega
        have := tok_six _ hz wr (HT.out wr HBr.out)
        rw [hl] at this
        rw [HF4.out.1, HF4.out.2.1] at this
        exact this
      clear hfull hrow2 hl16 htb ltb HROW
      go_wp2_with fail
      refine CF.out.mono ?_
      rintro e w5 ⟨ad, cap, rfl, h65, hb5⟩
      have HX5 : Hid (Tok6 (w5.alloc (.cells (fltA (0, 0, 0)) 29)) ad (tokR (fourL n)).1 ∧ Blk (w5.alloc (.cells (fltA (0, 0, 0)) 29)) w.heap.size #[.int .u64 (hiOf n), .int .u64 (loOf n)] 34 ∧ Below w.heap.size w (w5.alloc (.cells (fltA (0, 0, 0)) 29))) := by
        have hba : Below w5.heap.size w5 (w5.alloc (.cells (fltA (0, 0, 0)) 29)) := (Below.refl _ _).alloc (Nat.le_refl _) _
        exact ⟨h65.below hba, (HBKr.out.below hb5).below hba, bst (bst HBr.out hb5) hba⟩
      clear h65 hb5 HBKr HBr CF hcv
      obtain ⟨W5, hW5⟩ : ∃ W5, W5 = w5.alloc (.cells (fltA (0, 0, 0)) 29) := ⟨_, rfl⟩
      rw [← hW5] at HX5
      go_wp2_with fail
      rw [show (w5.alloc (Obj.cells #[Value.int IntKind.i64 0, .int .i64 0, .int .i64 0] 29)) = W5 from hW5.symm]
      clear hW5
      go_loopw [14] (fun i wq => ∃ k : Nat, k ≤ 4 ∧ i = .int .i64 k ∧ Tok6 wq ad (tokR (fourL n)).1 ∧ Blk wq w.heap.size #[.int .u64 (hiOf n), .int .u64 (loOf n)] 34 ∧ Below w.heap.size w wq) (fun i _ => 4 - (intOf i).toNat)
      case atStart => exact ⟨0, by omega, rfl, HX5.out⟩
      case round =>
        obtain ⟨k, hk, rfl, h6, hbk, hB⟩ := hrel
        have HX6 : Hid (Tok6 wr ad (tokR (fourL n)).1 ∧ Blk wr w.heap.size #[.int .u64 (hiOf n), .int .u64 (loOf n)] 34 ∧ Below w.heap.size w wr) := ⟨h6, hbk, hB⟩
        clear h6 hbk hB HX5
        by_cases hlt : k < 4
        · obtain ⟨t, ht⟩ : ∃ t, (tokR (fourL n)).1[k]? = some t := ⟨_, List.getElem?_eq_getElem (by rw [HF4.out.2.1]; exact hlt)⟩
          obtain ⟨k3, kv⟩ := HF4.out.2.2 k t ht
          obtain ⟨ga, eA, h6⟩ := HX6.out.1 k t ht
          obtain ⟨c0, c1, c2, c3, c4, c5⟩ := h6
          rw [k3] at c0
          rw [kv] at c2 c3
          have a0 := HX6.out.2.1.cell 0 (v := .int .u64 (hiOf n)) rfl
          have a1 := HX6.out.2.1.cell 1 (v := .int .u64 (loOf n)) rfl
          have hkI : (k : Int) < 4 := by omega
          clear ht k3 kv c1 c4 c5
          go_wp2
          go_quiet (fail)
          go_wp2
          exact ⟨⟨k + 1, by omega, by go_num, HX6.out.1.below ⟨rfl, rfl, rfl, Nat.le_refl _, fun _ _ => rfl⟩, HX6.out.2.1, ⟨HX6.out.2.2.os, HX6.out.2.2.tape, HX6.out.2.2.output, HX6.out.2.2.size, HX6.out.2.2.block⟩⟩, by simp only [intOf]; omega⟩
        · have e : k = 4 := by omega
          subst e
          have HB6 : Hid (Below w.heap.size w wr) := HX6.out.2.2
          clear HX6
          obtain ⟨W6, hW6⟩ : ∃ W6, W6 = wr.alloc (.cells (strsA (badsL n)) 9) := ⟨_, rfl⟩
          have HS6 : Hid (SRow W6 wr.heap.size (badsL n) ∧ wr.heap.size < W6.heap.size ∧ Below w.heap.size w W6) := by
            have hbk : Blk W6 wr.heap.size (strsA (badsL n)) 9 := by rw [hW6]; exact Blk.new _ _ _
            exact ⟨SRow.of_blk hbk, hbk.lt, by rw [hW6]; exact HB6.out.alloc HB6.out.size _⟩
          have e1 : (⟨#[48]⟩ : ByteArray) ++ t10 = ⟨(48 :: digs 10 n).toArray⟩ := ba_ext (by rw [app_list, HL10.out]; rfl)
          have e2 : t10 ++ (⟨#[120]⟩ : ByteArray) = ⟨(digs 10 n ++ [120]).toArray⟩ := ba_ext (by rw [app_list, HL10.out])
          have e3 : t10 ++ (⟨#[95]⟩ : ByteArray) = ⟨(digs 10 n ++ [95]).toArray⟩ := ba_ext (by rw [app_list, HL10.out])
          have e4 : (⟨#[48, 120]⟩ : ByteArray) ++ t16 ++ ⟨#[103]⟩ = ⟨([48, 120] ++ digs 16 n ++ [103]).toArray⟩ := ba_ext (by rw [app_list, app_list, HL16.out])
          have e5 : (⟨#[48, 98]⟩ : ByteArray) ++ t2 ++ ⟨#[50]⟩ = ⟨([48, 98] ++ digs 2 n ++ [50]).toArray⟩ := ba_ext (by rw [app_list, app_list, HL2.out])
          have e6 : (⟨#[48, 88]⟩ : ByteArray) ++ t16 = ⟨([48, 88] ++ digs 16 n).toArray⟩ := ba_ext (by rw [app_list, HL16.out])
          have HE : Hid (wr.alloc (.cells #[.string (⟨#[48]⟩ ++ t10), .string (t10 ++ ⟨#[120]⟩), .string (t10 ++ ⟨#[95]⟩), .string ⟨#[48, 120]⟩, .string (⟨#[48, 120]⟩ ++ t16 ++ ⟨#[103]⟩), .string (⟨#[48, 98]⟩ ++ t2 ++ ⟨#[50]⟩), .string (⟨#[48, 88]⟩ ++ t16), .string ⟨#[48, 120, 49, 48, 48, 48, 48, 48, 48, 48, 48, 48, 48, 48, 48, 48, 48, 48, 48, 48, 48, 48, 48, 48, 48, 48, 48, 48, 48, 48, 48, 48, 48, 48, 48]⟩, .string ⟨#[51, 52, 48, 50, 56, 50, 51, 54, 54, 57, 50, 48, 57, 51, 56, 52, 54, 51, 52, 54, 51, 51, 55, 52, 54, 48, 55, 52, 51, 49, 55, 54, 56, 50, 49, 49, 52, 53, 54]⟩] 9) = W6) := by
            show _ = _
            rw [hW6, e1, e2, e3, e4, e5, e6]; rfl
          clear hW6 e1 e2 e3 e4 e5 e6
          go_wp2_with fail
          rw [HE.out]
          generalize wr.heap.size = gb at *
          clear HE
          go_loopw [16] (fun i wq => ∃ k : Nat, k ≤ 9 ∧ i = .int .i64 k ∧ Below W6.heap.size W6 wq) (fun i _ => 9 - (intOf i).toNat)
          case atStart => exact ⟨0, by omega, rfl, Below.refl _ _⟩
          case round =>
            obtain ⟨k, hk, rfl, hB⟩ := hrel
            by_cases hlt : k < 9
            · obtain ⟨t, ht⟩ : ∃ t, (badsL n)[k]? = some t := ⟨_, List.getElem?_eq_getElem (show k < (badsL n).length from hlt)⟩
              have cb := (HS6.out.1.below hB HS6.out.2.1).1 k t ht
              have hbw : Below w.heap.size w wr := bst HS6.out.2.2 hB
              have hbad := HBD.out t (List.mem_of_getElem? ht)
              have htl : t.length ≤ 200 := by
                have hall : ∀ B ∈ badsL n, B.length ≤ 200 := fun B hB => by
                  have d10 := digs_length 10 n
                  have d16 := digs_length 16 n
                  have d2 := digs_length 2 n
                  simp only [badsL, List.mem_cons, List.not_mem_nil, or_false] at hB
                  rcases hB with rfl | rfl | rfl | rfl | rfl | rfl | rfl | rfl | rfl <;> simp <;> omega
                exact hall t (List.mem_of_getElem? ht)
              obtain ⟨tt, htt⟩ : ∃ tt : ByteArray, tt = ⟨t.toArray⟩ := ⟨_, rfl⟩
              have htz : tt.size ≤ 200 := by rw [htt]; show t.toArray.size ≤ _; simpa using htl
              rw [← htt] at cb
              have CT : Hid (Calls Tryd.prog 10 #[.string (tt ++ ⟨#[32]⟩ ++ s)] wr fun e w' => ∃ (sv : Value) (F : Nat × Nat × Nat), e = .returned (.tuple #[sv, .agg (fltA F)]) ∧ (F = (2, 0, 0) ∨ F = (61, 1, 1)) ∧ Below wr.heap.size wr w') := by
                have hz : (tt ++ ⟨#[32]⟩ ++ s).size ≤ maxLen := by
                  rw [ByteArray.size_append, ByteArray.size_append, show (⟨#[32]⟩ : ByteArray).size = 1 from rfl]
                  unfold maxLen; omega
                have := tok_six _ hz wr (HT.out wr hbw)
                rw [show (tt ++ ⟨#[32]⟩ ++ s).data.toList = t ++ 32 :: s.data.toList by rw [app_list, app_list, htt]; simp, bad_tok hbad] at this
                refine this.mono ?_
                rintro e w' ⟨ad2, cap2, rfl, _, hb⟩
                refine ⟨_, _, rfl, ?_, hb⟩
                split
                · exact .inl rfl
                · exact .inr rfl
              have HBk : Hid (Below W6.heap.size W6 wr) := hB
              have h32 : (⟨#[32]⟩ : ByteArray).size = 1 := rfl
              have hkI : (k : Int) < 9 := by omega
              clear ht hbad htl htt hbw hB
              go_wp2_with fail
              refine CT.out.mono ?_
              rintro e wx ⟨sv, F, rfl, hF, hbx⟩
              have HB7 : Hid (Below W6.heap.size W6 (wx.alloc (.cells (fltA F) 29))) := (bst HBk.out hbx).alloc (by have := HBk.out.size; have := hbx.size; omega) _
              clear HBk hbx CT cb
              rcases hF with rfl | rfl
              · go_wp2
                exact ⟨⟨k + 1, by omega, by go_num, HB7.out⟩, by simp only [intOf]; omega⟩
              · go_wp2
                exact ⟨⟨k + 1, by omega, by go_num, HB7.out⟩, by simp only [intOf]; omega⟩
            · have e : k = 9 := by omega
              subst e
              have HBf : Hid (Below w.heap.size w wr) := bst HS6.out.2.2 hB
              clear hB
              go_wp2
              go_ret
              exact ⟨rfl, HBf.out⟩
end Go.Proofs.YtlgfpjaomiomjaaDoor
