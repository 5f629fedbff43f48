/- The statement's own digits. -/
import Derived.Test.YtlgfpjaomiomjaaDoorUc
namespace Go.Proofs.YtlgfpjaomiomjaaDoor
open Go.RowKit
set_option linter.unusedVariables false
set_option linter.unusedSimpArgs false

theorem infoInt : (Tryd.prog.info? 3).map (fun i => (i.zero, i.size, i.bytes)) = some (some (.int .i64 0), 1, 8) := by kernel_rfl
theorem info_int : ∃ i, Tryd.prog.info? 3 = some i ∧ i.zero = some (.int .i64 0) ∧ i.size = 1 ∧ i.bytes = 8 := by
  have h := infoInt
  cases hi : Tryd.prog.info? 3 with
  | none => rw [hi] at h; cases h
  | some i =>
    rw [hi] at h
    simp only [Option.map_some, Option.some.injEq, Prod.mk.injEq] at h
    exact ⟨i, rfl, h.1, h.2.1, h.2.2⟩
/-- Eight numbers in memory. -/
def LRow (w : World) (g : Nat) (f : Nat → Nat) : Prop := ∀ j, j < 8 → w.cell? ⟨g, j, none⟩ = some (.int .i64 (f j : Int)) ∧ w.frozen? ⟨g, j, none⟩ = false
theorem LRow.set {w : World} {g : Nat} {f : Nat → Nat} (h : LRow w g f) (k x : Nat) (hk : k < 8) : LRow (w.setCell ⟨g, k, none⟩ (.int .i64 (x : Int))) g (fun j => if j = k then x else f j) := fun j hj => by
  obtain ⟨h1, h2⟩ := h j hj
  refine ⟨?_, by simpa using h2⟩
  by_cases e : j = k
  · subst e; simp only [if_true]; exact World.cell?_setCell_same _ _ _ h1
  · simp only [e, if_false]; rw [World.cell?_setCell_other _ _ _ _ (by intro x; injection x with _ x _; exact e x.symm)]; exact h1
theorem LRow.congr {w : World} {g : Nat} {f f' : Nat → Nat} (h : LRow w g f) (e : ∀ j, j < 8 → f j = f' j) : LRow w g f' := fun j hj => by rw [← e j hj]; exact h j hj
def lmbs (n k : Nat) : List Value := (List.range k).map fun j => Value.int .i64 (lmb n j : Int)
theorem lmbs_snoc (n k : Nat) : lmbs n (k + 1) = lmbs n k ++ [.int .i64 (lmb n k : Int)] := by unfold lmbs; rw [List.range_succ, List.map_append]; rfl
set_option maxHeartbeats 4000000 in
set_option maxRecDepth 100000 in
theorem digits_any (n base : Nat) (hn : Is128 n) (hb2 : 2 ≤ base) (hb16 : base ≤ 16) (w : World) : Calls Tryd.prog 14 #[B n, .int .i64 (base : Int)] w fun e w' => e = .returned (.string ⟨(digs base n).toArray⟩) ∧ Below w.heap.size w w' := by
  obtain ⟨i3, hi3, hz0, hz1, hz3⟩ := info_int
  have HLO : Hid (∀ j, j < 4 → (n % 18446744073709551616) / 65536 ^ j % 65536 = lmb n j) := fun j h => lmb_lo n h
  have HHI : Hid (∀ j, j < 4 → (n / 18446744073709551616) / 65536 ^ j % 65536 = lmb n (4 + j)) := fun j h => lmb_hi n h
  have hlo : loOf n = ((n % 18446744073709551616 : Nat) : Int) := rfl
  have hhi : hiOf n = ((n / 18446744073709551616 : Nat) : Int) := rfl
  obtain ⟨lo, hlo2⟩ : ∃ lo, lo = n % 18446744073709551616 := ⟨_, rfl⟩
  obtain ⟨hi, hhi2⟩ : ∃ hi, hi = n / 18446744073709551616 := ⟨_, rfl⟩
  have blo : lo < 18446744073709551616 := by omega
  have bhi : hi < 18446744073709551616 := by unfold Is128 at hn; omega
  have HBL : Hid (lo < 18446744073709551616 ∧ hi < 18446744073709551616) := ⟨blo, bhi⟩
  rw [← hlo2] at HLO hlo
  rw [← hhi2] at HHI hhi
  have HN : Hid (Is128 n) := hn
  have HB0 : Hid (Below w.heap.size w (w.alloc (.cells #[.int .u64 (hi : Int), .int .u64 (lo : Int)] 34))) := (Below.refl _ _).alloc (Nat.le_refl _) _
  have HBK : Hid (Blk (w.alloc (.cells #[.int .u64 (hi : Int), .int .u64 (lo : Int)] 34)) w.heap.size #[.int .u64 (hi : Int), .int .u64 (lo : Int)] 34) := Blk.new _ _ _
  rw [show B n = .agg #[.int .u64 (hi : Int), .int .u64 (lo : Int)] by unfold B; rw [hlo, hhi]]
  clear hlo hhi hlo2 hhi2 blo bhi hn
  go_enter Tryd.func14, Tryd.ntmps14
  go_wp2
  go_loopw [5, 6] (fun l i wr => ∃ (k : Nat) (sv : Value), k ≤ 8 ∧ l = sv ∧ i = .int .i64 k ∧ wr.ownsRow (w.heap.size + 1) 3 1 sv k (lmbs n k) ∧ Blk wr w.heap.size #[.int .u64 (hi : Int), .int .u64 (lo : Int)] 34 ∧ Below w.heap.size w wr) (fun _ i _ => 8 - (intOf i).toNat)
  case atStart => exact ⟨0, .slice none 0 0, by omega, rfl, rfl, World.ownsRow_nil _ _ _ _, HBK.out, HB0.out⟩
  case round =>
    obtain ⟨k, sv, hk, rfl, rfl, hrow, hbk, hB⟩ := hrel
    have HROW : Hid (wr.ownsRow (w.heap.size + 1) 3 1 u5 k (lmbs n k)) := hrow
    have HBKr : Hid (Blk wr w.heap.size #[.int .u64 (hi : Int), .int .u64 (lo : Int)] 34) := hbk
    have HBr : Hid (Below w.heap.size w wr) := hB
    clear hrow hbk hB HB0 HBK
    by_cases hlt : k < 8
    · by_cases h4 : k < 4
      · skip
        have hX := HBL.out.1
        have hm4 : k % 4 = k := by omega
        have hmI : (k : Int) % 4 = ((k % 4 : Nat) : Int) := by omega
        have h4d : decide ((4 : Int) ≤ (k : Int)) = false := by simp; omega
        have c0 := HBKr.out.cell 0 (v := .int .u64 (hi : Int)) rfl
        have c1 := HBKr.out.cell 1 (v := .int .u64 (lo : Int)) rfl
        have HL : Hid (lo / 65536 ^ (k % 4) % 65536 = lmb n k) := by show _ = _; rw [hm4]; exact HLO.out k h4
        obtain ⟨K4, hK4⟩ : ∃ K4, K4 = k % 4 := ⟨_, rfl⟩
        rw [← hK4] at hmI HL
        have hK4b : K4 < 4 := by omega
        clear hm4 hK4
        go_wp2_with fail
        go_loopw [7, 8] (fun x q wq => ∃ t : Nat, t ≤ K4 ∧ q = .int .i64 t ∧ x = .int .u64 ((lo / 65536 ^ t : Nat) : Int) ∧ wq = wr) (fun _ q _ => K4 - (intOf q).toNat)
        case atStart => exact ⟨0, by omega, rfl, by simp, rfl⟩
        case round =>
          obtain ⟨t, ht, rfl, rfl, hwr⟩ := hrel
          obtain rfl := Eq.symm hwr
          have hxb : lo / 65536 ^ t < 18446744073709551616 := Nat.lt_of_le_of_lt (Nat.div_le_self _ _) hX
          by_cases hlt2 : t < K4
          · have E : Hid (lo / 65536 ^ (t + 1) = lo / 65536 ^ t / 65536) := by show _ = _; rw [Nat.div_div_eq_div_mul, Nat.pow_succ]
            generalize lo / 65536 ^ t = y at *
            go_wp2
            exact ⟨⟨t + 1, by omega, by go_num, by rw [E.out]; simp, trivial⟩, by simp only [intOf]; omega⟩
          · have e : t = K4 := by omega
            subst e
            have hy : lo / 65536 ^ t % 65536 < 65536 := Nat.mod_lt _ (by decide)
            have HLy : Hid (lo / 65536 ^ t % 65536 = lmb n k) := HL.out
            generalize lo / 65536 ^ t = y at *
            have e1 : (y : Int) % 65536 = ((y % 65536 : Nat) : Int) := by omega
            have HE1 : IntKind.i64.wrap (((y % 65536 : Nat) : Int)) = ((y % 65536 : Nat) : Int) := by rw [IntKind.wrap_i64]; omega
            obtain ⟨z, hz⟩ : ∃ z, z = y % 65536 := ⟨_, rfl⟩
            rw [← hz] at e1 HE1 HLy
            have hzb : z < 65536 := by omega
            have hzl : z = lmb n k := HLy.out
            have HZL : Hid (z = lmb n k) := hzl
            have HR0 : Hid ((wr.alloc (.cells #[.int .i64 (z : Int)] 3)).ownsRow (w.heap.size + 1) 3 1 u5 k (lmbs n k)) := HROW.out.alloc _
            have HN0 : Hid (∀ (j : Nat) (u : Value), [Value.int .i64 (z : Int)][j]? = some u → (wr.alloc (.cells #[.int .i64 (z : Int)] 3)).cell? ((⟨wr.heap.size, 0, none⟩ : Addr).add j) = some u) := World.news_of_block (Blk.new wr #[.int .i64 (z : Int)] 3)
            have HO0 : Hid (∀ u ∈ [Value.int .i64 (z : Int)], u.oneCell' = true) := fun u hu => by simp at hu; subst hu; rfl
            have HZ1 : Hid (k + 1 ≤ maxLen) := by show _ ≤ _; unfold maxLen; omega
            have HZ2 : Hid ((k + 1) * 8 ≤ 140737488355328) := by show _ ≤ _; omega
            have HZ3 : Hid (w.heap.size + 1 ≤ (wr.alloc (.cells #[.int .i64 (z : Int)] 3)).heap.size) := by show _ ≤ _; have := HBKr.out.lt; simp; omega
            clear hz hzl hy hxb hX HL HLy c0 c1
            go_wp2_with (at_builtin; refine wpList_append_lies _ rfl _ _ 49 rfl (w.heap.size + 1) 3 i3 (.int .i64 0) 1 8 Tryd.underlying49 hi3 hz0 hz1 hz3 rfl (by decide) u5 k (lmbs n k) rfl HR0.out ⟨wr.heap.size, 0, none⟩ 1 1 [.int .i64 (z : Int)] rfl rfl HN0.out HO0.out (by decide) HZ1.out HZ2.out HZ3.out _ rfl ?_)
            intro g1 cap1 w4 hown1 hgr1 hwh1 hlt1
            have hKA : Kept (fun k => u5.ownBlock = some k) wr w4 := ((Kept.refl _ _).alloc _).grown hgr1 (fun k e => e)
            have hrn : w4.ownsRow (w.heap.size + 1) 3 1 (.slice (some ⟨g1, 0, none⟩) (k + 1) cap1) (k + 1) (lmbs n (k + 1)) := by rw [lmbs_snoc, ← HZL.out]; exact hown1
            have hb4 : Blk w4 w.heap.size #[.int .u64 (hi : Int), .int .u64 (lo : Int)] 34 := HBKr.out.kept hKA (fun e => by have := (HROW.out.lt _ e).1; omega)
            have hbb4 : Below w.heap.size w w4 := HBr.out.trans (hKA.below HBr.out.size (fun j e => by have := (HROW.out.lt j e).1; omega))
            have H1 : Hid (w4.ownsRow (w.heap.size + 1) 3 1 (.slice (some ⟨g1, 0, none⟩) (k + 1) cap1) (k + 1) (lmbs n (k + 1))) := hrn
            have H2 : Hid (Blk w4 w.heap.size #[.int .u64 (hi : Int), .int .u64 (lo : Int)] 34) := hb4
            have H3 : Hid (Below w.heap.size w w4) := hbb4
            clear hown1 hgr1 hwh1 hKA hrn hb4 hbb4 HR0 HN0 HO0 HZ1 HZ2 HZ3
            go_wp2
            exact ⟨⟨k + 1, _, by omega, rfl, by go_num, H1.out, H2.out, H3.out⟩, by simp only [intOf]; omega⟩
      · skip
        have hX := HBL.out.2
        have hm4 : k % 4 = k - 4 := by omega
        have hmI : (k : Int) % 4 = ((k % 4 : Nat) : Int) := by omega
        have h4d : (4 : Int) ≤ (k : Int) := by omega
        have c0 := HBKr.out.cell 0 (v := .int .u64 (hi : Int)) rfl
        have c1 := HBKr.out.cell 1 (v := .int .u64 (lo : Int)) rfl
        have HL : Hid (hi / 65536 ^ (k % 4) % 65536 = lmb n k) := by show _ = _; rw [hm4, show lmb n k = lmb n (4 + (k - 4)) by congr 1; omega]; exact HHI.out (k - 4) (by omega)
        obtain ⟨K4, hK4⟩ : ∃ K4, K4 = k % 4 := ⟨_, rfl⟩
        rw [← hK4] at hmI HL
        have hK4b : K4 < 4 := by omega
        clear hm4 hK4
        go_wp2_with fail
        go_loopw [7, 8] (fun x q wq => ∃ t : Nat, t ≤ K4 ∧ q = .int .i64 t ∧ x = .int .u64 ((hi / 65536 ^ t : Nat) : Int) ∧ wq = wr) (fun _ q _ => K4 - (intOf q).toNat)
        case atStart => exact ⟨0, by omega, rfl, by simp, rfl⟩
        case round =>
          obtain ⟨t, ht, rfl, rfl, hwr⟩ := hrel
          obtain rfl := Eq.symm hwr
          have hxb : hi / 65536 ^ t < 18446744073709551616 := Nat.lt_of_le_of_lt (Nat.div_le_self _ _) hX
          by_cases hlt2 : t < K4
          · have E : Hid (hi / 65536 ^ (t + 1) = hi / 65536 ^ t / 65536) := by show _ = _; rw [Nat.div_div_eq_div_mul, Nat.pow_succ]
            generalize hi / 65536 ^ t = y at *
            go_wp2
            exact ⟨⟨t + 1, by omega, by go_num, by rw [E.out]; simp, trivial⟩, by simp only [intOf]; omega⟩
          · have e : t = K4 := by omega
            subst e
            have hy : hi / 65536 ^ t % 65536 < 65536 := Nat.mod_lt _ (by decide)
            have HLy : Hid (hi / 65536 ^ t % 65536 = lmb n k) := HL.out
            generalize hi / 65536 ^ t = y at *
            have e1 : (y : Int) % 65536 = ((y % 65536 : Nat) : Int) := by omega
            have HE1 : IntKind.i64.wrap (((y % 65536 : Nat) : Int)) = ((y % 65536 : Nat) : Int) := by rw [IntKind.wrap_i64]; omega
            obtain ⟨z, hz⟩ : ∃ z, z = y % 65536 := ⟨_, rfl⟩
            rw [← hz] at e1 HE1 HLy
            have hzb : z < 65536 := by omega
            have hzl : z = lmb n k := HLy.out
            have HZL : Hid (z = lmb n k) := hzl
            have HR0 : Hid ((wr.alloc (.cells #[.int .i64 (z : Int)] 3)).ownsRow (w.heap.size + 1) 3 1 u5 k (lmbs n k)) := HROW.out.alloc _
            have HN0 : Hid (∀ (j : Nat) (u : Value), [Value.int .i64 (z : Int)][j]? = some u → (wr.alloc (.cells #[.int .i64 (z : Int)] 3)).cell? ((⟨wr.heap.size, 0, none⟩ : Addr).add j) = some u) := World.news_of_block (Blk.new wr #[.int .i64 (z : Int)] 3)
            have HO0 : Hid (∀ u ∈ [Value.int .i64 (z : Int)], u.oneCell' = true) := fun u hu => by simp at hu; subst hu; rfl
            have HZ1 : Hid (k + 1 ≤ maxLen) := by show _ ≤ _; unfold maxLen; omega
            have HZ2 : Hid ((k + 1) * 8 ≤ 140737488355328) := by show _ ≤ _; omega
            have HZ3 : Hid (w.heap.size + 1 ≤ (wr.alloc (.cells #[.int .i64 (z : Int)] 3)).heap.size) := by show _ ≤ _; have := HBKr.out.lt; simp; omega
            clear hz hzl hy hxb hX HL HLy c0 c1
            go_wp2_with (at_builtin; refine wpList_append_lies _ rfl _ _ 49 rfl (w.heap.size + 1) 3 i3 (.int .i64 0) 1 8 Tryd.underlying49 hi3 hz0 hz1 hz3 rfl (by decide) u5 k (lmbs n k) rfl HR0.out ⟨wr.heap.size, 0, none⟩ 1 1 [.int .i64 (z : Int)] rfl rfl HN0.out HO0.out (by decide) HZ1.out HZ2.out HZ3.out _ rfl ?_)
            intro g1 cap1 w4 hown1 hgr1 hwh1 hlt1
            have hKA : Kept (fun k => u5.ownBlock = some k) wr w4 := ((Kept.refl _ _).alloc _).grown hgr1 (fun k e => e)
            have hrn : w4.ownsRow (w.heap.size + 1) 3 1 (.slice (some ⟨g1, 0, none⟩) (k + 1) cap1) (k + 1) (lmbs n (k + 1)) := by rw [lmbs_snoc, ← HZL.out]; exact hown1
            have hb4 : Blk w4 w.heap.size #[.int .u64 (hi : Int), .int .u64 (lo : Int)] 34 := HBKr.out.kept hKA (fun e => by have := (HROW.out.lt _ e).1; omega)
            have hbb4 : Below w.heap.size w w4 := HBr.out.trans (hKA.below HBr.out.size (fun j e => by have := (HROW.out.lt j e).1; omega))
            have H1 : Hid (w4.ownsRow (w.heap.size + 1) 3 1 (.slice (some ⟨g1, 0, none⟩) (k + 1) cap1) (k + 1) (lmbs n (k + 1))) := hrn
            have H2 : Hid (Blk w4 w.heap.size #[.int .u64 (hi : Int), .int .u64 (lo : Int)] 34) := hb4
            have H3 : Hid (Below w.heap.size w w4) := hbb4
            clear hown1 hgr1 hwh1 hKA hrn hb4 hbb4 HR0 HN0 HO0 HZ1 HZ2 HZ3
            go_wp2
            exact ⟨⟨k + 1, _, by omega, rfl, by go_num, H1.out, H2.out, H3.out⟩, by simp only [intOf]; omega⟩
    · have e : k = 8 := by omega
      subst e
      obtain ⟨g, cap, hsv, hgl, hrw⟩ : ∃ g cap, u5 = .slice (some ⟨g, 0, none⟩) 8 cap ∧ w.heap.size + 1 ≤ g ∧ LRow wr g (lmb n) := by
        rcases HROW.out.2 with ⟨_, h0⟩ | ⟨g, cap, cur, e, hg, hblk, rest⟩
        · omega
        · refine ⟨g, cap, e, hg, fun j hj => ⟨?_, ?_⟩⟩
          · have hr := HROW.out
            rw [e] at hr
            rw [hr.cellAt j (by omega)]
            unfold lmbs; simp [hj]
          · simp [World.frozen?, hblk]
      subst hsv
      have HRW : Hid (LRow wr g (lmb n)) := hrw
      clear hrw HROW HBKr
      obtain ⟨Wb, hWb⟩ : ∃ Wb, Wb = wr := ⟨_, rfl⟩
      go_wp2_with fail
      go_loopg [9] 340282366920938463463374607431768211456 (fun m o wq => ∃ (v f : Nat) (out : List UInt8), v ≤ m ∧ o = .string ⟨out.toArray⟩ ∧ out.length + f ≤ 128 ∧ 1 ≤ f ∧ v < base ^ f ∧ Is128 v ∧ digs base n = (rdig base f v).reverse ++ out ∧ LRow wq g (lmb v) ∧ Below w.heap.size w wq)
      case atStart => exact ⟨n, 128, [], by have := HN.out; unfold Is128 at this; omega, rfl, by simp, by omega, Nat.lt_of_lt_of_le HN.out (pow_bound hb2), HN.out, by simp [digs], HRW.out, HBr.out⟩
      case round =>
        obtain ⟨v, f, out, hvm, rfl, hol, hf1, hvf, hv128, hdg, hlr, hB⟩ := hrel
        have HDG : Hid (digs base n = (rdig base f v).reverse ++ out) := hdg
        have HLR : Hid (LRow wr g (lmb v)) := hlr
        have HBv : Hid (Below w.heap.size w wr) := hB
        have HV : Hid (Is128 v) := hv128
        have HVF : Hid (v < base ^ f) := hvf
        have HVM : Hid _ := hvm
        clear hdg hlr hB hv128 hvf hvm HRW hWb HBr
        have hq0 : v / 65536 ^ (7 + 1) = 0 := by
          have := HV.out
          unfold Is128 at this
          rw [Nat.div_eq_of_lt]
          rw [pow8]; exact this
        have HQ0 : Hid (v / 65536 ^ 8 % base = 0) := by show _ = _; rw [show v / 65536 ^ 8 = 0 from hq0]; simp
        clear hq0
        go_wp2_with fail
        go_loopw [10, 11, 12] (fun r s i wq => ∃ t : Nat, t ≤ 8 ∧ i = .int .i64 (7 - (t : Int)) ∧ r = .int .i64 ((v / 65536 ^ (8 - t) % base : Nat) : Int) ∧ s = .int .i64 ((sumFrom (v / base) t (8 - t) : Nat) : Int) ∧ LRow wq g (fun j => if j < 8 - t then lmb v j else lmb (v / base) j) ∧ Below w.heap.size w wq) (fun _ _ i _ => (intOf i + 1).toNat)
        case atStart => exact ⟨0, by omega, rfl, by simp only [Nat.sub_zero]; rw [HQ0.out]; rfl, rfl, HLR.out.congr (fun j hj => by simp only [Nat.sub_zero]; rw [if_pos hj]), HBv.out⟩
        case round =>
          obtain ⟨t, ht, rfl, rfl, rfl, hlt2, hB2⟩ := hrel
          have hrb : v / 65536 ^ (8 - t) % base < base := Nat.mod_lt _ (by omega)
          have hsb := sumFrom_le (v / base) t (8 - t)
          by_cases hlt3 : t < 8
          · obtain ⟨j, hj⟩ : ∃ j, 8 - t = j + 1 := ⟨7 - t, by omega⟩
            have hj8 : j < 8 := by omega
            have hjI : (7 : Int) - (t : Int) = (j : Int) := by omega
            have hj1 : 8 - (t + 1) = j := by omega
            obtain ⟨d1, d2⟩ := lmb_div v base j (by omega)
            rw [hj] at hrb hsb hlt2 ⊢
            obtain ⟨c0, f0⟩ := hlt2 j hj8
            simp only [Nat.lt_add_one, if_true] at c0
            have hlb := lmb_lt v j
            have HSUM : Hid (sumFrom (v / base) (t + 1) j = lmb (v / base) j + sumFrom (v / base) t (j + 1)) := rfl
            have HD1 : Hid ((65536 * (v / 65536 ^ (j + 1) % base) + lmb v j) / base = lmb (v / base) j) := d1
            have HD2 : Hid ((65536 * (v / 65536 ^ (j + 1) % base) + lmb v j) % base = v / 65536 ^ j % base) := d2
            have HL2 : Hid (LRow wr g (fun i => if i < j + 1 then lmb v i else lmb (v / base) i)) := hlt2
            have HB2 : Hid (Below w.heap.size w wr) := hB2
            have hlb2 := lmb_lt (v / base) j
            clear d1 d2 hlt2 hB2 hj
            generalize v / 65536 ^ (j + 1) % base = rr at *
            generalize sumFrom (v / base) t (j + 1) = ss at *
            obtain ⟨x, hx⟩ : ∃ x, x = lmb v j := ⟨_, rfl⟩
            obtain ⟨y, hy⟩ : ∃ y, y = lmb (v / base) j := ⟨_, rfl⟩
            rw [← hx] at c0 HD1 HD2 hlb
            rw [← hy] at HSUM HD1 hlb2
            have HYL : Hid (y = lmb (v / base) j) := hy
            have eN1 : (65536 * (rr : Int) + (x : Int)) / (base : Int) = (y : Int) := by
              rw [← HD1.out]; simp
            have eN2 : (65536 * (rr : Int) + (x : Int)) % (base : Int) = ((v / 65536 ^ j % base : Nat) : Int) := by
              rw [← HD2.out]; simp
            have hpos : (0 : Int) ≤ 65536 * (rr : Int) + (x : Int) := by omega
            have hbI : (0 : Int) < (base : Int) := by omega
            have hbz : ¬ ((base : Int) = 0) := by omega
            have cS := (HL2.out.set j y hj8)
            have HLn : Hid (LRow (wr.setCell ⟨g, j, none⟩ (.int .i64 (y : Int))) g (fun i => if i < j then lmb v i else lmb (v / base) i)) := cS.congr (fun i hi => by
              by_cases e : i = j
              · subst e; simp only [if_true]; rw [if_neg (by omega)]; exact HYL.out
              · simp only [e, if_false]
                by_cases e2 : i < j
                · rw [if_pos (by omega), if_pos e2]
                · rw [if_neg (by omega), if_neg e2])
            have cy : (wr.setCell ⟨g, j, none⟩ (.int .i64 (y : Int))).cell? ⟨g, j, none⟩ = some (.int .i64 (y : Int)) := World.cell?_setCell_same _ _ _ c0
            clear cS hx hy
            go_wp2
            refine ⟨⟨t + 1, by omega, by go_num, ?_, ?_, ?_, HB2.out.setCell (by show w.heap.size ≤ g; omega) _⟩, by simp only [intOf]; omega⟩
            · rw [hj1, eN2]
            · rw [hj1, HSUM.out]; congr 1; simp; omega
            · rw [hj1]; exact HLn.out
          · have e : t = 8 := by omega
            subst e
            simp only [Nat.sub_self, Nat.pow_zero, Nat.div_one] at hrb hsb hlt2 ⊢
            have HLe : Hid (LRow wr g (lmb (v / base))) := hlt2.congr (fun j hj => by rw [if_neg (by omega)])
            have HBe : Hid (Below w.heap.size w wr) := hB2
            have hsg := sign_at (v % base) (by omega)
            have hqz : sumFrom (v / base) 8 0 = 0 ↔ v / base = 0 := sum_zero 8 (v / base) (by
              have h1 := HV.out
              unfold Is128 at h1
              rw [pow8]
              exact Nat.lt_of_le_of_lt (Nat.div_le_self _ _) h1)
            have HQZ : Hid (sumFrom (v / base) 8 0 = 0 ↔ v / base = 0) := hqz
            obtain ⟨f', rfl⟩ : ∃ f', f = f' + 1 := ⟨f - 1, by omega⟩
            clear hlt2 hB2 hqz
            have hsz1 : (⟨#[sgn (v % base)]⟩ : ByteArray).size = 1 := rfl
            have hsz2 : (⟨out.toArray⟩ : ByteArray).size = out.length := by show out.toArray.size = _; simp
            have HAP : Hid ((⟨#[sgn (v % base)]⟩ : ByteArray) ++ ⟨out.toArray⟩ = ⟨(sgn (v % base) :: out).toArray⟩) := by
              show _ = _
              apply ByteArray.ext
              rw [ByteArray.data_append]
              apply Array.ext'
              simp
            obtain ⟨od, hod⟩ : ∃ od : ByteArray, od = ⟨out.toArray⟩ := ⟨_, rfl⟩
            obtain ⟨sd, hsd⟩ : ∃ sd : ByteArray, sd = ⟨#[sgn (v % base)]⟩ := ⟨_, rfl⟩
            rw [← hod] at HAP hsz2 ⊢
            rw [← hsd] at HAP hsz1 hsg
            obtain ⟨rr, hrr⟩ : ∃ rr, rr = v % base := ⟨_, rfl⟩
            rw [← hrr] at hrb hsg ⊢
            have HSG : Hid (sd = ⟨#[sgn (v % base)]⟩) := hsd
            clear hod hsd hrr
            have hr16 : (rr : Int) + 1 ≤ 16 := by omega
            obtain ⟨ss, hss⟩ : ∃ ss, ss = sumFrom (v / base) 8 0 := ⟨_, rfl⟩
            rw [← hss] at HQZ hsb ⊢
            clear hss
            by_cases hz : ss = 0
            · have qz : ((ss : Int) == 0) = true := by simp [hz]
              have hq0 := HQZ.out.1 hz
              have E : Hid (digs base n = sgn (v % base) :: out) := by show _ = _; rw [HDG.out, rdig_stop hq0]; rfl
              clear hz hq0
              go_wp2
              go_ret
              exact ⟨by rw [E.out, ← HAP.out]; rfl, HBe.out⟩
            · have qz : ((ss : Int) == 0) = false := by simp; omega
              have hq0 : ¬ v / base = 0 := fun h => hz (HQZ.out.2 h)
              have E : Hid (digs base n = (rdig base f' (v / base)).reverse ++ (sgn (v % base) :: out)) := by show _ = _; rw [HDG.out, rdig_more hq0]; simp
              have hlt5 := div_lt_pow (by omega : 0 < base) HVF.out
              have HVQ : Hid (v / base < base ^ f') := hlt5
              have hf2 : 1 ≤ f' := by
                rcases Nat.eq_zero_or_pos f' with h | h
                · rw [h, Nat.pow_zero] at hlt5; exact absurd (Nat.lt_one_iff.1 hlt5) hq0
                · exact h
              have hvb : v / base < v := Nat.div_lt_self (by
                rcases Nat.eq_zero_or_pos v with h | h
                · rw [h] at hq0; simp at hq0
                · exact h) (by omega)
              have HVB : Hid (v / base < v) := hvb
              have HV2 : Hid (Is128 (v / base)) := Nat.lt_trans hvb HV.out
              clear hz hq0 hlt5 hvb
              go_wp2
              go_roundg (v / base)
              case measure => exact Nat.lt_of_lt_of_le HVB.out HVM.out
              case rel => exact ⟨v / base, f', sgn (v % base) :: out, Nat.le_refl _, by rw [← HAP.out], by simp; omega, hf2, HVQ.out, HV2.out, E.out, HLe.out, HBe.out⟩
end Go.Proofs.YtlgfpjaomiomjaaDoor
