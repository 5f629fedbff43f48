/- Package schema: slices.EqualFunc, over Tbl. -/
import Derived.Test.YtmbpclknhkbbkaaGreatJ33
import Derived.Test.YtmbpclknhkbbkaaGreatJ36
import Derived.Test.YtmbpclknhkbbkaaGreatJ35
import Derived.Deep.CutRange
namespace Go.Proofs.YtmbpclknhkbbkaaGreat
open Go.RowKit
set_option linter.unusedVariables false
set_option linter.unusedSimpArgs false

theorem fsz51 : (Tryz.prog.info? 51).map (·.size) = some 7 := by kernel_rfl
set_option maxHeartbeats 2000000 in
set_option maxRecDepth 100000 in
theorem equalfTbl_any (v v' : Value) (xs ys : List Tbl) (w : World) (hr : Row 7 TblIs w v xs) (hr' : Row 7 TblIs w v' ys) (hlen : xs.length ≤ 140737488351232) (hc : SameOk 118 TblIs xs ys) :
    Calls Tryz.prog 117 #[v, v', .func (.func 118) #[] #[]] w fun e w' => e = .returned (.bool (decide (xs = ys))) ∧ Below w.heap.size w w' := by
  obtain ⟨a1, c1, rfl, h1⟩ := hr.slice
  obtain ⟨a2, c2, rfl, h2⟩ := hr'.slice
  by_cases hne : ¬ xs.length = ys.length
  · have e : decide (xs = ys) = false := by rw [decide_eq_false_iff_not]; intro h; exact hne (by rw [h])
    rw [e]
    have hne' : ¬ ((xs.length : Int) = (ys.length : Int)) := by omega
    clear hr hr' h1 h2 e hc
    go_enter Tryz.func117, Tryz.ntmps117
    go_wp2
    go_ret
    exact ⟨rfl, Below.refl _ _⟩
  have hne := Classical.not_not.1 hne
  have HR : Hid (Row 7 TblIs w (.slice a1 xs.length c1) xs) := hr
  have HS : Hid (Row 7 TblIs w (.slice a2 ys.length c2) ys) := hr'
  have HC : Hid (SameOk 118 TblIs xs ys) := hc
  obtain ⟨n, hn⟩ : ∃ n, n = xs.length := ⟨_, rfl⟩
  have HL : Hid (n = xs.length ∧ n = ys.length) := ⟨hn, by omega⟩
  rw [← hne] at HS ⊢
  rw [← hn] at HR HS hlen ⊢
  clear hr hr' h1 h2 hn hne hc
  go_enter Tryz.func117, Tryz.ntmps117
  go_wp2_with fail
  go_loopw [17] (fun i wr => ∃ k : Nat, k ≤ n ∧ i = .int .i64 k ∧ decide (xs = ys) = decide (xs.drop k = ys.drop k) ∧ Below w.heap.size w wr) (fun i _ => n - (intOf i).toNat)
  case atStart => exact ⟨0, by omega, rfl, by simp, Below.refl _ _⟩
  case round =>
    obtain ⟨k, hk, rfl, hd, hb⟩ := hrel
    by_cases hlt : k < n
    · obtain ⟨x, hx⟩ : ∃ x, xs[k]? = some x := ⟨xs[k]'(by rw [← HL.out.1]; exact hlt), List.getElem?_eq_getElem _⟩
      obtain ⟨y, hy⟩ : ∃ y, ys[k]? = some y := ⟨ys[k]'(by rw [← HL.out.2]; exact hlt), List.getElem?_eq_getElem _⟩
      obtain ⟨b, o, ⟨cl⟩, rfl, hsx, hx1, hIx⟩ := HR.out.at hx
      obtain ⟨b2, o2, ⟨dl⟩, rfl, hsy, hy1, hIy⟩ := HS.out.at hy
      have hcs : cl.length = 7 := hsx
      have hds : dl.length = 7 := hsy
      have hz1 : (Tryz.prog.info? 51).map (·.size) = some cl.length := by rw [hcs]; exact fsz51
      have hz2 : (Tryz.prog.info? 51).map (·.size) = some dl.length := by rw [hds]; exact fsz51
      have HP : Hid (TblIs w cl.toArray x ∧ TblIs w dl.toArray y ∧ x ∈ xs ∧ y ∈ ys) := ⟨hIx, hIy, List.mem_of_getElem? hx, List.mem_of_getElem? hy⟩
      have HD : Hid (decide (xs = ys) = (decide (x = y) && decide (xs.drop (k + 1) = ys.drop (k + 1)))) := by
        have e := drop_step hx hy
        show decide (xs = ys) = _
        rw [hd, e]
      have HB : Hid (Below w.heap.size w wr) := hb
      have R1 : Hid (wr.rangeAt b (o + k * 7) cl) := fun j u hu => pres_below hb _ _ (hx1 j u (by simpa using hu))
      have R2 : Hid (w.rangeAt b2 (o2 + k * 7) dl) := fun j u hu => (hy1 j u (by simpa using hu))
      have ST : Hid ((wr.alloc (.cells #[.string ⟨#[]⟩, .slice none 0 0, .slice none 0 0, .int .i64 0, .string ⟨#[]⟩, .slice none 0 0, .bool false] 51)).there wr.heap.size 0 cl.toArray.size) := there_new wr #[.string ⟨#[]⟩, .slice none 0 0, .slice none 0 0, .int .i64 0, .string ⟨#[]⟩, .slice none 0 0, .bool false] 51 (by simp [hcs])
      have ON1 : Hid (cl.toArray.all (·.oneCell') = true) := tbl_good.one hIx
      have ON2 : Hid (dl.toArray.all (·.oneCell') = true) := tbl_good.one hIy
      have H1 : Hid (Below w.heap.size w ((wr.alloc (.cells #[.string ⟨#[]⟩, .slice none 0 0, .slice none 0 0, .int .i64 0, .string ⟨#[]⟩, .slice none 0 0, .bool false] 51)).setCells wr.heap.size 0 cl) ∧ ((wr.alloc (.cells #[.string ⟨#[]⟩, .slice none 0 0, .slice none 0 0, .int .i64 0, .string ⟨#[]⟩, .slice none 0 0, .bool false] 51)).setCells wr.heap.size 0 cl).rangeAt wr.heap.size 0 cl) :=
        ⟨below_setCells (hb.alloc hb.size _) hb.size _ _, World.rangeAt_setCells_same _ _ _ _ (there_new wr #[.string ⟨#[]⟩, .slice none 0 0, .slice none 0 0, .int .i64 0, .string ⟨#[]⟩, .slice none 0 0, .bool false] 51 (by simp [hcs]))⟩
      clear hd hb hx1 hy1 hx hy hIx hIy hsx hsy
      go_upto_region 6 with (first | (refine wpList_load_mid rfl 51 _ rfl b (o + k * 7) rfl cl _ R1.out Tryz.underlying51 rfl hz1 ?_) | (refine wpList_store_mid rfl 51 _ _ rfl wr.heap.size 0 cl.toArray rfl rfl ST.out (by rw [List.size_toArray]; exact hz1) ON1.out ?_))
      generalize ((wr.alloc (.cells #[.string ⟨#[]⟩, .slice none 0 0, .slice none 0 0, .int .i64 0, .string ⟨#[]⟩, .slice none 0 0, .bool false] 51)).setCells wr.heap.size 0 cl) = W1 at H1 ⊢
      have ST2 : Hid ((W1.alloc (.cells #[.string ⟨#[]⟩, .slice none 0 0, .slice none 0 0, .int .i64 0, .string ⟨#[]⟩, .slice none 0 0, .bool false] 51)).there W1.heap.size 0 dl.toArray.size) := there_new W1 #[.string ⟨#[]⟩, .slice none 0 0, .slice none 0 0, .int .i64 0, .string ⟨#[]⟩, .slice none 0 0, .bool false] 51 (by simp [hds])
      have R3 : Hid (W1.rangeAt b2 (o2 + k * 7) dl) := fun j u hu => pres_below H1.out.1 _ _ (R2.out j u hu)
      have H2 : Hid (Below w.heap.size w ((W1.alloc (.cells #[.string ⟨#[]⟩, .slice none 0 0, .slice none 0 0, .int .i64 0, .string ⟨#[]⟩, .slice none 0 0, .bool false] 51)).setCells W1.heap.size 0 dl) ∧ ((W1.alloc (.cells #[.string ⟨#[]⟩, .slice none 0 0, .slice none 0 0, .int .i64 0, .string ⟨#[]⟩, .slice none 0 0, .bool false] 51)).setCells W1.heap.size 0 dl).rangeAt wr.heap.size 0 cl ∧ ((W1.alloc (.cells #[.string ⟨#[]⟩, .slice none 0 0, .slice none 0 0, .int .i64 0, .string ⟨#[]⟩, .slice none 0 0, .bool false] 51)).setCells W1.heap.size 0 dl).rangeAt W1.heap.size 0 dl) :=
        ⟨below_setCells (H1.out.1.alloc H1.out.1.size _) H1.out.1.size _ _, fun j u hu => pres_below (below_setCells ((Below.refl _ _).alloc (Nat.le_refl _) _) (Nat.le_refl _) _ _) _ _ (H1.out.2 j u hu), World.rangeAt_setCells_same _ _ _ _ (there_new W1 #[.string ⟨#[]⟩, .slice none 0 0, .slice none 0 0, .int .i64 0, .string ⟨#[]⟩, .slice none 0 0, .bool false] 51 (by simp [hds]))⟩
      clear R1 ST R2 H1
      go_upto_region 7 with (first | (refine wpList_load_mid rfl 51 _ rfl b2 (o2 + k * 7) rfl dl _ R3.out Tryz.underlying51 rfl hz2 ?_) | (refine wpList_store_mid rfl 51 _ _ rfl W1.heap.size 0 dl.toArray rfl rfl ST2.out (by rw [List.size_toArray]; exact hz2) ON2.out ?_))
      generalize ((W1.alloc (.cells #[.string ⟨#[]⟩, .slice none 0 0, .slice none 0 0, .int .i64 0, .string ⟨#[]⟩, .slice none 0 0, .bool false] 51)).setCells W1.heap.size 0 dl) = W2 at H2 ⊢
      have C : Hid (Calls Tryz.prog 118 #[.agg cl.toArray, .agg dl.toArray] W2 fun e w' => e = .returned (.bool (decide (x = y))) ∧ Hid (Below w.heap.size w w')) := by
        refine (HC.out x HP.out.2.2.1 y HP.out.2.2.2 W2 cl.toArray dl.toArray (tbl_good.pres (pres_below H2.out.1) HP.out.1) (tbl_good.pres (pres_below H2.out.1) HP.out.2.1)).mono ?_
        rintro e w' ⟨rfl, hb⟩
        exact ⟨rfl, bst H2.out.1 hb (Nat.le_refl _)⟩
      generalize decide (x = y) = r at *
      clear R3 ST2 ON1 ON2
      have R4 : Hid (W2.rangeAt wr.heap.size 0 cl) := H2.out.2.1
      have R5 : Hid (W2.rangeAt W1.heap.size 0 dl) := H2.out.2.2
      clear H2
      go_wp2_with (first | (refine wpList_load_mid rfl 51 _ rfl wr.heap.size 0 rfl cl _ R4.out Tryz.underlying51 rfl hz1 ?_) | (refine wpList_load_mid rfl 51 _ rfl W1.heap.size 0 rfl dl _ R5.out Tryz.underlying51 rfl hz2 ?_))
      refine C.out.mono ?_
      rintro e W3 ⟨rfl, H3⟩
      clear C R4 R5 HB
      cases r
      · go_wp2
        go_ret
        exact ⟨by rw [HD.out]; rfl, H3.out⟩
      · go_wp2
        exact ⟨⟨k + 1, by omega, by go_num, by rw [HD.out, Bool.true_and], H3.out⟩, by simp only [intOf]; omega⟩
    · have e : k = n := by omega
      subst e
      have HE : decide (xs = ys) = true := by
        rw [hd, decide_eq_true_eq]
        have h1 := HL.out.1; have h2 := HL.out.2
        rw [List.drop_of_length_le (by omega), List.drop_of_length_le (by omega)]
      clear hd
      have HE : Hid (decide (xs = ys) = true) := HE
      go_wp2
      go_ret
      exact ⟨by rw [HE.out]; rfl, hb⟩
end Go.Proofs.YtmbpclknhkbbkaaGreat
