/- The walks of SchemaNumbers and SchemaNames. -/
import Derived.Test.YtmbpclknhkbbkaaGreatJ37
import Derived.Test.YtmbpclknhkbbkaaGreatJ46
import Derived.Test.YtmbpclknhkbbkaaGreatJ02
namespace Go.Proofs.YtmbpclknhkbbkaaGreat
open Go.RowKit
set_option linter.unusedVariables false
set_option linter.unusedSimpArgs false

theorem numbers_walk (w : World) : Calls Tryz.prog 3 #[] w fun e w' => e = .returned (.bool true) ∧ Below w.heap.size w w' := by
  have CS : Hid (Calls Tryz.prog 14 #[] w fun e w' => e = .returned (.bool true) ∧ Below w.heap.size w w') := shown_any w
  go_enter Tryz.func3, Tryz.ntmps3
  go_wp2_with fail
  refine CS.out.mono ?_
  rintro e W1 ⟨rfl, hb⟩
  have HB : Hid (Below w.heap.size w W1) := hb
  clear hb CS
  go_wp2
  go_ret
  exact ⟨rfl, HB.out⟩
set_option maxHeartbeats 1000000 in
theorem names_walk (v : Value) (xs : List ByteArray) (w : World) (hr : TxtRow w v xs) : Calls Tryz.prog 5 #[v] w fun e w' => e = .returned (.bool true) ∧ Below w.heap.size w w' := by
  obtain ⟨ad, cap, rfl, _⟩ := hr.1.slice
  have hlen : xs.length * 16 ≤ 140737488351232 := hr.2
  have HR : Hid (Row 1 (Flat TxtC Okt) w (.slice ad xs.length cap) xs) := hr.1
  have CS : Hid (Calls Tryz.prog 14 #[] w fun e w' => e = .returned (.bool true) ∧ Below w.heap.size w w') := shown_any w
  obtain ⟨n, hn⟩ : ∃ n, n = xs.length := ⟨_, rfl⟩
  have HL : Hid (n = xs.length) := hn
  rw [← hn] at hlen HR ⊢
  clear hn hr
  go_enter Tryz.func5, Tryz.ntmps5
  go_wp2_with fail
  refine CS.out.mono ?_
  rintro e W1 ⟨rfl, hb1⟩
  have HB1 : Hid (Below w.heap.size w W1) := hb1
  clear hb1 CS
  go_wp2_with fail
  go_loopw [3] (fun i wr => ∃ k : Nat, k ≤ n ∧ i = .int .i64 k ∧ Below w.heap.size w wr) (fun i _ => n - (intOf i).toNat)
  case atStart => exact ⟨0, by omega, rfl, HB1.out⟩
  case round =>
    obtain ⟨k, hk, rfl, hb⟩ := hrel
    have HB : Hid (Below w.heap.size w wr) := hb
    by_cases hlt : k < n
    · obtain ⟨x, hx⟩ : ∃ x, xs[k]? = some x := ⟨xs[k]'(by rw [← HL.out]; exact hlt), List.getElem?_eq_getElem _⟩
      obtain ⟨b, o, cs, rfl, _, hc, rfl, hok⟩ := HR.out.at hx
      have q0 : ∀ z : Grown wr, (gw z).cell? ⟨b, o + k, none⟩ = some (.string x) := gw_cell (by have := pres_below hb _ _ (hc 0 (.string x) rfl); simpa using this)
      have C17 : Hid (∀ z : Grown wr, Calls Tryz.prog 17 #[.string x] (gw z) fun e w' => e = .returned (.bool (nameB x.data.toList)) ∧ Below (gw z).heap.size (gw z) w') := fun z => isName_any x (by unfold Okt at hok; unfold maxLen; omega) _
      have C18 : Hid (∀ z : Grown wr, Calls Tryz.prog 18 #[.string x] (gw z) fun e w' => e = .returned (.bool (nameB x.data.toList)) ∧ w' = gw z) := fun z => risName_any x hok _
      generalize nameB x.data.toList = r at *
      clear hc hx hb hok
      go_upto_region 6 with fail
      refine region_grows (by kernel_rfl) (by kernel_rfl) ?_
      repeat (go_big_quiet_step (first | (go_at_call 17; exact calls_gw (C17.out _)) | (go_at_call 18; exact calls_gw_same (C18.out _))))
      refine wpQuiet_nil ?_
      intro wq hwq
      obtain ⟨zq, hwq⟩ := hwq
      subst hwq
      have HB2 : Hid (Below w.heap.size w (gw zq)) := bst HB.out (gw_below zq) (Nat.le_refl _)
      clear q0 C17 C18
      generalize gw zq = W2 at HB2 ⊢
      cases r
      all_goals
        go_wp2
        exact ⟨⟨k + 1, by omega, by go_num, HB2.out⟩, by simp only [intOf]; omega⟩
    · have e : k = n := by omega
      subst e
      clear hb
      go_wp2
      go_ret
      exact ⟨rfl, HB.out⟩
end Go.Proofs.YtmbpclknhkbbkaaGreat
