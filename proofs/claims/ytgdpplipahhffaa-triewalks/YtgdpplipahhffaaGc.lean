/- The document's trie: Every. The document's trie: Under. The document's trie: Find. The document's trie: Value. -/
import Derived.Test.YtgdpplipahhffaaGb
namespace Go.Proofs.Ytgdpplipahhffaa
open Go.RowKit
set_option linter.unusedVariables false
set_option linter.unusedSimpArgs false

section
variable {w : World} {B q W most : Nat} {L : List (List Bool × Int)}
/-- What of a row begins a text. -/
def evR (P : List Bool) (L : List (List Bool × Int)) : List (List Bool × Int) := L.filter (fun y => decide (y.1 <+: P))
theorem evR_take {P : List Bool} {i : Nat} {y : List Bool × Int} (h : L[i]? = some y) : evR P (L.take (i + 1)) = evR P (L.take i) ++ if decide (y.1 <+: P) then [y] else [] := by
  unfold evR
  rw [List.take_add_one, h, List.filter_append]
  cases hd : decide (y.1 <+: P) <;> simp [hd]
attribute [local go_sem ↓] append_appd
set_option maxHeartbeats 2000000 in
theorem revery_yes (hT : RefAt w B q W most L) (h1 : 1 ≤ W) (h2 : W ≤ 128) (v : Nat) (hv : Is128 v) (hfit : fitsN v W = true) :
    Calls Try.prog 65 #[.pointer (some ⟨q, 0, none⟩), Go.Proofs.Ytgdpplipahhffaa.B v] w fun e w' => ∃ ba bc, e = .returned (.slice ba (evR (bitsOf W v) L).length bc) ∧ Hid (w'.ownsRow w.heap.size 57 2 (.slice ba (evR (bitsOf W v) L).length bc) (evR (bitsOf W v) L).length (rowR (evR (bitsOf W v) L)) ∧ Kept (fun _ => False) w w') := by
  obtain ⟨⟨ba, bc, hB, hO⟩, hs, hf⟩ := hT
  have HB : Hid _ := one_new w #[.int .u64 (hiOf v), .int .u64 (loOf v)] 33
  have HH : Hid (Blk w q #[.int .i64 W, .int .i64 most, .slice ba L.length bc] 40 ∧ w.ownsRow B 57 2 (.slice ba L.length bc) L.length (rowR L) ∧ Srt L ∧ L.length ≤ 4096) := ⟨hB, hO, hs, hf⟩
  have C23 : Hid (∀ w1, Calls Try.prog 23 #[Go.Proofs.Ytgdpplipahhffaa.B v, .int .i64 W] w1 fun e w' => e = .returned (.tuple #[.string (tx (bitsOf W v)), .bool true]) ∧ Below w1.heap.size w1 w') := fun w1 => by
    have := rbits_any v hv W h1 h2 w1
    unfold bitsT at this
    rw [hfit, if_pos rfl] at this
    exact this
  generalize bitsOf W v = P at *
  obtain ⟨tp, htp⟩ : ∃ tp, tx P = tp := ⟨_, rfl⟩
  have HTP : Hid (tx P = tp) := htp
  rw [htp] at C23
  clear hB hO hs hf htp
  go_enter Try.func65, Try.ntmps65
  go_upto_region 1 with fail
  generalize (w.alloc _) = w0 at HB ⊢
  have x0 := gw_cell (HB.out.1.cell 0 (v := .int .u64 (hiOf v)) rfl)
  have x1 := gw_cell (HB.out.1.cell 1 (v := .int .u64 (loOf v)) rfl)
  have z0 := gw_cell ((HH.out.1.below HB.out.2.1).cell 0 (v := .int .i64 W) rfl)
  have fin : Hid (∀ z : Grown w0, Below w.heap.size w (gw z)) := fun z => HB.out.2.1.trans ((gw_below z).mono (Nat.le_of_lt HB.out.2.2))
  refine region_grows (by kernel_rfl) (by kernel_rfl) ?_
  repeat (go_big_quiet_step ((go_at_call 23; exact calls_gw (C23.out _))))
  refine wpQuiet_nil ?_
  intro wq hwq
  obtain ⟨zq, rfl⟩ := hwq
  have HF : Hid (Below w.heap.size w (gw zq)) := fin.out zq
  clear x0 x1 z0 C23 fin HB
  generalize gw zq = w1 at *
  obtain ⟨n, hn⟩ : ∃ n, L.length = n := ⟨_, rfl⟩
  have HN : Hid (L.length = n ∧ n ≤ 4096) := ⟨hn, by rw [← hn]; exact HH.out.2.2.2⟩
  have h4 : n ≤ 4096 := HN.out.2
  have HK0 : Hid (Blk w1 q #[.int .i64 W, .int .i64 most, .slice ba n bc] 40 ∧ w1.ownsRow B 57 2 (.slice ba n bc) n (rowR L) ∧ w.heap.size ≤ w1.heap.size) := by
    have ho := ownsRow_kept HH.out.2.1 (Kept.of_below (S := fun _ => False) HF.out) (fun k _ e => e)
    have hb := HH.out.1.below HF.out
    rw [hn] at ho hb
    exact ⟨hb, ho, HF.out.size⟩
  clear hn
  go_wp2
  go_loopw [7, 8] (fun a b wr => ∃ i : Nat, i ≤ n ∧ b = .int .i64 i ∧ (∃ ab ac, a = .slice ab (evR P (L.take i)).length ac ∧ Hid (wr.ownsRow w.heap.size 57 2 (.slice ab (evR P (L.take i)).length ac) (evR P (L.take i)).length (rowR (evR P (L.take i))) ∧ Kept (fun k => w.heap.size ≤ k) w1 wr))) (fun a b wr => 5000 - (intOf b).toNat)
  case atStart => exact ⟨0, Nat.zero_le _, rfl, none, 0, rfl, (⟨World.ownsRow_nil _ _ _ _, Kept.refl _ _⟩ : _ ∧ _)⟩
  case round =>
    obtain ⟨i, hin, rfl, ab, ac, rfl, hK⟩ := hrel
    have hbw : Blk wr q #[.int .i64 W, .int .i64 most, .slice ba n bc] 40 := HK0.out.1.kept hK.out.2 (by have := HH.out.1.lt; show ¬ _ ≤ _; omega)
    have c2 := hbw.cell 2 (v := .slice ba n bc) rfl
    by_cases hlt : i < n
    · have hlt' : (i : Int) < n := by omega
      obtain ⟨y, hy⟩ : ∃ y, L[i]? = some y := ⟨_, List.getElem?_eq_getElem (by have := HN.out.1; omega)⟩
      have hrw : wr.ownsRow B 57 2 (.slice ba n bc) n (rowR L) := ownsRow_kept HK0.out.2.1 hK.out.2 (fun k hk e => by
        rcases HH.out.2.1.2 with ⟨h', _⟩ | ⟨g', cap', cur, h', _, hg', _⟩
        · rw [← HN.out.1] at hk; rw [h'] at hk; simp [Value.ownBlock] at hk
        · rw [← HN.out.1] at hk; rw [h'] at hk; simp [Value.ownBlock] at hk
          have := (Array.getElem?_eq_some_iff.1 hg').1
          omega)
      obtain ⟨g, hba, hnb, hrow⟩ := rowR_at hrw HN.out.1 (by omega)
      obtain ⟨r0, r1⟩ := hrow i y hy
      subst hba
      have HE := evR_take (P := P) hy
      have C52 : Hid (Calls Try.prog 52 #[.string (tx y.1), .string tp] wr fun e w' => e = .returned (.bool (decide (y.1 <+: P))) ∧ w' = wr) := by
        have := begins52 y.1 P wr
        rw [HTP.out] at this
        exact this
      clear hbw hrw hrow hnb hy
      cases hd : decide (y.1 <+: P) with
      | false =>
        rw [hd] at C52 HE
        have HE' : evR P (L.take (i + 1)) = evR P (L.take i) := by rw [HE]; simp
        clear HE hd
        generalize tx y.1 = ty at *
        generalize evR P (L.take i) = K at *
        go_wp2_with fail
        refine C52.out.mono ?_
        rintro e w2 ⟨rfl, rfl⟩
        go_wp2
        go_roundw
        case rel => exact ⟨i + 1, by omega, by go_num, ab, ac, by rw [HE'], by rw [HE']; exact hK⟩
        case measure => simp [intOf]; omega
      | true =>
        rw [hd] at C52 HE
        have HE' : evR P (L.take (i + 1)) = evR P (L.take i) ++ [y] := by rw [HE]; simp
        have hKl : (evR P (L.take i)).length ≤ 4096 := Nat.le_trans (List.length_filter_le _ _) (by rw [List.length_take]; omega)
        clear HE hd
        obtain ⟨ty, hty⟩ : ∃ ty, tx y.1 = ty := ⟨_, rfl⟩
        have HTY : Hid (tx y.1 = ty) := hty
        rw [hty] at C52 r0
        clear hty
        generalize evR P (L.take i) = K at *
        have hb4 : Below wr.heap.size wr (wr.alloc (.cells #[.string ty, .int .i64 y.2] 57)) := (Below.refl _ _).alloc (Nat.le_refl _) _
        have hB4 := Blk.new wr #[.string ty, .int .i64 y.2] 57
        have hsz : w.heap.size ≤ wr.heap.size := Nat.le_trans HK0.out.2.2 hK.out.2.size
        obtain ⟨s2, W2, hr2, ho2, ⟨ba2, bc2, rfl⟩, hk2, hat2⟩ := app_rf (wr.alloc (.cells #[.string ty, .int .i64 y.2] 57)) w.heap.size (.slice ab K.length ac) (.slice (some ⟨wr.heap.size, 0, none⟩) 1 1) K [y] (ownsRow_kept hK.out.1 (Kept.of_below (S := fun _ => False) hb4) (fun k _ e => e)) (.inr ⟨_, 1, rfl, fun j v hj => by
          rw [Addr.add_mid, Nat.zero_add]
          have hj' : (#[Value.string ty, .int .i64 y.2] : Array Value)[j]? = some v := by
            rw [← HTY.out]
            rw [← List.getElem?_toArray] at hj
            exact hj
          exact hB4.cell j hj'⟩) (Nat.le_trans hsz hb4.size) (by simp; omega)
        have HR2 : Hid (W2.ownsRow w.heap.size 57 2 (.slice ba2 (K ++ [y]).length bc2) (K ++ [y]).length (rowR (K ++ [y])) ∧ Kept (fun k => w.heap.size ≤ k) w1 W2) := by
          refine ⟨ho2, hK.out.2.trans ((Kept.of_below hb4).trans (hk2.mono fun k _ e => ?_))⟩
          rcases hK.out.1.2 with ⟨h', _⟩ | ⟨g', cap', cur, h', hb', _⟩
          · rw [h'] at e; simp [Value.ownBlock] at e
          · rw [h'] at e; simp [Value.ownBlock] at e; omega
        clear ho2 hk2 hat2 hb4 hB4 hKl
        rw [List.length_append, List.length_singleton] at hr2
        obtain ⟨kl, hkl⟩ : ∃ kl, K.length = kl := ⟨_, rfl⟩
        have HKL : Hid (K.length = kl) := hkl
        rw [hkl] at hr2 ⊢
        clear hkl
        go_wp2_with fail
        refine C52.out.mono ?_
        rintro e w2 ⟨rfl, rfl⟩
        clear C52
        go_wp2_with fail
        go_roundw
        case rel => exact ⟨i + 1, by omega, by go_num, ba2, bc2, by rw [HE', List.length_append, HKL.out]; rfl, by rw [HE']; exact HR2⟩
        case measure => simp [intOf]; omega
    · have hlt' : ¬ (i : Int) < n := by omega
      have HZ : Hid (wr.ownsRow w.heap.size 57 2 (.slice ab (evR P L).length ac) (evR P L).length (rowR (evR P L)) ∧ Kept (fun _ => False) w wr) := by
        have ht : L.take i = L := by rw [List.take_of_length_le]; have := HN.out.1; omega
        rw [ht] at hK
        have h13 := (Kept.of_below (S := fun k => w.heap.size ≤ k) HF.out).trans hK.out.2
        exact ⟨hK.out.1, h13.os, h13.tape, h13.output, h13.size, fun k hk _ => h13.block k hk (by show ¬ _ ≤ _; omega)⟩
      have hl : (evR P (L.take i)).length = (evR P L).length := by
        have ht : L.take i = L := by rw [List.take_of_length_le]; have := HN.out.1; omega
        rw [ht]
      clear hbw hK
      rw [hl]
      obtain ⟨m, hm⟩ : ∃ m, (evR P L).length = m := ⟨_, rfl⟩
      have HM : Hid ((evR P L).length = m) := hm
      rw [hm]
      clear hm hl
      go_wp2
      go_ret
      exact ⟨ab, ac, by rw [HM.out]; rfl, HZ⟩
set_option maxHeartbeats 2000000 in
theorem revery_no (hT : RefAt w B q W most L) (h1 : 1 ≤ W) (h2 : W ≤ 128) (v : Nat) (hv : Is128 v) (hfit : fitsN v W = false) :
    Calls Try.prog 65 #[.pointer (some ⟨q, 0, none⟩), Go.Proofs.Ytgdpplipahhffaa.B v] w fun e w' => e = .returned (.slice none 0 0) ∧ Below w.heap.size w w' := by
  obtain ⟨⟨ba, bc, hB, hO⟩, hs, hf⟩ := hT
  have HB : Hid _ := one_new w #[.int .u64 (hiOf v), .int .u64 (loOf v)] 33
  have HH : Hid (Blk w q #[.int .i64 W, .int .i64 most, .slice ba L.length bc] 40 ∧ w.ownsRow B 57 2 (.slice ba L.length bc) L.length (rowR L) ∧ Srt L ∧ L.length ≤ 4096) := ⟨hB, hO, hs, hf⟩
  have C23 : Hid (∀ w1, Calls Try.prog 23 #[Go.Proofs.Ytgdpplipahhffaa.B v, .int .i64 W] w1 fun e w' => e = .returned (.tuple #[.string ⟨#[]⟩, .bool false]) ∧ Below w1.heap.size w1 w') := fun w1 => by
    have := rbits_any v hv W h1 h2 w1
    unfold bitsT at this
    rw [hfit, if_neg (by decide)] at this
    exact this
  clear hB hO hs hf
  go_enter Try.func65, Try.ntmps65
  go_upto_region 1 with fail
  generalize (w.alloc _) = w0 at HB ⊢
  have x0 := gw_cell (HB.out.1.cell 0 (v := .int .u64 (hiOf v)) rfl)
  have x1 := gw_cell (HB.out.1.cell 1 (v := .int .u64 (loOf v)) rfl)
  have z0 := gw_cell ((HH.out.1.below HB.out.2.1).cell 0 (v := .int .i64 W) rfl)
  have fin : Hid (∀ z : Grown w0, Below w.heap.size w (gw z)) := fun z => HB.out.2.1.trans ((gw_below z).mono (Nat.le_of_lt HB.out.2.2))
  refine region_grows (by kernel_rfl) (by kernel_rfl) ?_
  repeat (go_big_quiet_step ((go_at_call 23; exact calls_gw (C23.out _))))
  refine wpQuiet_nil ?_
  intro wq hwq
  obtain ⟨zq, rfl⟩ := hwq
  have HF : Hid (Below w.heap.size w (gw zq)) := fin.out zq
  clear x0 x1 z0 C23 fin HB
  generalize gw zq = w1 at *
  have c2 := (HH.out.1.below HF.out).cell 2 (v := .slice ba L.length bc) rfl
  obtain ⟨n, hn⟩ : ∃ n, L.length = n := ⟨_, rfl⟩
  rw [hn] at c2
  clear hn HH
  go_wp2
  go_loopw [7, 8] (fun a b wr => a = .slice none 0 0 ∧ b = .int .i64 0 ∧ wr = w1) (fun a b wr => 0)
  case atStart => exact ⟨rfl, rfl, rfl⟩
  case round =>
    obtain ⟨rfl, rfl, rfl⟩ := hrel
    by_cases h0 : (0 : Int) < n
    · go_wp2
      go_ret
      exact ⟨rfl, HF.out⟩
    · go_wp2
      go_ret
      exact ⟨rfl, HF.out⟩
end
end Go.Proofs.Ytgdpplipahhffaa
namespace Go.Proofs.Ytgdpplipahhffaa
open Go.RowKit
set_option linter.unusedVariables false
set_option linter.unusedSimpArgs false

section
variable {w : World} {B q W most : Nat} {L : List (List Bool × Int)}
/-- What of a row begins with a text. -/
def unR (P : List Bool) (L : List (List Bool × Int)) : List (List Bool × Int) := L.filter (fun y => decide (P <+: y.1))
theorem unR_take {P : List Bool} {i : Nat} {y : List Bool × Int} (h : L[i]? = some y) : unR P (L.take (i + 1)) = unR P (L.take i) ++ if decide (P <+: y.1) then [y] else [] := by
  unfold unR
  rw [List.take_add_one, h, List.filter_append]
  cases hd : decide (P <+: y.1) <;> simp [hd]
attribute [local go_sem ↓] append_appd
set_option maxHeartbeats 2000000 in
theorem runder_yes (hT : RefAt w B q W most L) (h1 : 1 ≤ W) (h2 : W ≤ 128) (v : Nat) (hv : Is128 v) (l : Int) (hfit : isP W v l = true) (P : List Bool) (hP : textT W v l = tx P) :
    Calls Try.prog 21 #[.pointer (some ⟨q, 0, none⟩), Go.Proofs.Ytgdpplipahhffaa.B v, .int .i64 l] w fun e w' => ∃ ba bc, e = .returned (.slice ba (unR P L).length bc) ∧ Hid (w'.ownsRow w.heap.size 57 2 (.slice ba (unR P L).length bc) (unR P L).length (rowR (unR P L)) ∧ Kept (fun _ => False) w w') := by
  obtain ⟨⟨ba, bc, hB, hO⟩, hs, hf⟩ := hT
  have HB : Hid _ := one_new w #[.int .u64 (hiOf v), .int .u64 (loOf v)] 33
  have HH : Hid (Blk w q #[.int .i64 W, .int .i64 most, .slice ba L.length bc] 40 ∧ w.ownsRow B 57 2 (.slice ba L.length bc) L.length (rowR L) ∧ Srt L ∧ L.length ≤ 4096) := ⟨hB, hO, hs, hf⟩
  have C25 : Hid (∀ w1, Calls Try.prog 25 #[Go.Proofs.Ytgdpplipahhffaa.B v, .int .i64 l, .int .i64 W] w1 fun e w' => e = .returned (.tuple #[.string (tx P), .bool true]) ∧ Below w1.heap.size w1 w') := fun w1 => by
    have := rtext_any v hv l W h1 h2 w1
    rw [hP, hfit] at this
    exact this
  obtain ⟨tp, htp⟩ : ∃ tp, tx P = tp := ⟨_, rfl⟩
  have HTP : Hid (tx P = tp) := htp
  rw [htp] at C25
  clear hB hO hs hf htp hP
  go_enter Try.func21, Try.ntmps21
  go_upto_region 1 with fail
  generalize (w.alloc _) = w0 at HB ⊢
  have x0 := gw_cell (HB.out.1.cell 0 (v := .int .u64 (hiOf v)) rfl)
  have x1 := gw_cell (HB.out.1.cell 1 (v := .int .u64 (loOf v)) rfl)
  have z0 := gw_cell ((HH.out.1.below HB.out.2.1).cell 0 (v := .int .i64 W) rfl)
  have fin : Hid (∀ z : Grown w0, Below w.heap.size w (gw z)) := fun z => HB.out.2.1.trans ((gw_below z).mono (Nat.le_of_lt HB.out.2.2))
  refine region_grows (by kernel_rfl) (by kernel_rfl) ?_
  repeat (go_big_quiet_step ((go_at_call 25; exact calls_gw (C25.out _))))
  refine wpQuiet_nil ?_
  intro wq hwq
  obtain ⟨zq, rfl⟩ := hwq
  have HF : Hid (Below w.heap.size w (gw zq)) := fin.out zq
  clear x0 x1 z0 C25 fin HB
  generalize gw zq = w1 at *
  obtain ⟨n, hn⟩ : ∃ n, L.length = n := ⟨_, rfl⟩
  have HN : Hid (L.length = n ∧ n ≤ 4096) := ⟨hn, by rw [← hn]; exact HH.out.2.2.2⟩
  have h4 : n ≤ 4096 := HN.out.2
  have HK0 : Hid (Blk w1 q #[.int .i64 W, .int .i64 most, .slice ba n bc] 40 ∧ w1.ownsRow B 57 2 (.slice ba n bc) n (rowR L) ∧ w.heap.size ≤ w1.heap.size) := by
    have ho := ownsRow_kept HH.out.2.1 (Kept.of_below (S := fun _ => False) HF.out) (fun k _ e => e)
    have hb := HH.out.1.below HF.out
    rw [hn] at ho hb
    exact ⟨hb, ho, HF.out.size⟩
  clear hn
  go_wp2
  go_loopw [9, 10] (fun a b wr => ∃ i : Nat, i ≤ n ∧ b = .int .i64 i ∧ (∃ ab ac, a = .slice ab (unR P (L.take i)).length ac ∧ Hid (wr.ownsRow w.heap.size 57 2 (.slice ab (unR P (L.take i)).length ac) (unR P (L.take i)).length (rowR (unR P (L.take i))) ∧ Kept (fun k => w.heap.size ≤ k) w1 wr))) (fun a b wr => 5000 - (intOf b).toNat)
  case atStart => exact ⟨0, Nat.zero_le _, rfl, none, 0, rfl, (⟨World.ownsRow_nil _ _ _ _, Kept.refl _ _⟩ : _ ∧ _)⟩
  case round =>
    obtain ⟨i, hin, rfl, ab, ac, rfl, hK⟩ := hrel
    have hbw : Blk wr q #[.int .i64 W, .int .i64 most, .slice ba n bc] 40 := HK0.out.1.kept hK.out.2 (by have := HH.out.1.lt; show ¬ _ ≤ _; omega)
    have c2 := hbw.cell 2 (v := .slice ba n bc) rfl
    by_cases hlt : i < n
    · have hlt' : (i : Int) < n := by omega
      obtain ⟨y, hy⟩ : ∃ y, L[i]? = some y := ⟨_, List.getElem?_eq_getElem (by have := HN.out.1; omega)⟩
      have hrw : wr.ownsRow B 57 2 (.slice ba n bc) n (rowR L) := ownsRow_kept HK0.out.2.1 hK.out.2 (fun k hk e => by
        rcases HH.out.2.1.2 with ⟨h', _⟩ | ⟨g', cap', cur, h', _, hg', _⟩
        · rw [← HN.out.1] at hk; rw [h'] at hk; simp [Value.ownBlock] at hk
        · rw [← HN.out.1] at hk; rw [h'] at hk; simp [Value.ownBlock] at hk
          have := (Array.getElem?_eq_some_iff.1 hg').1
          omega)
      obtain ⟨g, hba, hnb, hrow⟩ := rowR_at hrw HN.out.1 (by omega)
      obtain ⟨r0, r1⟩ := hrow i y hy
      subst hba
      have HE := unR_take (P := P) hy
      have C52 : Hid (Calls Try.prog 52 #[.string tp, .string (tx y.1)] wr fun e w' => e = .returned (.bool (decide (P <+: y.1))) ∧ w' = wr) := by
        have := begins52 P y.1 wr
        rw [HTP.out] at this
        exact this
      clear hbw hrw hrow hnb hy
      cases hd : decide (P <+: y.1) with
      | false =>
        rw [hd] at C52 HE
        have HE' : unR P (L.take (i + 1)) = unR P (L.take i) := by rw [HE]; simp
        clear HE hd
        generalize tx y.1 = ty at *
        generalize unR P (L.take i) = K at *
        go_wp2_with fail
        refine C52.out.mono ?_
        rintro e w2 ⟨rfl, rfl⟩
        go_wp2
        go_roundw
        case rel => exact ⟨i + 1, by omega, by go_num, ab, ac, by rw [HE'], by rw [HE']; exact hK⟩
        case measure => simp [intOf]; omega
      | true =>
        rw [hd] at C52 HE
        have HE' : unR P (L.take (i + 1)) = unR P (L.take i) ++ [y] := by rw [HE]; simp
        have hKl : (unR P (L.take i)).length ≤ 4096 := Nat.le_trans (List.length_filter_le _ _) (by rw [List.length_take]; omega)
        clear HE hd
        obtain ⟨ty, hty⟩ : ∃ ty, tx y.1 = ty := ⟨_, rfl⟩
        have HTY : Hid (tx y.1 = ty) := hty
        rw [hty] at C52 r0
        clear hty
        generalize unR P (L.take i) = K at *
        have hb4 : Below wr.heap.size wr (wr.alloc (.cells #[.string ty, .int .i64 y.2] 57)) := (Below.refl _ _).alloc (Nat.le_refl _) _
        have hB4 := Blk.new wr #[.string ty, .int .i64 y.2] 57
        have hsz : w.heap.size ≤ wr.heap.size := Nat.le_trans HK0.out.2.2 hK.out.2.size
        obtain ⟨s2, W2, hr2, ho2, ⟨ba2, bc2, rfl⟩, hk2, hat2⟩ := app_rf (wr.alloc (.cells #[.string ty, .int .i64 y.2] 57)) w.heap.size (.slice ab K.length ac) (.slice (some ⟨wr.heap.size, 0, none⟩) 1 1) K [y] (ownsRow_kept hK.out.1 (Kept.of_below (S := fun _ => False) hb4) (fun k _ e => e)) (.inr ⟨_, 1, rfl, fun j v hj => by
          rw [Addr.add_mid, Nat.zero_add]
          have hj' : (#[Value.string ty, .int .i64 y.2] : Array Value)[j]? = some v := by
            rw [← HTY.out]
            rw [← List.getElem?_toArray] at hj
            exact hj
          exact hB4.cell j hj'⟩) (Nat.le_trans hsz hb4.size) (by simp; omega)
        have HR2 : Hid (W2.ownsRow w.heap.size 57 2 (.slice ba2 (K ++ [y]).length bc2) (K ++ [y]).length (rowR (K ++ [y])) ∧ Kept (fun k => w.heap.size ≤ k) w1 W2) := by
          refine ⟨ho2, hK.out.2.trans ((Kept.of_below hb4).trans (hk2.mono fun k _ e => ?_))⟩
          rcases hK.out.1.2 with ⟨h', _⟩ | ⟨g', cap', cur, h', hb', _⟩
          · rw [h'] at e; simp [Value.ownBlock] at e
          · rw [h'] at e; simp [Value.ownBlock] at e; omega
        clear ho2 hk2 hat2 hb4 hB4 hKl
        rw [List.length_append, List.length_singleton] at hr2
        obtain ⟨kl, hkl⟩ : ∃ kl, K.length = kl := ⟨_, rfl⟩
        have HKL : Hid (K.length = kl) := hkl
        rw [hkl] at hr2 ⊢
        clear hkl
        go_wp2_with fail
        refine C52.out.mono ?_
        rintro e w2 ⟨rfl, rfl⟩
        clear C52
        go_wp2_with fail
        go_roundw
        case rel => exact ⟨i + 1, by omega, by go_num, ba2, bc2, by rw [HE', List.length_append, HKL.out]; rfl, by rw [HE']; exact HR2⟩
        case measure => simp [intOf]; omega
    · have hlt' : ¬ (i : Int) < n := by omega
      have HZ : Hid (wr.ownsRow w.heap.size 57 2 (.slice ab (unR P L).length ac) (unR P L).length (rowR (unR P L)) ∧ Kept (fun _ => False) w wr) := by
        have ht : L.take i = L := by rw [List.take_of_length_le]; have := HN.out.1; omega
        rw [ht] at hK
        have h13 := (Kept.of_below (S := fun k => w.heap.size ≤ k) HF.out).trans hK.out.2
        exact ⟨hK.out.1, h13.os, h13.tape, h13.output, h13.size, fun k hk _ => h13.block k hk (by show ¬ _ ≤ _; omega)⟩
      have hl : (unR P (L.take i)).length = (unR P L).length := by
        have ht : L.take i = L := by rw [List.take_of_length_le]; have := HN.out.1; omega
        rw [ht]
      clear hbw hK
      rw [hl]
      obtain ⟨m, hm⟩ : ∃ m, (unR P L).length = m := ⟨_, rfl⟩
      have HM : Hid ((unR P L).length = m) := hm
      rw [hm]
      clear hm hl
      go_wp2
      go_ret
      exact ⟨ab, ac, by rw [HM.out]; rfl, HZ⟩
set_option maxHeartbeats 2000000 in
theorem runder_no (hT : RefAt w B q W most L) (h1 : 1 ≤ W) (h2 : W ≤ 128) (v : Nat) (hv : Is128 v) (l : Int) (hfit : isP W v l = false) :
    Calls Try.prog 21 #[.pointer (some ⟨q, 0, none⟩), Go.Proofs.Ytgdpplipahhffaa.B v, .int .i64 l] w fun e w' => e = .returned (.slice none 0 0) ∧ Below w.heap.size w w' := by
  obtain ⟨⟨ba, bc, hB, hO⟩, hs, hf⟩ := hT
  have HB : Hid _ := one_new w #[.int .u64 (hiOf v), .int .u64 (loOf v)] 33
  have HH : Hid (Blk w q #[.int .i64 W, .int .i64 most, .slice ba L.length bc] 40 ∧ w.ownsRow B 57 2 (.slice ba L.length bc) L.length (rowR L) ∧ Srt L ∧ L.length ≤ 4096) := ⟨hB, hO, hs, hf⟩
  have C25 : Hid (∀ w1, Calls Try.prog 25 #[Go.Proofs.Ytgdpplipahhffaa.B v, .int .i64 l, .int .i64 W] w1 fun e w' => e = .returned (.tuple #[.string ⟨#[]⟩, .bool false]) ∧ Below w1.heap.size w1 w') := fun w1 => by
    have := rtext_any v hv l W h1 h2 w1
    unfold textT at this
    rw [hfit, if_neg (by decide)] at this
    exact this
  clear hB hO hs hf
  go_enter Try.func21, Try.ntmps21
  go_upto_region 1 with fail
  generalize (w.alloc _) = w0 at HB ⊢
  have x0 := gw_cell (HB.out.1.cell 0 (v := .int .u64 (hiOf v)) rfl)
  have x1 := gw_cell (HB.out.1.cell 1 (v := .int .u64 (loOf v)) rfl)
  have z0 := gw_cell ((HH.out.1.below HB.out.2.1).cell 0 (v := .int .i64 W) rfl)
  have fin : Hid (∀ z : Grown w0, Below w.heap.size w (gw z)) := fun z => HB.out.2.1.trans ((gw_below z).mono (Nat.le_of_lt HB.out.2.2))
  refine region_grows (by kernel_rfl) (by kernel_rfl) ?_
  repeat (go_big_quiet_step ((go_at_call 25; exact calls_gw (C25.out _))))
  refine wpQuiet_nil ?_
  intro wq hwq
  obtain ⟨zq, rfl⟩ := hwq
  have HF : Hid (Below w.heap.size w (gw zq)) := fin.out zq
  clear x0 x1 z0 C25 fin HB
  generalize gw zq = w1 at *
  have c2 := (HH.out.1.below HF.out).cell 2 (v := .slice ba L.length bc) rfl
  obtain ⟨n, hn⟩ : ∃ n, L.length = n := ⟨_, rfl⟩
  rw [hn] at c2
  clear hn HH
  go_wp2
  go_loopw [9, 10] (fun a b wr => a = .slice none 0 0 ∧ b = .int .i64 0 ∧ wr = w1) (fun a b wr => 0)
  case atStart => exact ⟨rfl, rfl, rfl⟩
  case round =>
    obtain ⟨rfl, rfl, rfl⟩ := hrel
    by_cases h0 : (0 : Int) < n
    · go_wp2
      go_ret
      exact ⟨rfl, HF.out⟩
    · go_wp2
      go_ret
      exact ⟨rfl, HF.out⟩
end
end Go.Proofs.Ytgdpplipahhffaa
namespace Go.Proofs.Ytgdpplipahhffaa
open Go.RowKit
set_option linter.unusedVariables false
set_option linter.unusedSimpArgs false

section
variable {w : World} {B q W most : Nat} {L : List (List Bool × Int)}
/-- What Find tells: the last of a row. -/
def lastV : Option (List Bool × Int) → Value
  | none => .tuple #[.agg #[.string ⟨#[]⟩, .int .i64 0], .bool false]
  | some y => .tuple #[.agg #[.string (tx y.1), .int .i64 y.2], .bool true]
set_option maxHeartbeats 1000000 in
theorem rfind_of (hT : RefAt w B q W most L) (v : Nat) (K : List (List Bool × Int)) (hKl : K.length ≤ 4096) (C : ∀ w1, Below w.heap.size w w1 → Calls Try.prog 65 #[.pointer (some ⟨q, 0, none⟩), Go.Proofs.Ytgdpplipahhffaa.B v] w1 fun e w' => ∃ ba bc, e = .returned (.slice ba K.length bc) ∧ Hid (w'.ownsRow w1.heap.size 57 2 (.slice ba K.length bc) K.length (rowR K) ∧ Kept (fun _ => False) w1 w')) :
    Calls Try.prog 45 #[.pointer (some ⟨q, 0, none⟩), Go.Proofs.Ytgdpplipahhffaa.B v] w fun e w' => e = .returned (lastV K.getLast?) ∧ Kept (fun _ => False) w w' := by
  have hqw := (let ⟨⟨ba, bc, hB, _⟩, _, _⟩ := hT; hB.lt : q < w.heap.size)
  have HB : Hid _ := one_new w #[.int .u64 (hiOf v), .int .u64 (loOf v)] 33
  have HC : Hid _ := one_new (w.alloc (.cells #[.int .u64 (hiOf v), .int .u64 (loOf v)] 33)) #[.string ⟨#[]⟩, .int .i64 0] 57
  have hsz : (w.alloc (.cells #[.int .u64 (hiOf v), .int .u64 (loOf v)] 33)).heap.size = w.heap.size + 1 := World.size_alloc _ _
  have HG : Hid (Blk ((w.alloc (.cells #[.int .u64 (hiOf v), .int .u64 (loOf v)] 33)).alloc (.cells #[.string ⟨#[]⟩, .int .i64 0] 57)) w.heap.size #[.int .u64 (hiOf v), .int .u64 (loOf v)] 33 ∧ Blk ((w.alloc (.cells #[.int .u64 (hiOf v), .int .u64 (loOf v)] 33)).alloc (.cells #[.string ⟨#[]⟩, .int .i64 0] 57)) (w.heap.size + 1) #[.string ⟨#[]⟩, .int .i64 0] 57 ∧ Below w.heap.size w ((w.alloc (.cells #[.int .u64 (hiOf v), .int .u64 (loOf v)] 33)).alloc (.cells #[.string ⟨#[]⟩, .int .i64 0] 57))) := by
    refine ⟨HB.out.1.below HC.out.2.1, ?_, bst HB.out.2.1 HC.out.2.1⟩
    rw [← hsz]; exact HC.out.1
  clear HB HC hT
  go_enter Try.func45, Try.ntmps45
  go_upto_region 1 with fail
  generalize (World.alloc _ _) = w0 at HG ⊢
  have x0 := HG.out.1.cell 0 (v := .int .u64 (hiOf v)) rfl
  have x1 := HG.out.1.cell 1 (v := .int .u64 (loOf v)) rfl
  have CC := C w0 HG.out.2.2
  clear C
  go_wp2_with fail
  refine CC.mono ?_
  rintro e w4 ⟨ba, bc, rfl, H4⟩
  have HD : Hid (Blk w4 (w.heap.size + 1) #[.string ⟨#[]⟩, .int .i64 0] 57) := HG.out.2.1.kept H4.out.2 (fun e => e)
  have d0 := HD.out.cell 0 (v := .string ⟨#[]⟩) rfl
  have d1 := HD.out.cell 1 (v := .int .i64 0) rfl
  have f0 := HD.out.frozen 0
  have f1 := HD.out.frozen 1
  have HF : Hid (∀ a b, Kept (fun _ => False) w ((w4.setCell ⟨w.heap.size + 1, 0, none⟩ a).setCell ⟨w.heap.size + 1, 1, none⟩ b)) := fun a b => by
    have h := ((((Kept.of_below HG.out.2.2).trans (H4.out.2.mono fun k _ e => e.elim) : Kept (fun k => k = w.heap.size + 1) w w4)).set (p := ⟨w.heap.size + 1, 0, none⟩) rfl a).set (p := ⟨w.heap.size + 1, 1, none⟩) rfl b
    exact ⟨h.os, h.tape, h.output, h.size, fun k hk _ => h.block k hk (by show ¬ k = _; omega)⟩
  have HS : Hid (∀ a b, Blk ((w4.setCell ⟨w.heap.size + 1, 0, none⟩ a).setCell ⟨w.heap.size + 1, 1, none⟩ b) (w.heap.size + 1) #[a, b] 57) := fun a b => (HD.out.set 0 a).set 1 b
  clear x0 x1 CC HG
  by_cases hK : K.length = 0
  · have hK0 : K = [] := List.eq_nil_of_length_eq_zero hK
    subst hK0
    rw [List.length_nil] at H4 ⊢
    clear hK hKl
    go_wp2_with fail
    have HS' := HS.out (.string ⟨#[]⟩) (.int .i64 0)
    have HF' := HF.out (.string ⟨#[]⟩) (.int .i64 0)
    clear HS HF HD d0 d1 f0 f1 H4
    generalize World.setCell _ _ _ = w5 at HS' HF' ⊢
    have c0 := HS'.cell 0 (v := .string ⟨#[]⟩) rfl
    have c1 := HS'.cell 1 (v := .int .i64 0) rfl
    refine bodyPost_ret (by simp [results, Try.results45, go_sem, c0, c1]; try rfl) rfl ?_
    exact ⟨rfl, HF'⟩
  · obtain ⟨y, hy⟩ : ∃ y, K[K.length - 1]? = some y := ⟨_, List.getElem?_eq_getElem (by omega)⟩
    have hlast : K.getLast? = some y := by rw [List.getLast?_eq_getElem?]; exact hy
    obtain ⟨g, rfl, hnb, hrow⟩ := rowR_at H4.out.1 rfl (by omega)
    obtain ⟨r0, r1⟩ := hrow _ y hy
    have HL : Hid (K.getLast? = some y) := hlast
    clear hrow hlast hy H4
    obtain ⟨n, hn⟩ : ∃ n, K.length = n + 1 := ⟨K.length - 1, by omega⟩
    rw [hn] at r0 r1 hnb hKl hK ⊢
    rw [Nat.add_sub_cancel] at r0 r1
    clear hn hK
    go_wp2_with fail
    have HS' := HS.out (.string (tx y.1)) (.int .i64 y.2)
    have HF' := HF.out (.string (tx y.1)) (.int .i64 y.2)
    clear HS HF HD d0 d1 f0 f1 r0 r1
    generalize World.setCell _ _ _ = w5 at HS' HF' ⊢
    have c0 := HS'.cell 0 (v := .string (tx y.1)) rfl
    have c1 := HS'.cell 1 (v := .int .i64 y.2) rfl
    refine bodyPost_ret (by simp [results, Try.results45, go_sem, c0, c1]; try rfl) rfl ?_
    exact ⟨by rw [HL.out]; rfl, HF'⟩
end
end Go.Proofs.Ytgdpplipahhffaa
namespace Go.Proofs.Ytgdpplipahhffaa
open Go.RowKit
set_option linter.unusedVariables false
set_option linter.unusedSimpArgs false

/-- The value of the first i bits of a text, drawn out with zeros. -/
def vUp (p : List Bool) : Nat → Nat
  | 0 => 0
  | i + 1 => 2 * vUp p i + if p[i]? = some true then 1 else 0
theorem vUp_lt (p : List Bool) : ∀ i, vUp p i < 2 ^ i
  | 0 => by simp [vUp]
  | i + 1 => by
    have := vUp_lt p i
    rw [vUp, Nat.pow_succ]
    split <;> omega
theorem vUp_cons (b : Bool) (p : List Bool) : ∀ i, vUp (b :: p) (i + 1) = (if b then 2 ^ i else 0) + vUp p i
  | 0 => by cases b <;> simp [vUp]
  | i + 1 => by
    rw [vUp, vUp_cons b p i, vUp]
    have e : (b :: p)[i + 1]? = p[i]? := rfl
    rw [e, Nat.pow_succ]
    split <;> split <;> omega
theorem vUp_nil : ∀ i, vUp [] i = 0
  | 0 => rfl
  | i + 1 => by rw [vUp, vUp_nil i]; simp
theorem vUp_val : ∀ {W : Nat} {p : List Bool}, p.length ≤ W → vUp p W = valOf W p
  | W, [], _ => by rw [vUp_nil, valOf]
  | 0, b :: p, h => by simp at h
  | W + 1, b :: p, h => by
    rw [vUp_cons, valOf, vUp_val (W := W) (by simpa using h)]
    rfl
set_option maxHeartbeats 1000000 in
theorem rvalue_any (w : World) {W : Nat} (h2 : W ≤ 128) {p : List Bool} (hp : p.length ≤ W) :
    Calls Try.prog 53 #[.string (tx p), .int .i64 W] w fun e w' => e = .returned (Go.Proofs.Ytgdpplipahhffaa.B (valOf W p)) ∧ Kept (fun _ => False) w w' := by
  have HB : Hid _ := one_new w #[.int .u64 0, .int .u64 0] 33
  have HC : Hid _ := one_new (w.alloc (.cells #[.int .u64 0, .int .u64 0] 33)) #[.int .u64 0, .int .u64 0] 33
  have hsz : (w.alloc (.cells #[.int .u64 0, .int .u64 0] 33)).heap.size = w.heap.size + 1 := World.size_alloc _ _
  have HG : Hid (Blk ((w.alloc (.cells #[.int .u64 0, .int .u64 0] 33)).alloc (.cells #[.int .u64 0, .int .u64 0] 33)) w.heap.size #[.int .u64 0, .int .u64 0] 33 ∧ Blk ((w.alloc (.cells #[.int .u64 0, .int .u64 0] 33)).alloc (.cells #[.int .u64 0, .int .u64 0] 33)) (w.heap.size + 1) #[.int .u64 0, .int .u64 0] 33 ∧ Below w.heap.size w ((w.alloc (.cells #[.int .u64 0, .int .u64 0] 33)).alloc (.cells #[.int .u64 0, .int .u64 0] 33))) := by
    refine ⟨HB.out.1.below HC.out.2.1, ?_, bst HB.out.2.1 HC.out.2.1⟩
    rw [← hsz]; exact HC.out.1
  clear HB HC
  have hs : (tx p).size = p.length := tx_size p
  go_enter Try.func53, Try.ntmps53
  go_upto_region 2 with fail
  generalize (World.alloc _ _) = w0 at HG ⊢
  go_wp2_with fail
  go_loopw [6] (fun b wr => ∃ i : Nat, i ≤ W ∧ b = .int .i64 i ∧ Hid (Blk wr (w.heap.size + 1) #[.int .u64 (hiOf (vUp p i)), .int .u64 (loOf (vUp p i))] 33 ∧ Blk wr w.heap.size #[.int .u64 0, .int .u64 0] 33 ∧ Kept (fun _ => False) w wr)) (fun b wr => 200 - (intOf b).toNat)
  case atStart => exact ⟨0, Nat.zero_le _, rfl, (⟨by have := HG.out.2.1; simp only [vUp, hiOf, loOf]; exact this, HG.out.1, Kept.of_below HG.out.2.2⟩ : _ ∧ _ ∧ _)⟩
  case round =>
    obtain ⟨i, hi, rfl, HK⟩ := hrel
    by_cases hlt : i < W
    · have hlt' : (i : Int) < W := by omega
      have c0 := HK.out.1.cell 0 (v := .int .u64 (hiOf (vUp p i))) rfl
      have c1 := HK.out.1.cell 1 (v := .int .u64 (loOf (vUp p i))) rfl
      have f0 := HK.out.1.frozen 0
      have f1 := HK.out.1.frozen 1
      have hn : vUp p i < 2 ^ 127 := Nat.lt_of_lt_of_le (vUp_lt p i) (Nat.pow_le_pow_right (by decide) (by omega))
      unfold hiOf at c0
      unfold loOf at c1
      obtain ⟨a, ha⟩ : ∃ a, vUp p i / 18446744073709551616 = a := ⟨_, rfl⟩
      obtain ⟨b, hb⟩ : ∃ b, vUp p i % 18446744073709551616 = b := ⟨_, rfl⟩
      rw [ha] at c0
      rw [hb] at c1
      have ha2 : a < 9223372036854775808 := by omega
      have hb2 : b < 18446744073709551616 := by omega
      have hA : ∀ (x y x' y' : Int) (wa : World), (Blk wa (w.heap.size + 1) #[.int .u64 x, .int .u64 y] 33 ∧ Blk wa w.heap.size #[.int .u64 0, .int .u64 0] 33 ∧ Kept (fun _ => False) w wa) → (Blk (wa.setCell ⟨w.heap.size + 1, 0, none⟩ (.int .u64 x')) (w.heap.size + 1) #[.int .u64 x', .int .u64 y] 33 ∧ Blk (wa.setCell ⟨w.heap.size + 1, 0, none⟩ (.int .u64 x')) w.heap.size #[.int .u64 0, .int .u64 0] 33 ∧ Kept (fun _ => False) w (wa.setCell ⟨w.heap.size + 1, 0, none⟩ (.int .u64 x'))) ∧ (Blk (wa.setCell ⟨w.heap.size + 1, 1, none⟩ (.int .u64 y')) (w.heap.size + 1) #[.int .u64 x, .int .u64 y'] 33 ∧ Blk (wa.setCell ⟨w.heap.size + 1, 1, none⟩ (.int .u64 y')) w.heap.size #[.int .u64 0, .int .u64 0] 33 ∧ Kept (fun _ => False) w (wa.setCell ⟨w.heap.size + 1, 1, none⟩ (.int .u64 y'))) := fun x y x' y' wa h => by
        have k0 := (Kept.refl (fun k => k = w.heap.size + 1) wa).set (p := ⟨w.heap.size + 1, 0, none⟩) rfl (.int .u64 x')
        have k1 := (Kept.refl (fun k => k = w.heap.size + 1) wa).set (p := ⟨w.heap.size + 1, 1, none⟩) rfl (.int .u64 y')
        have kk : ∀ {wb : World}, Kept (fun k => k = w.heap.size + 1) wa wb → Kept (fun _ => False) w wb := fun ks => by
          have h13 := h.2.2
          exact ⟨ks.os.trans h13.os, ks.tape.trans h13.tape, ks.output.trans h13.output, Nat.le_trans h13.size ks.size, fun k hk hs => (ks.block k (Nat.lt_of_lt_of_le hk h13.size) (by show ¬ k = _; omega)).trans (h13.block k hk hs)⟩
        exact ⟨⟨h.1.set 0 _, h.2.1.kept k0 (by show ¬ _ = _; omega), kk k0⟩, h.1.set 1 _, h.2.1.kept k1 (by show ¬ _ = _; omega), kk k1⟩
      have H5 : Hid _ := (hA _ _ (2 * (a : Int)) 0 wr HK.out).1
      go_upto_region 5 with fail
      go_upto_region 6 with fail
      clear c0 c1 f0 f1 HK
      generalize World.setCell _ _ _ = w5 at H5 ⊢
      have c0 := H5.out.1.cell 0 (v := .int .u64 (2 * (a : Int))) rfl
      have c1 := H5.out.1.cell 1 (v := .int .u64 b) (by unfold loOf; rw [hb]; rfl)
      have f0 := H5.out.1.frozen 0
      have f1 := H5.out.1.frozen 1
      by_cases hbb : 9223372036854775808 ≤ b
      · have hbb' : (9223372036854775808 : Int) ≤ b := by omega
        have H7 : Hid _ := (hA _ _ (2 * (a : Int) + 1) 0 w5 H5.out).1
        go_upto_region 7 with fail
        go_upto_region 8 with fail
        clear c0 c1 f0 f1 H5
        generalize World.setCell _ _ _ = w7 at H7 ⊢
        have hwr : IntKind.u64.wrap (2 * (b : Int)) = 2 * (b : Int) - 18446744073709551616 := by simp [IntKind.wrap, IntKind.bits, IntKind.signed]; omega
        have H8 : Hid _ := (hA _ _ 0 (2 * (b : Int) - 18446744073709551616) w7 H7.out).2
        have c0 := H7.out.1.cell 0 (v := .int .u64 (2 * (a : Int) + 1)) rfl
        have c1 := H7.out.1.cell 1 (v := .int .u64 b) (by unfold loOf; rw [hb]; rfl)
        have f0 := H7.out.1.frozen 0
        have f1 := H7.out.1.frozen 1
        go_upto_region 9 with fail
        clear c0 c1 f0 f1 H7 hbb' hwr
        generalize World.setCell _ _ _ = w9 at H8 ⊢
        have c1 := H8.out.1.cell 1 (v := .int .u64 (2 * (b : Int) - 18446744073709551616)) rfl
        have f1 := H8.out.1.frozen 1
        have hlb : True := trivial
        by_cases hip : i < p.length
        · have hip' : (i : Int) < p.length := by omega
          have his : i < (tx p).size := by omega
          obtain ⟨bb, hbp⟩ : ∃ bb, p[i]? = some bb := ⟨_, List.getElem?_eq_getElem hip⟩
          have hat : (((tx p)[i]'his).toNat : Int) = if bb then 49 else 48 := by rw [tx_at p i his bb hbp]; cases bb <;> rfl
          generalize hs0 : tx p = s at *
          have HX : Hid (tx p = s) := hs0
          clear hs0
          cases bb with
          | true =>
            have hat' : (((s[i]'his).toNat : Int) == 49) = true := by rw [hat]; rfl
            have H10 : Hid _ := (hA _ _ 0 (2 * (b : Int) - 18446744073709551616 + 1) w9 H8.out).2
            clear hat
            go_wp2_with fail
            have hbb2 : decide (p[i]? = some true) = true := by rw [hbp]; rfl
            have hv : vUp p (i + 1) = 2 * vUp p i + 1 := by rw [vUp]; split <;> simp_all
            have e1 : hiOf (vUp p (i + 1)) = 2 * (a : Int) + 1 := by rw [hv]; unfold hiOf; omega
            have e2 : loOf (vUp p (i + 1)) = 2 * (b : Int) - 18446744073709551616 + 1 := by rw [hv]; unfold loOf; omega
            have HE := H10
            first | (go_roundw; (case rel => exact ⟨i + 1, by omega, by go_num, by rw [e1, e2]; exact HE⟩); (case measure => simp [intOf]; omega)) | (refine ⟨⟨⟨i + 1, by omega, by omega, by rw [e1, e2]; exact HE⟩, ?_⟩, ?_⟩ <;> (first | rfl | exact HX.out.symm | exact HX.out | (simp [intOf]; omega)))
          | false =>
            have hat' : (((s[i]'his).toNat : Int) == 49) = false := by rw [hat]; rfl
            clear hat
            go_wp2_with fail
            have hbb2 : decide (p[i]? = some true) = false := by rw [hbp]; rfl
            have hv : vUp p (i + 1) = 2 * vUp p i + 0 := by rw [vUp]; split <;> simp_all
            have e1 : hiOf (vUp p (i + 1)) = 2 * (a : Int) + 1 := by rw [hv]; unfold hiOf; omega
            have e2 : loOf (vUp p (i + 1)) = 2 * (b : Int) - 18446744073709551616 := by rw [hv]; unfold loOf; omega
            have HE := H8
            first | (go_roundw; (case rel => exact ⟨i + 1, by omega, by go_num, by rw [e1, e2]; exact HE⟩); (case measure => simp [intOf]; omega)) | (refine ⟨⟨⟨i + 1, by omega, by omega, by rw [e1, e2]; exact HE⟩, ?_⟩, ?_⟩ <;> (first | rfl | exact HX.out.symm | exact HX.out | (simp [intOf]; omega)))
        · have hip' : ¬ (i : Int) < p.length := by omega
          go_wp2_with fail
          have hbb2 : decide (p[i]? = some true) = false := by rw [List.getElem?_eq_none (by omega)]; rfl
          have hv : vUp p (i + 1) = 2 * vUp p i + 0 := by rw [vUp]; split <;> simp_all
          have e1 : hiOf (vUp p (i + 1)) = 2 * (a : Int) + 1 := by rw [hv]; unfold hiOf; omega
          have e2 : loOf (vUp p (i + 1)) = 2 * (b : Int) - 18446744073709551616 := by rw [hv]; unfold loOf; omega
          have HE := H8
          first | (go_roundw; (case rel => exact ⟨i + 1, by omega, by go_num, by rw [e1, e2]; exact HE⟩); (case measure => simp [intOf]; omega)) | (refine ⟨⟨⟨i + 1, by omega, by omega, by rw [e1, e2]; exact HE⟩, ?_⟩, ?_⟩ <;> (first | rfl | exact HX.out.symm | exact HX.out | (simp [intOf]; omega)))
      · have hbb' : ¬ (9223372036854775808 : Int) ≤ b := by omega
        have H8 : Hid _ := (hA _ _ 0 (2 * (b : Int)) w5 H5.out).2
        go_upto_region 8 with fail
        go_upto_region 9 with fail
        clear c0 c1 f0 f1 H5 hbb' 
        generalize World.setCell _ _ _ = w9 at H8 ⊢
        have c1 := H8.out.1.cell 1 (v := .int .u64 (2 * (b : Int))) rfl
        have f1 := H8.out.1.frozen 1
        have hlb : True := trivial
        by_cases hip : i < p.length
        · have hip' : (i : Int) < p.length := by omega
          have his : i < (tx p).size := by omega
          obtain ⟨bb, hbp⟩ : ∃ bb, p[i]? = some bb := ⟨_, List.getElem?_eq_getElem hip⟩
          have hat : (((tx p)[i]'his).toNat : Int) = if bb then 49 else 48 := by rw [tx_at p i his bb hbp]; cases bb <;> rfl
          generalize hs0 : tx p = s at *
          have HX : Hid (tx p = s) := hs0
          clear hs0
          cases bb with
          | true =>
            have hat' : (((s[i]'his).toNat : Int) == 49) = true := by rw [hat]; rfl
            have H10 : Hid _ := (hA _ _ 0 (2 * (b : Int) + 1) w9 H8.out).2
            clear hat
            go_wp2_with fail
            have hbb2 : decide (p[i]? = some true) = true := by rw [hbp]; rfl
            have hv : vUp p (i + 1) = 2 * vUp p i + 1 := by rw [vUp]; split <;> simp_all
            have e1 : hiOf (vUp p (i + 1)) = 2 * (a : Int) := by rw [hv]; unfold hiOf; omega
            have e2 : loOf (vUp p (i + 1)) = 2 * (b : Int) + 1 := by rw [hv]; unfold loOf; omega
            have HE := H10
            first | (go_roundw; (case rel => exact ⟨i + 1, by omega, by go_num, by rw [e1, e2]; exact HE⟩); (case measure => simp [intOf]; omega)) | (refine ⟨⟨⟨i + 1, by omega, by omega, by rw [e1, e2]; exact HE⟩, ?_⟩, ?_⟩ <;> (first | rfl | exact HX.out.symm | exact HX.out | (simp [intOf]; omega)))
          | false =>
            have hat' : (((s[i]'his).toNat : Int) == 49) = false := by rw [hat]; rfl
            clear hat
            go_wp2_with fail
            have hbb2 : decide (p[i]? = some true) = false := by rw [hbp]; rfl
            have hv : vUp p (i + 1) = 2 * vUp p i + 0 := by rw [vUp]; split <;> simp_all
            have e1 : hiOf (vUp p (i + 1)) = 2 * (a : Int) := by rw [hv]; unfold hiOf; omega
            have e2 : loOf (vUp p (i + 1)) = 2 * (b : Int) := by rw [hv]; unfold loOf; omega
            have HE := H8
            first | (go_roundw; (case rel => exact ⟨i + 1, by omega, by go_num, by rw [e1, e2]; exact HE⟩); (case measure => simp [intOf]; omega)) | (refine ⟨⟨⟨i + 1, by omega, by omega, by rw [e1, e2]; exact HE⟩, ?_⟩, ?_⟩ <;> (first | rfl | exact HX.out.symm | exact HX.out | (simp [intOf]; omega)))
        · have hip' : ¬ (i : Int) < p.length := by omega
          go_wp2_with fail
          have hbb2 : decide (p[i]? = some true) = false := by rw [List.getElem?_eq_none (by omega)]; rfl
          have hv : vUp p (i + 1) = 2 * vUp p i + 0 := by rw [vUp]; split <;> simp_all
          have e1 : hiOf (vUp p (i + 1)) = 2 * (a : Int) := by rw [hv]; unfold hiOf; omega
          have e2 : loOf (vUp p (i + 1)) = 2 * (b : Int) := by rw [hv]; unfold loOf; omega
          have HE := H8
          first | (go_roundw; (case rel => exact ⟨i + 1, by omega, by go_num, by rw [e1, e2]; exact HE⟩); (case measure => simp [intOf]; omega)) | (refine ⟨⟨⟨i + 1, by omega, by omega, by rw [e1, e2]; exact HE⟩, ?_⟩, ?_⟩ <;> (first | rfl | exact HX.out.symm | exact HX.out | (simp [intOf]; omega)))
    · have hlt' : ¬ (i : Int) < W := by omega
      have hiW : i = W := by omega
      subst hiW
      rw [vUp_val hp] at HK
      have HD : Hid (Blk wr w.heap.size #[.int .u64 0, .int .u64 0] 33 ∧ Kept (fun _ => False) w wr) := HK.out.2
      have c0 := HK.out.1.cell 0 (v := .int .u64 (hiOf (valOf i p))) rfl
      have c1 := HK.out.1.cell 1 (v := .int .u64 (loOf (valOf i p))) rfl
      have d0 := HD.out.1.cell 0 (v := .int .u64 0) rfl
      have d1 := HD.out.1.cell 1 (v := .int .u64 0) rfl
      have f0 := HD.out.1.frozen 0
      have f1 := HD.out.1.frozen 1
      have HS' : Hid (Blk ((wr.setCell ⟨w.heap.size, 0, none⟩ (.int .u64 (hiOf (valOf i p)))).setCell ⟨w.heap.size, 1, none⟩ (.int .u64 (loOf (valOf i p)))) w.heap.size #[.int .u64 (hiOf (valOf i p)), .int .u64 (loOf (valOf i p))] 33) := (HD.out.1.set 0 _).set 1 _
      have HF' : Hid (Kept (fun _ => False) w ((wr.setCell ⟨w.heap.size, 0, none⟩ (.int .u64 (hiOf (valOf i p)))).setCell ⟨w.heap.size, 1, none⟩ (.int .u64 (loOf (valOf i p))))) := by
        have h := ((HD.out.2.mono fun k _ e => e.elim : Kept (fun k => k = w.heap.size) w wr).set (p := ⟨w.heap.size, 0, none⟩) rfl (.int .u64 (hiOf (valOf i p)))).set (p := ⟨w.heap.size, 1, none⟩) rfl (.int .u64 (loOf (valOf i p)))
        exact ⟨h.os, h.tape, h.output, h.size, fun k hk _ => h.block k hk (by show ¬ k = _; omega)⟩
      clear HK HD
      go_wp2_with fail
      clear d0 d1 f0 f1 c0 c1
      generalize World.setCell _ _ _ = w5 at HS' HF' ⊢
      have c0 := HS'.out.cell 0 (v := .int .u64 (hiOf (valOf i p))) rfl
      have c1 := HS'.out.cell 1 (v := .int .u64 (loOf (valOf i p))) rfl
      refine bodyPost_ret (by simp [results, Try.results53, go_sem, c0, c1]; try rfl) rfl ?_
      exact ⟨rfl, HF'.out⟩
end Go.Proofs.Ytgdpplipahhffaa
