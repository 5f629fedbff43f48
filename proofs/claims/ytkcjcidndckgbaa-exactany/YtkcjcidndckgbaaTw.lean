/- ExactAny's walk. -/
import Derived.Test.YtkcjcidndckgbaaTe
import Derived.Test.YtkcjcidndckgbaaAw
import Derived.Test.YtkcjcidndckgbaaQp
import Derived.Deep.RegionHeld3
namespace Go.Proofs.Ytkcjcidndckgbaa
open Go.RowKit Go.Sort
set_option linter.unusedVariables false
set_option linter.unusedSimpArgs false

set_option maxHeartbeats 8000000 in
set_option maxRecDepth 100000 in
theorem any_walk (v : Value) (xs : List ByteArray) (k0 : ByteArray) (w : World) (h : TxtRow w v xs) (hk0 : Okt k0) : Calls Try.prog 4 #[v, .string k0] w fun e w' => e = .returned (.bool true) ∧ Below w.heap.size w w' := by
  obtain ⟨ad, cap, rfl, hlen, hat⟩ := h.parts
  have HT : Hid (∀ i x, xs[i]? = some x → Okt x ∧ ∃ b o, ad = some ⟨b, o, none⟩ ∧ w.cell? ⟨b, o + i, none⟩ = some (.string x)) := hat
  have CX : Hid (∀ sb l W, Below w.heap.size w W → w.heap.size ≤ sb → Blk W sb #[.int .i64 l] 92 → Calls Try.prog 13 #[.pointer (some ⟨sb, 0, none⟩), .slice ad xs.length cap] W fun e w' => e = .returned (.tuple #[]) ∧ (∃ l' : Int, Blk w' sb #[.int .i64 l'] 92) ∧ Below w.heap.size w w') := fun sb l W h1 h2 h3 => texts_any w _ xs h sb l W h1 h2 h3
  have hks : k0.size ≤ 281474976710656 := by unfold Okt at hk0; omega
  obtain ⟨n, hn⟩ : ∃ n, n = xs.length := ⟨_, rfl⟩
  have HN : Hid (n = xs.length) := hn
  rw [← hn] at hlen CX ⊢
  clear h hat hn hk0
  have C6 : Hid (∀ W, Calls Try.prog 6 #[] W fun e w' => e = .returned (.bool true) ∧ Below W.heap.size W w') := fun W => awake_any W
  have CW : Hid (∀ W, Calls Try.prog 12 #[] W fun e w' => e = .returned (.pointer (some ⟨W.heap.size, 0, none⟩)) ∧ w' = W.alloc (.cells #[.int .i64 1048576] 92)) := fun W => weigh_any W
  go_enter Try.func4, Try.ntmps4
  go_wp2_with fail
  refine (C6.out _).mono ?_
  rintro e w1 ⟨rfl, hb1⟩
  have HB1 : Hid (Below w.heap.size w w1) := hb1
  clear hb1 C6
  go_wp2_with fail
  refine (CW.out _).mono ?_
  rintro e w2 ⟨rfl, hw2⟩
  have HB2 : Hid (Below w.heap.size w w2 ∧ Blk w2 w1.heap.size #[.int .i64 1048576] 92 ∧ w.heap.size ≤ w1.heap.size) := by
    subst hw2
    exact ⟨bst HB1.out ((Below.refl _ _).alloc (Nat.le_refl _) _), Blk.new w1 _ 92, HB1.out.size⟩
  clear hw2 CW HB1
  generalize w1.heap.size = sb at *
  go_wp2_with fail
  refine (CX.out sb _ w2 HB2.out.1 HB2.out.2.2 HB2.out.2.1).mono ?_
  rintro e w3 ⟨rfl, ⟨l3, h3⟩, hb3⟩
  have HB3 : Hid (Below w.heap.size w w3 ∧ Blk w3 sb #[.int .i64 l3] 92) := ⟨hb3, h3⟩
  have CF : Hid (Calls Try.prog 14 #[.pointer (some ⟨sb, 0, none⟩)] w3 fun e w' => ∃ bb : Bool, e = .returned (.bool bb) ∧ w' = w3) := (fine_any sb l3 w3 h3).mono fun e w' h => ⟨_, h⟩
  clear h3 hb3 CX HB2
  by_cases h200 : 200 < n
  · have t1 : decide ((200 : Int) < (n : Int)) = true := by simp; omega
    have t2 : decide (200 < n) = true := decide_eq_true h200
    go_wp2_with fail
    go_ret
    exact ⟨rfl, HB3.out.1⟩
  have t1 : decide ((200 : Int) < (n : Int)) = false := by simp; omega
  have t2 : decide (200 < n) = false := decide_eq_false h200
  go_wp2_with fail
  refine CF.out.mono ?_
  rintro e w4 ⟨bb, rfl, rfl⟩
  clear CF
  cases bb with
  | false =>
    go_wp2_with fail
    go_ret
    exact ⟨rfl, HB3.out.1⟩
  | true =>
    have CN : Hid (Calls Try.prog 15 #[.int .i64 4096] w4 fun e w1 => ∃ q1, e = .returned (.tuple #[.pointer (some ⟨q1, 0, none⟩), .int .i64 0]) ∧ Hid (Below w.heap.size w w1 ∧ ∀ V, Below w1.heap.size w1 V → Calls Try.prog 16 #[.int .i64 4096] V fun e w2 => ∃ q2, e = .returned (.tuple #[.pointer (some ⟨q2, 0, none⟩), .int .i64 0]) ∧ Two w w2 q1 q2 [] [])) := two_new w w4 HB3.out.1
    clear HB3
    go_wp2_with fail
    refine CN.out.mono ?_
    rintro e w5 ⟨q1, rfl, H5⟩
    clear CN
    go_wp2_with fail
    refine (H5.out.2 _ (Below.refl _ _)).mono ?_
    rintro e w6 ⟨q2, rfl, h6⟩
    have H6 : Hid (Two w w6 q1 q2 [] []) := h6
    clear h6 H5 t1 t2
    go_wp2_with fail
    have hn200 : n ≤ 200 := by omega
    go_loopw [11] (fun i wr => ∃ m : Nat, i = .int .i64 m ∧ m ≤ n ∧ Hid (Two w wr q1 q2 (dk xs m) (dk xs m))) (fun i _ => n - (intOf i).toNat)
    case atStart => exact ⟨0, rfl, Nat.zero_le _, H6⟩
    case round =>
      obtain ⟨m, rfl, hm, HK⟩ := hrel
      clear H6
      by_cases hmn : m < n
      · obtain ⟨x, hx⟩ : ∃ x, xs[m]? = some x := ⟨xs[m]'(by rw [← HN.out]; exact hmn), List.getElem?_eq_getElem _⟩
        obtain ⟨hok, b, o, rfl, hc⟩ := HT.out m x hx
        have hxs : x.size ≤ 281474976710656 := by unfold Okt at hok; omega
        have c0 := pres_below (Two.be HK.out) _ _ hc
        have hdl : (dk xs m).length ≤ m := (dk_ok xs m (by rw [← HN.out]; exact hm)).2.1
        have hds := dk_succ hx
        obtain ⟨c, hc01, HC⟩ : ∃ c : Int, (c = 121 ∨ c = 0) ∧ Hid (c = if x ∈ dk xs m then 121 else 0) := ⟨_, by split <;> simp, rfl⟩
        have CP1 : Hid (∀ W, Below wr.heap.size wr W → Calls Try.prog 17 #[.pointer (some ⟨q1, 0, none⟩), .string x, .string (under ++ x)] W fun e w' => e = .returned (.int .i64 c) ∧ w'.cell? ⟨b, o + m, none⟩ = some (.string x) ∧ Hid (Two w w' q1 q2 (dk xs (m + 1)) (dk xs m))) := fun W hW => (Two.put1 (Two.below HK.out hW) x hxs (by omega)).mono fun e w' hh => by
          rw [HC.out, hds]
          exact ⟨hh.1, pres_below hh.2.be _ _ hc, hh.2⟩
        have CP2 : Hid (∀ W, Two w W q1 q2 (dk xs (m + 1)) (dk xs m) → Calls Try.prog 18 #[.pointer (some ⟨q2, 0, none⟩), .string x, .agg #[.string x, .int .i64 x.size, .int .i64 7]] W fun e w' => e = .returned (.int .i64 c) ∧ Hid (Two w w' q1 q2 (dk xs (m + 1)) (dk xs (m + 1)))) := fun W hW => (hW.put2 x hxs (by omega)).mono fun e w' hh => by
          rw [HC.out]
          have h2 := hh.2
          rw [← hds] at h2
          exact ⟨hh.1, h2⟩
        have t1 : decide ((m : Int) < (n : Int)) = true := by simp; omega
        clear hx hc hok hdl hds HC HK
        go_upto_region 13 with fail
        go_region_with ((go_at_call 17; refine (CP1.out _ (by exact ⟨rfl, rfl, rfl, Nat.le_refl _, fun _ _ => rfl⟩)).mono ?_; rintro e w7 ⟨rfl, c1, H7⟩))
        all_goals (
          have CP3 : Hid (∀ W, Below w7.heap.size w7 W → Calls Try.prog 18 #[.pointer (some ⟨q2, 0, none⟩), .string x, .agg #[.string x, .int .i64 x.size, .int .i64 7]] W fun e w' => e = .returned (.int .i64 c) ∧ Hid (Two w w' q1 q2 (dk xs (m + 1)) (dk xs (m + 1)))) := fun W hW => CP2.out W (Two.below H7.out hW)
          clear CP1 CP2 c0 H7
          go_upto_region 14 with fail
          go_region_with ((go_at_call 18; refine (CP3.out _ (by exact ⟨rfl, rfl, rfl, Nat.le_refl _, fun _ _ => rfl⟩)).mono ?_; rintro e w8 ⟨rfl, H8⟩))
          all_goals (
            clear CP3 c1
            rcases hc01 with rfl | rfl
            · go_wp2_with fail
              exact ⟨⟨m + 1, by simp, by omega, H8⟩, by simp [intOf]; omega⟩
            · go_wp2_with fail
              exact ⟨⟨m + 1, by simp, by omega, H8⟩, by simp [intOf]; omega⟩))
      · have t1 : decide ((m : Int) < (n : Int)) = false := by simp; omega
        have hmn' : m = n := by omega
        subst hmn'
        obtain ⟨d1, d2, d3⟩ := dk_ok xs m (by rw [← HN.out]; exact Nat.le_refl _)
        have HD : Hid ((dk xs m).Nodup ∧ (dk xs m).length ≤ m ∧ ∀ x, x ∈ dk xs m ↔ x ∈ xs) := ⟨d1, d2, fun x => by rw [d3, HN.out, List.take_length]⟩
        clear d1 d2 d3
        generalize dk xs m = D at *
        have CD1 : Hid (Calls Try.prog 19 #[.pointer (some ⟨q1, 0, none⟩), .string k0] wr fun e w' => e = .returned (.tuple #[.string (if k0 ∈ D then under ++ k0 else ⟨#[]⟩), .bool (decide (k0 ∈ D))]) ∧ Two w w' q1 q2 (D.erase k0) D) := Two.drop1 HK.out k0 hks
        clear HK
        go_wp2_with fail
        refine CD1.out.mono ?_
        rintro e w7 ⟨rfl, h7⟩
        have CD2 : Hid (Calls Try.prog 20 #[.pointer (some ⟨q2, 0, none⟩), .string k0] w7 fun e w' => e = .returned (.tuple #[.agg #[.string (if k0 ∈ D then k0 else ⟨#[]⟩), .int .i64 (if k0 ∈ D then (k0.size : Int) else 0), .int .i64 (if k0 ∈ D then 7 else 0)], .bool (decide (k0 ∈ D))]) ∧ Two w w' q1 q2 (D.erase k0) (D.erase k0)) := Two.drop2 h7 k0 hks
        clear CD1 h7
        obtain ⟨s14, h14⟩ : ∃ s : ByteArray, s = (if k0 ∈ D then under ++ k0 else ⟨#[]⟩) := ⟨_, rfl⟩
        obtain ⟨b14, hb14⟩ : ∃ s : Bool, s = decide (k0 ∈ D) := ⟨_, rfl⟩
        obtain ⟨a1, ha1⟩ : ∃ s : ByteArray, s = (if k0 ∈ D then k0 else ⟨#[]⟩) := ⟨_, rfl⟩
        obtain ⟨a2, ha2⟩ : ∃ s : Int, s = (if k0 ∈ D then (k0.size : Int) else 0) := ⟨_, rfl⟩
        obtain ⟨a3, ha3⟩ : ∃ s : Int, s = (if k0 ∈ D then 7 else 0) := ⟨_, rfl⟩
        rw [← ha1, ← ha2, ← ha3, ← hb14] at CD2
        rw [← h14, ← hb14]
        have HV : Hid (s14 = (if k0 ∈ D then under ++ k0 else ⟨#[]⟩) ∧ b14 = decide (k0 ∈ D) ∧ a1 = (if k0 ∈ D then k0 else ⟨#[]⟩) ∧ a2 = (if k0 ∈ D then (k0.size : Int) else 0) ∧ a3 = (if k0 ∈ D then 7 else 0)) := ⟨h14, hb14, ha1, ha2, ha3⟩
        clear h14 hb14 ha1 ha2 ha3
        go_wp2_with fail
        refine CD2.out.mono ?_
        rintro e w8 ⟨rfl, h8⟩
        have HB8 : Hid (Blk (w8.alloc (.cells #[.string a1, .int .i64 a2, .int .i64 a3] 56)) w8.heap.size #[.string a1, .int .i64 a2, .int .i64 a3] 56 ∧ Two w (w8.alloc (.cells #[.string a1, .int .i64 a2, .int .i64 a3] 56)) q1 q2 (D.erase k0) (D.erase k0)) := ⟨Blk.new w8 _ 56, Two.below h8 ((Below.refl _ _).alloc (Nat.le_refl _) _)⟩
        clear h8 CD2
        go_upto_region 19 with fail
        generalize (w8.alloc _) = w9 at HB8 ⊢
        generalize w8.heap.size = A at *
        go_wp2_with fail
        go_loopw [18, 19] (fun a i wr => ∃ p : Nat, i = .int .i64 p ∧ p ≤ m ∧ a = .bool (decide (k0 ∈ xs.take p)) ∧ wr = w9) (fun _ i _ => m - (intOf i).toNat)
        case atStart => exact ⟨0, rfl, Nat.zero_le _, by simp, rfl⟩
        case round =>
          obtain ⟨p, rfl, hp, rfl, rfl⟩ := hrel
          by_cases hpm : p < m
          · obtain ⟨x, hx⟩ : ∃ x, xs[p]? = some x := ⟨xs[p]'(by rw [← HN.out]; exact hpm), List.getElem?_eq_getElem _⟩
            obtain ⟨hok, b, o, rfl, hc⟩ := HT.out p x hx
            have c0 := pres_below (Two.be HB8.out.2) _ _ hc
            have e1 : decide (k0 ∈ xs.take (p + 1)) = (decide (k0 ∈ xs.take p) || (x.toList == k0.toList)) := by
              rw [txt_eq, List.take_add_one, hx]
              have g0 : (k0 = x) = (x = k0) := propext ⟨Eq.symm, Eq.symm⟩
              by_cases g1 : k0 ∈ xs.take p <;> by_cases g2 : x = k0 <;> simp [g0, g1, g2]
            have t2 : decide ((p : Int) < (m : Int)) = true := by simp; omega
            clear hx hok hc
            generalize decide (k0 ∈ xs.take p) = bp at *
            cases bp with
            | true =>
              go_wp2_with fail
              exact ⟨⟨p + 1, by simp, by omega, by rw [e1]; rfl, trivial⟩, by simp [intOf]; omega⟩
            | false =>
              go_wp2_with fail
              exact ⟨⟨p + 1, by simp, by omega, by rw [e1]; rfl, trivial⟩, by simp [intOf]; omega⟩
          · have t2 : decide ((p : Int) < (m : Int)) = false := by simp; omega
            have hpm' : p = m := by omega
            subst hpm'
            have e1 : decide (k0 ∈ xs.take p) = decide (k0 ∈ D) := by rw [HN.out, List.take_length]; simp [HD.out.2.2]
            rw [e1]
            have lA := HB8.out.1.lt
            have y0 := HB8.out.1.cell 0 (v := .string a1) rfl
            have y1 := HB8.out.1.cell 1 (v := .int .i64 a2) rfl
            have y2 := HB8.out.1.cell 2 (v := .int .i64 a3) rfl
            have hne := neT a1 a2 a3
            have HG : Hid (Two w wr q1 q2 (D.erase k0) (D.erase k0)) := HB8.out.2
            obtain ⟨v1, v2, v3, v4, v5⟩ := HV.out
            clear HV HB8
            by_cases hk : k0 ∈ D
            all_goals (
              first | rw [if_pos hk] at v1 v3 v4 v5 | rw [if_neg hk] at v1 v3 v4 v5
              first | rw [decide_eq_true hk] at v2 ⊢ | rw [decide_eq_false hk] at v2 ⊢
              replace v1 := v1.symm
              replace v3 := v3.symm
              replace v4 := v4.symm
              replace v5 := v5.symm
              subst v1 v2 v3 v4 v5
              go_wp2_with fail
              clear y0 y1 y2 hne lA
              go_loopw [20] (fun i wr => ∃ r : Nat, i = .int .i64 r ∧ r ≤ p ∧ Hid (Two w wr q1 q2 (D.erase k0) (D.erase k0))) (fun i _ => p - (intOf i).toNat)
              case atStart => exact ⟨0, rfl, Nat.zero_le _, HG⟩
              case round =>
                obtain ⟨r, rfl, hr, HK⟩ := hrel
                clear HG
                by_cases hrp : r < p
                · obtain ⟨x, hx⟩ : ∃ x, xs[r]? = some x := ⟨xs[r]'(by rw [← HN.out]; exact hrp), List.getElem?_eq_getElem _⟩
                  obtain ⟨hok, b, o, rfl, hc⟩ := HT.out r x hx
                  have hxs : x.size ≤ 281474976710656 := by unfold Okt at hok; omega
                  have hxD : x ∈ D := (HD.out.2.2 x).2 (List.mem_of_getElem? hx)
                  have c0 := pres_below (Two.be HK.out) _ _ hc
                  have t3 : decide ((r : Int) < (p : Int)) = true := by simp; omega
                  clear hx hok hc
                  by_cases hxk : x = k0
                  · first | exact absurd (hxk ▸ hxD) hk | (
                    have CG1 : Hid (Calls Try.prog 21 #[.pointer (some ⟨q1, 0, none⟩), .string k0] wr fun e w' => e = .returned (.tuple #[.string ⟨#[]⟩, .bool false]) ∧ Below wr.heap.size wr w') := HK.out.get1_out HD.out.1 hks
                    have CG2 : Hid (∀ V, Below wr.heap.size wr V → Calls Try.prog 22 #[.pointer (some ⟨q2, 0, none⟩), .string k0] V fun e w' => e = .returned (.tuple #[.agg #[.string ⟨#[]⟩, .int .i64 0, .int .i64 0], .bool false]) ∧ Below V.heap.size V w') := fun V hV => (HK.out.below hV).get2_out HD.out.1 hks
                    have tk : (k0.toList == k0.toList) = true := by simp
                    rw [hxk] at c0
                    clear hxD hxs hxk
                    go_wp2_with fail
                    refine CG1.out.mono ?_
                    rintro e w10 ⟨rfl, hb⟩
                    have HB10 : Hid (Below wr.heap.size wr w10) := hb
                    have c1 := pres_below hb _ _ c0
                    clear hb CG1 c0
                    go_wp2_with fail
                    refine (CG2.out _ HB10.out).mono ?_
                    rintro e w11 ⟨rfl, hb⟩
                    have HB11 : Hid (Below wr.heap.size wr (w11.alloc (.cells #[.string ⟨#[]⟩, .int .i64 0, .int .i64 0] 56)) ∧ Blk (w11.alloc (.cells #[.string ⟨#[]⟩, .int .i64 0, .int .i64 0] 56)) w11.heap.size #[.string ⟨#[]⟩, .int .i64 0, .int .i64 0] 56 ∧ (w11.alloc (.cells #[.string ⟨#[]⟩, .int .i64 0, .int .i64 0] 56)).cell? ⟨b, o + r, none⟩ = some (.string k0)) := ⟨bst (bst HB10.out hb) ((Below.refl _ _).alloc (Nat.le_refl _) _), Blk.new w11 _ 56, pres_below ((Below.refl _ _).alloc (Nat.le_refl _) _) _ _ (pres_below hb _ _ c1)⟩
                    clear hb CG2 HB10 c1
                    go_upto_region 31 with fail
                    generalize (w11.alloc _) = w12 at HB11 ⊢
                    generalize w11.heap.size = E at *
                    have lE := HB11.out.2.1.lt
                    have y0 := HB11.out.2.1.cell 0 (v := .string ⟨#[]⟩) rfl
                    have y1 := HB11.out.2.1.cell 1 (v := .int .i64 0) rfl
                    have y2 := HB11.out.2.1.cell 2 (v := .int .i64 0) rfl
                    have c2 := HB11.out.2.2
                    have hne := neT ⟨#[]⟩ 0 0
                    have HF : Hid (Two w w12 q1 q2 (D.erase k0) (D.erase k0)) := HK.out.below HB11.out.1
                    clear HB11 HK
                    go_upto_region 32 with fail
                    go_quiet (fail)
                    rename_i nq
                    have HG2 : Hid (Two w (w12.drewN nq) q1 q2 (D.erase k0) (D.erase k0)) := HF.out.below (below_drewN (Below.refl _ _) _)
                    clear HF
                    go_wp2_with fail
                    exact ⟨⟨r + 1, by simp, by omega, HG2⟩, by simp [intOf]; omega⟩)
                  · have CG1 : Hid (Calls Try.prog 21 #[.pointer (some ⟨q1, 0, none⟩), .string x] wr fun e w' => e = .returned (.tuple #[.string (under ++ x), .bool true]) ∧ Below wr.heap.size wr w') := HK.out.get1_in hxD hxk hxs
                    have CG2 : Hid (∀ V, Below wr.heap.size wr V → Calls Try.prog 22 #[.pointer (some ⟨q2, 0, none⟩), .string x] V fun e w' => e = .returned (.tuple #[.agg #[.string x, .int .i64 (x.size : Int), .int .i64 7], .bool true]) ∧ Below V.heap.size V w') := fun V hV => (HK.out.below hV).get2_in hxD hxk hxs
                    have tk : (x.toList == k0.toList) = false := by rw [txt_eq]; exact decide_eq_false hxk
                    clear hxD hxk
                    go_wp2_with fail
                    refine CG1.out.mono ?_
                    rintro e w10 ⟨rfl, hb⟩
                    have HB10 : Hid (Below wr.heap.size wr w10) := hb
                    have c1 := pres_below hb _ _ c0
                    clear hb CG1 c0
                    go_wp2_with fail
                    refine (CG2.out _ HB10.out).mono ?_
                    rintro e w11 ⟨rfl, hb⟩
                    have HB11 : Hid (Below wr.heap.size wr (w11.alloc (.cells #[.string x, .int .i64 x.size, .int .i64 7] 56)) ∧ Blk (w11.alloc (.cells #[.string x, .int .i64 x.size, .int .i64 7] 56)) w11.heap.size #[.string x, .int .i64 x.size, .int .i64 7] 56 ∧ (w11.alloc (.cells #[.string x, .int .i64 x.size, .int .i64 7] 56)).cell? ⟨b, o + r, none⟩ = some (.string x)) := ⟨bst (bst HB10.out hb) ((Below.refl _ _).alloc (Nat.le_refl _) _), Blk.new w11 _ 56, pres_below ((Below.refl _ _).alloc (Nat.le_refl _) _) _ _ (pres_below hb _ _ c1)⟩
                    clear hb CG2 HB10 c1
                    go_upto_region 31 with fail
                    generalize (w11.alloc _) = w12 at HB11 ⊢
                    generalize w11.heap.size = E at *
                    have lE := HB11.out.2.1.lt
                    have y0 := HB11.out.2.1.cell 0 (v := .string x) rfl
                    have y1 := HB11.out.2.1.cell 1 (v := .int .i64 x.size) rfl
                    have y2 := HB11.out.2.1.cell 2 (v := .int .i64 7) rfl
                    have c2 := HB11.out.2.2
                    have hne := neT x x.size 7
                    have HF : Hid (Two w w12 q1 q2 (D.erase k0) (D.erase k0)) := HK.out.below HB11.out.1
                    clear HB11 HK
                    go_upto_region 32 with fail
                    go_quiet (fail)
                    rename_i nq
                    have HG2 : Hid (Two w (w12.drewN nq) q1 q2 (D.erase k0) (D.erase k0)) := HF.out.below (below_drewN (Below.refl _ _) _)
                    clear HF
                    go_wp2_with fail
                    exact ⟨⟨r + 1, by simp, by omega, HG2⟩, by simp [intOf]; omega⟩
                · have t3 : decide ((r : Int) < (p : Int)) = false := by simp; omega
                  have HE : Hid ((D.erase k0).Nodup ∧ ∀ x ∈ D.erase k0, x.size ≤ 281474976710656) := ⟨HD.out.1.erase _, fun x hx => by
                    have h1 := (HD.out.2.2 x).1 (List.mem_of_mem_erase hx)
                    obtain ⟨i, hi⟩ := List.mem_iff_getElem?.1 h1
                    have h2 := (HT.out i x hi).1
                    unfold Okt at h2; omega⟩
                  generalize D.erase k0 = E at *
                  have C24 : Hid (Calls Try.prog 24 #[.pointer (some ⟨q1, 0, none⟩)] wr fun e w' => e = .returned (.func (.func 55) #[] #[.pointer (some ⟨wr.heap.size, 0, none⟩)]) ∧ Hid (Blk w' wr.heap.size #[.pointer (some ⟨q1, 0, none⟩)] 48 ∧ Below wr.heap.size wr w')) := allS_any _ wr
                  have hle : (E.length : Int) = E.length := rfl
                  clear hle t3 t1 t2 e1 HT HD
                  go_wp2_with fail
                  refine C24.out.mono ?_
                  rintro e w10 ⟨rfl, H10⟩
                  have C25 : Hid (∀ V, Below w10.heap.size w10 V → Calls Try.prog 25 #[.pointer (some ⟨q1, 0, none⟩)] V fun e w' => e = .returned (.int .i64 E.length) ∧ w' = V) := fun V hV => ((HK.out.below H10.out.2).below hV).len1
                  have C23 : Hid (Calls Try.prog 23 #[.func (.func 55) #[] #[.pointer (some ⟨wr.heap.size, 0, none⟩)], .int .i64 E.length] w10 fun e w' => e = .returned (.bool true) ∧ Below w10.heap.size w10 w') := HK.out.rises HE.out.1 HE.out.2 w10 H10.out.2 _ H10.out.1
                  have C26 : Hid (∀ V, Below w10.heap.size w10 V → Calls Try.prog 26 #[.pointer (some ⟨q2, 0, none⟩)] V fun e w' => e = .returned (.int .i64 E.length) ∧ w' = V) := fun V hV => ((HK.out.below H10.out.2).below hV).len2
                  have HF : Hid (Below w.heap.size w w10) := bst HK.out.be H10.out.2
                  clear C24 H10 HK HE
                  generalize E.length = m at *
                  go_wp2_with fail
                  refine (C25.out _ (Below.refl _ _)).mono ?_
                  rintro e w11 ⟨rfl, rfl⟩
                  go_wp2_with fail
                  refine C23.out.mono ?_
                  rintro e w12 ⟨rfl, hb⟩
                  have HB : Hid (Below w11.heap.size w11 w12) := hb
                  clear hb C23
                  go_wp2_with fail
                  refine (C25.out _ HB.out).mono ?_
                  rintro e w13 ⟨rfl, rfl⟩
                  go_wp2_with fail
                  refine (C26.out _ HB.out).mono ?_
                  rintro e w14 ⟨rfl, rfl⟩
                  go_wp2_with fail
                  go_ret
                  exact ⟨by simp, bst HF.out HB.out⟩)
