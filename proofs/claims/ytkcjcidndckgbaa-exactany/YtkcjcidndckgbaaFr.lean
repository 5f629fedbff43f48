/- Package exact: a place is made free. -/
import Derived.Test.YtkcjcidndckgbaaLa
namespace Go.Proofs.Ytkcjcidndckgbaa
open Go.RowKit
set_option linter.unusedVariables false
set_option linter.unusedSimpArgs false

set_option maxHeartbeats 2000000 in
set_option maxRecDepth 100000 in
theorem freeI_any (b cap : Nat) (r : List (Pl Int)) (a0 : Nat) (x0 : ByteArray × Int) (w : World) (hr : RowOf 89 4 encI w b r) (hR : Rw spr r) (hL : r.length ≤ 16384) {f : Nat} (hf : r[f]? = some none) (ha : r[a0]? = some (some x0)) :
    Calls Try.prog 60 #[.slice (some ⟨b, 0, none⟩) r.length cap, .int .i64 a0] w fun e w' => e = .returned (.tuple #[]) ∧ Kept (fun z => z = b) w w' ∧ ∃ r', RowOf 89 4 encI w' b r' ∧ Rw spr r' ∧ r'.length = r.length ∧ (cont r').Perm (cont (r.set a0 none)) := by
  have hb := hr.lt
  have hal := (List.getElem?_eq_some_iff.1 ha).1
  have hlf := (List.getElem?_eq_some_iff.1 hf).1
  have HG : Hid (Gap spr r a0 (nx r.length a0) f (cont (r.set a0 none))) := Gap.start hR ha hf
  have HR : Hid (RowOf 89 4 encI w b r) := hr
  have h2 := hR.pos
  obtain ⟨n, hnn⟩ : ∃ n, n = r.length := ⟨_, rfl⟩
  have HN : Hid (n = r.length) := hnn
  have CB : Hid (∀ (i : Nat), i < n → ∀ w, Calls Try.prog 83 #[.slice (some ⟨b, 0, none⟩) n cap, .int .i64 i] w fun e w' => e = .returned (.int .i64 (nx n i)) ∧ w' = w) := fun i hi w => behindI_any _ _ _ _ hi (by omega) w
  have CW : Hid (∀ (i j : Nat), i < n → j < n → ∀ w, Calls Try.prog 84 #[.slice (some ⟨b, 0, none⟩) n cap, .int .i64 i, .int .i64 j] w fun e w' => e = .returned (.int .i64 (dist n i j)) ∧ w' = w) := fun i j hi hj w => wayI_any _ _ _ _ _ hi hj (by omega) w
  have CH : Hid (∀ (k : ByteArray), ∀ w, Calls Try.prog 85 #[.slice (some ⟨b, 0, none⟩) n cap, .int .u32 (spr k)] w fun e w' => e = .returned (.int .i64 (home spr n k)) ∧ w' = w) := fun k w => homeI_any _ _ _ _ (by omega) (by omega) (spr_lt k) w
  rw [← hnn] at hL hal hlf h2 ⊢
  rw [← hnn] at HG
  generalize hD : cont (r.set a0 none) = D at *
  clear hr hR hf ha hnn hD
  go_enter Try.func60, Try.ntmps60
  go_wp2_with fail
  refine (CB.out _ hal w).mono ?_
  rintro e w1 ⟨rfl, rfl⟩
  go_wp2_with fail
  go_loopw [1, 4] (fun x y wr => ∃ (a m : Nat) (r1 : List (Pl Int)), x = .int .i64 a ∧ y = .int .i64 m ∧ a < n ∧ m < n ∧ Hid (n = r1.length) ∧ Hid (Gap spr r1 a m f D) ∧ Hid (RowOf 89 4 encI wr b r1) ∧ Hid (Kept (fun z => z = b) w1 wr)) (fun _ y _ => dist n (intOf y).toNat f)
  case atStart => exact ⟨a0, nx n a0, r, rfl, rfl, hal, nx_lt hal, HN, HG, HR, Kept.refl _ _⟩
  case round =>
    clear HG HR HN
    obtain ⟨a, m, r1, rfl, rfl, hal, hml, HN, HG, HR, HK⟩ := hrel
    obtain ⟨x, hx⟩ : ∃ x, r1[m]? = some x := ⟨r1[m]'(by rw [← HN.out]; exact hml), List.getElem?_eq_getElem _⟩
    have HX : Hid (r1[m]? = some x) := hx
    clear hx
    have RW := HR
    have hz := isz89
    have hza : Hid ((Try.prog.info? 89).map (·.size) = some 4) := hz
    clear hz
    have ST : Hid (wr.there b (a * 4) 4) := HR.out.there (by rw [← HN.out]; exact hal)
    cases x with
    | none =>
      have c0 := HR.out.cell0 HX.out (v := .bool false) rfl
      have ON : Hid ((encI none).toArray.all (·.oneCell') = true) := encI_one none
      go_wp2_with (refine wpList_store_mid rfl 89 _ _ rfl b (a * 4) (encI none).toArray rfl rfl ST.out hza.out ON.out ?_)
      go_end0
      refine ⟨rfl, HK.out.trans (setCells_kept _ _ _ _), r1.set a none, HR.out.set a none (by rw [← HN.out]; exact hal) encI_len, HG.out.done HX.out, by rw [List.length_set, HN.out], HG.out.cont⟩
    | some y =>
      obtain ⟨k', v⟩ := y
      have c0 := HR.out.cell0 HX.out (v := .bool true) rfl
      have c1 := HR.out.cell HX.out 1 (v := .int .u32 (spr k')) rfl
      have ON : Hid ((encI (some (k', v))).toArray.all (·.oneCell') = true) := encI_one _
      have R1 : Hid (wr.rangeAt b (m * 4) (encI (some (k', v)))) := HR.out.range HX.out
      have hza2 : Hid ((Try.prog.info? 89).map (·.size) = some (encI (some (k', v))).length) := hza
      have hhl : home spr n k' < n := home_lt spr (by omega) k'
      have hlt : dist n (nx n m) f < dist n m f := by have := HG.out.less HX.out; rwa [← HN.out] at this
      have hnl := nx_lt hml
      have HS : Hid (¬ dist n a m ≤ dist n (home spr n k') m → Gap spr r1 a (nx n m) f D) := fun h => by
        have e : n = r1.length := HN.out
        rw [e] at h ⊢; exact HG.out.stay HX.out h
      have HM : Hid (dist n a m ≤ dist n (home spr n k') m → Gap spr (r1.set a (some (k', v))) m (nx n m) f D) := fun h => by
        have e : n = r1.length := HN.out
        rw [e] at h ⊢; exact HG.out.move HX.out h
      have CH1 := CH.out k' wr
      have CW1 := CW.out (home spr n k') m hhl hml wr
      have CW2 := CW.out a m hal hml wr
      have CB1 : Hid (∀ w, Calls Try.prog 83 #[.slice (some ⟨b, 0, none⟩) n cap, .int .i64 m] w fun e w' => e = .returned (.int .i64 (nx n m)) ∧ w' = w) := CB.out m hml
      have HC1 : Hid (Calls Try.prog 85 #[.slice (some ⟨b, 0, none⟩) n cap, .int .u32 (spr k')] wr fun e w' => e = .returned (.int .i64 (home spr n k')) ∧ w' = wr) := CH1
      have HW1 : Hid (Calls Try.prog 84 #[.slice (some ⟨b, 0, none⟩) n cap, .int .i64 (home spr n k'), .int .i64 m] wr fun e w' => e = .returned (.int .i64 (dist n (home spr n k') m)) ∧ w' = wr) := CW1
      have HW2 : Hid (Calls Try.prog 84 #[.slice (some ⟨b, 0, none⟩) n cap, .int .i64 a, .int .i64 m] wr fun e w' => e = .returned (.int .i64 (dist n a m)) ∧ w' = wr) := CW2
      clear CH1 CW1 CW2
      generalize dist n (home spr n k') m = d1 at *
      generalize home spr n k' = hm at *
      generalize dist n a m = d2 at *
      generalize nx n m = m2 at *
      generalize spr k' = h' at *
      by_cases hd : d2 ≤ d1
      · have HG2 := HM.out hd
        have HG2 : Hid (Gap spr (r1.set a (some (k', v))) m m2 f D) := HG2
        have HR2 : Hid (RowOf 89 4 encI (wr.setCells b (a * 4) (encI (some (k', v)))) b (r1.set a (some (k', v)))) := HR.out.set a (some (k', v)) (by rw [← HN.out]; exact hal) encI_len
        have HK2 : Hid (Kept (fun z => z = b) w1 (wr.setCells b (a * 4) (encI (some (k', v))))) := HK.out.trans (setCells_kept _ _ _ _)
        have HN2 : Hid (n = (r1.set a (some (k', v))).length) := by rw [List.length_set]; exact HN
        have ST2 : Hid (wr.there b (a * 4) (encI (some (k', v))).toArray.size) := ST
        have hza3 : Hid ((Try.prog.info? 89).map (·.size) = some (encI (some (k', v))).toArray.size) := hza
        clear HS HM
        go_wp2_with fail
        refine HC1.out.mono ?_
        rintro e w2 ⟨rfl, rfl⟩
        go_wp2_with fail
        refine HW1.out.mono ?_
        rintro e w2 ⟨rfl, rfl⟩
        go_wp2_with fail
        refine HW2.out.mono ?_
        rintro e w2 ⟨rfl, rfl⟩
        go_upto_region 5 with (first | (refine wpList_load_mid rfl 89 _ rfl b (m * 4) rfl (encI (some (k', v))) _ R1.out Try.underlying89 rfl hza2.out ?_) | (refine wpList_store_mid rfl 89 _ _ rfl b (a * 4) (encI (some (k', v))).toArray rfl rfl ST2.out hza3.out ON.out ?_))
        go_wp2_with fail
        refine (CB1.out _).mono ?_
        rintro e w2 ⟨rfl, rfl⟩
        go_wp2_with fail
        exact ⟨⟨m, m2, _, rfl, rfl, hml, hnl, HN2, HG2, HR2, HK2⟩, by simpa [intOf] using hlt⟩
      · have HG2 : Hid (Gap spr r1 a m2 f D) := HS.out hd
        clear HS HM
        go_wp2_with fail
        refine HC1.out.mono ?_
        rintro e w2 ⟨rfl, rfl⟩
        go_wp2_with fail
        refine HW1.out.mono ?_
        rintro e w2 ⟨rfl, rfl⟩
        go_wp2_with fail
        refine HW2.out.mono ?_
        rintro e w2 ⟨rfl, rfl⟩
        go_wp2_with fail
        refine (CB1.out _).mono ?_
        rintro e w2 ⟨rfl, rfl⟩
        go_wp2_with fail
        exact ⟨⟨a, m2, r1, rfl, rfl, hal, hnl, HN, HG2, HR, HK⟩, by simpa [intOf] using hlt⟩
end Go.Proofs.Ytkcjcidndckgbaa
