/- Package exact: where a text is found in a row of places. -/
import Derived.Test.YtkcjcidndckgbaaSp
namespace Go.Proofs.Ytkcjcidndckgbaa
open Go.RowKit
set_option linter.unusedVariables false
set_option linter.unusedSimpArgs false

theorem tne {a b : ByteArray} (h : a ≠ b) : (a.toList == b.toList) = false := by
  simp only [beq_eq_false_iff_ne, ne_eq]
  intro e
  rw [ByteArray.toList_eq, ByteArray.toList_eq] at e
  exact h (by cases a; cases b; simp only [ByteArray.mk.injEq]; exact Array.toList_inj.1 e)
/-- A place's cells. -/
def encI : Pl Int → List Value
  | none => [.bool false, .int .u32 0, .string ⟨#[]⟩, .int .i64 0]
  | some (k, v) => [.bool true, .int .u32 (spr k), .string k, .int .i64 v]
theorem encI_len (x : Pl Int) : (encI x).length = 4 := by cases x <;> rfl
/-- What a search answers. -/
def Found {V : Type} (r : List (Pl V)) (k : ByteArray) (a : Nat) (th : Bool) : Prop := Seek spr r k a ∧ ((th = true ∧ ∃ v, r[a]? = some (some (k, v))) ∨ (th = false ∧ r[a]? = some none))
set_option maxHeartbeats 2000000 in
set_option maxRecDepth 100000 in
theorem findI_any (b cap : Nat) (r : List (Pl Int)) (k : ByteArray) (w : World) (hr : RowOf 89 4 encI w b r) (hR : 2 ≤ r.length) (hL : r.length ≤ 16384) {f : Nat} (hf : r[f]? = some none) :
    Calls Try.prog 82 #[.slice (some ⟨b, 0, none⟩) r.length cap, .int .u32 (spr k), .string k] w fun e w' => ∃ a th, e = .returned (.tuple #[.int .i64 (a : Nat), .bool th]) ∧ w' = w ∧ Hid (Found r k a th) := by
  have hk := spr_lt k
  have C1 : Hid (Calls Try.prog 85 #[.slice (some ⟨b, 0, none⟩) r.length cap, .int .u32 (spr k)] w fun e w' => e = .returned (.int .i64 (home spr r.length k)) ∧ w' = w) := homeI_any _ _ _ _ (by omega) hL hk w
  have HS : Hid (Seek spr r k (home spr r.length k)) := Seek.start spr hR k
  have HR : Hid (RowOf 89 4 encI w b r) := hr
  have HF : Hid (r[f]? = some none) := hf
  obtain ⟨n, hn⟩ : ∃ n, n = r.length := ⟨_, rfl⟩
  have HN : Hid (n = r.length) := hn
  rw [← hn] at C1 hR hL ⊢
  clear hr hf hn hk
  have HA : Hid (home spr n k = home spr r.length k) := congrArg (fun z => home spr z k) HN.out
  obtain ⟨h, hh⟩ : ∃ h, h = spr k := ⟨_, rfl⟩
  have HH : Hid (h = spr k) := hh
  rw [← hh] at C1 ⊢
  clear hh
  generalize home spr n k = a0 at *
  go_enter Try.func82, Try.ntmps82
  go_wp2_with fail
  refine C1.out.mono ?_
  rintro e w1 ⟨rfl, rfl⟩
  clear C1
  go_wp2_with fail
  go_loopw [8] (fun i wr => ∃ a : Nat, i = .int .i64 a ∧ Hid (Seek spr r k a) ∧ wr = w1) (fun i _ => n - dist n a0 (intOf i).toNat)
  case atStart => exact ⟨a0, rfl, by rw [HA.out]; exact HS, rfl⟩
  case round =>
    obtain ⟨a, rfl, HK, rfl⟩ := hrel
    have ha : a < n := by rw [HN.out]; exact HK.out.lt
    obtain ⟨x, hx⟩ : ∃ x, r[a]? = some x := ⟨r[a]'(HK.out.lt), List.getElem?_eq_getElem _⟩
    have HX : Hid (r[a]? = some x) := hx
    clear hx
    cases x with
    | none =>
      have c0 := HR.out.cell0 HX.out (v := .bool false) rfl
      go_wp2_with fail
      go_ret2
      exact ⟨a, false, rfl, rfl, HK.out, .inr ⟨rfl, HX.out⟩⟩
    | some y =>
      obtain ⟨k', v⟩ := y
      have c0 := HR.out.cell0 HX.out (v := .bool true) rfl
      have c1 := HR.out.cell HX.out 1 (v := .int .u32 (spr k')) rfl
      have c2 := HR.out.cell HX.out 2 (v := .string k') rfl
      have CB : Hid (Calls Try.prog 83 #[.slice (some ⟨b, 0, none⟩) n cap, .int .i64 a] wr fun e w' => e = .returned (.int .i64 (nx n a)) ∧ w' = wr) := behindI_any _ _ _ _ ha hL wr
      have hS : k' ≠ k → Hid (Seek spr r k (nx n a)) ∧ n - dist n a0 (nx n a) < n - dist n a0 a := fun hk => by
        have h1 := HK.out.next HX.out hk HF.out
        have e1 : nx n a = nx r.length a := congrArg (fun z => nx z a) HN.out
        have e2 := HA.out
        have h2 := h1.2.1
        have h3 := h1.2.2
        rw [← e2, ← HN.out] at h2 h3
        exact ⟨by rw [e1]; exact h1.1, by omega⟩
      by_cases e2 : k' = k
      · subst e2
        have e1 : Hid (h = spr k') := HH
        rw [← e1.out] at c1
        go_wp2_with fail
        go_ret2
        exact ⟨a, true, rfl, rfl, HK.out, .inl ⟨rfl, v, HX.out⟩⟩
      · obtain ⟨HS2, hd⟩ := hS e2
        have t2 := tne e2
        clear hS
        generalize nx n a = a2 at *
        by_cases e1 : spr k' = h
        · rw [e1] at c1
          go_wp2_with fail
          refine CB.out.mono ?_
          rintro e w2 ⟨rfl, rfl⟩
          go_wp2_with fail
          exact ⟨⟨a2, rfl, HS2, trivial⟩, by simpa [intOf] using hd⟩
        · have t1 : ((spr k' : Int) == (h : Int)) = false := by simp; omega
          generalize spr k' = h' at *
          go_wp2_with fail
          refine CB.out.mono ?_
          rintro e w2 ⟨rfl, rfl⟩
          go_wp2_with fail
          exact ⟨⟨a2, rfl, HS2, trivial⟩, by simpa [intOf] using hd⟩
end Go.Proofs.Ytkcjcidndckgbaa
