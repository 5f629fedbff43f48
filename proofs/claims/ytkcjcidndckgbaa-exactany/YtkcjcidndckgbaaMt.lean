/- Package exact: Drop. -/
import Derived.Test.YtkcjcidndckgbaaMq
namespace Go.Proofs.Ytkcjcidndckgbaa
open Go.RowKit
set_option linter.unusedVariables false
set_option linter.unusedSimpArgs false

set_option maxHeartbeats 1000000 in
theorem dropI_none (q b most cap : Nat) (r : List (Pl Int)) (k : ByteArray) (hk : k.size ≤ 9223372036854775807) (w : World) (h : MapAt w q b most r cap) (hn : ∀ x ∈ cont r, x.1 ≠ k) :
    Calls Try.prog 29 #[.pointer (some ⟨q, 0, none⟩), .string k] w fun e w' => e = .returned (.tuple #[.int .i64 0, .bool false]) ∧ Below w.heap.size w w' := by
  have C : Hid (Calls Try.prog 57 #[.pointer (some ⟨q, 0, none⟩), .string k] w fun e w' => e = .returned (.tuple #[.int .i64 ((fnd r k).1 : Nat), .bool (fnd r k).2]) ∧ Below w.heap.size w w') := mfindI_any q b most cap r k hk w h
  rw [((h.found k).nope hn).1] at C
  clear h hn hk
  generalize (fnd r k).1 = a at *
  go_enter Try.func29, Try.ntmps29
  go_wp2_with fail
  refine C.out.mono ?_
  rintro e w1 ⟨rfl, hb⟩
  have HB : Hid (Below w.heap.size w w1) := hb
  clear hb C
  go_wp2
  go_ret2
  exact ⟨rfl, HB.out⟩
set_option maxHeartbeats 2000000 in
theorem dropI_some (q b most cap : Nat) (r : List (Pl Int)) (k : ByteArray) (v : Int) (hk : k.size ≤ 9223372036854775807) (w : World) (h : MapAt w q b most r cap) (hm : (k, v) ∈ cont r) :
    Calls Try.prog 29 #[.pointer (some ⟨q, 0, none⟩), .string k] w fun e w' => e = .returned (.tuple #[.int .i64 v, .bool true]) ∧ ∃ r2, MapAt w' q b most r2 cap ∧ (cont r).Perm ((k, v) :: cont r2) ∧ Kept (fun z => z = q ∨ z = b) w w' := by
  have C : Hid (Calls Try.prog 57 #[.pointer (some ⟨q, 0, none⟩), .string k] w fun e w' => e = .returned (.tuple #[.int .i64 ((fnd r k).1 : Nat), .bool (fnd r k).2]) ∧ Below w.heap.size w w') := mfindI_any q b most cap r k hk w h
  obtain ⟨e1, e2⟩ := (h.found k).some h.rw hm
  rw [e1] at C
  have HE : Hid (r[(fnd r k).1]? = some (some (k, v))) := e2
  have HM : Hid (MapAt w q b most r cap) := h
  have hal : (fnd r k).1 < r.length := (List.getElem?_eq_some_iff.1 e2).1
  have hL := h.big.2
  have hne := h.ne
  have hpos : 0 < (cont r).length := List.length_pos_of_mem hm
  have hmost := h.most
  obtain ⟨f, hf⟩ := h.free
  have HF : Hid (r[f]? = some none) := hf
  clear h hm hk e1 e2 hf
  generalize (fnd r k).1 = a at *
  obtain ⟨n, hn⟩ : ∃ n, n = r.length := ⟨_, rfl⟩
  have HN : Hid (n = r.length) := hn
  obtain ⟨c, hc⟩ : ∃ c, c = (cont r).length := ⟨_, rfl⟩
  have HC : Hid (c = (cont r).length) := hc
  rw [← hn] at hal hL
  rw [← hc] at hpos hmost
  clear hn hc
  go_enter Try.func29, Try.ntmps29
  go_wp2_with fail
  refine C.out.mono ?_
  rintro e w1 ⟨rfl, hb⟩
  have HB : Hid (Below w.heap.size w w1) := hb
  have HM1 : Hid (MapAt w1 q b most r cap) := HM.out.below hb
  have c2 : w1.cell? ⟨q, 2, none⟩ = some (.slice (some ⟨b, 0, none⟩) n cap) := by rw [HN.out]; exact HM1.out.hd.cell 2 rfl
  have c3 := HM1.out.row.cell HE.out 3 (v := .int .i64 v) rfl
  have CF : Hid (∀ W, Below w1.heap.size w1 W → Calls Try.prog 60 #[.slice (some ⟨b, 0, none⟩) n cap, .int .i64 a] W fun e w' => e = .returned (.tuple #[]) ∧ Kept (fun z => z = b) W w' ∧ ∃ r', RowOf 89 4 encI w' b r' ∧ Rw spr r' ∧ r'.length = n ∧ (cont r').Perm (cont (r.set a none))) := fun W hW => by
    rw [HN.out]
    exact freeI_any b cap r a (k, v) W (HM1.out.row.below hW) HM1.out.rw HM1.out.big.2 HF.out HE.out
  clear hb C
  go_upto_region 7 with (go_at_call 60; refine (CF.out _ (by exact ⟨rfl, rfl, rfl, Nat.le_refl _, fun _ _ => rfl⟩)).mono ?_; rintro e w4 ⟨rfl, hk4, r4, h4a, h4b, h4c, h4d⟩)
  have HX4 : Hid (Blk w4 q #[.int .i64 most, .int .i64 c, .slice (some ⟨b, 0, none⟩) n cap] 77) := by
    have h := HM1.out.hd.kept hk4 (fun e => hne e)
    rw [← HC.out, ← HN.out] at h; exact h
  have H4 : Hid (Kept (fun z => z = b) w1 w4 ∧ RowOf 89 4 encI w4 b r4 ∧ Rw spr r4 ∧ r4.length = n ∧ (cont r4).Perm (cont (r.set a none))) := ⟨hk4, h4a, h4b, h4c, h4d⟩
  clear hk4 h4a h4b h4c h4d CF c2 c3
  have d1 := HX4.out.cell 1 (v := .int .i64 c) rfl
  have f1 := HX4.out.frozen 1
  have e1 : IntKind.i64.wrap ((c : Int) - 1) = (c : Int) - 1 := by rw [IntKind.wrap_i64]; omega
  have HFIN : Hid (∃ r2, MapAt (w4.setCell ⟨q, 1, none⟩ (.int .i64 ((c : Int) - 1))) q b most r2 cap ∧ (cont r).Perm ((k, v) :: cont r2) ∧ Kept (fun z => z = q ∨ z = b) w (w4.setCell ⟨q, 1, none⟩ (.int .i64 ((c : Int) - 1)))) := by
    obtain ⟨g1, g2, g3, g4, g5⟩ := H4.out
    have ks : Kept (fun z => z = q) w4 (w4.setCell ⟨q, 1, none⟩ (.int .i64 ((c : Int) - 1))) := (Kept.refl (fun z => z = q) w4).set (p := ⟨q, 1, none⟩) rfl _
    have hp : (cont r).Perm ((k, v) :: cont r4) := (cont_take HE.out).trans (g5.symm.cons _)
    have hl : (cont r4).length + 1 = c := by have := hp.length_eq; rw [List.length_cons] at this; rw [HC.out]; omega
    have hb1 := HM.out.big
    have hh := HM.out.half
    have e2 := HN.out
    have e3 := HC.out
    refine ⟨r4, ⟨?_, g2.kept ks (fun e => hne e.symm), g3, by omega, by omega, by omega, hne⟩, hp, ((Kept.of_below HB.out).trans (g1.mono fun _ _ e => .inr e)).trans (ks.mono fun _ _ e => .inl e)⟩
    rw [g4, show ((cont r4).length : Int) = (c : Int) - 1 by omega]
    exact HX4.out.set 1 _
  clear HX4 H4 HM1 HM HB HC HN HE HF
  go_wp2_with fail
  go_ret2
  exact ⟨rfl, HFIN.out⟩
set_option maxHeartbeats 1000000 in
theorem setI_none (q b most cap : Nat) (r : List (Pl Int)) (k : ByteArray) (v : Int) (hk : k.size ≤ 9223372036854775807) (w : World) (h : MapAt w q b most r cap) (hn : ∀ x ∈ cont r, x.1 ≠ k) :
    Calls Try.prog 28 #[.pointer (some ⟨q, 0, none⟩), .string k, .int .i64 v] w fun e w' => e = .returned (.int .i64 122) ∧ Below w.heap.size w w' := by
  have C : Hid (Calls Try.prog 57 #[.pointer (some ⟨q, 0, none⟩), .string k] w fun e w' => e = .returned (.tuple #[.int .i64 ((fnd r k).1 : Nat), .bool (fnd r k).2]) ∧ Below w.heap.size w w') := mfindI_any q b most cap r k hk w h
  rw [((h.found k).nope hn).1] at C
  clear h hn hk
  generalize (fnd r k).1 = a at *
  go_enter Try.func28, Try.ntmps28
  go_wp2_with fail
  refine C.out.mono ?_
  rintro e w1 ⟨rfl, hb⟩
  have HB : Hid (Below w.heap.size w w1) := hb
  clear hb C
  go_wp2
  go_ret
  exact ⟨rfl, HB.out⟩
theorem RowOf.set3 {w : World} {b : Nat} {xs : List (Pl Int)} (h : RowOf 89 4 encI w b xs) {i : Nat} {k : ByteArray} {u : Int} (v : Int) (hi : xs[i]? = some (some (k, u))) : RowOf 89 4 encI (w.setCell ⟨b, i * 4 + 3, none⟩ (.int .i64 v)) b (xs.set i (some (k, v))) := by
  have hl := (List.getElem?_eq_some_iff.1 hi).1
  obtain ⟨cs, h1, h2, h3⟩ := h.ex
  have hlt : i * 4 + 3 < cs.size := by omega
  refine ⟨_, h1.set (i * 4 + 3) _, by simpa using h2, fun j y hy n u' hv => ?_⟩
  by_cases e : i = j
  · subst e
    rw [List.getElem?_set_self hl] at hy
    injection hy with hy; subst hy
    have hn : n < 4 := Nat.lt_of_lt_of_eq (List.getElem?_eq_some_iff.1 hv).1 (encI_len _)
    by_cases e2 : n = 3
    · subst e2
      rw [Array.getElem?_setIfInBounds_self_of_lt hlt]
      simpa [encI] using hv
    · rw [Array.getElem?_setIfInBounds_ne (by omega)]
      refine h3 i _ hi n u' ?_
      have : n = 0 ∨ n = 1 ∨ n = 2 := by omega
      rcases this with rfl | rfl | rfl <;> simpa [encI] using hv
  · rw [List.getElem?_set_ne e] at hy
    have hn : n < 4 := Nat.lt_of_lt_of_eq (List.getElem?_eq_some_iff.1 hv).1 (encI_len _)
    rw [Array.getElem?_setIfInBounds_ne (by omega)]
    exact h3 j y hy n u' hv
set_option maxHeartbeats 2000000 in
theorem setI_some (q b most cap : Nat) (r : List (Pl Int)) (k : ByteArray) (u v : Int) (hk : k.size ≤ 9223372036854775807) (w : World) (h : MapAt w q b most r cap) (hm : (k, u) ∈ cont r) :
    Calls Try.prog 28 #[.pointer (some ⟨q, 0, none⟩), .string k, .int .i64 v] w fun e w' => e = .returned (.int .i64 0) ∧ ∃ r2 D, MapAt w' q b most r2 cap ∧ (cont r).Perm ((k, u) :: D) ∧ (cont r2).Perm ((k, v) :: D) ∧ Kept (fun z => z = q ∨ z = b) w w' := by
  have C : Hid (Calls Try.prog 57 #[.pointer (some ⟨q, 0, none⟩), .string k] w fun e w' => e = .returned (.tuple #[.int .i64 ((fnd r k).1 : Nat), .bool (fnd r k).2]) ∧ Below w.heap.size w w') := mfindI_any q b most cap r k hk w h
  obtain ⟨e1, e2⟩ := (h.found k).some h.rw hm
  rw [e1] at C
  have HE : Hid (r[(fnd r k).1]? = some (some (k, u))) := e2
  have HM : Hid (MapAt w q b most r cap) := h
  have hal : (fnd r k).1 < r.length := (List.getElem?_eq_some_iff.1 e2).1
  have hL := h.big.2
  have hne := h.ne
  clear h hm hk e1 e2
  generalize (fnd r k).1 = a at *
  obtain ⟨n, hn⟩ : ∃ n, n = r.length := ⟨_, rfl⟩
  have HN : Hid (n = r.length) := hn
  rw [← hn] at hal hL
  clear hn
  go_enter Try.func28, Try.ntmps28
  go_wp2_with fail
  refine C.out.mono ?_
  rintro e w1 ⟨rfl, hb⟩
  have HB : Hid (Below w.heap.size w w1) := hb
  have HM1 : Hid (MapAt w1 q b most r cap) := HM.out.below hb
  have c2 : w1.cell? ⟨q, 2, none⟩ = some (.slice (some ⟨b, 0, none⟩) n cap) := by rw [HN.out]; exact HM1.out.hd.cell 2 rfl
  have c3 := HM1.out.row.cell HE.out 3 (v := .int .i64 u) rfl
  have f3 := HM1.out.row.frozen (a * 4 + 3)
  have HFIN : Hid (∃ r2 D, MapAt (w1.setCell ⟨b, a * 4 + 3, none⟩ (.int .i64 v)) q b most r2 cap ∧ (cont r).Perm ((k, u) :: D) ∧ (cont r2).Perm ((k, v) :: D) ∧ Kept (fun z => z = q ∨ z = b) w (w1.setCell ⟨b, a * 4 + 3, none⟩ (.int .i64 v))) := by
    have ks : Kept (fun z => z = b) w1 (w1.setCell ⟨b, a * 4 + 3, none⟩ (.int .i64 v)) := (Kept.refl (fun z => z = b) w1).set (p := ⟨b, a * 4 + 3, none⟩) rfl _
    have hal' : a < r.length := by rw [← HN.out]; exact hal
    have p1 := cont_take HE.out
    have p2 := cont_set r a (k, v) hal'
    have hl : (cont (r.set a (some (k, v)))).length = (cont r).length := by rw [p1.length_eq, p2.length_eq]; rfl
    have hb1 := HM.out.big
    have hh := HM.out.half
    have hmost := HM.out.most
    refine ⟨r.set a (some (k, v)), cont (r.set a none), ⟨?_, HM1.out.row.set3 v HE.out, HM1.out.rw.put HE.out rfl, by rw [List.length_set]; exact hb1, by rw [List.length_set, hl]; exact hh, by rw [hl]; exact hmost, hne⟩, p1, p2, (Kept.of_below HB.out).trans (ks.mono fun _ _ e => .inr e)⟩
    rw [hl, List.length_set]
    exact HM1.out.hd.kept ks (fun e => hne e)
  clear hb C HM1 HM HB HN HE
  go_wp2
  go_ret
  exact ⟨rfl, HFIN.out⟩
end Go.Proofs.Ytkcjcidndckgbaa
