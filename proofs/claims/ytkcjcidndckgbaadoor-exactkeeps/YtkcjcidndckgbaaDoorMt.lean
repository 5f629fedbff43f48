/- Package exact: Drop. -/
import Derived.Test.YtkcjcidndckgbaaDoorMq
namespace Go.Proofs.YtkcjcidndckgbaaDoor
open Go.RowKit
set_option linter.unusedVariables false
set_option linter.unusedSimpArgs false

set_option maxHeartbeats 1000000 in
theorem dropI_none (q b most cap : Nat) (r : List (Pl Int)) (k : ByteArray) (hk : k.size ≤ 9223372036854775807) (w : World) (h : MapAt w q b most r cap) (hn : ∀ x ∈ cont r, x.1 ≠ k) :
    Calls Tryd.prog 8 #[.pointer (some ⟨q, 0, none⟩), .string k] w fun e w' => e = .returned (.tuple #[.int .i64 0, .bool false]) ∧ Below w.heap.size w w' := by
  have C : Hid (Calls Tryd.prog 11 #[.pointer (some ⟨q, 0, none⟩), .string k] w fun e w' => e = .returned (.tuple #[.int .i64 ((fnd r k).1 : Nat), .bool (fnd r k).2]) ∧ Below w.heap.size w w') := mfindI_any q b most cap r k hk w h
  rw [((h.found k).nope hn).1] at C
  clear h hn hk
  generalize (fnd r k).1 = a at *
  go_enter Tryd.func8, Tryd.ntmps8
  go_wp2_with fail
  refine C.out.mono ?_
  rintro e w1 ⟨rfl, hb⟩
  have HB : Hid (Below w.heap.size w w1) := hb
  clear hb C
  go_wp2
  go_ret2
  exact ⟨rfl, HB.out⟩
set_option maxHeartbeats 2000000 in
theorem dropI_some (q b most cap : Nat) (r : List (Pl Int)) (k : ByteArray) (v : Int) (hk : k.size ≤ 9223372036854775807) (w : World) (h : MapAt w q b most r cap) (hm : (k, v) ∈ cont r) :
    Calls Tryd.prog 8 #[.pointer (some ⟨q, 0, none⟩), .string k] w fun e w' => e = .returned (.tuple #[.int .i64 v, .bool true]) ∧ ∃ r2, MapAt w' q b most r2 cap ∧ (cont r).Perm ((k, v) :: cont r2) ∧ Kept (fun z => z = q ∨ z = b) w w' := by
  have C : Hid (Calls Tryd.prog 11 #[.pointer (some ⟨q, 0, none⟩), .string k] w fun e w' => e = .returned (.tuple #[.int .i64 ((fnd r k).1 : Nat), .bool (fnd r k).2]) ∧ Below w.heap.size w w') := mfindI_any q b most cap r k hk w h
  obtain ⟨e1, e2⟩ := (h.found k).some h.rw hm
  rw [e1] at C
  have HE : Hid (r[(fnd r k).1]? = some (some (k, v))) := e2
  have HM : Hid (MapAt w q b most r cap) := h
  have hal : (fnd r k).1 < r.length := (List.getElem?_eq_some_iff.1 e2).1
  have hL := h.big.2
  have hne := h.ne
  have hpos : 0 < (cont r).length := List.length_pos_of_mem hm
  have hmost := h.most
  obtain ⟨f, hf⟩ := h.free
  have HF : Hid (r[f]? = some none) := hf
  clear h hm hk e1 e2 hf
  generalize (fnd r k).1 = a at *
  obtain ⟨n, hn⟩ : ∃ n, n = r.length := ⟨_, rfl⟩
  have HN : Hid (n = r.length) := hn
  obtain ⟨c, hc⟩ : ∃ c, c = (cont r).length := ⟨_, rfl⟩
  have HC : Hid (c = (cont r).length) := hc
  rw [← hn] at hal hL
  rw [← hc] at hpos hmost
  clear hn hc
  go_enter Tryd.func8, Tryd.ntmps8
  go_wp2_with fail
  refine C.out.mono ?_
  rintro e w1 ⟨rfl, hb⟩
  have HB : Hid (Below w.heap.size w w1) := hb
  have HM1 : Hid (MapAt w1 q b most r cap) := HM.out.below hb
  have c2 : w1.cell? ⟨q, 2, none⟩ = some (.slice (some ⟨b, 0, none⟩) n cap) := by rw [HN.out]; exact HM1.out.hd.cell 2 rfl
  have c3 := HM1.out.row.cell HE.out 3 (v := .int .i64 v) rfl
  have CF : Hid (∀ W, Below w1.heap.size w1 W → Calls Tryd.prog 17 #[.slice (some ⟨b, 0, none⟩) n cap, .int .i64 a] W fun e w' => e = .returned (.tuple #[]) ∧ Kept (fun z => z = b) W w' ∧ ∃ r', RowOf 44 4 encI w' b r' ∧ Rw spr r' ∧ r'.length = n ∧ (cont r').Perm (cont (r.set a none))) := fun W hW => by
    rw [HN.out]
    exact freeI_any b cap r a (k, v) W (HM1.out.row.below hW) HM1.out.rw HM1.out.big.2 HF.out HE.out
  clear hb C
  go_upto_region 7 with (go_at_call 17; refine (CF.out _ (by exact ⟨rfl, rfl, rfl, Nat.le_refl _, fun _ _ => rfl⟩)).mono ?_; rintro e w4 ⟨rfl, hk4, r4, h4a, h4b, h4c, h4d⟩)
  have HX4 : Hid (Blk w4 q #[.int .i64 most, .int .i64 c, .slice (some ⟨b, 0, none⟩) n cap] 37) := by
    have h := HM1.out.hd.kept hk4 (fun e => hne e)
    rw [← HC.out, ← HN.out] at h; exact h
  have H4 : Hid (Kept (fun z => z = b) w1 w4 ∧ RowOf 44 4 encI w4 b r4 ∧ Rw spr r4 ∧ r4.length = n ∧ (cont r4).Perm (cont (r.set a none))) := ⟨hk4, h4a, h4b, h4c, h4d⟩
  clear hk4 h4a h4b h4c h4d CF c2 c3
  have d1 := HX4.out.cell 1 (v := .int .i64 c) rfl
  have f1 := HX4.out.frozen 1
  have e1 : IntKind.i64.wrap ((c : Int) - 1) = (c : Int) - 1 := by rw [IntKind.wrap_i64]; omega
  have HFIN : Hid (∃ r2, MapAt (w4.setCell ⟨q, 1, none⟩ (.int .i64 ((c : Int) - 1))) q b most r2 cap ∧ (cont r).Perm ((k, v) :: cont r2) ∧ Kept (fun z => z = q ∨ z = b) w (w4.setCell ⟨q, 1, none⟩ (.int .i64 ((c : Int) - 1)))) := by
    obtain ⟨g1, g2, g3, g4, g5⟩ := H4.out
    have ks : Kept (fun z => z = q) w4 (w4.setCell ⟨q, 1, none⟩ (.int .i64 ((c : Int) - 1))) := (Kept.refl (fun z => z = q) w4).set (p := ⟨q, 1, none⟩) rfl _
    have hp : (cont r).Perm ((k, v) :: cont r4) := (cont_take HE.out).trans (g5.symm.cons _)
    have hl : (cont r4).length + 1 = c := by have := hp.length_eq; rw [List.length_cons] at this; rw [HC.out]; omega
    have hb1 := HM.out.big
    have hh := HM.out.half
    have e2 := HN.out
    have e3 := HC.out
    refine ⟨r4, ⟨?_, g2.kept ks (fun e => hne e.symm), g3, by omega, by omega, by omega, hne⟩, hp, ((Kept.of_below HB.out).trans (g1.mono fun _ _ e => .inr e)).trans (ks.mono fun _ _ e => .inl e)⟩
    rw [g4, show ((cont r4).length : Int) = (c : Int) - 1 by omega]
    exact HX4.out.set 1 _
  clear HX4 H4 HM1 HM HB HC HN HE HF
  go_wp2_with fail
  go_ret2
  exact ⟨rfl, HFIN.out⟩
end Go.Proofs.YtkcjcidndckgbaaDoor
