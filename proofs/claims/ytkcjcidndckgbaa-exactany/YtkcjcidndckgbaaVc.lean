/- The map of structs: Drop. -/
import Derived.Test.YtkcjcidndckgbaaVb
namespace Go.Proofs.Ytkcjcidndckgbaa
open Go.RowKit Go.Sort
set_option linter.unusedVariables false
set_option linter.unusedSimpArgs false

set_option maxHeartbeats 2000000 in
theorem dropT_some (q b most cap : Nat) (r : List (Pl Th)) (k : ByteArray) (v : Th) (hk : k.size ≤ 9223372036854775807) (w : World) (h : MapAtT w q b most r cap) (hm : (k, v) ∈ cont r) :
    Calls Try.prog 20 #[.pointer (some ⟨q, 0, none⟩), .string k] w fun e w' => e = .returned (.tuple #[.agg #[.string v.1, .int .i64 v.2.1, .int .i64 v.2.2], .bool true]) ∧ ∃ r2, MapAtT w' q b most r2 cap ∧ (cont r).Perm ((k, v) :: cont r2) ∧ Kept (fun z => z = q ∨ z = b) w w' := by
  have C : Hid (∀ W, Below w.heap.size w W → Calls Try.prog 50 #[.pointer (some ⟨q, 0, none⟩), .string k] W fun e w' => e = .returned (.tuple #[.int .i64 ((fnd r k).1 : Nat), .bool (fnd r k).2]) ∧ Below W.heap.size W w') := fun W hb => mfindT_any q b most cap r k hk W (h.below hb)
  obtain ⟨e1, e2⟩ := (h.found k).some h.rw hm
  rw [e1] at C
  have HE : Hid (r[(fnd r k).1]? = some (some (k, v))) := e2
  have HM : Hid (MapAtT w q b most r cap) := h
  have HB0 : Hid (Blk (w.alloc (.cells #[.string ⟨#[]⟩, .int .i64 0, .int .i64 0] 56)) w.heap.size #[.string ⟨#[]⟩, .int .i64 0, .int .i64 0] 56 ∧ Below w.heap.size w (w.alloc (.cells #[.string ⟨#[]⟩, .int .i64 0, .int .i64 0] 56))) := ⟨Blk.new w _ 56, (Below.refl _ _).alloc (Nat.le_refl _) _⟩
  have hqA : w.heap.size ≠ q := fun e => absurd h.hd.lt (by omega)
  have hbA : w.heap.size ≠ b := fun e => absurd h.row.lt (by omega)
  have hal : (fnd r k).1 < r.length := (List.getElem?_eq_some_iff.1 e2).1
  have hL := h.big.2
  have hne := h.ne
  have hpos : 0 < (cont r).length := List.length_pos_of_mem hm
  have hmost := h.most
  obtain ⟨f, hf⟩ := h.free
  have HF : Hid (r[f]? = some none) := hf
  clear h hm hk e1 e2 hf
  generalize (fnd r k).1 = a at *
  obtain ⟨n, hn⟩ : ∃ n, n = r.length := ⟨_, rfl⟩
  have HN : Hid (n = r.length) := hn
  obtain ⟨c, hc⟩ : ∃ c, c = (cont r).length := ⟨_, rfl⟩
  have HC : Hid (c = (cont r).length) := hc
  rw [← hn] at hal hL
  rw [← hc] at hpos hmost
  clear hn hc
  go_enter Try.func20, Try.ntmps20
  go_upto_region 1 with fail
  generalize (w.alloc _) = W0 at HB0 ⊢
  go_wp2_with fail
  refine (C.out _ HB0.out.2).mono ?_
  rintro e w1 ⟨rfl, hb0⟩
  have hb : Below w.heap.size w w1 := bst HB0.out.2 hb0
  have HA1 : Hid (Blk w1 w.heap.size #[.string ⟨#[]⟩, .int .i64 0, .int .i64 0] 56 ∧ Below w.heap.size w w1) := ⟨HB0.out.1.below hb0, hb⟩
  have HM1 : Hid (MapAtT w1 q b most r cap) := HM.out.below hb
  have c2 : w1.cell? ⟨q, 2, none⟩ = some (.slice (some ⟨b, 0, none⟩) n cap) := by rw [HN.out]; exact HM1.out.hd.cell 2 rfl
  have c3 := HM1.out.row.cell HE.out 3 (v := .string v.1) rfl
  have c3a := HM1.out.row.cell HE.out 4 (v := .int .i64 v.2.1) rfl
  have c3b := HM1.out.row.cell HE.out 5 (v := .int .i64 v.2.2) rfl
  have HT : Hid (Blk (w1.alloc (.cells #[.string v.1, .int .i64 v.2.1, .int .i64 v.2.2] 56)) w1.heap.size #[.string v.1, .int .i64 v.2.1, .int .i64 v.2.2] 56 ∧ Below w1.heap.size w1 (w1.alloc (.cells #[.string v.1, .int .i64 v.2.1, .int .i64 v.2.2] 56))) :=
    ⟨Blk.new w1 _ 56, (Below.refl _ _).alloc (Nat.le_refl _) _⟩
  clear hb hb0 C HB0
  go_upto_region 6 with fail
  generalize (w1.alloc _) = W2 at HT ⊢
  have HS : Hid (Blk W2 w1.heap.size #[.string v.1, .int .i64 v.2.1, .int .i64 v.2.2] 56 ∧ Blk W2 w.heap.size #[.string ⟨#[]⟩, .int .i64 0, .int .i64 0] 56 ∧ Below w.heap.size w W2 ∧ MapAtT W2 q b most r cap ∧ w.heap.size < w1.heap.size) := ⟨HT.out.1, HA1.out.1.below HT.out.2, bst HA1.out.2 HT.out.2, HM1.out.below HT.out.2, HA1.out.1.lt⟩
  have hqB : w1.heap.size ≠ q := fun e => absurd HM1.out.hd.lt (by omega)
  have hbB : w1.heap.size ≠ b := fun e => absurd HM1.out.row.lt (by omega)
  clear HT HA1 c2 c3 c3a c3b HM1
  generalize w1.heap.size = B9 at *
  have c2 : W2.cell? ⟨q, 2, none⟩ = some (.slice (some ⟨b, 0, none⟩) n cap) := by rw [HN.out]; exact HS.out.2.2.2.1.hd.cell 2 rfl
  have CF : Hid (Calls Try.prog 54 #[.slice (some ⟨b, 0, none⟩) n cap, .int .i64 a] W2 fun e w' => e = .returned (.tuple #[]) ∧ Kept (fun z => z = b) W2 w' ∧ ∃ r', RowOf 110 6 encV w' b r' ∧ Rw spr r' ∧ r'.length = n ∧ (cont r').Perm (cont (r.set a none))) := by
    rw [HN.out]
    exact freeT_any b cap r a (k, v) W2 HS.out.2.2.2.1.row HS.out.2.2.2.1.rw HS.out.2.2.2.1.big.2 HF.out HE.out
  go_upto_region 7 with (go_at_call 54; refine CF.out.mono ?_; rintro e w4 ⟨rfl, hk4, r4, h4a, h4b, h4c, h4d⟩)
  have HX4 : Hid (Blk w4 q #[.int .i64 most, .int .i64 c, .slice (some ⟨b, 0, none⟩) n cap] 101) := by
    have h := HS.out.2.2.2.1.hd.kept hk4 (fun e => hne e)
    rw [← HC.out, ← HN.out] at h; exact h
  have HS4 : Hid (Blk w4 B9 #[.string v.1, .int .i64 v.2.1, .int .i64 v.2.2] 56 ∧ Blk w4 w.heap.size #[.string ⟨#[]⟩, .int .i64 0, .int .i64 0] 56) := ⟨HS.out.1.kept hk4 hbB, HS.out.2.1.kept hk4 hbA⟩
  have H4 : Hid (Kept (fun z => z = b) W2 w4 ∧ RowOf 110 6 encV w4 b r4 ∧ Rw spr r4 ∧ r4.length = n ∧ (cont r4).Perm (cont (r.set a none))) := ⟨hk4, h4a, h4b, h4c, h4d⟩
  clear hk4 h4a h4b h4c h4d CF c2
  have d1 := HX4.out.cell 1 (v := .int .i64 c) rfl
  have f1 := HX4.out.frozen 1
  have e1 : IntKind.i64.wrap ((c : Int) - 1) = (c : Int) - 1 := by rw [IntKind.wrap_i64]; omega
  have HFIN : Hid (∃ r2, MapAtT (w4.setCell ⟨q, 1, none⟩ (.int .i64 ((c : Int) - 1))) q b most r2 cap ∧ (cont r).Perm ((k, v) :: cont r2) ∧ Kept (fun z => z = q ∨ z = b) w (w4.setCell ⟨q, 1, none⟩ (.int .i64 ((c : Int) - 1))) ∧ Blk (w4.setCell ⟨q, 1, none⟩ (.int .i64 ((c : Int) - 1))) B9 #[.string v.1, .int .i64 v.2.1, .int .i64 v.2.2] 56 ∧ Blk (w4.setCell ⟨q, 1, none⟩ (.int .i64 ((c : Int) - 1))) w.heap.size #[.string ⟨#[]⟩, .int .i64 0, .int .i64 0] 56) := by
    obtain ⟨g1, g2, g3, g4, g5⟩ := H4.out
    have ks : Kept (fun z => z = q) w4 (w4.setCell ⟨q, 1, none⟩ (.int .i64 ((c : Int) - 1))) := (Kept.refl (fun z => z = q) w4).set (p := ⟨q, 1, none⟩) rfl _
    have hp : (cont r).Perm ((k, v) :: cont r4) := (cont_take HE.out).trans (g5.symm.cons _)
    have hl : (cont r4).length + 1 = c := by have := hp.length_eq; rw [List.length_cons] at this; rw [HC.out]; omega
    have hb1 := HS.out.2.2.2.1.big
    have hh := HS.out.2.2.2.1.half
    have e2 := HN.out
    have e3 := HC.out
    refine ⟨r4, ⟨?_, g2.kept ks (fun e => hne e.symm), g3, by omega, by omega, by omega, hne⟩, hp, ((Kept.of_below HS.out.2.2.1).trans (g1.mono fun _ _ e => .inr e)).trans (ks.mono fun _ _ e => .inl e), HS4.out.1.kept ks hqB, HS4.out.2.kept ks hqA⟩
    rw [g4, show ((cont r4).length : Int) = (c : Int) - 1 by omega]
    exact HX4.out.set 1 _
  clear HX4 H4 HS HS4 HC HN HE HF
  go_upto_region 8 with fail
  generalize (w4.setCell ⟨q, 1, none⟩ _) = W5 at HFIN ⊢
  have z0 := HFIN.out.choose_spec.2.2.2.1.cell 0 (v := .string v.1) rfl
  have z1 := HFIN.out.choose_spec.2.2.2.1.cell 1 (v := .int .i64 v.2.1) rfl
  have z2 := HFIN.out.choose_spec.2.2.2.1.cell 2 (v := .int .i64 v.2.2) rfl
  have HY : Hid (Blk W5 w.heap.size #[.string ⟨#[]⟩, .int .i64 0, .int .i64 0] 56) := HFIN.out.choose_spec.2.2.2.2
  have y0 := HY.out.cell 0 (v := .string ⟨#[]⟩) rfl
  have y1 := HY.out.cell 1 (v := .int .i64 0) rfl
  have y2 := HY.out.cell 2 (v := .int .i64 0) rfl
  have yf0 := HY.out.frozen 0
  have yf1 := HY.out.frozen 1
  have yf2 := HY.out.frozen 2
  have HG : Hid (Blk (((W5.setCell ⟨w.heap.size, 0, none⟩ (.string v.1)).setCell ⟨w.heap.size, 1, none⟩ (.int .i64 v.2.1)).setCell ⟨w.heap.size, 2, none⟩ (.int .i64 v.2.2)) w.heap.size #[.string v.1, .int .i64 v.2.1, .int .i64 v.2.2] 56 ∧ ∃ r2, MapAtT (((W5.setCell ⟨w.heap.size, 0, none⟩ (.string v.1)).setCell ⟨w.heap.size, 1, none⟩ (.int .i64 v.2.1)).setCell ⟨w.heap.size, 2, none⟩ (.int .i64 v.2.2)) q b most r2 cap ∧ (cont r).Perm ((k, v) :: cont r2) ∧ Kept (fun z => z = q ∨ z = b) w (((W5.setCell ⟨w.heap.size, 0, none⟩ (.string v.1)).setCell ⟨w.heap.size, 1, none⟩ (.int .i64 v.2.1)).setCell ⟨w.heap.size, 2, none⟩ (.int .i64 v.2.2))) := by
    obtain ⟨r2, g1, g2, g3, g4, g5⟩ := HFIN.out
    have ks : Kept (fun z => z = w.heap.size) W5 (((W5.setCell ⟨w.heap.size, 0, none⟩ (.string v.1)).setCell ⟨w.heap.size, 1, none⟩ (.int .i64 v.2.1)).setCell ⟨w.heap.size, 2, none⟩ (.int .i64 v.2.2)) := ((((Kept.refl (fun z => z = w.heap.size) W5).set (p := ⟨w.heap.size, 0, none⟩) rfl _).set (p := ⟨w.heap.size, 1, none⟩) rfl _).set (p := ⟨w.heap.size, 2, none⟩) rfl _)
    refine ⟨((HY.out.set 0 _).set 1 _).set 2 _, r2, g1.kept ks (fun e => hqA e.symm) (fun e => hbA e.symm), g2, ?_⟩
    exact ((g3.mono (T := fun z => (z = q ∨ z = b) ∨ z = w.heap.size) fun _ _ e => .inl e).trans (ks.mono fun _ _ e => .inr e)).mono fun z hz e => e.elim id fun e => absurd hz (by omega)
  clear HFIN HY
  go_wp2
  generalize (((W5.setCell ⟨w.heap.size, 0, none⟩ (.string v.1)).setCell ⟨w.heap.size, 1, none⟩ (.int .i64 v.2.1)).setCell ⟨w.heap.size, 2, none⟩ (.int .i64 v.2.2)) = WG at HG ⊢
  have k0 := HG.out.1.cell 0 (v := .string v.1) rfl
  have k1 := HG.out.1.cell 1 (v := .int .i64 v.2.1) rfl
  have k2 := HG.out.1.cell 2 (v := .int .i64 v.2.2) rfl
  refine bodyPost_ret (v := .tuple #[.agg #[.string v.1, .int .i64 v.2.1, .int .i64 v.2.2], .bool true]) (by simp [results, Try.results20, go_sem, k0, k1, k2]) rfl ⟨rfl, HG.out.2⟩
end Go.Proofs.Ytkcjcidndckgbaa
