/- Package exact: Put, of a text that is not there, where there is room. -/
import Derived.Test.YtkcjcidndckgbaaMr
namespace Go.Proofs.Ytkcjcidndckgbaa
open Go.RowKit
set_option linter.unusedVariables false
set_option linter.unusedSimpArgs false

set_option maxHeartbeats 4000000 in
set_option maxRecDepth 100000 in
theorem putI_ok (q b most cap : Nat) (r : List (Pl Int)) (k : ByteArray) (v : Int) (hk : k.size ≤ 281474976710656) (w : World) (h : MapAt w q b most r cap) (hn : ∀ x ∈ cont r, x.1 ≠ k) (hf : (cont r).length < most) :
    Calls Try.prog 27 #[.pointer (some ⟨q, 0, none⟩), .string k, .int .i64 v] w fun e w' => e = .returned (.int .i64 0) ∧ ∃ b2 cap2 r2, MapAt w' q b2 most r2 cap2 ∧ (cont r2).Perm ((k, v) :: cont r) ∧ Kept (fun z => z = q ∨ z = b) w w' ∧ (b2 = b ∨ w.heap.size ≤ b2) := by
  have C : Hid (Calls Try.prog 57 #[.pointer (some ⟨q, 0, none⟩), .string k] w fun e w' => e = .returned (.tuple #[.int .i64 ((fnd r k).1 : Nat), .bool (fnd r k).2]) ∧ Below w.heap.size w w') := mfindI_any q b most cap r k (by omega) w h
  rw [((h.found k).nope hn).1] at C
  have HM : Hid (MapAt w q b most r cap ∧ (∀ x ∈ cont r, x.1 ≠ k)) := ⟨h, hn⟩
  have hmost := h.most
  have hbig := h.big
  have hhalf := h.half
  have hne := h.ne
  clear h hn
  generalize (fnd r k).1 = a at *
  go_enter Try.func27, Try.ntmps27
  go_wp2_with fail
  refine C.out.mono ?_
  rintro e w1 ⟨rfl, hb⟩
  have HB : Hid (Below w.heap.size w w1) := hb
  have HM1 : Hid (MapAt w1 q b most r cap) := HM.out.1.below hb
  obtain ⟨c, hc⟩ : ∃ c, c = (cont r).length := ⟨_, rfl⟩
  have HC : Hid (c = (cont r).length) := hc
  have c0 := HM1.out.hd.cell 0 (v := .int .i64 most) rfl
  have c1 : w1.cell? ⟨q, 1, none⟩ = some (.int .i64 c) := by rw [hc]; exact HM1.out.hd.cell 1 rfl
  rw [← hc] at hf hmost hhalf
  clear hc hb C
  have t1 : ((c : Int) == (most : Int)) = false := by simp; omega
  go_wp2_with fail
  go_quiet (fail)
  go_upto_region 8 with fail
  have HMD : Hid (∀ j, MapAt (w1.drewN j) q b most r cap ∧ Below w.heap.size w (w1.drewN j)) := fun j => ⟨HM1.out.below ⟨rfl, rfl, rfl, Nat.le_refl _, fun _ _ => rfl⟩, HB.out.trans ⟨rfl, rfl, rfl, Nat.le_refl _, fun _ _ => rfl⟩⟩
  clear c0 c1 HM1 HB
  generalize hW : w1.drewN _ = W
  have HMW : Hid (MapAt W q b most r cap ∧ Below w.heap.size w W) := by rw [← hW]; exact HMD.out _
  clear hW HMD
  have c1 : W.cell? ⟨q, 1, none⟩ = some (.int .i64 c) := by rw [HC.out]; exact HMW.out.1.hd.cell 1 rfl
  have f1 := HMW.out.1.hd.frozen 1
  have hx1 : IntKind.i64.wrap ((c : Int) + 1) = (c : Int) + 1 := by rw [IntKind.wrap_i64]; omega
  have HX2 : Hid (Blk (W.setCell ⟨q, 1, none⟩ (.int .i64 ((c : Int) + 1))) q #[.int .i64 most, .int .i64 ((c : Int) + 1), .slice (some ⟨b, 0, none⟩) r.length cap] 77) := HMW.out.1.hd.set 1 _
  have HK2 : Hid (Kept (fun z => z = q) W (W.setCell ⟨q, 1, none⟩ (.int .i64 ((c : Int) + 1)))) := (Kept.refl (fun z => z = q) W).set (p := ⟨q, 1, none⟩) rfl _
  go_upto_region 9 with fail
  generalize W.setCell ⟨q, 1, none⟩ (.int .i64 ((c : Int) + 1)) = W2 at *
  have HR2 : Hid (RowOf 89 4 encI W2 b r ∧ Rw spr r) := ⟨HMW.out.1.row.kept HK2.out (fun e => hne e.symm), HMW.out.1.rw⟩
  clear c1 f1
  have d0 := HX2.out.cell 0 (v := .int .i64 most) rfl
  have d1 := HX2.out.cell 1 (v := .int .i64 ((c : Int) + 1)) rfl
  have d2 := HX2.out.cell 2 (v := .slice (some ⟨b, 0, none⟩) r.length cap) rfl
  have hql := HX2.out.lt
  have CR : Hid (∀ W3, Below W2.heap.size W2 W3 → Calls Try.prog 58 #[.slice (some ⟨b, 0, none⟩) r.length cap, .int .i64 ((c : Int) + 1)] W3 fun e w' => ∃ b' cap' n', e = .returned (.slice (some ⟨b', 0, none⟩) n' cap') ∧ w'.cell? ⟨q, 1, none⟩ = some (.int .i64 ((c : Int) + 1)) ∧ w'.cell? ⟨q, 2, none⟩ = some (.slice (some ⟨b, 0, none⟩) r.length cap) ∧ w'.frozen? ⟨q, 2, none⟩ = false ∧ Hid (Blk w' q #[.int .i64 most, .int .i64 ((c : Int) + 1), .slice (some ⟨b, 0, none⟩) r.length cap] 77 ∧ Below W2.heap.size W2 w' ∧ (b' = b ∨ W2.heap.size ≤ b') ∧ ∃ r', n' = r'.length ∧ RowOf 89 4 encI w' b' r' ∧ Rw spr r' ∧ (8 ≤ r'.length ∧ r'.length ≤ 16384 ∧ 2 * (c + 1) ≤ r'.length) ∧ (cont r').Perm (cont r))) := fun W3 h3 => by
    have e : ((c + 1 : Nat) : Int) = (c : Int) + 1 := by omega
    have h := roomI_any b cap (c + 1) r W3 (HR2.out.1.below h3) HR2.out.2 hbig.2 hbig.1 (by omega) (by omega)
    rw [e] at h
    refine h.mono ?_
    rintro e w' ⟨b', cap', r', rfl, g1, g2, g3, g4, g5, g6⟩
    have hx := (HX2.out.below h3).below g5
    exact ⟨b', cap', r'.length, rfl, hx.cell 1 rfl, hx.cell 2 rfl, hx.frozen 2, hx, h3.trans (g5.mono h3.size), g6.imp id (fun q => Nat.le_trans h3.size q), r', rfl, g1, g2, g3, g4⟩
  go_region_with ((go_at_call 58; refine (CR.out _ (by exact ⟨rfl, rfl, rfl, Nat.le_refl _, fun _ _ => rfl⟩)).mono ?_; rintro e w4 ⟨b2, cap2, n2, rfl, h41, h42, h43, H4⟩))
  all_goals (
    obtain ⟨h4a, h4b, h4c, r4, h4d, h4e, h4f, h4g, h4h⟩ := H4.out
    have HK5 : Hid (Kept (fun z => z = q) w4 (w4.setCell ⟨q, 2, none⟩ (.slice (some ⟨b2, 0, none⟩) n2 cap2))) := (Kept.refl (fun z => z = q) w4).set (p := ⟨q, 2, none⟩) rfl _
    have HX5 : Hid (Blk (w4.setCell ⟨q, 2, none⟩ (.slice (some ⟨b2, 0, none⟩) n2 cap2)) q #[.int .i64 most, .int .i64 ((c : Int) + 1), .slice (some ⟨b2, 0, none⟩) n2 cap2] 77) := h4a.set 2 _
    have hbq : q ≠ b2 := fun e => by rcases h4c with h | h <;> omega
    have HR5 : Hid (RowOf 89 4 encI (w4.setCell ⟨q, 2, none⟩ (.slice (some ⟨b2, 0, none⟩) n2 cap2)) b2 r4 ∧ Rw spr r4) := ⟨h4e.kept HK5.out (fun e => hbq e.symm), h4f⟩
    have HF5 : Hid (Kept (fun z => z = q) W2 (w4.setCell ⟨q, 2, none⟩ (.slice (some ⟨b2, 0, none⟩) n2 cap2))) := (Kept.of_below h4b).trans HK5.out
    have HD5 : Hid ((b2 = b ∨ W2.heap.size ≤ b2) ∧ n2 = r4.length ∧ (8 ≤ r4.length ∧ r4.length ≤ 16384 ∧ 2 * (c + 1) ≤ r4.length) ∧ (cont r4).Perm (cont r)) := ⟨h4c, h4d, h4g, h4h⟩
    clear h4a h4b h4c h4d h4e h4f h4g h4h H4 CR d0 d1 d2 h41 h42 h43
    go_upto_region 10 with fail
    generalize w4.setCell ⟨q, 2, none⟩ (.slice (some ⟨b2, 0, none⟩) n2 cap2) = W5 at *
    have c2 : ∀ z : Grown W5, (gw z).cell? ⟨q, 2, none⟩ = some (.slice (some ⟨b2, 0, none⟩) n2 cap2) := gw_cell (HX5.out.cell 2 rfl)
    have C1 : Hid (∀ w1, Calls Try.prog 49 #[.string k] w1 fun e w' => e = .returned (.int .u32 (spr k)) ∧ w' = w1) := fun w1 => spr_any k (by omega) w1
    have C2 : Hid (∀ w1, Calls Try.prog 44 #[.string k] w1 fun e w' => e = .returned (.string k) ∧ Below w1.heap.size w1 w') := fun w1 => cloneI_any k hk w1
    obtain ⟨f, hfree⟩ : ∃ f : Nat, r4[f]? = some none := free_of r4 (by have h1 := HD5.out.2.2.2.length_eq; have h2 := HC.out; have h3 := HD5.out.2.2.1; omega)
    have CL : Hid (∀ z : Grown W5, Calls Try.prog 59 #[.slice (some ⟨b2, 0, none⟩) n2 cap2, .agg #[.bool true, .int .u32 (spr k), .string k, .int .i64 v]] (gw z) fun e w' => e = .returned (.tuple #[]) ∧ Kept (fun z => z = b2) (gw z) w' ∧ ∃ r', RowOf 89 4 encI w' b2 r' ∧ Rw spr r' ∧ r'.length = r4.length ∧ (cont r').Perm ((k, v) :: cont r4)) := fun z => by
      rw [HD5.out.2.1]
      exact layI_any b2 cap2 r4 k v (gw z) (HR5.out.1.below (gw_below z)) HR5.out.2 HD5.out.2.2.1.2.1 hfree (fun x hx => HM.out.2 x (HD5.out.2.2.2.mem_iff.1 hx))
    generalize spr k = hh at *
    clear hfree hk
    refine region_last_gw (by kernel_rfl) (by kernel_rfl) (by kernel_rfl) rfl ?_
    simp only [swapLast, stand]
    repeat (go_big_quiet_step ((first | (go_at_call 49; exact calls_gw_same (C1.out _)) | (go_at_call 44; exact calls_gw (C2.out _)))))
    refine wpQuiet_nil ?_
    intro wq hwq
    obtain ⟨zq, hwq⟩ := hwq
    subst hwq
    unfold Oper.wp
    go_simp
    refine (CL.out zq).mono ?_
    rintro e w6 ⟨rfl, hk6, r6, h6a, h6b, h6c, h6d⟩
    have HZ : Hid (Below W5.heap.size W5 (gw zq)) := gw_below zq
    have H6 : Hid (Kept (fun z => z = b2) (gw zq) w6 ∧ RowOf 89 4 encI w6 b2 r6 ∧ Rw spr r6 ∧ r6.length = r4.length ∧ (cont r6).Perm ((k, v) :: cont r4)) := ⟨hk6, h6a, h6b, h6c, h6d⟩
    clear hk6 h6a h6b h6c h6d CL C1 C2 c2
    generalize gw zq = W6 at *
    have HFIN : Hid (∃ b2 cap2 r2, MapAt w6 q b2 most r2 cap2 ∧ (cont r2).Perm ((k, v) :: cont r) ∧ Kept (fun z => z = q ∨ z = b) w w6 ∧ (b2 = b ∨ w.heap.size ≤ b2)) := by
      obtain ⟨g1, g2, g3, g4, g5⟩ := H6.out
      obtain ⟨d1, d2, d3, d4⟩ := HD5.out
      have hp : (cont r6).Perm ((k, v) :: cont r) := g5.trans (d4.cons _)
      have hl : (cont r6).length = c + 1 := by rw [hp.length_eq, List.length_cons, HC.out]
      have hx := (HX5.out.below HZ.out).kept g1 hbq
      have z1 := HMW.out.2.size
      have z2 := HK2.out.size
      have ka : Kept (fun z => z = q ∨ z = b2) w w6 := ((((Kept.of_below HMW.out.2).trans (HK2.out.mono fun _ _ e => .inl e)).trans (HF5.out.mono fun _ _ e => .inl e)).trans (Kept.of_below HZ.out)).trans (g1.mono fun _ _ e => .inr e)
      refine ⟨b2, cap2, r6, ⟨?_, g2, g3, by omega, by omega, by omega, hbq⟩, hp, ka.mono fun z hz e => ?_, ?_⟩
      · rw [hl, g4, ← d2, show ((c + 1 : Nat) : Int) = (c : Int) + 1 by omega]; exact hx
      · rcases e with e | e
        · exact .inl e
        · rcases d1 with h | h
          · exact .inr (e.trans h)
          · omega
      · rcases d1 with h | h
        · exact .inl h
        · exact .inr (by omega)
    clear HZ H6 HX5 HR5 HF5 HD5 HC HK2 HMW HX2 HR2 HM
    dsimp only
    go_wp2_with fail
    go_ret
    exact ⟨rfl, HFIN.out⟩)
end Go.Proofs.Ytkcjcidndckgbaa
