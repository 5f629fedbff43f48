/- Package disk: settle: each pending write is laid down as far as it is kept; none is pending then. -/
import Derived.Test.YtnpcnflfpmjgiaaDoorCb
namespace Go.Proofs.YtnpcnflfpmjgiaaDoor
open Go.RowKit
set_option linter.unusedVariables false
set_option linter.unusedSimpArgs false

/-- The disk while its writes are laid down: the first k are. -/
def mid (S : DS) (ks : Nat → Nat) (k : Nat) : DS := { S with safe := (settle2 ks 0 (S.safe, S.shown) (S.wait.take k)).1 }
def midR (S : DS) (ks : Nat → Nat) (k : Nat) : List ByteArray := (settle2 ks 0 (S.safe, S.shown) (S.wait.take k)).2
theorem mid_zero (S : DS) (ks : Nat → Nat) : mid S ks 0 = S := by unfold mid; simp [settle2]
theorem midR_zero (S : DS) (ks : Nat → Nat) : midR S ks 0 = S.shown := by unfold midR; simp [settle2]
theorem mid_succ (S : DS) (ks : Nat → Nat) (k : Nat) (p : Nat × ByteArray) (hp : S.wait[k]? = some p) :
    (mid S ks (k + 1)).safe = (mid S ks k).safe.set p.1 (tear p.2 ((mid S ks k).safe.getD p.1 ByteArray.empty) (ks k)) ∧ midR S ks (k + 1) = (midR S ks k).set p.1 ((mid S ks (k + 1)).safe.getD p.1 ByteArray.empty) := by
  obtain ⟨hk, hp'⟩ := List.getElem?_eq_some_iff.1 hp
  have ht : S.wait.take (k + 1) = S.wait.take k ++ [p] := by rw [List.take_add_one, hp]; rfl
  have hl : (S.wait.take k).length = k := by simp; omega
  unfold mid midR
  simp only [ht, settle2_snoc, hl, Nat.zero_add]
  exact ⟨rfl, trivial⟩
theorem mid_end (S : DS) (ks : Nat → Nat) (h : S.Ok) : (mid S ks S.wait.length).safe = settle ks 0 S.safe S.wait ∧ midR S ks S.wait.length = settle ks 0 S.safe S.wait := by
  unfold mid midR
  simp only [List.take_length]
  have := settle2_shown (ks := ks) h.num
  unfold DS.shown
  rw [this]; exact ⟨rfl, rfl⟩

theorem Dv.drewN {B : Nat} {w : World} {b g h cg ch : Nat} {pv : Value} {bx : List (Nat × Nat)} {S : DS} {shown : List ByteArray} (d : Dv B w b g h cg ch pv bx S shown) (n : Nat) : Dv B (w.drewN n) b g h cg ch pv bx S shown :=
  d.kept (T := fun _ => False) ((Kept.refl _ _).drewN n) (fun _ _ => id)
theorem Dv.drew {B : Nat} {w : World} {b g h cg ch : Nat} {pv : Value} {bx : List (Nat × Nat)} {S : DS} {shown : List ByteArray} (d : Dv B w b g h cg ch pv bx S shown) : Dv B w.drew b g h cg ch pv bx S shown :=
  d.kept (T := fun _ => False) (Kept.refl _ _).drew (fun _ _ => id)
theorem safe_at {B : Nat} {w : World} {b g h cg ch : Nat} {pv : Value} {bx : List (Nat × Nat)} {S : DS} {shown : List ByteArray} (d : Dv B w b g h cg ch pv bx S shown) {n : Nat} (hn : n < S.safe.length) : w.cell? ⟨g, n, none⟩ = some (.string (S.safe.getD n ByteArray.empty)) := by
  rw [d.rowG.cellAt n (by omega)]; exact strs_at _ _ hn
theorem shown_at {B : Nat} {w : World} {b g h cg ch : Nat} {pv : Value} {bx : List (Nat × Nat)} {S : DS} {shown : List ByteArray} (d : Dv B w b g h cg ch pv bx S shown) {n : Nat} (hn : n < S.safe.length) : w.cell? ⟨h, n, none⟩ = some (.string (shown.getD n ByteArray.empty)) := by
  rw [d.rowH.cellAt n (by omega)]; exact strs_at _ _ (by rw [d.hlen]; exact hn)
/-- None is pending any more. -/
theorem Dv.emptied {B : Nat} {w : World} {b g h cg ch : Nat} {pv : Value} {bx : List (Nat × Nat)} {S : DS} {shown : List ByteArray} (d : Dv B w b g h cg ch pv bx S shown) : Dv B (w.setCell ⟨b, 2, none⟩ (.slice none 0 0)) b g h cg ch (.slice none 0 0) [] { S with wait := [] } shown := by
  have hk : Kept (fun k => k = b) w (w.setCell ⟨b, 2, none⟩ (.slice none 0 0)) := Kept.set (S := fun k => k = b) (Kept.refl _ _) rfl _
  exact {
    ok := ⟨d.ok.one, d.ok.most, d.ok.size, by simp, by simp, d.ok.cut0, d.ok.cut1, d.ok.idle⟩
    blk := d.blk.set 2 (.slice none 0 0)
    rowG := ownsRow_kept d.rowG hk (fun k e => by simp [Value.ownBlock] at e; subst e; exact d.bg.symm)
    rowH := ownsRow_kept d.rowH hk (fun k e => by simp [Value.ownBlock] at e; subst e; exact d.bh.symm)
    rowP := World.ownsRow_nil _ _ _ _
    hlen := d.hlen
    blen := rfl
    box := fun i x p hx hp => by simp at hx
    bg := d.bg
    bh := d.bh
    gh := d.gh
    pb := fun k e => by simp [Value.ownBlock] at e
    xb := fun x hx => by simp at hx
    low := d.low }
/-- A pending write is laid down. -/
theorem lay71 {B : Nat} {w : World} {b g h cg ch : Nat} {pv : Value} {bx : List (Nat × Nat)} {S : DS} {shown : List ByteArray} (d : Dv B w b g h cg ch pv bx S shown) {i : Nat} {x : Nat × Nat} {p : Nat × ByteArray} (hx : bx[i]? = some x) (hp : S.wait[i]? = some p) (k : Nat) (hk : k ≤ 512) :
    Calls Tryd.prog 94 #[.slice (some ⟨g, 0, none⟩) S.safe.length cg, .int .i64 k, .pointer (some ⟨x.1, 0, none⟩), .pointer (some ⟨x.2, 0, none⟩)] w fun e w' => e = .returned (.int .i64 p.1) ∧
      Dv B w' b g h cg ch pv bx { S with safe := S.safe.set p.1 (tear p.2 (S.safe.getD p.1 ByteArray.empty) k) } shown ∧ Kept (fun j => j = g) w w' := by
  obtain ⟨b1, b2⟩ := d.box i x p hx hp
  have hm : x ∈ bx := List.mem_of_getElem? hx
  have hpm : p ∈ S.wait := List.mem_of_getElem? hp
  have hn := d.ok.num p hpm
  have hs := d.ok.len p hpm
  have ho := size_getD d.ok.size hn
  rcases Nat.eq_zero_or_pos k with rfl | hk0
  · refine (none71 (.slice (some ⟨g, 0, none⟩) S.safe.length cg) x p.1 (b2.cell 0 rfl)).mono ?_
    rintro e w' ⟨rfl, rfl⟩
    rw [tear_zero ho, set_same hn]
    exact ⟨rfl, d, Kept.refl _ _⟩
  · refine (some71 g S.safe.length cg x p.1 k p.2 (S.safe.getD p.1 ByteArray.empty) (b1.cell 0 rfl) (b2.cell 0 rfl) hn d.ok.most (safe_at d hn) (d.rowG.frozenAt _) hs ho hk0 hk (d.xb x hm).2.2.2.1).mono ?_
    rintro e w' ⟨rfl, rfl⟩
    exact ⟨rfl, (d.setG p.1 _ (size_tear hs ho hk)).drew, (Kept.set (S := fun j => j = g) (Kept.refl _ _) rfl _).drew⟩
set_option maxHeartbeats 1000000 in
set_option maxRecDepth 100000 in
theorem settle58 {B : Nat} {w : World} {b g h cg ch : Nat} {pv : Value} {bx : List (Nat × Nat)} {S : DS} (d : Dv B w b g h cg ch pv bx S S.shown) (ks : Nat → Nat) (hks : ∀ i, ks i ≤ 512)
    (hF : ∀ (w1 : World) (i : Nat), Kept (FP b g h pv bx) w w1 → i < S.wait.length → Calls Tryd.prog 64 #[.int .i64 i] w1 fun e w' => e = .returned (.int .i64 (ks i)) ∧ Below w1.heap.size w1 w') :
    Calls Tryd.prog 63 #[.pointer (some ⟨b, 0, none⟩), .func (.func 64) #[] #[]] w fun e w' => e = .returned (.tuple #[]) ∧ Dv B w' b g h cg ch (.slice none 0 0) [] { S with safe := settle ks 0 S.safe S.wait, wait := [] } (settle ks 0 S.safe S.wait) ∧ Kept (FP b g h pv bx) w w' := by
  have hwl : S.wait.length ≤ maxLen := by
    rcases d.rowP.2 with ⟨_, h0⟩ | ⟨_, _, _, _, _, _, h1, h2, _⟩ <;> omega
  obtain ⟨pa, pc, rfl⟩ := ownsRow_slice d.rowP
  have HF : Hid (∀ (w1 : World) (i : Nat), Kept (FP b g h (.slice pa S.wait.length pc) bx) w w1 → i < S.wait.length → Calls Tryd.prog 64 #[.int .i64 i] w1 fun e w' => e = .returned (.int .i64 (ks i)) ∧ Below w1.heap.size w1 w') := hF
  have HD : Hid (Dv B w b g h cg ch (.slice pa S.wait.length pc) bx (mid S ks 0) (midR S ks 0)) := by show Dv _ _ _ _ _ _ _ _ _ _ _; rw [mid_zero, midR_zero]; exact d
  have c2 := d.blk.cell 2 (v := .slice pa S.wait.length pc) rfl
  unfold maxLen at hwl
  have HO : Hid S.Ok := d.ok
  clear hF d
  go_enter Tryd.func63, Tryd.ntmps63
  go_wp2
  go_loopw [12] (fun t w1 => ∃ k : Nat, k ≤ S.wait.length ∧ t = .int .i64 k ∧ Dv B w1 b g h cg ch (.slice pa S.wait.length pc) bx (mid S ks k) (midR S ks k) ∧ Kept (FP b g h (.slice pa S.wait.length pc) bx) w w1) (fun t _ => S.wait.length - (intOf t).toNat)
  case atStart => exact ⟨0, Nat.zero_le _, rfl, HD.out, Kept.refl _ _⟩
  case round =>
    obtain ⟨k, hk, rfl, hD, hK⟩ := hrel
    by_cases hlt : k < S.wait.length
    · have hp : S.wait[k]? = some (S.wait[k]) := List.getElem?_eq_getElem hlt
      have hxl : k < bx.length := by have := hD.blen; show k < bx.length; rw [this]; exact hlt
      have hx : bx[k]? = some (bx[k]) := List.getElem?_eq_getElem hxl
      generalize S.wait[k] = p at *
      generalize bx[k] = x at *
      obtain ⟨pg, rfl⟩ : ∃ pg, pa = some ⟨pg, 0, none⟩ := by
        rcases hD.rowP.2 with ⟨_, h0⟩ | ⟨pg, cap, cur, e, _⟩
        · exact absurd h0 (by show ¬ S.wait.length = 0; omega)
        · injection e with e; exact ⟨pg, e⟩
      have hc : wr.cell? ⟨pg, k, none⟩ = some (clo x) := by
        rw [hD.rowP.cellAt k (by show k < S.wait.length * 1; omega)]; simp [hx]
      have c0 := hD.blk.cell 0 (v := .slice (some ⟨g, 0, none⟩) (mid S ks k).safe.length cg) rfl
      have hlen : (mid S ks k).safe.length = S.safe.length := by unfold mid; simp only [settle2_fst, length_settle]
      unfold clo at hc
      have H71 : Hid (∀ w1 : World, Below wr.heap.size wr w1 → Calls Tryd.prog 94 #[.slice (some ⟨g, 0, none⟩) (mid S ks k).safe.length cg, .int .i64 (ks k), .pointer (some ⟨x.1, 0, none⟩), .pointer (some ⟨x.2, 0, none⟩)] w1 fun e w' => e = .returned (.int .i64 p.1) ∧
        Dv B w' b g h cg ch (.slice (some ⟨pg, 0, none⟩) S.wait.length pc) bx (mid S ks (k + 1)) (midR S ks k) ∧ Kept (FP b g h (.slice (some ⟨pg, 0, none⟩) S.wait.length pc) bx) w w' ∧ w'.cell? ⟨b, 0, none⟩ = some (.slice (some ⟨g, 0, none⟩) (mid S ks k).safe.length cg)) := by
        show ∀ w1 : World, _
        intro w1 hb
        refine (lay71 (hD.below hb) hx (show (mid S ks k).wait[k]? = some p from hp) (ks k) (hks k)).mono ?_
        rintro e w' ⟨rfl, hd, hk'⟩
        have e1 := (mid_succ S ks k p hp).1
        refine ⟨rfl, ?_, (hK.trans (Kept.of_below hb)).trans (hk'.mono (fun j _ hj => .inr (.inl hj))), by have := hd.blk.cell 0 (v := .slice (some ⟨g, 0, none⟩) ((mid S ks k).safe.set p.1 (tear p.2 ((mid S ks k).safe.getD p.1 ByteArray.empty) (ks k))).length cg) rfl; simpa using this⟩
        have e2 : mid S ks (k + 1) = { mid S ks k with safe := (mid S ks k).safe.set p.1 (tear p.2 ((mid S ks k).safe.getD p.1 ByteArray.empty) (ks k)) } := by
          rw [← e1]; rfl
        rw [e2]; exact hd
      have H58 : Hid (∀ w1 : World, Below wr.heap.size wr w1 → Calls Tryd.prog 64 #[.int .i64 k] w1 fun e w' => e = .returned (.int .i64 (ks k)) ∧ Hid (Below w1.heap.size w1 w')) := by
        show ∀ w1 : World, _
        intro w1 hb
        exact HF.out w1 k (hK.trans (Kept.of_below hb)) hlt
      have KP : Hid (∀ w1 : World, Below wr.heap.size wr w1 → w1.cell? ⟨b, 0, none⟩ = some (.slice (some ⟨g, 0, none⟩) (mid S ks k).safe.length cg)) := fun w1 hb => (hb.cell (p := ⟨b, 0, none⟩) hD.blk.lt).trans c0
      have HP : Hid (S.wait[k]? = some p) := hp
      have HM : Hid ((mid S ks k).safe.length ≤ 4096) := hD.ok.most
      go_wp2_with fail
      clear hp hx hxl hlen hD hK HF HD hks
      go_region_held3 (fun w' => w'.cell? ⟨b, 0, none⟩ = some (.slice (some ⟨g, 0, none⟩) (mid S ks k).safe.length cg))
        (first | go_keep | exact c05 | exact KP.out _ ⟨hb4.out.os, hb4.out.tape, hb4.out.output, hb4.out.size, hb4.out.block⟩)
        (first | (go_at_call 64; refine (H58.out _ (by exact ⟨rfl, rfl, rfl, Nat.le_refl _, fun _ _ => rfl⟩)).mono ?_; rintro e w4 ⟨rfl, hb4⟩) | (go_at_call 94; refine (H71.out _ (by exact ⟨hb4.out.os, hb4.out.tape, hb4.out.output, hb4.out.size, hb4.out.block⟩)).mono ?_; rintro e w5 ⟨rfl, hD5, hK5, c05⟩))
      have hlm : (mid S ks (k + 1)).safe.length = (mid S ks k).safe.length := by rw [(mid_succ S ks k p HP.out).1]; simp
      have hpn : p.1 < (mid S ks (k + 1)).safe.length := hD5.ok.num p (List.mem_of_getElem? (show (mid S ks (k + 1)).wait[k]? = some p from HP.out))
      have c1 := hD5.blk.cell 1 (v := .slice (some ⟨h, 0, none⟩) (mid S ks (k + 1)).safe.length ch) rfl
      have c5 := safe_at hD5 hpn
      have c6 := shown_at hD5 hpn
      have f6 := hD5.rowH.frozenAt p.1
      have hend : Hid (Dv B (w5.setCell ⟨h, p.1, none⟩ (.string ((mid S ks (k + 1)).safe.getD p.1 ByteArray.empty))).drew b g h cg ch (.slice (some ⟨pg, 0, none⟩) S.wait.length pc) bx (mid S ks (k + 1)) (midR S ks (k + 1)) ∧ Kept (FP b g h (.slice (some ⟨pg, 0, none⟩) S.wait.length pc) bx) w (w5.setCell ⟨h, p.1, none⟩ (.string ((mid S ks (k + 1)).safe.getD p.1 ByteArray.empty))).drew) := by
        refine ⟨?_, (hK5.set (p := ⟨h, p.1, none⟩) (.inr (.inr (.inl rfl))) _).drew⟩
        rw [(mid_succ S ks k p HP.out).2]
        exact (hD5.setH p.1 _).drew
      rw [hlm] at hpn c1
      have hpn' : (p.1 : Int) < ((mid S ks k).safe.length : Int) := by omega
      generalize (mid S ks (k + 1)).safe.getD p.1 ByteArray.empty = q at *
      have hml : (mid S ks k).safe.length ≤ 4096 := HM.out
      generalize (mid S ks k).safe.length = L at *
      clear hD5 hK5 H71 H58 KP HP hlm
      go_wp2_with fail
      go_region
      go_wp2
      go_roundw
      case rel => exact ⟨k + 1, by omega, by go_num, hend.out⟩
      case measure => simp [intOf]; omega
    · have c2 := hD.blk.cell 2 (v := .slice pa S.wait.length pc) rfl
      have f2 := hD.blk.frozen 2
      have hge : (S.wait.length : Int) ≤ (k : Int) := by omega
      have hke : k = S.wait.length := by omega
      have hend : Hid (Dv B (wr.setCell ⟨b, 2, none⟩ (.slice none 0 0)) b g h cg ch (.slice none 0 0) [] { S with safe := settle ks 0 S.safe S.wait, wait := [] } (settle ks 0 S.safe S.wait) ∧ Kept (FP b g h (.slice pa S.wait.length pc) bx) w (wr.setCell ⟨b, 2, none⟩ (.slice none 0 0))) := by
        refine ⟨?_, hK.set (p := ⟨b, 2, none⟩) (.inl rfl) _⟩
        have := hD.emptied
        rw [hke, (mid_end S ks (HO.out)).2] at this
        have e2 : ({ S with safe := settle ks 0 S.safe S.wait, wait := [] } : DS) = { mid S ks S.wait.length with wait := [] } := by rw [← (mid_end S ks HO.out).1]; rfl
        rw [e2]; exact this
      clear hD hK HD HF hke
      go_wp2_with fail
      first | go_end0 | refine bodyPost_ret (results_none rfl _ _ _) rfl ?_
      all_goals exact ⟨rfl, hend.out⟩
end Go.Proofs.YtnpcnflfpmjgiaaDoor
