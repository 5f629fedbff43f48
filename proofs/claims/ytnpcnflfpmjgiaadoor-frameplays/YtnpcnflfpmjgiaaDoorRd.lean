/- The document's disks: Crash. -/
import Derived.Test.YtnpcnflfpmjgiaaDoorRc
import Derived.Test.YtnpcnflfpmjgiaaDoorCw
namespace Go.Proofs.YtnpcnflfpmjgiaaDoor
open Go.RowKit
set_option linter.unusedVariables false
set_option linter.unusedSimpArgs false

theorem settle_append (ks : Nat → Nat) (i : Nat) (l : List ByteArray) (a c : List (Nat × ByteArray)) : settle ks i l (a ++ c) = settle ks (i + a.length) (settle ks i l a) c := by
  induction a generalizing i l with
  | nil => rfl
  | cons p a ih =>
    show settle ks (i + 1) (lay l p (ks i)) (a ++ c) = settle ks _ (settle ks (i + 1) (lay l p (ks i)) a) c
    rw [ih, show i + 1 + a.length = i + (p :: a).length by simp; omega]
theorem settle_take (ks : Nat → Nat) {l : List ByteArray} {ws : List (Nat × ByteArray)} (m : Nat) (hk : ∀ i, ks i ≤ 512) (h0 : ∀ j, m ≤ j → ks j = 0) (h : ∀ s ∈ l, s.size = 512) (hn : ∀ p ∈ ws, p.1 < l.length) (hp : ∀ p ∈ ws, p.2.size = 512) : settle ks 0 l (ws.take m) = settle ks 0 l ws := by
  by_cases hm : m ≤ ws.length
  · have e := settle_append ks 0 l (ws.take m) (ws.drop m)
    rw [List.take_append_drop] at e
    rw [e]
    symm
    have hl : (ws.take m).length = m := by simp; omega
    refine settle_none (fun j hj => h0 _ (by rw [hl]; omega)) (size_settle hk h (fun p hp' => hn p (List.mem_of_mem_take hp')) (fun p hp' => hp p (List.mem_of_mem_take hp'))) (fun p hp' => by rw [length_settle]; exact hn p (List.mem_of_mem_drop hp'))
  · rw [List.take_of_length_le (by omega)]
theorem fateK_out (fs : List (Int × Int)) (j : Nat) (h : fs.length ≤ j) : fateK fs j = 0 := by unfold fateK; rw [List.getElem?_eq_none h]
set_option maxHeartbeats 2000000 in
set_option maxRecDepth 100000 in
theorem rcrash_any {B : Nat} {w v : World} {b : Nat} {fp : Nat → Prop} {S : DS} (d : Rk B w b fp S) (fs : List (Int × Int)) (a : Option Addr) (c : Nat) (hf : FtO v fs a) (hb : Below v.heap.size v w) (hB : v.heap.size ≤ B) (hfl : fs.length ≤ 8796093021952) : Calls Tryd.prog 51 #[pt b, .slice a fs.length c] w fun e w' => e = .returned (.tuple #[]) ∧ RLeft B b fp w (crashD S fs) w' := by
  obtain ⟨g, cg, pv, rfl, d⟩ := d
  unfold pt
  have hwl : S.wait.length ≤ maxLen := by
    rcases d.rowP.2 with ⟨_, h0⟩ | ⟨_, _, _, _, _, _, h1, h2, _⟩ <;> omega
  unfold maxLen at hwl
  have hwi : (S.wait.length : Int) ≤ 9223372036854775807 := by omega
  have hfi : (fs.length : Int) ≤ 8796093021952 := by omega
  obtain ⟨pa, pc, rfl⟩ := ownsRow_slice d.rowP
  obtain ⟨M, hM⟩ : ∃ M, M = min S.wait.length fs.length := ⟨_, rfl⟩
  have HM : Hid (M ≤ S.wait.length ∧ M ≤ fs.length ∧ (M = S.wait.length ∨ M = fs.length)) := by show _ ∧ _ ∧ _; omega
  have HOK : Hid S.Ok := d.ok
  have HFC : Hid (∀ wa : World, Kept (RP b g (.slice pa S.wait.length pc)) w wa → ∀ (i : Nat) (kd t : Int), fs[i]? = some (kd, t) → ∃ fb foff, a = some ⟨fb, foff, none⟩ ∧ wa.cell? ⟨fb, foff + i * 2, none⟩ = some (.int .i64 kd) ∧ wa.cell? ⟨fb, foff + i * 2 + 1, none⟩ = some (.int .i64 t) ∧ fb < wa.heap.size) := by
    show ∀ wa : World, _
    intro wa hk i kd t hi
    rcases hf.below hb with rfl | ⟨fb, off, rfl, hl, h⟩
    · simp at hi
    · have hfb : ¬ RP b g (.slice pa S.wait.length pc) fb := fun e => by
        have h1 := (d.fp fb e).1
        rcases hf with rfl | ⟨fb', off', e', hl', _⟩
        · simp at hi
        · injection e' with e'; injection e' with e1 e2; omega
      obtain ⟨h1, h2⟩ := h i kd t hi
      exact ⟨fb, off, rfl, hk.cell h1 hfb, hk.cell h2 hfb, Nat.lt_of_lt_of_le hl hk.size⟩
  have HD0 : Hid (Rv B w b g cg (.slice pa S.wait.length pc) { S with safe := settle (fateK fs) 0 S.safe (S.wait.take 0) }) := d
  clear d hM hf hb hB hfl
  go_enter Tryd.func51, Tryd.ntmps51
  go_wp2_with fail
  go_loopw [4] (fun t wa => ∃ k : Nat, k ≤ M ∧ t = .int .i64 k ∧ Rv B wa b g cg (.slice pa S.wait.length pc) { S with safe := settle (fateK fs) 0 S.safe (S.wait.take k) } ∧ Kept (RP b g (.slice pa S.wait.length pc)) w wa) (fun t _ => M - (intOf t).toNat)
  case atStart => exact ⟨0, Nat.zero_le _, rfl, HD0.out, Kept.refl _ _⟩
  case round =>
    obtain ⟨k, hk, rfl, hD, hK⟩ := hrel
    clear HD0
    have c1 := hD.blk.cell 1 (v := .slice pa S.wait.length pc) rfl
    have hll : (settle (fateK fs) 0 S.safe (S.wait.take k)).length = S.safe.length := length_settle _ _ _ _
    by_cases hlt : k < M
    · have hk1 : (k : Int) < (S.wait.length : Int) := by have := HM.out; omega
      have hk2 : (k : Int) < (fs.length : Int) := by have := HM.out; omega
      have hkw : k < S.wait.length := by omega
      have hkf : k < fs.length := by omega
      have hp : S.wait[k]? = some (S.wait[k]) := List.getElem?_eq_getElem hkw
      generalize S.wait[k] = p at *
      have hft : fs[k]? = some (fs[k]) := List.getElem?_eq_getElem hkf
      generalize fs[k] = kt at *
      obtain ⟨kd, t⟩ := kt
      obtain ⟨fb, foff, rfl, q1, q2, hfbl⟩ := HFC.out wr hK k kd t hft
      have hpm := List.mem_of_getElem? hp
      have hpn : p.1 < (settle (fateK fs) 0 S.safe (S.wait.take k)).length := hD.ok.num p hpm
      have hps : p.2.size = 512 := hD.ok.len p hpm
      obtain ⟨pg, rfl⟩ : ∃ pg, pa = some ⟨pg, 0, none⟩ := by
        rcases hD.rowP.2 with ⟨_, h0⟩ | ⟨pg, cap, cur, e, _⟩
        · exact absurd h0 (by show ¬ S.wait.length = 0; omega)
        · injection e with e; exact ⟨pg, e⟩
      obtain ⟨e1, e2⟩ := wcells_at S.wait k p hp
      have p1 := (hD.rowP.cellAt (k * 2) (by show k * 2 < S.wait.length * 2; omega)).trans e1
      have p2 := (hD.rowP.cellAt (k * 2 + 1) (by show k * 2 + 1 < S.wait.length * 2; omega)).trans e2
      have hb5 : Below wr.heap.size wr (wr.alloc (.cells #[.int .i64 (p.1 : Int), .string p.2] 94)) := (Below.refl _ _).alloc (Nat.le_refl _) _
      have hD5 := hD.below hb5
      have hK5 := hK.trans (Kept.of_below hb5)
      have hblt := hD.blk.lt
      have hgl := (hD.fp g (.inr (.inl rfl))).2
      have hpgl := (hD.fp pg (.inr (.inr rfl))).2
      have c0 := hD5.blk.cell 0 (v := .slice (some ⟨g, 0, none⟩) (settle (fateK fs) 0 S.safe (S.wait.take k)).length cg) rfl
      have cg0 := rsafe_at hD5 hpn
      have fg0 := hD5.rowG.frozenAt p.1
      have hos := size_getD hD.ok.size hpn
      have hsn : settle (fateK fs) 0 S.safe (S.wait.take (k + 1)) = (settle (fateK fs) 0 S.safe (S.wait.take k)).set p.1 (tear p.2 ((settle (fateK fs) 0 S.safe (S.wait.take k)).getD p.1 ByteArray.empty) (keptK kd t)) := by
        have ht : S.wait.take (k + 1) = S.wait.take k ++ [p] := by rw [List.take_add_one, hp]; rfl
        have hfk : fateK fs k = keptK kd t := by unfold fateK; rw [hft]
        rw [ht, settle_snoc, Nat.zero_add, show (S.wait.take k).length = k by simp; omega, hfk]; rfl
      have hend : Hid (∀ q : ByteArray, q = tear p.2 ((settle (fateK fs) 0 S.safe (S.wait.take k)).getD p.1 ByteArray.empty) (keptK kd t) → Rv B ((wr.setCell ⟨g, p.1, none⟩ (.string q)).alloc (.cells #[.int .i64 (p.1 : Int), .string p.2] 94)).drew b g cg (.slice (some ⟨pg, 0, none⟩) S.wait.length pc) { S with safe := settle (fateK fs) 0 S.safe (S.wait.take (k + 1)) } ∧ Kept (RP b g (.slice (some ⟨pg, 0, none⟩) S.wait.length pc)) w ((wr.setCell ⟨g, p.1, none⟩ (.string q)).alloc (.cells #[.int .i64 (p.1 : Int), .string p.2] 94)).drew) := by
        show ∀ q : ByteArray, _
        rintro q rfl
        rw [hsn]
        exact ⟨((hD.setG p.1 _ (size_tear hps hos (keptK_le _ _))).below ((Below.refl _ _).alloc (Nat.le_refl _) _)).drew, ((hK.set (p := ⟨g, p.1, none⟩) (.inr (.inl rfl)) _).alloc _).drew⟩
      have c0w := hD.blk.cell 0 (v := .slice (some ⟨g, 0, none⟩) (settle (fateK fs) 0 S.safe (S.wait.take k)).length cg) rfl
      have cg0w := rsafe_at hD hpn
      have fg0w := hD.rowG.frozenAt p.1
      have hlm : ((settle (fateK fs) 0 S.safe (S.wait.take k)).length : Int) ≤ 4096 := by have := HOK.out.most; omega
      have hpn' : (p.1 : Int) < ((settle (fateK fs) 0 S.safe (S.wait.take k)).length : Int) := by omega
      have hngb : ¬ g = b := fun e => hD.bg e.symm
      have hngb2 : ¬ b = g := hD.bg
      have hfg : ¬ wr.heap.size = g := by omega
      have hfg2 : ¬ g = wr.heap.size := by omega
      generalize (settle (fateK fs) 0 S.safe (S.wait.take k)).getD p.1 ByteArray.empty = o at *
      generalize hLn : (settle (fateK fs) 0 S.safe (S.wait.take k)).length = Ln at *
      clear hD hK hD5 hK5 hp hpm e1 e2 hLn hll hsn hft HFC HOK hb5 HM c0 cg0 fg0
      by_cases h1 : kd = 1
      · have e1 : (kd == 1) = true := by simpa using h1
        have hkk : Hid (keptK kd t = 512) := by show _ = _; rw [h1]; exact kept_one t
        clear h1
        go_wp2_with fail
        go_region
        go_wp2
        go_roundw
        case rel => exact ⟨k + 1, by omega, by go_num, hend.out _ (by rw [hkk.out]; unfold tear; first | rfl | (simp [extract_none]; done))⟩
        case measure => simp [intOf]; omega
      · have e1 : (kd == 1) = false := by simpa using h1
        by_cases h2 : kd = 2
        · have e2 : (kd == 2) = true := by simpa using h2
          by_cases h3 : 512 ≤ t
          · have hkk : Hid (keptK kd t = 512) := by show _ = _; rw [h2]; exact kept_torn t h3
            have h4 : ¬ t < 0 := by omega
            by_cases h5 : 512 < t
            · clear h1 h2
              go_wp2_with fail
              go_region
              go_wp2
              go_roundw
              case rel => exact ⟨k + 1, by omega, by go_num, hend.out _ (by rw [hkk.out]; unfold tear; first | rfl | (rw [show (min (max t 0) 512).toNat = 512 by omega]; done) | (rw [show (min (max t 0) 512).toNat = 512 by omega]; simp [extract_none]; done) | (simp [extract_none]; done))⟩
              case measure => simp [intOf]; omega
            · obtain rfl : t = 512 := by omega
              clear h1 h2
              go_wp2_with fail
              go_region
              go_wp2
              go_roundw
              case rel => exact ⟨k + 1, by omega, by go_num, hend.out _ (by rw [hkk.out]; unfold tear; first | rfl | (simp [extract_none]; done))⟩
              case measure => simp [intOf]; omega
          · by_cases h4 : t < 0
            · have hkk : Hid (keptK kd t = 0) := by show _ = _; rw [h2]; exact kept_none t (by omega)
              clear h1 h2
              go_wp2_with fail
              go_region
              go_wp2
              go_roundw
              case rel => exact ⟨k + 1, by omega, by go_num, hend.out _ (by rw [hkk.out]; unfold tear; first | rfl | (rw [show (min (max t 0) 512).toNat = 0 by omega]; done) | (rw [show (min (max t 0) 512).toNat = 0 by omega]; simp [extract_none]; done) | (simp [extract_none]; done))⟩
              case measure => simp [intOf]; omega
            · obtain ⟨T, rfl⟩ : ∃ T : Nat, t = (T : Int) := ⟨t.toNat, by omega⟩
              have hkk : Hid (keptK kd (T : Int) = T) := by show _ = _; rw [h2]; unfold keptK; simp; omega
              have hT : (T : Int) ≤ 512 := by omega
              have hT2 : T ≤ 512 := by omega
              clear h1 h2
              go_wp2_with fail
              go_region
              go_wp2
              go_roundw
              case rel => exact ⟨k + 1, by omega, by go_num, hend.out _ (by rw [hkk.out]; unfold tear; first | rfl | (rw [show min T 512 = T by omega]; done) | (simp [show min T 512 = T by omega, show min (T : Int) 512 = (T : Int) by omega]; done) | (rw [show (min (T : Int) 512).toNat = T by omega]; done) | (rw [show (min (max (T : Int) 0) 512).toNat = T by omega]; done) | (rw [show (min (max (T : Int) 0) 512).toNat = T by omega]; simp [extract_none]; done) | (simp [extract_none]; done))⟩
              case measure => simp [intOf]; omega
        · have e2 : (kd == 2) = false := by simpa using h2
          have hkk : Hid (keptK kd t = 0) := by show _ = _; unfold keptK; rw [if_neg h1, if_neg h2]
          clear h1 h2
          go_wp2_with fail
          go_region
          go_wp2
          go_roundw
          case rel => exact ⟨k + 1, by omega, by go_num, hend.out _ (by rw [hkk.out]; unfold tear; first | rfl | (simp [extract_none]; done))⟩
          case measure => simp [intOf]; omega
    · have hke : k = M := by omega
      subst hke
      have hst : settle (fateK fs) 0 S.safe (S.wait.take k) = settle (fateK fs) 0 S.safe S.wait := by
        rcases HM.out.2.2 with h | h
        · rw [h, List.take_length]
        · exact settle_take (fateK fs) k (fateK_le fs) (fun j hj => fateK_out fs j (by omega)) HOK.out.size HOK.out.num HOK.out.len
      rw [hst] at hD
      have f1 := hD.blk.frozen 1
      have c2 := hD.blk.cell 2 (v := .bool S.off) rfl
      have f2 := hD.blk.frozen 2
      have c3 := hD.blk.cell 3 (v := .int .i64 S.cut) rfl
      have f3 := hD.blk.frozen 3
      have hend : Hid (RLeft B b (RP b g (.slice pa S.wait.length pc)) w (crashD S fs) (((wr.setCell ⟨b, 1, none⟩ (.slice none 0 0)).setCell ⟨b, 2, none⟩ (.bool false)).setCell ⟨b, 3, none⟩ (.int .i64 0))) := by
        have h1 := hD.emptied
        have hk3 : Kept (fun k => k = b) (wr.setCell ⟨b, 1, none⟩ (.slice none 0 0)) (((wr.setCell ⟨b, 1, none⟩ (.slice none 0 0)).setCell ⟨b, 2, none⟩ (.bool false)).setCell ⟨b, 3, none⟩ (.int .i64 0)) := Kept.set (S := fun k => k = b) (Kept.set (S := fun k => k = b) (Kept.refl _ _) rfl _) rfl _
        refine ⟨RP b g (.slice none 0 0), ⟨g, cg, _, rfl, h1.upd hk3 ((h1.blk.set 2 _).set 3 _) ⟨h1.ok.one, h1.ok.most, h1.ok.size, h1.ok.num, h1.ok.len, Int.le_refl _, (by show (0 : Int) ≤ 9223372036854775807; omega), fun e => rfl⟩ rfl rfl⟩, (hK.set (p := ⟨b, 1, none⟩) (.inl rfl) _).trans (hk3.mono (fun k _ e => .inl e)), ?_⟩
        rintro i (e | e | e)
        · exact .inl (.inl e)
        · exact .inl (.inr (.inl e))
        · simp [Value.ownBlock] at e
      have hor : (¬ (k : Int) < (S.wait.length : Int)) ∨ ((k : Int) < (S.wait.length : Int) ∧ ¬ (k : Int) < (fs.length : Int)) := by have := HM.out; omega
      clear hD hK hll hst HFC
      rcases hor with h1 | ⟨h1, h2⟩
      all_goals
        go_wp2
        first | go_end0 | refine bodyPost_ret (results_none rfl _ _ _) rfl ?_
        exact ⟨rfl, hend.out⟩
end Go.Proofs.YtnpcnflfpmjgiaaDoor
