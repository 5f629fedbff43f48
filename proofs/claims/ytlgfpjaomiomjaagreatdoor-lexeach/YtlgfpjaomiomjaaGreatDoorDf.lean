/- Package value's fromColons: any text, any number of bytes up to sixteen. -/
import Derived.Test.YtlgfpjaomiomjaaGreatDoorVw
namespace Go.Proofs.YtlgfpjaomiomjaaGreatDoor
open Go.RowKit
set_option linter.unusedVariables false
set_option linter.unusedSimpArgs false

/-- What is read behind p bytes: two signs of 16, a colon, and so on. -/
def cg : Nat → List UInt8 → Nat → Option Nat
  | _, [], a => some a
  | p, c :: cs, a => if p % 3 = 2 then (if c = 58 then cg (p + 1) cs a else none) else
    match worth 16 c with
    | none => none
    | some d => cg (p + 1) cs (moreN a 16 d)
/-- What fromColons answers. -/
def fcR (l : List UInt8) (k : Nat) : Nat × Bool := if (l.length : Int) = 3 * (k : Int) - 1 then (match cg 0 l 0 with | none => (0, false) | some v => (v, true)) else (0, false)
theorem fcR_len {l : List UInt8} {k : Nat} (h : ¬ (l.length : Int) = 3 * (k : Int) - 1) : fcR l k = (0, false) := by unfold fcR; rw [if_neg h]
theorem fcR_none {l : List UInt8} {k : Nat} (h : (l.length : Int) = 3 * (k : Int) - 1) (hg : cg 0 l 0 = none) : fcR l k = (0, false) := by unfold fcR; rw [if_pos h, hg]
theorem fcR_some {l : List UInt8} {k v : Nat} (h : (l.length : Int) = 3 * (k : Int) - 1) (hg : cg 0 l 0 = some v) : fcR l k = (v, true) := by unfold fcR; rw [if_pos h, hg]
theorem cg_colon {p : Nat} {c : UInt8} {cs : List UInt8} {a : Nat} (hp : p % 3 = 2) (h : c = 58) : cg p (c :: cs) a = cg (p + 1) cs a := by rw [cg, if_pos hp, if_pos h]
theorem cg_nocolon {p : Nat} {c : UInt8} {cs : List UInt8} {a : Nat} (hp : p % 3 = 2) (h : c ≠ 58) : cg p (c :: cs) a = none := by rw [cg, if_pos hp, if_neg h]
theorem cg_digit {p : Nat} {c : UInt8} {cs : List UInt8} {a d : Nat} (hp : ¬ p % 3 = 2) (h : worth 16 c = some d) : cg p (c :: cs) a = cg (p + 1) cs (moreN a 16 d) := by rw [cg, if_neg hp, h]
theorem cg_nodigit {p : Nat} {c : UInt8} {cs : List UInt8} {a : Nat} (hp : ¬ p % 3 = 2) (h : worth 16 c = none) : cg p (c :: cs) a = none := by rw [cg, if_neg hp, h]
theorem cg_is {l : List UInt8} : ∀ {p a v : Nat}, Is128 a → cg p l a = some v → Is128 v := by
  induction l with
  | nil => intro p a v ha h; simp [cg] at h; subst h; exact ha
  | cons c cs ih =>
    intro p a v ha h
    by_cases hp : p % 3 = 2
    · by_cases hc : c = 58
      · rw [cg_colon hp hc] at h; exact ih ha h
      · rw [cg_nocolon hp hc] at h; cases h
    · cases hw : worth 16 c with
      | none => rw [cg_nodigit hp hw] at h; cases h
      | some d => rw [cg_digit hp hw] at h; exact ih (more_is _ _ _) h

def FcAt (s : ByteArray) (w : World) (wr : World) : Prop :=
  ∃ p x : Nat, p ≤ s.size ∧ Is128 x ∧ Aside (cg p (s.data.toList.drop p) x = cg 0 s.data.toList 0) ∧ wr.heap[w.heap.size + 2]? = some (.stringIter s p) ∧ Wds wr (w.heap.size + 1) (hiOf x) (loOf x) ∧ Wds wr w.heap.size 0 0 ∧ Below w.heap.size w wr ∧ w.heap.size + 2 < wr.heap.size

theorem fc_start (s : ByteArray) (w : World) : FcAt s w (((w.alloc (.cells #[.int .u64 0, .int .u64 0] 37)).alloc (.cells #[.int .u64 0, .int .u64 0] 37)).iter s 0) := by
  have e : ((w.alloc (.cells #[.int .u64 0, .int .u64 0] 37)).alloc (.cells #[.int .u64 0, .int .u64 0] 37)).iter s 0 = ((w.alloc (.cells #[.int .u64 0, .int .u64 0] 37)).alloc (.cells #[.int .u64 0, .int .u64 0] 37)).alloc (.stringIter s 0) := rfl
  rw [e]
  refine ⟨0, 0, by omega, by unfold Is128; decide, rfl, ?_, ?_, ((Wds.new w 0 0).past _).past _, ?_, by simp⟩
  · have := World.iter_heap ((w.alloc (.cells #[.int .u64 0, .int .u64 0] 37)).alloc (.cells #[.int .u64 0, .int .u64 0] 37)) s 0
    simpa [e] using this
  · exact Wds.past (by simpa [hiOf, loOf] using Wds.new (w.alloc (.cells #[.int .u64 0, .int .u64 0] 37)) 0 0) _
  · exact (((Below.refl _ _).alloc (by simp) _).alloc (by simp) _).alloc (by simp; omega) _

set_option maxHeartbeats 2000000 in
set_option maxRecDepth 100000 in
theorem fromColons_any (s : ByteArray) (hs : s.size ≤ maxLen) (k : Nat) (hk : k ≤ 16) (w : World) (hT : Tab w) :
    Calls Tryz.prog 59 #[.string s, .int .i64 k] w fun e w' => e = .returned (.tuple #[B (fcR s.data.toList k).1, .bool (fcR s.data.toList k).2]) ∧ Below w.heap.size w w' := by
  have hlen : s.data.toList.length = s.size := by simp
  unfold maxLen at hs
  by_cases hl : (s.size : Int) = 3 * (k : Int) - 1
  · have HNO : Hid (cg 0 s.data.toList 0 = none → fcR s.data.toList k = (0, false)) := fun h => fcR_none (by rw [hlen]; exact hl) h
    have HYES : Hid (∀ v, cg 0 s.data.toList 0 = some v → fcR s.data.toList k = (v, true)) := fun v h => fcR_some (by rw [hlen]; exact hl) h
    have d1 : (((s.size : Nat) : Int) != 3 * (k : Int) - 1) = false := by simp [hl]
    have HT : Hid (Tab w) := hT
    have h0 := hT.pos
    have h00 : w.heap.size ≠ 0 := by omega
    clear hl hT
    go_enter Tryz.func59, Tryz.ntmps59
    go_wp2
    go_loopw [] (fun wr => FcAt s w wr) (fun wr => s.size - wr.iterPos (w.heap.size + 2))
    case atStart => exact fc_start s w
    case round =>
      obtain ⟨p, x, hp, hx, A, hit, V, Z, hbel, hsz⟩ := hrel
      have HP : Hid _ := iterPos_of hit
      by_cases hlt : p < s.size
      · have hnx : ∀ ty, (Instr.next (.pointer (some ⟨w.heap.size + 2, 0, none⟩)) true ty).run Tryz.prog wr = _ := fun ty => Lib.run_next_any_at wr (w.heap.size + 2) s p ty hit hlt
        obtain ⟨p', hp'⟩ : ∃ p', p' = p + (Utf8.decode s p).2 := ⟨_, rfl⟩
        obtain ⟨r, hr⟩ : ∃ r, r = (Utf8.decode s p).1 := ⟨_, rfl⟩
        have hle := decode_le s p
        rw [← hr] at hnx hle
        rw [← hp'] at hnx
        have hit2 := Lib.iterAt_heap wr (w.heap.size + 2) s p p' hit
        have hb2 := Lib.below_iterAt (Below.refl (w.heap.size + 2) wr) (k := w.heap.size + 2) (Nat.le_refl _) s p'
        obtain ⟨W1, hW1⟩ : ∃ W1, W1 = wr.iterAt (w.heap.size + 2) s p' := ⟨_, rfl⟩
        rw [← hW1] at hnx hit2 hb2
        have V1 := V.below hb2 (by omega)
        have Z1 := Z.below hb2 (by omega)
        have hbel' : Below w.heap.size w W1 := hbel.trans (hb2.mono (by omega))
        have hsz' : w.heap.size + 2 < W1.heap.size := Nat.lt_of_lt_of_le hsz hb2.size
        have HT1 : Hid (Tab W1) := HT.out.below hbel'
        have HI2 : Hid _ := hit2
        have HR : Hid _ := hr
        have HP' : Hid _ := hp'
        have hc := byte_at s hlt
        have HC : Hid _ := hc
        obtain ⟨z0, z1, z2, z3⟩ := id Z1
        clear hW1 hit hit2 hb2 hbel hsz hr hp' V Z hc
        by_cases h3 : p % 3 = 2
        · have m3 : ((p : Int) % 3 == 2) = true := by simp; omega
          by_cases h58 : s[p] = 58
          · have hdec := decode_ascii s p hlt (by rw [h58]; decide)
            obtain rfl : r = 58 := by rw [HR.out, hdec, h58]; rfl
            obtain rfl : p' = p + 1 := by rw [HP'.out, hdec]
            have A2 : Aside (cg (p + 1) (s.data.toList.drop (p + 1)) x = cg 0 s.data.toList 0) := by
              rw [← A.out, HC.out, cg_colon h3 h58]; rfl
            clear A HR HP' hdec h58 HC h3
            go_wp2
            go_roundw
            case rel => exact ⟨p + 1, x, by omega, hx, A2, HI2.out, V1, Z1, hbel', hsz'⟩
            case measure => rw [iterPos_of HI2.out, HP.out]; omega
          · have hne : (((r : Nat) : Int) != 58) = true := by
              simp only [bne_iff_ne, ne_eq]; intro e
              have e' : r = 58 := by omega
              rw [HR.out] at e'
              by_cases ha : (s[p]).toNat < 128
              · rw [decode_ascii s p hlt ha] at e'
                exact h58 (UInt8.toNat_inj.1 (by simpa using e'))
              · have := (decode_high s p hlt (by omega)).1
                omega
            have E : Hid _ := HNO.out (by rw [← A.out, HC.out, cg_nocolon h3 h58])
            clear A HR HP' h58 HC h3
            go_wp2
            refine bodyPost_ret (v := .tuple #[B (fcR s.data.toList k).1, .bool (fcR s.data.toList k).2]) ?_ rfl ⟨rfl, (hbel'.setCell (Nat.le_refl _) _).setCell (Nat.le_refl _) _⟩
            obtain ⟨r0, r1⟩ := zresult (x := .int .u64 0) (y := .int .u64 0) z0 z1
            rw [E.out, zero_words]; simp [results, Tryz.results59, go_sem, r0, r1]
        · have m3 : ((p : Int) % 3 == 2) = false := by simp; omega
          cases hw : worth 16 s[p] with
          | none =>
            have hno : ∀ d, d < 16 → (r : Int) ≠ ((sgn d).toNat : Int) := by
              intro d hd e
              have hw' := worth_none hw d hd
              have hs := sgn_lt d (by omega)
              rw [HR.out] at e
              by_cases ha : (s[p]).toNat < 128
              · rw [decode_ascii s p hlt ha] at e
                exact hw' (UInt8.toNat_inj.1 (by omega))
              · have := (decode_high s p hlt (by omega)).1
                omega
            have C : Hid (∀ w, Tab w → Calls Tryz.prog 71 #[.int .i32 r, .int .u64 16] w fun e w' => e = .returned (.tuple #[.int .u64 0, .bool false]) ∧ w' = w) := fun w hT => digitOf_no 16 r (by decide) hno w hT
            have E : Hid _ := HNO.out (by rw [← A.out, HC.out, cg_nodigit h3 hw])
            clear A HR HP' HC h3 hno hw
            go_wp2_with fail
            refine (C.out _ HT1.out).mono ?_
            rintro e w2 ⟨rfl, rfl⟩
            go_wp2
            refine bodyPost_ret (v := .tuple #[B (fcR s.data.toList k).1, .bool (fcR s.data.toList k).2]) ?_ rfl ⟨rfl, (hbel'.setCell (Nat.le_refl _) _).setCell (Nat.le_refl _) _⟩
            obtain ⟨r0, r1⟩ := zresult (x := .int .u64 0) (y := .int .u64 0) z0 z1
            rw [E.out, zero_words]; simp [results, Tryz.results59, go_sem, r0, r1]
          | some d =>
            obtain ⟨hdb, hsd⟩ := worth_some hw
            have hs128 := sgn_lt d (by omega)
            have ha : (s[p]).toNat < 128 := by rw [← hsd]; exact hs128
            have hdec := decode_ascii s p hlt ha
            obtain rfl : r = (sgn d).toNat := by rw [HR.out, hdec, hsd]
            obtain rfl : p' = p + 1 := by rw [HP'.out, hdec]
            have A2 : Aside (cg (p + 1) (s.data.toList.drop (p + 1)) (moreN x 16 d) = cg 0 s.data.toList 0) := by
              rw [← A.out, HC.out, cg_digit h3 hw]; rfl
            have C : Hid (∀ w, Tab w → Calls Tryz.prog 71 #[.int .i32 ((sgn d).toNat : Int), .int .u64 16] w fun e w' => e = .returned (.tuple #[.int .u64 d, .bool true]) ∧ w' = w) := fun w hT => digitOf_yes 16 d (by decide) hdb w hT
            have C2 : Hid (∀ w, Calls Tryz.prog 72 #[B x, .int .u64 16, .int .u64 d] w fun e w' => e = .returned (.tuple #[B (moreN x 16 d), .bool (overN x 16 d)]) ∧ Below w.heap.size w w') := fun w => withDigit_any x 16 d hx (by decide) hdb w
            clear A HR HP' hdec ha hsd hw HC h3
            obtain ⟨v0, v1, v2, v3⟩ := id V1
            go_wp2_with fail
            refine (C.out _ HT1.out).mono ?_
            rintro e w2 ⟨rfl, rfl⟩
            go_wp2_with fail
            refine (C2.out _).mono ?_
            rintro e w3 ⟨rfl, hb3⟩
            have V3 := V1.below hb3 V1.lt
            have Z3 := Z1.below hb3 Z1.lt
            have hbel3 := bstep hbel' hb3
            have hit3 : w3.heap[w.heap.size + 2]? = some (.stringIter s (p + 1)) := by rw [hb3.block _ hsz']; exact HI2.out
            have hsz3 : w.heap.size + 2 < w3.heap.size := Nat.lt_of_lt_of_le hsz' hb3.size
            have HI3 : Hid (((w3.setCell ⟨w.heap.size + 1, 0, none⟩ (.int .u64 (hiOf (moreN x 16 d)))).setCell ⟨w.heap.size + 1, 1, none⟩ (.int .u64 (loOf (moreN x 16 d)))).heap[w.heap.size + 2]? = some (.stringIter s (p + 1))) := by
              show _ = _
              rw [Below.heap_setCell _ _ _ _ (by simp), Below.heap_setCell _ _ _ _ (by simp)]; exact hit3
            clear v0 v1 v2 v3 z0 z1 z2 z3 V1 Z1 hbel' hb3 HI2 hsz' hit3
            obtain ⟨v0, v1, v2, v3⟩ := id V3
            go_wp2
            go_roundw
            case rel => exact ⟨p + 1, moreN x 16 d, by omega, more_is _ _ _, A2, HI3.out, (V3.set0 _).set1 _, (Z3.other (by simp) _).other (by simp) _, (hbel3.setCell (by simp) _).setCell (by simp) _, by simpa using hsz3⟩
            case measure => rw [iterPos_of HI3.out, HP.out]; omega
      · have hpe : p = s.size := by omega
        have hv : cg 0 s.data.toList 0 = some x := by
          rw [← A.out, hpe, List.drop_of_length_le (by simp)]; rfl
        have E : Hid _ := HYES.out x hv
        have hend : ∀ ty, (Instr.next (.pointer (some ⟨w.heap.size + 2, 0, none⟩)) true ty).run Tryz.prog wr = _ := fun ty => Lib.run_next_end_at wr (w.heap.size + 2) s p ty hit hlt
        obtain ⟨v0, v1, v2, v3⟩ := id V
        obtain ⟨z0, z1, z2, z3⟩ := id Z
        clear hv hpe hit A HP
        go_wp2
        refine bodyPost_ret (v := .tuple #[B (fcR s.data.toList k).1, .bool (fcR s.data.toList k).2]) ?_ rfl ⟨rfl, (hbel.setCell (Nat.le_refl _) _).setCell (Nat.le_refl _) _⟩
        obtain ⟨r0, r1⟩ := zresult (x := .int .u64 (hiOf x)) (y := .int .u64 (loOf x)) z0 z1
        rw [E.out]; simp [results, Tryz.results59, go_sem, r0, r1]
  · rw [fcR_len (by rw [hlen]; exact hl)]
    have d1 : (((s.size : Nat) : Int) != 3 * (k : Int) - 1) = true := by simp [hl]
    clear hl
    go_enter Tryz.func59, Tryz.ntmps59
    go_wp2
    refine bodyPost_ret (v := .tuple #[B 0, .bool false]) ?_ rfl ⟨rfl, ?_⟩
    · rw [zero_words]; simp [results, Tryz.results59, go_sem]
    · go_grown
end Go.Proofs.YtlgfpjaomiomjaaGreatDoor
