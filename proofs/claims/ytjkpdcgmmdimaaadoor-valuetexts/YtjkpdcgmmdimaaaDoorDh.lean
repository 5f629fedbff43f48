/- Package value's fromDots: any text. -/
import Derived.Test.YtjkpdcgmmdimaaaDoorDg
namespace Go.Proofs.YtjkpdcgmmdimaaaDoor
open Go.RowKit
set_option linter.unusedVariables false
set_option linter.unusedSimpArgs false

/-- One part of a text of Dots: the number of a byte. -/
def part8 (p : ByteArray) : Option Nat := if (fdN 10 p.data.toList).2 = 0 ∧ fitsN (fdN 10 p.data.toList).1 8 = true then some (fdN 10 p.data.toList).1 else none
def doR : List ByteArray → Nat → Option Nat
  | [], a => some a
  | p :: ps, a => match part8 p with
    | none => none
    | some b => doR ps (a * 256 + b)
/-- What fromDots answers. -/
def dotsR (s : ByteArray) : Nat × Bool := if (splitD 4 s).length = 4 then (match doR (splitD 4 s) 0 with | none => (0, false) | some v => (v, true)) else (0, false)
theorem dotsR_len {s : ByteArray} (h : (splitD 4 s).length ≠ 4) : dotsR s = (0, false) := by unfold dotsR; rw [if_neg h]
theorem dotsR_none {s : ByteArray} (h : (splitD 4 s).length = 4) (hd : doR (splitD 4 s) 0 = none) : dotsR s = (0, false) := by unfold dotsR; rw [if_pos h, hd]
theorem dotsR_some {s : ByteArray} {v : Nat} (h : (splitD 4 s).length = 4) (hd : doR (splitD 4 s) 0 = some v) : dotsR s = (v, true) := by unfold dotsR; rw [if_pos h, hd]
theorem doR_none {p : ByteArray} {ps : List ByteArray} {a : Nat} (h : part8 p = none) : doR (p :: ps) a = none := by rw [doR, h]
theorem doR_some {p : ByteArray} {ps : List ByteArray} {a b : Nat} (h : part8 p = some b) : doR (p :: ps) a = doR ps (a * 256 + b) := by rw [doR, h]
theorem part8_lt {p : ByteArray} {b : Nat} (h : part8 p = some b) : b < 256 := by
  unfold part8 at h; split at h
  · next hh => injection h with h; subst h; have := hh.2; unfold fitsN at this; simp at this; exact this.2
  · cases h
theorem part_size : ∀ (m : Nat) (s : ByteArray) (p : ByteArray), p ∈ splitD m s → p.size ≤ s.size := by
  intro m; induction m with
  | zero => intro s p hp; simp [splitD] at hp; subst hp; exact Nat.le_refl _
  | succ m ih =>
    intro s p hp
    rw [splitD] at hp
    split at hp
    · simp at hp; subst hp; exact Nat.le_refl _
    · rcases List.mem_cons.1 hp with rfl | hp
      · rw [ByteArray.size_extract]; omega
      · have := ih _ _ hp; rw [ByteArray.size_extract] at this; omega
theorem shl8 (a b : Nat) (ha : a < 16777216) (hb : b < 256) : bits .or .u64 (IntKind.u64.wrap ((a : Int) * 256)) (b : Int) = ((a * 256 + b : Nat) : Int) := by
  have e1 : IntKind.u64.wrap ((a : Int) * 256) = ((a * 256 : Nat) : Int) := by rw [IntKind.wrap_u64]; omega
  rw [e1, u64_or_nat _ _ (by omega) (by omega), show a * 256 = 2 ^ 8 * a by omega, or_small (by omega)]
theorem shl8' (a b : Nat) (ha : a < 16777216) (hb : b < 256) : bits .or .u64 ((a : Int) * 256) (b : Int) = ((a * 256 + b : Nat) : Int) := by
  have e1 : ((a : Int) * 256) = ((a * 256 : Nat) : Int) := by omega
  rw [e1, u64_or_nat _ _ (by omega) (by omega), show a * 256 = 2 ^ 8 * a by omega, or_small (by omega)]

set_option maxHeartbeats 2000000 in
set_option maxRecDepth 100000 in
theorem fromDots_any (s : ByteArray) (hs : s.size ≤ 140737488351232) (w : World) (hT : Tab w) :
    Calls Tryd.prog 61 #[.string s] w fun e w' => e = .returned (.tuple #[B (dotsR s).1, .bool (dotsR s).2]) ∧ Below w.heap.size w w' := by
  have HN : Hid ((splitD 4 s).length ≠ 4 → dotsR s = (0, false)) := dotsR_len
  have HNO : Hid ((splitD 4 s).length = 4 → doR (splitD 4 s) 0 = none → dotsR s = (0, false)) := dotsR_none
  have HYES : Hid ((splitD 4 s).length = 4 → ∀ v, doR (splitD 4 s) 0 = some v → dotsR s = (v, true)) := fun h v hv => dotsR_some h hv
  have HSZ : Hid (∀ p, p ∈ splitD 4 s → p.size ≤ 140737488351232) := fun p hp => Nat.le_trans (part_size 4 s p hp) hs
  have hle := splitD_le 4 s
  have C : Hid (∀ w : World, Calls Tryd.prog 74 #[.string s, .string ⟨#[46]⟩, .int .i64 5] w fun e w' => ∃ N, e = .returned (.slice (some ⟨w.heap.size, 0, none⟩) (splitD 4 s).length N) ∧ (∀ j b, (splitD 4 s)[j]? = some b → w'.cell? ⟨w.heap.size, j, none⟩ = some (.string b)) ∧ Below w.heap.size w w') := splitN_five s hs
  generalize splitD 4 s = P at *
  have B0 : Below w.heap.size w (w.alloc (.cells #[.int .u64 0, .int .u64 0] 24)) := by go_grown
  have Z0 := Wds.new w 0 0
  have HT : Hid (Tab w) := hT
  clear hT
  go_enter Tryd.func61, Tryd.ntmps61
  go_wp2_with fail
  refine (C.out _).mono ?_
  rintro e w1 ⟨N, rfl, hc, hb1⟩
  have HC : Hid _ := hc
  have Z1 := Z0.below hb1 Z0.lt
  have hB1 := bstep B0 hb1
  clear hc Z0 B0 hb1
  obtain ⟨z0, z1, z2, z3⟩ := id Z1
  by_cases hl : P.length = 4
  · have HL : Hid (P.length = 4) := hl
    have hq : (((P.length : Nat) : Int) != 4) = false := by simp [hl]
    clear hl
    go_wp2_with fail
    go_loopw [18] (fun c wr => ∃ k a : Nat, k ≤ 4 ∧ c = .int .i64 k ∧ a < 256 ^ k ∧ Aside (doR (P.drop k) a = doR P 0) ∧ Wds wr w1.heap.size 0 a ∧ Below w1.heap.size w1 wr) (fun c _ => 4 - (intOf c).toNat)
    case atStart => exact ⟨0, 0, by omega, rfl, by simp, rfl, Wds.new w1 0 0, (Below.refl _ _).alloc (Nat.le_refl _) _⟩
    case round =>
      obtain ⟨k, a, hk, rfl, ha, A, V, hBr⟩ := hrel
      obtain ⟨v0, v1, v2, v3⟩ := id V
      have hz1 := Z1.lt
      by_cases hlt : k < 4
      · have hkl : k < P.length := by rw [HL.out]; exact hlt
        obtain ⟨p, hp⟩ : ∃ p, P[k]? = some p := ⟨P[k], List.getElem?_eq_getElem hkl⟩
        have hps := HSZ.out p (List.mem_of_getElem? hp)
        have pc1 : w1.cell? ⟨w.heap.size + 1, k, none⟩ = some (.string p) := by have := HC.out k p hp; simpa using this
        have pc : wr.cell? ⟨w.heap.size + 1, k, none⟩ = some (.string p) := by
          rw [hBr.cell (p := ⟨w.heap.size + 1, k, none⟩) (World.block_lt_of_cell? w1 ⟨w.heap.size + 1, k, none⟩ pc1)]; exact pc1
        have A2 : Aside (∀ b, part8 p = some b → doR (P.drop (k + 1)) (a * 256 + b) = doR P 0) := fun b hb => by
          rw [← A.out, List.drop_eq_getElem_cons hkl, doR_some (by rw [List.getElem?_eq_getElem hkl] at hp; injection hp with hp; rw [hp]; exact hb)]
        have A3 : Aside (part8 p = none → doR P 0 = none) := fun hb => by
          rw [← A.out, List.drop_eq_getElem_cons hkl, doR_none (by rw [List.getElem?_eq_getElem hkl] at hp; injection hp with hp; rw [hp]; exact hb)]
        have FD : Hid (∀ w, Tab w → Calls Tryd.prog 75 #[.string p, .int .u64 10] w fun e w' => e = .returned (.tuple #[B (fdN 10 p.data.toList).1, .int .i64 (fdN 10 p.data.toList).2]) ∧ Below w.heap.size w w') := fun w hT => fd10 p (by unfold maxLen; omega) w hT
        have hP8 : part8 p = if (fdN 10 p.data.toList).2 = 0 ∧ fitsN (fdN 10 p.data.toList).1 8 = true then some (fdN 10 p.data.toList).1 else none := rfl
        have HP8 : Hid _ := hP8
        have HI : Hid (Is128 (fdN 10 p.data.toList).1) := fdN_is 10 _
        have hTr : Tab wr := (HT.out.below hB1).below hBr
        have HTr : Hid (Tab wr) := hTr
        have ha' : a < 16777216 := by
          have := Nat.pow_le_pow_right (n := 256) (by decide) (show k ≤ 3 by omega)
          exact Nat.lt_of_lt_of_le ha this
        have HA : Hid (a < 256 ^ k) := ha
        clear hP8 hTr A hp pc1 ha
        generalize fdN 10 p.data.toList = f at *
        go_wp2_with fail
        refine (FD.out _ HTr.out).mono ?_
        rintro e w2 ⟨rfl, hb2⟩
        have V2 := (V.below hb2 V.lt).past (.cells #[.int .u64 (hiOf f.1), .int .u64 (loOf f.1)] 24)
        have F2 := Box.new w2 f.1
        have hBr2' := bstep hBr hb2
        have hBr2 := hBr2'.alloc hBr2'.size (.cells #[.int .u64 (hiOf f.1), .int .u64 (loOf f.1)] 24)
        have Z2 : Wds (w2.alloc (.cells #[.int .u64 (hiOf f.1), .int .u64 (loOf f.1)] 24)) w.heap.size 0 0 := Z1.below hBr2 hz1
        have hne : w1.heap.size ≠ w2.heap.size := by have := V.lt; have := hb2.size; omega
        clear v0 v1 v2 v3 z0 z1 z2 z3 pc V hBr hb2 hBr2'
        obtain ⟨z0, z1, z2, z3⟩ := id Z2
        by_cases h0 : f.2 = 0
        · have h0' : (f.2 != 0) = false := by simp [h0]
          have FIT : Hid (∀ w, Calls Tryd.prog 10 #[B f.1, .int .i64 8] w fun e w' => e = .returned (.bool (fitsN f.1 8)) ∧ Below w.heap.size w w') := fits_any f.1 HI.out 8
          obtain ⟨f0, f1⟩ := id F2
          cases hf : fitsN f.1 8
          · have HNN : Hid _ := A3.out (by rw [HP8.out, if_neg (by rw [hf]; simp)])
            have E : Hid _ := HNO.out HL.out HNN.out
            rw [hf] at FIT
            clear h0 hf
            go_wp2_with fail
            refine (FIT.out _).mono ?_
            rintro e w3 ⟨rfl, hb3⟩
            have Z3 := Z2.below hb3 Z2.lt
            have hB3 := bstep (hB1.trans (hBr2.mono hB1.size)) hb3
            clear z0 z1 z2 z3 f0 f1
            obtain ⟨z0, z1, z2, z3⟩ := id Z3
            go_wp2
            refine bodyPost_ret (v := .tuple #[B (dotsR s).1, .bool (dotsR s).2]) ?_ rfl ⟨rfl, (hB3.setCell (Nat.le_refl _) _).setCell (Nat.le_refl _) _⟩
            obtain ⟨r0, r1⟩ := zresult (x := .int .u64 0) (y := .int .u64 0) z0 z1
            rw [E.out, zero_words]; simp [results, Tryd.results61, go_sem, r0, r1]
          · have hb8 : f.1 < 256 := by unfold fitsN at hf; simp at hf; exact hf.2
            have A4 := A2.out f.1 (by rw [HP8.out, if_pos ⟨h0, hf⟩])
            have hlo : loOf f.1 = ((f.1 : Nat) : Int) := by unfold loOf; omega
            have X1 : Hid (bits BinOp.or IntKind.u64 ((a : Int) * 256) (loOf f.1) = ((a * 256 + f.1 : Nat) : Int)) := by show _ = _; rw [hlo]; exact shl8' a f.1 ha' hb8
            have HA4 : Aside (doR (P.drop (k + 1)) (a * 256 + f.1) = doR P 0) := A4
            have hpw : Aside (a * 256 + f.1 < 256 ^ (k + 1)) := by
              have := HA.out
              show _ < _
              rw [Nat.pow_succ]
              have h2 := Nat.mul_le_mul_right 256 (show a + 1 ≤ 256 ^ k from this)
              omega
            rw [hf] at FIT
            clear h0 hf A4 hlo
            go_wp2_with fail
            refine (FIT.out _).mono ?_
            rintro e w3 ⟨rfl, hb3⟩
            have V3 := V2.below hb3 V2.lt
            have F3 := F2.below hb3 F2.lt
            have hBr3 := bstep hBr2 hb3
            clear z0 z1 z2 z3 f0 f1 V2 F2 hBr2 hb3 Z2
            obtain ⟨f0, f1⟩ := id F3
            obtain ⟨v0, v1, v2, v3⟩ := id V3
            go_wp2
            rw [X1.out]
            exact ⟨⟨k + 1, a * 256 + f.1, by omega, by go_num, hpw.out, HA4, V3.set1 _, hBr3.setCell (Nat.le_refl _) _⟩, by simp only [intOf]; omega⟩
        · have h0' : (f.2 != 0) = true := by simp [h0]
          have HNN : Hid _ := A3.out (by rw [HP8.out, if_neg (by intro h; exact h0 h.1)])
          have E : Hid _ := HNO.out HL.out HNN.out
          have hB3 := hB1.trans (hBr2.mono hB1.size)
          clear h0
          go_wp2
          refine bodyPost_ret (v := .tuple #[B (dotsR s).1, .bool (dotsR s).2]) ?_ rfl ⟨rfl, (hB3.setCell (Nat.le_refl _) _).setCell (Nat.le_refl _) _⟩
          obtain ⟨r0, r1⟩ := zresult (x := .int .u64 0) (y := .int .u64 0) z0 z1
          rw [E.out, zero_words]; simp [results, Tryd.results61, go_sem, r0, r1]
      · obtain rfl : k = 4 := by omega
        have hv : doR P 0 = some a := by rw [← A.out, List.drop_of_length_le (by rw [HL.out]; omega)]; rfl
        have E : Hid _ := HYES.out HL.out a hv
        have Z2 := Z1.below hBr hz1
        have hB2 := hB1.trans (hBr.mono hB1.size)
        have hw : hiOf a = 0 ∧ loOf a = (a : Int) := by
          have : a < 4294967296 := ha
          unfold hiOf loOf; omega
        have HW : Hid _ := hw
        clear z0 z1 z2 z3 hv hw A ha
        obtain ⟨z0, z1, z2, z3⟩ := id Z2
        have hl4 : ((4 : Int) < (P.length : Int)) = False := by rw [HL.out]; simp
        go_wp2
        refine bodyPost_ret (v := .tuple #[B (dotsR s).1, .bool (dotsR s).2]) ?_ rfl ⟨rfl, (hB2.setCell (Nat.le_refl _) _).setCell (Nat.le_refl _) _⟩
        obtain ⟨r0, r1⟩ := zresult (x := .int .u64 0) (y := .int .u64 (a : Int)) z0 z1
        rw [E.out]; simp [results, Tryd.results61, go_sem, r0, r1, HW.out.1, HW.out.2]
  · have E : Hid _ := HN.out hl
    have hq : (((P.length : Nat) : Int) != 4) = true := by simp; omega
    clear hl
    go_wp2
    refine bodyPost_ret (v := .tuple #[B (dotsR s).1, .bool (dotsR s).2]) ?_ rfl ⟨rfl, (hB1.setCell (Nat.le_refl _) _).setCell (Nat.le_refl _) _⟩
    obtain ⟨r0, r1⟩ := zresult (x := .int .u64 0) (y := .int .u64 0) z0 z1
    rw [E.out, zero_words]; simp [results, Tryd.results61, go_sem, r0, r1]
end Go.Proofs.YtjkpdcgmmdimaaaDoor
