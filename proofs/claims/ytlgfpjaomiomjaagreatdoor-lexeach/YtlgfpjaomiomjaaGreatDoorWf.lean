/- Package value's fromDigits: any text in a base from 2 to 16: the value, or the error's number. The table of signs lies in memory; the text is no longer than any text may be. -/
import Derived.Test.YtlgfpjaomiomjaaGreatDoorWp
import Derived.Lib.OthersKept
import Derived.Laws.RangeAny
import Derived.WalkSmall
namespace Go.Proofs.YtlgfpjaomiomjaaGreatDoor
open Go.RowKit
set_option linter.unusedVariables false
set_option linter.unusedSimpArgs false

def bigB (a : Nat) : Bool := decide (340282366920938463463374607431768211456 ≤ a)

/-- What holds at the head of each round: the text from p on, with a before it, says what the whole says; the box holds a while it is not too great. -/
def FdAt (base : Nat) (s : ByteArray) (w : World) (g : Value) (wr : World) : Prop :=
  ∃ p a x : Nat, p ≤ s.size ∧ num base (s.data.toList.drop p) a = num base s.data.toList 0 ∧ g = .bool (bigB a) ∧ (bigB a = false → x = a) ∧ Is128 x ∧
    wr.heap[w.heap.size + 2]? = some (.stringIter s p) ∧ wr.cell? ⟨w.heap.size + 1, 0, none⟩ = some (.int .u64 (hiOf x)) ∧ wr.cell? ⟨w.heap.size + 1, 1, none⟩ = some (.int .u64 (loOf x)) ∧
    wr.frozen? ⟨w.heap.size + 1, 0, none⟩ = false ∧ wr.frozen? ⟨w.heap.size + 1, 1, none⟩ = false ∧
    wr.cell? ⟨w.heap.size, 0, none⟩ = some (.int .u64 0) ∧ wr.cell? ⟨w.heap.size, 1, none⟩ = some (.int .u64 0) ∧ wr.frozen? ⟨w.heap.size, 0, none⟩ = false ∧ wr.frozen? ⟨w.heap.size, 1, none⟩ = false ∧
    Below w.heap.size w wr ∧ w.heap.size + 2 < wr.heap.size

theorem byte_at (s : ByteArray) {p : Nat} (h : p < s.size) : s.data.toList.drop p = s[p] :: s.data.toList.drop (p + 1) := by
  have h' : p < s.data.toList.length := by simpa using h
  rw [List.drop_eq_getElem_cons h']; rfl

theorem fd_start (base : Nat) (s : ByteArray) (w : World) : FdAt base s w (.bool false) (((w.alloc (.cells #[.int .u64 0, .int .u64 0] 37)).alloc (.cells #[.int .u64 0, .int .u64 0] 37)).iter s 0) := by
  have e : ((w.alloc (.cells #[.int .u64 0, .int .u64 0] 37)).alloc (.cells #[.int .u64 0, .int .u64 0] 37)).iter s 0 = ((w.alloc (.cells #[.int .u64 0, .int .u64 0] 37)).alloc (.cells #[.int .u64 0, .int .u64 0] 37)).alloc (.stringIter s 0) := rfl
  rw [e]
  have hb : Below (w.heap.size + 2) ((w.alloc (.cells #[.int .u64 0, .int .u64 0] 37)).alloc (.cells #[.int .u64 0, .int .u64 0] 37)) (((w.alloc (.cells #[.int .u64 0, .int .u64 0] 37)).alloc (.cells #[.int .u64 0, .int .u64 0] 37)).alloc (.stringIter s 0)) := (Below.refl _ _).alloc (by simp) _
  refine ⟨0, 0, 0, by omega, rfl, rfl, fun _ => rfl, by unfold Is128; decide, ?_, ?_, ?_, ?_, ?_, ?_, ?_, ?_, ?_, ?_, ?_⟩
  · have := World.iter_heap ((w.alloc (.cells #[.int .u64 0, .int .u64 0] 37)).alloc (.cells #[.int .u64 0, .int .u64 0] 37)) s 0
    simpa [e] using this
  · rw [hb.cell (p := ⟨w.heap.size + 1, 0, none⟩) (by simp)]; simp [hiOf]
  · rw [hb.cell (p := ⟨w.heap.size + 1, 1, none⟩) (by simp)]; simp [loOf]
  · rw [hb.frozen (p := ⟨w.heap.size + 1, 0, none⟩) (by simp)]; simp
  · rw [hb.frozen (p := ⟨w.heap.size + 1, 1, none⟩) (by simp)]; simp
  · rw [hb.cell (p := ⟨w.heap.size, 0, none⟩) (by simp)]; simp
  · rw [hb.cell (p := ⟨w.heap.size, 1, none⟩) (by simp)]; simp
  · rw [hb.frozen (p := ⟨w.heap.size, 0, none⟩) (by simp)]; simp
  · rw [hb.frozen (p := ⟨w.heap.size, 1, none⟩) (by simp)]; simp
  · exact (((Below.refl _ _).alloc (by simp) _).alloc (by simp) _).alloc (by simp; omega) _
  · simp

theorem fd_step (base : Nat) (s : ByteArray) (w w3 : World) (p x d : Nat) (hp : p + 1 ≤ s.size) (hn : num base (s.data.toList.drop (p + 1)) (x * base + d) = num base s.data.toList 0)
    (hit : w3.heap[w.heap.size + 2]? = some (.stringIter s (p + 1))) (c0 : w3.cell? ⟨w.heap.size + 1, 0, none⟩ = some (.int .u64 (hiOf x))) (c1 : w3.cell? ⟨w.heap.size + 1, 1, none⟩ = some (.int .u64 (loOf x)))
    (f0 : w3.frozen? ⟨w.heap.size + 1, 0, none⟩ = false) (f1 : w3.frozen? ⟨w.heap.size + 1, 1, none⟩ = false) (r0 : w3.cell? ⟨w.heap.size, 0, none⟩ = some (.int .u64 0)) (r1 : w3.cell? ⟨w.heap.size, 1, none⟩ = some (.int .u64 0))
    (g0 : w3.frozen? ⟨w.heap.size, 0, none⟩ = false) (g1 : w3.frozen? ⟨w.heap.size, 1, none⟩ = false) (hbel : Below w.heap.size w w3) (hsz : w.heap.size + 2 < w3.heap.size) :
    FdAt base s w (.bool (overN x base d)) ((w3.setCell ⟨w.heap.size + 1, 0, none⟩ (.int .u64 (hiOf (moreN x base d)))).setCell ⟨w.heap.size + 1, 1, none⟩ (.int .u64 (loOf (moreN x base d)))) ∧
    ((w3.setCell ⟨w.heap.size + 1, 0, none⟩ (.int .u64 (hiOf (moreN x base d)))).setCell ⟨w.heap.size + 1, 1, none⟩ (.int .u64 (loOf (moreN x base d)))).iterPos (w.heap.size + 2) = p + 1 := by
  have hi : ((w3.setCell ⟨w.heap.size + 1, 0, none⟩ (.int .u64 (hiOf (moreN x base d)))).setCell ⟨w.heap.size + 1, 1, none⟩ (.int .u64 (loOf (moreN x base d)))).heap[w.heap.size + 2]? = some (.stringIter s (p + 1)) := by
    rw [Below.heap_setCell _ _ _ _ (by simp), Below.heap_setCell _ _ _ _ (by simp)]; exact hit
  refine ⟨⟨p + 1, x * base + d, moreN x base d, hp, hn, rfl, fun h => ?_, more_is _ _ _, hi, ?_, ?_, by simpa using f0, by simpa using f1, ?_, ?_, by simpa using g0, by simpa using g1, ?_, by simpa using hsz⟩, iterPos_of hi⟩
  · unfold bigB at h; simp only [decide_eq_false_iff_not] at h
    exact Nat.mod_eq_of_lt (by omega)
  · rw [World.cell?_setCell_other _ _ _ _ (by intro e; cases e), World.cell?_setCell_same _ _ _ c0]
  · rw [World.cell?_setCell_same _ _ _ (u := .int .u64 (loOf x))]
    rw [World.cell?_setCell_other _ _ _ _ (by intro e; cases e)]; exact c1
  · rw [World.cell?_setCell_other _ _ _ _ (by intro e; injection e with e _ _; omega), World.cell?_setCell_other _ _ _ _ (by intro e; injection e with e _ _; omega)]; exact r0
  · rw [World.cell?_setCell_other _ _ _ _ (by intro e; injection e with e _ _; omega), World.cell?_setCell_other _ _ _ _ (by intro e; injection e with e _ _; omega)]; exact r1
  · exact (hbel.setCell (by simp) _).setCell (by simp) _

set_option maxHeartbeats 2000000 in
set_option maxRecDepth 100000 in
theorem fromDigits_loop (base : Nat) (s : ByteArray) (hb0 : 2 ≤ base) (hb1 : base ≤ 16) (hs : s.size ≤ maxLen) (hne : s.data.toList ≠ []) (hz : ¬ (1 < s.data.toList.length ∧ s.data.toList.head? = some 48)) (w : World) (hT : Tab w) :
    Calls Tryz.prog 74 #[.string s, .int .u64 base] w fun e w' => e = .returned (.tuple #[B (fdN base s.data.toList).1, .int .i64 (fdN base s.data.toList).2]) ∧ Below w.heap.size w w' := by
  have h1 : s.toList.isEmpty = false := by rw [ByteArray.toList_eq]; simpa using hne
  have hfd : fdN base s.data.toList = match num base s.data.toList 0 with
    | none => (0, 12)
    | some v => if v < 340282366920938463463374607431768211456 then (v, 0) else (0, 11) := by
    unfold fdN; rw [if_neg (by rintro (h | h); exact hne h; exact hz h)]; rfl
  have HF : Hid _ := hfd
  have H0 := hT.pos
  have h00 : w.heap.size ≠ 0 := by omega
  have HT : Hid (Tab w) := hT
  unfold maxLen at hs
  have hpre : (1 < s.size ∧ ∃ h : 0 < s.size, (((s[0]'h).toNat : Int) == 48) = false) ∨ decide ((1 : Int) < s.size) = false := by
    by_cases hl : 1 < s.size
    · left
      refine ⟨hl, by omega, ?_⟩
      simp only [beq_eq_false_iff_ne]; intro e
      refine hz ⟨by simpa using hl, ?_⟩
      have e0 : s.data.toList = s[0] :: s.data.toList.drop 1 := by simpa using byte_at s (p := 0) (by omega)
      rw [e0, List.head?_cons]
      congr 1; apply UInt8.toNat_inj.1; have : (s[0]'(by omega)).toNat = 48 := by omega
      rw [this]; rfl
    · right; simp; omega
  clear hz hne hfd hT
  rcases hpre with ⟨hl, hp0, hp1⟩ | hl
  all_goals
    go_enter Tryz.func74, Tryz.ntmps74
    go_wp2
    go_loopw [7] (fun g wr => FdAt base s w g wr) (fun _ wr => s.size - wr.iterPos (w.heap.size + 2))
    case atStart => exact fd_start base s w
    case round =>
      obtain ⟨p, a, x, hp, hn, rfl, hxa, hx, hit, c0, c1, f0, f1, r0, r1, g0, g1, hbel, hsz⟩ := hrel
      have HN : Hid _ := hn
      have HX : Hid _ := hxa
      have hpos0 := iterPos_of hit
      have HP : Hid _ := hpos0
      have HI : Hid _ := hit
      clear hn hxa hpos0
      by_cases hlt : p < s.size
      · have hnx : ∀ ty, (Instr.next (.pointer (some ⟨w.heap.size + 2, 0, none⟩)) true ty).run Tryz.prog wr = _ := fun ty => Lib.run_next_any_at wr (w.heap.size + 2) s p ty hit hlt
        obtain ⟨p', hp'⟩ : ∃ p', p' = p + (Utf8.decode s p).2 := ⟨_, rfl⟩
        obtain ⟨r, hr⟩ : ∃ r, r = (Utf8.decode s p).1 := ⟨_, rfl⟩
        have hle := decode_le s p
        rw [← hr] at hnx hle
        rw [← hp'] at hnx
        have hit2 := Lib.iterAt_heap wr (w.heap.size + 2) s p p' hit
        have hb2 := Lib.below_iterAt (Below.refl (w.heap.size + 2) wr) (k := w.heap.size + 2) (Nat.le_refl _) s p'
        obtain ⟨W1, hW1⟩ : ∃ W1, W1 = wr.iterAt (w.heap.size + 2) s p' := ⟨_, rfl⟩
        rw [← hW1] at hnx hit2 hb2
        have c0' : W1.cell? ⟨w.heap.size + 1, 0, none⟩ = some (.int .u64 (hiOf x)) := by rw [hb2.cell (p := ⟨w.heap.size + 1, 0, none⟩) (by simp)]; exact c0
        have c1' : W1.cell? ⟨w.heap.size + 1, 1, none⟩ = some (.int .u64 (loOf x)) := by rw [hb2.cell (p := ⟨w.heap.size + 1, 1, none⟩) (by simp)]; exact c1
        have f0' : W1.frozen? ⟨w.heap.size + 1, 0, none⟩ = false := by rw [hb2.frozen (p := ⟨w.heap.size + 1, 0, none⟩) (by simp)]; exact f0
        have f1' : W1.frozen? ⟨w.heap.size + 1, 1, none⟩ = false := by rw [hb2.frozen (p := ⟨w.heap.size + 1, 1, none⟩) (by simp)]; exact f1
        have r0' : W1.cell? ⟨w.heap.size, 0, none⟩ = some (.int .u64 0) := by rw [hb2.cell (p := ⟨w.heap.size, 0, none⟩) (by simp)]; exact r0
        have r1' : W1.cell? ⟨w.heap.size, 1, none⟩ = some (.int .u64 0) := by rw [hb2.cell (p := ⟨w.heap.size, 1, none⟩) (by simp)]; exact r1
        have g0' : W1.frozen? ⟨w.heap.size, 0, none⟩ = false := by rw [hb2.frozen (p := ⟨w.heap.size, 0, none⟩) (by simp)]; exact g0
        have g1' : W1.frozen? ⟨w.heap.size, 1, none⟩ = false := by rw [hb2.frozen (p := ⟨w.heap.size, 1, none⟩) (by simp)]; exact g1
        have hbel' : Below w.heap.size w W1 := hbel.trans (hb2.mono (by omega))
        have hsz' : w.heap.size + 2 < W1.heap.size := Nat.lt_of_lt_of_le hsz hb2.size
        have HT1 : Hid (Tab W1) := HT.out.below hbel'
        have HI2 : Hid _ := hit2
        have HR : Hid _ := hr
        have HP' : Hid _ := hp'
        clear hW1 hit hit2 hb2 c0 c1 f0 f1 r0 r1 g0 g1 hbel hsz hr hp' HI
        cases hw : worth base s[p] with
        | none =>
          have hno : ∀ d, d < base → (r : Int) ≠ ((sgn d).toNat : Int) := by
            intro d hd e
            have hw' := worth_none hw d hd
            have hs := sgn_lt d (by omega)
            rw [HR.out] at e
            by_cases ha : (s[p]).toNat < 128
            · rw [decode_ascii s p hlt ha] at e
              exact hw' (UInt8.toNat_inj.1 (by omega))
            · have := (decode_high s p hlt (by omega)).1
              omega
          have C : Hid (∀ d, d < base → (r : Int) ≠ ((sgn d).toNat : Int)) := hno
          have HW : Hid _ := hw
          clear hno hw
          go_wp2_with fail
          refine (digitOf_no base r hb1 C.out _ HT1.out).mono ?_
          rintro e w2 ⟨rfl, rfl⟩
          have e0 : fdN base s.data.toList = (0, 12) := by rw [HF.out, ← HN.out, byte_at s hlt, num_none HW.out]
          have E0 : Hid _ := e0
          clear e0
          go_wp2_with fail
          refine bodyPost_ret (v := .tuple #[B (fdN base s.data.toList).1, .int .i64 (fdN base s.data.toList).2]) ?_ rfl ⟨rfl, ?_⟩
          · rw [E0.out, zero_words]; simp [results, Tryz.results74, go_sem, r0', r1', g0', g1']
          · exact (hbel'.setCell (Nat.le_refl _) _).setCell (Nat.le_refl _) _
        | some d =>
          obtain ⟨hdb, hsd⟩ := worth_some hw
          have hs128 := sgn_lt d (by omega)
          have ha : (s[p]).toNat < 128 := by rw [← hsd]; exact hs128
          have hdec := decode_ascii s p hlt ha
          obtain rfl : r = (sgn d).toNat := by rw [HR.out, hdec, hsd]
          obtain rfl : p' = p + 1 := by rw [HP'.out, hdec]
          have hstep : num base (s.data.toList.drop (p + 1)) (a * base + d) = num base s.data.toList 0 := by rw [← HN.out, byte_at s hlt, num_some hw]
          have HS : Hid _ := hstep
          clear hstep HR HP' hdec ha hsd hw HN
          cases hbig : bigB a
          · obtain rfl : x = a := HX.out hbig
            go_wp2_with fail
            refine (digitOf_yes base d hb1 hdb _ HT1.out).mono ?_
            rintro e w2 ⟨rfl, rfl⟩
            go_wp2_with fail
            refine (withDigit_any x base d hx hb1 hdb _).mono ?_
            rintro e w3 ⟨rfl, hb3⟩
            have c0 : w3.cell? ⟨w.heap.size + 1, 0, none⟩ = some (.int .u64 (hiOf x)) := by rw [hb3.cell (p := ⟨w.heap.size + 1, 0, none⟩) (by simp; omega)]; exact c0'
            have c1 : w3.cell? ⟨w.heap.size + 1, 1, none⟩ = some (.int .u64 (loOf x)) := by rw [hb3.cell (p := ⟨w.heap.size + 1, 1, none⟩) (by simp; omega)]; exact c1'
            have f0 : w3.frozen? ⟨w.heap.size + 1, 0, none⟩ = false := by rw [hb3.frozen (p := ⟨w.heap.size + 1, 0, none⟩) (by simp; omega)]; exact f0'
            have f1 : w3.frozen? ⟨w.heap.size + 1, 1, none⟩ = false := by rw [hb3.frozen (p := ⟨w.heap.size + 1, 1, none⟩) (by simp; omega)]; exact f1'
            have r0 : w3.cell? ⟨w.heap.size, 0, none⟩ = some (.int .u64 0) := by rw [hb3.cell (p := ⟨w.heap.size, 0, none⟩) (by simp; omega)]; exact r0'
            have r1 : w3.cell? ⟨w.heap.size, 1, none⟩ = some (.int .u64 0) := by rw [hb3.cell (p := ⟨w.heap.size, 1, none⟩) (by simp; omega)]; exact r1'
            have g0 : w3.frozen? ⟨w.heap.size, 0, none⟩ = false := by rw [hb3.frozen (p := ⟨w.heap.size, 0, none⟩) (by simp; omega)]; exact g0'
            have g1 : w3.frozen? ⟨w.heap.size, 1, none⟩ = false := by rw [hb3.frozen (p := ⟨w.heap.size, 1, none⟩) (by simp; omega)]; exact g1'
            have hit3 : w3.heap[w.heap.size + 2]? = some (.stringIter s (p + 1)) := by rw [hb3.block _ hsz']; exact HI2.out
            have hbel3 : Below w.heap.size w w3 := hbel'.trans (hb3.mono (by omega))
            have hsz3 : w.heap.size + 2 < w3.heap.size := Nat.lt_of_lt_of_le hsz' hb3.size
            have F := fd_step base s w w3 p x d (by omega) HS.out hit3 c0 c1 f0 f1 r0 r1 g0 g1 hbel3 hsz3
            have HF2 : Hid _ := F.1
            have HF3 : Hid _ := F.2
            clear F c0' c1' f0' f1' r0' r1' g0' g1' hbel' hsz' hit3 hbel3 hb3 r0 r1 g0 g1 hsz3 HI2
            go_wp2
            go_roundw
            case rel => exact HF2.out
            case measure => rw [HF3.out, HP.out]; omega
          · go_wp2_with fail
            refine (digitOf_yes base d hb1 hdb _ HT1.out).mono ?_
            rintro e w2 ⟨rfl, rfl⟩
            have hbig' : bigB (a * base + d) = true := by
              unfold bigB at *; simp only [decide_eq_true_eq] at *
              have : a ≤ a * base := Nat.le_mul_of_pos_right a (by omega)
              omega
            go_wp2
            go_roundw
            case rel => exact ⟨p + 1, a * base + d, x, by omega, HS.out, by rw [hbig'], (fun h => by rw [hbig'] at h; cases h), hx, HI2.out, c0', c1', f0', f1', r0', r1', g0', g1', hbel', hsz'⟩
            case measure => rw [iterPos_of HI2.out, HP.out]; omega
      · have hpe : p = s.size := by omega
        have hnum : num base s.data.toList 0 = some a := by
          rw [← HN.out, hpe, List.drop_of_length_le (by simp)]; rfl
        have hend : ∀ ty, (Instr.next (.pointer (some ⟨w.heap.size + 2, 0, none⟩)) true ty).run Tryz.prog wr = _ := fun ty => Lib.run_next_end_at wr (w.heap.size + 2) s p ty hit hlt
        cases hbig : bigB a
        · have e0 : fdN base s.data.toList = (a, 0) := by
            rw [HF.out, hnum]; unfold bigB at hbig; simp only [decide_eq_false_iff_not] at hbig
            show (if _ then _ else _) = _
            rw [if_pos (by omega)]
          obtain rfl : x = a := HX.out hbig
          have E0 : Hid _ := e0
          clear e0 hnum hpe hit HN HX HP HF
          go_wp2
          refine bodyPost_ret (v := .tuple #[B (fdN base s.data.toList).1, .int .i64 (fdN base s.data.toList).2]) ?_ rfl ⟨rfl, ?_⟩
          · rw [E0.out]; simp [results, Tryz.results74, go_sem, r0, r1, g0, g1]
          · exact (hbel.setCell (Nat.le_refl _) _).setCell (Nat.le_refl _) _
        · have e0 : fdN base s.data.toList = (0, 11) := by
            rw [HF.out, hnum]; unfold bigB at hbig; simp only [decide_eq_true_eq] at hbig
            show (if _ then _ else _) = _
            rw [if_neg (by omega)]
          have E0 : Hid _ := e0
          clear e0 hnum hpe hit HN HX HP HF
          go_wp2
          refine bodyPost_ret (v := .tuple #[B (fdN base s.data.toList).1, .int .i64 (fdN base s.data.toList).2]) ?_ rfl ⟨rfl, ?_⟩
          · rw [E0.out, zero_words]; simp [results, Tryz.results74, go_sem, r0, r1, g0, g1]
          · exact (hbel.setCell (Nat.le_refl _) _).setCell (Nat.le_refl _) _
end Go.Proofs.YtlgfpjaomiomjaaGreatDoor
