/- The walk of SumsApart: whatever the text, the place and the mask: true; older memory is as it was. -/
import Derived.Test.YtabipemlemppjabDoorSl
import Derived.Test.YtabipemlemppjabDoorAm
import Derived.Laws.IdiomStrings
namespace Go.Proofs.YtabipemlemppjabDoor
open Go.RowKit
set_option linter.unusedVariables false
set_option linter.unusedSimpArgs false

/-- A row of bytes lies in memory, and may be written. -/
def Row8 (w : World) (g : Nat) (l : List UInt8) : Prop := ∀ j (h : j < l.length), w.cell? ⟨g, j, none⟩ = some (.int .u8 (l[j].toNat : Int)) ∧ w.frozen? ⟨g, j, none⟩ = false
theorem row8_made (w : World) (s : ByteArray) : ∃ k W, (convert 9 24 (.string s)).run Tryd.prog w = .ok (.slice (some ⟨w.heap.size, 0, none⟩) s.size k) W ∧ Row8 W w.heap.size s.data.toList ∧ Below w.heap.size w W ∧ w.heap.size < W.heap.size := by
  refine ⟨_, _, run_bytes_of_string (P := Tryd.prog) w 9 24 5 s Tryd.underlying9 Tryd.underlying24 Tryd.underlying5, ?_, ?_, ?_⟩
  · intro j h
    have hj : j < s.data.size := by simpa using h
    have e1 := World.cell?_alloc_mark w.drew (bytesRow s (grownCap w s.size 0 5)) 5 ((bytesRow s (grownCap w s.size 0 5)).size, (bytesRow s (grownCap w s.size 0 5)).size + 1) j
    have e2 := World.frozen?_alloc_mark w.drew (bytesRow s (grownCap w s.size 0 5)) 5 (bytesRow s (grownCap w s.size 0 5)).size ((bytesRow s (grownCap w s.size 0 5)).size + 1) j
    rw [bytesRow_at s _ j hj] at e1
    refine ⟨e1, ?_⟩
    have hsz : j < (bytesRow s (grownCap w s.size 0 5)).size := by
      have := bytesRow_at s (grownCap w s.size 0 5) j hj
      exact (Array.getElem?_eq_some_iff.1 this).1
    refine e2.trans ?_
    rw [show decide ((bytesRow s (grownCap w s.size 0 5)).size ≤ j) = false by simp; omega, Bool.false_and]
  · exact ((Below.refl w.heap.size w).drew).alloc (Nat.le_refl _) _
  · show w.heap.size < (w.drew.alloc _).heap.size
    rw [World.size_alloc]; exact Nat.lt_succ_self _
theorem Row8.set {w : World} {g : Nat} {l : List UInt8} (h : Row8 w g l) (j : Nat) (hj : j < l.length) (x : UInt8) : Row8 (w.setCell ⟨g, j, none⟩ (.int .u8 (x.toNat : Int))) g (l.set j x) := by
  intro i hi
  have hi' : i < l.length := by simpa using hi
  obtain ⟨c, f⟩ := h i hi'
  by_cases e : i = j
  · subst e
    refine ⟨?_, by simpa using f⟩
    rw [World.cell?_setCell_same _ _ _ c]; simp
  · refine ⟨?_, by simpa using f⟩
    rw [World.cell?_setCell_other _ _ _ _ (by intro q; injection q with _ q _; omega), List.getElem_set_ne (by omega)]; exact c
theorem Row8.back {w : World} {g cap : Nat} {l : List UInt8} (h : Row8 w g l) (n : Nat) (hn : n = l.length) : (convert 24 9 (.slice (some ⟨g, 0, none⟩) n cap)).run Tryd.prog w = .ok (.string ⟨l.toArray⟩) w := by
  subst hn
  refine run_convert_bytes_back (P := Tryd.prog) w 24 9 5 ⟨g, 0, none⟩ cap l Tryd.underlying24 Tryd.underlying5 Tryd.underlying9 (fun j hj => ?_)
  rw [show (⟨g, 0, none⟩ : Addr).add j = ⟨g, j, none⟩ by unfold Addr.add; split <;> simp_all]
  exact (h j hj).1
theorem strs_one (w : World) (x : ByteArray) (t : TypeId) : Strs (w.alloc (.cells #[.string x] t)) w.heap.size 0 [x] := by
  intro i h
  match i, h with
  | 0, _ => simp
theorem sum_one (s : ByteArray) (hs : s.size ≤ 9223372036854775807) (w : World) (hT : Tab w) : Calls Tryd.prog 7 #[.slice (some ⟨w.heap.size, 0, none⟩) 1 1] (w.alloc (.cells #[.string s] 9)) fun e w' => e = .returned (.int .u32 (moreC 0 s.data.toList)) ∧ w' = w.alloc (.cells #[.string s] 9) :=
  sum_any w.heap.size 0 1 [s] (by simp) (by simpa using hs) _ (hT.below ((Below.refl _ _).alloc (Nat.le_refl _) _)) (strs_one w s 9)
theorem byte_at_list (l : List UInt8) (i j V : Nat) (h : i + j < l.length) : (l.take i ++ xorV j (l.drop i) V)[i + j]? = some (l[i + j]) := by
  rw [List.getElem?_append_right (by simp; omega)]
  have : i + j - (l.take i).length = j := by simp; omega
  rw [this, xorV_at j (l.drop i) V (by simp; omega)]
  simp
theorem mixed_set (l : List UInt8) (i j V : Nat) (h : i + j < l.length) : l.take i ++ xorV (j + 1) (l.drop i) V = (l.take i ++ xorV j (l.drop i) V).set (i + j) (l[i + j] ^^^ UInt8.ofNat (V / 256 ^ j % 256)) := by
  have h' : j < (l.drop i).length := by simp; omega
  rw [xorV_set j _ V h', List.set_append_right _ _ (by simp; omega), List.getElem_drop]
  congr 2
  simp; omega
theorem mixed_length (l : List UInt8) (i j V : Nat) (h : i ≤ l.length) : (l.take i ++ xorV j (l.drop i) V).length = l.length := by
  rw [List.length_append, xorV_length]; simp; omega
theorem turned_next (V j : Nat) : (decide (V % 256 ^ j ≠ 0) || decide (0 < V / 256 ^ j % 256)) = decide (V % 256 ^ (j + 1) ≠ 0) := by
  have e : V % 256 ^ (j + 1) = V % 256 ^ j + 256 ^ j * (V / 256 ^ j % 256) := by rw [Nat.pow_succ, Nat.mod_mul]
  have hp : 0 < 256 ^ j := Nat.pow_pos (by decide)
  rw [e]
  rcases Nat.eq_zero_or_pos (V / 256 ^ j % 256) with h | h
  · simp [h]
  · have : 0 < 256 ^ j * (V / 256 ^ j % 256) := Nat.mul_pos hp h
    simp [h]; right; omega

theorem Row8.past {w : World} {g : Nat} {l : List UInt8} (h : Row8 w g l) (hg : g < w.heap.size) (o : Obj) : Row8 (w.alloc o) g l := fun j hj => by
  have hb := (Below.refl w.heap.size w).alloc (Nat.le_refl _) o
  rw [hb.cell (p := ⟨g, j, none⟩) hg, hb.frozen (p := ⟨g, j, none⟩) hg]; exact h j hj
theorem xor_byte (a b : UInt8) (y : Nat) (hy : y < 256) (hb : b = UInt8.ofNat y) : bits .xor .u8 (a.toNat : Int) (y : Int) = ((a ^^^ b).toNat : Int) := by
  subst hb
  rw [u8_xor_nat a.toNat y a.toNat_lt hy, UInt8.toNat_xor]
  simp [UInt8.toNat_ofNat', Nat.mod_eq_of_lt hy]
theorem pow_step (j q : Nat) : 2 ^ (j + 1) * q = 2 * (2 ^ j * q) := by rw [Nat.pow_succ, Nat.mul_comm (2 ^ j) 2, Nat.mul_assoc]
theorem pow_small (j q : Nat) (hj : j < 8) (hq : q < 4294967296) : 2 ^ j * q < 1099511627776 := by
  have : 2 ^ j ≤ 2 ^ 7 := Nat.pow_le_pow_right (by decide) (by omega)
  have := Nat.mul_le_mul this (Nat.le_of_lt_succ (Nat.lt_succ_of_lt hq))
  have e : (2 : Nat) ^ 7 = 128 := rfl
  rw [e] at this; omega
theorem div_step (V j : Nat) : V / 256 ^ (j + 1) = V / 256 ^ j / 256 := by rw [Nat.pow_succ, Nat.div_div_eq_div_mul]
theorem Tab.set {w : World} (h : Tab w) {g : Nat} (hg : 0 < g) (j : Nat) (v : Value) : Tab (w.setCell ⟨g, j, none⟩ v) := fun d hd => by
  rw [World.cell?_setCell_other _ _ _ _ (by intro e; injection e with e _ _; omega)]; exact h d hd
theorem ne_is (a b : Nat) (c : Bool) (h : (a = b) ↔ c = false) : (((a : Int) != (b : Int)) == c) = true := by
  cases c <;> simp at h ⊢ <;> omega

set_option maxHeartbeats 8000000 in
theorem apart_walk (s : ByteArray) (hs : s.size ≤ 140737488351232) (place : Int) (hp0 : -9223372036854775808 ≤ place) (hp1 : place ≤ 9223372036854775807) (q : Nat) (hq : q < 4294967296) (w : World) (hT : Tab w) :
    Calls Tryd.prog 3 #[.string s, .int .i64 place, .int .u32 q] w fun e w' => e = .returned (.bool true) ∧ Below w.heap.size w w' := by
  have CL : Hid (∀ w : World, Tab w → Calls Tryd.prog 6 #[] w fun e w' => e = .returned (.bool true) ∧ Below w.heap.size w w') := live_any
  have CM : Hid (∀ w : World, ∃ k W, (convert 9 24 (.string s)).run Tryd.prog w = .ok (.slice (some ⟨w.heap.size, 0, none⟩) s.size k) W ∧ Row8 W w.heap.size s.data.toList ∧ Below w.heap.size w W ∧ w.heap.size < W.heap.size) := fun w => row8_made w s
  have CO : Hid (∀ w : World, Tab w → Calls Tryd.prog 7 #[.slice (some ⟨w.heap.size, 0, none⟩) 1 1] (w.alloc (.cells #[.string s] 9)) fun e w' => e = .returned (.int .u32 (moreC 0 s.data.toList)) ∧ w' = w.alloc (.cells #[.string s] 9)) := fun w h => sum_one s (by omega) w h
  have hlen : s.data.toList.length = s.size := by simp
  have W32 : IntKind.u64.wrap (q : Int) = (q : Int) := by rw [IntKind.wrap_u64]; omega
  have hcase : (∃ p : Nat, place = p ∧ p / 8 < s.size) ∨ place < 0 ∨ (0 ≤ place ∧ (s.size : Int) ≤ place / 8) := by
    by_cases h : place < 0
    · exact .inr (.inl h)
    · by_cases h' : (s.size : Int) ≤ place / 8
      · exact .inr (.inr ⟨by omega, h'⟩)
      · exact .inl ⟨place.toNat, by omega, by omega⟩
  rcases hcase with ⟨p, rfl, hpl⟩ | hneg | ⟨hpos, hbig⟩
  · have hpn : decide ((s.size : Int) ≤ (p : Int) / 8) = false := by simp; omega
    have hpm : decide ((p : Int) < 0) = false := by simp
    obtain ⟨i0, hi0⟩ : ∃ i0, p / 8 = i0 := ⟨_, rfl⟩
    obtain ⟨s0, hs0⟩ : ∃ s0, p % 8 = s0 := ⟨_, rfl⟩
    have e8' : (p : Int) / 8 = (i0 : Int) := by omega
    have e8 : Hid ((p : Int) / 8 = (i0 : Int)) := e8'
    clear e8'
    have m8 : (p : Int) % 8 = (s0 : Int) := by omega
    have hi1 : i0 ≤ s.size := by omega
    have hs1 : s0 < 8 := by omega
    go_enter Tryd.func3, Tryd.ntmps3
    go_wp2_with fail
    refine (CL.out _ hT).mono ?_
    rintro e w1 ⟨rfl, hb1⟩
    obtain ⟨k, W2, hrun, hrow, hb2, hz2⟩ := CM.out w1
    have T2 : Tab W2 := (hT.below hb1).below hb2
    have B2 : Below w.heap.size w W2 := hb1.trans (hb2.mono hb1.size)
    have HR : Hid (Row8 W2 w1.heap.size s.data.toList) := hrow
    have hg0 : w.heap.size ≤ w1.heap.size := hb1.size
    have hpos0 : 0 < w.heap.size := hT.pos
    clear hrow hb1 hb2 hT CM CL
    generalize w1.heap.size = g at *
    go_wp2
    clear hrun
    go_loopw [9, 10] (fun a i wr => ∃ j : Nat, i = .int .i64 j ∧ j ≤ s0 ∧ a = .int .u64 ((2 ^ j * q : Nat) : Int) ∧ wr = W2) (fun _ i _ => (s0 - intOf i).toNat)
    case atStart => exact ⟨0, rfl, Nat.zero_le _, by rw [Nat.pow_zero, Nat.one_mul], rfl⟩
    case round =>
      obtain ⟨j, rfl, hj, rfl, rfl⟩ := hrel
      by_cases hjs : j < s0
      · have hX := pow_small j q (by omega) hq
        have HS : Hid (2 ^ (j + 1) * q = 2 * (2 ^ j * q)) := pow_step j q
        generalize 2 ^ j * q = X at *
        go_wp2
        exact ⟨⟨j + 1, rfl, by omega, by rw [HS.out]; exact congrArg (Value.int .u64) (by omega), trivial⟩, by simp only [intOf]; omega⟩
      · obtain rfl : j = s0 := by omega
        have hX := pow_small j q hs1 hq
        have HA : Hid (∀ jj, i0 + jj ≤ s.size → ((moreC 0 s.data.toList = moreC 0 (s.data.toList.take i0 ++ xorV jj (s.data.toList.drop i0) (2 ^ j * q))) ↔ 2 ^ j * q % 256 ^ jj = 0)) := fun jj hjj => sum_apart s.data.toList i0 jj j q (by omega) (by omega) hs1 hq
        generalize 2 ^ j * q = V at *
        go_wp2
        clear m8
        go_loopw [9, 11, 12] (fun a t i wr => ∃ jj : Nat, i = .int .i64 ((i0 + jj : Nat) : Int) ∧ i0 + jj ≤ s.size ∧ a = .int .u64 ((V / 256 ^ jj : Nat) : Int) ∧ t = .bool (decide (V % 256 ^ jj ≠ 0)) ∧ Row8 wr g (s.data.toList.take i0 ++ xorV jj (s.data.toList.drop i0) V) ∧ Below w.heap.size w wr ∧ Tab wr ∧ g < wr.heap.size) (fun _ _ i _ => (s.size - intOf i).toNat)
        case atStart => exact ⟨0, congrArg (Value.int .i64) e8.out, by omega, by rw [Nat.pow_zero, Nat.div_one], by rw [Nat.pow_zero, Nat.mod_one]; rfl, by rw [xorV, List.take_append_drop]; exact HR.out, B2, T2, hz2⟩
        case round =>
          obtain ⟨jj, rfl, hjj, rfl, rfl, hrow, hB, hTr, hgr⟩ := hrel
          have hXl : V / 256 ^ jj ≤ V := Nat.div_le_self _ _
          have hml := mixed_length s.data.toList i0 jj V (by omega)
          by_cases hlt : i0 + jj < s.size
          · by_cases hnz : 0 < V / 256 ^ jj
            · have hij : i0 + jj < s.data.toList.length := by rw [hlen]; exact hlt
              have hb := byte_at_list s.data.toList i0 jj V hij
              have hm := mixed_set s.data.toList i0 jj V hij
              obtain ⟨c0, f0⟩ := hrow (i0 + jj) (by rw [hml]; omega)
              have hset := hrow.set (i0 + jj) (by rw [hml]; omega) (s.data.toList[i0 + jj]'hij ^^^ UInt8.ofNat (V / 256 ^ jj % 256))
              rw [← hm] at hset
              rw [List.getElem?_eq_getElem (by rw [hml]; omega)] at hb
              have c1 : wr.cell? ⟨g, i0 + jj, none⟩ = some (.int .u8 ((s.data.toList[i0 + jj]'hij).toNat : Int)) := by rw [c0, Option.some.inj hb]
              clear c0
              have E := xor_byte (s.data.toList[i0 + jj]'hij) _ (V / 256 ^ jj % 256) (Nat.mod_lt _ (by decide)) rfl
              have HT : Hid ((decide (V % 256 ^ jj ≠ 0) || decide (0 < V / 256 ^ jj % 256)) = decide (V % 256 ^ (jj + 1) ≠ 0)) := turned_next V jj
              have HD : Hid (V / 256 ^ (jj + 1) = V / 256 ^ jj / 256) := div_step V jj
              have HS : Hid (Row8 (wr.setCell ⟨g, i0 + jj, none⟩ (.int .u8 ((s.data.toList[i0 + jj]'hij ^^^ UInt8.ofNat (V / 256 ^ jj % 256)).toNat : Int))) g (s.data.toList.take i0 ++ xorV (jj + 1) (s.data.toList.drop i0) V)) := hset
              have hyl : V / 256 ^ jj % 256 < 256 := Nat.mod_lt _ (by decide)
              clear hset hm hb hrow hml
              generalize (s.data.toList[i0 + jj]'hij ^^^ UInt8.ofNat (V / 256 ^ jj % 256)) = z at *
              generalize s.data.toList[i0 + jj]'hij = y at *
              generalize decide (V % 256 ^ jj ≠ 0) = tb at *
              have em : ((V / 256 ^ jj : Nat) : Int) % 256 = ((V / 256 ^ jj % 256 : Nat) : Int) := by omega
              generalize V / 256 ^ jj % 256 = ym at *
              generalize V / 256 ^ jj = X at *
              have B3 : Below w.heap.size w (wr.setCell ⟨g, i0 + jj, none⟩ (.int .u8 (z.toNat : Int))) := hB.setCell hg0 _
              have T3 : Tab (wr.setCell ⟨g, i0 + jj, none⟩ (.int .u8 (z.toNat : Int))) := hTr.set (by omega) _ _
              have hz3 : g < (wr.setCell ⟨g, i0 + jj, none⟩ (.int .u8 (z.toNat : Int))).heap.size := by rw [World.size_setCell]; exact hgr
              rcases tb with _ | _
              · go_wp2
                go_roundw
                case rel => exact ⟨jj + 1, congrArg (Value.int .i64) (by omega), by omega, by rw [HD.out]; rfl, by rw [← HT.out]; rfl, HS.out, B3, T3, hz3⟩
                case measure => simp [intOf]; omega
              · go_wp2
                go_roundw
                case rel => exact ⟨jj + 1, congrArg (Value.int .i64) (by omega), by omega, by rw [HD.out]; rfl, by rw [← HT.out]; rfl, HS.out, B3, T3, hz3⟩
                case measure => simp [intOf]; omega
            · have hz0 : V / 256 ^ jj = 0 := Nat.eq_zero_of_not_pos hnz
              rw [hz0]
              have hA := HA.out jj hjj
              have hrow2 : Row8 (wr.alloc (.cells #[.string s] 9)) g (s.data.toList.take i0 ++ xorV jj (s.data.toList.drop i0) V) := hrow.past hgr _
              have T4 : Tab (wr.alloc (.cells #[.string s] 9)) := hTr.below ((Below.refl _ _).alloc (Nat.le_refl _) _)
              have B4 : Below w.heap.size w (wr.alloc (.cells #[.string s] 9)) := hB.alloc hB.size _
              have CO' : Hid (Calls Tryd.prog 7 #[.slice (some ⟨wr.heap.size, 0, none⟩) 1 1] (wr.alloc (.cells #[.string s] 9)) fun e w' => e = .returned (.int .u32 (moreC 0 s.data.toList)) ∧ w' = wr.alloc (.cells #[.string s] 9)) := CO.out wr hTr
              have hconv := hrow2.back (cap := k) s.size (by rw [hml, hlen])
              generalize hmx : (s.data.toList.take i0 ++ xorV jj (s.data.toList.drop i0) V) = mx at *
              have CP : Hid (∀ w : World, Tab w → Calls Tryd.prog 7 #[.slice (some ⟨w.heap.size, 0, none⟩) 1 1] (w.alloc (.cells #[.string ⟨mx.toArray⟩] 9)) fun e w' => e = .returned (.int .u32 (moreC 0 mx)) ∧ w' = w.alloc (.cells #[.string ⟨mx.toArray⟩] 9)) := fun w h => by
                have h9 : (⟨mx.toArray⟩ : ByteArray).size ≤ 9223372036854775807 := by
                  show mx.toArray.size ≤ _
                  rw [List.size_toArray, hml, hlen]; omega
                have := sum_one ⟨mx.toArray⟩ h9 w h
                simpa using this
              generalize hV : V % 256 ^ jj = Vm at *
              have HF : Hid ((((moreC 0 s.data.toList : Nat) : Int) != ((moreC 0 mx : Nat) : Int)) = decide (Vm ≠ 0)) := by
                show _ = _
                have := ne_is (moreC 0 s.data.toList) (moreC 0 mx) (decide (Vm ≠ 0)) (by rw [hA]; simp)
                simpa using this
              generalize moreC 0 s.data.toList = S1 at *
              generalize moreC 0 mx = S2 at *
              clear hA hrow hrow2 HA CO HR hV hmx hml
              go_wp2_with fail
              refine CO'.out.mono ?_
              rintro e w5 ⟨rfl, rfl⟩
              generalize wr.alloc (.cells #[.string s] 9) = W5 at *
              go_wp2_with fail
              refine (CP.out W5 T4).mono ?_
              rintro e w6 ⟨rfl, rfl⟩
              have B6 : Below w.heap.size w (W5.alloc (.cells #[.string ⟨mx.toArray⟩] 9)) := B4.alloc B4.size _
              go_wp2
              go_ret
              refine ⟨?_, B6⟩
              have := HF.out
              simp at this ⊢
              exact this
          · have hA := HA.out jj hjj
            have hrow2 : Row8 (wr.alloc (.cells #[.string s] 9)) g (s.data.toList.take i0 ++ xorV jj (s.data.toList.drop i0) V) := hrow.past hgr _
            have T4 : Tab (wr.alloc (.cells #[.string s] 9)) := hTr.below ((Below.refl _ _).alloc (Nat.le_refl _) _)
            have B4 : Below w.heap.size w (wr.alloc (.cells #[.string s] 9)) := hB.alloc hB.size _
            have CO' : Hid (Calls Tryd.prog 7 #[.slice (some ⟨wr.heap.size, 0, none⟩) 1 1] (wr.alloc (.cells #[.string s] 9)) fun e w' => e = .returned (.int .u32 (moreC 0 s.data.toList)) ∧ w' = wr.alloc (.cells #[.string s] 9)) := CO.out wr hTr
            have hconv := hrow2.back (cap := k) s.size (by rw [hml, hlen])
            generalize hmx : (s.data.toList.take i0 ++ xorV jj (s.data.toList.drop i0) V) = mx at *
            have CP : Hid (∀ w : World, Tab w → Calls Tryd.prog 7 #[.slice (some ⟨w.heap.size, 0, none⟩) 1 1] (w.alloc (.cells #[.string ⟨mx.toArray⟩] 9)) fun e w' => e = .returned (.int .u32 (moreC 0 mx)) ∧ w' = w.alloc (.cells #[.string ⟨mx.toArray⟩] 9)) := fun w h => by
              have h9 : (⟨mx.toArray⟩ : ByteArray).size ≤ 9223372036854775807 := by
                show mx.toArray.size ≤ _
                rw [List.size_toArray, hml, hlen]; omega
              have := sum_one ⟨mx.toArray⟩ h9 w h
              simpa using this
            generalize hV : V % 256 ^ jj = Vm at *
            have HF : Hid ((((moreC 0 s.data.toList : Nat) : Int) != ((moreC 0 mx : Nat) : Int)) = decide (Vm ≠ 0)) := by
              show _ = _
              have := ne_is (moreC 0 s.data.toList) (moreC 0 mx) (decide (Vm ≠ 0)) (by rw [hA]; simp)
              simpa using this
            generalize moreC 0 s.data.toList = S1 at *
            generalize moreC 0 mx = S2 at *
            clear hA hrow hrow2 HA CO HR hV hmx hml
            go_wp2_with fail
            refine CO'.out.mono ?_
            rintro e w5 ⟨rfl, rfl⟩
            generalize wr.alloc (.cells #[.string s] 9) = W5 at *
            go_wp2_with fail
            refine (CP.out W5 T4).mono ?_
            rintro e w6 ⟨rfl, rfl⟩
            have B6 : Below w.heap.size w (W5.alloc (.cells #[.string ⟨mx.toArray⟩] 9)) := B4.alloc B4.size _
            go_wp2
            go_ret
            refine ⟨?_, B6⟩
            have := HF.out
            simp at this ⊢
            exact this
  · have hpm : decide (place < 0) = true := by simp; omega
    obtain ⟨i0, hi0⟩ : ∃ i0 : Nat, i0 = 0 := ⟨_, rfl⟩
    obtain ⟨s0, hs0⟩ : ∃ s0 : Nat, s0 = 0 := ⟨_, rfl⟩
    have hi1 : i0 ≤ s.size := by omega
    have hs1 : s0 < 8 := by omega
    have HI : Hid (i0 = 0) := hi0
    have HZ : Hid (s0 = 0) := hs0
    clear hi0 hs0
    go_enter Tryd.func3, Tryd.ntmps3
    go_wp2_with fail
    refine (CL.out _ hT).mono ?_
    rintro e w1 ⟨rfl, hb1⟩
    obtain ⟨k, W2, hrun, hrow, hb2, hz2⟩ := CM.out w1
    have T2 : Tab W2 := (hT.below hb1).below hb2
    have B2 : Below w.heap.size w W2 := hb1.trans (hb2.mono hb1.size)
    have HR : Hid (Row8 W2 w1.heap.size s.data.toList) := hrow
    have hg0 : w.heap.size ≤ w1.heap.size := hb1.size
    have hpos0 : 0 < w.heap.size := hT.pos
    clear hrow hb1 hb2 hT CM CL
    generalize w1.heap.size = g at *
    go_wp2
    clear hrun
    go_loopw [9, 10] (fun a i wr => ∃ j : Nat, i = .int .i64 j ∧ j ≤ s0 ∧ a = .int .u64 ((2 ^ j * q : Nat) : Int) ∧ wr = W2) (fun _ i _ => (s0 - intOf i).toNat)
    case atStart => exact ⟨0, rfl, Nat.zero_le _, by rw [Nat.pow_zero, Nat.one_mul], rfl⟩
    case round =>
      obtain ⟨j, rfl, hj, rfl, rfl⟩ := hrel
      by_cases hjs : j < s0
      · have := HZ.out; omega
      · obtain rfl : j = s0 := by omega
        have hX := pow_small j q hs1 hq
        have HA : Hid (∀ jj, i0 + jj ≤ s.size → ((moreC 0 s.data.toList = moreC 0 (s.data.toList.take i0 ++ xorV jj (s.data.toList.drop i0) (2 ^ j * q))) ↔ 2 ^ j * q % 256 ^ jj = 0)) := fun jj hjj => sum_apart s.data.toList i0 jj j q (by omega) (by omega) hs1 hq
        generalize 2 ^ j * q = V at *
        go_wp2
        go_loopw [9, 11, 12] (fun a t i wr => ∃ jj : Nat, i = .int .i64 ((i0 + jj : Nat) : Int) ∧ i0 + jj ≤ s.size ∧ a = .int .u64 ((V / 256 ^ jj : Nat) : Int) ∧ t = .bool (decide (V % 256 ^ jj ≠ 0)) ∧ Row8 wr g (s.data.toList.take i0 ++ xorV jj (s.data.toList.drop i0) V) ∧ Below w.heap.size w wr ∧ Tab wr ∧ g < wr.heap.size) (fun _ _ i _ => (s.size - intOf i).toNat)
        case atStart => exact ⟨0, congrArg (Value.int .i64) (by have := HI.out; omega), by omega, by rw [Nat.pow_zero, Nat.div_one], by rw [Nat.pow_zero, Nat.mod_one]; rfl, by rw [xorV, List.take_append_drop]; exact HR.out, B2, T2, hz2⟩
        case round =>
          obtain ⟨jj, rfl, hjj, rfl, rfl, hrow, hB, hTr, hgr⟩ := hrel
          have hXl : V / 256 ^ jj ≤ V := Nat.div_le_self _ _
          have hml := mixed_length s.data.toList i0 jj V (by omega)
          by_cases hlt : i0 + jj < s.size
          · by_cases hnz : 0 < V / 256 ^ jj
            · have hij : i0 + jj < s.data.toList.length := by rw [hlen]; exact hlt
              have hb := byte_at_list s.data.toList i0 jj V hij
              have hm := mixed_set s.data.toList i0 jj V hij
              obtain ⟨c0, f0⟩ := hrow (i0 + jj) (by rw [hml]; omega)
              have hset := hrow.set (i0 + jj) (by rw [hml]; omega) (s.data.toList[i0 + jj]'hij ^^^ UInt8.ofNat (V / 256 ^ jj % 256))
              rw [← hm] at hset
              rw [List.getElem?_eq_getElem (by rw [hml]; omega)] at hb
              have c1 : wr.cell? ⟨g, i0 + jj, none⟩ = some (.int .u8 ((s.data.toList[i0 + jj]'hij).toNat : Int)) := by rw [c0, Option.some.inj hb]
              clear c0
              have E := xor_byte (s.data.toList[i0 + jj]'hij) _ (V / 256 ^ jj % 256) (Nat.mod_lt _ (by decide)) rfl
              have HT : Hid ((decide (V % 256 ^ jj ≠ 0) || decide (0 < V / 256 ^ jj % 256)) = decide (V % 256 ^ (jj + 1) ≠ 0)) := turned_next V jj
              have HD : Hid (V / 256 ^ (jj + 1) = V / 256 ^ jj / 256) := div_step V jj
              have HS : Hid (Row8 (wr.setCell ⟨g, i0 + jj, none⟩ (.int .u8 ((s.data.toList[i0 + jj]'hij ^^^ UInt8.ofNat (V / 256 ^ jj % 256)).toNat : Int))) g (s.data.toList.take i0 ++ xorV (jj + 1) (s.data.toList.drop i0) V)) := hset
              have hyl : V / 256 ^ jj % 256 < 256 := Nat.mod_lt _ (by decide)
              clear hset hm hb hrow hml
              generalize (s.data.toList[i0 + jj]'hij ^^^ UInt8.ofNat (V / 256 ^ jj % 256)) = z at *
              generalize s.data.toList[i0 + jj]'hij = y at *
              generalize decide (V % 256 ^ jj ≠ 0) = tb at *
              have em : ((V / 256 ^ jj : Nat) : Int) % 256 = ((V / 256 ^ jj % 256 : Nat) : Int) := by omega
              generalize V / 256 ^ jj % 256 = ym at *
              generalize V / 256 ^ jj = X at *
              have B3 : Below w.heap.size w (wr.setCell ⟨g, i0 + jj, none⟩ (.int .u8 (z.toNat : Int))) := hB.setCell hg0 _
              have T3 : Tab (wr.setCell ⟨g, i0 + jj, none⟩ (.int .u8 (z.toNat : Int))) := hTr.set (by omega) _ _
              have hz3 : g < (wr.setCell ⟨g, i0 + jj, none⟩ (.int .u8 (z.toNat : Int))).heap.size := by rw [World.size_setCell]; exact hgr
              rcases tb with _ | _
              · go_wp2
                go_roundw
                case rel => exact ⟨jj + 1, congrArg (Value.int .i64) (by omega), by omega, by rw [HD.out]; rfl, by rw [← HT.out]; rfl, HS.out, B3, T3, hz3⟩
                case measure => simp [intOf]; omega
              · go_wp2
                go_roundw
                case rel => exact ⟨jj + 1, congrArg (Value.int .i64) (by omega), by omega, by rw [HD.out]; rfl, by rw [← HT.out]; rfl, HS.out, B3, T3, hz3⟩
                case measure => simp [intOf]; omega
            · have hz0 : V / 256 ^ jj = 0 := Nat.eq_zero_of_not_pos hnz
              rw [hz0]
              have hA := HA.out jj hjj
              have hrow2 : Row8 (wr.alloc (.cells #[.string s] 9)) g (s.data.toList.take i0 ++ xorV jj (s.data.toList.drop i0) V) := hrow.past hgr _
              have T4 : Tab (wr.alloc (.cells #[.string s] 9)) := hTr.below ((Below.refl _ _).alloc (Nat.le_refl _) _)
              have B4 : Below w.heap.size w (wr.alloc (.cells #[.string s] 9)) := hB.alloc hB.size _
              have CO' : Hid (Calls Tryd.prog 7 #[.slice (some ⟨wr.heap.size, 0, none⟩) 1 1] (wr.alloc (.cells #[.string s] 9)) fun e w' => e = .returned (.int .u32 (moreC 0 s.data.toList)) ∧ w' = wr.alloc (.cells #[.string s] 9)) := CO.out wr hTr
              have hconv := hrow2.back (cap := k) s.size (by rw [hml, hlen])
              generalize hmx : (s.data.toList.take i0 ++ xorV jj (s.data.toList.drop i0) V) = mx at *
              have CP : Hid (∀ w : World, Tab w → Calls Tryd.prog 7 #[.slice (some ⟨w.heap.size, 0, none⟩) 1 1] (w.alloc (.cells #[.string ⟨mx.toArray⟩] 9)) fun e w' => e = .returned (.int .u32 (moreC 0 mx)) ∧ w' = w.alloc (.cells #[.string ⟨mx.toArray⟩] 9)) := fun w h => by
                have h9 : (⟨mx.toArray⟩ : ByteArray).size ≤ 9223372036854775807 := by
                  show mx.toArray.size ≤ _
                  rw [List.size_toArray, hml, hlen]; omega
                have := sum_one ⟨mx.toArray⟩ h9 w h
                simpa using this
              generalize hV : V % 256 ^ jj = Vm at *
              have HF : Hid ((((moreC 0 s.data.toList : Nat) : Int) != ((moreC 0 mx : Nat) : Int)) = decide (Vm ≠ 0)) := by
                show _ = _
                have := ne_is (moreC 0 s.data.toList) (moreC 0 mx) (decide (Vm ≠ 0)) (by rw [hA]; simp)
                simpa using this
              generalize moreC 0 s.data.toList = S1 at *
              generalize moreC 0 mx = S2 at *
              clear hA hrow hrow2 HA CO HR hV hmx hml
              go_wp2_with fail
              refine CO'.out.mono ?_
              rintro e w5 ⟨rfl, rfl⟩
              generalize wr.alloc (.cells #[.string s] 9) = W5 at *
              go_wp2_with fail
              refine (CP.out W5 T4).mono ?_
              rintro e w6 ⟨rfl, rfl⟩
              have B6 : Below w.heap.size w (W5.alloc (.cells #[.string ⟨mx.toArray⟩] 9)) := B4.alloc B4.size _
              go_wp2
              go_ret
              refine ⟨?_, B6⟩
              have := HF.out
              simp at this ⊢
              exact this
          · have hA := HA.out jj hjj
            have hrow2 : Row8 (wr.alloc (.cells #[.string s] 9)) g (s.data.toList.take i0 ++ xorV jj (s.data.toList.drop i0) V) := hrow.past hgr _
            have T4 : Tab (wr.alloc (.cells #[.string s] 9)) := hTr.below ((Below.refl _ _).alloc (Nat.le_refl _) _)
            have B4 : Below w.heap.size w (wr.alloc (.cells #[.string s] 9)) := hB.alloc hB.size _
            have CO' : Hid (Calls Tryd.prog 7 #[.slice (some ⟨wr.heap.size, 0, none⟩) 1 1] (wr.alloc (.cells #[.string s] 9)) fun e w' => e = .returned (.int .u32 (moreC 0 s.data.toList)) ∧ w' = wr.alloc (.cells #[.string s] 9)) := CO.out wr hTr
            have hconv := hrow2.back (cap := k) s.size (by rw [hml, hlen])
            generalize hmx : (s.data.toList.take i0 ++ xorV jj (s.data.toList.drop i0) V) = mx at *
            have CP : Hid (∀ w : World, Tab w → Calls Tryd.prog 7 #[.slice (some ⟨w.heap.size, 0, none⟩) 1 1] (w.alloc (.cells #[.string ⟨mx.toArray⟩] 9)) fun e w' => e = .returned (.int .u32 (moreC 0 mx)) ∧ w' = w.alloc (.cells #[.string ⟨mx.toArray⟩] 9)) := fun w h => by
              have h9 : (⟨mx.toArray⟩ : ByteArray).size ≤ 9223372036854775807 := by
                show mx.toArray.size ≤ _
                rw [List.size_toArray, hml, hlen]; omega
              have := sum_one ⟨mx.toArray⟩ h9 w h
              simpa using this
            generalize hV : V % 256 ^ jj = Vm at *
            have HF : Hid ((((moreC 0 s.data.toList : Nat) : Int) != ((moreC 0 mx : Nat) : Int)) = decide (Vm ≠ 0)) := by
              show _ = _
              have := ne_is (moreC 0 s.data.toList) (moreC 0 mx) (decide (Vm ≠ 0)) (by rw [hA]; simp)
              simpa using this
            generalize moreC 0 s.data.toList = S1 at *
            generalize moreC 0 mx = S2 at *
            clear hA hrow hrow2 HA CO HR hV hmx hml
            go_wp2_with fail
            refine CO'.out.mono ?_
            rintro e w5 ⟨rfl, rfl⟩
            generalize wr.alloc (.cells #[.string s] 9) = W5 at *
            go_wp2_with fail
            refine (CP.out W5 T4).mono ?_
            rintro e w6 ⟨rfl, rfl⟩
            have B6 : Below w.heap.size w (W5.alloc (.cells #[.string ⟨mx.toArray⟩] 9)) := B4.alloc B4.size _
            go_wp2
            go_ret
            refine ⟨?_, B6⟩
            have := HF.out
            simp at this ⊢
            exact this
  · have hpm : decide (place < 0) = false := by simp; omega
    have hpn : decide ((s.size : Int) ≤ place / 8) = true := by simp; omega
    obtain ⟨i0, hi0⟩ : ∃ i0 : Nat, i0 = 0 := ⟨_, rfl⟩
    obtain ⟨s0, hs0⟩ : ∃ s0 : Nat, s0 = 0 := ⟨_, rfl⟩
    have hi1 : i0 ≤ s.size := by omega
    have hs1 : s0 < 8 := by omega
    have HI : Hid (i0 = 0) := hi0
    have HZ : Hid (s0 = 0) := hs0
    clear hi0 hs0
    go_enter Tryd.func3, Tryd.ntmps3
    go_wp2_with fail
    refine (CL.out _ hT).mono ?_
    rintro e w1 ⟨rfl, hb1⟩
    obtain ⟨k, W2, hrun, hrow, hb2, hz2⟩ := CM.out w1
    have T2 : Tab W2 := (hT.below hb1).below hb2
    have B2 : Below w.heap.size w W2 := hb1.trans (hb2.mono hb1.size)
    have HR : Hid (Row8 W2 w1.heap.size s.data.toList) := hrow
    have hg0 : w.heap.size ≤ w1.heap.size := hb1.size
    have hpos0 : 0 < w.heap.size := hT.pos
    clear hrow hb1 hb2 hT CM CL
    generalize w1.heap.size = g at *
    go_wp2
    clear hrun
    go_loopw [9, 10] (fun a i wr => ∃ j : Nat, i = .int .i64 j ∧ j ≤ s0 ∧ a = .int .u64 ((2 ^ j * q : Nat) : Int) ∧ wr = W2) (fun _ i _ => (s0 - intOf i).toNat)
    case atStart => exact ⟨0, rfl, Nat.zero_le _, by rw [Nat.pow_zero, Nat.one_mul], rfl⟩
    case round =>
      obtain ⟨j, rfl, hj, rfl, rfl⟩ := hrel
      by_cases hjs : j < s0
      · have := HZ.out; omega
      · obtain rfl : j = s0 := by omega
        have hX := pow_small j q hs1 hq
        have HA : Hid (∀ jj, i0 + jj ≤ s.size → ((moreC 0 s.data.toList = moreC 0 (s.data.toList.take i0 ++ xorV jj (s.data.toList.drop i0) (2 ^ j * q))) ↔ 2 ^ j * q % 256 ^ jj = 0)) := fun jj hjj => sum_apart s.data.toList i0 jj j q (by omega) (by omega) hs1 hq
        generalize 2 ^ j * q = V at *
        go_wp2
        go_loopw [9, 11, 12] (fun a t i wr => ∃ jj : Nat, i = .int .i64 ((i0 + jj : Nat) : Int) ∧ i0 + jj ≤ s.size ∧ a = .int .u64 ((V / 256 ^ jj : Nat) : Int) ∧ t = .bool (decide (V % 256 ^ jj ≠ 0)) ∧ Row8 wr g (s.data.toList.take i0 ++ xorV jj (s.data.toList.drop i0) V) ∧ Below w.heap.size w wr ∧ Tab wr ∧ g < wr.heap.size) (fun _ _ i _ => (s.size - intOf i).toNat)
        case atStart => exact ⟨0, congrArg (Value.int .i64) (by have := HI.out; omega), by omega, by rw [Nat.pow_zero, Nat.div_one], by rw [Nat.pow_zero, Nat.mod_one]; rfl, by rw [xorV, List.take_append_drop]; exact HR.out, B2, T2, hz2⟩
        case round =>
          obtain ⟨jj, rfl, hjj, rfl, rfl, hrow, hB, hTr, hgr⟩ := hrel
          have hXl : V / 256 ^ jj ≤ V := Nat.div_le_self _ _
          have hml := mixed_length s.data.toList i0 jj V (by omega)
          by_cases hlt : i0 + jj < s.size
          · by_cases hnz : 0 < V / 256 ^ jj
            · have hij : i0 + jj < s.data.toList.length := by rw [hlen]; exact hlt
              have hb := byte_at_list s.data.toList i0 jj V hij
              have hm := mixed_set s.data.toList i0 jj V hij
              obtain ⟨c0, f0⟩ := hrow (i0 + jj) (by rw [hml]; omega)
              have hset := hrow.set (i0 + jj) (by rw [hml]; omega) (s.data.toList[i0 + jj]'hij ^^^ UInt8.ofNat (V / 256 ^ jj % 256))
              rw [← hm] at hset
              rw [List.getElem?_eq_getElem (by rw [hml]; omega)] at hb
              have c1 : wr.cell? ⟨g, i0 + jj, none⟩ = some (.int .u8 ((s.data.toList[i0 + jj]'hij).toNat : Int)) := by rw [c0, Option.some.inj hb]
              clear c0
              have E := xor_byte (s.data.toList[i0 + jj]'hij) _ (V / 256 ^ jj % 256) (Nat.mod_lt _ (by decide)) rfl
              have HT : Hid ((decide (V % 256 ^ jj ≠ 0) || decide (0 < V / 256 ^ jj % 256)) = decide (V % 256 ^ (jj + 1) ≠ 0)) := turned_next V jj
              have HD : Hid (V / 256 ^ (jj + 1) = V / 256 ^ jj / 256) := div_step V jj
              have HS : Hid (Row8 (wr.setCell ⟨g, i0 + jj, none⟩ (.int .u8 ((s.data.toList[i0 + jj]'hij ^^^ UInt8.ofNat (V / 256 ^ jj % 256)).toNat : Int))) g (s.data.toList.take i0 ++ xorV (jj + 1) (s.data.toList.drop i0) V)) := hset
              have hyl : V / 256 ^ jj % 256 < 256 := Nat.mod_lt _ (by decide)
              clear hset hm hb hrow hml
              generalize (s.data.toList[i0 + jj]'hij ^^^ UInt8.ofNat (V / 256 ^ jj % 256)) = z at *
              generalize s.data.toList[i0 + jj]'hij = y at *
              generalize decide (V % 256 ^ jj ≠ 0) = tb at *
              have em : ((V / 256 ^ jj : Nat) : Int) % 256 = ((V / 256 ^ jj % 256 : Nat) : Int) := by omega
              generalize V / 256 ^ jj % 256 = ym at *
              generalize V / 256 ^ jj = X at *
              have B3 : Below w.heap.size w (wr.setCell ⟨g, i0 + jj, none⟩ (.int .u8 (z.toNat : Int))) := hB.setCell hg0 _
              have T3 : Tab (wr.setCell ⟨g, i0 + jj, none⟩ (.int .u8 (z.toNat : Int))) := hTr.set (by omega) _ _
              have hz3 : g < (wr.setCell ⟨g, i0 + jj, none⟩ (.int .u8 (z.toNat : Int))).heap.size := by rw [World.size_setCell]; exact hgr
              rcases tb with _ | _
              · go_wp2
                go_roundw
                case rel => exact ⟨jj + 1, congrArg (Value.int .i64) (by omega), by omega, by rw [HD.out]; rfl, by rw [← HT.out]; rfl, HS.out, B3, T3, hz3⟩
                case measure => simp [intOf]; omega
              · go_wp2
                go_roundw
                case rel => exact ⟨jj + 1, congrArg (Value.int .i64) (by omega), by omega, by rw [HD.out]; rfl, by rw [← HT.out]; rfl, HS.out, B3, T3, hz3⟩
                case measure => simp [intOf]; omega
            · have hz0 : V / 256 ^ jj = 0 := Nat.eq_zero_of_not_pos hnz
              rw [hz0]
              have hA := HA.out jj hjj
              have hrow2 : Row8 (wr.alloc (.cells #[.string s] 9)) g (s.data.toList.take i0 ++ xorV jj (s.data.toList.drop i0) V) := hrow.past hgr _
              have T4 : Tab (wr.alloc (.cells #[.string s] 9)) := hTr.below ((Below.refl _ _).alloc (Nat.le_refl _) _)
              have B4 : Below w.heap.size w (wr.alloc (.cells #[.string s] 9)) := hB.alloc hB.size _
              have CO' : Hid (Calls Tryd.prog 7 #[.slice (some ⟨wr.heap.size, 0, none⟩) 1 1] (wr.alloc (.cells #[.string s] 9)) fun e w' => e = .returned (.int .u32 (moreC 0 s.data.toList)) ∧ w' = wr.alloc (.cells #[.string s] 9)) := CO.out wr hTr
              have hconv := hrow2.back (cap := k) s.size (by rw [hml, hlen])
              generalize hmx : (s.data.toList.take i0 ++ xorV jj (s.data.toList.drop i0) V) = mx at *
              have CP : Hid (∀ w : World, Tab w → Calls Tryd.prog 7 #[.slice (some ⟨w.heap.size, 0, none⟩) 1 1] (w.alloc (.cells #[.string ⟨mx.toArray⟩] 9)) fun e w' => e = .returned (.int .u32 (moreC 0 mx)) ∧ w' = w.alloc (.cells #[.string ⟨mx.toArray⟩] 9)) := fun w h => by
                have h9 : (⟨mx.toArray⟩ : ByteArray).size ≤ 9223372036854775807 := by
                  show mx.toArray.size ≤ _
                  rw [List.size_toArray, hml, hlen]; omega
                have := sum_one ⟨mx.toArray⟩ h9 w h
                simpa using this
              generalize hV : V % 256 ^ jj = Vm at *
              have HF : Hid ((((moreC 0 s.data.toList : Nat) : Int) != ((moreC 0 mx : Nat) : Int)) = decide (Vm ≠ 0)) := by
                show _ = _
                have := ne_is (moreC 0 s.data.toList) (moreC 0 mx) (decide (Vm ≠ 0)) (by rw [hA]; simp)
                simpa using this
              generalize moreC 0 s.data.toList = S1 at *
              generalize moreC 0 mx = S2 at *
              clear hA hrow hrow2 HA CO HR hV hmx hml
              go_wp2_with fail
              refine CO'.out.mono ?_
              rintro e w5 ⟨rfl, rfl⟩
              generalize wr.alloc (.cells #[.string s] 9) = W5 at *
              go_wp2_with fail
              refine (CP.out W5 T4).mono ?_
              rintro e w6 ⟨rfl, rfl⟩
              have B6 : Below w.heap.size w (W5.alloc (.cells #[.string ⟨mx.toArray⟩] 9)) := B4.alloc B4.size _
              go_wp2
              go_ret
              refine ⟨?_, B6⟩
              have := HF.out
              simp at this ⊢
              exact this
          · have hA := HA.out jj hjj
            have hrow2 : Row8 (wr.alloc (.cells #[.string s] 9)) g (s.data.toList.take i0 ++ xorV jj (s.data.toList.drop i0) V) := hrow.past hgr _
            have T4 : Tab (wr.alloc (.cells #[.string s] 9)) := hTr.below ((Below.refl _ _).alloc (Nat.le_refl _) _)
            have B4 : Below w.heap.size w (wr.alloc (.cells #[.string s] 9)) := hB.alloc hB.size _
            have CO' : Hid (Calls Tryd.prog 7 #[.slice (some ⟨wr.heap.size, 0, none⟩) 1 1] (wr.alloc (.cells #[.string s] 9)) fun e w' => e = .returned (.int .u32 (moreC 0 s.data.toList)) ∧ w' = wr.alloc (.cells #[.string s] 9)) := CO.out wr hTr
            have hconv := hrow2.back (cap := k) s.size (by rw [hml, hlen])
            generalize hmx : (s.data.toList.take i0 ++ xorV jj (s.data.toList.drop i0) V) = mx at *
            have CP : Hid (∀ w : World, Tab w → Calls Tryd.prog 7 #[.slice (some ⟨w.heap.size, 0, none⟩) 1 1] (w.alloc (.cells #[.string ⟨mx.toArray⟩] 9)) fun e w' => e = .returned (.int .u32 (moreC 0 mx)) ∧ w' = w.alloc (.cells #[.string ⟨mx.toArray⟩] 9)) := fun w h => by
              have h9 : (⟨mx.toArray⟩ : ByteArray).size ≤ 9223372036854775807 := by
                show mx.toArray.size ≤ _
                rw [List.size_toArray, hml, hlen]; omega
              have := sum_one ⟨mx.toArray⟩ h9 w h
              simpa using this
            generalize hV : V % 256 ^ jj = Vm at *
            have HF : Hid ((((moreC 0 s.data.toList : Nat) : Int) != ((moreC 0 mx : Nat) : Int)) = decide (Vm ≠ 0)) := by
              show _ = _
              have := ne_is (moreC 0 s.data.toList) (moreC 0 mx) (decide (Vm ≠ 0)) (by rw [hA]; simp)
              simpa using this
            generalize moreC 0 s.data.toList = S1 at *
            generalize moreC 0 mx = S2 at *
            clear hA hrow hrow2 HA CO HR hV hmx hml
            go_wp2_with fail
            refine CO'.out.mono ?_
            rintro e w5 ⟨rfl, rfl⟩
            generalize wr.alloc (.cells #[.string s] 9) = W5 at *
            go_wp2_with fail
            refine (CP.out W5 T4).mono ?_
            rintro e w6 ⟨rfl, rfl⟩
            have B6 : Below w.heap.size w (W5.alloc (.cells #[.string ⟨mx.toArray⟩] 9)) := B4.alloc B4.size _
            go_wp2
            go_ret
            refine ⟨?_, B6⟩
            have := HF.out
            simp at this ⊢
            exact this
end Go.Proofs.YtabipemlemppjabDoor
