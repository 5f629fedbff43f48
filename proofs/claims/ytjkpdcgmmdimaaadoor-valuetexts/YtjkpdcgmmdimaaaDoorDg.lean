/- strings.SplitN at a dot, five parts at most: the parts, and where they lie; memory only grows. -/
import Derived.Test.YtjkpdcgmmdimaaaDoorBd
import Derived.Test.YtjkpdcgmmdimaaaDoorShi
import Derived.Lib.IndexLaws
namespace Go.Proofs.YtjkpdcgmmdimaaaDoor
open Go.RowKit
set_option linter.unusedVariables false
set_option linter.unusedSimpArgs false
theorem info9 : (Tryd.prog.info? 9).map (fun i => (i.zero, i.size, i.bytes)) = some (some (.string ByteArray.empty), 1, 16) := by kernel_rfl

/-- A text cut at its dots, at most m times. -/
def splitD : Nat → ByteArray → List ByteArray
  | 0, s => [s]
  | m + 1, s => if Lib.indexByte s.data.toList 46 < 0 then [s] else s.extract 0 (Lib.indexByte s.data.toList 46).toNat :: splitD m (s.extract ((Lib.indexByte s.data.toList 46).toNat + 1) s.size)
theorem splitD_pos (m : Nat) (s : ByteArray) : 1 ≤ (splitD m s).length := by cases m <;> simp [splitD]; split <;> simp
theorem splitD_le (m : Nat) : ∀ s : ByteArray, (splitD m s).length ≤ m + 1 := by
  induction m with
  | zero => intro s; simp [splitD]
  | succ m ih => intro s; simp only [splitD]; split <;> simp; exact ih _
theorem ix_lt (l : List UInt8) (c : UInt8) (h : ¬ Lib.indexByte l c < 0) : (Lib.indexByte l c).toNat < l.length := by
  obtain ⟨k, hk⟩ := Int.eq_ofNat_of_zero_le (by omega : 0 ≤ Lib.indexByte l c)
  have := (Lib.indexByte_some hk).1
  rw [hk]
  exact (List.getElem?_eq_some_iff.1 this).1
/-- More cuts than there are bytes make nothing new. -/
theorem splitD_enough : ∀ (m : Nat) (s : ByteArray), s.size ≤ m → splitD m s = splitD (m + 1) s := by
  intro m; induction m with
  | zero =>
    intro s h
    have hl : s.data.toList = [] := by
      apply List.eq_nil_of_length_eq_zero; have : s.data.toList.length = s.size := by simp
      omega
    have e : Lib.indexByte s.data.toList 46 = -1 := by rw [hl]; rfl
    rw [splitD, splitD, e]; rfl
  | succ m ih =>
    intro s h
    rw [splitD, splitD]
    by_cases h0 : Lib.indexByte s.data.toList 46 < 0
    · rw [if_pos h0, if_pos h0]
    · rw [if_neg h0, if_neg h0]
      congr 1
      apply ih
      rw [ByteArray.size_extract]
      omega
theorem splitD_five (s : ByteArray) (N : Nat) (hN : min (5 : Int) ((s.size : Int) + 1) = (N : Int)) : splitD (N - 1) s = splitD 4 s := by
  by_cases h : 4 ≤ s.size
  · rw [show N - 1 = 4 by omega]
  · have e : N - 1 = s.size := by omega
    have hle : ∀ j, splitD s.size s = splitD (s.size + j) s := by
      intro j; induction j with
      | zero => rfl
      | succ j ih => rw [ih, splitD_enough (s.size + j) s (by omega)]; rfl
    rw [e, hle (4 - s.size), show s.size + (4 - s.size) = 4 by omega]

/-- A row of strings in memory. -/
def Strs (w : World) (g N : Nat) (f : Nat → ByteArray) : Prop := ∀ t, t < N → w.cell? ⟨g, t, none⟩ = some (.string (f t)) ∧ w.frozen? ⟨g, t, none⟩ = false
theorem Strs.set {w : World} {g N : Nat} {f : Nat → ByteArray} (h : Strs w g N f) (j : Nat) (b : ByteArray) (hj : j < N) : Strs (w.setCell ⟨g, j, none⟩ (.string b)) g N (fun t => if t = j then b else f t) := fun t ht => by
  obtain ⟨h1, h2⟩ := h t ht
  refine ⟨?_, by simpa using h2⟩
  by_cases e : t = j
  · subst e; simp only [if_true]; exact World.cell?_setCell_same _ _ _ h1
  · simp only [e, if_false]; rw [World.cell?_setCell_other _ _ _ _ (by intro x; injection x with _ x _; exact e x.symm)]; exact h1
theorem Strs.made {w : World} {base g k : Nat} (h : w.ownsRow base 9 1 (.slice (some ⟨g, 0, none⟩) k k) k (madeCells #[.string ByteArray.empty] k).toList) : Strs w g k (fun _ => ByteArray.empty) := fun t ht => by
  rcases h.2 with ⟨e, _⟩ | ⟨g', cap, cur, e, _, hg, hc1, hc2, hsz, htk⟩
  · cases e
  · injection e with e _ e3
    injection e with e
    injection e with e _ _
    subst e
    refine ⟨?_, by simp [World.frozen?, hg]⟩
    rw [cell_of_row w g t _ _ _ hg]
    have h1 : (cur.toList.take (k * 1))[t]? = ((madeCells #[Value.string ByteArray.empty] k).toList)[t]? := by rw [htk]
    rw [List.getElem?_take, if_pos (by omega)] at h1
    rw [show cur[t]? = cur.toList[t]? by simp, h1]
    simp [madeCells, ht, Nat.mod_one]

theorem split_end {wr : World} {g N i : Nat} {f : Nat → ByteArray} {done P : List ByteArray} {r : ByteArray} (hdl : done.length = i) (hiN : i < N) (R : Strs wr g N f) (AF : ∀ j b, done[j]? = some b → f j = b) (e : done ++ [r] = P) :
    P.length = i + 1 ∧ ∀ j b, P[j]? = some b → (wr.setCell ⟨g, i, none⟩ (.string r)).cell? ⟨g, j, none⟩ = some (.string b) := by
  subst e
  refine ⟨by simp [hdl], fun j b hj => ?_⟩
  have R2 := R.set i r hiN
  have hjl := (List.getElem?_eq_some_iff.1 hj).1
  simp [hdl] at hjl
  have := (R2 j (by omega)).1
  rw [this]
  by_cases e : j = i
  · subst e
    rw [List.getElem?_append_right (by omega)] at hj
    simp [hdl] at hj
    simp [hj]
  · rw [List.getElem?_append_left (by omega)] at hj
    simp only [e, if_false]; rw [AF j b hj]

set_option maxHeartbeats 2000000 in
set_option maxRecDepth 100000 in
theorem genSplit_five (s : ByteArray) (hs : s.size ≤ 140737488351232) (w : World) : Calls Tryd.prog 83 #[.string s, .string ⟨#[46]⟩, .int .i64 0, .int .i64 5] w fun e w' => ∃ N, e = .returned (.slice (some ⟨w.heap.size, 0, none⟩) (splitD 4 s).length N) ∧ (∀ j b, (splitD 4 s)[j]? = some b → w'.cell? ⟨w.heap.size, j, none⟩ = some (.string b)) ∧ Below w.heap.size w w' := by
  obtain ⟨i0, hi, hz0, hz1, hz2⟩ := info_parts info9
  obtain ⟨N, hN⟩ : ∃ N : Nat, min (5 : Int) ((s.size : Int) + 1) = (N : Int) := ⟨(min (5 : Int) ((s.size : Int) + 1)).toNat, by omega⟩
  have N1 : 1 ≤ N := by omega
  have N5 : N ≤ 5 := by omega
  have HS : Hid (splitD (N - 1) s = splitD 4 s) := splitD_five s N hN
  have HI : Hid (∀ (s : ByteArray) (w : World), Calls Tryd.prog 87 #[.string s, .string ⟨#[46]⟩] w fun e w' => e = .returned (.int .i64 (Lib.indexByte s.data.toList 46)) ∧ w' = w) := fun s w => Tryd.strings_Index_one s 46 w
  go_enter Tryd.func83, Tryd.ntmps83
  go_wp2_with (at_make; refine wpList_make_full _ rfl _ _ 83 rfl w.heap.size 9 i0 (.string ByteArray.empty) 1 Tryd.underlying83 hi hz0 hz1 _ _ _ _ N rfl rfl rfl rfl ?c1 ?c2 ?c3 ?_)
  case c1 => rw [hz2]; omega
  case c2 => unfold maxLen; omega
  case c3 => omega
  intro w2 hown hgrow
  have R2 := Strs.made hown
  have B2 : Below w.heap.size w w2 := (Below.refl _ _).grown hgrow (Nat.le_refl _) (fun _ h => by cases h)
  clear hown hgrow
  go_wp2_with fail
  go_loopw [0, 10] (fun t c wr => ∃ (i : Nat) (r : ByteArray) (f : Nat → ByteArray) (done : List ByteArray), i < N ∧ c = .int .i64 i ∧ t = .string r ∧ r.size ≤ s.size ∧ done.length = i ∧ Aside (done ++ splitD (N - 1 - i) r = splitD (N - 1) s) ∧ Strs wr w.heap.size N f ∧ Aside (∀ j b, done[j]? = some b → f j = b) ∧ Below w.heap.size w wr) (fun _ c _ => N - (intOf c).toNat)
  case atStart => exact ⟨0, s, _, [], by omega, rfl, rfl, Nat.le_refl _, rfl, rfl, R2, (fun j b h => by simp at h), B2⟩
  case round =>
    obtain ⟨i, r, f, done, hiN, rfl, rfl, hrs, hdl, A, R, AF, hB⟩ := hrel
    clear R2 B2
    obtain ⟨rc, rf⟩ := R i hiN
    by_cases hlt : i < N - 1
    · have hlt' : (i : Int) < (N : Int) - 1 := by omega
      go_wp2_with fail
      refine (HI.out _ _).mono ?_
      rintro e w3 ⟨rfl, rfl⟩
      by_cases hneg : Lib.indexByte r.data.toList 46 < 0
      · have E := split_end hdl hiN R AF.out (P := splitD 4 s) (r := r) (by
          have := A.out
          rw [show N - 1 - i = N - 1 - i - 1 + 1 by omega, splitD, if_pos hneg, HS.out] at this
          exact this)
        have HE : Hid _ := E
        clear E A AF R
        go_wp2
        go_ret
        refine ⟨N, ?_, HE.out.2, hB.setCell (Nat.le_refl _) _⟩
        rw [HE.out.1]; rfl
      · have hix := ix_lt _ _ hneg
        obtain ⟨m, hm⟩ := Int.eq_ofNat_of_zero_le (by omega : 0 ≤ Lib.indexByte r.data.toList 46)
        rw [hm]
        have hmr : m < r.size := by rw [hm] at hix; simpa using hix
        have A2 : Aside ((done ++ [r.extract 0 m]) ++ splitD (N - 1 - (i + 1)) (r.extract (m + 1) r.size) = splitD (N - 1) s) := by
          have := A.out
          rw [show N - 1 - i = N - 1 - (i + 1) + 1 by omega, splitD, if_neg hneg, hm, Int.toNat_natCast] at this
          rw [← this, List.append_assoc]; rfl
        have AF2 : Aside (∀ j b, (done ++ [r.extract 0 m])[j]? = some b → (if j = i then r.extract 0 m else f j) = b) := fun j b hj => by
          by_cases e : j = i
          · subst e; rw [List.getElem?_append_right (by omega)] at hj; simp [hdl] at hj; simp [hj]
          · have hjl := (List.getElem?_eq_some_iff.1 hj).1
            simp [hdl] at hjl
            rw [List.getElem?_append_left (by omega)] at hj; simp only [e, if_false]; exact AF.out j b hj
        clear hm hix hneg A AF
        go_wp2
        refine ⟨⟨i + 1, _, _, _, by omega, by go_num, rfl, ?_, by simp [hdl], A2, R.set i _ hiN, AF2, hB.setCell (Nat.le_refl _) _⟩, by simp only [intOf]; omega⟩
        rw [ByteArray.size_extract]; omega
    · have hlt' : decide ((i : Int) < (N : Int) - 1) = false := by simp; omega
      have E := split_end hdl hiN R AF.out (P := splitD 4 s) (r := r) (by
        have := A.out
        rw [show N - 1 - i = 0 by omega, splitD, HS.out] at this
        exact this)
      have HE : Hid _ := E
      clear E A AF R hlt
      go_wp2
      go_ret
      refine ⟨N, ?_, HE.out.2, hB.setCell (Nat.le_refl _) _⟩
      rw [HE.out.1]; rfl
theorem splitN_five (s : ByteArray) (hs : s.size ≤ 140737488351232) (w : World) : Calls Tryd.prog 74 #[.string s, .string ⟨#[46]⟩, .int .i64 5] w fun e w' => ∃ N, e = .returned (.slice (some ⟨w.heap.size, 0, none⟩) (splitD 4 s).length N) ∧ (∀ j b, (splitD 4 s)[j]? = some b → w'.cell? ⟨w.heap.size, j, none⟩ = some (.string b)) ∧ Below w.heap.size w w' := by
  have C : Hid (∀ w : World, Calls Tryd.prog 83 #[.string s, .string ⟨#[46]⟩, .int .i64 0, .int .i64 5] w fun e w' => ∃ N, e = .returned (.slice (some ⟨w.heap.size, 0, none⟩) (splitD 4 s).length N) ∧ (∀ j b, (splitD 4 s)[j]? = some b → w'.cell? ⟨w.heap.size, j, none⟩ = some (.string b)) ∧ Below w.heap.size w w') := genSplit_five s hs
  generalize splitD 4 s = P at *
  go_enter Tryd.func74, Tryd.ntmps74
  go_wp2_with fail
  refine (C.out _).mono ?_
  rintro e w1 ⟨N, rfl, hc, hb⟩
  have HC : Hid _ := hc
  clear hc
  go_wp2
  go_ret
  exact ⟨N, rfl, HC.out, hb⟩
end Go.Proofs.YtjkpdcgmmdimaaaDoor
