/- Package lex: IsName, lettered. -/
import Derived.Test.YtlgfpjaomiomjaaGreatDoorLg
import Derived.Laws.CopyOwn
namespace Go.Proofs.YtlgfpjaomiomjaaGreatDoor
open Go.RowKit
set_option linter.unusedVariables false
set_option linter.unusedSimpArgs false

def okI (f : Bool) (r : Int) : Bool := smI r || (!f && (dgI r || r == 95))
def nmOk : Bool → List UInt8 → Bool
  | _, [] => true
  | f, c :: cs => okI f (cI c) && nmOk false cs
def nameB (l : List UInt8) : Bool := !l.isEmpty && (decide (l.length ≤ 32) && (!isResB l && nmOk true l))
theorem ok_high {f : Bool} {r : Int} (h : 128 ≤ r) : okI f r = false := by
  unfold okI smI dgI; simp; omega
def NameAt (s : ByteArray) (w : World) (wr : World) : Prop :=
  ∃ p : Nat, p ≤ s.size ∧ Aside (nmOk (p == 0) (s.data.toList.drop p) = nmOk true s.data.toList) ∧ wr.heap[w.heap.size]? = some (.stringIter s p) ∧ Below w.heap.size w wr
set_option maxHeartbeats 2000000 in
set_option maxRecDepth 100000 in
theorem isName_any (s : ByteArray) (hs : s.size ≤ maxLen) (w : World) (hT : Tabs w) :
    Calls Tryz.prog 53 #[.string s] w fun e w' => e = .returned (.bool (nameB s.data.toList)) ∧ Below w.heap.size w w' := by
  unfold maxLen at hs
  have hlen : s.data.toList.length = s.size := by simp
  have RB : Hid (Below w.heap.size w w) := Below.refl _ _
  by_cases h0 : s.data.toList = []
  · have q0 : s.toList.isEmpty = true := by rw [ByteArray.toList_eq, h0]; rfl
    have E : Hid (nameB s.data.toList = false) := by show _ = _; unfold nameB; rw [h0]; rfl
    generalize nameB s.data.toList = b at *
    clear h0 hlen
    go_enter Tryz.func53, Tryz.ntmps53
    go_wp2
    go_ret
    exact ⟨by rw [E.out]; rfl, RB.out⟩
  have q0 : s.toList.isEmpty = false := by rw [ByteArray.toList_eq]; simpa using h0
  by_cases h1 : s.size ≤ 32
  rotate_left
  · have q1 : (32 : Int) < (s.size : Int) := by omega
    have E : Hid (nameB s.data.toList = false) := by show _ = _; unfold nameB; rw [hlen, decide_eq_false h1]; simp
    generalize nameB s.data.toList = b at *
    clear h0 hlen h1
    go_enter Tryz.func53, Tryz.ntmps53
    go_wp2
    go_ret
    exact ⟨by rw [E.out]; rfl, RB.out⟩
  have q1 : decide ((32 : Int) < (s.size : Int)) = false := by simp; omega
  have CR : Hid (Calls Tryz.prog 54 #[.string s] w fun e w' => e = .returned (.bool (isResB s.data.toList)) ∧ w' = w) := resv_any s w hT
  cases h2 : isResB s.data.toList
  rotate_left
  · have E : Hid (nameB s.data.toList = false) := by show _ = _; unfold nameB; rw [h2]; simp
    rw [h2] at CR
    generalize nameB s.data.toList = b at *
    clear h0 hlen h1 h2
    go_enter Tryz.func53, Tryz.ntmps53
    go_wp2_with (go_at_call 54; refine CR.out.mono ?_; rintro e w' ⟨rfl, rfl⟩)
    go_ret
    exact ⟨by rw [E.out]; rfl, RB.out⟩
  have E : Hid (nameB s.data.toList = nmOk true s.data.toList) := by
    show _ = _; unfold nameB; rw [h2, hlen, decide_eq_true h1, List.isEmpty_eq_false_iff.2 h0]; simp
  rw [h2] at CR
  rw [E.out]
  clear h0 hlen h1 h2 hT E
  go_enter Tryz.func53, Tryz.ntmps53
  go_wp2_with (go_at_call 54; refine CR.out.mono ?_; rintro e w' ⟨rfl, hw'⟩; obtain rfl := Eq.symm hw')
  go_loopw [] (fun wr => NameAt s w wr) (fun wr => s.size - wr.iterPos w.heap.size)
  case atStart =>
    refine ⟨0, by omega, by show _ = _; simp, World.iter_heap w s 0, ?_⟩
    exact (Below.refl _ _).alloc (Nat.le_refl _) (.stringIter s 0)
  case round =>
    obtain ⟨p, hp, A, hit, hK⟩ := hrel
    have HP : Hid _ := iterPos_of hit
    by_cases hlt : p < s.size
    · have hnx : ∀ ty, (Instr.next (.pointer (some ⟨w.heap.size, 0, none⟩)) true ty).run Tryz.prog wr = _ := fun ty => Lib.run_next_any_at wr w.heap.size s p ty hit hlt
      obtain ⟨p', hp'⟩ : ∃ p', p' = p + (Utf8.decode s p).2 := ⟨_, rfl⟩
      obtain ⟨r, hr⟩ : ∃ r, r = (Utf8.decode s p).1 := ⟨_, rfl⟩
      rw [← hr] at hnx
      rw [← hp'] at hnx
      have hit2 := Lib.iterAt_heap wr w.heap.size s p p' hit
      have HK2 : Hid (Below w.heap.size w (wr.iterAt w.heap.size s p')) := Lib.below_iterAt hK (k := w.heap.size) (Nat.le_refl _) s p'
      obtain ⟨W1, hW1⟩ : ∃ W1, W1 = wr.iterAt w.heap.size s p' := ⟨_, rfl⟩
      rw [← hW1] at hnx hit2 HK2
      have HI2 : Hid _ := hit2
      have HS : Hid ((okI (p == 0) (r : Int) = true → p < p' ∧ p' ≤ s.size ∧ nmOk (p' == 0) (s.data.toList.drop p') = nmOk true s.data.toList) ∧ (okI (p == 0) (r : Int) = false → nmOk true s.data.toList = false)) := by
        show _ ∧ _
        have hA := A.out
        rw [byteAt s hlt, nmOk] at hA
        by_cases ha : (s[p]).toNat < 128
        · have hd := decode_ascii s p hlt ha
          have e1 : r = (s[p]).toNat := by rw [hr, hd]
          have e2 : p' = p + 1 := by rw [hp', hd]
          subst e1; subst e2
          refine ⟨fun h => ⟨by omega, by omega, ?_⟩, fun h => ?_⟩
          · rw [h, Bool.true_and] at hA; rw [← hA]; rfl
          · rw [h, Bool.false_and] at hA; exact hA.symm
        · have ha' : 128 ≤ (s[p]).toNat := by omega
          obtain ⟨q1, q2⟩ := decode_high s p hlt ha'
          rw [← hr] at q1
          have hr128 : (128 : Int) ≤ (r : Int) := by omega
          have hc128 : (128 : Int) ≤ cI s[p] := by unfold cI; omega
          rw [ok_high hr128]
          refine ⟨fun h => (by cases h), fun h => ?_⟩
          rw [ok_high hc128, Bool.false_and] at hA; exact hA.symm
      have HO : Hid (okI (p == 0) (r : Int) = (smI r || (!(p == 0) && (dgI r || (r : Int) == 95)))) := rfl
      have CS : Hid (∀ w, Calls Tryz.prog 36 #[.int .i32 r] w fun e w' => e = .returned (.bool (smI r)) ∧ w' = w) := sm_any r
      have CD : Hid (∀ w, Calls Tryz.prog 38 #[.int .i32 r] w fun e w' => e = .returned (.bool (dgI r)) ∧ w' = w) := dg_any r
      have hp0 : ((p : Int) == 0) = (p == 0) := by rw [Bool.eq_iff_iff]; simp
      generalize okI (p == 0) (r : Int) = ok at *
      generalize smI r = a at *
      generalize dgI r = d at *
      generalize hz : (p == 0) = z at *
      generalize hu : ((r : Int) == 95) = u at *
      clear hit hit2 hW1 hK A hp' hr
      have HZ : Hid _ := hz
      clear hz
      cases a <;> cases z <;> cases d <;> cases u
      all_goals
        go_wp2_with (first | (go_at_call 36; refine (CS.out _).mono ?_; rintro e w' ⟨rfl, rfl⟩) | (go_at_call 38; refine (CD.out _).mono ?_; rintro e w' ⟨rfl, rfl⟩))
        first
          | (obtain ⟨x1, x2, x3⟩ := HS.out.1 (by rw [HO.out]; rfl)
             have HX3 : Hid _ := x3
             refine ⟨⟨p', x2, HX3.out, HI2.out, HK2.out⟩, ?_⟩
             rw [iterPos_of HI2.out, HP.out]; omega)
          | (go_ret
             exact ⟨by rw [HS.out.2 (by rw [HO.out]; rfl)]; rfl, HK2.out⟩)
    · have e : p = s.size := by omega
      subst e
      have hnx : ∀ ty, (Instr.next (.pointer (some ⟨w.heap.size, 0, none⟩)) true ty).run Tryz.prog wr = _ := fun ty => Lib.run_next_end_at wr w.heap.size s s.size ty hit (by omega)
      have E : Hid (nmOk true s.data.toList = true) := by
        show _ = _
        rw [← A.out, List.drop_eq_nil_of_le (by simp)]; simp [nmOk]
      have HK : Hid _ := hK
      clear hit hK A
      go_wp2
      go_ret
      exact ⟨by rw [E.out]; rfl, HK.out⟩
/-- A word of letters. -/
def lettW (l : List UInt8) : Wd := if nameB l = true then ⟨1, l, 0, 0⟩ else if isResB l = true then ⟨2, l, 0, 0⟩ else ⟨0, [], 0, 60⟩
abbrev zero36 : Array Value := #[.int .i64 0, .string ⟨#[]⟩, .int .u64 0, .int .u64 0, .int .i64 0, .int .i64 0]
theorem info36 : (Tryz.prog.info? 39).map (·.size) = some 6 := by kernel_rfl
theorem one36 {a b c d e : Int} {k1 k2 k3 k4 k5 : IntKind} {s : ByteArray} : (#[Value.int k1 a, .string s, .int k2 b, .int k3 c, .int k4 d, .int k5 e]).all (·.oneCell') = true := by simp [Value.oneCell']
theorem row_back {w : World} {b : Nat} {cs old : Array Value} {t : TypeId} (h : Blk w b old t) (j : Nat) : (w.setRow b cs).cell? ⟨b, j, none⟩ = cs[j]? := cell_setRow_same w b j old cs t (0, 0) h
set_option maxHeartbeats 1000000 in
theorem lett_any (s : ByteArray) (hs : s.size ≤ maxLen) (w : World) (hT : Tabs w) :
    Calls Tryz.prog 41 #[.string s] w fun e w' => e = .returned (wdV (lettW s.data.toList)) ∧ Below w.heap.size w w' := by
  have hB0 : Below w.heap.size w (w.alloc (.cells zero36 39)) := (Below.refl _ _).alloc (Nat.le_refl _) _
  have CN : Hid (Calls Tryz.prog 53 #[.string s] (w.alloc (.cells zero36 39)) fun e w' => e = .returned (.bool (nameB s.data.toList)) ∧ Below (w.alloc (.cells zero36 39)).heap.size (w.alloc (.cells zero36 39)) w') := isName_any s hs _ (hT.below hB0)
  have CR : Hid (∀ w1, Below w.heap.size w w1 → Calls Tryz.prog 54 #[.string s] w1 fun e w' => e = .returned (.bool (isResB s.data.toList)) ∧ w' = w1) := fun w1 h => resv_any s w1 (hT.below h)
  have HE : Hid (lettW s.data.toList = if nameB s.data.toList = true then ⟨1, s.data.toList, 0, 0⟩ else if isResB s.data.toList = true then ⟨2, s.data.toList, 0, 0⟩ else ⟨0, [], 0, 60⟩) := rfl
  have HB0 : Hid _ := hB0
  clear hT hB0 hs
  generalize lettW s.data.toList = L at *
  generalize nameB s.data.toList = a at *
  generalize isResB s.data.toList = b at *
  go_enter Tryz.func41, Tryz.ntmps41
  go_wp2_with fail
  refine CN.out.mono ?_
  rintro e w1 ⟨rfl, hb1⟩
  have hbb : Hid (Below w.heap.size w w1) := HB0.out.trans (hb1.mono (by simp))
  have hz : Blk w1 w.heap.size zero36 39 := (Blk.new w zero36 39).below hb1
  have HZ : Hid (Blk w1 w.heap.size zero36 39) := hz
  clear CN HB0 hb1 hz
  cases a
  · have CR2 : Hid (Calls Tryz.prog 54 #[.string s] w1 fun e w' => e = .returned (.bool b) ∧ w' = w1) := CR.out w1 hbb.out
    clear CR
    cases b
    · have E : Hid (L = ⟨0, [], 0, 60⟩) := by show _ = _; rw [HE.out]; rfl
      go_wp2_with (first | (go_at_call 54; refine CR2.out.mono ?_; rintro e w' ⟨rfl, hw'⟩; obtain rfl := Eq.symm hw') | (refine wpList_store_row rfl 39 _ _ rfl w.heap.size _ rfl rfl 39 _ HZ.out info36 rfl one36 ?_))
      rw [E.out]
      refine bodyPost_ret (v := wdV ⟨0, [], 0, 60⟩) ?_ rfl ⟨rfl, below_setRow hbb.out (Nat.le_refl _) _⟩
      simp [results, Tryz.results41, go_sem, row_back HZ.out, wdV, hiOf, loOf]
    · have E : Hid (L = ⟨2, s.data.toList, 0, 0⟩) := by show _ = _; rw [HE.out]; rfl
      go_wp2_with (first | (go_at_call 54; refine CR2.out.mono ?_; rintro e w' ⟨rfl, hw'⟩; obtain rfl := Eq.symm hw') | (refine wpList_store_row rfl 39 _ _ rfl w.heap.size _ rfl rfl 39 _ HZ.out info36 rfl one36 ?_))
      rw [E.out]
      refine bodyPost_ret (v := wdV ⟨2, s.data.toList, 0, 0⟩) ?_ rfl ⟨rfl, below_setRow hbb.out (Nat.le_refl _) _⟩
      simp [results, Tryz.results41, go_sem, row_back HZ.out, wdV, hiOf, loOf]
  · have E : Hid (L = ⟨1, s.data.toList, 0, 0⟩) := by show _ = _; rw [HE.out]; rfl
    go_wp2_with (refine wpList_store_row rfl 39 _ _ rfl w.heap.size _ rfl rfl 39 _ HZ.out info36 rfl one36 ?_)
    rw [E.out]
    refine bodyPost_ret (v := wdV ⟨1, s.data.toList, 0, 0⟩) ?_ rfl ⟨rfl, below_setRow hbb.out (Nat.le_refl _) _⟩
    simp [results, Tryz.results41, go_sem, row_back HZ.out, wdV, hiOf, loOf]
end Go.Proofs.YtlgfpjaomiomjaaGreatDoor
