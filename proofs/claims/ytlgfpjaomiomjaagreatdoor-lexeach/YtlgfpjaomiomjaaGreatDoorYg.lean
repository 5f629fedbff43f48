/- The document's word. -/
import Derived.Test.YtlgfpjaomiomjaaGreatDoorYf
namespace Go.Proofs.YtlgfpjaomiomjaaGreatDoor
open Go.RowKit
set_option linter.unusedVariables false
set_option linter.unusedSimpArgs false

theorem info47 : (Tryz.prog.info? 47).map (·.size) = some 6 := by kernel_rfl
def wdR (x : Wd) : Value := .tuple #[Tw x.kind ⟨x.text.toArray⟩ x.val (0, 0), .int .i64 (x.text.length : Int), .int .i64 (x.e : Int)]
def rlettW (l : List UInt8) : Wd := if isResB l = true then ⟨2, l, 0, 0⟩ else if rnameB l = true then ⟨1, l, 0, 0⟩ else ⟨0, [], 0, 60⟩
theorem rlett_eq (l : List UInt8) : rlettW l = lettW l := by
  unfold rlettW lettW
  rw [rname_eq]
  cases hr : isResB l
  · simp
  · have : nameB l = false := by unfold nameB; rw [hr]; simp
    rw [this]; simp
theorem first_not {l : List UInt8} (h : ¬ wlen l = 0) : firstW l = if dgI (cI (l.headD 0)) = true then valW (l.take (wlen l)) else rlettW (l.take (wlen l)) := by
  unfold firstW
  rw [if_neg h, rlett_eq, num_val]
  intro e
  have := congrArg List.length e
  have h2 := wlen_le l
  rw [List.length_take, List.length_nil] at this
  omega
theorem first_sign {l : List UInt8} (hl : l ≠ []) (h : wlen l = 0) : firstW l = if rsignN l = 0 then ⟨0, [], 0, 60⟩ else ⟨4, l.take (rsignN l), 0, 0⟩ := by
  unfold firstW
  rw [if_pos h]
  unfold signW
  obtain ⟨c, cs, rfl⟩ := List.exists_cons_of_ne_nil hl
  rw [rsign_of]
  by_cases h0 : rsignN (c :: cs) = 0
  · rw [if_pos h0, if_pos h0]
  · rw [if_neg h0, if_neg h0]
theorem rsign_le (l : List UInt8) (hl : l ≠ []) : rsignN l ≤ l.length := by
  unfold rsignN
  have h1 := List.length_pos_iff.2 hl
  split
  · rename_i h
    have h2 : (l.take 2).length = 2 := by rcases h with e | e | e <;> rw [e] <;> rfl
    rw [List.length_take] at h2; omega
  · split <;> omega
set_option maxHeartbeats 4000000 in
set_option maxRecDepth 100000 in
theorem rword_any (s : ByteArray) (a : Nat) (ha : a < s.size) (hs : s.size ≤ 65536) (w : World) :
    Calls Tryz.prog 16 #[.string s, .int .i64 (a : Int)] w fun e w' => e = .returned (wdR (firstW (s.data.toList.drop a))) ∧ Below w.heap.size w w' := by
  have hlen : s.data.toList.length = s.size := by simp
  have hne : s.data.toList.drop a ≠ [] := by rw [byteAt s ha]; simp
  obtain ⟨L, hL⟩ : ∃ L, L = s.data.toList.drop a := ⟨_, rfl⟩
  have hLl : L.length = s.size - a := by rw [hL, List.length_drop, hlen]
  obtain ⟨N, hN⟩ : ∃ N, N = wlen L := ⟨_, rfl⟩
  have hNl : a + N ≤ s.size := by have := wlen_le L; omega
  have HN : Hid (N = wlen (s.data.toList.drop a)) := by show _ = _; rw [hN, hL]
  have HX : Hid ((s.extract a (a + N)).data.toList = L.take N) := by show _ = _; rw [ext_take, hL]; congr 1; omega
  have HF : Hid (N ≠ 0 → firstW L = if dgI (cI s[a]) = true then valW (L.take N) else rlettW (L.take N)) := fun h => by
    rw [first_not (by rw [← hN]; exact h), ← hN, hL, head_at s ha]
  have HS : Hid (N = 0 → firstW L = if rsignN L = 0 then ⟨0, [], 0, 60⟩ else ⟨4, L.take (rsignN L), 0, 0⟩) := fun h => first_sign (by rw [hL]; exact hne) (by rw [← hN]; exact h)
  have hrl : a + rsignN L ≤ s.size := by have := rsign_le L (by rw [hL]; exact hne); omega
  have CSg : Hid (∀ w, Calls Tryz.prog 24 #[.string s, .int .i64 (a : Int)] w fun e w' => e = .returned (.int .i64 (rsignN L : Int)) ∧ w' = w) := fun w => by rw [hL]; exact rsign_any s a ha hs w
  have HXS : Hid ((s.extract a (a + rsignN L)).data.toList = L.take (rsignN L)) := by show _ = _; rw [ext_take, ← hL]; congr 1; omega
  have CD : Hid (∀ w, Calls Tryz.prog 25 #[.int .u8 (s[a].toNat : Int)] w fun e w' => e = .returned (.bool (dgI (cI s[a]))) ∧ w' = w) := rdigit_any s[a]
  have hxs : (s.extract a (a + N)).size = N := by simp; omega
  have CR : Hid (∀ w, Calls Tryz.prog 26 #[.string (s.extract a (a + N))] w fun e w' => e = .returned (.bool (isResB (L.take N))) ∧ Below w.heap.size w w') := fun w => by
    have := rresv_any (s.extract a (a + N)) w
    rw [HX.out] at this; exact this
  have CN : Hid (∀ w, Calls Tryz.prog 27 #[.string (s.extract a (a + N))] w fun e w' => e = .returned (.bool (rnameB (L.take N))) ∧ Below w.heap.size w w') := fun w => by
    have := risName_any (s.extract a (a + N)) (by unfold maxLen; omega) w
    rw [HX.out] at this; exact this
  have CV : Hid (∀ w, Calls Tryz.prog 28 #[.string (s.extract a (a + N))] w fun e w' => e = .returned (valA (valR (L.take N))) ∧ Below w.heap.size w w') := fun w => by
    have := rvalue_any (s.extract a (a + N)) (by omega) w
    rw [HX.out] at this; exact this
  rw [← hL]
  have HB0 : Hid (Below w.heap.size w (w.alloc (.cells zero36 47))) := (Below.refl _ _).alloc (Nat.le_refl _) _
  have HZ0 : Hid (Blk (w.alloc (.cells zero36 47)) w.heap.size zero36 47) := Blk.new _ _ _
  clear hL hN hne hlen hLl
  go_enter Tryz.func16, Tryz.ntmps16
  go_wp2
  go_loopw [7] (fun i wr => ∃ (k : Nat), a + k ≤ s.size ∧ i = .int .i64 k ∧ Aside (N = k + wlen (s.data.toList.drop (a + k))) ∧ wr = w.alloc (.cells zero36 47)) (fun i _ => s.size - (intOf i).toNat)
  case atStart => exact ⟨0, by omega, rfl, by show _ = _; rw [Nat.zero_add, Nat.add_zero]; exact HN.out, rfl⟩
  case round =>
    obtain ⟨k, hk, rfl, hA, hwr⟩ := hrel
    subst hwr
    by_cases hlt : a + k < s.size
    · have CP : Hid (∀ w, Calls Tryz.prog 23 #[.int .u8 (s[a + k].toNat : Int)] w fun e w' => e = .returned (.bool (ptI (cI s[a + k]))) ∧ w' = w) := rpart_any s[a + k]
      have q1 : decide ((a : Int) + (k : Int) < (s.size : Int)) = true := decide_eq_true (by omega)
      have hA2 : N = k + wlen (s[a + k] :: s.data.toList.drop (a + k + 1)) := by rw [← byteAt s hlt]; exact hA.out
      cases hp : ptI (cI s[a + k])
      · rw [hp] at CP
        have e : k = N := by rw [hA2, wlen_stop hp]; rfl
        subst e
        clear hA hA2 hp HN
        rcases Nat.eq_zero_or_pos k with rfl | hk0
        · have E := HS.out rfl
          obtain ⟨m, hm⟩ : ∃ m, m = rsignN L := ⟨_, rfl⟩
          rw [← hm] at E hrl CSg HXS
          have hms : (s.extract a (a + m)).size = m := by simp; omega
          by_cases h0 : m = 0
          · subst h0
            have HE : Hid (firstW L = ⟨0, [], 0, 60⟩) := by show _ = _; rw [E, if_pos rfl]
            clear E hm HS HF HX CR CN CV
            go_wp2_with (first | (go_at_call 23; refine (CP.out _).mono ?_; rintro e w' ⟨rfl, hw'⟩; obtain rfl := Eq.symm hw') | (go_at_call 24; refine (CSg.out _).mono ?_; rintro e w' ⟨rfl, hw'⟩; obtain rfl := Eq.symm hw') | (go_at_call 25; refine (CD.out _).mono ?_; rintro e w' ⟨rfl, hw'⟩; obtain rfl := Eq.symm hw') | (refine wpList_store_row rfl 47 _ _ rfl w.heap.size _ rfl rfl 47 _ HZ0.out info47 rfl one36 ?_))
            rw [HE.out]
            refine bodyPost_ret (v := wdR ⟨0, [], 0, 60⟩) ?_ rfl ⟨rfl, below_setRow HB0.out (Nat.le_refl _) _⟩
            simp [results, Tryz.results16, go_sem, row_back HZ0.out, wdR, hi0, lo0]
          · have q0 : ((m : Int) == 0) = false := by simp; omega
            have HE : Hid (wdR (firstW L) = .tuple #[Tw 4 (s.extract a (a + m)) 0 (0, 0), .int .i64 (m : Int), .int .i64 0]) := by
              show _ = _
              rw [E, if_neg h0, ← HXS.out]
              unfold wdR
              simp only [Array.length_toList, ByteArray.size_data, hms]
              rfl
            clear E hm HS HF HX CR CN CV h0 HXS
            go_wp2_with (first | (go_at_call 23; refine (CP.out _).mono ?_; rintro e w' ⟨rfl, hw'⟩; obtain rfl := Eq.symm hw') | (go_at_call 24; refine (CSg.out _).mono ?_; rintro e w' ⟨rfl, hw'⟩; obtain rfl := Eq.symm hw') | (go_at_call 25; refine (CD.out _).mono ?_; rintro e w' ⟨rfl, hw'⟩; obtain rfl := Eq.symm hw') | (refine wpList_store_row rfl 47 _ _ rfl w.heap.size _ rfl rfl 47 _ HZ0.out info47 rfl one36 ?_))
            rw [HE.out]
            refine bodyPost_ret (v := .tuple #[Tw 4 (s.extract a (a + m)) 0 (0, 0), .int .i64 (m : Int), .int .i64 0]) ?_ rfl ⟨rfl, below_setRow HB0.out (Nat.le_refl _) _⟩
            simp [results, Tryz.results16, go_sem, row_back HZ0.out, hi0, lo0]
        · have q0 : ((k : Int) == 0) = false := by simp; omega
          have E := HF.out (by omega)
          obtain ⟨X, hX⟩ : ∃ X, X = s.extract a (a + k) := ⟨_, rfl⟩
          rw [← hX] at hxs HX CR CN CV
          have HXE : Hid (X = s.extract a (a + k)) := hX
          clear hX
          have HT : Hid (∀ kd v : Nat, wdR ⟨kd, L.take k, v, 0⟩ = .tuple #[.agg #[.int .i64 (kd : Int), .string X, .int .u64 (hiOf v), .int .u64 (loOf v), .int .i64 0, .int .i64 0], .int .i64 (k : Int), .int .i64 0]) := fun kd v => by
            unfold wdR
            rw [← HX.out]
            simp only [Array.length_toList, ByteArray.size_data, hxs]
            rfl
          have HVW : Hid (valW (L.take k) = match valR (L.take k) with | some v => ⟨3, L.take k, v, 0⟩ | none => ⟨0, [], 0, 61⟩) := rfl
          have HLW : Hid (rlettW (L.take k) = if isResB (L.take k) = true then ⟨2, L.take k, 0, 0⟩ else if rnameB (L.take k) = true then ⟨1, L.take k, 0, 0⟩ else ⟨0, [], 0, 60⟩) := rfl
          have HE : Hid _ := E
          clear E HF HS HXS HX
          generalize valW (L.take k) = VW at *
          generalize rlettW (L.take k) = LW at *
          generalize valR (L.take k) = V at *
          generalize isResB (L.take k) = rs at *
          generalize rnameB (L.take k) = rn at *
          generalize dgI (cI s[a]) = dg at *
          have HY0 : Hid (Blk ((w.alloc (.cells zero36 47)).alloc (.cells #[.int .i64 0, .string X, .int .u64 0, .int .u64 0, .int .i64 0, .int .i64 0] 47)) (w.heap.size + 1) #[.int .i64 0, .string X, .int .u64 0, .int .u64 0, .int .i64 0, .int .i64 0] 47) := by
            have := Blk.new (w.alloc (.cells zero36 47)) #[.int .i64 0, .string X, .int .u64 0, .int .u64 0, .int .i64 0, .int .i64 0] 47
            show Blk _ _ _ _
            simpa using this
          have HZ1 : Hid (Blk ((w.alloc (.cells zero36 47)).alloc (.cells #[.int .i64 0, .string X, .int .u64 0, .int .u64 0, .int .i64 0, .int .i64 0] 47)) w.heap.size zero36 47) := HZ0.out.below ((Below.refl _ _).alloc (Nat.le_refl _) _)
          have HB1 : Hid (Below w.heap.size w ((w.alloc (.cells zero36 47)).alloc (.cells #[.int .i64 0, .string X, .int .u64 0, .int .u64 0, .int .i64 0, .int .i64 0] 47))) := bst HB0.out ((Below.refl _ _).alloc (Nat.le_refl _) _)
          go_wp2_with (first | (go_at_call 23; refine (CP.out _).mono ?_; rintro e w' ⟨rfl, hw'⟩; obtain rfl := Eq.symm hw') | (go_at_call 24; refine (CSg.out _).mono ?_; rintro e w' ⟨rfl, hw'⟩; obtain rfl := Eq.symm hw') | (go_at_call 25; refine (CD.out _).mono ?_; rintro e w' ⟨rfl, hw'⟩; obtain rfl := Eq.symm hw') | (refine wpList_store_row rfl 47 _ _ rfl w.heap.size _ rfl rfl 47 _ HZ0.out info47 rfl one36 ?_))
          simp only [← HXE.out]
          clear HXE
          clear CP
          go_at_call 26
          refine (CR.out _).mono ?_
          rintro e w2 ⟨rfl, hb2⟩
          have HY2 : Hid (Blk w2 (w.heap.size + 1) #[.int .i64 0, .string X, .int .u64 0, .int .u64 0, .int .i64 0, .int .i64 0] 47) := HY0.out.below hb2
          have HZ2 : Hid (Blk w2 w.heap.size zero36 47) := HZ1.out.below hb2
          have HB2 : Hid (Below w.heap.size w w2) := bst HB1.out hb2
          clear hb2 HY0 HZ1 HB1 HZ0 HB0
          have k1 := HY2.out.cell 1 (v := .string X) rfl
          go_wp2_with fail
          go_at_call 27
          refine (CN.out _).mono ?_
          rintro e w3 ⟨rfl, hb3⟩
          have HY3 : Hid (Blk w3 (w.heap.size + 1) #[.int .i64 0, .string X, .int .u64 0, .int .u64 0, .int .i64 0, .int .i64 0] 47) := HY2.out.below hb3
          have HZ3 : Hid (Blk w3 w.heap.size zero36 47) := HZ2.out.below hb3
          have HB3 : Hid (Below w.heap.size w w3) := bst HB2.out hb3
          clear hb3 HY2 HZ2 HB2 k1
          have k0 := HY3.out.cell 0 (v := .int .i64 0) rfl
          have k1 := HY3.out.cell 1 (v := .string X) rfl
          have k2 := HY3.out.cell 2 (v := .int .u64 0) rfl
          have k3 := HY3.out.cell 3 (v := .int .u64 0) rfl
          have k4 := HY3.out.cell 4 (v := .int .i64 0) rfl
          have k5 := HY3.out.cell 5 (v := .int .i64 0) rfl
          have f0 := HY3.out.frozen 0
          have hw1 : w.heap.size + 1 < w3.heap.size := HY3.out.lt
          cases dg
          · have HE2 : Hid (firstW L = LW) := HE.out
            clear HE HVW CV
            cases rs
            · cases rn
              · have HE3 : Hid (firstW L = ⟨0, [], 0, 60⟩) := by show _ = _; rw [HE2.out, HLW.out]; rfl
                clear HE2 HLW
                go_wp2_with (refine wpList_store_row rfl 47 _ _ rfl w.heap.size _ rfl rfl 47 _ HZ3.out info47 rfl one36 ?_)
                rw [HE3.out]
                refine bodyPost_ret (v := wdR ⟨0, [], 0, 60⟩) ?_ rfl ⟨rfl, below_setRow HB3.out (Nat.le_refl _) _⟩
                simp [results, Tryz.results16, go_sem, row_back HZ3.out, wdR, hi0, lo0]
              · have HE3 : Hid (wdR (firstW L) = .tuple #[.agg #[.int .i64 1, .string X, .int .u64 0, .int .u64 0, .int .i64 0, .int .i64 0], .int .i64 (k : Int), .int .i64 0]) := by
                  show _ = _
                  rw [HE2.out, HLW.out]; exact HT.out 1 0
                have HZ4 : Hid (Blk (w3.setCell ⟨w.heap.size + 1, 0, none⟩ (.int .i64 1)) w.heap.size zero36 47) := HZ3.out.kept ((Kept.refl (fun j => j = w.heap.size + 1) w3).set rfl _) (by omega)
                have HB4 : Hid (Below w.heap.size w (w3.setCell ⟨w.heap.size + 1, 0, none⟩ (.int .i64 1))) := HB3.out.trans (((Kept.refl (fun j => j = w.heap.size + 1) w3).set rfl _).below HB3.out.size (by omega))
                clear HE2 HLW HT
                go_wp2_with (refine wpList_store_row rfl 47 _ _ rfl w.heap.size _ rfl rfl 47 _ HZ4.out info47 rfl one36 ?_)
                rw [HE3.out]
                refine bodyPost_ret (v := .tuple #[.agg #[.int .i64 1, .string X, .int .u64 0, .int .u64 0, .int .i64 0, .int .i64 0], .int .i64 (k : Int), .int .i64 0]) ?_ rfl ⟨rfl, below_setRow HB4.out (Nat.le_refl _) _⟩
                simp [results, Tryz.results16, go_sem, row_back HZ4.out]
            · have HE3 : Hid (wdR (firstW L) = .tuple #[.agg #[.int .i64 2, .string X, .int .u64 0, .int .u64 0, .int .i64 0, .int .i64 0], .int .i64 (k : Int), .int .i64 0]) := by
                show _ = _
                rw [HE2.out, HLW.out]; exact HT.out 2 0
              have HZ4 : Hid (Blk (w3.setCell ⟨w.heap.size + 1, 0, none⟩ (.int .i64 2)) w.heap.size zero36 47) := HZ3.out.kept ((Kept.refl (fun j => j = w.heap.size + 1) w3).set rfl _) (by omega)
              have HB4 : Hid (Below w.heap.size w (w3.setCell ⟨w.heap.size + 1, 0, none⟩ (.int .i64 2))) := HB3.out.trans (((Kept.refl (fun j => j = w.heap.size + 1) w3).set rfl _).below HB3.out.size (by omega))
              clear HE2 HLW HT
              go_wp2_with (refine wpList_store_row rfl 47 _ _ rfl w.heap.size _ rfl rfl 47 _ HZ4.out info47 rfl one36 ?_)
              rw [HE3.out]
              refine bodyPost_ret (v := .tuple #[.agg #[.int .i64 2, .string X, .int .u64 0, .int .u64 0, .int .i64 0, .int .i64 0], .int .i64 (k : Int), .int .i64 0]) ?_ rfl ⟨rfl, below_setRow HB4.out (Nat.le_refl _) _⟩
              simp [results, Tryz.results16, go_sem, row_back HZ4.out]
          · have HE2 : Hid (firstW L = VW) := HE.out
            clear HE HLW
            go_wp2_with fail
            go_at_call 28
            refine (CV.out _).mono ?_
            rintro e w4 ⟨rfl, hb4⟩
            cases V with
            | none =>
              have HE3 : Hid (firstW L = ⟨0, [], 0, 61⟩) := by show _ = _; rw [HE2.out, HVW.out]
              rw [valA_none rfl]
              have HZ5 : Hid (Blk (w4.alloc (.cells #[.int .u64 0, .int .u64 0] 37)) w.heap.size zero36 47) := (HZ3.out.below hb4).below ((Below.refl _ _).alloc (Nat.le_refl _) _)
              have HB5 : Hid (Below w.heap.size w (w4.alloc (.cells #[.int .u64 0, .int .u64 0] 37))) := bst (bst HB3.out hb4) ((Below.refl _ _).alloc (Nat.le_refl _) _) (Nat.le_refl _)
              clear HE2 HVW HT hb4 k0 k1 k2 k3 k4 k5 f0
              go_wp2_with (refine wpList_store_row rfl 47 _ _ rfl w.heap.size _ rfl rfl 47 _ HZ5.out info47 rfl one36 ?_)
              rw [HE3.out]
              refine bodyPost_ret (v := wdR ⟨0, [], 0, 61⟩) ?_ rfl ⟨rfl, below_setRow HB5.out (Nat.le_refl _) _⟩
              simp [results, Tryz.results16, go_sem, row_back HZ5.out, wdR, hi0, lo0]
            | some v =>
              have HE3 : Hid (wdR (firstW L) = .tuple #[.agg #[.int .i64 3, .string X, .int .u64 (hiOf v), .int .u64 (loOf v), .int .i64 0, .int .i64 0], .int .i64 (k : Int), .int .i64 0]) := by
                show _ = _
                rw [HE2.out, HVW.out]; exact HT.out 3 v
              have HE4 : Hid (valA (some v) = .tuple #[.agg #[.int .u64 (hiOf v), .int .u64 (loOf v)], .bool true]) := rfl
              rw [HE4.out]
              generalize hiOf v = hi at *
              generalize loOf v = lo at *
              have HY5 : Hid (Blk (w4.alloc (.cells #[.int .u64 hi, .int .u64 lo] 37)) (w.heap.size + 1) #[.int .i64 0, .string X, .int .u64 0, .int .u64 0, .int .i64 0, .int .i64 0] 47) := (HY3.out.below hb4).below ((Below.refl _ _).alloc (Nat.le_refl _) _)
              have HZ5 : Hid (Blk (w4.alloc (.cells #[.int .u64 hi, .int .u64 lo] 37)) w.heap.size zero36 47) := (HZ3.out.below hb4).below ((Below.refl _ _).alloc (Nat.le_refl _) _)
              have HB5 : Hid (Below w.heap.size w (w4.alloc (.cells #[.int .u64 hi, .int .u64 lo] 37))) := bst (bst HB3.out hb4) ((Below.refl _ _).alloc (Nat.le_refl _) _) (Nat.le_refl _)
              have hw4 : w.heap.size + 1 < w4.heap.size := Nat.lt_of_lt_of_le hw1 hb4.size
              have HV5 : Hid (Blk (w4.alloc (.cells #[.int .u64 hi, .int .u64 lo] 37)) w4.heap.size #[.int .u64 hi, .int .u64 lo] 37) := Blk.new _ _ _
              clear k0 k1 k2 k3 k4 k5 f0 hb4 HE2 HVW HT HE4 HY3 HZ3 HB3
              go_upto_region 16 with fail
              generalize w4.alloc (.cells #[.int .u64 hi, .int .u64 lo] 37) = W5 at *
              generalize w4.heap.size = b5 at *
              have HZ6 : Hid (Blk (((W5.setCell ⟨w.heap.size + 1, 0, none⟩ (.int .i64 3)).setCell ⟨w.heap.size + 1, 2, none⟩ (.int .u64 hi)).setCell ⟨w.heap.size + 1, 3, none⟩ (.int .u64 lo)) w.heap.size zero36 47) := HZ5.out.kept ((((Kept.refl (fun j => j = w.heap.size + 1) W5).set rfl _).set rfl _).set rfl _) (by omega)
              have HB6 : Hid (Below w.heap.size w (((W5.setCell ⟨w.heap.size + 1, 0, none⟩ (.int .i64 3)).setCell ⟨w.heap.size + 1, 2, none⟩ (.int .u64 hi)).setCell ⟨w.heap.size + 1, 3, none⟩ (.int .u64 lo))) := HB5.out.trans (((((Kept.refl (fun j => j = w.heap.size + 1) W5).set rfl _).set rfl _).set rfl _).below HB5.out.size (by omega))
              have k0 := HY5.out.cell 0 (v := .int .i64 0) rfl
              have k1 := HY5.out.cell 1 (v := .string X) rfl
              have k2 := HY5.out.cell 2 (v := .int .u64 0) rfl
              have k3 := HY5.out.cell 3 (v := .int .u64 0) rfl
              have k4 := HY5.out.cell 4 (v := .int .i64 0) rfl
              have k5 := HY5.out.cell 5 (v := .int .i64 0) rfl
              have f0 := HY5.out.frozen 0
              have f2 := HY5.out.frozen 2
              have f3 := HY5.out.frozen 3
              have b0 := HV5.out.cell 0 (v := .int .u64 hi) rfl
              have b1 := HV5.out.cell 1 (v := .int .u64 lo) rfl
              have ne1 : ¬ (b5 = w.heap.size + 1) := by omega
              have ne2 : ¬ (w.heap.size + 1 = b5) := by omega
              clear HY5 HV5 HZ5 HB5 hw1 hw4
              go_wp2_with (refine wpList_store_row rfl 47 _ _ rfl w.heap.size _ rfl rfl 47 _ HZ6.out info47 rfl one36 ?_)
              rw [HE3.out]
              refine bodyPost_ret (v := .tuple #[.agg #[.int .i64 3, .string X, .int .u64 hi, .int .u64 lo, .int .i64 0, .int .i64 0], .int .i64 (k : Int), .int .i64 0]) ?_ rfl ⟨rfl, below_setRow HB6.out (Nat.le_refl _) _⟩
              simp [results, Tryz.results16, go_sem, row_back HZ6.out]

      · rw [hp] at CP
        have A2 : Aside (N = (k + 1) + wlen (s.data.toList.drop (a + (k + 1)))) := by
          show N = k + 1 + wlen (s.data.toList.drop (a + k + 1))
          rw [hA2, wlen_go hp]; omega
        clear hA hA2 hp
        go_wp2_with (go_at_call 23; refine (CP.out _).mono ?_; rintro e w' ⟨rfl, hw'⟩; obtain rfl := Eq.symm hw')
        exact ⟨⟨k + 1, by omega, by go_num, A2, trivial⟩, by simp only [intOf]; omega⟩
    · have q1 : decide ((a : Int) + (k : Int) < (s.size : Int)) = false := decide_eq_false (by omega)
      have e : k = N := by rw [hA.out, List.drop_of_length_le (by simp; omega)]; rfl
      subst e
      clear hA HN
      rcases Nat.eq_zero_or_pos k with rfl | hk0
      · exact absurd ha (by omega)
      · have q0 : ((k : Int) == 0) = false := by simp; omega
        have E := HF.out (by omega)
        obtain ⟨X, hX⟩ : ∃ X, X = s.extract a (a + k) := ⟨_, rfl⟩
        rw [← hX] at hxs HX CR CN CV
        have HXE : Hid (X = s.extract a (a + k)) := hX
        clear hX
        have HT : Hid (∀ kd v : Nat, wdR ⟨kd, L.take k, v, 0⟩ = .tuple #[.agg #[.int .i64 (kd : Int), .string X, .int .u64 (hiOf v), .int .u64 (loOf v), .int .i64 0, .int .i64 0], .int .i64 (k : Int), .int .i64 0]) := fun kd v => by
          unfold wdR
          rw [← HX.out]
          simp only [Array.length_toList, ByteArray.size_data, hxs]
          rfl
        have HVW : Hid (valW (L.take k) = match valR (L.take k) with | some v => ⟨3, L.take k, v, 0⟩ | none => ⟨0, [], 0, 61⟩) := rfl
        have HLW : Hid (rlettW (L.take k) = if isResB (L.take k) = true then ⟨2, L.take k, 0, 0⟩ else if rnameB (L.take k) = true then ⟨1, L.take k, 0, 0⟩ else ⟨0, [], 0, 60⟩) := rfl
        have HE : Hid _ := E
        clear E HF HS HXS HX
        generalize valW (L.take k) = VW at *
        generalize rlettW (L.take k) = LW at *
        generalize valR (L.take k) = V at *
        generalize isResB (L.take k) = rs at *
        generalize rnameB (L.take k) = rn at *
        generalize dgI (cI s[a]) = dg at *
        have HY0 : Hid (Blk ((w.alloc (.cells zero36 47)).alloc (.cells #[.int .i64 0, .string X, .int .u64 0, .int .u64 0, .int .i64 0, .int .i64 0] 47)) (w.heap.size + 1) #[.int .i64 0, .string X, .int .u64 0, .int .u64 0, .int .i64 0, .int .i64 0] 47) := by
          have := Blk.new (w.alloc (.cells zero36 47)) #[.int .i64 0, .string X, .int .u64 0, .int .u64 0, .int .i64 0, .int .i64 0] 47
          show Blk _ _ _ _
          simpa using this
        have HZ1 : Hid (Blk ((w.alloc (.cells zero36 47)).alloc (.cells #[.int .i64 0, .string X, .int .u64 0, .int .u64 0, .int .i64 0, .int .i64 0] 47)) w.heap.size zero36 47) := HZ0.out.below ((Below.refl _ _).alloc (Nat.le_refl _) _)
        have HB1 : Hid (Below w.heap.size w ((w.alloc (.cells zero36 47)).alloc (.cells #[.int .i64 0, .string X, .int .u64 0, .int .u64 0, .int .i64 0, .int .i64 0] 47))) := bst HB0.out ((Below.refl _ _).alloc (Nat.le_refl _) _)
        go_wp2_with (first | (go_at_call 24; refine (CSg.out _).mono ?_; rintro e w' ⟨rfl, hw'⟩; obtain rfl := Eq.symm hw') | (go_at_call 25; refine (CD.out _).mono ?_; rintro e w' ⟨rfl, hw'⟩; obtain rfl := Eq.symm hw') | (refine wpList_store_row rfl 47 _ _ rfl w.heap.size _ rfl rfl 47 _ HZ0.out info47 rfl one36 ?_))
        simp only [← HXE.out]
        clear HXE
        go_at_call 26
        refine (CR.out _).mono ?_
        rintro e w2 ⟨rfl, hb2⟩
        have HY2 : Hid (Blk w2 (w.heap.size + 1) #[.int .i64 0, .string X, .int .u64 0, .int .u64 0, .int .i64 0, .int .i64 0] 47) := HY0.out.below hb2
        have HZ2 : Hid (Blk w2 w.heap.size zero36 47) := HZ1.out.below hb2
        have HB2 : Hid (Below w.heap.size w w2) := bst HB1.out hb2
        clear hb2 HY0 HZ1 HB1 HZ0 HB0
        have k1 := HY2.out.cell 1 (v := .string X) rfl
        go_wp2_with fail
        go_at_call 27
        refine (CN.out _).mono ?_
        rintro e w3 ⟨rfl, hb3⟩
        have HY3 : Hid (Blk w3 (w.heap.size + 1) #[.int .i64 0, .string X, .int .u64 0, .int .u64 0, .int .i64 0, .int .i64 0] 47) := HY2.out.below hb3
        have HZ3 : Hid (Blk w3 w.heap.size zero36 47) := HZ2.out.below hb3
        have HB3 : Hid (Below w.heap.size w w3) := bst HB2.out hb3
        clear hb3 HY2 HZ2 HB2 k1
        have k0 := HY3.out.cell 0 (v := .int .i64 0) rfl
        have k1 := HY3.out.cell 1 (v := .string X) rfl
        have k2 := HY3.out.cell 2 (v := .int .u64 0) rfl
        have k3 := HY3.out.cell 3 (v := .int .u64 0) rfl
        have k4 := HY3.out.cell 4 (v := .int .i64 0) rfl
        have k5 := HY3.out.cell 5 (v := .int .i64 0) rfl
        have f0 := HY3.out.frozen 0
        have hw1 : w.heap.size + 1 < w3.heap.size := HY3.out.lt
        cases dg
        · have HE2 : Hid (firstW L = LW) := HE.out
          clear HE HVW CV
          cases rs
          · cases rn
            · have HE3 : Hid (firstW L = ⟨0, [], 0, 60⟩) := by show _ = _; rw [HE2.out, HLW.out]; rfl
              clear HE2 HLW
              go_wp2_with (refine wpList_store_row rfl 47 _ _ rfl w.heap.size _ rfl rfl 47 _ HZ3.out info47 rfl one36 ?_)
              rw [HE3.out]
              refine bodyPost_ret (v := wdR ⟨0, [], 0, 60⟩) ?_ rfl ⟨rfl, below_setRow HB3.out (Nat.le_refl _) _⟩
              simp [results, Tryz.results16, go_sem, row_back HZ3.out, wdR, hi0, lo0]
            · have HE3 : Hid (wdR (firstW L) = .tuple #[.agg #[.int .i64 1, .string X, .int .u64 0, .int .u64 0, .int .i64 0, .int .i64 0], .int .i64 (k : Int), .int .i64 0]) := by
                show _ = _
                rw [HE2.out, HLW.out]; exact HT.out 1 0
              have HZ4 : Hid (Blk (w3.setCell ⟨w.heap.size + 1, 0, none⟩ (.int .i64 1)) w.heap.size zero36 47) := HZ3.out.kept ((Kept.refl (fun j => j = w.heap.size + 1) w3).set rfl _) (by omega)
              have HB4 : Hid (Below w.heap.size w (w3.setCell ⟨w.heap.size + 1, 0, none⟩ (.int .i64 1))) := HB3.out.trans (((Kept.refl (fun j => j = w.heap.size + 1) w3).set rfl _).below HB3.out.size (by omega))
              clear HE2 HLW HT
              go_wp2_with (refine wpList_store_row rfl 47 _ _ rfl w.heap.size _ rfl rfl 47 _ HZ4.out info47 rfl one36 ?_)
              rw [HE3.out]
              refine bodyPost_ret (v := .tuple #[.agg #[.int .i64 1, .string X, .int .u64 0, .int .u64 0, .int .i64 0, .int .i64 0], .int .i64 (k : Int), .int .i64 0]) ?_ rfl ⟨rfl, below_setRow HB4.out (Nat.le_refl _) _⟩
              simp [results, Tryz.results16, go_sem, row_back HZ4.out]
          · have HE3 : Hid (wdR (firstW L) = .tuple #[.agg #[.int .i64 2, .string X, .int .u64 0, .int .u64 0, .int .i64 0, .int .i64 0], .int .i64 (k : Int), .int .i64 0]) := by
              show _ = _
              rw [HE2.out, HLW.out]; exact HT.out 2 0
            have HZ4 : Hid (Blk (w3.setCell ⟨w.heap.size + 1, 0, none⟩ (.int .i64 2)) w.heap.size zero36 47) := HZ3.out.kept ((Kept.refl (fun j => j = w.heap.size + 1) w3).set rfl _) (by omega)
            have HB4 : Hid (Below w.heap.size w (w3.setCell ⟨w.heap.size + 1, 0, none⟩ (.int .i64 2))) := HB3.out.trans (((Kept.refl (fun j => j = w.heap.size + 1) w3).set rfl _).below HB3.out.size (by omega))
            clear HE2 HLW HT
            go_wp2_with (refine wpList_store_row rfl 47 _ _ rfl w.heap.size _ rfl rfl 47 _ HZ4.out info47 rfl one36 ?_)
            rw [HE3.out]
            refine bodyPost_ret (v := .tuple #[.agg #[.int .i64 2, .string X, .int .u64 0, .int .u64 0, .int .i64 0, .int .i64 0], .int .i64 (k : Int), .int .i64 0]) ?_ rfl ⟨rfl, below_setRow HB4.out (Nat.le_refl _) _⟩
            simp [results, Tryz.results16, go_sem, row_back HZ4.out]
        · have HE2 : Hid (firstW L = VW) := HE.out
          clear HE HLW
          go_wp2_with fail
          go_at_call 28
          refine (CV.out _).mono ?_
          rintro e w4 ⟨rfl, hb4⟩
          cases V with
          | none =>
            have HE3 : Hid (firstW L = ⟨0, [], 0, 61⟩) := by show _ = _; rw [HE2.out, HVW.out]
            rw [valA_none rfl]
            have HZ5 : Hid (Blk (w4.alloc (.cells #[.int .u64 0, .int .u64 0] 37)) w.heap.size zero36 47) := (HZ3.out.below hb4).below ((Below.refl _ _).alloc (Nat.le_refl _) _)
            have HB5 : Hid (Below w.heap.size w (w4.alloc (.cells #[.int .u64 0, .int .u64 0] 37))) := bst (bst HB3.out hb4) ((Below.refl _ _).alloc (Nat.le_refl _) _) (Nat.le_refl _)
            clear HE2 HVW HT hb4 k0 k1 k2 k3 k4 k5 f0
            go_wp2_with (refine wpList_store_row rfl 47 _ _ rfl w.heap.size _ rfl rfl 47 _ HZ5.out info47 rfl one36 ?_)
            rw [HE3.out]
            refine bodyPost_ret (v := wdR ⟨0, [], 0, 61⟩) ?_ rfl ⟨rfl, below_setRow HB5.out (Nat.le_refl _) _⟩
            simp [results, Tryz.results16, go_sem, row_back HZ5.out, wdR, hi0, lo0]
          | some v =>
            have HE3 : Hid (wdR (firstW L) = .tuple #[.agg #[.int .i64 3, .string X, .int .u64 (hiOf v), .int .u64 (loOf v), .int .i64 0, .int .i64 0], .int .i64 (k : Int), .int .i64 0]) := by
              show _ = _
              rw [HE2.out, HVW.out]; exact HT.out 3 v
            have HE4 : Hid (valA (some v) = .tuple #[.agg #[.int .u64 (hiOf v), .int .u64 (loOf v)], .bool true]) := rfl
            rw [HE4.out]
            generalize hiOf v = hi at *
            generalize loOf v = lo at *
            have HY5 : Hid (Blk (w4.alloc (.cells #[.int .u64 hi, .int .u64 lo] 37)) (w.heap.size + 1) #[.int .i64 0, .string X, .int .u64 0, .int .u64 0, .int .i64 0, .int .i64 0] 47) := (HY3.out.below hb4).below ((Below.refl _ _).alloc (Nat.le_refl _) _)
            have HZ5 : Hid (Blk (w4.alloc (.cells #[.int .u64 hi, .int .u64 lo] 37)) w.heap.size zero36 47) := (HZ3.out.below hb4).below ((Below.refl _ _).alloc (Nat.le_refl _) _)
            have HB5 : Hid (Below w.heap.size w (w4.alloc (.cells #[.int .u64 hi, .int .u64 lo] 37))) := bst (bst HB3.out hb4) ((Below.refl _ _).alloc (Nat.le_refl _) _) (Nat.le_refl _)
            have hw4 : w.heap.size + 1 < w4.heap.size := Nat.lt_of_lt_of_le hw1 hb4.size
            have HV5 : Hid (Blk (w4.alloc (.cells #[.int .u64 hi, .int .u64 lo] 37)) w4.heap.size #[.int .u64 hi, .int .u64 lo] 37) := Blk.new _ _ _
            clear k0 k1 k2 k3 k4 k5 f0 hb4 HE2 HVW HT HE4 HY3 HZ3 HB3
            go_upto_region 16 with fail
            generalize w4.alloc (.cells #[.int .u64 hi, .int .u64 lo] 37) = W5 at *
            generalize w4.heap.size = b5 at *
            have HZ6 : Hid (Blk (((W5.setCell ⟨w.heap.size + 1, 0, none⟩ (.int .i64 3)).setCell ⟨w.heap.size + 1, 2, none⟩ (.int .u64 hi)).setCell ⟨w.heap.size + 1, 3, none⟩ (.int .u64 lo)) w.heap.size zero36 47) := HZ5.out.kept ((((Kept.refl (fun j => j = w.heap.size + 1) W5).set rfl _).set rfl _).set rfl _) (by omega)
            have HB6 : Hid (Below w.heap.size w (((W5.setCell ⟨w.heap.size + 1, 0, none⟩ (.int .i64 3)).setCell ⟨w.heap.size + 1, 2, none⟩ (.int .u64 hi)).setCell ⟨w.heap.size + 1, 3, none⟩ (.int .u64 lo))) := HB5.out.trans (((((Kept.refl (fun j => j = w.heap.size + 1) W5).set rfl _).set rfl _).set rfl _).below HB5.out.size (by omega))
            have k0 := HY5.out.cell 0 (v := .int .i64 0) rfl
            have k1 := HY5.out.cell 1 (v := .string X) rfl
            have k2 := HY5.out.cell 2 (v := .int .u64 0) rfl
            have k3 := HY5.out.cell 3 (v := .int .u64 0) rfl
            have k4 := HY5.out.cell 4 (v := .int .i64 0) rfl
            have k5 := HY5.out.cell 5 (v := .int .i64 0) rfl
            have f0 := HY5.out.frozen 0
            have f2 := HY5.out.frozen 2
            have f3 := HY5.out.frozen 3
            have b0 := HV5.out.cell 0 (v := .int .u64 hi) rfl
            have b1 := HV5.out.cell 1 (v := .int .u64 lo) rfl
            have ne1 : ¬ (b5 = w.heap.size + 1) := by omega
            have ne2 : ¬ (w.heap.size + 1 = b5) := by omega
            clear HY5 HV5 HZ5 HB5 hw1 hw4
            go_wp2_with (refine wpList_store_row rfl 47 _ _ rfl w.heap.size _ rfl rfl 47 _ HZ6.out info47 rfl one36 ?_)
            rw [HE3.out]
            refine bodyPost_ret (v := .tuple #[.agg #[.int .i64 3, .string X, .int .u64 hi, .int .u64 lo, .int .i64 0, .int .i64 0], .int .i64 (k : Int), .int .i64 0]) ?_ rfl ⟨rfl, below_setRow HB6.out (Nat.le_refl _) _⟩
            simp [results, Tryz.results16, go_sem, row_back HZ6.out]

end Go.Proofs.YtlgfpjaomiomjaaGreatDoor
