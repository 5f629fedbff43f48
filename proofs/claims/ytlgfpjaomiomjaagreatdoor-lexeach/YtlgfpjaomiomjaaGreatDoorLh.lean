/- Package lex: plain: a number as package value reads it. -/
import Derived.Test.YtlgfpjaomiomjaaGreatDoorLi
import Derived.Test.YtlgfpjaomiomjaaGreatDoorVp
import Derived.Test.YtlgfpjaomiomjaaGreatDoorSg
import Derived.Deep.RegionWith
namespace Go.Proofs.YtlgfpjaomiomjaaGreatDoor
open Go.RowKit
set_option linter.unusedVariables false
set_option linter.unusedSimpArgs false

/-- Digits of a base without noughts ahead, in small letters. -/
def cutL (d : List UInt8) : List UInt8 := Lib.toLowerA (Lib.trimLeftB (d.take (d.length - 1)) 48 ++ d.drop (d.length - 1))
def hasB (l b : List UInt8) : Bool := Lib.hasPrefix l b && !(l.drop b.length).isEmpty
def plainL (l : List UInt8) : List UInt8 :=
  if hasB l [48, 120] = true then [48, 120] ++ cutL (l.drop 2) else if hasB l [48, 98] = true then [48, 98] ++ cutL (l.drop 2) else l
theorem len_trim (l : List UInt8) (c : UInt8) : (Lib.trimLeftB l c).length ≤ l.length := by
  unfold Lib.trimLeftB
  have := (List.dropWhile_sublist (fun x => x == c) (l := l)).length_le
  exact this
theorem ext_list (s : ByteArray) (a b : Nat) : (s.extract a b).data.toList = (s.data.toList.take b).drop a := by
  simp [ByteArray.data_extract, List.extract_eq_take_drop]
  rw [List.drop_take]
/-- What is done with digits. -/
theorem cut_call (p d : ByteArray) (n : Nat) (hn : d.size = n + 1) (hd : d.size ≤ 65536) (hp : p.size ≤ 2) (ha : ∀ (j : Nat) (b : UInt8), d.data.toList[j]? = some b → b.toNat < 128) :
    ∃ x z : ByteArray, x.size ≤ 65536 ∧ (d.extract n (n + 1)).size ≤ 1 ∧ z.size ≤ 65537 ∧ (∀ w, Calls Tryz.prog 66 #[.string (d.extract 0 n), .string ⟨#[48]⟩] w fun e w' => e = .returned (.string x) ∧ w' = w) ∧
      (∀ w, Calls Tryz.prog 65 #[.string (x ++ d.extract n (n + 1))] w fun e w' => e = .returned (.string z) ∧ Below w.heap.size w w') ∧ z.data.toList = cutL d.data.toList := by
  have hl : d.data.toList.length = n + 1 := by rw [← hn]; simp
  have e0 : (d.extract 0 n).data.toList = d.data.toList.take n := by rw [ext_list]; rfl
  have e1 : (d.extract n (n + 1)).data.toList = d.data.toList.drop n := by rw [ext_list, List.take_of_length_le (by omega)]
  have hx : (Lib.trimLeftB (d.extract 0 n).data.toList 48).length ≤ n := by
    refine Nat.le_trans (len_trim _ _) ?_
    rw [e0, List.length_take]; omega
  have hsub : ∀ b ∈ Lib.trimLeftB (d.extract 0 n).data.toList 48 ++ d.data.toList.drop n, b.toNat < 128 := by
    intro b hb
    have hb' : b ∈ d.data.toList := by
      rcases List.mem_append.1 hb with h | h
      · have h2 := (List.dropWhile_sublist (fun x => x == 48) (l := (d.extract 0 n).data.toList)).subset h
        rw [e0] at h2
        exact List.mem_of_mem_take h2
      · exact List.mem_of_mem_drop h
    obtain ⟨j, hj, e⟩ := List.getElem_of_mem hb'
    exact ha j b (by rw [List.getElem?_eq_getElem hj, e])
  have hy : (⟨(Lib.trimLeftB (d.extract 0 n).data.toList 48).toArray⟩ ++ d.extract n (n + 1) : ByteArray).data.toList = Lib.trimLeftB (d.extract 0 n).data.toList 48 ++ d.data.toList.drop n := by
    rw [ByteArray.data_append, Array.toList_append, e1]
  have hc : cutL d.data.toList = Lib.toLowerA (Lib.trimLeftB (d.extract 0 n).data.toList 48 ++ d.data.toList.drop n) := by
    unfold cutL; rw [hl, e0]; rfl
  refine ⟨⟨(Lib.trimLeftB (d.extract 0 n).data.toList 48).toArray⟩, ⟨(cutL d.data.toList).toArray⟩, ?_, ?_, ?_, fun w => Tryz.strings_TrimLeft_one (d.extract 0 n) 48 (by decide) w, fun w => ?_, rfl⟩
  · show (Lib.trimLeftB (d.extract 0 n).data.toList 48).toArray.size ≤ _
    simp only [List.size_toArray]; omega
  · simp; omega
  · show (cutL d.data.toList).toArray.size ≤ _
    rw [hc]; unfold Lib.toLowerA
    simp only [List.size_toArray, List.length_map, List.length_append, List.length_drop]; omega
  · have hsz : (⟨(Lib.trimLeftB (d.extract 0 n).data.toList 48).toArray⟩ ++ d.extract n (n + 1) : ByteArray).size ≤ 65537 := by
      have hlen : ∀ x : ByteArray, x.data.toList.length = x.size := fun x => by simp
      rw [← hlen, hy, List.length_append, List.length_drop]; omega
    have := Tryz.strings_ToLower_ascii (⟨(Lib.trimLeftB (d.extract 0 n).data.toList 48).toArray⟩ ++ d.extract n (n + 1)) w (by omega) (fun j b hb => by
      rw [hy] at hb
      exact hsub b (List.mem_of_getElem? hb))
    rw [hy, ← hc] at this
    exact this
theorem cutP_yes (s : ByteArray) (b : List UInt8) (h : Lib.hasPrefix s.data.toList b = true) : ∃ d : ByteArray, d.data.toList = s.data.toList.drop b.length ∧ ∀ w, Calls Tryz.prog 64 #[.string s, .string ⟨b.toArray⟩] w fun e w' => e = .returned (.tuple #[.string d, .bool true]) ∧ w' = w := by
  refine ⟨⟨(s.data.toList.drop b.length).toArray⟩, rfl, fun w => ?_⟩
  have := Tryz.strings_CutPrefix s ⟨b.toArray⟩ w
  simp only [Lib.trimPrefix, h, if_true] at this
  exact this
theorem cutP_no (s : ByteArray) (b : List UInt8) (h : Lib.hasPrefix s.data.toList b = false) : ∀ w, Calls Tryz.prog 64 #[.string s, .string ⟨b.toArray⟩] w fun e w' => e = .returned (.tuple #[.string s, .bool false]) ∧ w' = w := fun w => by
  have := Tryz.strings_CutPrefix s ⟨b.toArray⟩ w
  simp only [Lib.trimPrefix, h, Bool.false_eq_true, if_false] at this
  exact this
def PlAt (s : ByteArray) (k : Nat) : Prop := ∀ j t, j < k → baseL[j]? = some t → hasB s.data.toList t = false
theorem plain_at {l : List UInt8} {k : Nat} {t : List UInt8} (ht : baseL[k]? = some t) (hn : ∀ j u, j < k → baseL[j]? = some u → hasB l u = false) (h : hasB l t = true) : plainL l = t ++ cutL (l.drop t.length) := by
  unfold plainL
  match k, ht with
  | 0, ht => simp [baseL] at ht; subst ht; rw [if_pos h]; rfl
  | 1, ht => simp [baseL] at ht; subst ht; rw [if_neg (by rw [hn 0 _ (by omega) rfl]; decide), if_pos h]; rfl
  | k + 2, ht => simp [baseL] at ht
theorem plain_no {l : List UInt8} (hn : ∀ j u, j < 2 → baseL[j]? = some u → hasB l u = false) : plainL l = l := by
  unfold plainL
  rw [if_neg (by rw [hn 0 _ (by omega) rfl]; decide), if_neg (by rw [hn 1 _ (by omega) rfl]; decide)]
set_option maxHeartbeats 2000000 in
set_option maxRecDepth 100000 in
theorem plain_any (s : ByteArray) (hs : s.size ≤ 65536) (ha : ∀ b ∈ s.data.toList, b.toNat < 128) (w : World) (hT : Tabs w) :
    Calls Tryz.prog 52 #[.string s] w fun e w' => e = .returned (.string ⟨(plainL s.data.toList).toArray⟩) ∧ Below w.heap.size w w' := by
  obtain ⟨t0, fr0, hg⟩ := hT.bas
  obtain ⟨A, hA⟩ : ∃ A, A = strsA baseL := ⟨_, rfl⟩
  have hsz := size70
  have HX : Hid (∀ k, k < 2 → ∃ t : List UInt8, t.length = 2 ∧ baseL[k]? = some t ∧ A[k]? = some (.string ⟨t.toArray⟩)) := fun k hk => by
    rw [hA]
    rcases (by omega : k = 0 ∨ k = 1) with rfl | rfl
    · exact ⟨[48, 120], rfl, rfl, rfl⟩
    · exact ⟨[48, 98], rfl, rfl, rfl⟩
  rw [← hA] at hg hsz
  have HS : Hid (∀ b ∈ s.data.toList, b.toNat < 128) := ha
  have hss : Hid ((⟨s.data.toList.toArray⟩ : ByteArray) = s) := rfl
  clear hA hT ha
  go_enter Tryz.func52, Tryz.ntmps52
  go_wp2_with (refine wpList_load_row rfl 84 _ rfl 2 rfl _ A _ _ hg Tryz.underlying84 rfl hsz ?_)
  go_loopw [9] (fun i wr => ∃ k : Nat, k ≤ 2 ∧ i = .int .i64 k ∧ Aside (∀ j t, j < k → baseL[j]? = some t → hasB s.data.toList t = false) ∧ wr = w) (fun i _ => 2 - (intOf i).toNat)
  case atStart => exact ⟨0, by omega, rfl, (fun j t h => by omega), rfl⟩
  case round =>
    obtain ⟨k, hk, rfl, hA, hwr⟩ := hrel
    obtain rfl := Eq.symm hwr
    by_cases hlt : k < 2
    · obtain ⟨t, htl, ht, hat⟩ := HX.out k hlt
      have HT : Hid (baseL[k]? = some t) := ht
      have hix := fun w => run_index_one 84 2 A k _ w Tryz.underlying84 hlt hat
      clear ht
      have hgo : hasB s.data.toList t = false → ∀ j u, j < k + 1 → baseL[j]? = some u → hasB s.data.toList u = false := fun he j u hj hu => by
        by_cases e : j = k
        · subst e; rw [HT.out] at hu; injection hu with hu; rw [← hu]; exact he
        · exact hA.out j u (by omega) hu
      have HGO : Hid (hasB s.data.toList t = false → ∀ j u, j < k + 1 → baseL[j]? = some u → hasB s.data.toList u = false) := hgo
      clear hgo
      cases he : Lib.hasPrefix s.data.toList t
      · have A2 : Aside (∀ j u, j < k + 1 → baseL[j]? = some u → hasB s.data.toList u = false) := HGO.out (by unfold hasB; rw [he]; rfl)
        have C : Hid (∀ w, Calls Tryz.prog 64 #[.string s, .string ⟨t.toArray⟩] w fun e w' => e = .returned (.tuple #[.string s, .bool false]) ∧ w' = w) := cutP_no s t he
        clear he hA HGO
        go_wp2_with (go_at_call 64; refine (C.out _).mono ?_; rintro e w' ⟨rfl, hw'⟩; obtain rfl := Eq.symm hw')
        exact ⟨⟨k + 1, by omega, by go_num, A2, trivial⟩, by simp only [intOf]; omega⟩
      · obtain ⟨d, hd, hC⟩ := cutP_yes s t he
        have C : Hid (∀ w, Calls Tryz.prog 64 #[.string s, .string ⟨t.toArray⟩] w fun e w' => e = .returned (.tuple #[.string d, .bool true]) ∧ w' = w) := hC
        have hds : d.size ≤ s.size := by
          have h1 : d.data.toList.length = d.size := by simp
          have h2 : s.data.toList.length = s.size := by simp
          rw [← h1, hd, List.length_drop]; omega
        clear hC
        cases h0 : (s.data.toList.drop t.length).isEmpty
        · have hB : hasB s.data.toList t = true := by unfold hasB; rw [he, h0]; rfl
          have q0 : d.toList.isEmpty = false := by rw [ByteArray.toList_eq, hd]; exact h0
          obtain ⟨n, hn⟩ : ∃ n, d.size = n + 1 := by
            have h1 : d.data.toList.length = d.size := by simp
            have h2 : d.data.toList ≠ [] := by rw [hd]; exact List.isEmpty_eq_false_iff.1 h0
            have := List.length_pos_iff.2 h2
            exact ⟨d.size - 1, by omega⟩
          obtain ⟨x, z, hx, hy, hz, c56, c55, hzl⟩ := cut_call ⟨t.toArray⟩ d n hn (by omega) (by show t.toArray.size ≤ 2; simp [htl]) (fun j b hb => HS.out b (by rw [hd] at hb; exact List.mem_of_mem_drop (List.mem_of_getElem? hb)))
          have E : Hid ((⟨(plainL s.data.toList).toArray⟩ : ByteArray) = (⟨t.toArray⟩ : ByteArray) ++ z) := by
            show _ = _
            rw [plain_at HT.out hA.out hB]
            apply ByteArray.ext
            rw [ByteArray.data_append]
            apply Array.ext'
            rw [Array.toList_append, hzl, hd]
          have C6 : Hid (∀ w, Calls Tryz.prog 66 #[.string (d.extract 0 n), .string ⟨#[48]⟩] w fun e w' => e = .returned (.string x) ∧ w' = w) := c56
          have C5 : Hid (∀ w, Calls Tryz.prog 65 #[.string (x ++ d.extract n (n + 1))] w fun e w' => e = .returned (.string z) ∧ Below w.heap.size w w') := c55
          clear he hA HGO hB h0 hd c56 c55 hzl HX HT
          go_wp2_with (go_at_call 64; refine (C.out _).mono ?_; rintro e w' ⟨rfl, hw'⟩; obtain rfl := Eq.symm hw')
          go_region_with (first | (go_at_call 66; refine (C6.out _).mono ?_; rintro e w' ⟨rfl, hw'⟩; obtain rfl := Eq.symm hw') | (go_at_call 65; refine (C5.out _).mono ?_; rintro e w' ⟨rfl, hb'⟩))
          all_goals
            go_wp2
            go_ret
            refine ⟨by rw [E.out]; rfl, ?_⟩
            first | exact hb' | exact (Below.refl w.heap.size w).drew.trans hb'
        · have A2 : Aside (∀ j u, j < k + 1 → baseL[j]? = some u → hasB s.data.toList u = false) := HGO.out (by unfold hasB; rw [h0]; simp)
          have q0 : d.toList.isEmpty = true := by rw [ByteArray.toList_eq, hd]; exact h0
          clear he hA HGO h0 hd
          go_wp2_with (go_at_call 64; refine (C.out _).mono ?_; rintro e w' ⟨rfl, hw'⟩; obtain rfl := Eq.symm hw')
          exact ⟨⟨k + 1, by omega, by go_num, A2, trivial⟩, by simp only [intOf]; omega⟩
    · have e : k = 2 := by omega
      subst e
      have E : Hid (plainL s.data.toList = s.data.toList) := plain_no hA.out
      clear hA
      go_wp2
      go_ret
      exact ⟨by rw [E.out]; rfl, Below.refl _ _⟩
end Go.Proofs.YtlgfpjaomiomjaaGreatDoor
