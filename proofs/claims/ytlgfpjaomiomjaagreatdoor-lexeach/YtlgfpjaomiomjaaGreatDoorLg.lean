/- Package lex: isReserved, sign. -/
import Derived.Test.YtlgfpjaomiomjaaGreatDoorTb
namespace Go.Proofs.YtlgfpjaomiomjaaGreatDoor
open Go.RowKit
set_option linter.unusedVariables false
set_option linter.unusedSimpArgs false

/-- An array's part that is one cell. -/
theorem run_index_one (t : TypeId) (n : Nat) (cs : Array Value) (k : Nat) (v : Value) (w : World) (h : Tryz.prog.underlying t = some (.array n 9)) (hk : k < n) (hv : cs[k]? = some v) :
    (Instr.index t (.agg cs) (.int .i64 (k : Int))).run Tryz.prog w = .ok v w := by
  have hn : (0 : Int) ≤ (k : Int) ∧ (k : Int) < (n : Int) := by omega
  simp [Instr.index, run_underlying h, asIntOf, go_sem, Tryz.sizeOf9, Tryz.isAgg9, hv, hk, part]
def isResB (l : List UInt8) : Bool := resL.contains l
theorem str_eq (a : ByteArray) (b : List UInt8) : (a.toList == b) = decide (a.data.toList = b) := by
  rw [ByteArray.toList_eq]; rw [Bool.eq_iff_iff]; simp
set_option maxHeartbeats 1000000 in
set_option maxRecDepth 100000 in
theorem resv_any (s : ByteArray) (w : World) (hT : Tabs w) : Calls Tryz.prog 54 #[.string s] w fun e w' => e = .returned (.bool (isResB s.data.toList)) ∧ w' = w := by
  obtain ⟨t0, fr0, hg⟩ := hT.res
  obtain ⟨A, hA⟩ : ∃ A, A = strsA resL := ⟨_, rfl⟩
  have hsz := size48
  have hAs : A.size = 29 := by rw [hA]; rfl
  have HX : Hid (∀ k, k < 29 → ∃ t : List UInt8, resL[k]? = some t ∧ A[k]? = some (.string ⟨t.toArray⟩)) := fun k hk => by
    have hk' : k < resL.length := hk
    exact ⟨resL[k], List.getElem?_eq_getElem hk', by rw [hA]; exact strsA_at _ _ _ (List.getElem?_eq_getElem hk')⟩
  rw [← hA] at hg hsz
  have HY : Hid (∀ k t, resL[k]? = some t → s.data.toList = t → isResB s.data.toList = true) := fun k t h e => by
    unfold isResB; rw [List.contains_iff_mem, e]; exact List.mem_of_getElem? h
  have HN : Hid ((∀ k t, k < 29 → resL[k]? = some t → s.data.toList ≠ t) → isResB s.data.toList = false) := fun h => by
    unfold isResB
    rw [Bool.eq_false_iff]
    intro hc
    rw [List.contains_iff_mem] at hc
    obtain ⟨j, hj, e⟩ := List.getElem_of_mem hc
    exact h j _ hj (List.getElem?_eq_getElem hj) e.symm
  clear hA hT
  go_enter Tryz.func54, Tryz.ntmps54
  go_wp2_with (refine wpList_load_row rfl 88 _ rfl 3 rfl _ A _ _ hg Tryz.underlying88 rfl hsz ?_)
  go_loopw [6] (fun i wr => ∃ k : Nat, k ≤ 29 ∧ i = .int .i64 k ∧ Aside (∀ j t, j < k → resL[j]? = some t → s.data.toList ≠ t) ∧ wr = w) (fun i _ => 29 - (intOf i).toNat)
  case atStart => exact ⟨0, by omega, rfl, (fun j t h => by omega), rfl⟩
  case round =>
    obtain ⟨k, hk, rfl, hA, rfl⟩ := hrel
    by_cases hlt : k < 29
    · obtain ⟨t, ht, hat⟩ := HX.out k hlt
      have HT : Hid (resL[k]? = some t) := ht
      have hix := fun w => run_index_one 88 29 A k _ w Tryz.underlying88 hlt hat
      clear ht
      by_cases he : s.data.toList = t
      · have q : (s.toList == t) = true := by rw [str_eq]; simpa using he
        have E : Hid (isResB s.data.toList = true) := HY.out k t HT.out he
        clear he
        go_wp2
        go_ret
        exact ⟨by rw [E.out]; rfl, rfl⟩
      · have q : (s.toList == t) = false := by rw [str_eq]; simpa using he
        have A2 : Aside (∀ j t, j < k + 1 → resL[j]? = some t → s.data.toList ≠ t) := fun j u hj hu => by
          by_cases e : j = k
          · subst e; rw [HT.out] at hu; injection hu with hu; rw [← hu]; exact he
          · exact hA.out j u (by omega) hu
        clear he hA
        go_wp2
        exact ⟨⟨k + 1, by omega, by go_num, A2, trivial⟩, by simp only [intOf]; omega⟩
    · have e : k = 29 := by omega
      subst e
      have E : Hid (isResB s.data.toList = false) := HN.out hA.out
      clear hA
      go_wp2
      go_ret
      exact ⟨by rw [E.out]; rfl, rfl⟩
/-- The sign that a text begins with. -/
def signOf (l : List UInt8) : Option (List UInt8) := signL.find? fun t => Lib.hasPrefix l t
abbrev Tw (kind : Int) (text : ByteArray) (val : Nat) (p : Nat × Nat) : Value := .agg #[.int .i64 kind, .string text, .int .u64 (hiOf val), .int .u64 (loOf val), .int .i64 (p.1 : Int), .int .i64 (p.2 : Int)]
/-- A word without its place, and the fault's number. -/
structure Wd where
  kind : Nat
  text : List UInt8
  val : Nat
  e : Nat
def wdV (x : Wd) : Value := .tuple #[Tw x.kind ⟨x.text.toArray⟩ x.val (0, 0), .int .i64 (x.e : Int)]
def signW (l : List UInt8) : Wd := match signOf l with
  | some t => ⟨4, t, 0, 0⟩
  | none => ⟨0, [], 0, 60⟩
theorem find_at {α : Type} (p : α → Bool) : ∀ (l : List α) (k : Nat) (t : α), l[k]? = some t → (∀ j u, j < k → l[j]? = some u → p u = false) → p t = true → l.find? p = some t
  | [], k, t, h, _, _ => by simp at h
  | a :: l, 0, t, h, _, hp => by simp at h; subst h; simp [hp]
  | a :: l, k + 1, t, h, hn, hp => by
    have ha : p a = false := hn 0 a (by omega) rfl
    rw [List.find?_cons, ha]
    exact find_at p l k t (by simpa using h) (fun j u hj hu => hn (j + 1) u (by omega) (by simpa using hu)) hp
set_option maxHeartbeats 1000000 in
set_option maxRecDepth 100000 in
theorem sign_any (s : ByteArray) (w : World) (hT : Tabs w) : Calls Tryz.prog 39 #[.string s] w fun e w' =>
    e = .returned (wdV (signW s.data.toList)) ∧ Below w.heap.size w w' := by
  obtain ⟨t0, fr0, hg⟩ := hT.sgs
  have hpos := hT.pos
  obtain ⟨A, hA⟩ : ∃ A, A = strsA signL := ⟨_, rfl⟩
  have hsz := size58
  have HX : Hid (∀ k, k < 18 → ∃ t : List UInt8, signL[k]? = some t ∧ A[k]? = some (.string ⟨t.toArray⟩)) := fun k hk => by
    have hk' : k < signL.length := hk
    exact ⟨signL[k], List.getElem?_eq_getElem hk', by rw [hA]; exact strsA_at _ _ _ (List.getElem?_eq_getElem hk')⟩
  rw [← hA] at hg hsz
  have HY : Hid (∀ k t, signL[k]? = some t → (∀ j u, j < k → signL[j]? = some u → Lib.hasPrefix s.data.toList u = false) → Lib.hasPrefix s.data.toList t = true → signOf s.data.toList = some t) := fun k t h1 h2 h3 => find_at _ signL k t h1 h2 h3
  have HN : Hid ((∀ k t, k < 18 → signL[k]? = some t → Lib.hasPrefix s.data.toList t = false) → signOf s.data.toList = none) := fun h => by
    unfold signOf
    rw [List.find?_eq_none]
    intro x hx
    obtain ⟨j, hj, e⟩ := List.getElem_of_mem hx
    rw [h j x hj (by rw [List.getElem?_eq_getElem hj, e])]; simp
  have HP : Hid (∀ (t : List UInt8) (b : Bool), Lib.hasPrefix s.data.toList t = b → ∀ w, Calls Tryz.prog 50 #[.string s, .string ⟨t.toArray⟩] w fun e w' => e = .returned (.bool b) ∧ w' = w) := fun t b h w => by
    have := Tryz.strings_HasPrefix s ⟨t.toArray⟩ w
    simp only at this
    rw [h] at this
    exact this
  have hg2 : (w.alloc (.cells #[.int .i64 0, .string ⟨#[]⟩, .int .u64 0, .int .u64 0, .int .i64 0, .int .i64 0] 39)).heap[0]? = some (.cells A t0 fr0) := by
    rw [((Below.refl w.heap.size w).alloc (Nat.le_refl _) _).block 0 (by omega)]; exact hg
  clear hA hT hg
  go_enter Tryz.func39, Tryz.ntmps39
  go_wp2_with (refine wpList_load_row rfl 75 _ rfl 0 rfl _ A _ _ hg2 Tryz.underlying75 rfl hsz ?_)
  generalize hW : w.alloc (.cells #[.int .i64 0, .string ⟨#[]⟩, .int .u64 0, .int .u64 0, .int .i64 0, .int .i64 0] 39) = W at *
  go_loopw [7] (fun i wr => ∃ k : Nat, k ≤ 18 ∧ i = .int .i64 k ∧ Aside (∀ j t, j < k → signL[j]? = some t → Lib.hasPrefix s.data.toList t = false) ∧ wr = W) (fun i _ => 18 - (intOf i).toNat)
  case atStart => exact ⟨0, by omega, rfl, (fun j t h => by omega), rfl⟩
  case round =>
    obtain ⟨k, hk, rfl, hA, rfl⟩ := hrel
    by_cases hlt : k < 18
    · obtain ⟨t, ht, hat⟩ := HX.out k hlt
      have HT : Hid (signL[k]? = some t) := ht
      have hix := fun w => run_index_one 75 18 A k _ w Tryz.underlying75 hlt hat
      clear ht
      cases he : Lib.hasPrefix s.data.toList t
      · have A2 : Aside (∀ j t, j < k + 1 → signL[j]? = some t → Lib.hasPrefix s.data.toList t = false) := fun j u hj hu => by
          by_cases e : j = k
          · subst e; rw [HT.out] at hu; injection hu with hu; rw [← hu]; exact he
          · exact hA.out j u (by omega) hu
        have C : Hid (∀ w, Calls Tryz.prog 50 #[.string s, .string ⟨t.toArray⟩] w fun e w' => e = .returned (.bool false) ∧ w' = w) := HP.out t false he
        clear he hA
        go_wp2_with (go_at_call 50; refine (C.out _).mono ?_; rintro e w' ⟨rfl, rfl⟩)
        exact ⟨⟨k + 1, by omega, by go_num, A2, trivial⟩, by simp only [intOf]; omega⟩
      · have E : Hid (signW s.data.toList = ⟨4, t, 0, 0⟩) := by show _ = _; unfold signW; rw [HY.out k t HT.out hA.out he]
        have C : Hid (∀ w, Calls Tryz.prog 50 #[.string s, .string ⟨t.toArray⟩] w fun e w' => e = .returned (.bool true) ∧ w' = w) := HP.out t true he
        subst hW
        clear he hA
        go_wp2_with (go_at_call 50; refine (C.out _).mono ?_; rintro e w' ⟨rfl, rfl⟩)
        rw [E.out]
        refine bodyPost_ret (v := wdV ⟨4, t, 0, 0⟩) ?_ rfl ⟨rfl, ?_⟩
        · simp [results, Tryz.results39, go_sem, wdV, hiOf, loOf]
        · go_grown
    · have e : k = 18 := by omega
      subst e
      have E : Hid (signW s.data.toList = ⟨0, [], 0, 60⟩) := by show _ = _; unfold signW; rw [HN.out hA.out]
      subst hW
      clear hA
      go_wp2
      rw [E.out]
      refine bodyPost_ret (v := wdV ⟨0, [], 0, 60⟩) ?_ rfl ⟨rfl, ?_⟩
      · simp [results, Tryz.results39, go_sem, wdV, hiOf, loOf]
      · go_grown
end Go.Proofs.YtlgfpjaomiomjaaGreatDoor
