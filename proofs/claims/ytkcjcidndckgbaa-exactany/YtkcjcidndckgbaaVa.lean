/- The map of things of another type (structs): what each call answers. -/
import Derived.Test.YtkcjcidndckgbaaSd
namespace Go.Proofs.Ytkcjcidndckgbaa
open Go.RowKit Go.Sort
set_option linter.unusedVariables false
set_option linter.unusedSimpArgs false

/-- What the law's map of structs holds. -/
abbrev Th := ByteArray × Int × Int
set_option maxHeartbeats 1000000 in
theorem homeT_any (ad : Option Addr) (L cap h : Nat) (h0 : 0 < L) (hL : L ≤ 16384) (hh : h < 4294967296) (w : World) : Calls Try.prog 79 #[.slice ad L cap, .int .u32 h] w fun e w' => e = .returned (.int .i64 ((h % L : Nat) : Int)) ∧ w' = w := by
  have hm : h % L < L := Nat.mod_lt _ h0
  have e1 : IntKind.u64.wrap (h : Int) = (h : Int) := by rw [IntKind.wrap_u64]; omega
  have e2 : IntKind.u64.wrap (L : Int) = (L : Int) := by rw [IntKind.wrap_u64]; omega
  have e3 : ((h : Int) % (L : Int)) = ((h % L : Nat) : Int) := by rw [Int.natCast_emod]
  have e4 : IntKind.i64.wrap ((h % L : Nat) : Int) = ((h % L : Nat) : Int) := by rw [IntKind.wrap_i64]; omega
  have e5 : (L : Int) ≠ 0 := by omega
  have e6 : ((L : Int) == 0) = false := by simp; omega
  generalize h % L = m at *
  go_enter Try.func79, Try.ntmps79
  go_wp2
  go_ret
  exact ⟨rfl, rfl⟩
set_option maxHeartbeats 1000000 in
theorem behindT_any (ad : Option Addr) (L cap a : Nat) (h0 : a < L) (hL : L ≤ 16384) (w : World) : Calls Try.prog 77 #[.slice ad L cap, .int .i64 a] w fun e w' => e = .returned (.int .i64 (nx L a)) ∧ w' = w := by
  go_enter Try.func77, Try.ntmps77
  go_wp2
  go_ret
  refine ⟨congrArg (fun z => Ending.returned (Value.int .i64 z)) ?_, rfl⟩
  rw [← nx_mod h0, Int.natCast_emod]; rfl
set_option maxHeartbeats 1000000 in
theorem wayT_any (ad : Option Addr) (L cap a b : Nat) (h0 : a < L) (h1 : b < L) (hL : L ≤ 16384) (w : World) : Calls Try.prog 78 #[.slice ad L cap, .int .i64 a, .int .i64 b] w fun e w' => e = .returned (.int .i64 (dist L a b)) ∧ w' = w := by
  go_enter Try.func78, Try.ntmps78
  go_wp2
  go_ret
  refine ⟨congrArg (fun z => Ending.returned (Value.int .i64 z)) ?_, rfl⟩
  rw [← dist_mod h0 h1, Int.natCast_emod]; congr 1; omega
/-- A place's cells. -/
def encV : Pl Th → List Value
  | none => [.bool false, .int .u32 0, .string ⟨#[]⟩, .string ⟨#[]⟩, .int .i64 0, .int .i64 0]
  | some (k, v) => [.bool true, .int .u32 (spr k), .string k, .string v.1, .int .i64 v.2.1, .int .i64 v.2.2]
theorem encV_len (x : Pl Th) : (encV x).length = 6 := by cases x <;> rfl
set_option maxHeartbeats 2000000 in
set_option maxRecDepth 100000 in
theorem findT_any (b cap : Nat) (r : List (Pl Th)) (k : ByteArray) (w : World) (hr : RowOf 110 6 encV w b r) (hR : 2 ≤ r.length) (hL : r.length ≤ 16384) {f : Nat} (hf : r[f]? = some none) :
    Calls Try.prog 72 #[.slice (some ⟨b, 0, none⟩) r.length cap, .int .u32 (spr k), .string k] w fun e w' => ∃ a th, e = .returned (.tuple #[.int .i64 (a : Nat), .bool th]) ∧ w' = w ∧ Hid (Found r k a th) := by
  have hk := spr_lt k
  have C1 : Hid (Calls Try.prog 79 #[.slice (some ⟨b, 0, none⟩) r.length cap, .int .u32 (spr k)] w fun e w' => e = .returned (.int .i64 (home spr r.length k)) ∧ w' = w) := homeT_any _ _ _ _ (by omega) hL hk w
  have HS : Hid (Seek spr r k (home spr r.length k)) := Seek.start spr hR k
  have HR : Hid (RowOf 110 6 encV w b r) := hr
  have HF : Hid (r[f]? = some none) := hf
  obtain ⟨n, hn⟩ : ∃ n, n = r.length := ⟨_, rfl⟩
  have HN : Hid (n = r.length) := hn
  rw [← hn] at C1 hR hL ⊢
  clear hr hf hn hk
  have HA : Hid (home spr n k = home spr r.length k) := congrArg (fun z => home spr z k) HN.out
  obtain ⟨h, hh⟩ : ∃ h, h = spr k := ⟨_, rfl⟩
  have HH : Hid (h = spr k) := hh
  rw [← hh] at C1 ⊢
  clear hh
  generalize home spr n k = a0 at *
  go_enter Try.func72, Try.ntmps72
  go_wp2_with fail
  refine C1.out.mono ?_
  rintro e w1 ⟨rfl, rfl⟩
  clear C1
  go_wp2_with fail
  go_loopw [8] (fun i wr => ∃ a : Nat, i = .int .i64 a ∧ Hid (Seek spr r k a) ∧ wr = w1) (fun i _ => n - dist n a0 (intOf i).toNat)
  case atStart => exact ⟨a0, rfl, by rw [HA.out]; exact HS, rfl⟩
  case round =>
    obtain ⟨a, rfl, HK, rfl⟩ := hrel
    have ha : a < n := by rw [HN.out]; exact HK.out.lt
    obtain ⟨x, hx⟩ : ∃ x, r[a]? = some x := ⟨r[a]'(HK.out.lt), List.getElem?_eq_getElem _⟩
    have HX : Hid (r[a]? = some x) := hx
    clear hx
    cases x with
    | none =>
      have c0 := HR.out.cell0 HX.out (v := .bool false) rfl
      go_wp2_with fail
      go_ret2
      exact ⟨a, false, rfl, rfl, HK.out, .inr ⟨rfl, HX.out⟩⟩
    | some y =>
      obtain ⟨k', v⟩ := y
      have c0 := HR.out.cell0 HX.out (v := .bool true) rfl
      have c1 := HR.out.cell HX.out 1 (v := .int .u32 (spr k')) rfl
      have c2 := HR.out.cell HX.out 2 (v := .string k') rfl
      have CB : Hid (Calls Try.prog 77 #[.slice (some ⟨b, 0, none⟩) n cap, .int .i64 a] wr fun e w' => e = .returned (.int .i64 (nx n a)) ∧ w' = wr) := behindT_any _ _ _ _ ha hL wr
      have hS : k' ≠ k → Hid (Seek spr r k (nx n a)) ∧ n - dist n a0 (nx n a) < n - dist n a0 a := fun hk => by
        have h1 := HK.out.next HX.out hk HF.out
        have e1 : nx n a = nx r.length a := congrArg (fun z => nx z a) HN.out
        have e2 := HA.out
        have h2 := h1.2.1
        have h3 := h1.2.2
        rw [← e2, ← HN.out] at h2 h3
        exact ⟨by rw [e1]; exact h1.1, by omega⟩
      by_cases e2 : k' = k
      · subst e2
        have e1 : Hid (h = spr k') := HH
        rw [← e1.out] at c1
        go_wp2_with fail
        go_ret2
        exact ⟨a, true, rfl, rfl, HK.out, .inl ⟨rfl, v, HX.out⟩⟩
      · obtain ⟨HS2, hd⟩ := hS e2
        have t2 := tne e2
        clear hS
        generalize nx n a = a2 at *
        by_cases e1 : spr k' = h
        · rw [e1] at c1
          go_wp2_with fail
          refine CB.out.mono ?_
          rintro e w2 ⟨rfl, rfl⟩
          go_wp2_with fail
          exact ⟨⟨a2, rfl, HS2, trivial⟩, by simpa [intOf] using hd⟩
        · have t1 : ((spr k' : Int) == (h : Int)) = false := by simp; omega
          generalize spr k' = h' at *
          go_wp2_with fail
          refine CB.out.mono ?_
          rintro e w2 ⟨rfl, rfl⟩
          go_wp2_with fail
          exact ⟨⟨a2, rfl, HS2, trivial⟩, by simpa [intOf] using hd⟩
theorem isz110 : (Try.prog.info? 110).map (·.size) = some 6 := by kernel_rfl
theorem encV_one (x : Pl Th) : (encV x).toArray.all (·.oneCell') = true := by cases x <;> simp [encV, Value.oneCell']
set_option maxHeartbeats 2000000 in
set_option maxRecDepth 100000 in
theorem layT_any (b cap : Nat) (r : List (Pl Th)) (k : ByteArray) (v : Th) (w : World) (hr : RowOf 110 6 encV w b r) (hR : Rw spr r) (hL : r.length ≤ 16384) {f : Nat} (hf : r[f]? = some none) (hn : ∀ x ∈ cont r, x.1 ≠ k) :
    Calls Try.prog 52 #[.slice (some ⟨b, 0, none⟩) r.length cap, .agg (encV (some (k, v))).toArray] w fun e w' => e = .returned (.tuple #[]) ∧ Kept (fun z => z = b) w w' ∧ ∃ r', RowOf 110 6 encV w' b r' ∧ Rw spr r' ∧ r'.length = r.length ∧ (cont r').Perm ((k, v) :: cont r) := by
  have hb := hr.lt
  have HX0 : Hid (Blk (w.alloc (.cells (encV (some (k, v))).toArray 110)) w.heap.size (encV (some (k, v))).toArray 110 ∧ Below w.heap.size w (w.alloc (.cells (encV (some (k, v))).toArray 110))) := ⟨Blk.new w _ 110, (Below.refl _ _).alloc (Nat.le_refl _) _⟩
  have HC : Hid (∀ w1, Below w.heap.size w w1 → Calls Try.prog 72 #[.slice (some ⟨b, 0, none⟩) r.length cap, .int .u32 (spr k), .string k] w1 fun e w' => ∃ a th, e = .returned (.tuple #[.int .i64 (a : Nat), .bool th]) ∧ w' = w1 ∧ Hid (Found r k a th)) := fun w1 h1 => findT_any b cap r k w1 (hr.below h1) hR.pos hL hf
  have HR : Hid (RowOf 110 6 encV w b r ∧ Rw spr r ∧ ∀ x ∈ cont r, x.1 ≠ k) := ⟨hr, hR, hn⟩
  obtain ⟨n, hnn⟩ : ∃ n, n = r.length := ⟨_, rfl⟩
  have HN : Hid (n = r.length) := hnn
  rw [← hnn] at HC hL ⊢
  clear hr hR hf hn hnn
  have c0 := HX0.out.1.cell 0 (v := .bool true) rfl
  have c1 := HX0.out.1.cell 1 (v := .int .u32 (spr k)) rfl
  have c2 := HX0.out.1.cell 2 (v := .string k) rfl
  have c3 := HX0.out.1.cell 3 (v := .string v.1) rfl
  have c3a := HX0.out.1.cell 4 (v := .int .i64 v.2.1) rfl
  have c3b := HX0.out.1.cell 5 (v := .int .i64 v.2.2) rfl
  show Calls Try.prog 52 #[.slice (some ⟨b, 0, none⟩) n cap, .agg #[.bool true, .int .u32 (spr k), .string k, .string v.1, .int .i64 v.2.1, .int .i64 v.2.2]] w _
  change (w.alloc (.cells #[.bool true, .int .u32 (spr k), .string k, .string v.1, .int .i64 v.2.1, .int .i64 v.2.2] 110)).cell? _ = _ at c0 c1 c2 c3 c3a c3b
  have HX : Hid (Blk (w.alloc (.cells #[.bool true, .int .u32 (spr k), .string k, .string v.1, .int .i64 v.2.1, .int .i64 v.2.2] 110)) w.heap.size #[.bool true, .int .u32 (spr k), .string k, .string v.1, .int .i64 v.2.1, .int .i64 v.2.2] 110 ∧ Below w.heap.size w (w.alloc (.cells #[.bool true, .int .u32 (spr k), .string k, .string v.1, .int .i64 v.2.1, .int .i64 v.2.2] 110))) := HX0
  clear HX0
  go_enter Try.func52, Try.ntmps52
  go_upto_region 1 with fail
  generalize w.alloc (.cells #[.bool true, .int .u32 (spr k), .string k, .string v.1, .int .i64 v.2.1, .int .i64 v.2.2] 110) = W at *
  go_wp2_with fail
  refine (HC.out _ HX.out.2).mono ?_
  rintro e w1 ⟨a, th, rfl, rfl, HF⟩
  have hfree := Found.free HF.out HR.out.2.2
  obtain ⟨rfl, ha⟩ := hfree
  have HA : Hid (r[a]? = some none) := ha
  have hal : a < n := by rw [HN.out]; exact (List.getElem?_eq_some_iff.1 ha).1
  clear ha HC
  have RW : Hid (RowOf 110 6 encV w1 b r) := HR.out.1.below HX.out.2
  have ST : Hid (w1.there b (a * 6) (encV (some (k, v))).toArray.size) := RW.out.there (by rw [← HN.out]; exact hal)
  have R1 : Hid (w1.rangeAt w.heap.size 0 (encV (some (k, v)))) := fun j u hu => by rw [Nat.zero_add]; rw [← List.getElem?_toArray] at hu; exact HX.out.1.cell j hu
  have ON : Hid ((encV (some (k, v))).toArray.all (·.oneCell') = true) := encV_one _
  have hz := isz110
  have hz1 : Hid ((Try.prog.info? 110).map (·.size) = some (encV (some (k, v))).length) := hz
  clear c0 c1 c2 c3 c3a c3b hz
  go_wp2_with (first | (refine wpList_load_mid rfl 110 _ rfl w.heap.size 0 rfl (encV (some (k, v))) _ R1.out Try.underlying110 rfl hz1.out ?_) | (refine wpList_store_mid rfl 110 _ _ rfl b (a * 6) (encV (some (k, v))).toArray rfl rfl ST.out hz1.out ON.out ?_))
  go_end0
  refine ⟨rfl, (Kept.of_below HX.out.2).trans (setCells_kept _ _ _ _), r.set a (some (k, v)), RW.out.set a _ (by rw [← HN.out]; exact hal) encV_len, HR.out.2.1.lay HF.out.1 HA.out, by rw [List.length_set, HN.out], cont_lay _ HA.out⟩
set_option maxHeartbeats 2000000 in
set_option maxRecDepth 100000 in
theorem freeT_any (b cap : Nat) (r : List (Pl Th)) (a0 : Nat) (x0 : ByteArray × Th) (w : World) (hr : RowOf 110 6 encV w b r) (hR : Rw spr r) (hL : r.length ≤ 16384) {f : Nat} (hf : r[f]? = some none) (ha : r[a0]? = some (some x0)) :
    Calls Try.prog 54 #[.slice (some ⟨b, 0, none⟩) r.length cap, .int .i64 a0] w fun e w' => e = .returned (.tuple #[]) ∧ Kept (fun z => z = b) w w' ∧ ∃ r', RowOf 110 6 encV w' b r' ∧ Rw spr r' ∧ r'.length = r.length ∧ (cont r').Perm (cont (r.set a0 none)) := by
  have hb := hr.lt
  have hal := (List.getElem?_eq_some_iff.1 ha).1
  have hlf := (List.getElem?_eq_some_iff.1 hf).1
  have HG : Hid (Gap spr r a0 (nx r.length a0) f (cont (r.set a0 none))) := Gap.start hR ha hf
  have HR : Hid (RowOf 110 6 encV w b r) := hr
  have h2 := hR.pos
  obtain ⟨n, hnn⟩ : ∃ n, n = r.length := ⟨_, rfl⟩
  have HN : Hid (n = r.length) := hnn
  have CB : Hid (∀ (i : Nat), i < n → ∀ w, Calls Try.prog 77 #[.slice (some ⟨b, 0, none⟩) n cap, .int .i64 i] w fun e w' => e = .returned (.int .i64 (nx n i)) ∧ w' = w) := fun i hi w => behindT_any _ _ _ _ hi (by omega) w
  have CW : Hid (∀ (i j : Nat), i < n → j < n → ∀ w, Calls Try.prog 78 #[.slice (some ⟨b, 0, none⟩) n cap, .int .i64 i, .int .i64 j] w fun e w' => e = .returned (.int .i64 (dist n i j)) ∧ w' = w) := fun i j hi hj w => wayT_any _ _ _ _ _ hi hj (by omega) w
  have CH : Hid (∀ (k : ByteArray), ∀ w, Calls Try.prog 79 #[.slice (some ⟨b, 0, none⟩) n cap, .int .u32 (spr k)] w fun e w' => e = .returned (.int .i64 (home spr n k)) ∧ w' = w) := fun k w => homeT_any _ _ _ _ (by omega) (by omega) (spr_lt k) w
  rw [← hnn] at hL hal hlf h2 ⊢
  rw [← hnn] at HG
  generalize hD : cont (r.set a0 none) = D at *
  clear hr hR hf ha hnn hD
  go_enter Try.func54, Try.ntmps54
  go_wp2_with fail
  refine (CB.out _ hal w).mono ?_
  rintro e w1 ⟨rfl, rfl⟩
  go_wp2_with fail
  go_loopw [1, 4] (fun x y wr => ∃ (a m : Nat) (r1 : List (Pl Th)), x = .int .i64 a ∧ y = .int .i64 m ∧ a < n ∧ m < n ∧ Hid (n = r1.length) ∧ Hid (Gap spr r1 a m f D) ∧ Hid (RowOf 110 6 encV wr b r1) ∧ Hid (Kept (fun z => z = b) w1 wr)) (fun _ y _ => dist n (intOf y).toNat f)
  case atStart => exact ⟨a0, nx n a0, r, rfl, rfl, hal, nx_lt hal, HN, HG, HR, Kept.refl _ _⟩
  case round =>
    clear HG HR HN
    obtain ⟨a, m, r1, rfl, rfl, hal, hml, HN, HG, HR, HK⟩ := hrel
    obtain ⟨x, hx⟩ : ∃ x, r1[m]? = some x := ⟨r1[m]'(by rw [← HN.out]; exact hml), List.getElem?_eq_getElem _⟩
    have HX : Hid (r1[m]? = some x) := hx
    clear hx
    have RW := HR
    have hz := isz110
    have hza : Hid ((Try.prog.info? 110).map (·.size) = some 6) := hz
    clear hz
    have ST : Hid (wr.there b (a * 6) 6) := HR.out.there (by rw [← HN.out]; exact hal)
    cases x with
    | none =>
      have c0 := HR.out.cell0 HX.out (v := .bool false) rfl
      have ON : Hid ((encV none).toArray.all (·.oneCell') = true) := encV_one none
      go_wp2_with (refine wpList_store_mid rfl 110 _ _ rfl b (a * 6) (encV none).toArray rfl rfl ST.out hza.out ON.out ?_)
      go_end0
      refine ⟨rfl, HK.out.trans (setCells_kept _ _ _ _), r1.set a none, HR.out.set a none (by rw [← HN.out]; exact hal) encV_len, HG.out.done HX.out, by rw [List.length_set, HN.out], HG.out.cont⟩
    | some y =>
      obtain ⟨k', v⟩ := y
      have c0 := HR.out.cell0 HX.out (v := .bool true) rfl
      have c1 := HR.out.cell HX.out 1 (v := .int .u32 (spr k')) rfl
      have ON : Hid ((encV (some (k', v))).toArray.all (·.oneCell') = true) := encV_one _
      have R1 : Hid (wr.rangeAt b (m * 6) (encV (some (k', v)))) := HR.out.range HX.out
      have hza2 : Hid ((Try.prog.info? 110).map (·.size) = some (encV (some (k', v))).length) := hza
      have hhl : home spr n k' < n := home_lt spr (by omega) k'
      have hlt : dist n (nx n m) f < dist n m f := by have := HG.out.less HX.out; rwa [← HN.out] at this
      have hnl := nx_lt hml
      have HS : Hid (¬ dist n a m ≤ dist n (home spr n k') m → Gap spr r1 a (nx n m) f D) := fun h => by
        have e : n = r1.length := HN.out
        rw [e] at h ⊢; exact HG.out.stay HX.out h
      have HM : Hid (dist n a m ≤ dist n (home spr n k') m → Gap spr (r1.set a (some (k', v))) m (nx n m) f D) := fun h => by
        have e : n = r1.length := HN.out
        rw [e] at h ⊢; exact HG.out.move HX.out h
      have CH1 := CH.out k' wr
      have CW1 := CW.out (home spr n k') m hhl hml wr
      have CW2 := CW.out a m hal hml wr
      have CB1 : Hid (∀ w, Calls Try.prog 77 #[.slice (some ⟨b, 0, none⟩) n cap, .int .i64 m] w fun e w' => e = .returned (.int .i64 (nx n m)) ∧ w' = w) := CB.out m hml
      have HC1 : Hid (Calls Try.prog 79 #[.slice (some ⟨b, 0, none⟩) n cap, .int .u32 (spr k')] wr fun e w' => e = .returned (.int .i64 (home spr n k')) ∧ w' = wr) := CH1
      have HW1 : Hid (Calls Try.prog 78 #[.slice (some ⟨b, 0, none⟩) n cap, .int .i64 (home spr n k'), .int .i64 m] wr fun e w' => e = .returned (.int .i64 (dist n (home spr n k') m)) ∧ w' = wr) := CW1
      have HW2 : Hid (Calls Try.prog 78 #[.slice (some ⟨b, 0, none⟩) n cap, .int .i64 a, .int .i64 m] wr fun e w' => e = .returned (.int .i64 (dist n a m)) ∧ w' = wr) := CW2
      clear CH1 CW1 CW2
      generalize dist n (home spr n k') m = d1 at *
      generalize home spr n k' = hm at *
      generalize dist n a m = d2 at *
      generalize nx n m = m2 at *
      generalize spr k' = h' at *
      by_cases hd : d2 ≤ d1
      · have HG2 := HM.out hd
        have HG2 : Hid (Gap spr (r1.set a (some (k', v))) m m2 f D) := HG2
        have HR2 : Hid (RowOf 110 6 encV (wr.setCells b (a * 6) (encV (some (k', v)))) b (r1.set a (some (k', v)))) := HR.out.set a (some (k', v)) (by rw [← HN.out]; exact hal) encV_len
        have HK2 : Hid (Kept (fun z => z = b) w1 (wr.setCells b (a * 6) (encV (some (k', v))))) := HK.out.trans (setCells_kept _ _ _ _)
        have HN2 : Hid (n = (r1.set a (some (k', v))).length) := by rw [List.length_set]; exact HN
        have ST2 : Hid (wr.there b (a * 6) (encV (some (k', v))).toArray.size) := ST
        have hza3 : Hid ((Try.prog.info? 110).map (·.size) = some (encV (some (k', v))).toArray.size) := hza
        clear HS HM
        go_wp2_with fail
        refine HC1.out.mono ?_
        rintro e w2 ⟨rfl, rfl⟩
        go_wp2_with fail
        refine HW1.out.mono ?_
        rintro e w2 ⟨rfl, rfl⟩
        go_wp2_with fail
        refine HW2.out.mono ?_
        rintro e w2 ⟨rfl, rfl⟩
        go_upto_region 5 with (first | (refine wpList_load_mid rfl 110 _ rfl b (m * 6) rfl (encV (some (k', v))) _ R1.out Try.underlying110 rfl hza2.out ?_) | (refine wpList_store_mid rfl 110 _ _ rfl b (a * 6) (encV (some (k', v))).toArray rfl rfl ST2.out hza3.out ON.out ?_))
        go_wp2_with fail
        refine (CB1.out _).mono ?_
        rintro e w2 ⟨rfl, rfl⟩
        go_wp2_with fail
        exact ⟨⟨m, m2, _, rfl, rfl, hml, hnl, HN2, HG2, HR2, HK2⟩, by simpa [intOf] using hlt⟩
      · have HG2 : Hid (Gap spr r1 a m2 f D) := HS.out hd
        clear HS HM
        go_wp2_with fail
        refine HC1.out.mono ?_
        rintro e w2 ⟨rfl, rfl⟩
        go_wp2_with fail
        refine HW1.out.mono ?_
        rintro e w2 ⟨rfl, rfl⟩
        go_wp2_with fail
        refine HW2.out.mono ?_
        rintro e w2 ⟨rfl, rfl⟩
        go_wp2_with fail
        refine (CB1.out _).mono ?_
        rintro e w2 ⟨rfl, rfl⟩
        go_wp2_with fail
        exact ⟨⟨a, m2, r1, rfl, rfl, hal, hnl, HN, HG2, HR, HK⟩, by simpa [intOf] using hlt⟩
theorem takenT_any (ad : Option Addr) (n cap : Nat) (w : World) : Calls Try.prog 73 #[.slice ad n cap] w fun e w' => e = .returned (.func (.func 91) #[] #[.pointer (some ⟨w.heap.size, 0, none⟩)]) ∧ Blk w' w.heap.size #[.slice ad n cap] 99 ∧ Below w.heap.size w w' := by
  have hmf := mf
  have HB : Hid (Below w.heap.size w (w.alloc (.cells #[.slice ad n cap] 99))) := (Below.refl _ _).alloc (Nat.le_refl _) _
  have HX : Hid (Blk (w.alloc (.cells #[.slice ad n cap] 99)) w.heap.size #[.slice ad n cap] 99) := Blk.new w _ 99
  go_enter Try.func73, Try.ntmps73
  go_wp2
  go_ret
  exact ⟨rfl, HX.out, HB.out⟩
set_option maxHeartbeats 2000000 in
set_option maxRecDepth 100000 in
theorem takenT_tells (r : List (Pl Th)) (b cap : Nat) (hL : r.length ≤ 16384) (w : World) (hr : RowOf 110 6 encV w b r) (bx : Nat) (hbx : Blk w bx #[.slice (some ⟨b, 0, none⟩) r.length cap] 99) (S : Nat → Prop) (hSb : ¬ S bx) (hSr : ¬ S b) :
    Tells Try.prog 91 #[.pointer (some ⟨bx, 0, none⟩)] (fun x : ByteArray × Th => #[Value.agg (encV (some x)).toArray]) (cont r) S w := by
  intro n l J Jx W hW hl hJ hJx hY h0
  have HR0 : Hid (RowOf 110 6 encV W b r) := hr.below hW
  have HBW : Hid (Blk W bx #[.slice (some ⟨b, 0, none⟩) r.length cap] 99) := hbx.below hW
  have HY : Hid (∀ (pre : List (ByteArray × Th)) x W1, pre ++ [x] <+: cont r → J pre W1 → YieldAt Fence.wide (n - 1) Try.prog l #[Value.agg (encV (some x)).toArray] W1 fun e W' => (e = .returned (.bool true) ∧ J (pre ++ [x]) W' ∧ Kept S W1 W') ∨ (e = .returned (.bool false) ∧ Jx (pre ++ [x]) W' ∧ Kept (fun k => S k ∨ k = l) W1 W')) := hY
  have HJ : Hid (Low W.heap.size J) := hJ
  have H0 : Hid (J (cont (r.take 0)) W) := h0
  have c0 := HBW.out.cell 0 (v := .slice (some ⟨b, 0, none⟩) r.length cap) rfl
  obtain ⟨N, hN⟩ : ∃ N, N = r.length := ⟨_, rfl⟩
  have HN : Hid (N = r.length) := hN
  rw [← hN] at hL HBW c0
  clear hN hr hbx hW hY h0 hJ
  refine callsIn_of_wp Try.func91 rfl trivial ?_ rfl
  simp only [Try.ntmps91, List.size_toArray, List.length_cons, List.length_nil, Nat.reduceAdd, Nat.reduceSub, Array.replicate_succ, Array.replicate_zero, List.push_toArray, List.append_toArray, List.nil_append, List.cons_append]
  gi_wp2
  gi_loopw [7] (fun t wr => ∃ k : Nat, k ≤ N ∧ t = .int .i64 k ∧ J (cont (r.take k)) wr ∧ Kept S W wr) (fun t _ => N - (intOf t).toNat)
  case atStart => exact ⟨0, Nat.zero_le _, rfl, H0.out, Kept.refl _ _⟩
  case round =>
    obtain ⟨k, hk, rfl, hj, hkS⟩ := hrel
    by_cases hkN : k < N
    · obtain ⟨x, hx⟩ : ∃ x, r[k]? = some x := ⟨r[k]'(by rw [← HN.out]; exact hkN), List.getElem?_eq_getElem _⟩
      have HX : Hid (r[k]? = some x) := hx
      have HRW : Hid (RowOf 110 6 encV wr b r) := HR0.out.kept hkS hSr
      have hWz := hkS.size
      have HJK : Hid (∀ (xs : List (ByteArray × Th)) W', Below wr.heap.size wr W' → J xs wr → J xs W') := fun xs W' hb hh => HJ.out xs wr W' (Kept.of_below hb) hh
      clear hx
      cases x with
      | none =>
        have q0 := HRW.out.cell0 HX.out (v := .bool false) rfl
        have q1 := HRW.out.cell HX.out 1 (v := .int .u32 0) rfl
        have q2 := HRW.out.cell HX.out 2 (v := .string ⟨#[]⟩) rfl
        have q3 := HRW.out.cell HX.out 3 (v := .string ⟨#[]⟩) rfl
        have q3a := HRW.out.cell HX.out 4 (v := .int .i64 0) rfl
        have q3b := HRW.out.cell HX.out 5 (v := .int .i64 0) rfl
        have HE : Hid (cont (r.take (k + 1)) = cont (r.take k)) := cont_take_none HX.out
        have HA : Hid (Below wr.heap.size wr (wr.alloc (.cells #[.bool false, .int .u32 0, .string ⟨#[]⟩, .string ⟨#[]⟩, .int .i64 0, .int .i64 0] 110))) := (Below.refl _ _).alloc (Nat.le_refl _) _
        have HJ1 : Hid (J (cont (r.take (k + 1))) (wr.alloc (.cells #[.bool false, .int .u32 0, .string ⟨#[]⟩, .string ⟨#[]⟩, .int .i64 0, .int .i64 0] 110)) ∧ Kept S W (wr.alloc (.cells #[.bool false, .int .u32 0, .string ⟨#[]⟩, .string ⟨#[]⟩, .int .i64 0, .int .i64 0] 110))) := ⟨by rw [HE.out]; exact HJK.out _ _ HA.out hj, hkS.trans (Kept.of_below HA.out)⟩
        clear hj hkS HJK H0
        gi_wp2_with fail
        refine ⟨by simp, ?_⟩
        gi_wp2_with fail
        go_roundw
        case rel => exact ⟨k + 1, by omega, by go_num, HJ1.out.1, HJ1.out.2⟩
        case measure => simp only [intOf]; omega
      | some y =>
        obtain ⟨k', v⟩ := y
        have q0 := HRW.out.cell0 HX.out (v := .bool true) rfl
        have q1 := HRW.out.cell HX.out 1 (v := .int .u32 (spr k')) rfl
        have q2 := HRW.out.cell HX.out 2 (v := .string k') rfl
        have q3 := HRW.out.cell HX.out 3 (v := .string v.1) rfl
        have q3a := HRW.out.cell HX.out 4 (v := .int .i64 v.2.1) rfl
        have q3b := HRW.out.cell HX.out 5 (v := .int .i64 v.2.2) rfl
        have HE : Hid (cont (r.take (k + 1)) = cont (r.take k) ++ [(k', v)]) := cont_take_some HX.out
        have HA : Hid (Below wr.heap.size wr (wr.alloc (.cells #[.bool true, .int .u32 (spr k'), .string k', .string v.1, .int .i64 v.2.1, .int .i64 v.2.2] 110))) := (Below.refl _ _).alloc (Nat.le_refl _) _
        have CT : Hid (∃ fn tmps assign body, (Instr.yield l #[.agg #[.bool true, .int .u32 (spr k'), .string k', .string v.1, .int .i64 v.2.1, .int .i64 v.2.2]]).run Try.prog (wr.alloc (.cells #[.bool true, .int .u32 (spr k'), .string k', .string v.1, .int .i64 v.2.1, .int .i64 v.2.2] 110)) = .ok (.round l fn tmps assign body) (wr.alloc (.cells #[.bool true, .int .u32 (spr k'), .string k', .string v.1, .int .i64 v.2.1, .int .i64 v.2.2] 110)) ∧ Hid (RoundIn Fence.wide (n - 1) Try.prog l fn tmps assign body (wr.alloc (.cells #[.bool true, .int .u32 (spr k'), .string k', .string v.1, .int .i64 v.2.1, .int .i64 v.2.2] 110)) fun e w' => (e = .returned (.bool true) ∧ Hid (J (cont (r.take (k + 1))) w' ∧ Kept S W w')) ∨ (e = .returned (.bool false) ∧ Hid (Jx (cont (r.take (k + 1))) w')))) := by
          obtain ⟨fn, tmps, assign, body, h1, h2⟩ := HY.out (cont (r.take k)) (k', v) (wr.alloc (.cells #[.bool true, .int .u32 (spr k'), .string k', .string v.1, .int .i64 v.2.1, .int .i64 v.2.2] 110)) (by rw [← HE.out]; exact cont_take_pre _ _) (HJK.out _ _ HA.out hj)
          refine ⟨fn, tmps, assign, body, h1, h2.mono ?_⟩
          rw [HE.out]
          rintro e w' (⟨rfl, hj, hk⟩ | ⟨rfl, hj, hk⟩)
          · exact .inl ⟨rfl, hj, (hkS.trans (Kept.of_below HA.out)).trans hk⟩
          · exact .inr ⟨rfl, hj⟩
        obtain ⟨fn, tmps, assign, body, hyi, HRd⟩ := CT.out
        clear CT hj hkS HJK H0
        gi_wp2_with fail
        refine ⟨no_depth _, ?_⟩
        refine HRd.out.mono ?_
        rintro e w7 (⟨rfl, HM7⟩ | ⟨rfl, HJ7⟩)
        · clear hyi HRd q0 q1 q2 q3 q3a q3b
          gi_wp2_with fail
          go_roundw
          case rel => exact ⟨k + 1, by omega, by go_num, HM7.out.1, HM7.out.2⟩
          case measure => simp only [intOf]; omega
        · clear hyi HRd q0 q1 q2 q3 q3a q3b
          gi_wp2_with fail
          first | go_end0 | refine bodyPost_ret (results_none rfl _ _ _) rfl ?_
          exact ⟨⟨_, rfl⟩, .inr ⟨_, cont_take_pre _ _, HJ7.out⟩⟩
    · have e : k = N := by omega
      subst e
      have HJ1 : Hid (J (cont r) wr) := by
        have : r.take k = r := List.take_of_length_le (by rw [HN.out]; exact Nat.le_refl _)
        rw [this] at hj; exact hj
      clear hj hkS
      gi_wp2_with fail
      go_end0
      exact ⟨⟨_, rfl⟩, .inl HJ1.out⟩
theorem info110 : (Try.prog.info? 110).map (fun i => (i.zero, i.size, i.bytes)) = some (some (.agg #[.bool false, .int .u32 0, .string ⟨#[]⟩, .string ⟨#[]⟩, .int .i64 0, .int .i64 0]), 6, 56) := by kernel_rfl
/-- A new row of free places. -/
theorem RowOf.madeT {w1 : World} {base g n cap : Nat} (hown : w1.ownsRow base 110 6 (.slice (some ⟨g, 0, none⟩) n cap) n (madeCells (Value.agg #[.bool false, .int .u32 0, .string ⟨#[]⟩, .string ⟨#[]⟩, .int .i64 0, .int .i64 0]).cells (n * 6)).toList) : RowOf 110 6 encV w1 g (List.replicate n none) := by
  rcases hown.2 with ⟨e, _⟩ | ⟨g', cap', cur, e, _, hb, _, _, hs, ht⟩
  · cases e
  · simp only [Value.slice.injEq, Option.some.injEq, Addr.mk.injEq, and_true, true_and] at e
    obtain ⟨rfl, rfl⟩ := e
    have h4 : n ≤ cap := by assumption
    refine ⟨cur, hb, by rw [List.length_replicate]; omega, fun i x hx j v hv => ?_⟩
    rw [List.getElem?_replicate] at hx
    split at hx
    · next hi =>
      injection hx with hx; subst hx
      have hj : j < 6 := (List.getElem?_eq_some_iff.1 hv).1
      have hlt : i * 6 + j < n * 6 := by omega
      have e1 : (cur.toList.take (n * 6))[i * 6 + j]? = (madeCells (Value.agg #[.bool false, .int .u32 0, .string ⟨#[]⟩, .string ⟨#[]⟩, .int .i64 0, .int .i64 0]).cells (n * 6)).toList[i * 6 + j]? := by rw [ht]
      rw [List.getElem?_take_of_lt hlt, Array.getElem?_toList, Array.getElem?_toList, made_get hlt] at e1
      rw [e1]
      have e2 : (Value.agg #[.bool false, .int .u32 0, .string ⟨#[]⟩, .string ⟨#[]⟩, .int .i64 0, .int .i64 0]).cells = #[.bool false, .int .u32 0, .string ⟨#[]⟩, .string ⟨#[]⟩, .int .i64 0, .int .i64 0] := rfl
      rw [e2, show #[Value.bool false, .int .u32 0, .string ⟨#[]⟩, .string ⟨#[]⟩, .int .i64 0, .int .i64 0].size = 6 from rfl, show (i * 6 + j) % 6 = j by omega]
      have : j = 0 ∨ j = 1 ∨ j = 2 ∨ j = 3 ∨ j = 4 ∨ j = 5 := by omega
      rcases this with rfl | rfl | rfl | rfl | rfl | rfl <;> exact hv
    · cases hx
theorem roomT_same (ad : Option Addr) (n cap c : Nat) (h : 2 * c ≤ n) (hn : n ≤ 16384) (w : World) : Calls Try.prog 51 #[.slice ad n cap, .int .i64 c] w fun e w' => e = .returned (.slice ad n cap) ∧ w' = w := by
  go_enter Try.func51, Try.ntmps51
  go_wp2
  go_ret
  exact ⟨rfl, rfl⟩
attribute [local go_sem] Oper.semAt_some
set_option maxHeartbeats 4000000 in
set_option maxRecDepth 100000 in
theorem roomT_wide (b cap c : Nat) (r : List (Pl Th)) (w : World) (hr : RowOf 110 6 encV w b r) (hR : Rw spr r) (h8 : r.length ≤ 8192) (hc : r.length < 2 * c) (hc2 : c ≤ 4096) :
    Calls Try.prog 51 #[.slice (some ⟨b, 0, none⟩) r.length cap, .int .i64 c] w fun e w' => ∃ b' cap' r', e = .returned (.slice (some ⟨b', 0, none⟩) r'.length cap') ∧ RowOf 110 6 encV w' b' r' ∧ Rw spr r' ∧ r'.length = 2 * r.length ∧ (cont r').Perm (cont r) ∧ Below w.heap.size w w' ∧ w.heap.size ≤ b' := by
  suffices h : ∀ m, CallsIn Fence.wide m Try.prog 51 #[.slice (some ⟨b, 0, none⟩) r.length cap, .int .i64 c] w fun e w' => ∃ b' cap' r', e = .returned (.slice (some ⟨b', 0, none⟩) r'.length cap') ∧ RowOf 110 6 encV w' b' r' ∧ Rw spr r' ∧ r'.length = 2 * r.length ∧ (cont r').Perm (cont r) ∧ Below w.heap.size w w' ∧ w.heap.size ≤ b' from callsIn_wide.1 (h 0)
  intro m
  have h2 := hR.pos
  have hbl := hr.lt
  have HR : Hid (RowOf 110 6 encV w b r ∧ Rw spr r) := ⟨hr, hR⟩
  have CB : Hid (∀ w, CallsIn Fence.wide (m - 1) Try.prog 73 #[.slice (some ⟨b, 0, none⟩) r.length cap] w fun e w' => e = .returned (.func (.func 91) #[] #[.pointer (some ⟨w.heap.size, 0, none⟩)]) ∧ Blk w' w.heap.size #[.slice (some ⟨b, 0, none⟩) r.length cap] 99 ∧ Below w.heap.size w w') := fun w => callsIn_wide.2 (takenT_any (some ⟨b, 0, none⟩) r.length cap w)
  obtain ⟨i0, hi, hz0, hz1, hz2⟩ := info_of info110
  obtain ⟨n, hn⟩ : ∃ n, n = r.length := ⟨_, rfl⟩
  have HN : Hid (n = r.length) := hn
  rw [← hn] at CB h8 hc h2 ⊢
  have hb1 : i0.bytes * (2 * n) ≤ 281474976710656 := by rw [hz2]; omega
  have hb2 : 2 * n ≤ maxLen := by unfold maxLen; omega
  have hm2 : IntKind.i64.wrap (2 * (n : Int)) = ((2 * n : Nat) : Int) := by rw [IntKind.wrap_i64]; omega
  have hc3 : IntKind.i64.wrap (2 * (c : Int)) = ((2 * c : Nat) : Int) := by rw [IntKind.wrap_i64]; omega
  clear hr hR hn
  refine callsIn_of_wp_marks Try.func51 rfl trivial ?_ rfl
  simp only [Try.ntmps51, List.size_toArray, List.length_cons, List.length_nil, Nat.reduceAdd, Nat.reduceSub, Array.replicate_succ, Array.replicate_zero, List.push_toArray, List.append_toArray, List.nil_append, List.cons_append]
  gi_wp2_with (gi_at_make; refine wpListIn_make_full _ rfl _ _ 99 rfl w.heap.size 110 i0 (.agg #[.bool false, .int .u32 0, .string ⟨#[]⟩, .string ⟨#[]⟩, .int .i64 0, .int .i64 0]) 6 Try.underlying99 hi hz0 hz1 _ _ _ _ (2 * n) rfl rfl (by omega) (by omega) hb1 hb2 (Nat.le_refl _) ?_)
  intro w0 hown hgr
  have HW : Hid (RowOf 110 6 encV w0 w.heap.size (List.replicate (2 * n) none)) := RowOf.madeT hown
  have HB0 : Hid (Below w.heap.size w w0) := ⟨hgr.os, hgr.tape, hgr.output, hgr.size, fun k hk => hgr.block k hk (by simp)⟩
  clear hown hgr hi hz0 hz1 hz2 hb1 hb2 hm2 hc3
  have HA : Hid (Below w0.heap.size w0 (w0.alloc (.cells #[.slice (some ⟨w.heap.size, 0, none⟩) (2 * n) (2 * n)] 99))) := (Below.refl _ _).alloc (Nat.le_refl _) _
  have HX : Hid (Blk (w0.alloc (.cells #[.slice (some ⟨w.heap.size, 0, none⟩) (2 * n) (2 * n)] 99)) w0.heap.size #[.slice (some ⟨w.heap.size, 0, none⟩) (2 * n) (2 * n)] 99) := Blk.new w0 _ 99
  gi_wp2_with fail
  refine ⟨trivial, no_depth _, ?_⟩
  refine (CB.out _).mono ?_
  rintro e w1 ⟨rfl, hbx, hb1⟩
  have HB1 : Hid (Below w0.heap.size w0 w1) := HA.out.trans (hb1.mono HA.out.size)
  have HX1 : Hid (Blk w1 w0.heap.size #[.slice (some ⟨w.heap.size, 0, none⟩) (2 * n) (2 * n)] 99) := HX.out.below hb1
  rw [World.size_alloc] at hbx ⊢
  have HY1 : Hid (Blk w1 (w0.heap.size + 1) #[.slice (some ⟨b, 0, none⟩) n cap] 99) := hbx
  have HW1 : Hid (RowOf 110 6 encV w1 w.heap.size (List.replicate (2 * n) none)) := HW.out.below HB1.out
  have HBw : Hid (Below w.heap.size w w1) := HB0.out.trans (HB1.out.mono HB0.out.size)
  have HR1 : Hid (RowOf 110 6 encV w1 b r) := HR.out.1.below HBw.out
  have hz0 := HB0.out.size
  have hgl := HW.out.lt
  clear hbx hb1 CB HA HX HW
  gi_wp2_with fail
  have hlt1 := HX1.out.lt
  have hlty := HY1.out.lt
  refine range_outer (gf := 91) (lb := #[.pointer (some ⟨w0.heap.size + 1, 0, none⟩)]) (encs := fun x : ByteArray × Th => #[Value.agg (encV (some x)).toArray]) (xs := cont r) (S := fun k => k = w.heap.size) rfl (enters_of Try.func91 (by kernel_rfl) rfl)
    (fun k e => by have e' : k = w.heap.size := e; omega)
    (takenT_tells r b cap (by rw [← HN.out]; omega) w1 HR1.out _ (by rw [← HN.out]; exact HY1.out) (fun k => k = w.heap.size) (fun e => by have e' : w0.heap.size + 1 = w.heap.size := e; omega) (fun e => by have e' : b = w.heap.size := e; omega)) (Below.refl _ _) (fun _ => rfl)
    (fun pre W => (∃ r1, RowOf 110 6 encV W w.heap.size r1 ∧ Rw spr r1 ∧ r1.length = 2 * n ∧ (cont r1).Perm pre) ∧ Kept (fun k => k = w.heap.size) w1 W)
    (fun _ _ _ => False)
    ((low_row _ _ (fun pre r1 => Rw spr r1 ∧ r1.length = 2 * n ∧ (cont r1).Perm pre) (by omega)).and (low_kept _ _ _ (Nat.le_refl _)))
    (fun c => low_pure _ _)
    ⟨⟨_, HW1.out, Rw.empty spr (by omega), by simp, by rw [cont_replicate]⟩, Kept.refl _ _⟩ ?round ?done ?stop
  case round =>
    rintro l pre x W K hl hlt hz hpre ⟨⟨r1, hr1, hR1, hl1, hp1⟩, hK⟩ hKK
    obtain ⟨k', v⟩ := x
    have hnew := told_new (cont_keys HR.out.2) hpre
    have HNW : Hid (∀ y ∈ cont r1, y.1 ≠ k') := fun y hy => hnew y (hp1.mem_iff.1 hy)
    have hlen : (pre ++ [(k', v)]).length ≤ (cont r).length := hpre.length_le
    have hle := cont_len_le r
    have HFR : Hid (∃ f : Nat, r1[f]? = some none) := free_of r1 (by
      have := hp1.length_eq
      have e := HN.out
      simp at hlen
      omega)
    have hzw := hK.size
    have hxw := HX1.out.kept hK (by show ¬ _ = _; omega)
    have HXN : Hid (Blk (W.alloc (.cells #[.bool true, .int .u32 (spr k'), .string k', .string v.1, .int .i64 v.2.1, .int .i64 v.2.2] 110)) W.heap.size #[.bool true, .int .u32 (spr k'), .string k', .string v.1, .int .i64 v.2.1, .int .i64 v.2.2] 110) := Blk.new W _ 110
    simp only [encV, List.size_toArray]
    gi_wp2_with fail
    refine hKK _ _ ((Kept.refl _ _).alloc _) ?_
    intro Wb hkb hrec
    have hk1 : Kept (fun k => k = l) W Wb := ((Kept.refl (fun k => k = l) W).alloc _).trans hkb
    have HXB : Hid (Blk Wb W.heap.size #[.bool true, .int .u32 (spr k'), .string k', .string v.1, .int .i64 v.2.1, .int .i64 v.2.2] 110) := HXN.out.kept hkb (by show ¬ _ = _; omega)
    have HVB : Hid (Blk Wb w0.heap.size #[.slice (some ⟨w.heap.size, 0, none⟩) (2 * n) (2 * n)] 99) := hxw.kept hk1 (by show ¬ _ = _; omega)
    have HRB : Hid (RowOf 110 6 encV Wb w.heap.size r1 ∧ Rw spr r1 ∧ r1.length = 2 * n ∧ (cont r1).Perm pre) := ⟨hr1.kept hk1 (by show ¬ _ = _; omega), hR1, hl1, hp1⟩
    have HKB : Hid (Kept (fun k => k = w.heap.size) w1 Wb) := ⟨hk1.os.trans hK.os, hk1.tape.trans hK.tape, hk1.output.trans hK.output, Nat.le_trans hK.size hk1.size, fun k hk hs => (hk1.block k (Nat.lt_of_lt_of_le hk hK.size) (fun e => by have e' : k = l := e; omega)).trans (hK.block k hk hs)⟩
    obtain ⟨f, hf⟩ := HFR.out
    have CL : Hid (CallsIn Fence.wide (m - 1 - 1 - 1) Try.prog 52 #[.slice (some ⟨w.heap.size, 0, none⟩) (2 * n) (2 * n), .agg #[.bool true, .int .u32 (spr k'), .string k', .string v.1, .int .i64 v.2.1, .int .i64 v.2.2]] Wb fun e w' => e = .returned (.tuple #[]) ∧ Kept (fun z => z = w.heap.size) Wb w' ∧ ∃ r', RowOf 110 6 encV w' w.heap.size r' ∧ Rw spr r' ∧ r'.length = 2 * n ∧ (cont r').Perm ((k', v) :: cont r1)) := by
      have h := layT_any w.heap.size (2 * n) r1 k' v Wb HRB.out.1 hR1 (by rw [hl1]; omega) hf HNW.out
      rw [hl1] at h
      exact callsIn_wide.2 h
    have x0 := HXB.out.cell 0 (v := .bool true) rfl
    have x1 := HXB.out.cell 1 (v := .int .u32 (spr k')) rfl
    have x2 := HXB.out.cell 2 (v := .string k') rfl
    have x3 := HXB.out.cell 3 (v := .string v.1) rfl
    have x3a := HXB.out.cell 4 (v := .int .i64 v.2.1) rfl
    have x3b := HXB.out.cell 5 (v := .int .i64 v.2.2) rfl
    have v0 := HVB.out.cell 0 (v := .slice (some ⟨w.heap.size, 0, none⟩) (2 * n) (2 * n)) rfl
    clear hKK hpre hr1 hK hkb hrec hk1 hxw HXN HFR hf hnew hlen hle hR1 hl1 hp1
    gi_wp2_with fail
    refine ⟨trivial, no_depth _, ?_⟩
    refine CL.out.mono ?_
    rintro e w5 ⟨rfl, hk5, r', q1, q2, q3, q4⟩
    have HQ : Hid (Kept (fun k => k = w.heap.size) Wb w5 ∧ ((∃ r1, RowOf 110 6 encV w5 w.heap.size r1 ∧ Rw spr r1 ∧ r1.length = 2 * n ∧ (cont r1).Perm (pre ++ [(k', v)])) ∧ Kept (fun k => k = w.heap.size) w1 w5)) :=
      ⟨hk5, ⟨r', q1, q2, q3, (q4.trans (HRB.out.2.2.2.cons _)).trans (List.perm_append_comm (l₁ := [(k', v)]) (l₂ := pre))⟩, HKB.out.trans hk5⟩
    clear hk5 q1 q2 q3 q4 CL HXB HVB HKB HRB
    gi_wp2_with fail
    exact HQ.out
  case done =>
    rintro W ⟨⟨r1, hr1, hR1, hl1, hp1⟩, hK⟩ hks hD
    have hxw := HX1.out.kept hK (by show ¬ _ = _; omega)
    have v0 := hxw.cell 0 (v := .slice (some ⟨w.heap.size, 0, none⟩) (2 * n) (2 * n)) rfl
    have HBW : Hid (Below w.heap.size w W) := HBw.out.trans (hks.below HBw.out.size (fun k e => by have e' : k = w.heap.size := e; omega))
    have HQ : Hid (RowOf 110 6 encV W w.heap.size r1 ∧ Rw spr r1 ∧ r1.length = 2 * n ∧ (cont r1).Perm (cont r)) := ⟨hr1, hR1, hl1, hp1⟩
    have hzz := HB1.out.size
    have hzk := hK.size
    clear hks hK hxw hr1 hR1 hl1 hp1
    gi_wp2_with fail
    refine ⟨by simp, .inl ⟨_, _, rfl, run_takeDeferred hD, ?_⟩⟩
    have hkk := kept_putObj (fun k => k = w1.heap.size) W w1.heap.size (.deferred none) rfl
    refine ⟨.slice (some ⟨w.heap.size, 0, none⟩) (2 * n) (2 * n), ?_, w.heap.size, 2 * n, r1, by rw [HQ.out.2.2.1], HQ.out.1.kept hkk (by show ¬ _ = _; omega), HQ.out.2.1, HQ.out.2.2.1, HQ.out.2.2.2, HBW.out.trans (hkk.below HBW.out.size (fun k e => by have e' : k = w1.heap.size := e; omega)), Nat.le_refl _⟩
    simp [results, Try.results51, go_sem]
  case stop =>
    rintro c pre2 W' _ hf
    exact hf.elim
theorem findT_val (b cap : Nat) (r : List (Pl Th)) (k : ByteArray) (w : World) (hr : RowOf 110 6 encV w b r) (hR : 2 ≤ r.length) (hL : r.length ≤ 16384) {f : Nat} (hf : r[f]? = some none) :
    Calls Try.prog 72 #[.slice (some ⟨b, 0, none⟩) r.length cap, .int .u32 (spr k), .string k] w fun e w' => e = .returned (.tuple #[.int .i64 ((fnd r k).1 : Nat), .bool (fnd r k).2]) ∧ w' = w := by
  refine (findT_any b cap r k w hr hR hL hf).mono ?_
  rintro e w' ⟨a, th, rfl, rfl, h⟩
  obtain ⟨e1, e2⟩ := (fnd_found hR hf k).uniq h.out
  rw [e1, e2]
  exact ⟨rfl, rfl⟩
/-- A map. -/
structure MapAtT (w : World) (q b most : Nat) (r : List (Pl Th)) (cap : Nat) : Prop where
  hd : Blk w q #[.int .i64 most, .int .i64 (cont r).length, .slice (some ⟨b, 0, none⟩) r.length cap] 101
  row : RowOf 110 6 encV w b r
  rw : Rw spr r
  big : 8 ≤ r.length ∧ r.length ≤ 16384
  half : 2 * (cont r).length ≤ r.length
  most : (cont r).length ≤ most ∧ 1 ≤ most ∧ most ≤ 4096
  ne : q ≠ b
theorem MapAtT.kept {w w' : World} {q b most cap : Nat} {r : List (Pl Th)} (h : MapAtT w q b most r cap) {S : Nat → Prop} (hk : Kept S w w') (h1 : ¬ S q) (h2 : ¬ S b) : MapAtT w' q b most r cap :=
  ⟨h.hd.kept hk h1, h.row.kept hk h2, h.rw, h.big, h.half, h.most, h.ne⟩
theorem MapAtT.below {w w' : World} {q b most cap : Nat} {r : List (Pl Th)} (h : MapAtT w q b most r cap) (hk : Below w.heap.size w w') : MapAtT w' q b most r cap :=
  ⟨h.hd.below hk, h.row.below hk, h.rw, h.big, h.half, h.most, h.ne⟩
theorem MapAtT.free {w : World} {q b most cap : Nat} {r : List (Pl Th)} (h : MapAtT w q b most r cap) : ∃ f : Nat, r[f]? = some none := free_of r (by have := h.half; have := h.big; omega)
theorem MapAtT.found {w : World} {q b most cap : Nat} {r : List (Pl Th)} (h : MapAtT w q b most r cap) (k : ByteArray) : Found r k (fnd r k).1 (fnd r k).2 := by
  obtain ⟨f, hf⟩ := h.free
  exact fnd_found h.rw.pos hf k
set_option maxHeartbeats 1000000 in
theorem newT_bad (n : Int) (h : n < 1 ∨ 4096 < n) (w : World) : Calls Try.prog 16 #[.int .i64 n] w fun e w' => e = .returned (.tuple #[.pointer none, .int .i64 1]) ∧ w' = w := by
  go_enter Try.func16, Try.ntmps16
  rcases h with h | h
  · go_wp2
    go_ret2
    exact ⟨rfl, rfl⟩
  · have h' : ¬ n < 1 := by omega
    go_wp2
    go_ret2
    exact ⟨rfl, rfl⟩
set_option maxHeartbeats 1000000 in
theorem lenT_any (q b most cap : Nat) (r : List (Pl Th)) (w : World) (h : MapAtT w q b most r cap) : Calls Try.prog 26 #[.pointer (some ⟨q, 0, none⟩)] w fun e w' => e = .returned (.int .i64 (cont r).length) ∧ w' = w := by
  have c1 := h.hd.cell 1 (v := .int .i64 (cont r).length) rfl
  clear h
  go_enter Try.func26, Try.ntmps26
  go_wp2
  go_ret
  exact ⟨rfl, rfl⟩
set_option maxHeartbeats 2000000 in
theorem mfindT_any (q b most cap : Nat) (r : List (Pl Th)) (k : ByteArray) (hk : k.size ≤ 9223372036854775807) (w : World) (h : MapAtT w q b most r cap) :
    Calls Try.prog 50 #[.pointer (some ⟨q, 0, none⟩), .string k] w fun e w' => e = .returned (.tuple #[.int .i64 ((fnd r k).1 : Nat), .bool (fnd r k).2]) ∧ Below w.heap.size w w' := by
  have c2 : ∀ z : Grown w, (gw z).cell? ⟨q, 2, none⟩ = some (.slice (some ⟨b, 0, none⟩) r.length cap) := gw_cell (h.hd.cell 2 rfl)
  obtain ⟨f, hf⟩ := h.free
  have C1 : Hid (∀ w1, Calls Try.prog 49 #[.string k] w1 fun e w' => e = .returned (.int .u32 (spr k)) ∧ w' = w1) := fun w1 => spr_any k hk w1
  have C2 : Hid (∀ z : Grown w, Calls Try.prog 72 #[.slice (some ⟨b, 0, none⟩) r.length cap, .int .u32 (spr k), .string k] (gw z) fun e w' => e = .returned (.tuple #[.int .i64 ((fnd r k).1 : Nat), .bool (fnd r k).2]) ∧ w' = gw z) := fun z => findT_val b cap r k _ (h.row.below (gw_below z)) h.rw.pos h.big.2 hf
  generalize fnd r k = p at *
  generalize spr k = hh at *
  clear h hf hk
  go_enter Try.func50, Try.ntmps50
  go_upto_region 3 with fail
  refine region_grows (by kernel_rfl) (by kernel_rfl) ?_
  repeat (go_big_quiet_step ((first | (go_at_call 49; exact calls_gw_same (C1.out _)) | (go_at_call 72; exact calls_gw_same (C2.out _)))))
  refine wpQuiet_nil ?_
  intro wq hwq
  obtain ⟨zq, hwq⟩ := hwq
  subst hwq
  have HB : Hid (Below w.heap.size w (gw zq)) := gw_below zq
  generalize gw zq = W at *
  clear C1 C2 c2
  go_wp2
  go_ret2
  exact ⟨rfl, HB.out⟩
set_option maxHeartbeats 1000000 in
set_option maxRecDepth 100000 in
theorem newT_ok (n : Nat) (h1 : 1 ≤ n) (h2 : n ≤ 4096) (w : World) : Calls Try.prog 16 #[.int .i64 n] w fun e w' => ∃ q b r cap, e = .returned (.tuple #[.pointer (some ⟨q, 0, none⟩), .int .i64 0]) ∧ MapAtT w' q b n r cap ∧ cont r = [] ∧ Below w.heap.size w w' ∧ w.heap.size ≤ q ∧ w.heap.size ≤ b := by
  obtain ⟨i0, hi, hz0, hz1, hz2⟩ := info_of info110
  have hb1 : Hid (i0.bytes * 8 ≤ 281474976710656) := by show _ ≤ _; rw [hz2]; omega
  have hb2 : Hid (8 ≤ maxLen) := by show _ ≤ _; unfold maxLen; omega
  go_enter Try.func16, Try.ntmps16
  go_wp2_with (at_make; refine wpList_make_full _ rfl _ _ 99 rfl w.heap.size 110 i0 (.agg #[.bool false, .int .u32 0, .string ⟨#[]⟩, .string ⟨#[]⟩, .int .i64 0, .int .i64 0]) 6 Try.underlying99 hi hz0 hz1 _ _ _ _ 8 rfl rfl rfl rfl hb1.out hb2.out (Nat.le_refl _) ?_)
  intro w1 hown hgr
  have HW : Hid (RowOf 110 6 encV w1 w.heap.size (List.replicate 8 none)) := RowOf.madeT hown
  have HB0 : Hid (Below w.heap.size w w1) := ⟨hgr.os, hgr.tape, hgr.output, hgr.size, fun k hk => hgr.block k hk (by simp)⟩
  clear hown hgr hi hz0 hz1 hz2 hb1 hb2
  have HX : Hid (Blk (w1.alloc (.cells #[.int .i64 n, .int .i64 0, .slice (some ⟨w.heap.size, 0, none⟩) 8 8] 101)) w1.heap.size #[.int .i64 n, .int .i64 0, .slice (some ⟨w.heap.size, 0, none⟩) 8 8] 101) := Blk.new w1 _ 101
  have HA : Hid (Below w1.heap.size w1 (w1.alloc (.cells #[.int .i64 n, .int .i64 0, .slice (some ⟨w.heap.size, 0, none⟩) 8 8] 101))) := (Below.refl _ _).alloc (Nat.le_refl _) _
  go_wp2
  go_ret2
  have hl := HW.out.lt
  refine ⟨w1.heap.size, w.heap.size, List.replicate 8 none, 8, rfl, ⟨?_, HW.out.below HA.out, Rw.empty spr (by omega), by simp, by rw [cont_replicate]; simp, by rw [cont_replicate]; simp; omega, by omega⟩, cont_replicate 8, HB0.out.trans (HA.out.mono HB0.out.size), HB0.out.size, Nat.le_refl _⟩
  have e : (cont (List.replicate 8 (none : Pl Th))).length = 0 := by rw [cont_replicate]; rfl
  rw [e, List.length_replicate]
  exact HX.out
theorem roomT_any (b cap c : Nat) (r : List (Pl Th)) (w : World) (hr : RowOf 110 6 encV w b r) (hR : Rw spr r) (h8 : r.length ≤ 16384) (h4 : 8 ≤ r.length) (hc : c ≤ r.length) (hc2 : c ≤ 4096) :
    Calls Try.prog 51 #[.slice (some ⟨b, 0, none⟩) r.length cap, .int .i64 c] w fun e w' => ∃ b' cap' r', e = .returned (.slice (some ⟨b', 0, none⟩) r'.length cap') ∧ RowOf 110 6 encV w' b' r' ∧ Rw spr r' ∧ (8 ≤ r'.length ∧ r'.length ≤ 16384 ∧ 2 * c ≤ r'.length) ∧ (cont r').Perm (cont r) ∧ Below w.heap.size w w' ∧ (b' = b ∨ w.heap.size ≤ b') := by
  by_cases h : 2 * c ≤ r.length
  · refine (roomT_same _ _ cap _ h h8 w).mono ?_
    rintro e w' ⟨rfl, rfl⟩
    exact ⟨b, cap, r, rfl, hr, hR, ⟨h4, h8, h⟩, List.Perm.refl _, Below.refl _ _, .inl rfl⟩
  · refine (roomT_wide b cap c r w hr hR (by omega) (by omega) hc2).mono ?_
    rintro e w' ⟨b', cap', r', rfl, h1, h2, h3, h5, h6, h7⟩
    exact ⟨b', cap', r', rfl, h1, h2, by omega, h5, h6, .inr h7⟩
end Go.Proofs.Ytkcjcidndckgbaa
