/- The map of things of another type (texts): what each call answers. -/
import Derived.Test.YtkcjcidndckgbaaSd
namespace Go.Proofs.Ytkcjcidndckgbaa
open Go.RowKit Go.Sort
set_option linter.unusedVariables false
set_option linter.unusedSimpArgs false

set_option maxHeartbeats 1000000 in
theorem homeS_any (ad : Option Addr) (L cap h : Nat) (h0 : 0 < L) (hL : L ≤ 16384) (hh : h < 4294967296) (w : World) : Calls Try.prog 76 #[.slice ad L cap, .int .u32 h] w fun e w' => e = .returned (.int .i64 ((h % L : Nat) : Int)) ∧ w' = w := by
  have hm : h % L < L := Nat.mod_lt _ h0
  have e1 : IntKind.u64.wrap (h : Int) = (h : Int) := by rw [IntKind.wrap_u64]; omega
  have e2 : IntKind.u64.wrap (L : Int) = (L : Int) := by rw [IntKind.wrap_u64]; omega
  have e3 : ((h : Int) % (L : Int)) = ((h % L : Nat) : Int) := by rw [Int.natCast_emod]
  have e4 : IntKind.i64.wrap ((h % L : Nat) : Int) = ((h % L : Nat) : Int) := by rw [IntKind.wrap_i64]; omega
  have e5 : (L : Int) ≠ 0 := by omega
  have e6 : ((L : Int) == 0) = false := by simp; omega
  generalize h % L = m at *
  go_enter Try.func76, Try.ntmps76
  go_wp2
  go_ret
  exact ⟨rfl, rfl⟩
set_option maxHeartbeats 1000000 in
theorem behindS_any (ad : Option Addr) (L cap a : Nat) (h0 : a < L) (hL : L ≤ 16384) (w : World) : Calls Try.prog 74 #[.slice ad L cap, .int .i64 a] w fun e w' => e = .returned (.int .i64 (nx L a)) ∧ w' = w := by
  go_enter Try.func74, Try.ntmps74
  go_wp2
  go_ret
  refine ⟨congrArg (fun z => Ending.returned (Value.int .i64 z)) ?_, rfl⟩
  rw [← nx_mod h0, Int.natCast_emod]; rfl
set_option maxHeartbeats 1000000 in
theorem wayS_any (ad : Option Addr) (L cap a b : Nat) (h0 : a < L) (h1 : b < L) (hL : L ≤ 16384) (w : World) : Calls Try.prog 75 #[.slice ad L cap, .int .i64 a, .int .i64 b] w fun e w' => e = .returned (.int .i64 (dist L a b)) ∧ w' = w := by
  go_enter Try.func75, Try.ntmps75
  go_wp2
  go_ret
  refine ⟨congrArg (fun z => Ending.returned (Value.int .i64 z)) ?_, rfl⟩
  rw [← dist_mod h0 h1, Int.natCast_emod]; congr 1; omega
/-- A place's cells. -/
def encU : Pl ByteArray → List Value
  | none => [.bool false, .int .u32 0, .string ⟨#[]⟩, .string ⟨#[]⟩]
  | some (k, v) => [.bool true, .int .u32 (spr k), .string k, .string v]
theorem encU_len (x : Pl ByteArray) : (encU x).length = 4 := by cases x <;> rfl
set_option maxHeartbeats 2000000 in
set_option maxRecDepth 100000 in
theorem findS_any (b cap : Nat) (r : List (Pl ByteArray)) (k : ByteArray) (w : World) (hr : RowOf 106 4 encU w b r) (hR : 2 ≤ r.length) (hL : r.length ≤ 16384) {f : Nat} (hf : r[f]? = some none) :
    Calls Try.prog 69 #[.slice (some ⟨b, 0, none⟩) r.length cap, .int .u32 (spr k), .string k] w fun e w' => ∃ a th, e = .returned (.tuple #[.int .i64 (a : Nat), .bool th]) ∧ w' = w ∧ Hid (Found r k a th) := by
  have hk := spr_lt k
  have C1 : Hid (Calls Try.prog 76 #[.slice (some ⟨b, 0, none⟩) r.length cap, .int .u32 (spr k)] w fun e w' => e = .returned (.int .i64 (home spr r.length k)) ∧ w' = w) := homeS_any _ _ _ _ (by omega) hL hk w
  have HS : Hid (Seek spr r k (home spr r.length k)) := Seek.start spr hR k
  have HR : Hid (RowOf 106 4 encU w b r) := hr
  have HF : Hid (r[f]? = some none) := hf
  obtain ⟨n, hn⟩ : ∃ n, n = r.length := ⟨_, rfl⟩
  have HN : Hid (n = r.length) := hn
  rw [← hn] at C1 hR hL ⊢
  clear hr hf hn hk
  have HA : Hid (home spr n k = home spr r.length k) := congrArg (fun z => home spr z k) HN.out
  obtain ⟨h, hh⟩ : ∃ h, h = spr k := ⟨_, rfl⟩
  have HH : Hid (h = spr k) := hh
  rw [← hh] at C1 ⊢
  clear hh
  generalize home spr n k = a0 at *
  go_enter Try.func69, Try.ntmps69
  go_wp2_with fail
  refine C1.out.mono ?_
  rintro e w1 ⟨rfl, rfl⟩
  clear C1
  go_wp2_with fail
  go_loopw [8] (fun i wr => ∃ a : Nat, i = .int .i64 a ∧ Hid (Seek spr r k a) ∧ wr = w1) (fun i _ => n - dist n a0 (intOf i).toNat)
  case atStart => exact ⟨a0, rfl, by rw [HA.out]; exact HS, rfl⟩
  case round =>
    obtain ⟨a, rfl, HK, rfl⟩ := hrel
    have ha : a < n := by rw [HN.out]; exact HK.out.lt
    obtain ⟨x, hx⟩ : ∃ x, r[a]? = some x := ⟨r[a]'(HK.out.lt), List.getElem?_eq_getElem _⟩
    have HX : Hid (r[a]? = some x) := hx
    clear hx
    cases x with
    | none =>
      have c0 := HR.out.cell0 HX.out (v := .bool false) rfl
      go_wp2_with fail
      go_ret2
      exact ⟨a, false, rfl, rfl, HK.out, .inr ⟨rfl, HX.out⟩⟩
    | some y =>
      obtain ⟨k', v⟩ := y
      have c0 := HR.out.cell0 HX.out (v := .bool true) rfl
      have c1 := HR.out.cell HX.out 1 (v := .int .u32 (spr k')) rfl
      have c2 := HR.out.cell HX.out 2 (v := .string k') rfl
      have CB : Hid (Calls Try.prog 74 #[.slice (some ⟨b, 0, none⟩) n cap, .int .i64 a] wr fun e w' => e = .returned (.int .i64 (nx n a)) ∧ w' = wr) := behindS_any _ _ _ _ ha hL wr
      have hS : k' ≠ k → Hid (Seek spr r k (nx n a)) ∧ n - dist n a0 (nx n a) < n - dist n a0 a := fun hk => by
        have h1 := HK.out.next HX.out hk HF.out
        have e1 : nx n a = nx r.length a := congrArg (fun z => nx z a) HN.out
        have e2 := HA.out
        have h2 := h1.2.1
        have h3 := h1.2.2
        rw [← e2, ← HN.out] at h2 h3
        exact ⟨by rw [e1]; exact h1.1, by omega⟩
      by_cases e2 : k' = k
      · subst e2
        have e1 : Hid (h = spr k') := HH
        rw [← e1.out] at c1
        go_wp2_with fail
        go_ret2
        exact ⟨a, true, rfl, rfl, HK.out, .inl ⟨rfl, v, HX.out⟩⟩
      · obtain ⟨HS2, hd⟩ := hS e2
        have t2 := tne e2
        clear hS
        generalize nx n a = a2 at *
        by_cases e1 : spr k' = h
        · rw [e1] at c1
          go_wp2_with fail
          refine CB.out.mono ?_
          rintro e w2 ⟨rfl, rfl⟩
          go_wp2_with fail
          exact ⟨⟨a2, rfl, HS2, trivial⟩, by simpa [intOf] using hd⟩
        · have t1 : ((spr k' : Int) == (h : Int)) = false := by simp; omega
          generalize spr k' = h' at *
          go_wp2_with fail
          refine CB.out.mono ?_
          rintro e w2 ⟨rfl, rfl⟩
          go_wp2_with fail
          exact ⟨⟨a2, rfl, HS2, trivial⟩, by simpa [intOf] using hd⟩
theorem isz106 : (Try.prog.info? 106).map (·.size) = some 4 := by kernel_rfl
theorem encU_one (x : Pl ByteArray) : (encU x).toArray.all (·.oneCell') = true := by cases x <;> simp [encU, Value.oneCell']
set_option maxHeartbeats 2000000 in
set_option maxRecDepth 100000 in
theorem layS_any (b cap : Nat) (r : List (Pl ByteArray)) (k : ByteArray) (v : ByteArray) (w : World) (hr : RowOf 106 4 encU w b r) (hR : Rw spr r) (hL : r.length ≤ 16384) {f : Nat} (hf : r[f]? = some none) (hn : ∀ x ∈ cont r, x.1 ≠ k) :
    Calls Try.prog 48 #[.slice (some ⟨b, 0, none⟩) r.length cap, .agg (encU (some (k, v))).toArray] w fun e w' => e = .returned (.tuple #[]) ∧ Kept (fun z => z = b) w w' ∧ ∃ r', RowOf 106 4 encU w' b r' ∧ Rw spr r' ∧ r'.length = r.length ∧ (cont r').Perm ((k, v) :: cont r) := by
  have hb := hr.lt
  have HX0 : Hid (Blk (w.alloc (.cells (encU (some (k, v))).toArray 106)) w.heap.size (encU (some (k, v))).toArray 106 ∧ Below w.heap.size w (w.alloc (.cells (encU (some (k, v))).toArray 106))) := ⟨Blk.new w _ 106, (Below.refl _ _).alloc (Nat.le_refl _) _⟩
  have HC : Hid (∀ w1, Below w.heap.size w w1 → Calls Try.prog 69 #[.slice (some ⟨b, 0, none⟩) r.length cap, .int .u32 (spr k), .string k] w1 fun e w' => ∃ a th, e = .returned (.tuple #[.int .i64 (a : Nat), .bool th]) ∧ w' = w1 ∧ Hid (Found r k a th)) := fun w1 h1 => findS_any b cap r k w1 (hr.below h1) hR.pos hL hf
  have HR : Hid (RowOf 106 4 encU w b r ∧ Rw spr r ∧ ∀ x ∈ cont r, x.1 ≠ k) := ⟨hr, hR, hn⟩
  obtain ⟨n, hnn⟩ : ∃ n, n = r.length := ⟨_, rfl⟩
  have HN : Hid (n = r.length) := hnn
  rw [← hnn] at HC hL ⊢
  clear hr hR hf hn hnn
  have c0 := HX0.out.1.cell 0 (v := .bool true) rfl
  have c1 := HX0.out.1.cell 1 (v := .int .u32 (spr k)) rfl
  have c2 := HX0.out.1.cell 2 (v := .string k) rfl
  have c3 := HX0.out.1.cell 3 (v := .string v) rfl
  show Calls Try.prog 48 #[.slice (some ⟨b, 0, none⟩) n cap, .agg #[.bool true, .int .u32 (spr k), .string k, .string v]] w _
  change (w.alloc (.cells #[.bool true, .int .u32 (spr k), .string k, .string v] 106)).cell? _ = _ at c0 c1 c2 c3
  have HX : Hid (Blk (w.alloc (.cells #[.bool true, .int .u32 (spr k), .string k, .string v] 106)) w.heap.size #[.bool true, .int .u32 (spr k), .string k, .string v] 106 ∧ Below w.heap.size w (w.alloc (.cells #[.bool true, .int .u32 (spr k), .string k, .string v] 106))) := HX0
  clear HX0
  go_enter Try.func48, Try.ntmps48
  go_upto_region 1 with fail
  generalize w.alloc (.cells #[.bool true, .int .u32 (spr k), .string k, .string v] 106) = W at *
  go_wp2_with fail
  refine (HC.out _ HX.out.2).mono ?_
  rintro e w1 ⟨a, th, rfl, rfl, HF⟩
  have hfree := Found.free HF.out HR.out.2.2
  obtain ⟨rfl, ha⟩ := hfree
  have HA : Hid (r[a]? = some none) := ha
  have hal : a < n := by rw [HN.out]; exact (List.getElem?_eq_some_iff.1 ha).1
  clear ha HC
  have RW : Hid (RowOf 106 4 encU w1 b r) := HR.out.1.below HX.out.2
  have ST : Hid (w1.there b (a * 4) (encU (some (k, v))).toArray.size) := RW.out.there (by rw [← HN.out]; exact hal)
  have R1 : Hid (w1.rangeAt w.heap.size 0 (encU (some (k, v)))) := fun j u hu => by rw [Nat.zero_add]; rw [← List.getElem?_toArray] at hu; exact HX.out.1.cell j hu
  have ON : Hid ((encU (some (k, v))).toArray.all (·.oneCell') = true) := encU_one _
  have hz := isz106
  have hz1 : Hid ((Try.prog.info? 106).map (·.size) = some (encU (some (k, v))).length) := hz
  clear c0 c1 c2 c3 hz
  go_wp2_with (first | (refine wpList_load_mid rfl 106 _ rfl w.heap.size 0 rfl (encU (some (k, v))) _ R1.out Try.underlying106 rfl hz1.out ?_) | (refine wpList_store_mid rfl 106 _ _ rfl b (a * 4) (encU (some (k, v))).toArray rfl rfl ST.out hz1.out ON.out ?_))
  go_end0
  refine ⟨rfl, (Kept.of_below HX.out.2).trans (setCells_kept _ _ _ _), r.set a (some (k, v)), RW.out.set a _ (by rw [← HN.out]; exact hal) encU_len, HR.out.2.1.lay HF.out.1 HA.out, by rw [List.length_set, HN.out], cont_lay _ HA.out⟩
set_option maxHeartbeats 2000000 in
set_option maxRecDepth 100000 in
theorem freeS_any (b cap : Nat) (r : List (Pl ByteArray)) (a0 : Nat) (x0 : ByteArray × ByteArray) (w : World) (hr : RowOf 106 4 encU w b r) (hR : Rw spr r) (hL : r.length ≤ 16384) {f : Nat} (hf : r[f]? = some none) (ha : r[a0]? = some (some x0)) :
    Calls Try.prog 53 #[.slice (some ⟨b, 0, none⟩) r.length cap, .int .i64 a0] w fun e w' => e = .returned (.tuple #[]) ∧ Kept (fun z => z = b) w w' ∧ ∃ r', RowOf 106 4 encU w' b r' ∧ Rw spr r' ∧ r'.length = r.length ∧ (cont r').Perm (cont (r.set a0 none)) := by
  have hb := hr.lt
  have hal := (List.getElem?_eq_some_iff.1 ha).1
  have hlf := (List.getElem?_eq_some_iff.1 hf).1
  have HG : Hid (Gap spr r a0 (nx r.length a0) f (cont (r.set a0 none))) := Gap.start hR ha hf
  have HR : Hid (RowOf 106 4 encU w b r) := hr
  have h2 := hR.pos
  obtain ⟨n, hnn⟩ : ∃ n, n = r.length := ⟨_, rfl⟩
  have HN : Hid (n = r.length) := hnn
  have CB : Hid (∀ (i : Nat), i < n → ∀ w, Calls Try.prog 74 #[.slice (some ⟨b, 0, none⟩) n cap, .int .i64 i] w fun e w' => e = .returned (.int .i64 (nx n i)) ∧ w' = w) := fun i hi w => behindS_any _ _ _ _ hi (by omega) w
  have CW : Hid (∀ (i j : Nat), i < n → j < n → ∀ w, Calls Try.prog 75 #[.slice (some ⟨b, 0, none⟩) n cap, .int .i64 i, .int .i64 j] w fun e w' => e = .returned (.int .i64 (dist n i j)) ∧ w' = w) := fun i j hi hj w => wayS_any _ _ _ _ _ hi hj (by omega) w
  have CH : Hid (∀ (k : ByteArray), ∀ w, Calls Try.prog 76 #[.slice (some ⟨b, 0, none⟩) n cap, .int .u32 (spr k)] w fun e w' => e = .returned (.int .i64 (home spr n k)) ∧ w' = w) := fun k w => homeS_any _ _ _ _ (by omega) (by omega) (spr_lt k) w
  rw [← hnn] at hL hal hlf h2 ⊢
  rw [← hnn] at HG
  generalize hD : cont (r.set a0 none) = D at *
  clear hr hR hf ha hnn hD
  go_enter Try.func53, Try.ntmps53
  go_wp2_with fail
  refine (CB.out _ hal w).mono ?_
  rintro e w1 ⟨rfl, rfl⟩
  go_wp2_with fail
  go_loopw [1, 4] (fun x y wr => ∃ (a m : Nat) (r1 : List (Pl ByteArray)), x = .int .i64 a ∧ y = .int .i64 m ∧ a < n ∧ m < n ∧ Hid (n = r1.length) ∧ Hid (Gap spr r1 a m f D) ∧ Hid (RowOf 106 4 encU wr b r1) ∧ Hid (Kept (fun z => z = b) w1 wr)) (fun _ y _ => dist n (intOf y).toNat f)
  case atStart => exact ⟨a0, nx n a0, r, rfl, rfl, hal, nx_lt hal, HN, HG, HR, Kept.refl _ _⟩
  case round =>
    clear HG HR HN
    obtain ⟨a, m, r1, rfl, rfl, hal, hml, HN, HG, HR, HK⟩ := hrel
    obtain ⟨x, hx⟩ : ∃ x, r1[m]? = some x := ⟨r1[m]'(by rw [← HN.out]; exact hml), List.getElem?_eq_getElem _⟩
    have HX : Hid (r1[m]? = some x) := hx
    clear hx
    have RW := HR
    have hz := isz106
    have hza : Hid ((Try.prog.info? 106).map (·.size) = some 4) := hz
    clear hz
    have ST : Hid (wr.there b (a * 4) 4) := HR.out.there (by rw [← HN.out]; exact hal)
    cases x with
    | none =>
      have c0 := HR.out.cell0 HX.out (v := .bool false) rfl
      have ON : Hid ((encU none).toArray.all (·.oneCell') = true) := encU_one none
      go_wp2_with (refine wpList_store_mid rfl 106 _ _ rfl b (a * 4) (encU none).toArray rfl rfl ST.out hza.out ON.out ?_)
      go_end0
      refine ⟨rfl, HK.out.trans (setCells_kept _ _ _ _), r1.set a none, HR.out.set a none (by rw [← HN.out]; exact hal) encU_len, HG.out.done HX.out, by rw [List.length_set, HN.out], HG.out.cont⟩
    | some y =>
      obtain ⟨k', v⟩ := y
      have c0 := HR.out.cell0 HX.out (v := .bool true) rfl
      have c1 := HR.out.cell HX.out 1 (v := .int .u32 (spr k')) rfl
      have ON : Hid ((encU (some (k', v))).toArray.all (·.oneCell') = true) := encU_one _
      have R1 : Hid (wr.rangeAt b (m * 4) (encU (some (k', v)))) := HR.out.range HX.out
      have hza2 : Hid ((Try.prog.info? 106).map (·.size) = some (encU (some (k', v))).length) := hza
      have hhl : home spr n k' < n := home_lt spr (by omega) k'
      have hlt : dist n (nx n m) f < dist n m f := by have := HG.out.less HX.out; rwa [← HN.out] at this
      have hnl := nx_lt hml
      have HS : Hid (¬ dist n a m ≤ dist n (home spr n k') m → Gap spr r1 a (nx n m) f D) := fun h => by
        have e : n = r1.length := HN.out
        rw [e] at h ⊢; exact HG.out.stay HX.out h
      have HM : Hid (dist n a m ≤ dist n (home spr n k') m → Gap spr (r1.set a (some (k', v))) m (nx n m) f D) := fun h => by
        have e : n = r1.length := HN.out
        rw [e] at h ⊢; exact HG.out.move HX.out h
      have CH1 := CH.out k' wr
      have CW1 := CW.out (home spr n k') m hhl hml wr
      have CW2 := CW.out a m hal hml wr
      have CB1 : Hid (∀ w, Calls Try.prog 74 #[.slice (some ⟨b, 0, none⟩) n cap, .int .i64 m] w fun e w' => e = .returned (.int .i64 (nx n m)) ∧ w' = w) := CB.out m hml
      have HC1 : Hid (Calls Try.prog 76 #[.slice (some ⟨b, 0, none⟩) n cap, .int .u32 (spr k')] wr fun e w' => e = .returned (.int .i64 (home spr n k')) ∧ w' = wr) := CH1
      have HW1 : Hid (Calls Try.prog 75 #[.slice (some ⟨b, 0, none⟩) n cap, .int .i64 (home spr n k'), .int .i64 m] wr fun e w' => e = .returned (.int .i64 (dist n (home spr n k') m)) ∧ w' = wr) := CW1
      have HW2 : Hid (Calls Try.prog 75 #[.slice (some ⟨b, 0, none⟩) n cap, .int .i64 a, .int .i64 m] wr fun e w' => e = .returned (.int .i64 (dist n a m)) ∧ w' = wr) := CW2
      clear CH1 CW1 CW2
      generalize dist n (home spr n k') m = d1 at *
      generalize home spr n k' = hm at *
      generalize dist n a m = d2 at *
      generalize nx n m = m2 at *
      generalize spr k' = h' at *
      by_cases hd : d2 ≤ d1
      · have HG2 := HM.out hd
        have HG2 : Hid (Gap spr (r1.set a (some (k', v))) m m2 f D) := HG2
        have HR2 : Hid (RowOf 106 4 encU (wr.setCells b (a * 4) (encU (some (k', v)))) b (r1.set a (some (k', v)))) := HR.out.set a (some (k', v)) (by rw [← HN.out]; exact hal) encU_len
        have HK2 : Hid (Kept (fun z => z = b) w1 (wr.setCells b (a * 4) (encU (some (k', v))))) := HK.out.trans (setCells_kept _ _ _ _)
        have HN2 : Hid (n = (r1.set a (some (k', v))).length) := by rw [List.length_set]; exact HN
        have ST2 : Hid (wr.there b (a * 4) (encU (some (k', v))).toArray.size) := ST
        have hza3 : Hid ((Try.prog.info? 106).map (·.size) = some (encU (some (k', v))).toArray.size) := hza
        clear HS HM
        go_wp2_with fail
        refine HC1.out.mono ?_
        rintro e w2 ⟨rfl, rfl⟩
        go_wp2_with fail
        refine HW1.out.mono ?_
        rintro e w2 ⟨rfl, rfl⟩
        go_wp2_with fail
        refine HW2.out.mono ?_
        rintro e w2 ⟨rfl, rfl⟩
        go_upto_region 5 with (first | (refine wpList_load_mid rfl 106 _ rfl b (m * 4) rfl (encU (some (k', v))) _ R1.out Try.underlying106 rfl hza2.out ?_) | (refine wpList_store_mid rfl 106 _ _ rfl b (a * 4) (encU (some (k', v))).toArray rfl rfl ST2.out hza3.out ON.out ?_))
        go_wp2_with fail
        refine (CB1.out _).mono ?_
        rintro e w2 ⟨rfl, rfl⟩
        go_wp2_with fail
        exact ⟨⟨m, m2, _, rfl, rfl, hml, hnl, HN2, HG2, HR2, HK2⟩, by simpa [intOf] using hlt⟩
      · have HG2 : Hid (Gap spr r1 a m2 f D) := HS.out hd
        clear HS HM
        go_wp2_with fail
        refine HC1.out.mono ?_
        rintro e w2 ⟨rfl, rfl⟩
        go_wp2_with fail
        refine HW1.out.mono ?_
        rintro e w2 ⟨rfl, rfl⟩
        go_wp2_with fail
        refine HW2.out.mono ?_
        rintro e w2 ⟨rfl, rfl⟩
        go_wp2_with fail
        refine (CB1.out _).mono ?_
        rintro e w2 ⟨rfl, rfl⟩
        go_wp2_with fail
        exact ⟨⟨a, m2, r1, rfl, rfl, hal, hnl, HN, HG2, HR, HK⟩, by simpa [intOf] using hlt⟩
theorem takenS_any (ad : Option Addr) (n cap : Nat) (w : World) : Calls Try.prog 70 #[.slice ad n cap] w fun e w' => e = .returned (.func (.func 90) #[] #[.pointer (some ⟨w.heap.size, 0, none⟩)]) ∧ Blk w' w.heap.size #[.slice ad n cap] 95 ∧ Below w.heap.size w w' := by
  have hmf := mf
  have HB : Hid (Below w.heap.size w (w.alloc (.cells #[.slice ad n cap] 95))) := (Below.refl _ _).alloc (Nat.le_refl _) _
  have HX : Hid (Blk (w.alloc (.cells #[.slice ad n cap] 95)) w.heap.size #[.slice ad n cap] 95) := Blk.new w _ 95
  go_enter Try.func70, Try.ntmps70
  go_wp2
  go_ret
  exact ⟨rfl, HX.out, HB.out⟩
set_option maxHeartbeats 2000000 in
set_option maxRecDepth 100000 in
theorem takenS_tells (r : List (Pl ByteArray)) (b cap : Nat) (hL : r.length ≤ 16384) (w : World) (hr : RowOf 106 4 encU w b r) (bx : Nat) (hbx : Blk w bx #[.slice (some ⟨b, 0, none⟩) r.length cap] 95) (S : Nat → Prop) (hSb : ¬ S bx) (hSr : ¬ S b) :
    Tells Try.prog 90 #[.pointer (some ⟨bx, 0, none⟩)] (fun x : ByteArray × ByteArray => #[Value.agg (encU (some x)).toArray]) (cont r) S w := by
  intro n l J Jx W hW hl hJ hJx hY h0
  have HR0 : Hid (RowOf 106 4 encU W b r) := hr.below hW
  have HBW : Hid (Blk W bx #[.slice (some ⟨b, 0, none⟩) r.length cap] 95) := hbx.below hW
  have HY : Hid (∀ (pre : List (ByteArray × ByteArray)) x W1, pre ++ [x] <+: cont r → J pre W1 → YieldAt Fence.wide (n - 1) Try.prog l #[Value.agg (encU (some x)).toArray] W1 fun e W' => (e = .returned (.bool true) ∧ J (pre ++ [x]) W' ∧ Kept S W1 W') ∨ (e = .returned (.bool false) ∧ Jx (pre ++ [x]) W' ∧ Kept (fun k => S k ∨ k = l) W1 W')) := hY
  have HJ : Hid (Low W.heap.size J) := hJ
  have H0 : Hid (J (cont (r.take 0)) W) := h0
  have c0 := HBW.out.cell 0 (v := .slice (some ⟨b, 0, none⟩) r.length cap) rfl
  obtain ⟨N, hN⟩ : ∃ N, N = r.length := ⟨_, rfl⟩
  have HN : Hid (N = r.length) := hN
  rw [← hN] at hL HBW c0
  clear hN hr hbx hW hY h0 hJ
  refine callsIn_of_wp Try.func90 rfl trivial ?_ rfl
  simp only [Try.ntmps90, List.size_toArray, List.length_cons, List.length_nil, Nat.reduceAdd, Nat.reduceSub, Array.replicate_succ, Array.replicate_zero, List.push_toArray, List.append_toArray, List.nil_append, List.cons_append]
  gi_wp2
  gi_loopw [7] (fun t wr => ∃ k : Nat, k ≤ N ∧ t = .int .i64 k ∧ J (cont (r.take k)) wr ∧ Kept S W wr) (fun t _ => N - (intOf t).toNat)
  case atStart => exact ⟨0, Nat.zero_le _, rfl, H0.out, Kept.refl _ _⟩
  case round =>
    obtain ⟨k, hk, rfl, hj, hkS⟩ := hrel
    by_cases hkN : k < N
    · obtain ⟨x, hx⟩ : ∃ x, r[k]? = some x := ⟨r[k]'(by rw [← HN.out]; exact hkN), List.getElem?_eq_getElem _⟩
      have HX : Hid (r[k]? = some x) := hx
      have HRW : Hid (RowOf 106 4 encU wr b r) := HR0.out.kept hkS hSr
      have hWz := hkS.size
      have HJK : Hid (∀ (xs : List (ByteArray × ByteArray)) W', Below wr.heap.size wr W' → J xs wr → J xs W') := fun xs W' hb hh => HJ.out xs wr W' (Kept.of_below hb) hh
      clear hx
      cases x with
      | none =>
        have q0 := HRW.out.cell0 HX.out (v := .bool false) rfl
        have q1 := HRW.out.cell HX.out 1 (v := .int .u32 0) rfl
        have q2 := HRW.out.cell HX.out 2 (v := .string ⟨#[]⟩) rfl
        have q3 := HRW.out.cell HX.out 3 (v := .string ⟨#[]⟩) rfl
        have HE : Hid (cont (r.take (k + 1)) = cont (r.take k)) := cont_take_none HX.out
        have HA : Hid (Below wr.heap.size wr (wr.alloc (.cells #[.bool false, .int .u32 0, .string ⟨#[]⟩, .string ⟨#[]⟩] 106))) := (Below.refl _ _).alloc (Nat.le_refl _) _
        have HJ1 : Hid (J (cont (r.take (k + 1))) (wr.alloc (.cells #[.bool false, .int .u32 0, .string ⟨#[]⟩, .string ⟨#[]⟩] 106)) ∧ Kept S W (wr.alloc (.cells #[.bool false, .int .u32 0, .string ⟨#[]⟩, .string ⟨#[]⟩] 106))) := ⟨by rw [HE.out]; exact HJK.out _ _ HA.out hj, hkS.trans (Kept.of_below HA.out)⟩
        clear hj hkS HJK H0
        gi_wp2_with fail
        refine ⟨by simp, ?_⟩
        gi_wp2_with fail
        go_roundw
        case rel => exact ⟨k + 1, by omega, by go_num, HJ1.out.1, HJ1.out.2⟩
        case measure => simp only [intOf]; omega
      | some y =>
        obtain ⟨k', v⟩ := y
        have q0 := HRW.out.cell0 HX.out (v := .bool true) rfl
        have q1 := HRW.out.cell HX.out 1 (v := .int .u32 (spr k')) rfl
        have q2 := HRW.out.cell HX.out 2 (v := .string k') rfl
        have q3 := HRW.out.cell HX.out 3 (v := .string v) rfl
        have HE : Hid (cont (r.take (k + 1)) = cont (r.take k) ++ [(k', v)]) := cont_take_some HX.out
        have HA : Hid (Below wr.heap.size wr (wr.alloc (.cells #[.bool true, .int .u32 (spr k'), .string k', .string v] 106))) := (Below.refl _ _).alloc (Nat.le_refl _) _
        have CT : Hid (∃ fn tmps assign body, (Instr.yield l #[.agg #[.bool true, .int .u32 (spr k'), .string k', .string v]]).run Try.prog (wr.alloc (.cells #[.bool true, .int .u32 (spr k'), .string k', .string v] 106)) = .ok (.round l fn tmps assign body) (wr.alloc (.cells #[.bool true, .int .u32 (spr k'), .string k', .string v] 106)) ∧ Hid (RoundIn Fence.wide (n - 1) Try.prog l fn tmps assign body (wr.alloc (.cells #[.bool true, .int .u32 (spr k'), .string k', .string v] 106)) fun e w' => (e = .returned (.bool true) ∧ Hid (J (cont (r.take (k + 1))) w' ∧ Kept S W w')) ∨ (e = .returned (.bool false) ∧ Hid (Jx (cont (r.take (k + 1))) w')))) := by
          obtain ⟨fn, tmps, assign, body, h1, h2⟩ := HY.out (cont (r.take k)) (k', v) (wr.alloc (.cells #[.bool true, .int .u32 (spr k'), .string k', .string v] 106)) (by rw [← HE.out]; exact cont_take_pre _ _) (HJK.out _ _ HA.out hj)
          refine ⟨fn, tmps, assign, body, h1, h2.mono ?_⟩
          rw [HE.out]
          rintro e w' (⟨rfl, hj, hk⟩ | ⟨rfl, hj, hk⟩)
          · exact .inl ⟨rfl, hj, (hkS.trans (Kept.of_below HA.out)).trans hk⟩
          · exact .inr ⟨rfl, hj⟩
        obtain ⟨fn, tmps, assign, body, hyi, HRd⟩ := CT.out
        clear CT hj hkS HJK H0
        gi_wp2_with fail
        refine ⟨no_depth _, ?_⟩
        refine HRd.out.mono ?_
        rintro e w7 (⟨rfl, HM7⟩ | ⟨rfl, HJ7⟩)
        · clear hyi HRd q0 q1 q2 q3
          gi_wp2_with fail
          go_roundw
          case rel => exact ⟨k + 1, by omega, by go_num, HM7.out.1, HM7.out.2⟩
          case measure => simp only [intOf]; omega
        · clear hyi HRd q0 q1 q2 q3
          gi_wp2_with fail
          first | go_end0 | refine bodyPost_ret (results_none rfl _ _ _) rfl ?_
          exact ⟨⟨_, rfl⟩, .inr ⟨_, cont_take_pre _ _, HJ7.out⟩⟩
    · have e : k = N := by omega
      subst e
      have HJ1 : Hid (J (cont r) wr) := by
        have : r.take k = r := List.take_of_length_le (by rw [HN.out]; exact Nat.le_refl _)
        rw [this] at hj; exact hj
      clear hj hkS
      gi_wp2_with fail
      go_end0
      exact ⟨⟨_, rfl⟩, .inl HJ1.out⟩
theorem info106 : (Try.prog.info? 106).map (fun i => (i.zero, i.size, i.bytes)) = some (some (.agg #[.bool false, .int .u32 0, .string ⟨#[]⟩, .string ⟨#[]⟩]), 4, 40) := by kernel_rfl
/-- A new row of free places. -/
theorem RowOf.madeS {w1 : World} {base g n cap : Nat} (hown : w1.ownsRow base 106 4 (.slice (some ⟨g, 0, none⟩) n cap) n (madeCells (Value.agg #[.bool false, .int .u32 0, .string ⟨#[]⟩, .string ⟨#[]⟩]).cells (n * 4)).toList) : RowOf 106 4 encU w1 g (List.replicate n none) := by
  rcases hown.2 with ⟨e, _⟩ | ⟨g', cap', cur, e, _, hb, _, _, hs, ht⟩
  · cases e
  · simp only [Value.slice.injEq, Option.some.injEq, Addr.mk.injEq, and_true, true_and] at e
    obtain ⟨rfl, rfl⟩ := e
    have h4 : n ≤ cap := by assumption
    refine ⟨cur, hb, by rw [List.length_replicate]; omega, fun i x hx j v hv => ?_⟩
    rw [List.getElem?_replicate] at hx
    split at hx
    · next hi =>
      injection hx with hx; subst hx
      have hj : j < 4 := (List.getElem?_eq_some_iff.1 hv).1
      have hlt : i * 4 + j < n * 4 := by omega
      have e1 : (cur.toList.take (n * 4))[i * 4 + j]? = (madeCells (Value.agg #[.bool false, .int .u32 0, .string ⟨#[]⟩, .string ⟨#[]⟩]).cells (n * 4)).toList[i * 4 + j]? := by rw [ht]
      rw [List.getElem?_take_of_lt hlt, Array.getElem?_toList, Array.getElem?_toList, made_get hlt] at e1
      rw [e1]
      have e2 : (Value.agg #[.bool false, .int .u32 0, .string ⟨#[]⟩, .string ⟨#[]⟩]).cells = #[.bool false, .int .u32 0, .string ⟨#[]⟩, .string ⟨#[]⟩] := rfl
      rw [e2, show #[Value.bool false, .int .u32 0, .string ⟨#[]⟩, .string ⟨#[]⟩].size = 4 from rfl, show (i * 4 + j) % 4 = j by omega]
      have : j = 0 ∨ j = 1 ∨ j = 2 ∨ j = 3 := by omega
      rcases this with rfl | rfl | rfl | rfl <;> exact hv
    · cases hx
theorem roomS_same (ad : Option Addr) (n cap c : Nat) (h : 2 * c ≤ n) (hn : n ≤ 16384) (w : World) : Calls Try.prog 47 #[.slice ad n cap, .int .i64 c] w fun e w' => e = .returned (.slice ad n cap) ∧ w' = w := by
  go_enter Try.func47, Try.ntmps47
  go_wp2
  go_ret
  exact ⟨rfl, rfl⟩
attribute [local go_sem] Oper.semAt_some
set_option maxHeartbeats 4000000 in
set_option maxRecDepth 100000 in
theorem roomS_wide (b cap c : Nat) (r : List (Pl ByteArray)) (w : World) (hr : RowOf 106 4 encU w b r) (hR : Rw spr r) (h8 : r.length ≤ 8192) (hc : r.length < 2 * c) (hc2 : c ≤ 4096) :
    Calls Try.prog 47 #[.slice (some ⟨b, 0, none⟩) r.length cap, .int .i64 c] w fun e w' => ∃ b' cap' r', e = .returned (.slice (some ⟨b', 0, none⟩) r'.length cap') ∧ RowOf 106 4 encU w' b' r' ∧ Rw spr r' ∧ r'.length = 2 * r.length ∧ (cont r').Perm (cont r) ∧ Below w.heap.size w w' ∧ w.heap.size ≤ b' := by
  suffices h : ∀ m, CallsIn Fence.wide m Try.prog 47 #[.slice (some ⟨b, 0, none⟩) r.length cap, .int .i64 c] w fun e w' => ∃ b' cap' r', e = .returned (.slice (some ⟨b', 0, none⟩) r'.length cap') ∧ RowOf 106 4 encU w' b' r' ∧ Rw spr r' ∧ r'.length = 2 * r.length ∧ (cont r').Perm (cont r) ∧ Below w.heap.size w w' ∧ w.heap.size ≤ b' from callsIn_wide.1 (h 0)
  intro m
  have h2 := hR.pos
  have hbl := hr.lt
  have HR : Hid (RowOf 106 4 encU w b r ∧ Rw spr r) := ⟨hr, hR⟩
  have CB : Hid (∀ w, CallsIn Fence.wide (m - 1) Try.prog 70 #[.slice (some ⟨b, 0, none⟩) r.length cap] w fun e w' => e = .returned (.func (.func 90) #[] #[.pointer (some ⟨w.heap.size, 0, none⟩)]) ∧ Blk w' w.heap.size #[.slice (some ⟨b, 0, none⟩) r.length cap] 95 ∧ Below w.heap.size w w') := fun w => callsIn_wide.2 (takenS_any (some ⟨b, 0, none⟩) r.length cap w)
  obtain ⟨i0, hi, hz0, hz1, hz2⟩ := info_of info106
  obtain ⟨n, hn⟩ : ∃ n, n = r.length := ⟨_, rfl⟩
  have HN : Hid (n = r.length) := hn
  rw [← hn] at CB h8 hc h2 ⊢
  have hb1 : i0.bytes * (2 * n) ≤ 281474976710656 := by rw [hz2]; omega
  have hb2 : 2 * n ≤ maxLen := by unfold maxLen; omega
  have hm2 : IntKind.i64.wrap (2 * (n : Int)) = ((2 * n : Nat) : Int) := by rw [IntKind.wrap_i64]; omega
  have hc3 : IntKind.i64.wrap (2 * (c : Int)) = ((2 * c : Nat) : Int) := by rw [IntKind.wrap_i64]; omega
  clear hr hR hn
  refine callsIn_of_wp_marks Try.func47 rfl trivial ?_ rfl
  simp only [Try.ntmps47, List.size_toArray, List.length_cons, List.length_nil, Nat.reduceAdd, Nat.reduceSub, Array.replicate_succ, Array.replicate_zero, List.push_toArray, List.append_toArray, List.nil_append, List.cons_append]
  gi_wp2_with (gi_at_make; refine wpListIn_make_full _ rfl _ _ 95 rfl w.heap.size 106 i0 (.agg #[.bool false, .int .u32 0, .string ⟨#[]⟩, .string ⟨#[]⟩]) 4 Try.underlying95 hi hz0 hz1 _ _ _ _ (2 * n) rfl rfl (by omega) (by omega) hb1 hb2 (Nat.le_refl _) ?_)
  intro w0 hown hgr
  have HW : Hid (RowOf 106 4 encU w0 w.heap.size (List.replicate (2 * n) none)) := RowOf.madeS hown
  have HB0 : Hid (Below w.heap.size w w0) := ⟨hgr.os, hgr.tape, hgr.output, hgr.size, fun k hk => hgr.block k hk (by simp)⟩
  clear hown hgr hi hz0 hz1 hz2 hb1 hb2 hm2 hc3
  have HA : Hid (Below w0.heap.size w0 (w0.alloc (.cells #[.slice (some ⟨w.heap.size, 0, none⟩) (2 * n) (2 * n)] 95))) := (Below.refl _ _).alloc (Nat.le_refl _) _
  have HX : Hid (Blk (w0.alloc (.cells #[.slice (some ⟨w.heap.size, 0, none⟩) (2 * n) (2 * n)] 95)) w0.heap.size #[.slice (some ⟨w.heap.size, 0, none⟩) (2 * n) (2 * n)] 95) := Blk.new w0 _ 95
  gi_wp2_with fail
  refine ⟨trivial, no_depth _, ?_⟩
  refine (CB.out _).mono ?_
  rintro e w1 ⟨rfl, hbx, hb1⟩
  have HB1 : Hid (Below w0.heap.size w0 w1) := HA.out.trans (hb1.mono HA.out.size)
  have HX1 : Hid (Blk w1 w0.heap.size #[.slice (some ⟨w.heap.size, 0, none⟩) (2 * n) (2 * n)] 95) := HX.out.below hb1
  rw [World.size_alloc] at hbx ⊢
  have HY1 : Hid (Blk w1 (w0.heap.size + 1) #[.slice (some ⟨b, 0, none⟩) n cap] 95) := hbx
  have HW1 : Hid (RowOf 106 4 encU w1 w.heap.size (List.replicate (2 * n) none)) := HW.out.below HB1.out
  have HBw : Hid (Below w.heap.size w w1) := HB0.out.trans (HB1.out.mono HB0.out.size)
  have HR1 : Hid (RowOf 106 4 encU w1 b r) := HR.out.1.below HBw.out
  have hz0 := HB0.out.size
  have hgl := HW.out.lt
  clear hbx hb1 CB HA HX HW
  gi_wp2_with fail
  have hlt1 := HX1.out.lt
  have hlty := HY1.out.lt
  refine range_outer (gf := 90) (lb := #[.pointer (some ⟨w0.heap.size + 1, 0, none⟩)]) (encs := fun x : ByteArray × ByteArray => #[Value.agg (encU (some x)).toArray]) (xs := cont r) (S := fun k => k = w.heap.size) rfl (enters_of Try.func90 (by kernel_rfl) rfl)
    (fun k e => by have e' : k = w.heap.size := e; omega)
    (takenS_tells r b cap (by rw [← HN.out]; omega) w1 HR1.out _ (by rw [← HN.out]; exact HY1.out) (fun k => k = w.heap.size) (fun e => by have e' : w0.heap.size + 1 = w.heap.size := e; omega) (fun e => by have e' : b = w.heap.size := e; omega)) (Below.refl _ _) (fun _ => rfl)
    (fun pre W => (∃ r1, RowOf 106 4 encU W w.heap.size r1 ∧ Rw spr r1 ∧ r1.length = 2 * n ∧ (cont r1).Perm pre) ∧ Kept (fun k => k = w.heap.size) w1 W)
    (fun _ _ _ => False)
    ((low_row _ _ (fun pre r1 => Rw spr r1 ∧ r1.length = 2 * n ∧ (cont r1).Perm pre) (by omega)).and (low_kept _ _ _ (Nat.le_refl _)))
    (fun c => low_pure _ _)
    ⟨⟨_, HW1.out, Rw.empty spr (by omega), by simp, by rw [cont_replicate]⟩, Kept.refl _ _⟩ ?round ?done ?stop
  case round =>
    rintro l pre x W K hl hlt hz hpre ⟨⟨r1, hr1, hR1, hl1, hp1⟩, hK⟩ hKK
    obtain ⟨k', v⟩ := x
    have hnew := told_new (cont_keys HR.out.2) hpre
    have HNW : Hid (∀ y ∈ cont r1, y.1 ≠ k') := fun y hy => hnew y (hp1.mem_iff.1 hy)
    have hlen : (pre ++ [(k', v)]).length ≤ (cont r).length := hpre.length_le
    have hle := cont_len_le r
    have HFR : Hid (∃ f : Nat, r1[f]? = some none) := free_of r1 (by
      have := hp1.length_eq
      have e := HN.out
      simp at hlen
      omega)
    have hzw := hK.size
    have hxw := HX1.out.kept hK (by show ¬ _ = _; omega)
    have HXN : Hid (Blk (W.alloc (.cells #[.bool true, .int .u32 (spr k'), .string k', .string v] 106)) W.heap.size #[.bool true, .int .u32 (spr k'), .string k', .string v] 106) := Blk.new W _ 106
    simp only [encU, List.size_toArray]
    gi_wp2_with fail
    refine hKK _ _ ((Kept.refl _ _).alloc _) ?_
    intro Wb hkb hrec
    have hk1 : Kept (fun k => k = l) W Wb := ((Kept.refl (fun k => k = l) W).alloc _).trans hkb
    have HXB : Hid (Blk Wb W.heap.size #[.bool true, .int .u32 (spr k'), .string k', .string v] 106) := HXN.out.kept hkb (by show ¬ _ = _; omega)
    have HVB : Hid (Blk Wb w0.heap.size #[.slice (some ⟨w.heap.size, 0, none⟩) (2 * n) (2 * n)] 95) := hxw.kept hk1 (by show ¬ _ = _; omega)
    have HRB : Hid (RowOf 106 4 encU Wb w.heap.size r1 ∧ Rw spr r1 ∧ r1.length = 2 * n ∧ (cont r1).Perm pre) := ⟨hr1.kept hk1 (by show ¬ _ = _; omega), hR1, hl1, hp1⟩
    have HKB : Hid (Kept (fun k => k = w.heap.size) w1 Wb) := ⟨hk1.os.trans hK.os, hk1.tape.trans hK.tape, hk1.output.trans hK.output, Nat.le_trans hK.size hk1.size, fun k hk hs => (hk1.block k (Nat.lt_of_lt_of_le hk hK.size) (fun e => by have e' : k = l := e; omega)).trans (hK.block k hk hs)⟩
    obtain ⟨f, hf⟩ := HFR.out
    have CL : Hid (CallsIn Fence.wide (m - 1 - 1 - 1) Try.prog 48 #[.slice (some ⟨w.heap.size, 0, none⟩) (2 * n) (2 * n), .agg #[.bool true, .int .u32 (spr k'), .string k', .string v]] Wb fun e w' => e = .returned (.tuple #[]) ∧ Kept (fun z => z = w.heap.size) Wb w' ∧ ∃ r', RowOf 106 4 encU w' w.heap.size r' ∧ Rw spr r' ∧ r'.length = 2 * n ∧ (cont r').Perm ((k', v) :: cont r1)) := by
      have h := layS_any w.heap.size (2 * n) r1 k' v Wb HRB.out.1 hR1 (by rw [hl1]; omega) hf HNW.out
      rw [hl1] at h
      exact callsIn_wide.2 h
    have x0 := HXB.out.cell 0 (v := .bool true) rfl
    have x1 := HXB.out.cell 1 (v := .int .u32 (spr k')) rfl
    have x2 := HXB.out.cell 2 (v := .string k') rfl
    have x3 := HXB.out.cell 3 (v := .string v) rfl
    have v0 := HVB.out.cell 0 (v := .slice (some ⟨w.heap.size, 0, none⟩) (2 * n) (2 * n)) rfl
    clear hKK hpre hr1 hK hkb hrec hk1 hxw HXN HFR hf hnew hlen hle hR1 hl1 hp1
    gi_wp2_with fail
    refine ⟨trivial, no_depth _, ?_⟩
    refine CL.out.mono ?_
    rintro e w5 ⟨rfl, hk5, r', q1, q2, q3, q4⟩
    have HQ : Hid (Kept (fun k => k = w.heap.size) Wb w5 ∧ ((∃ r1, RowOf 106 4 encU w5 w.heap.size r1 ∧ Rw spr r1 ∧ r1.length = 2 * n ∧ (cont r1).Perm (pre ++ [(k', v)])) ∧ Kept (fun k => k = w.heap.size) w1 w5)) :=
      ⟨hk5, ⟨r', q1, q2, q3, (q4.trans (HRB.out.2.2.2.cons _)).trans (List.perm_append_comm (l₁ := [(k', v)]) (l₂ := pre))⟩, HKB.out.trans hk5⟩
    clear hk5 q1 q2 q3 q4 CL HXB HVB HKB HRB
    gi_wp2_with fail
    exact HQ.out
  case done =>
    rintro W ⟨⟨r1, hr1, hR1, hl1, hp1⟩, hK⟩ hks hD
    have hxw := HX1.out.kept hK (by show ¬ _ = _; omega)
    have v0 := hxw.cell 0 (v := .slice (some ⟨w.heap.size, 0, none⟩) (2 * n) (2 * n)) rfl
    have HBW : Hid (Below w.heap.size w W) := HBw.out.trans (hks.below HBw.out.size (fun k e => by have e' : k = w.heap.size := e; omega))
    have HQ : Hid (RowOf 106 4 encU W w.heap.size r1 ∧ Rw spr r1 ∧ r1.length = 2 * n ∧ (cont r1).Perm (cont r)) := ⟨hr1, hR1, hl1, hp1⟩
    have hzz := HB1.out.size
    have hzk := hK.size
    clear hks hK hxw hr1 hR1 hl1 hp1
    gi_wp2_with fail
    refine ⟨by simp, .inl ⟨_, _, rfl, run_takeDeferred hD, ?_⟩⟩
    have hkk := kept_putObj (fun k => k = w1.heap.size) W w1.heap.size (.deferred none) rfl
    refine ⟨.slice (some ⟨w.heap.size, 0, none⟩) (2 * n) (2 * n), ?_, w.heap.size, 2 * n, r1, by rw [HQ.out.2.2.1], HQ.out.1.kept hkk (by show ¬ _ = _; omega), HQ.out.2.1, HQ.out.2.2.1, HQ.out.2.2.2, HBW.out.trans (hkk.below HBW.out.size (fun k e => by have e' : k = w1.heap.size := e; omega)), Nat.le_refl _⟩
    simp [results, Try.results47, go_sem]
  case stop =>
    rintro c pre2 W' _ hf
    exact hf.elim
theorem findS_val (b cap : Nat) (r : List (Pl ByteArray)) (k : ByteArray) (w : World) (hr : RowOf 106 4 encU w b r) (hR : 2 ≤ r.length) (hL : r.length ≤ 16384) {f : Nat} (hf : r[f]? = some none) :
    Calls Try.prog 69 #[.slice (some ⟨b, 0, none⟩) r.length cap, .int .u32 (spr k), .string k] w fun e w' => e = .returned (.tuple #[.int .i64 ((fnd r k).1 : Nat), .bool (fnd r k).2]) ∧ w' = w := by
  refine (findS_any b cap r k w hr hR hL hf).mono ?_
  rintro e w' ⟨a, th, rfl, rfl, h⟩
  obtain ⟨e1, e2⟩ := (fnd_found hR hf k).uniq h.out
  rw [e1, e2]
  exact ⟨rfl, rfl⟩
/-- A map. -/
structure MapAtS (w : World) (q b most : Nat) (r : List (Pl ByteArray)) (cap : Nat) : Prop where
  hd : Blk w q #[.int .i64 most, .int .i64 (cont r).length, .slice (some ⟨b, 0, none⟩) r.length cap] 97
  row : RowOf 106 4 encU w b r
  rw : Rw spr r
  big : 8 ≤ r.length ∧ r.length ≤ 16384
  half : 2 * (cont r).length ≤ r.length
  most : (cont r).length ≤ most ∧ 1 ≤ most ∧ most ≤ 4096
  ne : q ≠ b
theorem MapAtS.kept {w w' : World} {q b most cap : Nat} {r : List (Pl ByteArray)} (h : MapAtS w q b most r cap) {S : Nat → Prop} (hk : Kept S w w') (h1 : ¬ S q) (h2 : ¬ S b) : MapAtS w' q b most r cap :=
  ⟨h.hd.kept hk h1, h.row.kept hk h2, h.rw, h.big, h.half, h.most, h.ne⟩
theorem MapAtS.below {w w' : World} {q b most cap : Nat} {r : List (Pl ByteArray)} (h : MapAtS w q b most r cap) (hk : Below w.heap.size w w') : MapAtS w' q b most r cap :=
  ⟨h.hd.below hk, h.row.below hk, h.rw, h.big, h.half, h.most, h.ne⟩
theorem MapAtS.free {w : World} {q b most cap : Nat} {r : List (Pl ByteArray)} (h : MapAtS w q b most r cap) : ∃ f : Nat, r[f]? = some none := free_of r (by have := h.half; have := h.big; omega)
theorem MapAtS.found {w : World} {q b most cap : Nat} {r : List (Pl ByteArray)} (h : MapAtS w q b most r cap) (k : ByteArray) : Found r k (fnd r k).1 (fnd r k).2 := by
  obtain ⟨f, hf⟩ := h.free
  exact fnd_found h.rw.pos hf k
set_option maxHeartbeats 1000000 in
theorem newS_bad (n : Int) (h : n < 1 ∨ 4096 < n) (w : World) : Calls Try.prog 15 #[.int .i64 n] w fun e w' => e = .returned (.tuple #[.pointer none, .int .i64 1]) ∧ w' = w := by
  go_enter Try.func15, Try.ntmps15
  rcases h with h | h
  · go_wp2
    go_ret2
    exact ⟨rfl, rfl⟩
  · have h' : ¬ n < 1 := by omega
    go_wp2
    go_ret2
    exact ⟨rfl, rfl⟩
set_option maxHeartbeats 1000000 in
theorem lenS_any (q b most cap : Nat) (r : List (Pl ByteArray)) (w : World) (h : MapAtS w q b most r cap) : Calls Try.prog 25 #[.pointer (some ⟨q, 0, none⟩)] w fun e w' => e = .returned (.int .i64 (cont r).length) ∧ w' = w := by
  have c1 := h.hd.cell 1 (v := .int .i64 (cont r).length) rfl
  clear h
  go_enter Try.func25, Try.ntmps25
  go_wp2
  go_ret
  exact ⟨rfl, rfl⟩
set_option maxHeartbeats 2000000 in
theorem mfindS_any (q b most cap : Nat) (r : List (Pl ByteArray)) (k : ByteArray) (hk : k.size ≤ 9223372036854775807) (w : World) (h : MapAtS w q b most r cap) :
    Calls Try.prog 46 #[.pointer (some ⟨q, 0, none⟩), .string k] w fun e w' => e = .returned (.tuple #[.int .i64 ((fnd r k).1 : Nat), .bool (fnd r k).2]) ∧ Below w.heap.size w w' := by
  have c2 : ∀ z : Grown w, (gw z).cell? ⟨q, 2, none⟩ = some (.slice (some ⟨b, 0, none⟩) r.length cap) := gw_cell (h.hd.cell 2 rfl)
  obtain ⟨f, hf⟩ := h.free
  have C1 : Hid (∀ w1, Calls Try.prog 49 #[.string k] w1 fun e w' => e = .returned (.int .u32 (spr k)) ∧ w' = w1) := fun w1 => spr_any k hk w1
  have C2 : Hid (∀ z : Grown w, Calls Try.prog 69 #[.slice (some ⟨b, 0, none⟩) r.length cap, .int .u32 (spr k), .string k] (gw z) fun e w' => e = .returned (.tuple #[.int .i64 ((fnd r k).1 : Nat), .bool (fnd r k).2]) ∧ w' = gw z) := fun z => findS_val b cap r k _ (h.row.below (gw_below z)) h.rw.pos h.big.2 hf
  generalize fnd r k = p at *
  generalize spr k = hh at *
  clear h hf hk
  go_enter Try.func46, Try.ntmps46
  go_upto_region 3 with fail
  refine region_grows (by kernel_rfl) (by kernel_rfl) ?_
  repeat (go_big_quiet_step ((first | (go_at_call 49; exact calls_gw_same (C1.out _)) | (go_at_call 69; exact calls_gw_same (C2.out _)))))
  refine wpQuiet_nil ?_
  intro wq hwq
  obtain ⟨zq, hwq⟩ := hwq
  subst hwq
  have HB : Hid (Below w.heap.size w (gw zq)) := gw_below zq
  generalize gw zq = W at *
  clear C1 C2 c2
  go_wp2
  go_ret2
  exact ⟨rfl, HB.out⟩
set_option maxHeartbeats 1000000 in
set_option maxRecDepth 100000 in
theorem newS_ok (n : Nat) (h1 : 1 ≤ n) (h2 : n ≤ 4096) (w : World) : Calls Try.prog 15 #[.int .i64 n] w fun e w' => ∃ q b r cap, e = .returned (.tuple #[.pointer (some ⟨q, 0, none⟩), .int .i64 0]) ∧ MapAtS w' q b n r cap ∧ cont r = [] ∧ Below w.heap.size w w' ∧ w.heap.size ≤ q ∧ w.heap.size ≤ b := by
  obtain ⟨i0, hi, hz0, hz1, hz2⟩ := info_of info106
  have hb1 : Hid (i0.bytes * 8 ≤ 281474976710656) := by show _ ≤ _; rw [hz2]; omega
  have hb2 : Hid (8 ≤ maxLen) := by show _ ≤ _; unfold maxLen; omega
  go_enter Try.func15, Try.ntmps15
  go_wp2_with (at_make; refine wpList_make_full _ rfl _ _ 95 rfl w.heap.size 106 i0 (.agg #[.bool false, .int .u32 0, .string ⟨#[]⟩, .string ⟨#[]⟩]) 4 Try.underlying95 hi hz0 hz1 _ _ _ _ 8 rfl rfl rfl rfl hb1.out hb2.out (Nat.le_refl _) ?_)
  intro w1 hown hgr
  have HW : Hid (RowOf 106 4 encU w1 w.heap.size (List.replicate 8 none)) := RowOf.madeS hown
  have HB0 : Hid (Below w.heap.size w w1) := ⟨hgr.os, hgr.tape, hgr.output, hgr.size, fun k hk => hgr.block k hk (by simp)⟩
  clear hown hgr hi hz0 hz1 hz2 hb1 hb2
  have HX : Hid (Blk (w1.alloc (.cells #[.int .i64 n, .int .i64 0, .slice (some ⟨w.heap.size, 0, none⟩) 8 8] 97)) w1.heap.size #[.int .i64 n, .int .i64 0, .slice (some ⟨w.heap.size, 0, none⟩) 8 8] 97) := Blk.new w1 _ 97
  have HA : Hid (Below w1.heap.size w1 (w1.alloc (.cells #[.int .i64 n, .int .i64 0, .slice (some ⟨w.heap.size, 0, none⟩) 8 8] 97))) := (Below.refl _ _).alloc (Nat.le_refl _) _
  go_wp2
  go_ret2
  have hl := HW.out.lt
  refine ⟨w1.heap.size, w.heap.size, List.replicate 8 none, 8, rfl, ⟨?_, HW.out.below HA.out, Rw.empty spr (by omega), by simp, by rw [cont_replicate]; simp, by rw [cont_replicate]; simp; omega, by omega⟩, cont_replicate 8, HB0.out.trans (HA.out.mono HB0.out.size), HB0.out.size, Nat.le_refl _⟩
  have e : (cont (List.replicate 8 (none : Pl ByteArray))).length = 0 := by rw [cont_replicate]; rfl
  rw [e, List.length_replicate]
  exact HX.out
set_option maxHeartbeats 1000000 in
theorem getS_none (q b most cap : Nat) (r : List (Pl ByteArray)) (k : ByteArray) (hk : k.size ≤ 9223372036854775807) (w : World) (h : MapAtS w q b most r cap) (hn : ∀ x ∈ cont r, x.1 ≠ k) :
    Calls Try.prog 21 #[.pointer (some ⟨q, 0, none⟩), .string k] w fun e w' => e = .returned (.tuple #[.string ⟨#[]⟩, .bool false]) ∧ Below w.heap.size w w' := by
  have C : Hid (Calls Try.prog 46 #[.pointer (some ⟨q, 0, none⟩), .string k] w fun e w' => e = .returned (.tuple #[.int .i64 ((fnd r k).1 : Nat), .bool (fnd r k).2]) ∧ Below w.heap.size w w') := mfindS_any q b most cap r k hk w h
  rw [((h.found k).nope hn).1] at C
  clear h hn hk
  generalize (fnd r k).1 = a at *
  go_enter Try.func21, Try.ntmps21
  go_wp2_with fail
  refine C.out.mono ?_
  rintro e w1 ⟨rfl, hb⟩
  have HB : Hid (Below w.heap.size w w1) := hb
  clear hb C
  go_wp2
  go_ret2
  exact ⟨rfl, HB.out⟩
set_option maxHeartbeats 1000000 in
theorem getS_some (q b most cap : Nat) (r : List (Pl ByteArray)) (k : ByteArray) (v : ByteArray) (hk : k.size ≤ 9223372036854775807) (w : World) (h : MapAtS w q b most r cap) (hm : (k, v) ∈ cont r) :
    Calls Try.prog 21 #[.pointer (some ⟨q, 0, none⟩), .string k] w fun e w' => e = .returned (.tuple #[.string v, .bool true]) ∧ Below w.heap.size w w' := by
  have C : Hid (Calls Try.prog 46 #[.pointer (some ⟨q, 0, none⟩), .string k] w fun e w' => e = .returned (.tuple #[.int .i64 ((fnd r k).1 : Nat), .bool (fnd r k).2]) ∧ Below w.heap.size w w') := mfindS_any q b most cap r k hk w h
  obtain ⟨e1, e2⟩ := (h.found k).some h.rw hm
  rw [e1] at C
  have HC : Hid (∀ w1, Below w.heap.size w w1 → w1.cell? ⟨q, 2, none⟩ = some (.slice (some ⟨b, 0, none⟩) r.length cap) ∧ w1.cell? ⟨b, (fnd r k).1 * 4 + 3, none⟩ = some (.string v)) := fun w1 h1 => ⟨(h.below h1).hd.cell 2 rfl, (h.below h1).row.cell e2 3 rfl⟩
  have hal : (fnd r k).1 < r.length := (List.getElem?_eq_some_iff.1 e2).1
  have hL := h.big.2
  clear h hm hk e1 e2
  generalize (fnd r k).1 = a at *
  generalize r.length = n at *
  go_enter Try.func21, Try.ntmps21
  go_wp2_with fail
  refine C.out.mono ?_
  rintro e w1 ⟨rfl, hb⟩
  have HB : Hid (Below w.heap.size w w1) := hb
  obtain ⟨c2, c3⟩ := HC.out w1 hb
  clear hb C HC
  go_wp2
  go_ret2
  exact ⟨rfl, HB.out⟩
theorem roomS_any (b cap c : Nat) (r : List (Pl ByteArray)) (w : World) (hr : RowOf 106 4 encU w b r) (hR : Rw spr r) (h8 : r.length ≤ 16384) (h4 : 8 ≤ r.length) (hc : c ≤ r.length) (hc2 : c ≤ 4096) :
    Calls Try.prog 47 #[.slice (some ⟨b, 0, none⟩) r.length cap, .int .i64 c] w fun e w' => ∃ b' cap' r', e = .returned (.slice (some ⟨b', 0, none⟩) r'.length cap') ∧ RowOf 106 4 encU w' b' r' ∧ Rw spr r' ∧ (8 ≤ r'.length ∧ r'.length ≤ 16384 ∧ 2 * c ≤ r'.length) ∧ (cont r').Perm (cont r) ∧ Below w.heap.size w w' ∧ (b' = b ∨ w.heap.size ≤ b') := by
  by_cases h : 2 * c ≤ r.length
  · refine (roomS_same _ _ cap _ h h8 w).mono ?_
    rintro e w' ⟨rfl, rfl⟩
    exact ⟨b, cap, r, rfl, hr, hR, ⟨h4, h8, h⟩, List.Perm.refl _, Below.refl _ _, .inl rfl⟩
  · refine (roomS_wide b cap c r w hr hR (by omega) (by omega) hc2).mono ?_
    rintro e w' ⟨b', cap', r', rfl, h1, h2, h3, h5, h6, h7⟩
    exact ⟨b', cap', r', rfl, h1, h2, by omega, h5, h6, .inr h7⟩
set_option maxHeartbeats 1000000 in
theorem putS_dup (q b most cap : Nat) (r : List (Pl ByteArray)) (k : ByteArray) (u v : ByteArray) (hk : k.size ≤ 9223372036854775807) (w : World) (h : MapAtS w q b most r cap) (hm : (k, u) ∈ cont r) :
    Calls Try.prog 17 #[.pointer (some ⟨q, 0, none⟩), .string k, .string v] w fun e w' => e = .returned (.int .i64 121) ∧ Below w.heap.size w w' := by
  have C : Hid (Calls Try.prog 46 #[.pointer (some ⟨q, 0, none⟩), .string k] w fun e w' => e = .returned (.tuple #[.int .i64 ((fnd r k).1 : Nat), .bool (fnd r k).2]) ∧ Below w.heap.size w w') := mfindS_any q b most cap r k hk w h
  rw [((h.found k).some h.rw hm).1] at C
  clear h hm hk
  generalize (fnd r k).1 = a at *
  go_enter Try.func17, Try.ntmps17
  go_wp2_with fail
  refine C.out.mono ?_
  rintro e w1 ⟨rfl, hb⟩
  have HB : Hid (Below w.heap.size w w1) := hb
  clear hb C
  go_wp2
  go_ret
  exact ⟨rfl, HB.out⟩
set_option maxHeartbeats 1000000 in
theorem putS_full (q b most cap : Nat) (r : List (Pl ByteArray)) (k : ByteArray) (v : ByteArray) (hk : k.size ≤ 9223372036854775807) (w : World) (h : MapAtS w q b most r cap) (hn : ∀ x ∈ cont r, x.1 ≠ k) (hf : (cont r).length = most) :
    Calls Try.prog 17 #[.pointer (some ⟨q, 0, none⟩), .string k, .string v] w fun e w' => e = .returned (.int .i64 120) ∧ Below w.heap.size w w' := by
  have C : Hid (Calls Try.prog 46 #[.pointer (some ⟨q, 0, none⟩), .string k] w fun e w' => e = .returned (.tuple #[.int .i64 ((fnd r k).1 : Nat), .bool (fnd r k).2]) ∧ Below w.heap.size w w') := mfindS_any q b most cap r k hk w h
  rw [((h.found k).nope hn).1] at C
  have HC : Hid (∀ w1, Below w.heap.size w w1 → w1.cell? ⟨q, 0, none⟩ = some (.int .i64 most) ∧ w1.cell? ⟨q, 1, none⟩ = some (.int .i64 most)) := fun w1 h1 => by
    have := (h.below h1).hd
    rw [hf] at this
    exact ⟨this.cell 0 rfl, this.cell 1 rfl⟩
  clear h hn hk hf
  generalize (fnd r k).1 = a at *
  go_enter Try.func17, Try.ntmps17
  go_wp2_with fail
  refine C.out.mono ?_
  rintro e w1 ⟨rfl, hb⟩
  have HB : Hid (Below w.heap.size w w1) := hb
  obtain ⟨c0, c1⟩ := HC.out w1 hb
  have hD : Hid (∀ n, Below w.heap.size w (w1.drewN n)) := fun n => ⟨hb.os, hb.tape, hb.output, hb.size, hb.block⟩
  clear hb C HC HB
  go_wp2_with fail
  go_quiet (fail)
  go_wp2
  go_ret
  exact ⟨rfl, hD.out _⟩
set_option maxHeartbeats 4000000 in
set_option maxRecDepth 100000 in
theorem putS_ok (q b most cap : Nat) (r : List (Pl ByteArray)) (k : ByteArray) (v : ByteArray) (hk : k.size ≤ 281474976710656) (w : World) (h : MapAtS w q b most r cap) (hn : ∀ x ∈ cont r, x.1 ≠ k) (hf : (cont r).length < most) :
    Calls Try.prog 17 #[.pointer (some ⟨q, 0, none⟩), .string k, .string v] w fun e w' => e = .returned (.int .i64 0) ∧ ∃ b2 cap2 r2, MapAtS w' q b2 most r2 cap2 ∧ (cont r2).Perm ((k, v) :: cont r) ∧ Kept (fun z => z = q ∨ z = b) w w' ∧ (b2 = b ∨ w.heap.size ≤ b2) := by
  have C : Hid (Calls Try.prog 46 #[.pointer (some ⟨q, 0, none⟩), .string k] w fun e w' => e = .returned (.tuple #[.int .i64 ((fnd r k).1 : Nat), .bool (fnd r k).2]) ∧ Below w.heap.size w w') := mfindS_any q b most cap r k (by omega) w h
  rw [((h.found k).nope hn).1] at C
  have HM : Hid (MapAtS w q b most r cap ∧ (∀ x ∈ cont r, x.1 ≠ k)) := ⟨h, hn⟩
  have hmost := h.most
  have hbig := h.big
  have hhalf := h.half
  have hne := h.ne
  clear h hn
  generalize (fnd r k).1 = a at *
  go_enter Try.func17, Try.ntmps17
  go_wp2_with fail
  refine C.out.mono ?_
  rintro e w1 ⟨rfl, hb⟩
  have HB : Hid (Below w.heap.size w w1) := hb
  have HM1 : Hid (MapAtS w1 q b most r cap) := HM.out.1.below hb
  obtain ⟨c, hc⟩ : ∃ c, c = (cont r).length := ⟨_, rfl⟩
  have HC : Hid (c = (cont r).length) := hc
  have c0 := HM1.out.hd.cell 0 (v := .int .i64 most) rfl
  have c1 : w1.cell? ⟨q, 1, none⟩ = some (.int .i64 c) := by rw [hc]; exact HM1.out.hd.cell 1 rfl
  rw [← hc] at hf hmost hhalf
  clear hc hb C
  have t1 : ((c : Int) == (most : Int)) = false := by simp; omega
  go_wp2_with fail
  go_quiet (fail)
  go_upto_region 8 with fail
  have HMD : Hid (∀ j, MapAtS (w1.drewN j) q b most r cap ∧ Below w.heap.size w (w1.drewN j)) := fun j => ⟨HM1.out.below ⟨rfl, rfl, rfl, Nat.le_refl _, fun _ _ => rfl⟩, HB.out.trans ⟨rfl, rfl, rfl, Nat.le_refl _, fun _ _ => rfl⟩⟩
  clear c0 c1 HM1 HB
  generalize hW : w1.drewN _ = W
  have HMW : Hid (MapAtS W q b most r cap ∧ Below w.heap.size w W) := by rw [← hW]; exact HMD.out _
  clear hW HMD
  have c1 : W.cell? ⟨q, 1, none⟩ = some (.int .i64 c) := by rw [HC.out]; exact HMW.out.1.hd.cell 1 rfl
  have f1 := HMW.out.1.hd.frozen 1
  have hx1 : IntKind.i64.wrap ((c : Int) + 1) = (c : Int) + 1 := by rw [IntKind.wrap_i64]; omega
  have HX2 : Hid (Blk (W.setCell ⟨q, 1, none⟩ (.int .i64 ((c : Int) + 1))) q #[.int .i64 most, .int .i64 ((c : Int) + 1), .slice (some ⟨b, 0, none⟩) r.length cap] 97) := HMW.out.1.hd.set 1 _
  have HK2 : Hid (Kept (fun z => z = q) W (W.setCell ⟨q, 1, none⟩ (.int .i64 ((c : Int) + 1)))) := (Kept.refl (fun z => z = q) W).set (p := ⟨q, 1, none⟩) rfl _
  go_upto_region 9 with fail
  generalize W.setCell ⟨q, 1, none⟩ (.int .i64 ((c : Int) + 1)) = W2 at *
  have HR2 : Hid (RowOf 106 4 encU W2 b r ∧ Rw spr r) := ⟨HMW.out.1.row.kept HK2.out (fun e => hne e.symm), HMW.out.1.rw⟩
  clear c1 f1
  have d0 := HX2.out.cell 0 (v := .int .i64 most) rfl
  have d1 := HX2.out.cell 1 (v := .int .i64 ((c : Int) + 1)) rfl
  have d2 := HX2.out.cell 2 (v := .slice (some ⟨b, 0, none⟩) r.length cap) rfl
  have hql := HX2.out.lt
  have CR : Hid (∀ W3, Below W2.heap.size W2 W3 → Calls Try.prog 47 #[.slice (some ⟨b, 0, none⟩) r.length cap, .int .i64 ((c : Int) + 1)] W3 fun e w' => ∃ b' cap' n', e = .returned (.slice (some ⟨b', 0, none⟩) n' cap') ∧ w'.cell? ⟨q, 1, none⟩ = some (.int .i64 ((c : Int) + 1)) ∧ w'.cell? ⟨q, 2, none⟩ = some (.slice (some ⟨b, 0, none⟩) r.length cap) ∧ w'.frozen? ⟨q, 2, none⟩ = false ∧ Hid (Blk w' q #[.int .i64 most, .int .i64 ((c : Int) + 1), .slice (some ⟨b, 0, none⟩) r.length cap] 97 ∧ Below W2.heap.size W2 w' ∧ (b' = b ∨ W2.heap.size ≤ b') ∧ ∃ r', n' = r'.length ∧ RowOf 106 4 encU w' b' r' ∧ Rw spr r' ∧ (8 ≤ r'.length ∧ r'.length ≤ 16384 ∧ 2 * (c + 1) ≤ r'.length) ∧ (cont r').Perm (cont r))) := fun W3 h3 => by
    have e : ((c + 1 : Nat) : Int) = (c : Int) + 1 := by omega
    have h := roomS_any b cap (c + 1) r W3 (HR2.out.1.below h3) HR2.out.2 hbig.2 hbig.1 (by omega) (by omega)
    rw [e] at h
    refine h.mono ?_
    rintro e w' ⟨b', cap', r', rfl, g1, g2, g3, g4, g5, g6⟩
    have hx := (HX2.out.below h3).below g5
    exact ⟨b', cap', r'.length, rfl, hx.cell 1 rfl, hx.cell 2 rfl, hx.frozen 2, hx, h3.trans (g5.mono h3.size), g6.imp id (fun q => Nat.le_trans h3.size q), r', rfl, g1, g2, g3, g4⟩
  go_region_with ((go_at_call 47; refine (CR.out _ (by exact ⟨rfl, rfl, rfl, Nat.le_refl _, fun _ _ => rfl⟩)).mono ?_; rintro e w4 ⟨b2, cap2, n2, rfl, h41, h42, h43, H4⟩))
  all_goals (
    obtain ⟨h4a, h4b, h4c, r4, h4d, h4e, h4f, h4g, h4h⟩ := H4.out
    have HK5 : Hid (Kept (fun z => z = q) w4 (w4.setCell ⟨q, 2, none⟩ (.slice (some ⟨b2, 0, none⟩) n2 cap2))) := (Kept.refl (fun z => z = q) w4).set (p := ⟨q, 2, none⟩) rfl _
    have HX5 : Hid (Blk (w4.setCell ⟨q, 2, none⟩ (.slice (some ⟨b2, 0, none⟩) n2 cap2)) q #[.int .i64 most, .int .i64 ((c : Int) + 1), .slice (some ⟨b2, 0, none⟩) n2 cap2] 97) := h4a.set 2 _
    have hbq : q ≠ b2 := fun e => by rcases h4c with h | h <;> omega
    have HR5 : Hid (RowOf 106 4 encU (w4.setCell ⟨q, 2, none⟩ (.slice (some ⟨b2, 0, none⟩) n2 cap2)) b2 r4 ∧ Rw spr r4) := ⟨h4e.kept HK5.out (fun e => hbq e.symm), h4f⟩
    have HF5 : Hid (Kept (fun z => z = q) W2 (w4.setCell ⟨q, 2, none⟩ (.slice (some ⟨b2, 0, none⟩) n2 cap2))) := (Kept.of_below h4b).trans HK5.out
    have HD5 : Hid ((b2 = b ∨ W2.heap.size ≤ b2) ∧ n2 = r4.length ∧ (8 ≤ r4.length ∧ r4.length ≤ 16384 ∧ 2 * (c + 1) ≤ r4.length) ∧ (cont r4).Perm (cont r)) := ⟨h4c, h4d, h4g, h4h⟩
    clear h4a h4b h4c h4d h4e h4f h4g h4h H4 CR d0 d1 d2 h41 h42 h43
    go_upto_region 10 with fail
    generalize w4.setCell ⟨q, 2, none⟩ (.slice (some ⟨b2, 0, none⟩) n2 cap2) = W5 at *
    have c2 : ∀ z : Grown W5, (gw z).cell? ⟨q, 2, none⟩ = some (.slice (some ⟨b2, 0, none⟩) n2 cap2) := gw_cell (HX5.out.cell 2 rfl)
    have C1 : Hid (∀ w1, Calls Try.prog 49 #[.string k] w1 fun e w' => e = .returned (.int .u32 (spr k)) ∧ w' = w1) := fun w1 => spr_any k (by omega) w1
    have C2 : Hid (∀ w1, Calls Try.prog 44 #[.string k] w1 fun e w' => e = .returned (.string k) ∧ Below w1.heap.size w1 w') := fun w1 => cloneI_any k hk w1
    obtain ⟨f, hfree⟩ : ∃ f : Nat, r4[f]? = some none := free_of r4 (by have h1 := HD5.out.2.2.2.length_eq; have h2 := HC.out; have h3 := HD5.out.2.2.1; omega)
    have CL : Hid (∀ z : Grown W5, Calls Try.prog 48 #[.slice (some ⟨b2, 0, none⟩) n2 cap2, .agg #[.bool true, .int .u32 (spr k), .string k, .string v]] (gw z) fun e w' => e = .returned (.tuple #[]) ∧ Kept (fun z => z = b2) (gw z) w' ∧ ∃ r', RowOf 106 4 encU w' b2 r' ∧ Rw spr r' ∧ r'.length = r4.length ∧ (cont r').Perm ((k, v) :: cont r4)) := fun z => by
      rw [HD5.out.2.1]
      exact layS_any b2 cap2 r4 k v (gw z) (HR5.out.1.below (gw_below z)) HR5.out.2 HD5.out.2.2.1.2.1 hfree (fun x hx => HM.out.2 x (HD5.out.2.2.2.mem_iff.1 hx))
    generalize spr k = hh at *
    clear hfree hk
    refine region_last_gw (by kernel_rfl) (by kernel_rfl) (by kernel_rfl) rfl ?_
    simp only [swapLast, stand]
    repeat (go_big_quiet_step ((first | (go_at_call 49; exact calls_gw_same (C1.out _)) | (go_at_call 44; exact calls_gw (C2.out _)))))
    refine wpQuiet_nil ?_
    intro wq hwq
    obtain ⟨zq, hwq⟩ := hwq
    subst hwq
    unfold Oper.wp
    go_simp
    refine (CL.out zq).mono ?_
    rintro e w6 ⟨rfl, hk6, r6, h6a, h6b, h6c, h6d⟩
    have HZ : Hid (Below W5.heap.size W5 (gw zq)) := gw_below zq
    have H6 : Hid (Kept (fun z => z = b2) (gw zq) w6 ∧ RowOf 106 4 encU w6 b2 r6 ∧ Rw spr r6 ∧ r6.length = r4.length ∧ (cont r6).Perm ((k, v) :: cont r4)) := ⟨hk6, h6a, h6b, h6c, h6d⟩
    clear hk6 h6a h6b h6c h6d CL C1 C2 c2
    generalize gw zq = W6 at *
    have HFIN : Hid (∃ b2 cap2 r2, MapAtS w6 q b2 most r2 cap2 ∧ (cont r2).Perm ((k, v) :: cont r) ∧ Kept (fun z => z = q ∨ z = b) w w6 ∧ (b2 = b ∨ w.heap.size ≤ b2)) := by
      obtain ⟨g1, g2, g3, g4, g5⟩ := H6.out
      obtain ⟨d1, d2, d3, d4⟩ := HD5.out
      have hp : (cont r6).Perm ((k, v) :: cont r) := g5.trans (d4.cons _)
      have hl : (cont r6).length = c + 1 := by rw [hp.length_eq, List.length_cons, HC.out]
      have hx := (HX5.out.below HZ.out).kept g1 hbq
      have z1 := HMW.out.2.size
      have z2 := HK2.out.size
      have ka : Kept (fun z => z = q ∨ z = b2) w w6 := ((((Kept.of_below HMW.out.2).trans (HK2.out.mono fun _ _ e => .inl e)).trans (HF5.out.mono fun _ _ e => .inl e)).trans (Kept.of_below HZ.out)).trans (g1.mono fun _ _ e => .inr e)
      refine ⟨b2, cap2, r6, ⟨?_, g2, g3, by omega, by omega, by omega, hbq⟩, hp, ka.mono fun z hz e => ?_, ?_⟩
      · rw [hl, g4, ← d2, show ((c + 1 : Nat) : Int) = (c : Int) + 1 by omega]; exact hx
      · rcases e with e | e
        · exact .inl e
        · rcases d1 with h | h
          · exact .inr (e.trans h)
          · omega
      · rcases d1 with h | h
        · exact .inl h
        · exact .inr (by omega)
    clear HZ H6 HX5 HR5 HF5 HD5 HC HK2 HMW HX2 HR2 HM
    dsimp only
    go_wp2_with fail
    go_ret
    exact ⟨rfl, HFIN.out⟩)
set_option maxHeartbeats 1000000 in
theorem dropS_none (q b most cap : Nat) (r : List (Pl ByteArray)) (k : ByteArray) (hk : k.size ≤ 9223372036854775807) (w : World) (h : MapAtS w q b most r cap) (hn : ∀ x ∈ cont r, x.1 ≠ k) :
    Calls Try.prog 19 #[.pointer (some ⟨q, 0, none⟩), .string k] w fun e w' => e = .returned (.tuple #[.string ⟨#[]⟩, .bool false]) ∧ Below w.heap.size w w' := by
  have C : Hid (Calls Try.prog 46 #[.pointer (some ⟨q, 0, none⟩), .string k] w fun e w' => e = .returned (.tuple #[.int .i64 ((fnd r k).1 : Nat), .bool (fnd r k).2]) ∧ Below w.heap.size w w') := mfindS_any q b most cap r k hk w h
  rw [((h.found k).nope hn).1] at C
  clear h hn hk
  generalize (fnd r k).1 = a at *
  go_enter Try.func19, Try.ntmps19
  go_wp2_with fail
  refine C.out.mono ?_
  rintro e w1 ⟨rfl, hb⟩
  have HB : Hid (Below w.heap.size w w1) := hb
  clear hb C
  go_wp2
  go_ret2
  exact ⟨rfl, HB.out⟩
set_option maxHeartbeats 2000000 in
theorem dropS_some (q b most cap : Nat) (r : List (Pl ByteArray)) (k : ByteArray) (v : ByteArray) (hk : k.size ≤ 9223372036854775807) (w : World) (h : MapAtS w q b most r cap) (hm : (k, v) ∈ cont r) :
    Calls Try.prog 19 #[.pointer (some ⟨q, 0, none⟩), .string k] w fun e w' => e = .returned (.tuple #[.string v, .bool true]) ∧ ∃ r2, MapAtS w' q b most r2 cap ∧ (cont r).Perm ((k, v) :: cont r2) ∧ Kept (fun z => z = q ∨ z = b) w w' := by
  have C : Hid (Calls Try.prog 46 #[.pointer (some ⟨q, 0, none⟩), .string k] w fun e w' => e = .returned (.tuple #[.int .i64 ((fnd r k).1 : Nat), .bool (fnd r k).2]) ∧ Below w.heap.size w w') := mfindS_any q b most cap r k hk w h
  obtain ⟨e1, e2⟩ := (h.found k).some h.rw hm
  rw [e1] at C
  have HE : Hid (r[(fnd r k).1]? = some (some (k, v))) := e2
  have HM : Hid (MapAtS w q b most r cap) := h
  have hal : (fnd r k).1 < r.length := (List.getElem?_eq_some_iff.1 e2).1
  have hL := h.big.2
  have hne := h.ne
  have hpos : 0 < (cont r).length := List.length_pos_of_mem hm
  have hmost := h.most
  obtain ⟨f, hf⟩ := h.free
  have HF : Hid (r[f]? = some none) := hf
  clear h hm hk e1 e2 hf
  generalize (fnd r k).1 = a at *
  obtain ⟨n, hn⟩ : ∃ n, n = r.length := ⟨_, rfl⟩
  have HN : Hid (n = r.length) := hn
  obtain ⟨c, hc⟩ : ∃ c, c = (cont r).length := ⟨_, rfl⟩
  have HC : Hid (c = (cont r).length) := hc
  rw [← hn] at hal hL
  rw [← hc] at hpos hmost
  clear hn hc
  go_enter Try.func19, Try.ntmps19
  go_wp2_with fail
  refine C.out.mono ?_
  rintro e w1 ⟨rfl, hb⟩
  have HB : Hid (Below w.heap.size w w1) := hb
  have HM1 : Hid (MapAtS w1 q b most r cap) := HM.out.below hb
  have c2 : w1.cell? ⟨q, 2, none⟩ = some (.slice (some ⟨b, 0, none⟩) n cap) := by rw [HN.out]; exact HM1.out.hd.cell 2 rfl
  have c3 := HM1.out.row.cell HE.out 3 (v := .string v) rfl
  have CF : Hid (∀ W, Below w1.heap.size w1 W → Calls Try.prog 53 #[.slice (some ⟨b, 0, none⟩) n cap, .int .i64 a] W fun e w' => e = .returned (.tuple #[]) ∧ Kept (fun z => z = b) W w' ∧ ∃ r', RowOf 106 4 encU w' b r' ∧ Rw spr r' ∧ r'.length = n ∧ (cont r').Perm (cont (r.set a none))) := fun W hW => by
    rw [HN.out]
    exact freeS_any b cap r a (k, v) W (HM1.out.row.below hW) HM1.out.rw HM1.out.big.2 HF.out HE.out
  clear hb C
  go_upto_region 7 with (go_at_call 53; refine (CF.out _ (by exact ⟨rfl, rfl, rfl, Nat.le_refl _, fun _ _ => rfl⟩)).mono ?_; rintro e w4 ⟨rfl, hk4, r4, h4a, h4b, h4c, h4d⟩)
  have HX4 : Hid (Blk w4 q #[.int .i64 most, .int .i64 c, .slice (some ⟨b, 0, none⟩) n cap] 97) := by
    have h := HM1.out.hd.kept hk4 (fun e => hne e)
    rw [← HC.out, ← HN.out] at h; exact h
  have H4 : Hid (Kept (fun z => z = b) w1 w4 ∧ RowOf 106 4 encU w4 b r4 ∧ Rw spr r4 ∧ r4.length = n ∧ (cont r4).Perm (cont (r.set a none))) := ⟨hk4, h4a, h4b, h4c, h4d⟩
  clear hk4 h4a h4b h4c h4d CF c2 c3
  have d1 := HX4.out.cell 1 (v := .int .i64 c) rfl
  have f1 := HX4.out.frozen 1
  have e1 : IntKind.i64.wrap ((c : Int) - 1) = (c : Int) - 1 := by rw [IntKind.wrap_i64]; omega
  have HFIN : Hid (∃ r2, MapAtS (w4.setCell ⟨q, 1, none⟩ (.int .i64 ((c : Int) - 1))) q b most r2 cap ∧ (cont r).Perm ((k, v) :: cont r2) ∧ Kept (fun z => z = q ∨ z = b) w (w4.setCell ⟨q, 1, none⟩ (.int .i64 ((c : Int) - 1)))) := by
    obtain ⟨g1, g2, g3, g4, g5⟩ := H4.out
    have ks : Kept (fun z => z = q) w4 (w4.setCell ⟨q, 1, none⟩ (.int .i64 ((c : Int) - 1))) := (Kept.refl (fun z => z = q) w4).set (p := ⟨q, 1, none⟩) rfl _
    have hp : (cont r).Perm ((k, v) :: cont r4) := (cont_take HE.out).trans (g5.symm.cons _)
    have hl : (cont r4).length + 1 = c := by have := hp.length_eq; rw [List.length_cons] at this; rw [HC.out]; omega
    have hb1 := HM.out.big
    have hh := HM.out.half
    have e2 := HN.out
    have e3 := HC.out
    refine ⟨r4, ⟨?_, g2.kept ks (fun e => hne e.symm), g3, by omega, by omega, by omega, hne⟩, hp, ((Kept.of_below HB.out).trans (g1.mono fun _ _ e => .inr e)).trans (ks.mono fun _ _ e => .inl e)⟩
    rw [g4, show ((cont r4).length : Int) = (c : Int) - 1 by omega]
    exact HX4.out.set 1 _
  clear HX4 H4 HM1 HM HB HC HN HE HF
  go_wp2_with fail
  go_ret2
  exact ⟨rfl, HFIN.out⟩
/-- A taken place's cells. -/
def encUt (x : ByteArray × ByteArray) : List Value := encU (some x)
theorem encUt_one (x : ByteArray × ByteArray) : ∀ v ∈ encUt x, v.oneCell' = true := by
  intro v hv
  simp only [encUt, encU, List.mem_cons, List.not_mem_nil, or_false] at hv
  rcases hv with rfl | rfl | rfl | rfl <;> rfl
set_option maxHeartbeats 1000000 in
theorem cmpS_any (x y : ByteArray × ByteArray) (W : World) : Calls Try.prog 81 #[.agg (encUt x).toArray, .agg (encUt y).toArray] W fun e w' => e = .returned (.int .i64 (cfK x y)) ∧ ∃ q os', w' = grow (W.drewN q) os' := by
  obtain ⟨k1, v1⟩ := x
  obtain ⟨k2, v2⟩ := y
  have C : Hid (∀ w, Calls Try.prog 66 #[.string k1, .string k2] w fun e w' => e = .returned (.int .i64 (cfK (k1, v1) (k2, v2))) ∧ w' = w) := fun w => Try.strings_Compare k1 k2 w
  generalize cfK (k1, v1) (k2, v2) = c at *
  show Calls Try.prog 81 #[.agg #[.bool true, .int .u32 (spr k1), .string k1, .string v1], .agg #[.bool true, .int .u32 (spr k2), .string k2, .string v2]] W _
  go_enter Try.func81, Try.ntmps81
  go_wp2_with fail
  refine (C.out _).mono ?_
  rintro e w1 ⟨rfl, rfl⟩
  clear C
  go_wp2
  go_ret
  exact ⟨rfl, 0, _, by rw [alloc_eq_grow, alloc_eq_grow, grow_grow]; rfl⟩
theorem holds_rowS {w : World} {g : Nat} {xs : List (ByteArray × ByteArray)} (h : RowOf 106 4 encUt w g xs) : HoldsK encUt 4 w g 0 xs.toArray := by
  intro t ht
  have ht' : t < xs.toArray.size * 4 := by rw [size_flatK] at ht; exact ht
  have hi : t / 4 < xs.length := by simp at ht'; omega
  have hm : t % 4 < 4 := Nat.mod_lt _ (by decide)
  rw [get_flatK encUt 4 _ t ht', Nat.zero_add]
  have hx : xs[t / 4]? = some (xs[t / 4]'hi) := List.getElem?_eq_getElem hi
  have e1 : xs.toArray[t / 4]! = xs[t / 4]'hi := by rw [getElem!_pos xs.toArray (t / 4) (by simpa using hi)]; simp
  have hl : (encUt (xs[t / 4]'hi)).length = 4 := encU_len _
  have hv : (encUt (xs[t / 4]'hi))[t % 4]? = some ((encUt (xs[t / 4]'hi))[t % 4]!) := by
    rw [getElem!_pos _ _ (by rw [hl]; exact hm)]
    exact List.getElem?_eq_getElem _
  have hc := h.cell hx (t % 4) hv
  rw [show t / 4 * 4 + t % 4 = t by omega] at hc
  rw [e1]
  exact ⟨hc, h.frozen t⟩
theorem cells_holdsS {w : World} {g : Nat} {d : Array (ByteArray × ByteArray)} (h : HoldsK encUt 4 w g 0 d) : CellsOf 4 encUt w g d.toList := by
  intro i x hx j v hv
  have hi : i < d.size := by have := (List.getElem?_eq_some_iff.1 hx).1; simpa using this
  have hj : j < 4 := Nat.lt_of_lt_of_eq (List.getElem?_eq_some_iff.1 hv).1 (encU_len _)
  have := (h.cell hi hj).1
  rw [Nat.zero_add] at this
  have e1 : d[i]! = x := by
    rw [getElem!_pos d i hi]
    have := (List.getElem?_eq_some_iff.1 hx).2
    simpa using this
  have e2 : (encUt x)[j]! = v := by
    obtain ⟨h1, h2⟩ := List.getElem?_eq_some_iff.1 hv
    rw [getElem!_pos (encUt x) j h1]; exact h2
  rw [this, e1, e2]
theorem sortS_any (g cap : Nat) (xs : List (ByteArray × ByteArray)) (w : World) (h : RowOf 106 4 encUt w g xs) (hd : xs.Pairwise fun a b => a.1 ≠ b.1) (hsz : xs.length < 4611686018427387904) :
    Calls Try.prog 80 #[.slice (some ⟨g, 0, none⟩) xs.length cap, .func (.func 81) #[] #[]] w fun e w' => e = .returned (.tuple #[]) ∧ ∃ ys : List (ByteArray × ByteArray), ys.Perm xs ∧ Srt ys ∧ CellsOf 4 encUt w' g ys ∧ Kept (fun z => z = g) w w' := by
  have eg : ∀ args w, (callFunc 81 args).run Try.prog w = .ok (.enter 81 args) w := enters_of Try.func81 (by kernel_rfl) rfl
  have hH := holds_rowS h
  have hcon := AnyQ.slices_SortFunc Try.sortPs 4 Try.isAgg106 Try.sizeOf106 encUt (fun _ => encU_len _) encUt_one cfK swoK 81 #[] g 0 cap xs.toArray w eg (fun _ _ _ _ x y => cmpS_any x y _) hH h.lt (by simpa using hsz)
  have e : xs.toArray.size = xs.length := by simp
  rw [e] at hcon
  refine Calls.mono hcon ?_
  rintro e2 w' ⟨rfl, d', n, os, hp, hs, rfl⟩
  have hsize : d'.size = xs.length := by rw [hp.1]; simp
  have hperm : d'.toList.Perm xs := by
    have := hp.2.2
    have tk : List.take xs.length d'.toList = d'.toList := List.take_of_length_le (by rw [Array.length_toList]; omega)
    simpa [tk] using this
  have hne := (hperm.pairwise_iff (fun h => Ne.symm h)).2 hd
  refine ⟨rfl, d'.toList, hperm, ?_, cells_holdsS (holdsK_sortWorldK_c encUt 4 w g 0 xs.toArray d' n os hH h.lt (by simpa using hsize)), kept_sorted _ _ _ _ _ _ _⟩
  rw [Srt, List.pairwise_iff_getElem]
  rw [List.pairwise_iff_getElem] at hne
  intro i j hi hj hij
  have hi' : i < d'.size := by simpa using hi
  have hj' : j < d'.size := by simpa using hj
  have h1 := hs i j (Nat.zero_le _) hij (by rw [← hsize]; exact hj')
  rw [lt_cfK, getElem!_pos d' i hi', getElem!_pos d' j hj'] at h1
  have h2 := hne i j hi hj hij
  simp only [Array.getElem_toList] at h2 ⊢
  cases q : blt d'[i].1 d'[j].1 with
  | true => rfl
  | false => exact absurd (blt_tri q h1) h2
def flat_S (l : List (ByteArray × ByteArray)) : List Value := (l.map encUt).flatten
theorem flat_S_len (l : List (ByteArray × ByteArray)) : (flat_S l).length = l.length * 4 := by
  induction l with
  | nil => rfl
  | cons a l ih =>
    show (encUt a ++ flat_S l).length = _
    rw [List.length_append, ih, List.length_cons, show (encUt a).length = 4 from encU_len _]; omega
theorem flat_S_cons (a : ByteArray × ByteArray) (l : List (ByteArray × ByteArray)) : flat_S (a :: l) = encUt a ++ flat_S l := by unfold flat_S; rw [List.map_cons, List.flatten_cons]
theorem flat_S_get (l : List (ByteArray × ByteArray)) : ∀ (i : Nat) (x : ByteArray × ByteArray), l[i]? = some x → ∀ (j : Nat) (v : Value), (encUt x)[j]? = some v → (flat_S l)[i * 4 + j]? = some v := by
  induction l with
  | nil => intro i x hx; simp at hx
  | cons a l ih =>
    intro i x hx j v hv
    have h4 : (encUt a).length = 4 := encU_len _
    rw [flat_S_cons]
    cases i with
    | zero =>
      have hx' : a = x := by simpa using hx
      subst hx'
      have hj : j < 4 := Nat.lt_of_lt_of_eq (List.getElem?_eq_some_iff.1 hv).1 h4
      rw [Nat.zero_mul, Nat.zero_add, List.getElem?_append_left (by rw [h4]; exact hj)]
      exact hv
    | succ i =>
      rw [List.getElem?_append_right (by rw [h4]; omega), h4, show (i + 1) * 4 + j - 4 = i * 4 + j by omega]
      exact ih i x (by simpa using hx) j v hv
theorem flat_S_snoc (l : List (ByteArray × ByteArray)) (x : ByteArray × ByteArray) : flat_S (l ++ [x]) = flat_S l ++ encUt x := by
  unfold flat_S; simp
theorem row_ownsS {w : World} {base g n cap : Nat} {l : List (ByteArray × ByteArray)} (h : w.ownsRow base 106 4 (.slice (some ⟨g, 0, none⟩) n cap) n (flat_S l)) (hn : n = l.length) : RowOf 106 4 encUt w g l := by
  subst hn
  rcases h.2 with ⟨e, _⟩ | ⟨g', cap', cur, e, _, hb, h4, _, hs, ht⟩
  · cases e
  · simp only [Value.slice.injEq, Option.some.injEq, Addr.mk.injEq, and_true, true_and] at e
    obtain ⟨rfl, rfl⟩ := e
    refine ⟨cur, hb, by rw [hs]; exact Nat.mul_le_mul_right 4 h4, fun i x hx j v hv => ?_⟩
    have h1 := flat_S_get l i x hx j v hv
    rw [← ht] at h1
    have hlt : i * 4 + j < l.length * 4 := by
      have hj : j < 4 := Nat.lt_of_lt_of_eq (List.getElem?_eq_some_iff.1 hv).1 (encU_len _)
      have := (List.getElem?_eq_some_iff.1 hx).1
      omega
    rw [List.getElem?_take_of_lt hlt, Array.getElem?_toList] at h1
    exact h1
theorem low_ownsS {β : Type} (m base g cap : Nat) (f : β → List Value) (n : β → Nat) (hg : g < m) : Low m (fun s W => W.ownsRow base 106 4 (.slice (some ⟨g, 0, none⟩) (n s) cap) (n s) (f s)) := fun s A C hk hj =>
  ownsRow_kept hj hk (fun k hk' => by simp [Value.ownBlock] at hk'; omega)
attribute [local go_sem] Oper.semAt_some
set_option maxHeartbeats 8000000 in
set_option maxRecDepth 100000 in
theorem sortedS_any (q b most cap : Nat) (r : List (Pl ByteArray)) (w : World) (h : MapAtS w q b most r cap) (m : Nat) :
    CallsIn Fence.wide m Try.prog 56 #[.pointer (some ⟨q, 0, none⟩)] w fun e w' => ∃ g cp ys, e = .returned (.slice (some ⟨g, 0, none⟩) ys.length cp) ∧ ys.Perm (cont r) ∧ Srt ys ∧ CellsOf 4 encUt w' g ys ∧ Below w.heap.size w w' ∧ w.heap.size ≤ g ∧ g < w'.heap.size := by
  have HM : Hid (MapAtS w q b most r cap) := h
  have hb4 := h.big
  have hmost := h.most
  have c1 := h.hd.cell 1 (v := .int .i64 (cont r).length) rfl
  have CB : Hid (∀ w, CallsIn Fence.wide (m - 1) Try.prog 70 #[.slice (some ⟨b, 0, none⟩) r.length cap] w fun e w' => e = .returned (.func (.func 90) #[] #[.pointer (some ⟨w.heap.size, 0, none⟩)]) ∧ Blk w' w.heap.size #[.slice (some ⟨b, 0, none⟩) r.length cap] 95 ∧ Below w.heap.size w w') := fun w => callsIn_wide.2 (takenS_any (some ⟨b, 0, none⟩) r.length cap w)
  obtain ⟨i0, hi, hz0, hz1, hz2⟩ := info_of info106
  obtain ⟨c, hc⟩ : ∃ c, c = (cont r).length := ⟨_, rfl⟩
  have HC : Hid (c = (cont r).length) := hc
  rw [← hc] at c1 hmost
  have hb1 : Hid (i0.bytes * c ≤ 281474976710656) := by show _ ≤ _; rw [hz2]; omega
  have hb2 : Hid (c ≤ maxLen) := by show _ ≤ _; unfold maxLen; omega
  clear h hc
  refine callsIn_of_wp_marks Try.func56 rfl trivial ?_ rfl
  simp only [Try.ntmps56, List.size_toArray, List.length_cons, List.length_nil, Nat.reduceAdd, Nat.reduceSub, Array.replicate_succ, Array.replicate_zero, List.push_toArray, List.append_toArray, List.nil_append, List.cons_append]
  gi_wp2_with (gi_at_make; refine wpListIn_make_own _ rfl _ _ 94 rfl w.heap.size 106 i0 (.agg #[.bool false, .int .u32 0, .string ⟨#[]⟩, .string ⟨#[]⟩]) 4 Try.underlying94 hi hz0 hz1 _ _ _ c rfl rfl rfl hb1.out hb2.out (Nat.le_refl _) ?_)
  intro w0 hown hgr
  have HO : Hid (w0.ownsRow w.heap.size 106 4 (.slice (some ⟨w.heap.size, 0, none⟩) 0 c) 0 []) := hown
  have HB0 : Hid (Below w.heap.size w w0) := ⟨hgr.os, hgr.tape, hgr.output, hgr.size, fun k hk => hgr.block k hk (by simp)⟩
  clear hown hgr hb1 hb2 c1
  have HA : Hid (Below w0.heap.size w0 (w0.alloc (.cells #[.slice (some ⟨w.heap.size, 0, none⟩) 0 c] 94))) := (Below.refl _ _).alloc (Nat.le_refl _) _
  have HX : Hid (Blk (w0.alloc (.cells #[.slice (some ⟨w.heap.size, 0, none⟩) 0 c] 94)) w0.heap.size #[.slice (some ⟨w.heap.size, 0, none⟩) 0 c] 94) := Blk.new w0 _ 94
  have HMA : Hid (MapAtS (w0.alloc (.cells #[.slice (some ⟨w.heap.size, 0, none⟩) 0 c] 94)) q b most r cap) := (HM.out.below HB0.out).below HA.out
  have c2 := HMA.out.hd.cell 2 (v := .slice (some ⟨b, 0, none⟩) r.length cap) rfl
  gi_wp2_with fail
  refine ⟨trivial, no_depth _, ?_⟩
  refine (CB.out _).mono ?_
  rintro e w1 ⟨rfl, hbx, hb1⟩
  have HB1 : Hid (Below w0.heap.size w0 w1) := HA.out.trans (hb1.mono HA.out.size)
  have HX1 : Hid (Blk w1 w0.heap.size #[.slice (some ⟨w.heap.size, 0, none⟩) 0 c] 94) := HX.out.below hb1
  have HM1 : Hid (MapAtS w1 q b most r cap) := HMA.out.below hb1
  rw [World.size_alloc] at hbx ⊢
  have HY1 : Hid (Blk w1 (w0.heap.size + 1) #[.slice (some ⟨b, 0, none⟩) r.length cap] 95) := hbx
  have HBw : Hid (Below w.heap.size w w1) := HB0.out.trans (HB1.out.mono HB0.out.size)
  have HO1 : Hid (w1.ownsRow w.heap.size 106 4 (.slice (some ⟨w.heap.size, 0, none⟩) 0 c) 0 []) := ownsRow_kept HO.out (Kept.of_below (S := fun _ => False) HB1.out) (fun k _ => id)
  have hz0' := HB0.out.size
  have hgl : w.heap.size < w0.heap.size := by
    rcases HO.out.2 with ⟨e, _⟩ | ⟨g', cap', cur, e, _, hb, _⟩
    · cases e
    · simp only [Value.slice.injEq, Option.some.injEq, Addr.mk.injEq, and_true, true_and] at e
      rw [← e.1] at hb
      exact (Array.getElem?_eq_some_iff.1 hb).1
  have hbl : b < w.heap.size := HM.out.row.lt
  clear hbx hb1 CB HA HX HMA c2 HO
  gi_wp2_with fail
  have hlt1 := HX1.out.lt
  have hlty := HY1.out.lt
  refine range_outer (gf := 90) (lb := #[.pointer (some ⟨w0.heap.size + 1, 0, none⟩)]) (encs := fun x : ByteArray × ByteArray => #[Value.agg (encU (some x)).toArray]) (xs := cont r) (S := fun k => k = w.heap.size ∨ k = w0.heap.size) rfl (enters_of Try.func90 (by kernel_rfl) rfl)
    (fun k e => by rcases e with e | e <;> omega)
    (takenS_tells r b cap hb4.2 w1 HM1.out.row _ HY1.out (fun k => k = w.heap.size ∨ k = w0.heap.size) (fun e => by rcases e with e | e <;> omega) (fun e => by rcases e with e | e <;> omega)) (Below.refl _ _) (fun _ => rfl)
    (fun pre W => Blk W w0.heap.size #[.slice (some ⟨w.heap.size, 0, none⟩) pre.length c] 94 ∧ W.ownsRow w.heap.size 106 4 (.slice (some ⟨w.heap.size, 0, none⟩) pre.length c) pre.length (flat_S pre) ∧ Kept (fun k => k = w.heap.size ∨ k = w0.heap.size) w1 W)
    (fun _ _ _ => False)
    ((low_blk _ _ (fun pre : List (ByteArray × ByteArray) => #[.slice (some ⟨w.heap.size, 0, none⟩) pre.length c]) _ (by omega)).and ((low_ownsS _ _ _ _ (fun pre => flat_S pre) (fun pre => pre.length) (by omega)).and (low_kept _ _ _ (Nat.le_refl _))))
    (fun c => low_pure _ _)
    ⟨HX1.out, HO1.out, Kept.refl _ _⟩ ?round ?done ?stop
  case round =>
    rintro l pre x W K hl hlt hz hpre ⟨hxw, how, hK⟩ hKK
    obtain ⟨k', v⟩ := x
    have hlen : (pre ++ [(k', v)]).length ≤ (cont r).length := hpre.length_le
    have hcap : pre.length + 1 ≤ c := by rw [HC.out]; simpa using hlen
    have HXN : Hid (Blk (W.alloc (.cells #[.bool true, .int .u32 (spr k'), .string k', .string v] 106)) W.heap.size #[.bool true, .int .u32 (spr k'), .string k', .string v] 106) := Blk.new W _ 106
    simp only [encU, List.size_toArray]
    gi_wp2_with fail
    refine hKK _ _ ((Kept.refl _ _).alloc _) ?_
    intro Wb hkb hrec
    have hk1 : Kept (fun k => k = l) W Wb := ((Kept.refl (fun k => k = l) W).alloc _).trans hkb
    have HXB : Hid (Blk Wb W.heap.size #[.bool true, .int .u32 (spr k'), .string k', .string v] 106) := HXN.out.kept hkb (by show ¬ _ = _; omega)
    have HVB : Hid (Blk Wb w0.heap.size #[.slice (some ⟨w.heap.size, 0, none⟩) pre.length c] 94) := hxw.kept hk1 (by show ¬ _ = _; omega)
    have HOB : Hid (Wb.ownsRow w.heap.size 106 4 (.slice (some ⟨w.heap.size, 0, none⟩) pre.length c) pre.length (flat_S pre)) := ownsRow_kept how hk1 (fun k hk => by simp [Value.ownBlock] at hk; show ¬ _ = _; omega)
    have HKB : Hid (Kept (fun k => k = w.heap.size ∨ k = w0.heap.size) w1 Wb) := ⟨hk1.os.trans hK.os, hk1.tape.trans hK.tape, hk1.output.trans hK.output, Nat.le_trans hK.size hk1.size, fun k hk hs => (hk1.block k (Nat.lt_of_lt_of_le hk hK.size) (fun e => by have e' : k = l := e; omega)).trans (hK.block k hk hs)⟩
    have x0 := HXB.out.cell 0 (v := .bool true) rfl
    have x1 := HXB.out.cell 1 (v := .int .u32 (spr k')) rfl
    have x2 := HXB.out.cell 2 (v := .string k') rfl
    have x3 := HXB.out.cell 3 (v := .string v) rfl
    have v0 := HVB.out.cell 0 (v := .slice (some ⟨w.heap.size, 0, none⟩) pre.length c) rfl
    have HAN : Hid (Kept (fun k => k = w.heap.size ∨ k = w0.heap.size) Wb (Wb.alloc (.cells #[.bool true, .int .u32 (spr k'), .string k', .string v] 106))) := Kept.of_below ((Below.refl _ _).alloc (Nat.le_refl _) _)
    have HO2 : Hid ((Wb.alloc (.cells #[.bool true, .int .u32 (spr k'), .string k', .string v] 106)).ownsRow w.heap.size 106 4 (.slice (some ⟨w.heap.size, 0, none⟩) pre.length c) pre.length (flat_S pre)) := ownsRow_kept HOB.out (Kept.of_below (S := fun _ => False) ((Below.refl _ _).alloc (Nat.le_refl _) _)) (fun k _ => id)
    have HV2 : Hid (Blk (Wb.alloc (.cells #[.bool true, .int .u32 (spr k'), .string k', .string v] 106)) w0.heap.size #[.slice (some ⟨w.heap.size, 0, none⟩) pre.length c] 94) := HVB.out.below ((Below.refl _ _).alloc (Nat.le_refl _) _)
    have HN2 : Hid (∀ j u, ([.bool true, .int .u32 (spr k'), .string k', .string v] : List Value)[j]? = some u → (Wb.alloc (.cells #[.bool true, .int .u32 (spr k'), .string k', .string v] 106)).cell? ((⟨Wb.heap.size, 0, none⟩ : Addr).add j) = some u) := fun j u hu => by
      rw [Addr.add_mid, Nat.zero_add]
      rw [← List.getElem?_toArray] at hu
      exact (Blk.new Wb #[.bool true, .int .u32 (spr k'), .string k', .string v] 106).cell j hu
    have HE2 : Hid (flat_S (pre ++ [(k', v)]) = flat_S pre ++ [.bool true, .int .u32 (spr k'), .string k', .string v] ∧ (pre ++ [(k', v)]).length = pre.length + 1) := ⟨flat_S_snoc pre (k', v), by simp⟩
    clear hKK hpre how hK hkb hrec hk1 hxw HXN hlen HOB
    generalize flat_S pre = F1 at *
    generalize pre.length = n1 at *
    gi_wp2_with (gi_at_builtin; refine wpListIn_append_fits _ rfl _ _ 94 rfl w.heap.size 106 i0 4 Try.underlying94 hi hz1 w.heap.size n1 c F1 rfl HO2.out ⟨Wb.heap.size, 0, none⟩ 1 1 [.bool true, .int .u32 (spr k'), .string k', .string v] rfl rfl HN2.out ?c1 hcap ?_)
    case c1 =>
      intro u hu
      simp only [List.mem_cons, List.not_mem_nil, or_false] at hu
      rcases hu with rfl | rfl | rfl | rfl <;> rfl
    intro W4 hown4 hgr4
    generalize Wb.alloc (.cells #[.bool true, .int .u32 (spr k'), .string k', .string v] 106) = W3 at *
    have HK4 : Hid (Kept (fun k => k = w.heap.size ∨ k = w0.heap.size) Wb W4) := HAN.out.grown hgr4 (fun k hk => by injection hk with hk; exact .inl hk.symm)
    have HV4 : Hid (Blk W4 w0.heap.size #[.slice (some ⟨w.heap.size, 0, none⟩) n1 c] 94) := HV2.out.kept ((Kept.refl (fun k => k = w.heap.size) W3).grown hgr4 (fun k hk => by injection hk with hk; exact hk.symm)) (by show ¬ _ = _; omega)
    have HO4 : Hid (W4.ownsRow w.heap.size 106 4 (.slice (some ⟨w.heap.size, 0, none⟩) (n1 + 1) c) (n1 + 1) (F1 ++ [.bool true, .int .u32 (spr k'), .string k', .string v])) := hown4
    have y0 := HV4.out.cell 0 (v := .slice (some ⟨w.heap.size, 0, none⟩) n1 c) rfl
    have y1 := HV4.out.frozen 0
    clear hown4 hgr4 HO2 HAN HV2 HN2 x0 x1 x2 x3 v0
    have HQ : Hid (Kept (fun k => k = w.heap.size ∨ k = w0.heap.size) Wb (W4.setCell ⟨w0.heap.size, 0, none⟩ (.slice (some ⟨w.heap.size, 0, none⟩) (n1 + 1) c)) ∧ Blk (W4.setCell ⟨w0.heap.size, 0, none⟩ (.slice (some ⟨w.heap.size, 0, none⟩) (n1 + 1) c)) w0.heap.size #[.slice (some ⟨w.heap.size, 0, none⟩) (pre ++ [(k', v)]).length c] 94 ∧ (W4.setCell ⟨w0.heap.size, 0, none⟩ (.slice (some ⟨w.heap.size, 0, none⟩) (n1 + 1) c)).ownsRow w.heap.size 106 4 (.slice (some ⟨w.heap.size, 0, none⟩) (pre ++ [(k', v)]).length c) (pre ++ [(k', v)]).length (flat_S (pre ++ [(k', v)])) ∧ Kept (fun k => k = w.heap.size ∨ k = w0.heap.size) w1 (W4.setCell ⟨w0.heap.size, 0, none⟩ (.slice (some ⟨w.heap.size, 0, none⟩) (n1 + 1) c))) := by
      have ks : Kept (fun k => k = w0.heap.size) W4 (W4.setCell ⟨w0.heap.size, 0, none⟩ (.slice (some ⟨w.heap.size, 0, none⟩) (n1 + 1) c)) := (Kept.refl (fun k => k = w0.heap.size) W4).set (p := ⟨w0.heap.size, 0, none⟩) rfl _
      have k4 := HK4.out.trans (ks.mono fun _ _ e => .inr e)
      obtain ⟨e1, e2⟩ := HE2.out
      rw [e1, e2]
      exact ⟨k4, HV4.out.set 0 _, ownsRow_kept HO4.out ks (fun k hk => by simp [Value.ownBlock] at hk; show ¬ _ = _; omega), HKB.out.trans k4⟩
    gi_wp2_with fail
    exact HQ.out
  case done =>
    rintro W ⟨hxw, how, hK⟩ hks hD
    have HD5 : Hid (W.heap[w1.heap.size]? = some (.deferred (some []))) := hD
    have hzk := hK.size
    have hzz := HB1.out.size
    have hlc : (cont r).length = c := HC.out.symm
    have HRW : Hid (RowOf 106 4 encUt W w.heap.size (cont r)) := row_ownsS how rfl
    rw [hlc] at hxw
    have v0 := hxw.cell 0 (v := .slice (some ⟨w.heap.size, 0, none⟩) c c) rfl
    have HVW : Hid (Blk W w0.heap.size #[.slice (some ⟨w.heap.size, 0, none⟩) c c] 94) := hxw
    have HBW : Hid (Below w.heap.size w W) := HBw.out.trans (hks.below HBw.out.size (fun k e => by rcases e with e | e <;> omega))
    have hwl : w1.heap.size < W.heap.size := (Array.getElem?_eq_some_iff.1 hD).1
    have CS : Hid (∀ m, CallsIn Fence.wide m Try.prog 80 #[.slice (some ⟨w.heap.size, 0, none⟩) c c, .func (.func 81) #[] #[]] W fun e w' => e = .returned (.tuple #[]) ∧ ∃ ys : List (ByteArray × ByteArray), ys.Perm (cont r) ∧ Srt ys ∧ CellsOf 4 encUt w' w.heap.size ys ∧ Kept (fun z => z = w.heap.size) W w') := fun m => by
      have h := sortS_any w.heap.size c (cont r) W HRW.out (cont_keys HM.out.rw) (by rw [hlc]; omega)
      rw [hlc] at h
      exact callsIn_wide.2 h
    clear hks hK hxw how hD
    gi_wp2_with fail
    refine ⟨trivial, no_depth _, ?_⟩
    refine (CS.out _).mono ?_
    rintro e w5 ⟨rfl, ys, hp, hsr, hce, hk5⟩
    have HF : Hid (ys.Perm (cont r) ∧ Srt ys ∧ CellsOf 4 encUt w5 w.heap.size ys ∧ Kept (fun z => z = w.heap.size) W w5) := ⟨hp, hsr, hce, hk5⟩
    have HV5 : Hid (Blk w5 w0.heap.size #[.slice (some ⟨w.heap.size, 0, none⟩) c c] 94) := HVW.out.kept hk5 (by show ¬ _ = _; omega)
    have HD6 : Hid (w5.heap[w1.heap.size]? = some (.deferred (some []))) := (hk5.block _ hwl (by show ¬ _ = _; omega)).trans HD5.out
    have v5 := HV5.out.cell 0 (v := .slice (some ⟨w.heap.size, 0, none⟩) c c) rfl
    have hz5 := hk5.size
    clear hp hsr hce hk5 CS v0
    gi_wp2_with fail
    refine ⟨by simp, .inl ⟨_, _, rfl, run_takeDeferred HD6.out, ?_⟩⟩
    have hkk := kept_putObj (fun k => k = w1.heap.size) w5 w1.heap.size (.deferred none) rfl
    obtain ⟨h1, h2, h3, h4⟩ := HF.out
    have hly : ys.length = c := by rw [h1.length_eq, hlc]
    refine ⟨.slice (some ⟨w.heap.size, 0, none⟩) c c, ?_, w.heap.size, c, ys, by rw [hly], h1, h2, h3.kept hkk (by show ¬ _ = _; omega), (HBW.out.trans (h4.below HBW.out.size (fun k e => by have e' : k = w.heap.size := e; omega))).trans (hkk.below (Nat.le_trans HBW.out.size hz5) (fun k e => by have e' : k = w1.heap.size := e; omega)), Nat.le_refl _, by have := hkk.size; omega⟩
    simp [results, Try.results56, go_sem]
  case stop =>
    rintro c pre2 W' _ hf
    exact hf.elim
theorem allS_any (p : Option Addr) (w : World) : Calls Try.prog 24 #[.pointer p] w fun e w' => e = .returned (.func (.func 55) #[] #[.pointer (some ⟨w.heap.size, 0, none⟩)]) ∧ Blk w' w.heap.size #[.pointer p] 48 ∧ Below w.heap.size w w' := by
  have hmf := mf
  have HB : Hid (Below w.heap.size w (w.alloc (.cells #[.pointer p] 48))) := (Below.refl _ _).alloc (Nat.le_refl _) _
  have HX : Hid (Blk (w.alloc (.cells #[.pointer p] 48)) w.heap.size #[.pointer p] 48) := Blk.new w _ 48
  go_enter Try.func24, Try.ntmps24
  go_wp2
  go_ret
  exact ⟨rfl, HX.out, HB.out⟩
set_option maxHeartbeats 4000000 in
set_option maxRecDepth 100000 in
theorem allS_tells (q b most cap : Nat) (r : List (Pl ByteArray)) (ys : List (ByteArray × ByteArray)) (hys : ys.Perm (cont r)) (hsr : Srt ys) (hok : ∀ x ∈ ys, x.1.size ≤ 281474976710656) (w : World) (h : MapAtS w q b most r cap) (bx : Nat) (hbx : Blk w bx #[.pointer (some ⟨q, 0, none⟩)] 48) (S : Nat → Prop) (hS : ∀ k, S k → k < w.heap.size) :
    Tells Try.prog 55 #[.pointer (some ⟨bx, 0, none⟩)] (fun x : ByteArray × ByteArray => #[Value.string x.1, Value.string x.2]) ys S w := by
  intro n l J Jx W hW hl hJ hJx hY h0
  have HMW : Hid (MapAtS W q b most r cap) := h.below hW
  have HBW : Hid (Blk W bx #[.pointer (some ⟨q, 0, none⟩)] 48) := hbx.below hW
  have HS : Hid (∀ k, S k → k < W.heap.size) := fun k hk => Nat.lt_of_lt_of_le (hS k hk) hW.size
  have HY : Hid (∀ (pre : List (ByteArray × ByteArray)) x W1, pre ++ [x] <+: ys → J pre W1 → YieldAt Fence.wide (n - 1) Try.prog l #[Value.string x.1, Value.string x.2] W1 fun e W' => (e = .returned (.bool true) ∧ J (pre ++ [x]) W' ∧ Kept S W1 W') ∨ (e = .returned (.bool false) ∧ Jx (pre ++ [x]) W' ∧ Kept (fun k => S k ∨ k = l) W1 W')) := hY
  have HJ : Hid (Low W.heap.size J) := hJ
  have H0 : Hid (J (ys.take 0) W) := h0
  have HOK : Hid (ys.Perm (cont r) ∧ Srt ys ∧ ∀ x ∈ ys, x.1.size ≤ 281474976710656) := ⟨hys, hsr, hok⟩
  have c0 := HBW.out.cell 0 (v := .pointer (some ⟨q, 0, none⟩)) rfl
  have CS : Hid (∀ m, CallsIn Fence.wide m Try.prog 56 #[.pointer (some ⟨q, 0, none⟩)] W fun e w' => ∃ g cp zs, e = .returned (.slice (some ⟨g, 0, none⟩) zs cp) ∧ Hid (zs = ys.length ∧ CellsOf 4 encUt w' g ys ∧ Below W.heap.size W w' ∧ W.heap.size ≤ g ∧ g < w'.heap.size)) := fun m => (sortedS_any q b most cap r W HMW.out m).mono (by
    rintro e w' ⟨g, cp, zs, rfl, h1, h2, h3, h4, h5, h6⟩
    have e : zs = ys := h2.eq hsr (h1.trans hys.symm)
    subst e
    exact ⟨g, cp, _, rfl, rfl, h3, h4, h5, h6⟩)
  have hlen : ys.length ≤ 16384 := by rw [hys.length_eq]; exact Nat.le_trans (cont_len_le r) h.big.2
  obtain ⟨N, hN⟩ : ∃ N, N = ys.length := ⟨_, rfl⟩
  have HN : Hid (N = ys.length) := hN
  rw [← hN] at hlen
  clear hN h hbx hW hY h0 hJ hys hsr hok hS
  refine callsIn_of_wp Try.func55 rfl trivial ?_ rfl
  simp only [Try.ntmps55, List.size_toArray, List.length_cons, List.length_nil, Nat.reduceAdd, Nat.reduceSub, Array.replicate_succ, Array.replicate_zero, List.push_toArray, List.append_toArray, List.nil_append, List.cons_append]
  gi_wp2_with fail
  refine ⟨trivial, no_depth _, ?_⟩
  refine (CS.out _).mono ?_
  rintro e W0 ⟨g, cp, zs, rfl, HG⟩
  obtain ⟨hzs, hG2⟩ := HG.out
  have HG : Hid (CellsOf 4 encUt W0 g ys ∧ Below W.heap.size W W0 ∧ W.heap.size ≤ g ∧ g < W0.heap.size) := hG2
  rw [← HN.out] at hzs
  subst hzs
  have hgl := HG.out.2.2.2
  have hgW := HG.out.2.2.1
  have HJ0 : Hid (J (ys.take 0) W0) := HJ.out _ _ _ (Kept.of_below HG.out.2.1) H0.out
  clear hG2 CS H0 c0 HBW HMW
  gi_wp2_with fail
  gi_loopw [8] (fun t wr => ∃ k : Nat, k ≤ zs ∧ t = .int .i64 k ∧ J (ys.take k) wr ∧ Kept S W0 wr) (fun t _ => zs - (intOf t).toNat)
  case atStart => exact ⟨0, Nat.zero_le _, rfl, HJ0.out, Kept.refl _ _⟩
  case round =>
    obtain ⟨k, hk, rfl, hj, hkS⟩ := hrel
    by_cases hkN : k < zs
    · obtain ⟨x, hx⟩ : ∃ x, ys[k]? = some x := ⟨ys[k]'(by rw [← HN.out]; exact hkN), List.getElem?_eq_getElem _⟩
      have HX : Hid (ys[k]? = some x) := hx
      obtain ⟨k', v⟩ := x
      have hzz := hkS.size
      have hcl : CellsOf 4 encUt wr g ys := HG.out.1.kept hkS (fun e => by have := HS.out _ e; omega)
      have q0 : wr.cell? ⟨g, k * 4, none⟩ = some (.bool true) := hcl k _ hx 0 _ rfl
      have q1 : wr.cell? ⟨g, k * 4 + 1, none⟩ = some (.int .u32 (spr k')) := hcl k _ hx 1 _ rfl
      have q2 : wr.cell? ⟨g, k * 4 + 2, none⟩ = some (.string k') := hcl k _ hx 2 _ rfl
      have q3 : wr.cell? ⟨g, k * 4 + 3, none⟩ = some (.string v) := hcl k _ hx 3 _ rfl
      have HE : Hid (ys.take (k + 1) = ys.take k ++ [(k', v)]) := take_snoc hx
      have HB : Hid (Blk (wr.alloc (.cells #[.bool true, .int .u32 (spr k'), .string k', .string v] 106)) wr.heap.size #[.bool true, .int .u32 (spr k'), .string k', .string v] 106 ∧ Below wr.heap.size wr (wr.alloc (.cells #[.bool true, .int .u32 (spr k'), .string k', .string v] 106))) := ⟨Blk.new wr _ 106, (Below.refl _ _).alloc (Nat.le_refl _) _⟩
      have hks : k'.size ≤ 281474976710656 := HOK.out.2.2 _ (List.mem_of_getElem? hx)
      have HJK : Hid (J (ys.take k) wr ∧ Kept S W0 wr) := ⟨hj, hkS⟩
      have hWz : W.heap.size ≤ wr.heap.size := by have := HG.out.2.1.size; omega
      clear hx hcl hj hkS HJ0
      gi_upto_region 3 with fail
      generalize wr.alloc (.cells #[.bool true, .int .u32 (spr k'), .string k', .string v] 106) = W1 at *
      have CT : Hid (∀ W2, Below W1.heap.size W1 W2 → ∃ fn tmps assign body, (Instr.yield l #[.string k', .string v]).run Try.prog W2 = .ok (.round l fn tmps assign body) W2 ∧ Hid (RoundIn Fence.wide (n - 1) Try.prog l fn tmps assign body W2 fun e w' => ∃ bb : Bool, e = .returned (.bool bb) ∧ Hid ((bb = true → J (ys.take (k + 1)) w' ∧ Kept S W0 w') ∧ (bb = false → Jx (ys.take (k + 1)) w')))) := fun W2 h2 => by
        have hb2 : Below wr.heap.size wr W2 := HB.out.2.trans (h2.mono HB.out.2.size)
        obtain ⟨fn, tmps, assign, body, h1, h2⟩ := HY.out (ys.take k) (k', v) W2 (by rw [← HE.out]; exact take_pre _ _) (HJ.out _ _ _ (Kept.of_below hb2) HJK.out.1)
        refine ⟨fn, tmps, assign, body, h1, h2.mono ?_⟩
        rw [HE.out]
        rintro e w' (⟨rfl, hj, hk⟩ | ⟨rfl, hj, hk⟩)
        · exact ⟨true, rfl, (⟨fun _ => ⟨hj, (HJK.out.2.trans (Kept.of_below hb2)).trans hk⟩, fun e => (nomatch e)⟩ : _ ∧ _)⟩
        · exact ⟨false, rfl, (⟨fun e => (nomatch e), fun _ => hj⟩ : _ ∧ _)⟩
      have CC : Hid (CallsIn Fence.wide (n - 1) Try.prog 44 #[.string k'] W1.drew fun e w' => e = .returned (.string k') ∧ w'.cell? ⟨wr.heap.size, 2, none⟩ = some (.string k') ∧ w'.cell? ⟨wr.heap.size, 3, none⟩ = some (.string v) ∧ Below W1.heap.size W1 w') := (callsIn_wide.2 (cloneI_any k' hks W1.drew)).mono (by
        rintro e w' ⟨rfl, hb⟩
        have hb2 : Below W1.heap.size W1 w' := ⟨hb.os, hb.tape, hb.output, hb.size, hb.block⟩
        have hx := HB.out.1.below hb2
        exact ⟨rfl, hx.cell 2 rfl, hx.cell 3 rfl, hb2⟩)
      have x2 := HB.out.1.cell 2 (v := .string k') rfl
      have x3 := HB.out.1.cell 3 (v := .string v) rfl
      clear q0 q1 q2 q3 HB HJK hks HE HX
      gi_region_with (first
        | (refine ⟨trivial, no_depth _, ?_⟩; gi_at_call 44; refine CC.out.mono ?_; rintro e W2 ⟨rfl, y2, y3, hb2⟩; obtain ⟨fn, tmps, assign, body, hyi, HRd⟩ := CT.out W2 hb2)
        | (refine ⟨no_depth _, ?_⟩; refine HRd.out.mono ?_; rintro e w7 ⟨bb, rfl, HM7⟩))
      all_goals (
        cases bb
        · have HJ7 : Hid (Jx (ys.take (k + 1)) w7) := HM7.out.2 rfl
          clear HM7 HRd hyi y2 y3 x2 x3 CC CT hb2
          gi_wp2_with fail
          first | go_end0 | refine bodyPost_ret (results_none rfl _ _ _) rfl ?_
          exact ⟨⟨_, rfl⟩, .inr ⟨_, take_pre _ _, HJ7.out⟩⟩
        · have HM8 : Hid (J (ys.take (k + 1)) w7 ∧ Kept S W0 w7) := HM7.out.1 rfl
          clear HM7 HRd hyi y2 y3 x2 x3 CC CT hb2
          gi_wp2_with fail
          go_roundw
          case rel => exact ⟨k + 1, by omega, by go_num, HM8.out.1, HM8.out.2⟩
          case measure => simp only [intOf]; omega)
    · have e : k = zs := by omega
      subst e
      have HJ1 : Hid (J ys wr) := by
        have : ys.take k = ys := List.take_of_length_le (by rw [HN.out]; exact Nat.le_refl _)
        rw [this] at hj; exact hj
      clear hj hkS
      gi_wp2_with fail
      go_end0
      exact ⟨⟨_, rfl⟩, .inl HJ1.out⟩
end Go.Proofs.Ytkcjcidndckgbaa
