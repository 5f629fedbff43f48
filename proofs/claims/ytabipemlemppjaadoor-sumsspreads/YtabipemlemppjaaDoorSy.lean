/- The walk of SumsSpreads (begun): to the two answers of Slots and their likeness. -/
import Derived.Test.YtabipemlemppjaaDoorSx
namespace Go.Proofs.YtabipemlemppjaaDoor
open Go.RowKit Go.Maps
set_option linter.unusedVariables false
set_option linter.unusedSimpArgs false

theorem strs_take {w : World} {b o : Nat} {l : List ByteArray} (h : Strs w b o l) (n : Nat) : Strs w b o (l.take n) := fun i hi => by
  have h1 : i < l.length := by simp at hi; omega
  rw [List.getElem_take]; exact h i h1
theorem strs_snoc {w : World} {g : Nat} {l : List ByteArray} {m : ByteArray} (h : Strs w g 0 (l ++ [m])) : Strs w g 0 l := fun i hi => by
  have := h i (by simp; omega)
  rw [List.getElem_append_left hi] at this
  exact this

/-- What SumsSpreads keeps while it writes into the answers: the document's answer, the lent texts, older memory. -/
structure Kp (w : World) (vw : Value) (A : List Nat) (B0 B1 g3 k3 n s3 : Nat) (T : List ByteArray) (X : World) : Prop where
  rw : X.ownsRow B0 3 1 vw A.length (intsV A)
  ra : X.ownsRow B1 9 1 (.slice (some ⟨g3, 0, none⟩) (n + 1) k3) (n + 1) (strV (T ++ [mark]))
  be : Below w.heap.size w X
  sz : s3 ≤ X.heap.size
  vb : ∀ k, vw.ownBlock = some k → k < s3
  gb : g3 < s3
  wb : w.heap.size ≤ s3
theorem Kp.grown {w : World} {vw : Value} {A : List Nat} {B0 B1 g3 k3 n s3 : Nat} {T : List ByteArray} {X Y : World} {row : Option Nat} (h : Kp w vw A B0 B1 g3 k3 n s3 T X) (hg : X.grownBy Y row) (hr : ∀ k, row = some k → s3 ≤ k) : Kp w vw A B0 B1 g3 k3 n s3 T Y := by
  refine ⟨World.ownsRow.kept h.rw hg ?_, World.ownsRow.kept h.ra hg (.inr fun e => ?_), Below.grown h.be hg (Nat.le_trans h.wb h.sz) (fun k hk => Nat.le_trans h.wb (hr k hk)), Nat.le_trans h.sz hg.size, h.vb, h.gb, h.wb⟩
  · cases hv : vw.ownBlock with
    | none => exact .inl rfl
    | some k => exact .inr fun e => by have := h.vb k hv; have := hr k e.symm; omega
  · have := hr g3 (by rw [← e]; rfl); have := h.gb; omega
theorem Kp.alloc {w : World} {vw : Value} {A : List Nat} {B0 B1 g3 k3 n s3 : Nat} {T : List ByteArray} {X : World} (h : Kp w vw A B0 B1 g3 k3 n s3 T X) (o : Obj) : Kp w vw A B0 B1 g3 k3 n s3 T (X.alloc o) := h.grown (World.grownBy_alloc X o none) (fun k hk => by cases hk)
theorem Kp.heap {w : World} {vw : Value} {A : List Nat} {B0 B1 g3 k3 n s3 : Nat} {T : List ByteArray} {X Y : World} (h : Kp w vw A B0 B1 g3 k3 n s3 T X) (hh : Y.heap = X.heap) (hb : Below w.heap.size w Y) : Kp w vw A B0 B1 g3 k3 n s3 T Y :=
  ⟨row_heap h.rw hh, row_heap h.ra hh, hb, by rw [hh]; exact h.sz, h.vb, h.gb, h.wb⟩
theorem three_cells (w : World) (x y z : Value) (t : TypeId) : ∀ j u, [x, y, z][j]? = some u → (w.alloc (.cells #[x, y, z] t)).cell? ((⟨w.heap.size, 0, none⟩ : Addr).add j) = some u := by
  intro j u hj
  match j, hj with
  | 0, hj => simp at hj; subst hj; simp [Addr.add]
  | 1, hj => simp at hj; subst hj; simp [Addr.add]
  | 2, hj => simp at hj; subst hj; simp [Addr.add]
  | j + 3, hj => simp at hj
theorem row_some {w : World} {B e size : Nat} {ad : Option Addr} {n c : Nat} {xs : List Value} (h : w.ownsRow B e size (.slice ad n c) n xs) (hn : 0 < n) : ∃ g, ad = some ⟨g, 0, none⟩ ∧ B ≤ g ∧ g < w.heap.size := by
  rcases h.2 with ⟨h', h0⟩ | ⟨g, cap, cur, h', hb, hg, _⟩
  · omega
  · simp only [Value.slice.injEq] at h'
    exact ⟨g, h'.1, hb, (Array.getElem?_eq_some_iff.1 hg).1⟩

set_option maxHeartbeats 8000000 in
set_option maxRecDepth 100000 in
theorem spreads_walk (b o cap : Nat) (l : List ByteArray) (hl0 : 0 < l.length) (hcap : l.length ≤ cap) (hcm : cap ≤ 9223372036854775807) (hl : l.length * 16 ≤ 140737488351232) (hls : ∀ s ∈ l, s.size ≤ 9223372036854775807) (seed : Nat) (hseed : seed < 4294967296) (m : Int) (hm1 : -9223372036854775808 ≤ m) (hm2 : m ≤ 9223372036854775807)
    (w : World) (hS : Strs w b o l) (hb : b < w.heap.size) (hT : Tab w) :
    Calls Tryd.prog 7 #[.int .u32 seed, .int .i64 m, .slice (some ⟨b, o, none⟩) l.length cap] w fun e w' => e = .returned (.bool true) ∧ Below w.heap.size w w' := by
  obtain ⟨i0, hi, hz0, hz1, hz2⟩ := info_parts info3
  have CL : Hid (∀ w : World, Tab w → Calls Tryd.prog 9 #[] w fun e w' => e = .returned (.bool true) ∧ Below w.heap.size w w') := live_any
  obtain ⟨n, hn⟩ : ∃ n : Nat, n = min l.length 1000 := ⟨_, rfl⟩
  have hnl : n ≤ l.length := by omega
  have hn4 : n ≤ 1000 := by omega
  have hn0 : 0 < n := by omega
  obtain ⟨T, hTd⟩ : ∃ T, T = l.take n := ⟨_, rfl⟩
  have hTl : T.length = n := by rw [hTd]; simp; omega
  have HTS : Hid (Strs w b o T) := by show Strs w b o T; rw [hTd]; exact strs_take hS n
  have HTI : Hid (∀ i, i < n → T[i]? = l[i]?) := fun i h => by rw [hTd, List.getElem?_take_of_lt h]
  have hLS : ∀ s ∈ T, s.size ≤ 9223372036854775807 := fun s hs => hls s (by rw [hTd] at hs; exact List.mem_of_mem_take hs)
  have HLS : Hid (∀ s ∈ T, s.size ≤ 9223372036854775807) := hLS
  obtain ⟨A, er, hAl, her, hout⟩ := SlAny.out (seed := seed) (m := m) (l := T.map fun s => s.data.toList)
  rw [List.length_map, hTl] at hAl
  have C26 : Hid (∀ w1 : World, Strs w1 b o T → b < w1.heap.size → Calls Tryd.prog 26 #[.int .u32 seed, .int .i64 m, .slice (some ⟨b, o, none⟩) n cap] w1 fun e w' => Below w1.heap.size w1 w' ∧ ∃ v, e = .returned (.tuple #[v, .int .i64 er]) ∧ w'.ownsRow w1.heap.size 3 1 v A.length (intsV A)) := fun w1 h h' => by
    have := rslots_at seed hseed m hm2 b o cap T (by omega) hLS w1 h h'
    rw [hTl] at this
    exact this.mono fun e w' ⟨h1, h2⟩ => ⟨h1, hout _ _ _ h2⟩
  have C27 : Hid (∀ (g k : Nat) (w1 : World), Strs w1 g 0 T → g < w1.heap.size → Calls Tryd.prog 27 #[.int .u32 seed, .int .i64 m, .slice (some ⟨g, 0, none⟩) n k] w1 fun e w' => Below w1.heap.size w1 w' ∧ ∃ v, e = .returned (.tuple #[v, .int .i64 er]) ∧ w'.ownsRow w1.heap.size 3 1 v A.length (intsV A)) := fun g k w1 h h' => by
    have := slots_at seed hseed m hm2 g 0 k T (by omega) hLS w1 h h'
    rw [hTl] at this
    exact this.mono fun e w' ⟨h1, h2⟩ => ⟨h1, hout _ _ _ h2⟩
  have C10 : Hid (∀ w1 : World, Strs w1 b o T → b < w1.heap.size → Calls Tryd.prog 10 #[.slice (some ⟨b, o, none⟩) n cap] w1 fun e w' => ∃ v, e = .returned v ∧ w'.ownsRow w1.heap.size 9 1 v (n + 1) (strV (T ++ [mark])) ∧ Below w1.heap.size w1 w') := fun w1 h h' => by
    have := lent_row b o cap T (by omega) w1 h h'
    rw [hTl] at this; exact this
  have C13 : Hid (∀ (g k : Nat) (w1 : World), Strs w1 b o T → Strs w1 g 0 (T ++ [mark]) → Calls Tryd.prog 13 #[.slice (some ⟨g, 0, none⟩) (n + 1) k, .slice (some ⟨b, o, none⟩) n cap] w1 fun e w' => e = .returned (.bool true) ∧ w'.heap = w1.heap ∧ Below w1.heap.size w1 w') := fun g k w1 h h' => by
    have := back_row g k b o cap T (by omega) w1 h h'
    rw [hTl] at this; exact this
  have C28 : Hid (∀ (B1 B2 : Nat) (v1 v2 : Value) (w1 : World), w1.ownsRow B1 3 1 v1 A.length (intsV A) → w1.ownsRow B2 3 1 v2 A.length (intsV A) → Calls Tryd.prog 28 #[v1, v2] w1 fun e w' => e = .returned (.bool true) ∧ w'.heap = w1.heap ∧ Below w1.heap.size w1 w') := fun B1 B2 v1 v2 w1 h1 h2 => sameInts_any A (by omega) B1 B2 v1 v2 w1 h1 h2
  have h1000 : (1000 < l.length ∧ n = 1000) ∨ (¬ 1000 < l.length ∧ n = l.length) := by omega
  have HST : Hid (Strs w b o l) := hS
  clear hls hTd hS hn hout hLS
  go_enter Tryd.func7, Tryd.ntmps7
  go_wp2_with fail
  refine (CL.out _ hT).mono ?_
  rintro e w1 ⟨rfl, hb1⟩
  have HB1 : Hid (Below w.heap.size w w1) := hb1
  have hs1 := hb1.size
  have HS1 : Hid (Strs w1 b o l) := HST.out.below hb1 hb
  have HT1 : Hid (Strs w1 b o T) := HTS.out.below hb1 hb
  clear hb1
  rcases h1000 with ⟨h1000, hn'⟩ | ⟨h1000, hn'⟩
  all_goals
    have h1000' : ((1000 : Int) < l.length) = (1000 < l.length) := by apply propext; omega
    go_wp2_with fail
    first | rw [show Value.int .i64 1000 = Value.int .i64 (n : Int) by rw [hn']; rfl] | rw [show Value.int .i64 (l.length : Int) = Value.int .i64 (n : Int) by rw [hn']]
    clear hn'
    go_loopw [9] (fun iv wr => ∃ p : Nat, p ≤ n ∧ iv = .int .i64 p ∧ wr = w1) (fun iv _ => n - (intOf iv).toNat)
    case atStart => exact ⟨0, by omega, rfl, rfl⟩
    case round =>
      obtain ⟨p, hp, rfl, hw⟩ := hrel
      subst hw
      by_cases hlt : p < n
      · have hlt' : (p : Int) < n := by omega
        have hlt2 : (p : Int) < l.length := by omega
        obtain ⟨s, hs⟩ : ∃ s, l[p]? = some s := ⟨_, List.getElem?_eq_getElem (by omega)⟩
        have hc : wr.cell? ⟨b, o + p, none⟩ = some (.string s) := by
          obtain ⟨h1, h2⟩ := List.getElem?_eq_some_iff.1 hs
          rw [HS1.out p h1, h2]
        have hsz : s.size ≤ 9223372036854775807 := HLS.out s (List.mem_of_getElem? ((HTI.out p hlt).trans hs))
        have CA : Hid (∀ w : World, Calls Tryd.prog 24 #[.int .u32 (seed : Int), .string s] w fun e w' => e = .returned (.int .u32 ((spreadN seed s.data.toList : Nat) : Int)) ∧ w' = w) := fun w => spread_any seed hseed s hsz w
        have CB : Hid (∀ w : World, Calls Tryd.prog 25 #[.int .u32 (seed : Int), .string s] w fun e w' => e = .returned (.int .u32 ((spreadN seed s.data.toList : Nat) : Int)) ∧ w' = w) := fun w => rspread_any seed hseed s hsz w
        generalize spreadN seed s.data.toList = Z at *
        clear hs
        go_wp2_with fail
        refine (CA.out _).mono ?_
        rintro e w2 ⟨rfl, rfl⟩
        go_wp2_with fail
        refine (CB.out _).mono ?_
        rintro e w3 ⟨rfl, rfl⟩
        go_wp2_with fail
        exact ⟨⟨p + 1, by omega, by go_num, by first | rfl | trivial⟩, by simp only [intOf]; omega⟩
      · obtain rfl : n = p := by omega
        have hnn : ¬ ((n : Int) < n) := by omega
        have hnc : n ≤ cap := by omega
        go_wp2_with fail
        refine (C26.out _ HT1.out (by omega)).mono ?_
        rintro e w2 ⟨hb2, vw, rfl, hrw⟩
        have hbr : b < wr.heap.size := by omega
        have hs2 := hb2.size
        have HT2 : Hid (Strs w2 b o T) := HT1.out.below hb2 hbr
        have HRW : Hid (w2.ownsRow wr.heap.size 3 1 vw A.length (intsV A)) := hrw
        have HB2 : Hid (Below w.heap.size w w2) := HB1.out.trans (hb2.mono hs1)
        clear hrw hb2
        go_wp2_with fail
        refine (C10.out _ HT2.out (by omega)).mono ?_
        rintro e w3 ⟨va, rfl, hra, hb3⟩
        obtain ⟨g3, k3, rfl, hg0, hg1, hk, hk2, hG⟩ := strs_of_own hra (by simp [hTl]) (by omega)
        have hs3 := hb3.size
        have HRA3 : Hid (w3.ownsRow w2.heap.size 9 1 (.slice (some ⟨g3, 0, none⟩) (n + 1) k3) (n + 1) (strV (T ++ [mark]))) := hra
        have HG3 : Hid (Strs w3 g3 0 (T ++ [mark])) := hG
        have HT3 : Hid (Strs w3 b o T) := HT2.out.below hb3 (by omega)
        have HRW3 : Hid (w3.ownsRow wr.heap.size 3 1 vw A.length (intsV A)) := row_below HRW.out hb3
        have HB3 : Hid (Below w.heap.size w w3) := HB2.out.trans (hb3.mono (by omega))
        have hnk : n ≤ k3 := by omega
        have hk3 : k3 ≤ 9223372036854775807 := by simpa [maxLen] using hk2
        clear hra hb3 hG hk2 C26 C10
        go_wp2_with fail
        refine (C27.out g3 k3 _ (strs_snoc HG3.out) hg1).mono ?_
        rintro e w4 ⟨hb4, v1, rfl, hr1⟩
        have hs4 := hb4.size
        have HRA4 : Hid (w4.ownsRow w2.heap.size 9 1 (.slice (some ⟨g3, 0, none⟩) (n + 1) k3) (n + 1) (strV (T ++ [mark]))) := row_below HRA3.out hb4
        have HG4 : Hid (Strs w4 g3 0 (T ++ [mark])) := HG3.out.below hb4 hg1
        have HT4 : Hid (Strs w4 b o T) := HT3.out.below hb4 (by omega)
        have HRW4 : Hid (w4.ownsRow wr.heap.size 3 1 vw A.length (intsV A)) := row_below HRW3.out hb4
        have HB4 : Hid (Below w.heap.size w w4) := HB3.out.trans (hb4.mono (by omega))
        have HR1 : Hid (w4.ownsRow w3.heap.size 3 1 v1 A.length (intsV A)) := hr1
        clear hb4 hr1
        go_wp2_with fail
        refine (C27.out g3 k3 _ (strs_snoc HG4.out) (by omega)).mono ?_
        rintro e w5 ⟨hb5, v2, rfl, hr2⟩
        have hs5 := hb5.size
        have HRA5 : Hid (w5.ownsRow w2.heap.size 9 1 (.slice (some ⟨g3, 0, none⟩) (n + 1) k3) (n + 1) (strV (T ++ [mark]))) := row_below HRA4.out hb5
        have HG5 : Hid (Strs w5 g3 0 (T ++ [mark])) := HG4.out.below hb5 (by omega)
        have HT5 : Hid (Strs w5 b o T) := HT4.out.below hb5 (by omega)
        have HRW5 : Hid (w5.ownsRow wr.heap.size 3 1 vw A.length (intsV A)) := row_below HRW4.out hb5
        have HR15 : Hid (w5.ownsRow w3.heap.size 3 1 v1 A.length (intsV A)) := row_below HR1.out hb5
        have HB5 : Hid (Below w.heap.size w w5) := HB4.out.trans (hb5.mono (by omega))
        have HR25 : Hid (w5.ownsRow w4.heap.size 3 1 v2 A.length (intsV A)) := hr2
        clear hb5 hr2
        go_wp2_with fail
        refine (C13.out g3 k3 _ HT5.out HG5.out).mono ?_
        rintro e w6 ⟨rfl, hh6, hb6⟩
        have HH6 : Hid (w6.heap = w5.heap) := hh6
        have HB6 : Hid (Below w.heap.size w w6) := HB5.out.trans (hb6.mono (by omega))
        clear hh6 hb6
        go_wp2_with fail
        refine (C28.out _ _ v1 vw _ (row_heap HR15.out HH6.out) (row_heap HRW5.out HH6.out)).mono ?_
        rintro e w7 ⟨rfl, hh7, hb7⟩
        have HH7 : Hid (w7.heap = w5.heap) := hh7.trans HH6.out
        have HB7 : Hid (Below w.heap.size w w7) := HB6.out.trans (hb7.mono (by rw [HH6.out]; omega))
        clear hh7 hb7
        go_wp2_with fail
        refine (C28.out _ _ v2 vw _ (row_heap HR25.out HH7.out) (row_heap HRW5.out HH7.out)).mono ?_
        rintro e w8 ⟨rfl, hh8, hb8⟩
        have HH8 : Hid (w8.heap = w5.heap) := hh8.trans HH7.out
        have HB8 : Hid (Below w.heap.size w w8) := HB7.out.trans (hb8.mono (by rw [HH7.out]; omega))
        clear hh8 hb8
        obtain ⟨a1, c1, rfl, _⟩ := row_val HR15.out
        obtain ⟨a2, c2, rfl, _⟩ := row_val HR25.out
        obtain ⟨B0, hB0⟩ : ∃ B0, B0 = wr.heap.size := ⟨_, rfl⟩
        have HK8 : Hid (Kp w vw A B0 w2.heap.size g3 k3 n w3.heap.size T w8) := ⟨by rw [hB0]; exact row_heap HRW5.out HH8.out, row_heap HRA5.out HH8.out, HB8.out, by rw [HH8.out]; omega, fun k hk => by have := (HRW.out.lt k hk).2; omega, hg1, by omega⟩
        have HR18 : Hid (w8.ownsRow w3.heap.size 3 1 (.slice a1 A.length c1) A.length (intsV A)) := row_heap HR15.out HH8.out
        have HR28 : Hid (w8.ownsRow w4.heap.size 3 1 (.slice a2 A.length c2) A.length (intsV A)) := row_heap HR25.out HH8.out
        have HV1 : Hid (∀ k, (Value.slice a1 A.length c1).ownBlock = some k → w3.heap.size ≤ k ∧ k < w4.heap.size) := HR1.out.lt
        have hs8 : w5.heap.size ≤ w8.heap.size := by rw [HH8.out]; exact Nat.le_refl _
        have HVW : Hid (∀ k, vw.ownBlock = some k → k < w2.heap.size) := fun k hk => (HRW.out.lt k hk).2
        have hwg : w.heap.size ≤ g3 := by omega
        clear hB0 HH6 HH7 HH8 HB6 HB7 HB8 HR15 HR25 HR1 HRW HRW3 HRW4 HRW5 HG3 HG4 HG5 HT3 HT4 HT5 HT2 HRA3 HRA4 HRA5 HB2 HB3 HB4 HB5 C13
        go_wp2_with fail
        go_loopw [22] (fun iv wx => ∃ (p : Nat) (X1 : List Value), p ≤ A.length ∧ iv = .int .i64 p ∧ wx.ownsRow w3.heap.size 3 1 (.slice a1 A.length c1) A.length X1 ∧ (∀ j, j < p → X1[j]? = some (.int .i64 (-1))) ∧ wx.ownsRow w4.heap.size 3 1 (.slice a2 A.length c2) A.length (intsV A) ∧ Kp w vw A B0 w2.heap.size g3 k3 n w3.heap.size T wx) (fun iv _ => A.length - (intOf iv).toNat)
        case atStart => exact ⟨0, intsV A, by omega, rfl, HR18.out, fun j h => by omega, HR28.out, HK8.out⟩
        case round =>
          obtain ⟨p, X1, hp, rfl, hr1, hx1, hr2, hkp⟩ := hrel
          have R1 : Hid (wr.ownsRow w3.heap.size 3 1 (.slice a1 A.length c1) A.length X1) := hr1
          have X1H : Hid (∀ j, j < p → X1[j]? = some (.int .i64 (-1))) := hx1
          have R2 : Hid (wr.ownsRow w4.heap.size 3 1 (.slice a2 A.length c2) A.length (intsV A)) := hr2
          clear hx1 hr2
          by_cases hlt : p < A.length
          · have hlt' : (p : Int) < A.length := by omega
            obtain ⟨g1, rfl, hg1b, hg1l⟩ := row_some hr1 (by omega)
            have hX1l : X1.length = A.length := by have := hr1.1; omega
            obtain ⟨u0, hu0⟩ : ∃ u0, X1[p]? = some u0 := ⟨_, List.getElem?_eq_getElem (by omega)⟩
            have hc : wr.cell? ⟨g1, p, none⟩ = some u0 := by rw [hr1.cellAt p (by omega)]; exact hu0
            have hfz := hr1.frozenAt p
            have hst := hr1.stored p (.int .i64 (-1))
            have g1v := HV1.out g1 rfl
            have KEEP : Hid (∃ (X1 : List Value), (wr.setCell ⟨g1, p, none⟩ (.int .i64 (-1))).ownsRow w3.heap.size 3 1 (.slice (some ⟨g1, 0, none⟩) A.length c1) A.length X1 ∧ (∀ j, j < p + 1 → X1[j]? = some (.int .i64 (-1))) ∧ (wr.setCell ⟨g1, p, none⟩ (.int .i64 (-1))).ownsRow w4.heap.size 3 1 (.slice a2 A.length c2) A.length (intsV A) ∧ Kp w vw A B0 w2.heap.size g3 k3 n w3.heap.size T (wr.setCell ⟨g1, p, none⟩ (.int .i64 (-1)))) := by
              refine ⟨_, hst.1, fun j hj => ?_, World.ownsRow.kept R2.out hst.2 ?_, hkp.grown hst.2 (fun k hk => by cases hk; exact hg1b)⟩
              · by_cases hjp : j = p
                · subst hjp; rw [List.getElem?_set_self (by omega)]
                · rw [List.getElem?_set_ne (by omega)]; exact X1H.out j (by omega)
              · cases hv : (Value.slice a2 A.length c2).ownBlock with
                | none => exact .inl rfl
                | some k => exact .inr fun e => by cases e; have := (R2.out.lt _ hv).1; omega
            clear hst hkp hr1 hu0
            go_wp2_with fail
            obtain ⟨X1', k1, k2, k3', k4⟩ := KEEP.out
            exact ⟨⟨p + 1, X1', by omega, by go_num, k1, k2, k3', k4⟩, by simp only [intOf]; omega⟩
          · obtain rfl : p = A.length := by omega
            have hX1l : X1.length = A.length := by have := hr1.1; omega
            have KP : Hid (Kp w vw A B0 w2.heap.size g3 k3 n w3.heap.size T wr) := hkp
            have hszr := hkp.sz
            have H1 : Hid ((wr.alloc (.cells #[.int .i64 (-2), .int .i64 (-3), .int .i64 (-4)] 3)).ownsRow w3.heap.size 3 1 (.slice a1 A.length c1) A.length X1) := hr1.alloc _
            have STEP : Hid (∀ (gg cg : Nat) (w9 : World), w9.ownsRow w3.heap.size 3 1 (.slice (some ⟨gg, 0, none⟩) (A.length + 3) cg) (A.length + 3) (X1 ++ [.int .i64 (-2), .int .i64 (-3), .int .i64 (-4)]) → (wr.alloc (.cells #[.int .i64 (-2), .int .i64 (-3), .int .i64 (-4)] 3)).grownBy w9 (Value.slice a1 A.length c1).ownBlock → ((Value.slice a1 A.length c1).ownBlock = some gg ∨ gg = wr.heap.size + 1) →
                w9.ownsRow w4.heap.size 3 1 (.slice a2 A.length c2) A.length (intsV A) ∧ Kp w vw A B0 w2.heap.size g3 k3 n w3.heap.size T w9 ∧ (∀ k, (Value.slice a2 A.length c2).ownBlock = some k → k ≠ gg)) := fun gg cg w9 h9 hg9 hor => by
              refine ⟨World.ownsRow.kept (R2.out.alloc _) hg9 ?_, (KP.out.alloc _).grown hg9 (fun k hk => (HV1.out k hk).1), fun k hk e => ?_⟩
              · cases hv : (Value.slice a2 A.length c2).ownBlock with
                | none => exact .inl rfl
                | some k => exact .inr fun e => by have := (R2.out.lt k hv).1; have := (HV1.out k e.symm).2; omega
              · subst e
                have h2 := R2.out.lt k hk
                rcases hor with h | h
                · have := (HV1.out k h).2; omega
                · omega
            clear hkp hr1
            go_wp2_with (at_builtin; refine wpList_append_lies _ rfl _ _ 42 rfl w3.heap.size 3 i0 (.int .i64 0) 1 8 Tryd.underlying42 hi hz0 hz1 hz2 rfl (by decide) _ _ _ rfl H1.out ⟨wr.heap.size, 0, none⟩ 3 3 [.int .i64 (-2), .int .i64 (-3), .int .i64 (-4)] rfl rfl (three_cells wr _ _ _ 3) (by intro u hu; simp at hu; rcases hu with rfl | rfl | rfl <;> rfl) (by decide) (by unfold maxLen; omega) (by omega) (by simp; omega) (wr.heap.size + 1) (by simp) ?_)
            intro gg cg w9 hown9 hgrow9 hor9 hlt9
            obtain ⟨hr29, hk9, hne9⟩ := STEP.out gg cg w9 hown9 hgrow9 hor9
            obtain ⟨XG, hXG⟩ : ∃ XG, X1 ++ [Value.int .i64 (-2), .int .i64 (-3), .int .i64 (-4)] = XG := ⟨_, rfl⟩
            rw [hXG] at hown9
            have HXG : Hid ((∀ j, j < A.length → XG[j]? = some (.int .i64 (-1))) ∧ XG[A.length]? = some (.int .i64 (-2)) ∧ XG[A.length + 2]? = some (.int .i64 (-4))) := by
              refine ⟨fun j hj => ?_, ?_, ?_⟩
              · rw [← hXG, List.getElem?_append_left (by omega)]; exact X1H.out j hj
              · rw [← hXG, List.getElem?_append_right (by omega), hX1l, Nat.sub_self]; rfl
              · rw [← hXG, List.getElem?_append_right (by omega), hX1l, show A.length + 2 - A.length = 2 by omega]; rfl
            have HRG : Hid (w9.ownsRow w3.heap.size 3 1 (.slice (some ⟨gg, 0, none⟩) (A.length + 3) cg) (A.length + 3) XG) := hown9
            have HR29 : Hid (w9.ownsRow w4.heap.size 3 1 (.slice a2 A.length c2) A.length (intsV A)) := hr29
            have HK9 : Hid (Kp w vw A B0 w2.heap.size g3 k3 n w3.heap.size T w9) := hk9
            have HNE : Hid (∀ k, (Value.slice a2 A.length c2).ownBlock = some k → k ≠ gg) := hne9
            clear hown9 hgrow9 hor9 hlt9 STEP H1 hXG hX1l X1H hr29 hk9 hne9 KP R1 R2 HR18 HR28 HK8
            go_wp2_with fail
            go_loopw [24] (fun iv wx => ∃ (p : Nat) (X2 : List Value), p ≤ A.length ∧ iv = .int .i64 p ∧ wx.ownsRow w4.heap.size 3 1 (.slice a2 A.length c2) A.length X2 ∧ (∀ j, j < p → X2[j]? = some (.int .i64 (-5))) ∧ wx.ownsRow w3.heap.size 3 1 (.slice (some ⟨gg, 0, none⟩) (A.length + 3) cg) (A.length + 3) XG ∧ Kp w vw A B0 w2.heap.size g3 k3 n w3.heap.size T wx) (fun iv _ => A.length - (intOf iv).toNat)
            case atStart => exact ⟨0, intsV A, by omega, rfl, HR29.out, fun j h => by omega, HRG.out, HK9.out⟩
            case round =>
              obtain ⟨p, X2, hp, rfl, hr2, hx2, hrg, hkp⟩ := hrel
              have X2H : Hid (∀ j, j < p → X2[j]? = some (.int .i64 (-5))) := hx2
              have RG : Hid (wr.ownsRow w3.heap.size 3 1 (.slice (some ⟨gg, 0, none⟩) (A.length + 3) cg) (A.length + 3) XG) := hrg
              clear hx2 hrg
              by_cases hlt : p < A.length
              · have hlt' : (p : Int) < A.length := by omega
                obtain ⟨g2, rfl, hg2b, hg2l⟩ := row_some hr2 (by omega)
                have hX2l : X2.length = A.length := by have := hr2.1; omega
                obtain ⟨u0, hu0⟩ : ∃ u0, X2[p]? = some u0 := ⟨_, List.getElem?_eq_getElem (by omega)⟩
                have hc : wr.cell? ⟨g2, p, none⟩ = some u0 := by rw [hr2.cellAt p (by omega)]; exact hu0
                have hfz := hr2.frozenAt p
                have hst := hr2.stored p (.int .i64 (-5))
                have g2ne := HNE.out g2 rfl
                have KEEP : Hid (∃ (X2 : List Value), (wr.setCell ⟨g2, p, none⟩ (.int .i64 (-5))).ownsRow w4.heap.size 3 1 (.slice (some ⟨g2, 0, none⟩) A.length c2) A.length X2 ∧ (∀ j, j < p + 1 → X2[j]? = some (.int .i64 (-5))) ∧ (wr.setCell ⟨g2, p, none⟩ (.int .i64 (-5))).ownsRow w3.heap.size 3 1 (.slice (some ⟨gg, 0, none⟩) (A.length + 3) cg) (A.length + 3) XG ∧ Kp w vw A B0 w2.heap.size g3 k3 n w3.heap.size T (wr.setCell ⟨g2, p, none⟩ (.int .i64 (-5)))) := by
                  refine ⟨_, hst.1, fun j hj => ?_, World.ownsRow.kept RG.out hst.2 (.inr fun e => g2ne (Option.some.inj e).symm), hkp.grown hst.2 (fun k hk => by cases hk; omega)⟩
                  by_cases hjp : j = p
                  · subst hjp; rw [List.getElem?_set_self (by omega)]
                  · rw [List.getElem?_set_ne (by omega)]; exact X2H.out j (by omega)
                clear hst hkp hr2 hu0 g2ne
                go_wp2_with fail
                obtain ⟨X2', k1, k2, k3', k4⟩ := KEEP.out
                exact ⟨⟨p + 1, X2', by omega, by go_num, k1, k2, k3', k4⟩, by simp only [intOf]; omega⟩
              · obtain rfl : p = A.length := by omega
                have hX2l : X2.length = A.length := by have := hr2.1; omega
                have KP : Hid (Kp w vw A B0 w2.heap.size g3 k3 n w3.heap.size T wr) := hkp
                have hszr := hkp.sz
                have hr2lt : Hid (∀ k, (Value.slice a2 A.length c2).ownBlock = some k → w4.heap.size ≤ k ∧ k < wr.heap.size) := hr2.lt
                have H2 : Hid ((wr.alloc (.cells #[.int .i64 (-6), .int .i64 (-7), .int .i64 (-8)] 3)).ownsRow w3.heap.size 3 1 (.slice a2 A.length c2) A.length X2) := row_base (hr2.alloc _) hs4
                have STEP : Hid (∀ (w9 : World), (wr.alloc (.cells #[.int .i64 (-6), .int .i64 (-7), .int .i64 (-8)] 3)).grownBy w9 (Value.slice a2 A.length c2).ownBlock →
                    w9.ownsRow w3.heap.size 3 1 (.slice (some ⟨gg, 0, none⟩) (A.length + 3) cg) (A.length + 3) XG ∧ Kp w vw A B0 w2.heap.size g3 k3 n w3.heap.size T w9) := fun w9 hg9 => by
                  refine ⟨World.ownsRow.kept (RG.out.alloc _) hg9 (.inr fun e => HNE.out gg e.symm rfl), (KP.out.alloc _).grown hg9 (fun k hk => by have := (hr2lt.out k hk).1; omega)⟩
                clear hkp hr2
                go_wp2_with (at_builtin; refine wpList_append_lies _ rfl _ _ 42 rfl w3.heap.size 3 i0 (.int .i64 0) 1 8 Tryd.underlying42 hi hz0 hz1 hz2 rfl (by decide) _ _ _ rfl H2.out ⟨wr.heap.size, 0, none⟩ 3 3 [.int .i64 (-6), .int .i64 (-7), .int .i64 (-8)] rfl rfl (three_cells wr _ _ _ 3) (by intro u hu; simp at hu; rcases hu with rfl | rfl | rfl <;> rfl) (by decide) (by unfold maxLen; omega) (by omega) (by simp; omega) (wr.heap.size + 1) (by simp) ?_)
                intro gm cm w10 hown10 hgrow10 hor10 hlt10
                obtain ⟨hrg10, hk10⟩ := STEP.out w10 hgrow10
                obtain ⟨XM, hXM⟩ : ∃ XM, X2 ++ [Value.int .i64 (-6), .int .i64 (-7), .int .i64 (-8)] = XM := ⟨_, rfl⟩
                rw [hXM] at hown10
                have HXM : Hid ((∀ j, j < A.length → XM[j]? = some (.int .i64 (-5))) ∧ XM[A.length]? = some (.int .i64 (-6))) := by
                  refine ⟨fun j hj => ?_, ?_⟩
                  · rw [← hXM, List.getElem?_append_left (by omega)]; exact X2H.out j hj
                  · rw [← hXM, List.getElem?_append_right (by omega), hX2l, Nat.sub_self]; rfl
                have HG10 : Hid (w10.ownsRow w3.heap.size 3 1 (.slice (some ⟨gg, 0, none⟩) (A.length + 3) cg) (A.length + 3) XG) := hrg10
                have HM10 : Hid (w10.ownsRow w3.heap.size 3 1 (.slice (some ⟨gm, 0, none⟩) (A.length + 3) cm) (A.length + 3) XM) := hown10
                have HK10 : Hid (Kp w vw A B0 w2.heap.size g3 k3 n w3.heap.size T w10) := hk10
                clear hown10 hgrow10 hor10 hlt10 STEP H2 hXM hX2l X2H hrg10 hk10 KP RG HRG HR29 HK9 hr2lt
                go_wp2_with fail
                go_loopw [26, 27] (fun ov iv wx => ∃ p : Nat, p ≤ A.length ∧ ov = .bool true ∧ iv = .int .i64 p ∧ wx.heap = w10.heap ∧ Below w.heap.size w wx) (fun _ iv _ => A.length - (intOf iv).toNat)
                case atStart => exact ⟨0, by omega, rfl, rfl, rfl, HK10.out.be⟩
                case round =>
                  obtain ⟨p, hp, rfl, rfl, hh, hBx⟩ := hrel
                  have HH : Hid (wr.heap = w10.heap) := hh
                  have rg := row_heap HG10.out hh
                  have rm := row_heap HM10.out hh
                  clear hh
                  by_cases hlt : p < A.length
                  · have hlt' : (p : Int) < A.length := by omega
                    have hlt3 : (p : Int) < (A.length : Int) + 3 := by omega
                    have hc1 : wr.cell? ⟨gg, p, none⟩ = some (.int .i64 (-1)) := by rw [rg.cellAt p (by omega)]; exact HXG.out.1 p hlt
                    have hc2 : wr.cell? ⟨gm, p, none⟩ = some (.int .i64 (-5)) := by rw [rm.cellAt p (by omega)]; exact HXM.out.1 p hlt
                    clear rg rm
                    go_wp2_with fail
                    exact ⟨⟨p + 1, by omega, rfl, by go_num, HH.out, ⟨hBx.os, hBx.tape, hBx.output, hBx.size, hBx.block⟩⟩, by simp only [intOf]; omega⟩
                  · obtain rfl : p = A.length := by omega
                    have hc1 : wr.cell? ⟨gg, A.length, none⟩ = some (.int .i64 (-2)) := by rw [rg.cellAt A.length (by omega)]; exact HXG.out.2.1
                    have hc2 : wr.cell? ⟨gg, A.length + 2, none⟩ = some (.int .i64 (-4)) := by rw [rg.cellAt (A.length + 2) (by omega)]; exact HXG.out.2.2
                    have hc3 : wr.cell? ⟨gm, A.length, none⟩ = some (.int .i64 (-6)) := by rw [rm.cellAt A.length (by omega)]; exact HXM.out.2
                    have hkx := HK10.out.heap HH.out hBx
                    have hc4 : wr.cell? ⟨g3, n, none⟩ = some (.string mark) := by
                      rw [hkx.ra.cellAt n (by omega), strV, List.getElem?_map, List.getElem?_append_right (by omega), hTl, Nat.sub_self]; rfl
                    have hfz := hkx.ra.frozenAt n
                    have THIRD : Hid (∀ X : World, X.heap = w10.heap → Below w.heap.size w X → Strs (X.setCell ⟨g3, n, none⟩ (.string ⟨#[111, 116, 104, 101, 114]⟩)) g3 0 T ∧ g3 < (X.setCell ⟨g3, n, none⟩ (.string ⟨#[111, 116, 104, 101, 114]⟩)).heap.size ∧ (X.setCell ⟨g3, n, none⟩ (.string ⟨#[111, 116, 104, 101, 114]⟩)).ownsRow B0 3 1 vw A.length (intsV A) ∧ Below w.heap.size w (X.setCell ⟨g3, n, none⟩ (.string ⟨#[111, 116, 104, 101, 114]⟩))) := fun X hX hBX => by
                      have hkX := HK10.out.heap hX hBX
                      have hst := hkX.ra.stored n (.string ⟨#[111, 116, 104, 101, 114]⟩)
                      have e : (strV (T ++ [mark])).set n (.string ⟨#[111, 116, 104, 101, 114]⟩) = strV (T ++ [⟨#[111, 116, 104, 101, 114]⟩]) := by
                        unfold strV
                        rw [List.map_append, List.map_append, List.set_append_right _ _ (by simp; omega)]
                        simp [hTl]
                      rw [e] at hst
                      obtain ⟨g', k', e', _, hgl, _, _, hstr⟩ := strs_of_own hst.1 (by simp [hTl]) (by omega)
                      simp only [Value.slice.injEq, Option.some.injEq, Addr.mk.injEq, and_true, true_and] at e'
                      obtain ⟨rfl, _⟩ := e'
                      refine ⟨strs_snoc hstr, hgl, World.ownsRow.kept hkX.rw hst.2 ?_, Below.grown hkX.be hst.2 (Nat.le_trans hkX.wb hkX.sz) (fun k hk => by cases hk; exact hwg)⟩
                      cases hv : vw.ownBlock with
                      | none => exact .inl rfl
                      | some k => exact .inr fun e => by cases e; have := HVW.out _ hv; omega
                    have hA2 : (A.length : Int) + 2 < (A.length : Int) + 3 := by omega
                    have hnn3 : (n : Int) < (n : Int) + 1 := by omega
                    clear rg rm hkx
                    go_wp2_with fail
                    obtain ⟨t1, t2, t3, t4⟩ := THIRD.out wr HH.out hBx
                    refine (C27.out g3 k3 _ t1 t2).mono ?_
                    rintro e w11 ⟨hb11, v3, rfl, hr3⟩
                    have HR3 := hr3
                    have HRWf := row_below t3 hb11
                    have HBf : Below w.heap.size w w11 := t4.trans (hb11.mono t4.size)
                    have HRR : Hid (∃ B1 B2, w11.ownsRow B1 3 1 v3 A.length (intsV A) ∧ w11.ownsRow B2 3 1 vw A.length (intsV A)) := ⟨_, _, HR3, HRWf⟩
                    clear hr3 HR3 HRWf t1 t2 t3 t4 hb11 THIRD hc1 hc2 hc3 hc4 hfz
                    go_wp2_with fail
                    obtain ⟨B1, B2, q1, q2⟩ := HRR.out
                    refine (C28.out B1 B2 v3 vw _ q1 q2).mono ?_
                    rintro e w12 ⟨rfl, hh12, hb12⟩
                    have HBe : Below w.heap.size w w12 := HBf.trans (hb12.mono HBf.size)
                    clear hh12 hb12 q1 q2 HRR
                    go_wp2_with fail
                    go_ret
                    exact ⟨by simp, HBe⟩
end Go.Proofs.YtabipemlemppjaaDoor
