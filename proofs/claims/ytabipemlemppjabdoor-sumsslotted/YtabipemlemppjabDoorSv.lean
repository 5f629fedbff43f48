/- The walk of SumsSlotted. -/
import Derived.Test.YtabipemlemppjabDoorSb
import Derived.BigQuiet
namespace Go.Proofs.YtabipemlemppjabDoor
open Go.RowKit Go.Maps
set_option linter.unusedVariables false
set_option linter.unusedSimpArgs false

theorem Strs.get {w : World} {b o : Nat} {l : List ByteArray} (h : Strs w b o l) {i : Nat} {s : ByteArray} (hs : l[i]? = some s) : w.cell? ⟨b, o + i, none⟩ = some (.string s) := by
  obtain ⟨hi, e⟩ := List.getElem?_eq_some_iff.1 hs
  rw [h i hi, e]

theorem row_below {w w' : World} {B e size n : Nat} {v : Value} {xs : List Value} (h : w.ownsRow B e size v n xs) (hb : Below w.heap.size w w') : w'.ownsRow B e size v n xs := by
  refine ⟨h.1, ?_⟩
  rcases h.2 with hn | ⟨g, cap, cur, rfl, h1, hg, rest⟩
  · exact .inl hn
  · refine .inr ⟨g, cap, cur, rfl, h1, ?_, rest⟩
    rw [hb.block g (Array.getElem?_eq_some_iff.1 hg).1]; exact hg
theorem bytes_ne {t u : ByteArray} (h : ¬ t = u) : ¬ t.toList = u.toList ∧ (t.toList == u.toList) = false ∧ ¬ t.data.toList = u.data.toList ∧ ¬ t.data = u.data := by
  have h1 : ¬ t.data = u.data := fun e => by
    obtain ⟨t⟩ := t; obtain ⟨u⟩ := u
    exact h (congrArg ByteArray.mk e)
  have h2 : ¬ t.data.toList = u.data.toList := fun e => h1 (Array.toList_inj.1 e)
  have h3 : ¬ t.toList = u.toList := by rw [ByteArray.toList_eq, ByteArray.toList_eq]; exact h2
  exact ⟨h3, beq_eq_false_iff_ne.2 h3, h2, h1⟩
/-- Numbers in memory. -/
def Ints (w : World) (g : Nat) (a : List Nat) : Prop := g < w.heap.size ∧ ∀ i x : Nat, a[i]? = some x → w.cell? ⟨g, i, none⟩ = some (.int .i64 (x : Int))
theorem Ints.below {w w' : World} {g : Nat} {a : List Nat} (h : Ints w g a) (hb : Below w.heap.size w w') : Ints w' g a :=
  ⟨Nat.lt_of_lt_of_le h.1 hb.size, fun i x hx => by rw [hb.cell (p := ⟨g, i, none⟩) h.1]; exact h.2 i x hx⟩
theorem ints_of_own {w : World} {B : Nat} {v : Value} {a : List Nat} (h : w.ownsRow B 3 1 v a.length (intsV a)) (hp : 0 < a.length) : ∃ g cap, v = .slice (some ⟨g, 0, none⟩) a.length cap ∧ Ints w g a := by
  rcases h.2 with ⟨rfl, h0⟩ | ⟨g, cap, cur, rfl, h1, hg, rest⟩
  · omega
  · refine ⟨g, cap, rfl, (Array.getElem?_eq_some_iff.1 hg).1, fun i x hx => ?_⟩
    have := World.ownsRow.cells h (g := g) rfl i (.int .i64 (x : Int)) (by rw [intsV, List.getElem?_map, hx]; rfl)
    rw [show (⟨g, 0, none⟩ : Addr).add i = ⟨g, i, none⟩ by unfold Addr.add; split <;> simp_all] at this
    exact this
/-- Whether a number is among the first q. -/
def amongB (b : List Nat) (x q : Nat) : Bool := decide (x ∈ b.take q)
theorem amongB_zero (b : List Nat) (x : Nat) : amongB b x 0 = false := by simp [amongB]
theorem amongB_succ {b : List Nat} {x q y : Nat} (h : b[q]? = some y) : amongB b x (q + 1) = (amongB b x q || decide (x = y)) := by
  unfold amongB
  rw [List.take_add_one, h]
  simp [List.mem_append, Bool.decide_or]
theorem amongB_all {b : List Nat} {x q : Nat} (h : x ∈ b) (hq : b.length ≤ q) : amongB b x q = true := by
  unfold amongB
  rw [List.take_of_length_le hq]; simpa using h

set_option maxHeartbeats 8000000 in
set_option maxRecDepth 100000 in
theorem slotted_walk (b o cap : Nat) (l : List ByteArray) (hl0 : 0 < l.length) (hl : l.length * 16 ≤ 140737488351232) (hls : ∀ s ∈ l, s.size ≤ 9223372036854775807) (seed : Nat) (hseed : seed < 4294967296) (m : Int) (hm1 : -9223372036854775808 ≤ m) (hm2 : m ≤ 9223372036854775807)
    (w : World) (hS : Strs w b o l) (hb : b < w.heap.size) (hT : Tab w) :
    Calls Tryd.prog 5 #[.int .u32 seed, .int .i64 m, .slice (some ⟨b, o, none⟩) l.length cap] w fun e w' => e = .returned (.bool true) ∧ Below w.heap.size w w' := by
  obtain ⟨i0, hi, hz0, hz1, hz2⟩ := info_parts info9
  have CL : Hid (∀ w : World, Tab w → Calls Tryd.prog 6 #[] w fun e w' => e = .returned (.bool true) ∧ Below w.heap.size w w') := live_any
  obtain ⟨n, hn⟩ : ∃ n : Nat, n = min l.length 400 := ⟨_, rfl⟩
  have hnl : n ≤ l.length := by omega
  have hn4 : n ≤ 400 := by omega
  have hn0 : 0 < n := by omega
  obtain ⟨T, hTd⟩ : ∃ T, T = l.take n := ⟨_, rfl⟩
  have hTl : T.length = n := by rw [hTd]; simp; omega
  have hTi : ∀ i, i < n → T[i]? = l[i]? := fun i h => by rw [hTd, List.getElem?_take_of_lt h]
  have hTr : ∀ i, i < n → T.reverse[i]? = l[n - 1 - i]? := fun i h => by rw [List.getElem?_reverse (by omega), hTl]; exact hTi _ (by omega)
  have HTI : Hid (∀ i, i < n → T[i]? = l[i]?) := hTi
  have HTR : Hid (∀ i, i < n → T.reverse[i]? = l[n - 1 - i]?) := hTr
  have HLS : Hid (∀ s ∈ T, s.size ≤ 9223372036854775807) := fun s hs => hls s (by rw [hTd] at hs; exact List.mem_of_mem_take hs)
  have HST : Hid (Strs w b o l) := hS
  have h400 : (400 < l.length ∧ n = 400) ∨ (¬ 400 < l.length ∧ n = l.length) := by omega
  clear hTi hTr hls hTd hS hn
  go_enter Tryd.func5, Tryd.ntmps5
  go_wp2_with fail
  refine (CL.out _ hT).mono ?_
  rintro e w1 ⟨rfl, hb1⟩
  rcases h400 with ⟨h400, hn'⟩ | ⟨h400, hn'⟩
  all_goals
    have HN : Hid (n = 400 ∨ n = l.length) := by first | exact Or.inl hn' | exact Or.inr hn'
    have h400' : ((400 : Int) < l.length) = (400 < l.length) := by apply propext; omega
    have HE : Hid (Below w.heap.size w w1) := hb1
    have hn'' : (n : Int) = 400 ∨ (n : Int) = l.length := by omega
    go_wp2_with fail
    first | rw [show Value.int .i64 400 = Value.int .i64 (n : Int) by rw [hn']; rfl] | rw [show Value.int .i64 (l.length : Int) = Value.int .i64 (n : Int) by rw [hn']]
    clear hn'' hn'
    go_loopw [9, 10, 11] (fun tv rv iv wr => ∃ p : Nat, p ≤ n ∧ iv = .int .i64 p ∧ TwoRows w wr T p tv rv) (fun _ _ iv _ => n - (intOf iv).toNat)
    case atStart =>
      refine ⟨0, by omega, rfl, World.ownsRow_nil _ _ _ _, World.ownsRow_nil _ _ _ _, fun g hg => by simp [Value.ownBlock] at hg, HE.out⟩
    case round =>
      obtain ⟨p, hp, rfl, hat⟩ := hrel
      have HA : Hid (TwoRows w wr T p u9 u10) := hat
      have hBr := hat.2.2.2
      have hszr := hBr.size
      clear hat
      by_cases hlt : p < n
      · have hlt' : (p : Int) < n := by omega
        obtain ⟨s, hs⟩ : ∃ s, l[p]? = some s := ⟨_, List.getElem?_eq_getElem (by omega)⟩
        obtain ⟨s2, hs2⟩ : ∃ s2, l[n - 1 - p]? = some s2 := ⟨_, List.getElem?_eq_getElem (by omega)⟩
        have hc1 : wr.cell? ⟨b, o + p, none⟩ = some (.string s) := by
          rw [hBr.cell (p := ⟨b, o + p, none⟩) hb]
          exact HST.out.get hs
        have hc2 : w.cell? ⟨b, o + (n - 1 - p), none⟩ = some (.string s2) := HST.out.get hs2
        have HS1 : Hid (T[p]? = some s) := (HTI.out p hlt).trans hs
        have HS2 : Hid (T.reverse[p]? = some s2) := (HTR.out p hlt).trans hs2
        clear hs hs2
        go_wp2_with (at_builtin; refine wpList_append_lies _ rfl _ _ 34 rfl w.heap.size 9 i0 (.string ⟨#[]⟩) 1 16 Tryd.underlying34 hi hz0 hz1 hz2 rfl (by decide) _ _ _ rfl (HA.out.1.alloc (.cells #[.string s] 9)) ⟨wr.heap.size, 0, none⟩ 1 1 [.string s] rfl rfl (one_cell wr _ 9) (by intro u hu; simp at hu; subst hu; rfl) (by decide) (by unfold maxLen; omega) (by omega) (by simp; omega) (wr.heap.size + 1) (by simp) ?_)
        intro g c w6 hown6 hgrow6 hor6 hlt6
        have hB6 : Below w.heap.size w w6 := Below.grown (hBr.alloc hBr.size _) hgrow6 (by simp; omega) fun k hk => (HA.out.1.lt k hk).1
        have HR6 : Hid (w6.ownsRow w.heap.size 9 1 u10 p (strV (T.reverse.take p))) := HA.out.step1 s hgrow6
        have hc6 : w6.cell? ⟨b, o + (n - 1 - p), none⟩ = some (.string s2) := by rw [hB6.cell (p := ⟨b, o + (n - 1 - p), none⟩) hb]; exact hc2
        have hsz6 := hB6.size
        have STEP : Hid (∀ (w8 : World) (g2 c2 : Nat), w8.ownsRow w.heap.size 9 1 (.slice (some ⟨g2, 0, none⟩) (p + 1) c2) (p + 1) (strV (T.reverse.take p) ++ [.string s2]) → (w6.alloc (.cells #[.string s2] 9)).grownBy w8 u10.ownBlock → (u10.ownBlock = some g2 ∨ g2 = w6.heap.size + 1) → TwoRows w w8 T (p + 1) (.slice (some ⟨g, 0, none⟩) (p + 1) c) (.slice (some ⟨g2, 0, none⟩) (p + 1) c2)) := fun w8 g2 c2 h1 h2 h3 => HA.out.step s s2 HS1.out HS2.out hown6 hgrow6 hor6 hlt6 h1 h2 h3
        clear hown6 hgrow6 hor6 hlt6 hc1 hc2
        have hj : ((n : Int) - 1 - p).toNat = n - 1 - p := by omega
        go_wp2_with (at_builtin; refine wpList_append_lies _ rfl _ _ 34 rfl w.heap.size 9 i0 (.string ⟨#[]⟩) 1 16 Tryd.underlying34 hi hz0 hz1 hz2 rfl (by decide) _ _ _ rfl (HR6.out.alloc (.cells #[.string s2] 9)) ⟨w6.heap.size, 0, none⟩ 1 1 [.string s2] rfl rfl (one_cell w6 _ 9) (by intro u hu; simp at hu; subst hu; rfl) (by decide) (by unfold maxLen; omega) (by omega) (by simp; omega) (w6.heap.size + 1) (by simp) ?_)
        intro g2 c2 w8 hown8 hgrow8 hor8 hlt8
        have F : Hid (TwoRows w w8 T (p + 1) (.slice (some ⟨g, 0, none⟩) (p + 1) c) (.slice (some ⟨g2, 0, none⟩) (p + 1) c2)) := STEP.out w8 g2 c2 hown8 hgrow8 hor8
        clear hown8 hgrow8 hor8 hlt8 STEP HR6 HA
        go_wp2_with fail
        exact ⟨⟨p + 1, by omega, by go_num, F.out⟩, by simp only [intOf]; omega⟩
      · obtain rfl : n = p := by omega
        have R1 : Hid (wr.ownsRow w.heap.size 9 1 u9 T.length (strV T)) := by
          have := HA.out.1
          rw [List.take_of_length_le (by omega)] at this
          rw [hTl]; exact this
        have R2 : Hid (wr.ownsRow w.heap.size 9 1 u10 T.reverse.length (strV T.reverse)) := by
          have := HA.out.2.1
          rw [List.take_of_length_le (by simp; omega)] at this
          rw [List.length_reverse, hTl]; exact this
        have hlt' : ¬ ((n : Int) < n) := by omega
        clear HA
        by_cases hm : m < 1
        · have CA : Hid (∀ (v : Value) (w : World), Calls Tryd.prog 10 #[.int .u32 seed, .int .i64 m, v] w fun e w' => e = .returned (.tuple #[.slice none 0 0, .int .i64 1]) ∧ w' = w) := fun v w => slots_arg seed m hm v w
          go_wp2_with fail
          refine (CA.out _ _).mono ?_
          rintro e w2 ⟨rfl, rfl⟩
          go_wp2_with fail
          refine (CA.out _ _).mono ?_
          rintro e w3 ⟨rfl, rfl⟩
          go_wp2_with fail
          go_ret
          exact ⟨rfl, hBr⟩
        · obtain ⟨N, rfl⟩ : ∃ N : Nat, m = N := ⟨m.toNat, by omega⟩
          have hN0 : 0 < N := by omega
          have C1 : Calls Tryd.prog 10 #[.int .u32 seed, .int .i64 N, u9] wr fun e w' => Below wr.heap.size wr w' ∧ SlEnd (slF seed N (T.map fun s => s.data.toList) [] []) N T.length wr.heap.size e w' := slots_own seed N hseed hN0 (by omega) w.heap.size u9 T (by omega) HLS.out wr R1.out
          have C2 : ∀ w2, Below wr.heap.size wr w2 → Calls Tryd.prog 10 #[.int .u32 seed, .int .i64 N, u10] w2 fun e w' => Below w2.heap.size w2 w' ∧ SlEnd (slF seed N (T.reverse.map fun s => s.data.toList) [] []) N T.reverse.length w2.heap.size e w' := fun w2 h2 => slots_own seed N hseed hN0 (by omega) w.heap.size u10 T.reverse (by simp; omega) (fun s hs => HLS.out s (by simpa using hs)) w2 (row_below R2.out h2)
          rw [List.map_reverse, List.length_reverse] at C2
          rcases slotted (seed := seed) hN0 (T.map fun s => s.data.toList) with ⟨h1, h2, h3⟩ | ⟨a, c, h1, h2, h3, h4⟩
          · rw [h1] at C1; rw [h2] at C2
            have hNn : (N : Int) < n := by rw [List.length_map] at h3; omega
            have D1 : Hid (Calls Tryd.prog 10 #[.int .u32 seed, .int .i64 N, u9] wr fun e w' => Below wr.heap.size wr w' ∧ e = .returned (.tuple #[.slice none 0 0, .int .i64 120])) := C1
            have D2 : Hid (∀ w2, Below wr.heap.size wr w2 → Calls Tryd.prog 10 #[.int .u32 seed, .int .i64 N, u10] w2 fun e w' => Below w2.heap.size w2 w' ∧ e = .returned (.tuple #[.slice none 0 0, .int .i64 120])) := C2
            clear C1 C2 h1 h2 h3 R1 R2
            go_wp2_with fail
            refine D1.out.mono ?_
            rintro e w2 ⟨hb2, rfl⟩
            go_wp2_with fail
            refine (D2.out _ hb2).mono ?_
            rintro e w3 ⟨hb3, rfl⟩
            go_wp2_with fail
            go_ret
            exact ⟨rfl, hBr.trans ((hb2.mono hszr).trans (hb3.mono (Nat.le_trans hszr hb2.size)))⟩
          · rw [h1] at C1; rw [h2] at C2
            have D1 : Hid (Calls Tryd.prog 10 #[.int .u32 seed, .int .i64 N, u9] wr fun e w' => Below wr.heap.size wr w' ∧ ∃ v, e = .returned (.tuple #[v, .int .i64 0]) ∧ w'.ownsRow wr.heap.size 3 1 v a.length (intsV a) ∧ a.length = T.length ∧ ∀ s ∈ a, s < N) := C1
            have D2 : Hid (∀ w2, Below wr.heap.size wr w2 → Calls Tryd.prog 10 #[.int .u32 seed, .int .i64 N, u10] w2 fun e w' => Below w2.heap.size w2 w' ∧ ∃ v, e = .returned (.tuple #[v, .int .i64 0]) ∧ w'.ownsRow w2.heap.size 3 1 v c.length (intsV c) ∧ c.length = T.length ∧ ∀ s ∈ c, s < N) := C2
            have H3 : Hid (∀ (i k : Nat) (x y : Nat) (t u : ByteArray), i < n → k < n → a[i]? = some x → a[k]? = some y → l[i]? = some t → l[k]? = some u → (x = y ↔ t = u)) := fun i k x y t u hi hk hx hy ht hu => by
              have e1 : (T.map fun s => s.data.toList)[i]? = some t.data.toList := by rw [List.getElem?_map, HTI.out i hi, ht]; rfl
              have e2 : (T.map fun s => s.data.toList)[k]? = some u.data.toList := by rw [List.getElem?_map, HTI.out k hk, hu]; rfl
              rw [h3 i k x y _ _ hx hy e1 e2]
              constructor
              · intro e
                obtain ⟨⟨t⟩⟩ := t
                obtain ⟨⟨u⟩⟩ := u
                simp at e; subst e; rfl
              · rintro rfl; rfl
            have H4 : Hid (∀ x ∈ a, x ∈ c) := h4
            clear C1 C2 h1 h2 h3 h4 R1 R2
            go_wp2_with fail
            refine D1.out.mono ?_
            rintro e w2 ⟨hb2, va, rfl, ha, hal, haN⟩
            obtain ⟨ga, ca, rfl, hia⟩ := ints_of_own ha (by omega)
            have HAN : Hid (∀ s ∈ a, s < N) := haN
            have HIA : Hid (Ints w2 ga a) := hia
            have hal' : a.length = n := by omega
            rw [hal']
            clear ha hia haN
            go_wp2_with fail
            refine (D2.out _ hb2).mono ?_
            rintro e w3 ⟨hb3, vc, rfl, hc, hcl, _⟩
            obtain ⟨gc, cc, rfl, hic⟩ := ints_of_own hc (by omega)
            have hcl' : c.length = n := by omega
            rw [hcl']
            have HINV : Hid (Ints w3 ga a ∧ Ints w3 gc c ∧ Below w.heap.size w w3) := ⟨HIA.out.below hb3, hic, hBr.trans ((hb2.mono hszr).trans (hb3.mono (Nat.le_trans hszr hb2.size)))⟩
            have hN1 : ¬ ((N : Int) < 1) := by omega
            clear hc hic HIA D1 D2 hb2 hb3
            go_wp2_with fail
            go_loopw [16] (fun iv wr => ∃ p : Nat, p ≤ n ∧ iv = .int .i64 p ∧ Ints wr ga a ∧ Ints wr gc c ∧ Below w.heap.size w wr) (fun iv _ => n - (intOf iv).toNat)
            case atStart => exact ⟨0, by omega, rfl, HINV.out⟩
            case round =>
              obtain ⟨p, hp, rfl, hia, hic, hBp⟩ := hrel
              by_cases hlt : p < n
              · have hlt'' : (p : Int) < n := by omega
                obtain ⟨x, hx⟩ : ∃ x, a[p]? = some x := ⟨_, List.getElem?_eq_getElem (by omega)⟩
                obtain ⟨t, ht⟩ : ∃ t, l[p]? = some t := ⟨_, List.getElem?_eq_getElem (by omega)⟩
                have hxN : x < N := HAN.out x (List.mem_of_getElem? hx)
                have HXC : Hid (x ∈ c) := H4.out x (List.mem_of_getElem? hx)
                have HP : Hid (Ints wr ga a ∧ Ints wr gc c ∧ Below w.heap.size w wr) := ⟨hia, hic, hBp⟩
                have HX : Hid (a[p]? = some x) := hx
                have HTT : Hid (l[p]? = some t) := ht
                clear hia hic hBp hx ht HINV
                go_wp2_with fail
                go_loopw [17, 18] (fun inv kv wr => ∃ q : Nat, q ≤ n ∧ kv = .int .i64 q ∧ inv = .bool (amongB c x q) ∧ Ints wr ga a ∧ Ints wr gc c ∧ Below w.heap.size w wr) (fun _ kv _ => n - (intOf kv).toNat)
                case atStart => exact ⟨0, by omega, rfl, by rw [amongB_zero], HP.out⟩
                case round =>
                  obtain ⟨q, hq, rfl, rfl, hia, hic, hBq⟩ := hrel
                  have c1 := hia.2 p x HX.out
                  have HQ : Hid (Ints wr ga a ∧ Ints wr gc c ∧ Below w.heap.size w wr) := ⟨hia, hic, hBq⟩
                  by_cases hlq : q < n
                  · have hlq'' : (q : Int) < n := by omega
                    obtain ⟨y, hy⟩ : ∃ y, a[q]? = some y := ⟨_, List.getElem?_eq_getElem (by omega)⟩
                    obtain ⟨z, hz⟩ : ∃ z, c[q]? = some z := ⟨_, List.getElem?_eq_getElem (by omega)⟩
                    obtain ⟨u, hu⟩ : ∃ u, l[q]? = some u := ⟨_, List.getElem?_eq_getElem (by omega)⟩
                    have c2 := hia.2 q y hy
                    have c3 := hic.2 q z hz
                    have c4 : wr.cell? ⟨b, o + p, none⟩ = some (.string t) := by rw [hBq.cell (p := ⟨b, o + p, none⟩) hb]; exact HST.out.get HTT.out
                    have c5 : wr.cell? ⟨b, o + q, none⟩ = some (.string u) := by rw [hBq.cell (p := ⟨b, o + q, none⟩) hb]; exact HST.out.get hu
                    have hiff := H3.out p q x y t u hlt hlq HX.out hy HTT.out hu
                    have HAS : Hid (amongB c x (q + 1) = (amongB c x q || decide (x = z))) := amongB_succ hz
                    have KEEP : Hid (∀ wr' B, wr'.heap = wr.heap → Below w.heap.size w wr' → B = (amongB c x q || decide (x = z)) → ((∃ q_1 : Nat, q_1 ≤ n ∧ Value.int .i64 ((q : Int) + 1) = .int .i64 q_1 ∧ Value.bool B = .bool (amongB c x q_1) ∧ Ints wr' ga a ∧ Ints wr' gc c ∧ Below w.heap.size w wr') ∧ n - (intOf (Value.int .i64 ((q : Int) + 1))).toNat < n - (intOf (Value.int .i64 (q : Int))).toNat)) := fun wr' B hh hB e => by
                      have hb' : Below wr.heap.size w w := Below.refl _ _
                      have hI : ∀ g a, Ints wr g a → Ints wr' g a := fun g a h => ⟨by rw [hh]; exact h.1, fun i x hx => by rw [← h.2 i x hx]; unfold World.cell?; rw [hh]⟩
                      exact ⟨⟨q + 1, by omega, by go_num, by rw [HAS.out, e], hI _ _ HQ.out.1, hI _ _ HQ.out.2.1, hB⟩, by simp only [intOf]; omega⟩
                    clear hy hz hu hia hic HAS
                    have hsplit : (x = y ∧ t = u) ∨ (¬ x = y ∧ ¬ t = u) := by
                      by_cases hxy : x = y
                      · exact .inl ⟨hxy, hiff.1 hxy⟩
                      · exact .inr ⟨hxy, fun e => hxy (hiff.2 e)⟩
                    clear hiff
                    cases hA : amongB c x q with
                    | true =>
                      rw [hA] at KEEP
                      rcases hsplit with ⟨rfl, rfl⟩ | ⟨hxy, htu⟩
                      · go_wp2_with fail
                        go_quiet (fail)
                        go_wp2_with fail
                        go_quiet (fail)
                        go_wp2_with fail
                        exact KEEP.out _ _ rfl ⟨hBq.os, hBq.tape, hBq.output, hBq.size, hBq.block⟩ rfl
                      · have hxy1 : ((x : Int) == (y : Int)) = false := beq_eq_false_iff_ne.2 (by omega)
                        have hxy2 : ¬ ((x : Int) = (y : Int)) := by omega
                        obtain ⟨htu1, htu2, htu3, htu4⟩ := bytes_ne htu
                        go_wp2_with fail
                        go_quiet (fail)
                        go_wp2_with fail
                        go_quiet (fail)
                        go_wp2_with fail
                        exact KEEP.out _ _ rfl ⟨hBq.os, hBq.tape, hBq.output, hBq.size, hBq.block⟩ rfl
                    | false =>
                      rw [hA] at KEEP
                      have hzs : x = z ∨ ¬ x = z := by omega
                      rcases hzs with rfl | hxz
                      · rcases hsplit with ⟨rfl, rfl⟩ | ⟨hxy, htu⟩
                        · go_wp2_with fail
                          go_quiet (fail)
                          go_wp2_with fail
                          go_quiet (fail)
                          go_wp2_with fail
                          exact KEEP.out _ _ rfl ⟨hBq.os, hBq.tape, hBq.output, hBq.size, hBq.block⟩ (by simp)
                        · have hxy1 : ((x : Int) == (y : Int)) = false := beq_eq_false_iff_ne.2 (by omega)
                          have hxy2 : ¬ ((x : Int) = (y : Int)) := by omega
                          obtain ⟨htu1, htu2, htu3, htu4⟩ := bytes_ne htu
                          go_wp2_with fail
                          go_quiet (fail)
                          go_wp2_with fail
                          go_quiet (fail)
                          go_wp2_with fail
                          exact KEEP.out _ _ rfl ⟨hBq.os, hBq.tape, hBq.output, hBq.size, hBq.block⟩ (by simp)
                      · have hxz1 : ((x : Int) == (z : Int)) = false := beq_eq_false_iff_ne.2 (by omega)
                        have hxz2 : ¬ ((x : Int) = (z : Int)) := by omega
                        rcases hsplit with ⟨rfl, rfl⟩ | ⟨hxy, htu⟩
                        · go_wp2_with fail
                          go_quiet (fail)
                          go_wp2_with fail
                          go_quiet (fail)
                          go_wp2_with fail
                          exact KEEP.out _ _ rfl ⟨hBq.os, hBq.tape, hBq.output, hBq.size, hBq.block⟩ (by simp [hxz])
                        · have hxy1 : ((x : Int) == (y : Int)) = false := beq_eq_false_iff_ne.2 (by omega)
                          have hxy2 : ¬ ((x : Int) = (y : Int)) := by omega
                          obtain ⟨htu1, htu2, htu3, htu4⟩ := bytes_ne htu
                          go_wp2_with fail
                          go_quiet (fail)
                          go_wp2_with fail
                          go_quiet (fail)
                          go_wp2_with fail
                          exact KEEP.out _ _ rfl ⟨hBq.os, hBq.tape, hBq.output, hBq.size, hBq.block⟩ (by simp [hxz])
                  · obtain rfl : n = q := by omega
                    have hall : amongB c x n = true := amongB_all HXC.out (by omega)
                    rw [hall]
                    have hx0 : ¬ ((x : Int) < 0) := by omega
                    have hxN' : ¬ ((N : Int) ≤ x) := by omega
                    clear hia hic hBq
                    go_wp2_with fail
                    exact ⟨⟨p + 1, by omega, by go_num, HQ.out⟩, by simp only [intOf]; omega⟩
              · have hnp : n = p := by omega
                subst hnp
                go_wp2_with fail
                go_ret
                exact ⟨rfl, hBp⟩
end Go.Proofs.YtabipemlemppjabDoor
