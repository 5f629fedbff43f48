/- The walk of SumsPatched: whatever the text and the change: true; older memory is as it was. -/
import Derived.Test.YtabipemlemppjabDoorSl
import Derived.Test.YtabipemlemppjabDoorOm
import Derived.Laws.IdiomStrings
import Derived.BigQuiet
import Derived.Deep.RegionLaw
import Derived.OwnWalk
namespace Go.Proofs.YtabipemlemppjabDoor
open Go.RowKit
set_option linter.unusedVariables false
set_option linter.unusedSimpArgs false

theorem two_cells (w : World) (x y : Value) (t : TypeId) : ∀ j u, [x, y][j]? = some u → (w.alloc (.cells #[x, y] t)).cell? ((⟨w.heap.size, 0, none⟩ : Addr).add j) = some u := by
  intro j u hj
  match j, hj with
  | 0, hj => simp at hj; subst hj; simp [Addr.add]
  | 1, hj => simp at hj; subst hj; simp [Addr.add]
  | j + 2, hj => simp at hj
theorem conv_two (w : World) (a b : UInt8) : (convert 24 9 (.slice (some ⟨w.heap.size, 0, none⟩) 2 2)).run Tryd.prog (w.alloc (.cells #[.int .u8 (a.toNat : Int), .int .u8 (b.toNat : Int)] 5)) = .ok (.string ⟨#[a, b]⟩) (w.alloc (.cells #[.int .u8 (a.toNat : Int), .int .u8 (b.toNat : Int)] 5)) := by
  refine run_convert_bytes_back (P := Tryd.prog) _ 24 9 5 ⟨w.heap.size, 0, none⟩ 2 [a, b] Tryd.underlying24 Tryd.underlying5 Tryd.underlying9 (fun j hj => ?_)
  exact two_cells w _ _ 5 j _ (by match j, hj with | 0, _ => rfl | 1, _ => rfl)
theorem ext_list (s : ByteArray) (i j : Nat) : (s.extract i j).data.toList = (s.data.toList.take j).drop i := by
  simp [ByteArray.data_extract, List.take_drop]
  by_cases h : i ≤ j
  · congr 2; omega
  · rw [show j - i = 0 by omega]; simp; omega
theorem app_list (a b : ByteArray) : (a ++ b).data.toList = a.data.toList ++ b.data.toList := by
  simp [ByteArray.data_append]

theorem info5 : (Tryd.prog.info? 5).map (fun i => (i.zero, i.size, i.bytes)) = some (some (.int .u8 0), 1, 1) := by kernel_rfl
def cells8 (l : List UInt8) : List Value := l.map fun b => Value.int .u8 (b.toNat : Int)
theorem cells8_length (l : List UInt8) : (cells8 l).length = l.length := by simp [cells8]
theorem swapL_snoc : ∀ (l : List UInt8) (x y : UInt8), l.length % 2 = 0 → swapL (l ++ [x, y]) = swapL l ++ [y, x]
  | [], _, _, _ => rfl
  | [_], _, _, h => by simp at h
  | a :: b :: r, x, y, h => by simp only [List.cons_append, swapL]; rw [swapL_snoc r x y (by simp at h; omega)]
theorem step_append_own {P : Program} {ops : Array Oper} {o : Oper} {a : Act} {w : World} {K : Act → World → Prop} {Q : Exit → Act → World → Prop} {E : Prop}
    (hg : o.guard = none) (s x : Operand) (t : TypeId) (hop : o.op = Op.call { callee := Callee.builtin Builtin.append, args := #[s, x], argTypes := #[t, t] })
    (base : Nat) (e : TypeId) (i : TypeInfo) (z : Value) (size bytes : Nat) (ht : P.underlying t = some (.slice e)) (hi : P.info? e = some i) (hz : i.zero = some z) (hsize : i.size = size) (hby : i.bytes = bytes) (hzs : z.cells.size = size) (hsz : 0 < size)
    (v : Value) (n : Nat) (xs : List Value) (hs : a.eval s = v) (hown : w.ownsRow base e size v n xs)
    (ad : Addr) (m c : Nat) (news : List Value) (hx : a.eval x = .slice (some ad) m c) (hl : news.length = m * size) (hnews : ∀ j u, news[j]? = some u → w.cell? (ad.add j) = some u) (h1 : ∀ u ∈ news, u.oneCell' = true)
    (h63 : n + m ≤ maxLen) (hbytes : (n + m) * bytes ≤ 140737488355328) (hbase : base ≤ w.heap.size)
    (h : ∀ v' w', w'.ownsRow base e size v' (n + m) (xs ++ news) → w.grownBy w' v.ownBlock → K (a.put o.dst v') w') :
    if Region.wanted o (yielded ops a.tmps) = true then Oper.wp P o a w K Q else E := by
  have hw : Region.wanted o (yielded ops a.tmps) = true := by simp [Region.wanted, hg]
  rw [if_pos hw]
  exact wp_append_own w s x t hop base e i z size bytes ht hi hz hsize hby hzs hsz v n xs hs hown ad m c news hx hl hnews h1 h63 hbytes hbase fun v' w' h2 h3 _ => h v' w' h2 h3
/-- A text of one's own bytes. -/
theorem conv_own {w : World} {base n : Nat} {v : Value} {l : List UInt8} (h : w.ownsRow base 5 1 v n (cells8 l)) (hn : n = l.length) (hp : 0 < n) : (convert 24 9 v).run Tryd.prog w = .ok (.string ⟨l.toArray⟩) w := by
  obtain ⟨_, (⟨_, h0⟩ | ⟨g, kc, cur, rfl, hbg, hcur, hle, hmx, hcs, htk⟩)⟩ := h
  · omega
  subst hn
  refine run_convert_bytes_back (P := Tryd.prog) w 24 9 5 ⟨g, 0, none⟩ kc l Tryd.underlying24 Tryd.underlying5 Tryd.underlying9 (fun j hj => ?_)
  rw [show (⟨g, 0, none⟩ : Addr).add j = ⟨g, j, none⟩ by unfold Addr.add; split <;> simp_all]
  have h1 : (cur.toList.take (l.length * 1))[j]? = some (.int .u8 (l[j].toNat : Int)) := by rw [htk, cells8, List.getElem?_map, List.getElem?_eq_getElem hj]; rfl
  have h2 : cur[j]? = some (.int .u8 (l[j].toNat : Int)) := by
    rw [List.getElem?_take_of_lt (by omega)] at h1
    simpa using h1
  simp [World.cell?, hcur, h2]
theorem take_two (s : ByteArray) (p : Nat) (h : p + 1 < s.size) : s.data.toList.take (p + 2) = s.data.toList.take p ++ [s[p], s[p + 1]] := by
  have h1 : p < s.data.toList.length := by simp; omega
  have h2 : p + 1 < s.data.toList.length := by simpa using h
  rw [List.take_succ_eq_append_getElem h2, List.take_succ_eq_append_getElem h1, List.append_assoc]; rfl

theorem byte_ne (b : UInt8) : ((b.toNat : Int) != 0) = (b != 0) := by
  by_cases h : b = 0
  · subst h; rfl
  · have h1 : b.toNat ≠ 0 := fun e => h (UInt8.toNat_inj.1 (by simpa using e))
    have h2 : (b.toNat : Int) ≠ 0 := by omega
    rw [bne_iff_ne.2 h2, bne_iff_ne.2 h]
/-- Is one of the first p bytes not 0? -/
def someB (V : ByteArray) (p : Nat) : Bool := (V.data.toList.take p).any fun b => b != 0
theorem someB_succ (V : ByteArray) (p : Nat) (h : p < V.size) : someB V (p + 1) = (someB V p || V[p] != 0) := by
  unfold someB
  have h1 : p < V.data.toList.length := by simpa using h
  rw [List.take_succ_eq_append_getElem h1, List.any_append]
  simp; rfl
theorem someB_all (V : ByteArray) {p : Nat} (h : V.size ≤ p) : someB V p = V.data.toList.any fun b => b != 0 := by
  unfold someB
  rw [List.take_of_length_le (by simpa using h)]

set_option maxHeartbeats 8000000 in
set_option maxRecDepth 100000 in
theorem patched_walk (t : ByteArray) (ht : t.size ≤ 140737488351232) (at_ turn : Int) (ha0 : -9223372036854775808 ≤ at_) (ha1 : at_ ≤ 9223372036854775807) (hu0 : -9223372036854775808 ≤ turn) (hu1 : turn ≤ 9223372036854775807) (f : Nat) (hf : f ≤ 65535) (w : World) (hT : Tab w) :
    Calls Tryd.prog 4 #[.string t, .agg #[.int .i64 at_, .int .u16 f, .int .i64 turn]] w fun e w' => e = .returned (.bool true) ∧ Below w.heap.size w w' := by
  have CL : Hid (∀ w : World, Tab w → Calls Tryd.prog 6 #[] w fun e w' => e = .returned (.bool true) ∧ Below w.heap.size w w') := live_any
  have T1 : Tab (w.alloc (.cells #[.int .i64 at_, .int .u16 f, .int .i64 turn] 30)) := hT.below ((Below.refl _ _).alloc (Nat.le_refl _) _)
  have hB1 : Below w.heap.size w (w.alloc (.cells #[.int .i64 at_, .int .u16 f, .int .i64 turn] 30)) := (Below.refl _ _).alloc (Nat.le_refl _) _
  have c0 : (w.alloc (.cells #[.int .i64 at_, .int .u16 f, .int .i64 turn] 30)).cell? ⟨w.heap.size, 0, none⟩ = some (.int .i64 at_) := by simp
  have c1 : (w.alloc (.cells #[.int .i64 at_, .int .u16 f, .int .i64 turn] 30)).cell? ⟨w.heap.size, 1, none⟩ = some (.int .u16 f) := by simp
  have c2 : (w.alloc (.cells #[.int .i64 at_, .int .u16 f, .int .i64 turn] 30)).cell? ⟨w.heap.size, 2, none⟩ = some (.int .i64 turn) := by simp
  have hz : w.heap.size < (w.alloc (.cells #[.int .i64 at_, .int .u16 f, .int .i64 turn] 30)).heap.size := by simp
  obtain ⟨N, hN⟩ : ∃ N, N = t.size / 2 := ⟨_, rfl⟩
  have eN : (t.size : Int) / 2 = (N : Int) := by omega
  have hN2 : 2 * N ≤ t.size := by omega
  have hN3 : (N : Int) ≤ 140737488351232 := by omega
  have hNb : 2 * N ≤ 140737488351232 := by omega
  have hN4 : (2 : Int) * (N : Int) ≤ (t.size : Int) := by omega
  obtain ⟨b, hb⟩ : ∃ b, t.extract 0 (2 * N) = b := ⟨_, rfl⟩
  have hbs : b.size = 2 * N := by rw [← hb]; simp [ByteArray.size_extract]; omega
  clear hN
  have hbl : b.data.toList.length = 2 * N := by simpa using hbs
  have C1 : Hid (∀ w : World, Calls Tryd.prog 8 #[.string b] w fun e w' => e = .returned (.int .u16 (onesW b.data.toList)) ∧ w' = w) := ones_any b (by omega)
  have hal := ones_le b.data.toList
  obtain ⟨L, hL⟩ : ∃ L, b.data.toList = L := ⟨_, rfl⟩
  have hLl : L.length = 2 * N := by rw [← hL]; exact hbl
  obtain ⟨a, ha⟩ : ∃ a, onesW L = a := ⟨_, rfl⟩
  rw [hL, ha] at C1 hal
  have ea1 : ((UInt8.ofNat (a / 256)).toNat : Int) = (a : Int) / 256 := by simp [UInt8.toNat_ofNat']; omega
  have ea2 : ((UInt8.ofNat (a % 256)).toNat : Int) = (a : Int) % 256 := by simp [UInt8.toNat_ofNat']
  have C2 : Hid (∀ w : World, Calls Tryd.prog 8 #[.string (b ++ ⟨#[UInt8.ofNat (a / 256), UInt8.ofNat (a % 256)]⟩)] w fun e w' => e = .returned (.int .u16 0) ∧ w' = w) := by
    show ∀ w : World, _
    intro w
    have hsz : (b ++ (⟨#[UInt8.ofNat (a / 256), UInt8.ofNat (a % 256)]⟩ : ByteArray)).size ≤ 140737488355328 := by
      rw [ByteArray.size_append]; show b.size + 2 ≤ _; omega
    have := ones_any _ hsz w
    rw [app_list, hL, show (⟨#[UInt8.ofNat (a / 256), UInt8.ofNat (a % 256)]⟩ : ByteArray).data.toList = [UInt8.ofNat (a / 256), UInt8.ofNat (a % 256)] from rfl, ones_own L (by omega) _ _ (by omega)] at this
    exact this
  have CV : Hid (∀ w : World, (convert 24 9 (.slice (some ⟨w.heap.size, 0, none⟩) 2 2)).run Tryd.prog (w.alloc (.cells #[.int .u8 ((a : Int) / 256), .int .u8 ((a : Int) % 256)] 5)) = .ok (.string ⟨#[UInt8.ofNat (a / 256), UInt8.ofNat (a % 256)]⟩) (w.alloc (.cells #[.int .u8 ((a : Int) / 256), .int .u8 ((a : Int) % 256)] 5))) := by
    show ∀ w : World, _
    intro w
    have := conv_two w (UInt8.ofNat (a / 256)) (UInt8.ofNat (a % 256))
    rw [ea1, ea2] at this
    exact this
  have HL : Hid (b.data.toList = L) := hL
  have HA : Hid (onesW L = a) := ha
  have HLL : Hid (L.length = 2 * N) := hLl
  clear hL ha hLl hbl ea1 ea2
  have hcase : (∃ τ : Nat, turn = τ) ∨ (turn < 0 ∧ ∃ τ : Nat, -(turn + 1) = τ ∧ (τ : Int) ≤ 9223372036854775807) := by
    by_cases h : turn < 0
    · exact .inr ⟨h, (-(turn + 1)).toNat, by omega, by omega⟩
    · exact .inl ⟨turn.toNat, by omega⟩
  have hcase2 : (∃ τ : Nat, at_ = τ) ∨ (at_ < 0 ∧ ∃ τ : Nat, -(at_ + 1) = τ ∧ (τ : Int) ≤ 9223372036854775807) := by
    by_cases h : at_ < 0
    · exact .inr ⟨h, (-(at_ + 1)).toNat, by omega, by omega⟩
    · exact .inl ⟨at_.toNat, by omega⟩
  obtain ⟨i0, hi, hi0, hi1, hi2⟩ := info_parts info5
  go_enter Tryd.func4, Tryd.ntmps4
  go_wp2_with fail
  generalize w.alloc (.cells #[.int .i64 at_, .int .u16 f, .int .i64 turn] 30) = W1 at *
  refine (CL.out _ T1).mono ?_
  rintro e w2 ⟨rfl, hb2⟩
  have d0 : w2.cell? ⟨w.heap.size, 0, none⟩ = some (.int .i64 at_) := by rw [hb2.cell (p := ⟨w.heap.size, 0, none⟩) hz]; exact c0
  have d1 : w2.cell? ⟨w.heap.size, 1, none⟩ = some (.int .u16 f) := by rw [hb2.cell (p := ⟨w.heap.size, 1, none⟩) hz]; exact c1
  have d2 : w2.cell? ⟨w.heap.size, 2, none⟩ = some (.int .i64 turn) := by rw [hb2.cell (p := ⟨w.heap.size, 2, none⟩) hz]; exact c2
  have hB2 : Below w.heap.size w w2 := hB1.trans (hb2.mono (by omega))
  clear c0 c1 c2 hb2 hB1 T1 hT CL hz
  go_wp2_with fail
  refine (C1.out _).mono ?_
  rintro e w3 ⟨rfl, rfl⟩
  rw [hb]
  have hV := CV.out w3
  go_wp2_with fail
  refine (C2.out _).mono ?_
  rintro e w4 ⟨rfl, rfl⟩
  have B4 : Below w.heap.size w (w3.alloc (.cells #[.int .u8 ((a : Int) / 256), .int .u8 ((a : Int) % 256)] 5)) := hB2.alloc hB2.size _
  generalize w3.alloc (.cells #[.int .u8 ((a : Int) / 256), .int .u8 ((a : Int) % 256)] 5) = W4 at *
  clear hV hB2 d0 d1 d2 C1 C2 CV
  by_cases hN0 : N = 0
  · have hL0 : L = [] := by have := HLL.out; rw [hN0] at this; exact List.length_eq_zero_iff.1 (by omega)
    have ha0 : a = 65535 := by have := HA.out; rw [hL0] at this; rw [← this]; unfold onesW; rw [sumW, fold_zero]
    subst hN0 ha0
    go_wp2
    go_ret
    exact ⟨rfl, B4⟩
  · have hN0' : (N : Int) ≠ 0 := by omega
    have hNp : (0 : Int) < (N : Int) := by omega
    have hN0b : ((N : Int) == 0) = false := by simpa using hN0
    rcases hcase with ⟨τ, rfl⟩ | ⟨hneg, τ, hτ, hτ1⟩
    all_goals
      obtain ⟨k1, hk1⟩ : ∃ k1, k1 = τ % N := ⟨_, rfl⟩
      have hk2 : k1 < N := by rw [hk1]; exact Nat.mod_lt _ (by omega)
      have e1 : (τ : Int) % (N : Int) = (k1 : Int) := by rw [hk1]; simp
      have e2 : (τ : Int).tmod (N : Int) = (k1 : Int) := by rw [Int.tmod_eq_emod_of_nonneg (by omega)]; exact e1
      clear hk1
      have C3 : Hid (∀ w : World, Calls Tryd.prog 8 #[.string (b.extract (2 * k1) (2 * N) ++ b.extract 0 (2 * k1))] w fun e w' => e = .returned (.int .u16 a) ∧ w' = w) := by
        show ∀ w : World, _
        intro w
        have hsz : (b.extract (2 * k1) (2 * N) ++ b.extract 0 (2 * k1)).size ≤ 140737488355328 := by
          rw [ByteArray.size_append, ByteArray.size_extract, ByteArray.size_extract]; omega
        have := ones_any _ hsz w
        have e3 : (L.take (2 * N)) = L := List.take_of_length_le (by have := HLL.out; omega)
        rw [app_list, ext_list, ext_list, HL.out, e3, List.drop_zero, ones_turned L (2 * k1) (by have := HLL.out; omega) (by omega) (by have := HLL.out; omega), HA.out] at this
        exact this
      have k3 : (2 : Int) * (k1 : Int) ≤ (b.size : Int) := by omega
      go_wp2
      go_quiet ((go_at_call 8; refine Calls.quiet_of_same (C3.out _)))
      go_wp2
      clear C3 e1 e2 k3 hk2 eN hN4 hN2
      try clear hneg hτ hτ1
      go_loopw [15, 16] (fun v i wr => ∃ p : Nat, i = .int .i64 p ∧ p % 2 = 0 ∧ p ≤ 2 * N ∧ wr.ownsRow w.heap.size 5 1 v p (cells8 (swapL (L.take p))) ∧ Below w.heap.size w wr) (fun _ i _ => (2 * N - intOf i).toNat)
      case atStart => exact ⟨0, rfl, rfl, by omega, World.ownsRow_nil _ _ _ _, below_drewN B4 _⟩
      case round =>
        obtain ⟨p, rfl, hp2, hp, hown, hB⟩ := hrel
        have HO : Hid (wr.ownsRow w.heap.size 5 1 u15 p (cells8 (swapL (L.take p)))) := hown
        have HW : Hid (∀ k, Value.ownBlock u15 = some k → w.heap.size ≤ k ∧ k < wr.heap.size) := hown.lt
        have hsz := hB.size
        clear hown
        by_cases hlt : p < 2 * N
        · have h1 : p < b.size := by omega
          have h2 : p + 1 < b.size := by omega
          have HT : Hid (cells8 (swapL (L.take (p + 2))) = cells8 (swapL (L.take p)) ++ [.int .u8 ((b[p + 1]).toNat : Int), .int .u8 ((b[p]).toNat : Int)]) := by
            show _ = _
            rw [← HL.out, take_two b p h2, swapL_snoc _ _ _ (by rw [List.length_take]; have := HLL.out; rw [← HL.out] at this; omega)]
            simp [cells8]
          have hb1 := (b[p]).toNat_lt
          have hb2 := (b[p + 1]).toNat_lt
          have hown1 : (wr.drew.alloc (.cells #[.int .u8 ((b[p + 1]).toNat : Int), .int .u8 ((b[p]).toNat : Int)] 5)).ownsRow w.heap.size 5 1 u15 p (cells8 (swapL (L.take p))) := World.ownsRow.alloc (w := wr.drew) HO.out _
          have HO1 : Hid ((wr.drew.alloc (.cells #[.int .u8 ((b[p + 1]).toNat : Int), .int .u8 ((b[p]).toNat : Int)] 5)).ownsRow w.heap.size 5 1 u15 p (cells8 (swapL (L.take p)))) := hown1
          clear hown1
          generalize cells8 (swapL (L.take p)) = cs at *
          have hq1 : (p : Int) + 1 < 2 * (N : Int) := by omega
          have hq2 : (p : Int) < 2 * (N : Int) := by omega
          have hq4 : (0 : Int) ≤ (p : Int) + 1 := by omega
          have hq3 : IntKind.i64.wrap ((p : Int) + 1) = (p : Int) + 1 := by rw [IntKind.wrap_i64]; omega
          go_wp2_with fail
          go_region_law (refine step_append_own rfl (.tmp 85) (.tmp 93) 24 rfl w.heap.size 5 i0 (.int .u8 0) 1 1 Tryd.underlying24 hi hi0 hi1 hi2 rfl (by decide) _ _ _ rfl HO1.out ⟨wr.heap.size, 0, none⟩ 2 2 [.int .u8 ((b[p + 1]).toNat : Int), .int .u8 ((b[p]).toNat : Int)] rfl rfl (two_cells wr.drew _ _ 5) (by intro u hu; simp at hu; rcases hu with rfl | rfl <;> rfl) (by unfold maxLen; omega) (by omega) (by simp; omega) ?_; intro v' w4 hown4 hgrow4)
          all_goals
            have B6 : Below w.heap.size w w4 := Below.grown (hB.drew.alloc hB.drew.size _) hgrow4 (by simp; omega) fun g hg => (HW.out g hg).1
            have R6 : Hid (w4.ownsRow w.heap.size 5 1 v' (p + 2) (cells8 (swapL (L.take (p + 2))))) := by show World.ownsRow _ _ _ _ _ _ _; rw [HT.out]; exact hown4
            clear hown4 hgrow4 HO HW HO1
            go_wp2
            first
              | exact ⟨⟨p + 2, rfl, by omega, by omega, R6.out, B6⟩, by simp only [intOf]; omega⟩
              | (go_roundw
                 case rel => exact ⟨p + 2, rfl, by omega, by omega, R6.out, B6⟩
                 case measure => simp only [intOf]; omega)
        · obtain rfl : p = 2 * N := by omega
          have hT2 : L.take (2 * N) = L := List.take_of_length_le (by have := HLL.out; omega)
          have hown5 := HO.out
          rw [hT2] at hown5
          have hconv := conv_own hown5 (by rw [swapL_length]; exact HLL.out.symm) (by omega)
          have C5 : Hid (∀ w : World, Calls Tryd.prog 8 #[.string ⟨(swapL L).toArray⟩] w fun e w' => e = .returned (.int .u16 ((a / 256 + a % 256 * 256 : Nat) : Int)) ∧ w' = w) := by
            show ∀ w : World, _
            intro w
            have h9 : (⟨(swapL L).toArray⟩ : ByteArray).size ≤ 140737488355328 := by
              show (swapL L).toArray.size ≤ _
              rw [List.size_toArray, swapL_length, HLL.out]; omega
            have := ones_any _ h9 w
            rw [show (⟨(swapL L).toArray⟩ : ByteArray).data.toList = swapL L from by simp, ones_swapped L (by rw [HLL.out]; omega), HA.out] at this
            exact this
          have e5 : ((a / 256 + a % 256 * 256 : Nat) : Int) = (a : Int) / 256 + (a : Int) % 256 * 256 := by omega
          rw [e5] at C5
          clear HO HW hown5 hT2 e5
          go_wp2_with fail
          refine (C5.out _).mono ?_
          rintro e w6 ⟨rfl, rfl⟩
          clear hconv C5
          rcases hcase2 with ⟨α, rfl⟩ | ⟨hneg2, α, hα, hα1⟩
          all_goals
            obtain ⟨k2, hk2⟩ : ∃ k2, k2 = α % N := ⟨_, rfl⟩
            have hk3 : k2 < N := by rw [hk2]; exact Nat.mod_lt _ (by omega)
            have e1 : (α : Int) % (N : Int) = (k2 : Int) := by rw [hk2]; simp
            have e2 : (α : Int).tmod (N : Int) = (k2 : Int) := by rw [Int.tmod_eq_emod_of_nonneg (by omega)]; exact e1
            obtain ⟨q, hq⟩ : ∃ q, q = 2 * k2 := ⟨_, rfl⟩
            have e3 : (2 : Int) * (k2 : Int) = (q : Int) := by omega
            have hqe : q % 2 = 0 := by omega
            have hq1 : (q : Int) < 2 * (N : Int) := by omega
            have hq2 : (q : Int) + 1 < 2 * (N : Int) := by omega
            have hq3 : (0 : Int) ≤ (q : Int) + 1 := by omega
            have hq4 : IntKind.i64.wrap ((q : Int) + 1) = (q : Int) + 1 := by rw [IntKind.wrap_i64]; omega
            have hq5 : q < b.size := by omega
            have hq6 : q + 1 < b.size := by omega
            have hb1 := (b[q]).toNat_lt
            have hb2 := (b[q + 1]).toNat_lt
            have hq7 : (q : Int) ≤ 2 * (N : Int) := by omega
            have hq8 : (q : Int) + 2 ≤ 2 * (N : Int) := by omega
            have hq9 : IntKind.i64.wrap ((q : Int) + 2) = (q : Int) + 2 := by rw [IntKind.wrap_i64]; omega
            have hqa : (0 : Int) ≤ (q : Int) + 2 := by omega
            have CVf : ∀ n : Nat, (convert 24 9 (.slice (some ⟨w6.heap.size, 0, none⟩) 2 2)).run Tryd.prog ((w6.drewN n).alloc (.cells #[.int .u8 ((f : Int) / 256), .int .u8 ((f : Int) % 256)] 5)) = .ok (.string ⟨#[UInt8.ofNat (f / 256), UInt8.ofNat (f % 256)]⟩) ((w6.drewN n).alloc (.cells #[.int .u8 ((f : Int) / 256), .int .u8 ((f : Int) % 256)] 5)) := fun n => by
              have := conv_two (w6.drewN n) (UInt8.ofNat (f / 256)) (UInt8.ofNat (f % 256))
              rw [show ((UInt8.ofNat (f / 256)).toNat : Int) = (f : Int) / 256 by simp [UInt8.toNat_ofNat']; omega, show ((UInt8.ofNat (f % 256)).toNat : Int) = (f : Int) % 256 by simp [UInt8.toNat_ofNat'], World.heap_drewN] at this
              exact this
            clear hk2 hq
            go_wp2
            go_quiet (fail)
            go_wp2
            go_region
            all_goals
              obtain ⟨V, hV⟩ : ∃ V, V = b.extract 0 q ++ (⟨#[UInt8.ofNat (f / 256), UInt8.ofNat (f % 256)]⟩ : ByteArray) ++ b.extract (q + 2) (2 * N) := ⟨_, rfl⟩
              have hVs : V.size = 2 * N := by rw [hV, ByteArray.size_append, ByteArray.size_append, ByteArray.size_extract, ByteArray.size_extract]; show min q b.size - 0 + 2 + _ = _; omega
              have hVl : V.data.toList = L.take q ++ [UInt8.ofNat (f / 256), UInt8.ofNat (f % 256)] ++ L.drop (q + 2) := by
                rw [hV, app_list, app_list, ext_list, ext_list, HL.out, List.drop_zero, show L.take (2 * N) = L from List.take_of_length_le (by have := HLL.out; omega)]
              have hLq : L = L.take q ++ [b[q], b[q + 1]] ++ L.drop (q + 2) := by
                have h9 := take_two b q hq6
                rw [HL.out] at h9
                rw [← h9, List.take_append_drop]
              have B7 : Below w.heap.size w ((w6.drewN (nq + 1)).alloc (.cells #[.int .u8 ((f : Int) / 256), .int .u8 ((f : Int) % 256)] 5)) := (below_drewN hB _).alloc hB.size _
              have HP : Hid (onesW V.data.toList = patchN a (256 * (b[q]).toNat + (b[q + 1]).toNat) f ∨ (someB V (2 * N) = false ∧ onesW V.data.toList = 65535)) := by
                show _ ∨ _
                have h9 := ones_patched (L.take q) (L.drop (q + 2)) (b[q]) (b[q + 1]) (UInt8.ofNat (f / 256)) (UInt8.ofNat (f % 256)) (by rw [List.length_take]; have := HLL.out; omega)
                rw [← hVl, ← hLq, HA.out, show 256 * (UInt8.ofNat (f / 256)).toNat + (UInt8.ofNat (f % 256)).toNat = f by simp [UInt8.toNat_ofNat']; omega] at h9
                rw [someB_all V (by omega)]
                exact h9
              have C6 : Hid (∀ w : World, Calls Tryd.prog 8 #[.string V] w fun e w' => e = .returned (.int .u16 (onesW V.data.toList)) ∧ w' = w) := ones_any V (by omega)
              have C7 : Hid (∀ w : World, Calls Tryd.prog 9 #[.int .u16 (a : Int), .int .u16 (256 * ((b[q]).toNat : Int) + ((b[q + 1]).toNat : Int)), .int .u16 (f : Int)] w fun e w' => e = .returned (.int .u16 (patchN a (256 * (b[q]).toNat + (b[q + 1]).toNat) f)) ∧ w' = w) := by
                show ∀ w : World, _
                intro w
                have := patch_any a (256 * (b[q]).toNat + (b[q + 1]).toNat) f hal (by omega) hf w
                rw [show ((256 * (b[q]).toNat + (b[q + 1]).toNat : Nat) : Int) = 256 * ((b[q]).toNat : Int) + ((b[q + 1]).toNat : Int) by omega] at this
                exact this
              rw [← hV]
              generalize (w6.drewN (nq + 1)).alloc (.cells #[.int .u8 ((f : Int) / 256), .int .u8 ((f : Int) % 256)] 5) = W7 at *
              generalize onesW V.data.toList = x at *
              generalize patchN a (256 * (b[q]).toNat + (b[q + 1]).toNat) f = y at *
              clear hV hVl hLq CVf hB HL HA HLL
              go_wp2
              go_loopw [21, 22] (fun s i wr => ∃ p : Nat, i = .int .i64 p ∧ p ≤ 2 * N ∧ s = .bool (someB V p) ∧ wr = W7) (fun _ i _ => (2 * N - intOf i).toNat)
              case atStart => exact ⟨0, rfl, by omega, rfl, rfl⟩
              case round =>
                obtain ⟨p, rfl, hp, rfl, rfl⟩ := hrel
                by_cases hlt : p < 2 * N
                · have h1 : p < V.size := by omega
                  have HS : Hid (someB V (p + 1) = (someB V p || V[p] != 0)) := someB_succ V p h1
                  have hb3 := (V[p]).toNat_lt
                  cases hsb : someB V p
                  · by_cases hz : V[p] = 0
                    · have hz1 : ((V[p]).toNat : Int) = 0 := by rw [hz]; rfl
                      have HZ : Hid (V[p] = 0) := hz
                      clear hz
                      go_wp2
                      exact ⟨⟨p + 1, rfl, by omega, congrArg Value.bool (by rw [HS.out, hsb, HZ.out]; rfl), trivial⟩, by simp only [intOf]; omega⟩
                    · have hz1 : ¬ ((V[p]).toNat : Int) = 0 := by intro h; apply hz; apply UInt8.toNat_inj.1; simp; omega
                      go_wp2
                      exact ⟨⟨p + 1, rfl, by omega, congrArg Value.bool (by rw [HS.out, hsb, Bool.false_or]; exact byte_ne V[p]), trivial⟩, by simp only [intOf]; omega⟩
                  · go_wp2
                    exact ⟨⟨p + 1, rfl, by omega, congrArg Value.bool (by rw [HS.out, hsb]; rfl), trivial⟩, by simp only [intOf]; omega⟩
                · obtain rfl : p = 2 * N := by omega
                  go_wp2_with fail
                  refine (C6.out _).mono ?_
                  rintro e w8 ⟨rfl, rfl⟩
                  go_wp2_with fail
                  refine (C7.out _).mono ?_
                  rintro e w9 ⟨rfl, rfl⟩
                  rcases HP.out with hxy | ⟨hs0, hx1⟩
                  · subst hxy
                    go_wp2
                    all_goals
                      go_ret
                      exact ⟨by simp, B7⟩
                  · subst hx1
                    go_wp2
                    all_goals
                      go_ret
                      exact ⟨by simp, B7⟩
end Go.Proofs.YtabipemlemppjabDoor
