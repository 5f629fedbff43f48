/- Package value's colons: the text of a number's bytes. -/
import Derived.Test.YtjkpdcgmmdimaaaDoorBd
import Derived.Deep.RegionLaw
namespace Go.Proofs.YtjkpdcgmmdimaaaDoor
open Go.RowKit
set_option linter.unusedVariables false
set_option linter.unusedSimpArgs false

/-- The text of a number's k lowest bytes: two signs each, a colon between. -/
def colN (n : Nat) : Nat → List UInt8
  | 0 => []
  | k + 1 => sgn (byteN n k / 16) :: sgn (byteN n k % 16) :: (if k = 0 then [] else 58 :: colN n k)
theorem and15 : ∀ b : Nat, b < 256 → bits BinOp.and IntKind.u8 (b : Int) 15 = ((b % 16 : Nat) : Int) := by decide +kernel
/-- Appending to a row of the call's own, as one step of a region that draws its order. -/
theorem step_append_own {P : Program} {ops : Array Oper} {o : Oper} {a : Act} {w : World} {K : Act → World → Prop} {Q : Exit → Act → World → Prop} {E : Prop}
    (hg : o.guard = none) (s x : Operand) (t : TypeId) (hop : o.op = Op.call { callee := Callee.builtin Builtin.append, args := #[s, x], argTypes := #[t, t] })
    (base : Nat) (e : TypeId) (i : TypeInfo) (z : Value) (size bytes : Nat) (ht : P.underlying t = some (.slice e)) (hi : P.info? e = some i) (hz : i.zero = some z) (hsize : i.size = size) (hby : i.bytes = bytes) (hzs : z.cells.size = size) (hsz : 0 < size)
    (v : Value) (n : Nat) (xs : List Value) (hs : a.eval s = v) (hown : w.ownsRow base e size v n xs)
    (ad : Addr) (m c : Nat) (news : List Value) (hx : a.eval x = .slice (some ad) m c) (hl : news.length = m * size) (hnews : ∀ j u, news[j]? = some u → w.cell? (ad.add j) = some u) (h1 : ∀ u ∈ news, u.oneCell' = true)
    (h63 : n + m ≤ maxLen) (hbytes : (n + m) * bytes ≤ 140737488355328) (hbase : base ≤ w.heap.size)
    (h : ∀ v' w', w'.ownsRow base e size v' (n + m) (xs ++ news) → w.grownBy w' v.ownBlock → K (a.put o.dst v') w') :
    if Region.wanted o (yielded ops a.tmps) = true then Oper.wp P o a w K Q else E := by
  have hw : Region.wanted o (yielded ops a.tmps) = true := by simp [Region.wanted, hg]
  rw [if_pos hw]
  exact wp_append_own w s x t hop base e i z size bytes ht hi hz hsize hby hzs hsz v n xs hs hown ad m c news hx hl hnews h1 h63 hbytes hbase fun v' w' h2 h3 _ => h v' w' h2 h3

theorem one_cell (w : World) (x : Value) (t : TypeId) : ∀ j u, [x][j]? = some u → (w.alloc (.cells #[x] t)).cell? ((⟨w.heap.size, 0, none⟩ : Addr).add j) = some u := by
  intro j u hj
  match j, hj with
  | 0, hj => simp at hj; subst hj; simp only [Addr.add]; exact World.cell?_alloc_at _ _ _ _ (by simp)
  | j + 1, hj => simp at hj
theorem two_cells (w : World) (x y : Value) (t : TypeId) : ∀ j u, [x, y][j]? = some u → (w.alloc (.cells #[x, y] t)).cell? ((⟨w.heap.size, 0, none⟩ : Addr).add j) = some u := by
  intro j u hj
  match j, hj with
  | 0, hj => simp at hj; subst hj; simp only [Addr.add]; exact World.cell?_alloc_at _ _ _ _ (by simp)
  | 1, hj => simp at hj; subst hj; simp only [Addr.add]; exact World.cell?_alloc_at _ _ _ _ (by simp)
  | j + 2, hj => simp at hj

set_option maxHeartbeats 2000000 in
set_option maxRecDepth 100000 in
theorem colons_any (n k : Nat) (hn : Is128 n) (hk : k ≤ 16) (hk1 : 1 ≤ k) (w : World) (hT : Tab w) : Calls Tryd.prog 59 #[B n, .int .i64 k] w fun e w' => e = .returned (.string ⟨(colN n k).toArray⟩) ∧ Below w.heap.size w w' := by
  obtain ⟨i0, hi, hz0, hz1, hz2⟩ := info_parts info5
  have HT : Hid (Tab w) := hT
  have h00 := hT.pos
  clear hT
  have N0 := Box.new w n
  have B0 : Below w.heap.size w (w.alloc (.cells #[.int .u64 (hiOf n), .int .u64 (loOf n)] 24)) := by go_grown
  go_enter Tryd.func59, Tryd.ntmps59
  go_wp2_with fail
  go_loopw [5, 6] (fun v c wr => ∃ (t : Nat) (xs : List UInt8), t ≤ k ∧ c = .int .i64 ((t : Int) - 1) ∧ Aside (xs ++ colN n t = colN n k) ∧ xs.length ≤ 3 * (k - t) ∧ wr.ownsRow (w.heap.size + 1) 5 1 v xs.length (cells8 xs) ∧ Box wr w.heap.size n ∧ Below w.heap.size w wr) (fun _ c _ => (intOf c + 1).toNat)
  case atStart => exact ⟨k, [], by omega, rfl, rfl, by simp, World.ownsRow_nil _ _ _ _, N0, B0⟩
  case round =>
    obtain ⟨t, xs, ht, rfl, A, hlen, hown, Bx, hB⟩ := hrel
    clear N0 B0
    obtain ⟨b0, b1⟩ := id Bx
    have hlt0 := Bx.lt
    rcases Nat.eq_zero_or_pos t with rfl | hpos
    · have hx : xs = colN n k := by have := A.out; simpa [colN] using this
      have hl1 : 1 ≤ xs.length := by
        rw [hx]; obtain ⟨q, rfl⟩ : ∃ q, k = q + 1 := ⟨k - 1, by omega⟩
        simp [colN]
      have hcv := conv_owned hown rfl hl1
      have HX : Hid (xs = colN n k) := hx
      clear hown hx A hl1
      go_wp2_with fail
      go_ret
      exact ⟨by rw [← HX.out]; rfl, hB⟩
    · obtain ⟨j, rfl⟩ : ∃ j, t = j + 1 := ⟨t - 1, by omega⟩
      rw [show ((j + 1 : Nat) : Int) - 1 = (j : Int) by omega]
      have hj16 : j < 16 := by omega
      have HO : Hid (wr.ownsRow (w.heap.size + 1) 5 1 u5 xs.length (cells8 xs)) := hown
      clear hown
      go_wp2_with fail
      refine (byteAt_any n j hj16 _).mono ?_
      rintro e w3 ⟨rfl, hb3⟩
      have hbt := byteN_lt n j
      obtain ⟨b, hbv⟩ : ∃ b, byteN n j = b := ⟨_, rfl⟩
      rw [hbv] at hbt ⊢
      have HBV : Hid (byteN n j = b) := hbv
      clear hbv
      have Bx3 := Bx.below hb3 Bx.lt
      have hB3 := bstep hB hb3
      have HO3 : Hid (w3.ownsRow (w.heap.size + 1) 5 1 u5 xs.length (cells8 xs)) := ownsRow_below HO.out hb3
      have hlt3 := Bx3.lt
      clear b0 b1 Bx hB hb3 HO hlt0
      obtain ⟨d1, hd1⟩ : ∃ d1, d1 = b / 16 := ⟨_, rfl⟩
      obtain ⟨d2, hd2⟩ : ∃ d2, d2 = b % 16 := ⟨_, rfl⟩
      have e1 : (b : Int) / 16 = (d1 : Int) := by omega
      have e2 : bits BinOp.and IntKind.u8 (b : Int) 15 = (d2 : Int) := by rw [and15 b hbt, hd2]
      have k1 : d1 < 16 := by omega
      have k2 : d2 < 16 := by omega
      have k1' : (d1 : Int) < 16 := by omega
      have k2' : (d2 : Int) < 16 := by omega
      have t1 : w3.cell? ⟨0, d1, none⟩ = some (.int .u8 ((sgn d1).toNat : Int)) := (HT.out.below hB3) d1 k1
      have t2 : w3.cell? ⟨0, d2, none⟩ = some (.int .u8 ((sgn d2).toNat : Int)) := (HT.out.below hB3) d2 k2
      have HD1 : Hid (d1 = b / 16) := hd1
      have HD2 : Hid (d2 = b % 16) := hd2
      clear hd1 hd2
      have HO4 : Hid ((w3.drew.alloc (.cells #[.int .u8 ((sgn d1).toNat : Int), .int .u8 ((sgn d2).toNat : Int)] 5)).ownsRow (w.heap.size + 1) 5 1 u5 xs.length (cells8 xs)) := World.ownsRow.alloc (w := w3.drew) HO3.out _
      have HL : Hid _ := HO3.out.lt
      go_wp2_with fail
      go_region_law (refine step_append_own rfl (.tmp 17) (.tmp 26) 57 rfl (w.heap.size + 1) 5 i0 (.int .u8 0) 1 1 Tryd.underlying57 hi hz0 hz1 hz2 rfl (by decide) _ _ _ rfl HO4.out ⟨w3.heap.size, 0, none⟩ 2 2 [.int .u8 ((sgn d1).toNat : Int), .int .u8 ((sgn d2).toNat : Int)] rfl rfl (two_cells w3.drew _ _ 5) (by intro u hu; simp at hu; rcases hu with rfl | rfl <;> rfl) (by unfold maxLen; omega) (by omega) (by simp; omega) ?_; intro v' w4 hown4 hgrow4)
      all_goals
        have hown5 : w4.ownsRow (w.heap.size + 1) 5 1 v' (xs ++ [sgn d1, sgn d2]).length (cells8 (xs ++ [sgn d1, sgn d2])) := by
          have e1 : (xs ++ [sgn d1, sgn d2]).length = xs.length + 2 := by simp
          have e2 : cells8 (xs ++ [sgn d1, sgn d2]) = cells8 xs ++ [.int .u8 ((sgn d1).toNat : Int), .int .u8 ((sgn d2).toNat : Int)] := by simp [cells8]
          rw [e1, e2]; exact hown4
        have Bx4 : Box w4 w.heap.size n := ⟨hgrow4.cell ((Box.past (w := w3.drew) Bx3 _).1) (fun e => by have h : w.heap.size + 1 ≤ w.heap.size := (HL.out _ e.symm).1; omega), hgrow4.cell ((Box.past (w := w3.drew) Bx3 _).2) (fun e => by have h : w.heap.size + 1 ≤ w.heap.size := (HL.out _ e.symm).1; omega)⟩
        have hB4 : Below w.heap.size w w4 := Below.grown (hB3.drew.alloc hB3.drew.size _) hgrow4 (by have := hB3.size; simp; omega) fun g hg => by have := (HL.out g hg).1; omega
        have HO5 : Hid (w4.ownsRow (w.heap.size + 1) 5 1 v' (xs ++ [sgn d1, sgn d2]).length (cells8 (xs ++ [sgn d1, sgn d2]))) := hown5
        have HL5 : Hid _ := hown5.lt
        have z4 := Bx4.lt
        have hl2 : (xs ++ [sgn d1, sgn d2]).length = xs.length + 2 := by simp
        have A2 : Aside ((xs ++ [sgn d1, sgn d2]) ++ (if j = 0 then [] else 58 :: colN n j) = colN n k) := by
          have := A.out
          rw [colN, HBV.out, ← HD1.out, ← HD2.out] at this
          rw [← this, List.append_assoc]; rfl
        clear hown4 hgrow4 hown5 t1 t2 Bx3 hB3 HO3 HO4 HL hlt3 A
        generalize xs ++ [sgn d1, sgn d2] = ys at *
        rcases Nat.eq_zero_or_pos j with rfl | hj
        · have A4 : Aside (ys ++ colN n 0 = colN n k) := A2.out
          go_wp2_with fail
          refine ⟨⟨0, ys, by omega, rfl, A4, by omega, HO5.out, Bx4, hB4⟩, by simp only [intOf]; omega⟩
        · have hj' : (0 : Int) < (j : Int) := by omega
          have HO6 : Hid ((w4.alloc (.cells #[.int .u8 58] 5)).ownsRow (w.heap.size + 1) 5 1 v' ys.length (cells8 ys)) := World.ownsRow.alloc HO5.out _
          go_wp2_with (at_builtin; refine wpList_append_own _ rfl _ _ 57 rfl (w.heap.size + 1) 5 i0 (.int .u8 0) 1 1 Tryd.underlying57 hi hz0 hz1 hz2 rfl (by decide) _ _ _ rfl HO6.out ⟨w4.heap.size, 0, none⟩ 1 1 [.int .u8 58] rfl rfl (one_cell w4 _ 5) (by intro u hu; simp at hu; subst hu; rfl) (by unfold maxLen; omega) (by omega) (by simp; omega) ?_)
          intro v6 w6 hown6 hgrow6 _
          have hown7 : w6.ownsRow (w.heap.size + 1) 5 1 v6 (ys ++ [58]).length (cells8 (ys ++ [58])) := by
            have e1 : (ys ++ [58]).length = ys.length + 1 := by simp
            have e2 : cells8 (ys ++ [58]) = cells8 ys ++ [.int .u8 58] := by simp [cells8]
            rw [e1, e2, hl2]; exact hown6
          have Bx6 : Box w6 w.heap.size n := ⟨hgrow6.cell ((Bx4.past _).1) (fun e => by have h : w.heap.size + 1 ≤ w.heap.size := (HL5.out _ e.symm).1; omega), hgrow6.cell ((Bx4.past _).2) (fun e => by have h : w.heap.size + 1 ≤ w.heap.size := (HL5.out _ e.symm).1; omega)⟩
          have hB6 : Below w.heap.size w w6 := Below.grown (hB4.alloc hB4.size _) hgrow6 (by have := hB4.size; simp; omega) fun g hg => by have := (HL5.out g hg).1; omega
          have A3 : Aside ((ys ++ [58]) ++ colN n j = colN n k) := by
            have := A2.out
            rw [if_neg (by omega)] at this
            rw [← this, List.append_assoc]; rfl
          clear hown6 hgrow6 Bx4 hB4 HO5 HO6 HL5
          go_wp2_with fail
          refine ⟨⟨j, ys ++ [58], by omega, rfl, A3, by simp; omega, hown7, Bx6, hB6⟩, by simp only [intOf]; omega⟩
end Go.Proofs.YtjkpdcgmmdimaaaDoor
