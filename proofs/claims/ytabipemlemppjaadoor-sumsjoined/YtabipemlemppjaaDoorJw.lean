/- The walk of SumsJoined. -/
import Derived.Test.YtabipemlemppjaaDoorJh
import Derived.Deep.RegionLaw
import Derived.Laws.AppendOwn
namespace Go.Proofs.YtabipemlemppjaaDoor
open Go.RowKit
set_option linter.unusedVariables false
set_option linter.unusedSimpArgs false

theorem info5b : (Tryd.prog.info? 5).map (fun i => (i.zero, i.size, i.bytes)) = some (some (.int .u8 0), 1, 1) := by kernel_rfl
def bytesV (l : List UInt8) : List Value := l.map fun b => Value.int .u8 (b.toNat : Int)
theorem bytesV_snoc (l : List UInt8) (b : UInt8) : bytesV (l ++ [b]) = bytesV l ++ [Value.int .u8 (b.toNat : Int)] := by simp [bytesV]
/-- Appending to a row of the call's own, as one step of a region that draws its order. -/
theorem step_append_own {P : Program} {ops : Array Oper} {o : Oper} {a : Act} {w : World} {K : Act → World → Prop} {Q : Exit → Act → World → Prop} {E : Prop}
    (hg : o.guard = none) (s x : Operand) (t : TypeId) (hop : o.op = Op.call { callee := Callee.builtin Builtin.append, args := #[s, x], argTypes := #[t, t] })
    (base : Nat) (e : TypeId) (i : TypeInfo) (z : Value) (size bytes : Nat) (ht : P.underlying t = some (.slice e)) (hi : P.info? e = some i) (hz : i.zero = some z) (hsize : i.size = size) (hby : i.bytes = bytes) (hzs : z.cells.size = size) (hsz : 0 < size)
    (v : Value) (n : Nat) (xs : List Value) (hs : a.eval s = v) (hown : w.ownsRow base e size v n xs)
    (ad : Addr) (m c : Nat) (news : List Value) (hx : a.eval x = .slice (some ad) m c) (hl : news.length = m * size) (hnews : ∀ j u, news[j]? = some u → w.cell? (ad.add j) = some u) (h1 : ∀ u ∈ news, u.oneCell' = true)
    (h63 : n + m ≤ maxLen) (hbytes : (n + m) * bytes ≤ 140737488355328) (hbase : base ≤ w.heap.size)
    (h : ∀ v' w', w'.ownsRow base e size v' (n + m) (xs ++ news) → w.grownBy w' v.ownBlock → K (a.put o.dst v') w') :
    if Region.wanted o (yielded ops a.tmps) = true then Oper.wp P o a w K Q else E := by
  have hw : Region.wanted o (yielded ops a.tmps) = true := by simp [Region.wanted, hg]
  rw [if_pos hw]
  exact wp_append_own w s x t hop base e i z size bytes ht hi hz hsize hby hzs hsz v n xs hs hown ad m c news hx hl hnews h1 h63 hbytes hbase fun v' w' h2 h3 _ => h v' w' h2 h3
theorem conv_own {w : World} {base : Nat} {v : Value} {l : List UInt8} (h : w.ownsRow base 5 1 v l.length (bytesV l)) (h1 : 1 ≤ l.length) : (convert 48 9 v).run Tryd.prog w = .ok (.string ⟨l.toArray⟩) w := by
  obtain ⟨_, h2⟩ := h
  rcases h2 with ⟨e, h0⟩ | ⟨g, cap, cur, rfl, _, hg, _, _, hsz, ht⟩
  · omega
  · refine run_convert_bytes_back (P := Tryd.prog) w 48 9 5 ⟨g, 0, none⟩ cap l Tryd.underlying48 Tryd.underlying5 Tryd.underlying9 (fun j hj => ?_)
    rw [show (⟨g, 0, none⟩ : Addr).add j = ⟨g, j, none⟩ by unfold Addr.add; split <;> simp_all]
    rw [cell_of_row w g j _ _ _ hg]
    have : (cur.toList.take (l.length * 1))[j]? = (bytesV l)[j]? := by rw [ht]
    rw [List.getElem?_take, if_pos (by omega)] at this
    rw [show cur[j]? = cur.toList[j]? by simp, this]
    simp [bytesV, hj]
theorem conv_nil (w : World) : (convert 48 9 (.slice none 0 0)).run Tryd.prog w = .ok (.string ⟨#[]⟩) w := by kernel_rfl
theorem conv_own' {w : World} {g cap base : Nat} {l : List UInt8} {n : Nat} (h : w.ownsRow base 5 1 (.slice (some ⟨g, 0, none⟩) n cap) n (bytesV l)) (hn : l.length = n) : (convert 48 9 (.slice (some ⟨g, 0, none⟩) n cap)).run Tryd.prog w = .ok (.string ⟨l.toArray⟩) w := by
  subst hn
  obtain ⟨_, h2⟩ := h
  rcases h2 with ⟨e, h0⟩ | ⟨g', cap', cur, e, _, hg, _, _, hsz, ht⟩
  · cases e
  · injection e with e1 e2 e3
    injection e1 with e1
    injection e1 with e1
    subst e1 e3
    refine run_convert_bytes_back (P := Tryd.prog) w 48 9 5 ⟨g, 0, none⟩ cap l Tryd.underlying48 Tryd.underlying5 Tryd.underlying9 (fun j hj => ?_)
    rw [show (⟨g, 0, none⟩ : Addr).add j = ⟨g, j, none⟩ by unfold Addr.add; split <;> simp_all]
    rw [cell_of_row w g j _ _ _ hg]
    have : (cur.toList.take (l.length * 1))[j]? = (bytesV l)[j]? := by rw [ht]
    rw [List.getElem?_take, if_pos (by omega)] at this
    rw [show cur[j]? = cur.toList[j]? by simp, this]
    simp [bytesV, hj]
theorem u8_xor (a b : UInt8) : bits .xor .u8 (a.toNat : Int) (b.toNat : Int) = ((a ^^^ b).toNat : Int) := by
  have h1 : (BitVec.ofInt 8 (a.toNat : Int)).toNat = a.toNat := by
    rw [BitVec.ofInt_natCast, BitVec.toNat_ofNat]; exact Nat.mod_eq_of_lt (UInt8.toNat_lt a)
  have h2 : (BitVec.ofInt 8 (b.toNat : Int)).toNat = b.toNat := by
    rw [BitVec.ofInt_natCast, BitVec.toNat_ofNat]; exact Nat.mod_eq_of_lt (UInt8.toNat_lt b)
  show IntKind.u8.wrap ((BitVec.ofInt 8 (a.toNat : Int) ^^^ BitVec.ofInt 8 (b.toNat : Int)).toNat : Int) = _
  rw [BitVec.toNat_xor, h1, h2, ← byte_xor]
  have h3 := UInt8.toNat_lt (a ^^^ b)
  have e : ∀ n : Int, IntKind.u8.wrap n = n % 256 := fun n => by simp [IntKind.wrap, IntKind.signed, IntKind.bits]
  rw [e]
  omega
theorem mix_len : ∀ (x y z : List UInt8), x.length = y.length → y.length = z.length → (mix3 x y z).length = x.length := by
  intro x; induction x with
  | nil => intro y z _ _; simp [mix3]
  | cons a x ih =>
    intro y z h1 h2
    cases y with
    | nil => simp at h1
    | cons b y =>
      cases z with
      | nil => simp at h2
      | cons c z => rw [mix3, List.length_cons, ih y z (by simpa using h1) (by simpa using h2), List.length_cons]
theorem sum_one (s : ByteArray) (hs : s.size ≤ 9223372036854775807) (w : World) (hT : Tab w) :
    Calls Tryd.prog 12 #[.slice (some ⟨w.heap.size, 0, none⟩) 1 1] (w.alloc (.cells #[.string s] 9)) fun e w' => e = .returned (.int .u32 ((moreC 0 s.data.toList : Nat) : Int)) ∧ w' = w.alloc (.cells #[.string s] 9) := by
  refine sum_any w.heap.size 0 1 [s] (by simp) (by simpa using hs) _ (hT.below ((Below.refl _ _).alloc (Nat.le_refl _) _)) ?_
  intro i h
  match i, h with
  | 0, _ => simp
theorem sum_two (s t : ByteArray) (hs : s.size ≤ 9223372036854775807) (ht : t.size ≤ 9223372036854775807) (w : World) (hT : Tab w) :
    Calls Tryd.prog 12 #[.slice (some ⟨w.heap.size, 0, none⟩) 2 2] (w.alloc (.cells #[.string s, .string t] 9)) fun e w' => e = .returned (.int .u32 ((moreC (moreC 0 s.data.toList) t.data.toList : Nat) : Int)) ∧ w' = w.alloc (.cells #[.string s, .string t] 9) := by
  refine sum_any w.heap.size 0 2 [s, t] (by simp) (by simpa using ⟨hs, ht⟩) _ (hT.below ((Below.refl _ _).alloc (Nat.le_refl _) _)) ?_
  intro i h
  match i, h with
  | 0, _ => simp
  | 1, _ => simp
set_option maxHeartbeats 8000000 in
set_option maxRecDepth 100000 in
theorem joined_walk (X Y Z : ByteArray) (hX : X.size ≤ 140737488351232) (hY : Y.size ≤ 140737488351232) (hZs : Z.size ≤ 140737488351232) (w : World) (hT : Tab w) (hZ : Tbz w) :
    Calls Tryd.prog 8 #[.string X, .string Y, .string Z] w fun e w' => e = .returned (.bool true) ∧ Below w.heap.size w w' := by
  obtain ⟨i0, hi0, hz0, hz1, hz2⟩ := info_parts info5b
  have HT : Hid (∀ w', Below w.heap.size w w' → Tab w') := fun w' h => hT.below h
  have HZ : Hid (∀ w', Below w.heap.size w w' → Tbz w') := fun w' h => hZ.below h
  have HT0 : Hid (Tab w) := hT
  obtain ⟨a, ha⟩ : ∃ a, moreC 0 X.data.toList = a := ⟨_, rfl⟩
  obtain ⟨b, hb⟩ : ∃ b, moreC 0 Y.data.toList = b := ⟨_, rfl⟩
  obtain ⟨c, hc⟩ : ∃ c, moreC a Y.data.toList = c := ⟨_, rfl⟩
  have la : a < 4294967296 := by rw [← ha]; exact moreC_lt _ _
  have lb : b < 4294967296 := by rw [← hb]; exact moreC_lt _ _
  have lc : c < 4294967296 := by rw [← hc]; exact moreC_lt _ _
  have C1 : Hid (∀ w, Tab w → Calls Tryd.prog 12 #[.slice (some ⟨w.heap.size, 0, none⟩) 1 1] (w.alloc (.cells #[.string X] 9)) fun e w' => e = .returned (.int .u32 (a : Int)) ∧ w' = w.alloc (.cells #[.string X] 9)) := by
    intro w h; have := sum_one X (by omega) w h; rw [ha] at this; exact this
  have C2 : Hid (∀ w, Tab w → Calls Tryd.prog 12 #[.slice (some ⟨w.heap.size, 0, none⟩) 1 1] (w.alloc (.cells #[.string Y] 9)) fun e w' => e = .returned (.int .u32 (b : Int)) ∧ w' = w.alloc (.cells #[.string Y] 9)) := by
    intro w h; have := sum_one Y (by omega) w h; rw [hb] at this; exact this
  have C3 : Hid (∀ w, Tab w → Calls Tryd.prog 12 #[.slice (some ⟨w.heap.size, 0, none⟩) 2 2] (w.alloc (.cells #[.string X, .string Y] 9)) fun e w' => e = .returned (.int .u32 (c : Int)) ∧ w' = w.alloc (.cells #[.string X, .string Y] 9)) := by
    intro w h; have := sum_two X Y (by omega) (by omega) w h; rw [ha, hc] at this; exact this
  have C4 : Hid (∀ w, Tab w → Calls Tryd.prog 12 #[.slice (some ⟨w.heap.size, 0, none⟩) 1 1] (w.alloc (.cells #[.string (X ++ Y)] 9)) fun e w' => e = .returned (.int .u32 (c : Int)) ∧ w' = w.alloc (.cells #[.string (X ++ Y)] 9)) := by
    intro w h
    have := sum_one (X ++ Y) (by rw [ByteArray.size_append]; omega) w h
    rw [show (X ++ Y).data.toList = X.data.toList ++ Y.data.toList by simp, more_append 0 (by decide), ha, hc] at this; exact this
  have C5 : Hid (∀ w, Tab w → Calls Tryd.prog 14 #[.int .u32 (a : Int), .string Y] w fun e w' => e = .returned (.int .u32 (c : Int)) ∧ w' = w) := by
    intro w h; have := more_any a la Y (by omega) w h; rw [hc] at this; exact this
  have hlY : Y.data.toList.length = Y.size := by simp
  have C6 : Hid (∀ w, Tab w → Tbz w → Calls Tryd.prog 15 #[.int .u32 (a : Int), .int .u32 (b : Int), .int .i64 (Y.size : Int)] w fun e w' => e = .returned (.tuple #[.int .u32 (c : Int), .int .i64 0]) ∧ Below w.heap.size w w') := by
    intro w h h'
    have := join_any a b la lb (Y.size : Int) (by omega) w h h'
    have e : joR a b (Y.size : Int) = (c, 0) := by
      unfold joR
      rw [if_neg (by omega), Int.toNat_natCast, ← hlY, ← hb, join_more a la, hc]
    rw [e] at this; exact this
  have C7 : Hid (∀ w, Tbz w → Calls Tryd.prog 16 #[.int .u32 (c : Int), .int .u32 (b : Int), .int .i64 (Y.size : Int)] w fun e w' => e = .returned (.tuple #[.int .u32 (a : Int), .int .i64 0]) ∧ Below w.heap.size w w') := by
    intro w h'
    have := split_any c b lc lb (Y.size : Int) (by omega) w h'
    have e : spR c b (Y.size : Int) = (a, 0) := by
      unfold spR
      rw [if_neg (by omega), Int.toNat_natCast, ← hlY, ← hb, ← hc, split_more a la]
    rw [e] at this; exact this
  clear ha hb hc hlY hT hZ
  go_enter Tryd.func8, Tryd.ntmps8
  go_wp2_with fail
  refine (live_any _ HT0.out).mono ?_
  rintro e w1 ⟨rfl, hb1⟩
  have T1 : Hid (Tab w1) := HT.out w1 hb1
  go_wp2_with fail
  refine (C1.out _ T1.out).mono ?_
  rintro e w2 ⟨rfl, e2⟩
  have hb2 := hb1.alloc hb1.size (.cells #[.string X] 9)
  rw [← e2] at hb2
  clear hb1 T1 e2
  have T2 : Hid (Tab w2) := HT.out w2 hb2
  go_wp2_with fail
  refine (C2.out _ T2.out).mono ?_
  rintro e w3 ⟨rfl, e3⟩
  have hb3 := hb2.alloc hb2.size (.cells #[.string Y] 9)
  rw [← e3] at hb3
  clear hb2 T2 e3
  have T3 : Hid (Tab w3) := HT.out w3 hb3
  go_wp2_with fail
  refine (C3.out _ T3.out).mono ?_
  rintro e w4 ⟨rfl, e4⟩
  have hb4 := hb3.alloc hb3.size (.cells #[.string X, .string Y] 9)
  rw [← e4] at hb4
  clear hb3 T3 e4
  have T4 : Hid (Tab w4) := HT.out w4 hb4
  go_wp2_with fail
  refine (C4.out _ T4.out).mono ?_
  rintro e w5 ⟨rfl, e5⟩
  have hb5 := hb4.alloc hb4.size (.cells #[.string (X ++ Y)] 9)
  rw [← e5] at hb5
  clear hb4 T4 e5
  have T5 : Hid (Tab w5) := HT.out w5 hb5
  go_wp2_with fail
  refine (C5.out _ T5.out).mono ?_
  rintro e w6 ⟨rfl, e6⟩
  obtain rfl := Eq.symm e6
  go_wp2_with fail
  refine (C6.out _ T5.out (HZ.out _ hb5)).mono ?_
  rintro e w7 ⟨rfl, hb7⟩
  have hB7 := bstep hb5 hb7
  clear hb5 hb7 T5
  go_wp2_with fail
  refine (C7.out _ (HZ.out _ hB7)).mono ?_
  rintro e w8 ⟨rfl, hb8⟩
  have hB8 := bstep hB7 hb8
  clear hB7 hb8 C1 C2 C3 C4 C5 C6 C7
  have hcase : ∃ n : Nat, n ≤ X.size ∧ n ≤ Y.size ∧ n ≤ Z.size ∧ ((X.size = n ∧ (n : Int) ≤ Y.size ∧ (n : Int) ≤ Z.size) ∨ (Y.size = n ∧ (n : Int) < X.size ∧ (n : Int) ≤ Z.size) ∨ (Z.size = n ∧ (n : Int) < X.size ∧ (n : Int) < Y.size)) := by
    by_cases h1 : X.size ≤ Y.size ∧ X.size ≤ Z.size
    · exact ⟨X.size, by omega, by omega, by omega, .inl ⟨rfl, by omega, by omega⟩⟩
    · by_cases h2 : Y.size < X.size ∧ Y.size ≤ Z.size
      · exact ⟨Y.size, by omega, by omega, by omega, .inr (.inl ⟨rfl, by omega, by omega⟩)⟩
      · exact ⟨Z.size, by omega, by omega, by omega, .inr (.inr ⟨rfl, by omega, by omega⟩)⟩
  obtain ⟨n, n1, n2, n3, hcase⟩ := hcase
  have lX : X.data.toList.length = X.size := by simp
  have lY : Y.data.toList.length = Y.size := by simp
  have lZ : Z.data.toList.length = Z.size := by simp
  have HLEN : Hid (∀ i, i ≤ n → (mix3 (X.data.toList.take i) (Y.data.toList.take i) (Z.data.toList.take i)).length = i) := fun i hi => by
    rw [mix_len _ _ _ (by simp; omega) (by simp; omega)]; simp; omega
  have HBX : Hid (∀ i (h : i < X.size), X.data.toList[i]? = some X[i]) := fun i h => by
    have := byte_at X h
    have h2 : (X.data.toList.drop i)[0]? = some X[i] := by rw [this]; rfl
    rwa [List.getElem?_drop] at h2
  have HBY : Hid (∀ i (h : i < Y.size), Y.data.toList[i]? = some Y[i]) := fun i h => by
    have := byte_at Y h
    have h2 : (Y.data.toList.drop i)[0]? = some Y[i] := by rw [this]; rfl
    rwa [List.getElem?_drop] at h2
  have HBZ : Hid (∀ i (h : i < Z.size), Z.data.toList[i]? = some Z[i]) := fun i h => by
    have := byte_at Z h
    have h2 : (Z.data.toList.drop i)[0]? = some Z[i] := by rw [this]; rfl
    rwa [List.getElem?_drop] at h2
  have take_ex : ∀ S : ByteArray, (S.extract 0 n).data.toList = S.data.toList.take n := fun S => by simp [ByteArray.data_extract]
  obtain ⟨x, hx⟩ : ∃ x, moreC 0 (X.data.toList.take n) = x := ⟨_, rfl⟩
  obtain ⟨y, hy⟩ : ∃ y, moreC 0 (Y.data.toList.take n) = y := ⟨_, rfl⟩
  obtain ⟨z, hz⟩ : ∃ z, moreC 0 (Z.data.toList.take n) = z := ⟨_, rfl⟩
  have lx : x < 4294967296 := by rw [← hx]; exact moreC_lt _ _
  have ly : y < 4294967296 := by rw [← hy]; exact moreC_lt _ _
  have lz : z < 4294967296 := by rw [← hz]; exact moreC_lt _ _
  have exy := u32_xor_nat x y lx ly
  have exz := u32_xor_nat (x ^^^ y) z (xor_lt32 lx ly) lz
  have HM : Hid (moreC 0 (mix3 (X.data.toList.take n) (Y.data.toList.take n) (Z.data.toList.take n)) = (x ^^^ y) ^^^ z) := by
    show _ = _; rw [more_mix _ _ _ (by simp; omega) (by simp; omega), hx, hy, hz]
  have D1 : Hid (∀ w, Tab w → Calls Tryd.prog 12 #[.slice (some ⟨w.heap.size, 0, none⟩) 1 1] (w.alloc (.cells #[.string (X.extract 0 n)] 9)) fun e w' => e = .returned (.int .u32 (x : Int)) ∧ w' = w.alloc (.cells #[.string (X.extract 0 n)] 9)) := by
    intro w h; have := sum_one (X.extract 0 n) (by rw [ByteArray.size_extract]; omega) w h; rw [take_ex, hx] at this; exact this
  have D2 : Hid (∀ w, Tab w → Calls Tryd.prog 12 #[.slice (some ⟨w.heap.size, 0, none⟩) 1 1] (w.alloc (.cells #[.string (Y.extract 0 n)] 9)) fun e w' => e = .returned (.int .u32 (y : Int)) ∧ w' = w.alloc (.cells #[.string (Y.extract 0 n)] 9)) := by
    intro w h; have := sum_one (Y.extract 0 n) (by rw [ByteArray.size_extract]; omega) w h; rw [take_ex, hy] at this; exact this
  have D3 : Hid (∀ w, Tab w → Calls Tryd.prog 12 #[.slice (some ⟨w.heap.size, 0, none⟩) 1 1] (w.alloc (.cells #[.string (Z.extract 0 n)] 9)) fun e w' => e = .returned (.int .u32 (z : Int)) ∧ w' = w.alloc (.cells #[.string (Z.extract 0 n)] 9)) := by
    intro w h; have := sum_one (Z.extract 0 n) (by rw [ByteArray.size_extract]; omega) w h; rw [take_ex, hz] at this; exact this
  have D4 : Hid (∀ w, Tab w → Calls Tryd.prog 12 #[.slice (some ⟨w.heap.size, 0, none⟩) 1 1] (w.alloc (.cells #[.string ⟨(mix3 (X.data.toList.take n) (Y.data.toList.take n) (Z.data.toList.take n)).toArray⟩] 9)) fun e w' => e = .returned (.int .u32 (((x ^^^ y) ^^^ z : Nat) : Int)) ∧ w' = w.alloc (.cells #[.string ⟨(mix3 (X.data.toList.take n) (Y.data.toList.take n) (Z.data.toList.take n)).toArray⟩] 9)) := by
    intro w h
    have := sum_one ⟨(mix3 (X.data.toList.take n) (Y.data.toList.take n) (Z.data.toList.take n)).toArray⟩ (by show Array.size _ ≤ _; rw [List.size_toArray, HLEN.out n (Nat.le_refl _)]; omega) w h
    rw [show (⟨(mix3 (X.data.toList.take n) (Y.data.toList.take n) (Z.data.toList.take n)).toArray⟩ : ByteArray).data.toList = mix3 (X.data.toList.take n) (Y.data.toList.take n) (Z.data.toList.take n) from rfl, HM.out] at this
    exact this
  have hn47 : n ≤ 140737488351232 := by omega
  clear hx hy hz take_ex lX lY lZ lx ly lz HM
  generalize (x ^^^ y) ^^^ z = u at *
  generalize x ^^^ y = xy at *
  rcases hcase with ⟨hs, hc1, hc2⟩ | ⟨hs, hc1, hc2⟩ | ⟨hs, hc1, hc2⟩
  all_goals
    go_wp2_with fail
    all_goals
      obtain ⟨W8, hW8⟩ : ∃ W8, W8 = w8 := ⟨_, rfl⟩
      subst hW8
      go_loopw [18, 19] (fun mv iv wr => ∃ i : Nat, i ≤ n ∧ iv = .int .i64 i ∧ wr.ownsRow W8.heap.size 5 1 mv i (bytesV (mix3 (X.data.toList.take i) (Y.data.toList.take i) (Z.data.toList.take i))) ∧ Below W8.heap.size W8 wr) (fun _ iv _ => n - (intOf iv).toNat)
      case atStart => exact ⟨0, by omega, rfl, World.ownsRow_nil _ _ _ _, Below.refl _ _⟩
      case round =>
        obtain ⟨i, hi, rfl, hown, hB⟩ := hrel
        have HO : Hid (wr.ownsRow W8.heap.size 5 1 u18 i (bytesV (mix3 (X.data.toList.take i) (Y.data.toList.take i) (Z.data.toList.take i)))) := hown
        have hsz := hB.size
        by_cases hlt : i < n
        · have hlt' : (i : Int) < n := by omega
          have gX : i < X.size := by omega
          have gY : i < Y.size := by omega
          have gZ : i < Z.size := by omega
          have gX' : (i : Int) < X.size := by omega
          have gY' : (i : Int) < Y.size := by omega
          have gZ' : (i : Int) < Z.size := by omega
          have e1 := u8_xor X[i] Y[i]
          have e2 := u8_xor (X[i] ^^^ Y[i]) Z[i]
          have HS : Hid (mix3 (X.data.toList.take (i + 1)) (Y.data.toList.take (i + 1)) (Z.data.toList.take (i + 1)) = mix3 (X.data.toList.take i) (Y.data.toList.take i) (Z.data.toList.take i) ++ [(X[i] ^^^ Y[i]) ^^^ Z[i]]) := mix_snoc _ _ _ i _ _ _ (HBX.out i gX) (HBY.out i gY) (HBZ.out i gZ)
          obtain ⟨v, hv⟩ : ∃ v : UInt8, (X[i] ^^^ Y[i]) ^^^ Z[i] = v := ⟨_, rfl⟩
          obtain ⟨v1, hv1⟩ : ∃ v1 : UInt8, X[i] ^^^ Y[i] = v1 := ⟨_, rfl⟩
          rw [hv] at e2 HS
          rw [hv1] at e1 e2
          clear hv hv1 hown
          have HO4 : Hid ((wr.drew.alloc (.cells #[.int .u8 (v.toNat : Int)] 5)).ownsRow W8.heap.size 5 1 u18 i (bytesV (mix3 (X.data.toList.take i) (Y.data.toList.take i) (Z.data.toList.take i)))) := World.ownsRow.alloc (w := wr.drew) HO.out _
          go_wp2_with fail
          go_region_law (refine step_append_own rfl (.tmp 101) (.tmp 113) 48 rfl W8.heap.size 5 i0 (.int .u8 0) 1 1 Tryd.underlying48 hi0 hz0 hz1 hz2 rfl (by decide) _ _ _ rfl HO4.out ⟨wr.heap.size, 0, none⟩ 1 1 [.int .u8 (v.toNat : Int)] rfl rfl (one_cell wr.drew _ 5) (by intro u hu; simp at hu; subst hu; rfl) (by unfold maxLen; omega) (by omega) (by simp; omega) ?_; intro v6 w6 hown6 hgrow6)
          all_goals
            have hown7 : w6.ownsRow W8.heap.size 5 1 v6 (i + 1) (bytesV (mix3 (X.data.toList.take (i + 1)) (Y.data.toList.take (i + 1)) (Z.data.toList.take (i + 1)))) := by
              rw [HS.out, bytesV_snoc]; exact hown6
            have hB6 : Below W8.heap.size W8 w6 := Below.grown (hB.drew.alloc hB.drew.size _) hgrow6 (by simp; omega) fun g hg => (HO.out.lt g hg).1
            clear hown6 hgrow6 HO4
            go_wp2_with fail
            exact ⟨⟨i + 1, by omega, by go_num, hown7, hB6⟩, by simp only [intOf]; omega⟩
        · obtain rfl : i = n := by omega
          have hlt' : ¬ ((i : Int) < i) := by omega
          have hlen := HLEN.out i (Nat.le_refl _)
          obtain ⟨M, hM⟩ : ∃ M, mix3 (X.data.toList.take i) (Y.data.toList.take i) (Z.data.toList.take i) = M := ⟨_, rfl⟩
          rw [hM] at hown hlen D4
          have HM : Hid (M.length = i) := hlen
          have hBw : Below w.heap.size w wr := bstep hB8 hB
          have T8 : Hid (Tab wr) := HT.out _ hBw
          have H2 := hown
          obtain ⟨_, h2⟩ := H2
          rcases h2 with ⟨rfl, hzero⟩ | ⟨g, cap, cur, rfl, _⟩
          · have hM0 : M = [] := List.length_eq_zero_iff.1 (by rw [hlen]; exact hzero)
            subst hM0
            clear hlen hM HO hown hlt hzero
            go_wp2_with fail
            refine (D1.out _ T8.out).mono ?_
            rintro e w9 ⟨rfl, e9⟩
            have hb9 := hBw.alloc hBw.size (.cells #[.string (X.extract 0 i)] 9)
            rw [← e9] at hb9
            clear e9 T8 hBw hB
            have T9 : Hid (Tab w9) := HT.out _ hb9
            go_wp2_with fail
            refine (D2.out _ T9.out).mono ?_
            rintro e wa ⟨rfl, ea⟩
            have hba := hb9.alloc hb9.size (.cells #[.string (Y.extract 0 i)] 9)
            rw [← ea] at hba
            clear ea T9 hb9
            have TA : Hid (Tab wa) := HT.out _ hba
            go_wp2_with fail
            refine (D3.out _ TA.out).mono ?_
            rintro e wb ⟨rfl, eb⟩
            have hbb := hba.alloc hba.size (.cells #[.string (Z.extract 0 i)] 9)
            rw [← eb] at hbb
            clear eb TA hba
            have TB : Hid (Tab wb) := HT.out _ hbb
            have hcv := conv_nil wb
            go_wp2_with fail
            refine (D4.out _ TB.out).mono ?_
            rintro e wc ⟨rfl, ec⟩
            have hbc := hbb.alloc hbb.size (.cells #[.string ⟨([] : List UInt8).toArray⟩] 9)
            rw [← ec] at hbc
            clear ec TB hbb
            go_wp2
            go_ret
            exact ⟨rfl, hbc⟩
          · clear hM hlen HO hlt
            have HOW : Hid (wr.ownsRow W8.heap.size 5 1 (.slice (some ⟨g, 0, none⟩) i cap) i (bytesV M)) := hown
            clear hown
            go_wp2_with fail
            refine (D1.out _ T8.out).mono ?_
            rintro e w9 ⟨rfl, e9⟩
            have hb9 := hBw.alloc hBw.size (.cells #[.string (X.extract 0 i)] 9)
            have HO9 : Hid (w9.ownsRow W8.heap.size 5 1 (.slice (some ⟨g, 0, none⟩) i cap) i (bytesV M)) := by rw [e9]; exact HOW.out.alloc _
            rw [← e9] at hb9
            clear e9 T8 hBw hB HOW
            have T9 : Hid (Tab w9) := HT.out _ hb9
            go_wp2_with fail
            refine (D2.out _ T9.out).mono ?_
            rintro e wa ⟨rfl, ea⟩
            have hba := hb9.alloc hb9.size (.cells #[.string (Y.extract 0 i)] 9)
            have HOA : Hid (wa.ownsRow W8.heap.size 5 1 (.slice (some ⟨g, 0, none⟩) i cap) i (bytesV M)) := by rw [ea]; exact HO9.out.alloc _
            rw [← ea] at hba
            clear ea T9 hb9 HO9
            have TA : Hid (Tab wa) := HT.out _ hba
            go_wp2_with fail
            refine (D3.out _ TA.out).mono ?_
            rintro e wb ⟨rfl, eb⟩
            have hbb := hba.alloc hba.size (.cells #[.string (Z.extract 0 i)] 9)
            have HOB : Hid (wb.ownsRow W8.heap.size 5 1 (.slice (some ⟨g, 0, none⟩) i cap) i (bytesV M)) := by rw [eb]; exact HOA.out.alloc _
            rw [← eb] at hbb
            clear eb TA hba HOA
            have TB : Hid (Tab wb) := HT.out _ hbb
            have hcv := conv_own' HOB.out HM.out
            go_wp2_with fail
            refine (D4.out _ TB.out).mono ?_
            rintro e wc ⟨rfl, ec⟩
            have hbc := hbb.alloc hbb.size (.cells #[.string ⟨M.toArray⟩] 9)
            rw [← ec] at hbc
            clear ec TB hbb hcv HOB
            go_wp2
            go_ret
            exact ⟨rfl, hbc⟩
end Go.Proofs.YtabipemlemppjaaDoor
